import PyProof.Rows.All
import Wide.All
import OpenK.AllK
import Wide.FinOn
import Lean
import PyProof.EqAt
import PyProof.EqKinds
import PyProof.TupleCall
import KE.KMinKey
import KE.KLam
import PyProof.Rows.CallKwBuiltin
import PyProof.Rows.Range3
import PyProof.Rows.SeqMore2
import PyProof.SeqI3
import KE.KSortTup
import PyProof.ZipIter
import KE.KItemsList
import KE.KDictList
import KE.KRevIter
import PyProof.Rows.SetFrom
import PyProof.EnumMake
import PyProof.EnumStmt
import PyProof.EnumFor
import KE.KTryMore
import KE.KTryOn
import KE.KSortKey
import PyProof.ListRange
import PyProof.Rows.SumAny
import PySem.Challenge.RW_tiewood_k32_refusals_of_a_keeper
set_option Elab.async false
set_option linter.all false
set_option maxRecDepth 100000
set_option maxHeartbeats 4000000
open PySem.W renaming Frag->aa,kitOne->ar,findIn->aO,nsIn->bO,mg_none_of->du,keepIn->eh,exmOne->eD,kia_one->fB,mg_of->fD,emptyDict->f9,fnOf->iD,instObj->iQ,plainGet->kb,callWith_K->lb,hasDictIn->lR,kitCls->mT,hideAll_get->nK,mroIn->oj,makesIn->oE,plainOver->pP,codeIn->pR,CodeHd->rY,InstAt->sO,OpenLaw->vF,isFn->vQ,cellsFrom_some->vR,hideAll->vU,lookIn->yd,looks_findIn->ye,plainGet_of->zr,kla_obj->A2,methodObj->Cr,specialIn->Cs,takerIn->GQ,takesIn->GS,notCls->IM,nsMap_none_of_in->LQ,kat_cons->LR,kat_yes->LS,tabObj->Ob,methodCall_KW->Oq,kas_rev->RO,of_hideAll->Tz,codeRec_of->TK,isNs_of_in->Ua,katRev->Ub,kitx_list->Ul,kitx_dict->Um,handedIn->W6,WalkO->W7,exm_one->Xu,findObj->Xv,nsOkIn->Y8,clsIn->ZY
open PySem renaming wpAny_bind->ae,Addr->ag,Value->ai,Shared->aq,wpAny_pure->av,wpAny->aK,model->aY,Str->aZ,Program->a8,sizeLine->bf,starEach->bw,mainGlobals->bx,World->bT,Around->bZ,Heap->cg,wpAny_holding->cF,rawInt->cO,wpAny_Call_Name_kw->dC,Stmt->dR,wpAny_call_entry->dZ,compareOp->eU,bootBuiltins->eV,wpAny_mono->fj,FuncData->fo,wpAny_newObj_type->fI,wpAny_callSpecial?_slot->fQ,eval->gp,Obj->gC,wpAny_attempt->iU,SetTable->i6,backTo->jg,cLine->jB,plainId_quiet->jC,wpAny_askSetting->jF,builtinLookup_eq_fast->jM,codeAny_builtin->ko,wpAny_ite_split->kq,codeAny_mono->kH,wpAny_setState_of->kI,pyNext->la,Scope->lA,Builtin->lO,wpAny_setField->lQ,wpAny_typeNameOfWhole_keyiter->mw,sysModules->mP,codeAny->mQ,tupleKind_room_in1->mR,wpAny_passesOwn->m7,NameKind->m8,wpAny_updateSeq->m9,behindInMarks->ng,wpAny_truthy_bool->og,mem_of_lookup->om,tupleKind->pE,wpAny_isInstance->pG,wpAny_setEntries_of->pT,wpAny_typeNameOf_keyiter->qm,wpAny_execs_nil->qG,holding->qH,typeLookup_type->qK,wpAny_call->qY,Pos->rD,intKind->rV,recursionLimit->rW,wpAny_dictEntries->rZ,wpAny_fieldsOf->r0,firstArgMember->r9,Arguments->sP,wpAny_rule->sQ,wpAny_loadName_local->ua,sliceBounds->ub,wpAny_specialOf->uI,binaryOp->vP,typeLookup->vS,Env->xr,foldedSetIterable->xN,sizeLine_eq->xO,wpAny_field->xP,wpAny_newList->yi,IsPair->yj,GenState->zm,wpAny_execs_cons->zq,updateSeq->zt,relayAll->zu,scanBound->zw,wpAny_Name->AZ,assignEach->A1,wpAny_nextOf_list_item->A3,letOwnedTupleGo->A9,keywordEach->DR,wpAny_newTuple->DS,ZipApart->DT,isSubtype_stop->DU,isSubtype_type->DW,codeAny_extend_loopS->DX,revObj->DY,layNew->DZ,swapsWith->Eb,inplaceOp->Ec,standAt->Ee,getMethod->Eg,BindsTo->Eh,pickOrder->Ei,seqItems?->Ej,wpAny_standAt->GX,attributeBase->GY,setsByText->IL,Sem->LC,Operator->LF,bindArgs->LG,valueAt->LH,atKey->LI,callerA->LJ,wpAny_typeOf->LM,wpAny_pyIter_slot->LN,fits_of_scanBound->LO,assign->N8,Result->Oa,frameOf->Oh,onTheHeap->Oi,IsRangeIter->On,wpAny_of_eq->Ov,Within->QG,wpAny_dictEpoch->QK,setNext->RR,Model->TB,wpAny_Expr_any->TC,pyIter->TF,wpAny_load->TH,backToKw->TJ,wpAny_newFunctionEnv_cells->TL,call_meets->TN,setField->TY,slotArgs->T7,setEntries->T8,quietNames->T9,codeAny_handlers_suite_as->Ut,call->W8,wpAny_handled->Xb,CmpOp->Xk,bindL->Xm,bindC->Xn,cellsFrom->Xo,spliced->YR,wpAny_pyNext_range_end->YS,wpAny_pyIter_rangeiter->YT,newExc->Y1,entryPlaceOf->Y7,wpAny_isTrue_Compare1->ZK,codeAny_call_function->ZM,wpAny_nextOf_list_end->ZR,wpAny_notOrdered_dict->ZT,wpAny_isOneOf_keyiter->ZU,codeAny_handlers_test->ZX
open List renaming mem_cons_of_mem->ah,length_map->aj,mem_cons_self->aw,mem_cons->ay,getElem?_eq_some_iff->aC,getElem?_eq_getElem->aD,mem_singleton->aF,getElem?_map->aG,size_toArray->aV,mem_append->a7,mem_of_getElem?->a9,mem_append_right->bp,nodup_cons->bq,map_append->br,length_append->bN,mem_map_of_mem->bR,mem_iff_getElem?->bU,mem_map->bX,length_take->cf,map_cons->cn,length_cons->cG,getElem?_eq_none->cM,take_of_length_le->cQ,map_map->cW,mem_append_left->dh,getLast?_append->di,lookup_cons->dm,length_drop->dO,lookup->dS,length_filter_le->eC,not_mem_nil->eL,mem_filter->fb,append_assoc->fq,range->fM,length->fN,getElem?_append_right->fO,filter_append->fP,count_eq_zero->gL,getElem?_append_left->ij,eq_nil_or_concat->iq,concat_eq_append->ir,getElem_mem->iG,idxOf_lt_length_iff->iI,eq_nil_of_length_eq_zero->iN,count_append->iV,nodup_append->iW,take_append_drop->jA,take_add_one->jK,ext_getElem?->jL,length_range->jN,getElem?_set_self->lN,zip_cons_cons->lP,perm_append_comm->mx,mem_of_mem_head?->mB,pairwise_map->mU,mem_range->nc,count_cons_self->ni,drop_eq_getElem_cons->oq,map_congr_left->oF,filter_sublist->oG,find?_cons->pF,mem_filterMap->pJ,getElem?_take->pK,append_of_mem->pL,getLast?_cons->pM,getElem?_cons_zero->pS,replicate->qI,drop_of_length_le->qJ,getElem?_set_ne->sg,length_nil->sJ,getElem?_drop->ue,getElem?_eq_none_iff->uK,map_take->vG,length_erase_of_mem->vI,eraseIdx_cons_succ->vV,pairwise_singleton->vW,length_pos_of_mem->xU,append_eq_nil_iff->xV,append_inj_right'->xW,append_nil->yf,of_mem_zip->yg,forIn_cons->yh,length_zip->yk,count_cons->ym,length_replicate->yG,getElem?_zipWith->yI,getElem?_toArray->yJ,nodup_nil->zC,forIn_nil->zD,pairwise_append->zE,filterMap_cons->A8,filter_eq_self->Bc,sum_cons->Cu,getElem_idxOf->CY,count_pos_iff->CZ,map_singleton->C2,perm_middle->G0,cons_append->G4,any_eq_true->G5,filter_map->JE,nodup_iff_pairwise_ne->L9,getElem?_zip_eq_some->Oc,pairwise_iff_getElem->Od,any_cons->Os,map_drop->Ot,getElem?_replicate->QH,getElem?_cons_succ->QL,map_nil->RN,pairwise_lt_range->RP,any_map->RU,length_singleton->TQ,countP_mono_left->TV,singleton_append->Uc,length_eraseIdx->Us,nodup_iff_count->Uu,drop_eq_nil_iff->Uv,getElem?_range->W9,length_reverse->Xc,length_pos_iff->Xe,forIn_toArray->Xw,take_sublist->YU,reverse_cons->YW,drop_sublist->Y9,filter_congr->Za,filter_cons->ZN,all_eq_true->ZO,countP_cons->ZP,map_snd_zip->ZQ,take_length->ZW,take_append->ZZ,nodup_range->Z0
open PySem.Heap renaming get?_push_of_some->au,lt_size->aI,get?_push_size->aL,get?_update_self->bz,get?_update_other->bW,size_push->iM,SameBut->je,size_update->rE,get?_none_of_le->zA,ExtBut->Ur
open Nat renaming le_refl->ax,ne_of_lt->aS,lt_of_lt_of_le->bc,lt_of_le_of_lt->bj,le_trans->bE,zero_le->bG,ne_of_gt->fY,lt_irrefl->gE,le_succ->gQ,lt_succ_self->ji,le_add_right->lg,le_of_lt->oi,succ_le_succ->oo,lt_succ_of_lt->qZ,le_of_not_lt->rX,mul_le_mul_right->sI,min_eq_left->yH,pow_le_pow_right->A6,add_le_add_left->Ct,le_of_eq->GR,le_succ_of_le->GT,min_eq_right->IJ,lt_trans->TR,add_comm->Ud,pow_succ->Ue,le_zero->Xg,pos_of_ne_zero->Y6
open PySem.Value renaming ref->aE,none->cI,type->eK,int->iR,builtin->lS,str->tN,bool->xq,float->Tx
open Array renaming length_toList->aW,getElem?_eq_getElem->cE,getElem?_toList->dA,getElem?_eq_some_iff->jj,getElem?_eq_none->lF,getD->uc,toList_push->DV,perm_iff_toList_perm->LL,append_assoc->W4,forIn_toList->Xa,toList_inj->Y0
open Option.some renaming inj->aX,injEq->iF
open PySem.Obj renaming mapSeq->bu,data_mapFields->d0,mapFields->kd,isFreed_of_fields->mS,cls_mapFields->vH,putSet->yl,data_mapDictKeys->A4,isFreed_of_dict->Xq
open PyProof.Rows renaming seqObj->bL,callWith_type1->dJ,IntsAre->ip,envOfC->pQ,listUpdate_at->tO,get?_update_seq->uH,listItems_at->vq,IsTup->vO,AllBare->xM,callWith_builtin1->zB,News->AY,entry_list_sort->QJ,slot_list_sort->TX,Constant_none->W5,lt_int->Xl,subscriptTail_builtinR->YV,plain_sorted->YX,entry_sorted->YY,iadd_int->ZL
open Bool renaming false_ne_true->bM,false_eq_true->cC,and_eq_true->dP,eq_iff_iff->jH,false_and->kJ,true_and->se,or_false->Ou
open PySem.NameKind renaming free->bP,cell->i5
open Option renaming map_eq_some_iff->bV,map->Bb,isSome_map->CW,isSome_iff_exists->LY,bind_eq_some_iff->Oe,bind_eq_bind->T3,isNone_some->Uq,getD_none->Xp,map_some->YQ,pure_def->Y4
open PySem.F renaming plainAttrs_list->bY,slot_list_append->dW,type_list_append->dX,plain_extend_loop->fU,slot_list_index->gI,type_list_index->ke,plainAttrs_dict->vt,slot_dict_pop->xt,type_dict_pop->xu,slot_dict_getitem->JA,args_list_index_2->JB,entry_extend_loop->JD,entry_list_index->LK
open False renaming elim->cc
open PySem.Heap.SameBut renaming update->cV
open Prod.mk renaming inj->dz,injEq->LU
open PySem.Builtin.List renaming listExtendWith->dM,listLengthHint->gv,listSameRef->hV,listUpdate->GU,listItems->GZ
open PySem.PassesOwn renaming never->d8
open PySem.PyData renaming canLayAll0->eP,eqv->fh,depthAll->fJ,canLay0->mW,depth->pY,strOk->Ox,int->Uo
open PySem.SetTable renaming below->eW,grown->ka,has->L3,orStandIn->RQ,relaid->Xd,fresh->Xr,slot->Y2,laid->Y3,fits->Y5
open Sum renaming inl->gH,inr->GP
open PySem.Str renaming ofString->gJ,empty->RK
open PySem.Builtin.SmallTypes renaming ownedTupleIsFree->iE,nextOf->lh
open PySem.Around renaming under_plainId->iJ,under->Oo,frames_deeper->RM
open Int renaming toNat_natCast->i4,pow_succ->yn,le_of_lt->TU
open True renaming intro->j9
open PySem.SeqAt.EqAt renaming int_int->km
open PySem.Calls renaming spliced_cons->lE,spliced_nil->ql,Name_function_global->LD,call_function_entry->L0,callWith_builtin->QI,evalArgs_plain->TM
open PySem.Builtin.Range renaming rangeSize->nh,rangeFitsLong->Ba,small->JC
open ForInStep renaming yield->oh
open List.Perm renaming refl->pH,cons->pI,append_left->vT
open List.cons renaming inj->qL
open PySem.SetTable.below renaming go->sd
open PySem.Builtin.Dict_items renaming ownsTuple->xQ
open PySem.SetTable.probe renaming go->xR
open PySem.EntryCells renaming newEntry->xS
open PySem.Builtin.ObjectAttr renaming bindTo->zx
open List.Sublist renaming map->zF
open PySem.Paired renaming length->AX
open PySem.W.UpdF renaming head->A5
open PySem.Builtin.Dict renaming showsAll->IK
open PySem.pickOrder renaming go->LP
open PySem.SeqAt renaming eqv_refl->LW
open List.Pairwise renaming nil->LZ
open PyProof renaming noPylong_small->N9
open PySem.readyFrames renaming eq_def->Og
open PySem.W.KasFin renaming intro->Ow
open Sum.inl renaming inj->QF
open PySem.ItemsOf renaming nil->QM
open PySem.Code renaming isFrame->RL
open PySem.Builtin.ObjectAttr.Found renaming bind->RT
open PySem.Moved renaming trans->TZ
open PyProof.Rows.IntsAre renaming int_at->Xs
open PySem.Heap.Ns renaming of_isNs->Xt
open StateT renaming run_pure->YZ
open PySem.SetTable.Met.empty renaming injEq->ZV
open PySem.Builtin.Frozenset renaming newClass->abq,updateFrom->abt,slot0->abu,addrOf->abv,sizeOf->abw
section
open PySem PySem.Spec PyProof.Rows
namespace L2
abbrev kg:=Sum Int aZ
def Ek:kg->ai->Bool
 | .inl k,v=>Value.isInt k v
 | .inr x,v=>Value.isStrOf x v
def keyH (w:bT):kg->Int
 | .inl k=>hashInt k
 | .inr x=>hashStr w x
theorem iX:∀ {k:kg}{v:ai},Ek k v=true->(∃ i t,k=gH i/\v=iR i t)\/(∃ x t,k=GP x/\v=tN x t)
 | .inl i,v,h=>by
  obtain ⟨t,e⟩:=Value.isInt_shape (k:=i) (v:=v) h
  exact .inl ⟨i,t,rfl,e⟩
 | .inr x,v,h=>by
  obtain ⟨t,e⟩:=Value.isStrOf_shape (x:=x) (v:=v) h
  exact .inr ⟨x,t,rfl,e⟩
theorem RV (i:Int) (t:Tok):Ek (.inl i) (.int i t)=true:=by simp [Ek,Value.isInt]
theorem RW (x:aZ) (t:Tok):Ek (.inr x) (.str x t)=true:=by simp [Ek,Value.isStrOf]
theorem Z1 (a b:Int):decide ((gH a:kg)=gH b)=(a == b):=by
 by_cases e:a=b
 ·subst e;simp
 ·have h:¬ (gH a:kg)=gH b:=λq=>e (QF q)
  rw [decide_eq_false h]
  exact (beq_eq_false_iff_ne.mpr e).symm
theorem Z2 (a b:aZ):decide ((GP a:kg)=GP b)=decide (a=b):=by
 by_cases e:a=b
 ·subst e;simp
 ·have h:¬ (GP a:kg)=GP b:=λq=>e (Sum.inr.inj q)
  rw [decide_eq_false h,decide_eq_false e]
theorem Z3 (a:Int) (b:aZ):decide ((gH a:kg)=GP b)=false:=decide_eq_false (λq=>nomatch q)
theorem Z4 (a:aZ) (b:Int):decide ((GP a:kg)=gH b)=false:=decide_eq_false (λq=>nomatch q)
def hJ (prog:a8) (w:bT):PySem.KeyKind prog w kg where
 is:=Ek
 hash:=keyH w
 inj:=λv a b ha hb=>by
  rcases iX ha with ⟨i,t,rfl,rfl⟩|⟨x,t,rfl,rfl⟩
  ·rcases iX hb with ⟨j,u,rfl,e⟩|⟨y,u,rfl,e⟩
   ·injection e with e1 _;rw [e1]
   ·exact nomatch e
  ·rcases iX hb with ⟨j,u,rfl,e⟩|⟨y,u,rfl,e⟩
   ·exact nomatch e
   ·injection e with e1 _;rw [e1]
 byValue:=λk v h=>by
  rcases iX h with ⟨i,t,rfl,rfl⟩|⟨x,t,rfl,rfl⟩<;>rfl
 pyHash:=λhv h=>by
  rcases iX hv with ⟨i,t,rfl,rfl⟩|⟨x,t,rfl,rfl⟩
  ·exact wpAny_pyHash_int h
  ·exact wpAny_pyHash_str h
 eqBool:=λhu hv h=>by
  rcases iX hu with ⟨i,t,rfl,rfl⟩|⟨x,t,rfl,rfl⟩
  ·rcases iX hv with ⟨j,u,rfl,rfl⟩|⟨y,u,rfl,rfl⟩
   ·rw [Z1] at h;exact wpAny_eqBool_int h
   ·rw [Z3] at h;exact SeqAt.EqAt.int_str i t y u _ _ _ _ h
  ·rcases iX hv with ⟨j,u,rfl,rfl⟩|⟨y,u,rfl,rfl⟩
   ·rw [Z4] at h;exact SeqAt.EqAt.str_int x t j u _ _ _ _ h
   ·rw [Z2] at h;exact wpAny_eqBool_str h
 «strs»:=λk x t v h=>by
  rcases iX h with ⟨i,u,rfl,e⟩|⟨y,u,rfl,e⟩
  ·exact nomatch e
  ·injection e with e1 _
   subst e1
   cases v<;>rfl
theorem Ma (prog:a8) (w:bT) (i:Int) (t:Tok):(hJ prog w).is (.inl i) (.int i t)=true:=RV i t
theorem Mb (prog:a8) (w:bT) (x:aZ) (t:Tok):(hJ prog w).is (.inr x) (.str x t)=true:=RW x t
end L2
namespace L2
inductive V where
 | non|bl (b:Bool)|int (i:Int)|str (x:aZ)|byt (b:Array UInt8)|flt (b:UInt64)|ref (a:ag)|ty (n:String)
 deriving DecidableEq
def RelV:V->ai->Prop
 | .non,u=>u=cI
 | .bl b,u=>u=xq b
 | .int i,u=>∃ t,u=iR i t
 | .str x,u=>∃ t,u=tN x t
 | .byt b,u=>∃ t,u=Value.bytes b t
 | .flt b,u=>∃ t,u=Tx b t
 | .ref a,u=>u=aE a
 | .ty n,u=>u=eK n
abbrev Vals:List V->List ai->Prop:=Paired RelV
theorem Vals.length {xs:List V}{us:List ai}(r:Vals xs us):xs.length=us.length:=AX r
theorem Vals.get:∀ {xs:List V}{us:List ai}{i:Nat}{x:V},Vals xs us->xs[i]?=some x->∃ u,us[i]?=some u/\RelV x u
 | _,_,_,_,.nil,e=>by simp at e
 | _,_,0,_,.cons r _,e=>by simp at e;subst e;exact ⟨_,rfl,r⟩
 | _,_,i+1,x,.cons _ t,e=>by
  obtain ⟨u,h1,h2⟩:=Vals.get (i:=i) (x:=x) t (by simpa using e)
  exact ⟨u,by simpa using h1,h2⟩
theorem Vals.set {x:V}{u:ai}(r:RelV x u):∀ {xs:List V}{us:List ai}(i:Nat),Vals xs us->Vals (xs.set i x) (us.set i u)
 | _,_,_,.nil=>.nil
 | _,_,0,.cons _ t=>.cons r t
 | _,_,i+1,.cons q t=>.cons q (Vals.set r i t)
theorem Vals.append:∀ {xs ys:List V}{us ws:List ai},Vals xs us->Vals ys ws->Vals (xs++ys) (us++ws)
 | _,_,_,_,.nil,s=>s
 | _,_,_,_,.cons r t,s=>.cons r (Vals.append t s)
theorem Vals.take:∀ {xs:List V}{us:List ai}(n:Nat),Vals xs us->Vals (xs.take n) (us.take n)
 | _,_,0,_=>.nil
 | _,_,_+1,.nil=>.nil
 | _,_,n+1,.cons r t=>.cons r (Vals.take n t)
theorem Vals.drop:∀ {xs:List V}{us:List ai}(n:Nat),Vals xs us->Vals (xs.drop n) (us.drop n)
 | _,_,0,r=>r
 | _,_,_+1,.nil=>.nil
 | _,_,n+1,.cons _ t=>Vals.drop n t
def xk:Option V->Option ai->Prop
 | some v,some u=>RelV v u
 | none,none=>True
 | _,_=>False
def KV {κ:Type}:List (κ×V)->List (κ×ai)->Prop:=Paired λ(p:κ×V) (q:κ×ai)=>p.1=q.1/\RelV p.2 q.2
def kV:kg->V
 | .inl i=>.int i
 | .inr x=>.str x
inductive HO where
  | lst (xs:List V)
  | tup (xs:List V)
  | dK (kvs:List (kg×V))|dT (kvs:List (List kg×V))
  | set (S:Int->Bool) (n:Nat)
  | ins (C dx:ag) (fs:List (aZ×V))
  | own (x:ag)
  | xd (fs:List (aZ×V))
  | met (f x:ag)
  | rng (lo hi:Int)
  | frz (o:gC) (u:HO)
  | tbl (ps:Array ai)
  | ext (φ:cg->Prop)
abbrev Hp:=ag->Option HO
def upd (H:Hp) (a:ag) (o:HO):Hp:=λb=>if b=a then some o else H b
theorem aM {H:Hp}{a:ag}{o:HO}:upd H a o a=some o:=by unfold upd;rw [if_pos rfl]
theorem aJ {H:Hp}{a b:ag}{o:HO}(h:b≠a):upd H a o b=H b:=by unfold upd;rw [if_neg h]
theorem jG {H:Hp}{a b:ag}{o u:HO}(h:H a=some o) (h':H b=some u) (d:o≠u:=by intro z;cases z):a≠b:=by
 intro e;subst e;rw [h] at h';exact d (aX h')
theorem aP {H:Hp}{a b:ag}{o:HO}(h:H a=some o) (h':H b=none):a≠b:=by
 intro e;subst e;rw [h] at h';cases h'
section
variable (P:a8) (w:bT)
def gK (H:Hp) (h:cg) (a:ag):HO->Prop
 | .lst xs=>xs.length<=bf/\∃ (its:List ai) (n:Nat),Vals xs its/\h.get? a=some { cls:=.type "list",data:=.seq its.toArray n }
 | .tup xs=>xs.length<=bf/\∃ its:List ai,Vals xs its/\vO h a its.toArray
 | .dK kvs=>kvs.length<=bf/\(a == mP)=false/\∃ vs,KV kvs vs/\h.DictOf (hJ P w) a vs
 | .dT kvs=>kvs.length<=bf/\(a == mP)=false/\∃ xs:List (List kg×ag×ai),
   Paired (λ(p:List kg×V) (q:List kg×ag×ai)=>p.1=q.1/\H q.2.1=some (.tup (p.1.map kV))/\RelV p.2 q.2.2) kvs xs /\
   ∃ o es ep,h.get? a=some o/\o.ExactDict/\o.data=.dict es ep/\es.toList=xs.map (entryOfKey (pE (hJ P w)))/\(xs.map (·.1)).Nodup
 | .set S n=>h.SetOf (rV P w) a S n
 | .ins C dx fs=>H dx=some (.own a)/\fs.length<=1000/\dx≠a/\h.get? a=some (iQ C dx) /\
   ∃ mA,h.Ns1 dx mA/\(∀ f,xk (fs.lookup f) (mA f))/\QG mA (fs.map (·.1))
 | .own _=>∃ o,h.get? a=some o
 | .xd fs=>∃ mA,h.Ns1 a mA/\∀ f,xk (fs.lookup f) (mA f)
 | .rng lo hi=>∃ t u v,h.get? a=some { cls:=.type "range",data:=.fields #[.int lo t,.int hi u,.int 1 v] }
 | .frz o u=>h.get? a=some o/\gK H h a u
 | .tbl ps=>h.get? a=some { cls:=.none,data:=.fields ps }
 | .met f x=>h.get? a=some (Cr (.ref f) (.ref x))
 | .ext φ=>φ h/\(∃ o,h.get? a=some o)/\∀ h1 h2:cg,φ h1->(∀ o,h1.get? a=some o->h2.get? a=some o)->φ h2
def vE (H:Hp) (h:cg):Prop:=∀ a o,H a=some o->gK P w H h a o
end
section
variable {P:a8}{w:bT}{H H':Hp}{h h':cg}{a:ag}{o:HO}
theorem gK.lt (x:gK P w H h a o):a<h.objs.size:=by
 cases o with
 | lst xs=>obtain ⟨_,_,_,_,e⟩:=x;exact aI e
 | tup xs=>obtain ⟨_,_,_,p⟩:=x;exact p.lt
 | dK kvs=>obtain ⟨_,_,_,_,o,_,_,e,_⟩:=x;exact aI e
 | dT kvs=>obtain ⟨_,_,_,_,o,_,_,e,_⟩:=x;exact aI e
 | set S n=>obtain ⟨o,_,_,_,e,_⟩:=x;exact aI e
 | ins C dx fs=>obtain ⟨_,_,_,e,_⟩:=x;exact aI e
 | own y=>obtain ⟨_,e⟩:=x;exact aI e
 | xd fs=>obtain ⟨_,⟨_,_,_,e,_⟩,_⟩:=x;exact aI e
 | rng lo hi=>obtain ⟨_,_,_,e⟩:=x;exact aI e
 | frz ob u=>obtain ⟨e,_⟩:=x;exact aI e
 | tbl ps=>exact aI (show h.get? a=some _ from x)
 | met f y=>exact aI (show h.get? a=some _ from x)
 | ext φ=>obtain ⟨_,⟨_,e⟩,_⟩:=x;exact aI e
theorem Paired.To {α β:Type} {F G:α->β->Prop}:∀ {l₁:List α} {l₂:List β},Paired F l₁ l₂->(∀ a b,F a b->G a b)->Paired G l₁ l₂
 | _,_,.nil,_=>.nil
 | _,_,.cons r t,f=>.cons (f _ _ r) (Paired.To t f)
theorem gK.yb (x:gK P w H h a o) (k:∀ b u,(b=a\/H b=some (.own a))->h.get? b=some u->h'.get? b=some u)
  (ho:∀ b,H b=some (.own a)->H' b=some (.own a)) (ht:∀ b xs,H b=some (.tup xs)->H' b=some (.tup xs)):gK P w H' h' a o:=by
 induction o with
 | lst xs=>obtain ⟨z,its,n,r,e⟩:=x;exact ⟨z,its,n,r,k _ _ (.inl rfl) e⟩
 | tup xs=>obtain ⟨z,its,r,ob,e,c⟩:=x;exact ⟨z,its,r,ob,k _ _ (.inl rfl) e,c⟩
 | dK kvs=>obtain ⟨z,y,vs,r,ob,es,ep,e,c⟩:=x;exact ⟨z,y,vs,r,ob,es,ep,k _ _ (.inl rfl) e,c⟩
 | dT kvs =>
  obtain ⟨z,y,xs,r,ob,es,ep,e,c⟩:=x
  exact ⟨z,y,xs,Paired.To r λp q z=>⟨z.1,ht _ _ z.2.1,z.2.2⟩,ob,es,ep,k _ _ (.inl rfl) e,c⟩
 | set S n=>obtain ⟨ob,es,ep,t,e,c⟩:=x;exact ⟨ob,es,ep,t,k _ _ (.inl rfl) e,c⟩
 | ins C dx fs =>
  obtain ⟨d,z,ne,e,mA,⟨od,es,ep,e2,c⟩,r⟩:=x
  exact ⟨ho _ d,z,ne,k _ _ (.inl rfl) e,mA,⟨od,es,ep,k _ _ (.inr d) e2,c⟩,r⟩
 | own y=>obtain ⟨ob,e⟩:=x;exact ⟨ob,k _ _ (.inl rfl) e⟩
 | xd fs=>obtain ⟨mA,⟨od,es,ep,e,c⟩,r⟩:=x;exact ⟨mA,⟨od,es,ep,k _ _ (.inl rfl) e,c⟩,r⟩
 | rng lo hi=>obtain ⟨t,u,v,e⟩:=x;exact ⟨t,u,v,k _ _ (.inl rfl) e⟩
 | frz ob u ih=>obtain ⟨e,q⟩:=x;exact ⟨k _ _ (.inl rfl) e,ih q⟩
 | tbl ps =>
  have e:h.get? a=some { cls:=.none,data:=.fields ps }:=x
  show h'.get? a=some { cls:=.none,data:=.fields ps }
  exact k a _ (.inl rfl) e
 | met f y =>
  have e:h.get? a=some (Cr (.ref f) (.ref y)):=x
  show h'.get? a=some (Cr (.ref f) (.ref y))
  exact k a _ (.inl rfl) e
 | ext φ=>obtain ⟨p,⟨o,e⟩,st⟩:=x;exact ⟨st _ _ p λo q=>k _ _ (.inl rfl) q,⟨o,k _ _ (.inl rfl) e⟩,st⟩
theorem vE.lt (x:vE P w H h) (e:H a=some o):a<h.objs.size:=(x a o e).lt
theorem vE.fresh (x:vE P w H h) (e:h.objs.size<=a):H a=none:=by
 cases q:H a with
 | none=>rfl
 | some u=>exact absurd (bc (x.lt q) e) (gE _)
theorem vE.kept (x:vE P w H h) (k:∀ b u,h.get? b=some u->h'.get? b=some u):vE P w H h':=λa o e =>
 (x a o e).yb (λb u _ q=>k b u q) (λ_ q=>q) λ_ _ q=>q
theorem vE.laid (x:vE P w H h) (k:∀ b u,h.get? b=some u->h'.get? b=some u) (hp:h.objs.size<=a) (new:gK P w (upd H a o) h' a o):vE P w (upd H a o) h':=λb u e=>by
 have hn:=x.fresh hp
 by_cases hb:b=a
 ·subst hb;rw [aM] at e;cases e;exact new
 ·rw [aJ hb] at e
  exact (x b u e).yb (λc v _ q=>k c v q) (λc q=>by rw [aJ (aP q hn)];exact q) λc xs q=>by rw [aJ (aP q hn)];exact q
end
def Rd (H:Hp) (a:ag) (u:HO):Prop:=H a=some u\/∃ o,H a=some (.frz o u)
theorem Rd.ok {P:a8}{w:bT}{H:Hp}{h:cg}{a:ag}{u:HO}(r:Rd H a u) (x:vE P w H h):gK P w H h a u:=by
 rcases r with r|⟨o,r⟩
 ·exact x a u r
 ·obtain ⟨_,q⟩:=x a _ r
  exact q
def Mut:Option HO->Prop
 | some (.lst _)=>True
 | some (.dK _)=>True
 | some (.dT _)=>True
 | some (.set _ _)=>True
 | some (.ins _ _ _)=>True
 | some (.ext _)=>True
 | _=>False
section
variable {P:a8}{w:bT}{H:Hp}{h h':cg}{x e:ag}{o':HO}
theorem vE.write (ok:vE P w H h) (mu:Mut (H x)) (he:e=x\/H e=some (.own x)) (k:∀ b u,b≠e->h.get? b=some u->h'.get? b=some u) (heo:∃ u,h'.get? e=some u)
  (new:gK P w (upd H x o') h' x o'):vE P w (upd H x o') h':=λb u q=>by
 have nown:∀ c y,H c=some (.own y)->c≠x:=λc y r z=>by subst z;rw [r] at mu;exact mu
 have ntup:∀ c xs,H c=some (.tup xs)->c≠x:=λc xs r z=>by subst z;rw [r] at mu;exact mu
 by_cases hb:b=x
 ·subst hb;rw [aM] at q;cases q;exact new
 ·rw [aJ hb] at q
  by_cases hbe:b=e
  ·have q':H b=some (.own x):=by
    rcases he with z|z
    ·exact absurd (hbe.trans z) hb
    ·rw [hbe];exact z
   rw [q] at q';cases q'
   obtain ⟨v,hv⟩:=heo
   exact ⟨v,by rw [hbe];exact hv⟩
  ·refine (ok b u q).yb (λc v hc r=>k c v ?_ r) (λc r=>by rw [aJ (nown c b r)];exact r) λc xs r=>by rw [aJ (ntup c xs r)];exact r
   rcases hc with rfl|hc
   ·exact hbe
   ·rintro rfl
    rcases he with z|z
    ·exact nown c b hc z
    ·rw [hc] at z;cases z;exact hb rfl
end
structure Un (fs ex:List ag) (H H':Hp) (h h':cg):Prop where
 keep:∀ b o,h.get? b=some o->H b=none->b∉fs->b∉ex->h'.get? b=some o
 slot:∀ b o,h.get? b=some o->H b=none->b∈fs->b∉ex->∃ sl,h'.get? b=some { o with slots:=sl }
 free:∀ b o,h.get? b=some o->H b=none->b∉ex->H' b=none
 there:∀ b o,h.get? b=some o->b∉ex->∃ o',h'.get? b=some o'
 yc:∀ b xs,H b=some (.tup xs)->H' b=some (.tup xs)
 xp:∀ b o u,H b=some (.frz o u)->H' b=some (.frz o u)
 xn:∀ b ps,H b=some (.tbl ps)->∃ more,H' b=some (.tbl (ps++more))
section
variable {fs fs' ex ex':List ag}{H H1 H2:Hp}{h h1 h2 h':cg}{a x e:ag}{o:HO}
theorem Un.any (u:Un fs ex H H1 h h1) {b:ag}{ob:gC}(q:h.get? b=some ob) (n:H b=none) (hx:b∉ex):∃ sl,h1.get? b=some { ob with slots:=sl }:=by
 by_cases hb:b∈fs
 ·exact u.slot b ob q n hb hx
 ·exact ⟨ob.slots,u.keep b ob q n hb hx⟩
theorem Un.kept (k:∀ b u,h.get? b=some u->h'.get? b=some u):Un fs ex H H h h' :=
 ⟨λb ob q _ _ _=>k b ob q,λb ob q _ _ _=>⟨ob.slots,k b ob q⟩,λ_ _ _ n _=>n,λb ob q _=>⟨ob,k b ob q⟩,λ_ _ q=>q,λ_ _ _ q=>q,λ_ ps q=>⟨#[],by rw [q];simp⟩⟩
theorem Un.refl:Un fs ex H H h h:=Un.kept λ_ _ q=>q
theorem Un.laid (k:∀ b u,h.get? b=some u->h'.get? b=some u) (hp:h.objs.size<=a) (hn:H a=none):Un fs ex H (upd H a o) h h' where
 keep:=λb u q _ _ _=>k b u q
 slot:=λb u q _ _ _=>⟨u.slots,k b u q⟩
 free:=λb u q n _=>by rw [aJ (aS (bc (aI q) hp))];exact n
 there:=λb u q _=>⟨u,k b u q⟩
 yc:=λb xs q=>by rw [aJ (aP q hn)];exact q
 xp:=λb u xs q=>by rw [aJ (aP q hn)];exact q
 xn:=λb ps q=>⟨#[],by rw [aJ (aP q hn),q];simp⟩
theorem Un.write (mu:Mut (H x)) (he:e=x\/H e=some (.own x)) (k:∀ b u,b≠e->h.get? b=some u->h'.get? b=some u) (heo:∃ u,h'.get? e=some u):Un fs ex H (upd H x o) h h':=by
 have hx:∀ b,H b=none->b≠x:=λb n z=>by subst z;rw [n] at mu;exact mu
 have hb:∀ b,H b=none->b≠e:=λb n z=>by
  subst z
  rcases he with r|r
  ·exact hx b n r
  ·rw [n] at r;cases r
 have hm:∀ b u,H b=some u->¬ Mut (some u)->b≠x:=λb u q nm z=>by subst z;rw [q] at mu;exact nm mu
 refine ⟨λb u q n _ _=>k b u (hb b n) q,λb u q n _ _=>⟨u.slots,k b u (hb b n) q⟩,λb u q n _=>by rw [aJ (hx b n)];exact n,λb u q _=>?_,
  λb xs q=>by rw [aJ (hm b _ q λz=>z)];exact q,λb u xs q=>by rw [aJ (hm b _ q λz=>z)];exact q,λb ps q=>⟨#[],by rw [aJ (hm b _ q λz=>z),q];simp⟩⟩
 by_cases hbe:b=e
 ·subst hbe;exact heo
 ·exact ⟨u,k b u hbe q⟩
end
def Zb (h:cg) (H:Hp):List ag:=(fM h.objs.size).filter λa=>(H a).isSome
def El (h:cg) (H:Hp):cg:=vU h (Zb h H)
theorem RX (h:cg) (H:Hp):(El h H).objs.size=h.objs.size:=PySem.W.hideAll_size _ _
theorem Uw {h:cg}{H:Hp}{b:ag}{o:gC}(e:h.get? b=some o) (n:H b=none):(El h H).get? b=some o :=
 nK _ e λhm=>by
  have q:(H b).isSome=true:=(fb.mp hm).2
  rw [n] at q;simp at q
theorem Xx {h:cg}{H:Hp}{b:ag}{o:gC}(e:(El h H).get? b=some o):h.get? b=some o/\H b=none:=by
 have e':h.get? b=some o:=Tz (Zb h H) e
 refine ⟨e',?_⟩
 cases q:H b with
 | none=>rfl
 | some x =>
  have hm:b∈Zb h H:=fb.mpr ⟨nc.mpr (aI e'),by simp [q]⟩
  have z:(El h H).get? b=none:=PySem.W.hideAll_none (Zb h H) hm
  rw [z] at e;cases e
def oJ (g h:cg) (L:ag):List (ag×gC):=(fM h.objs.size).filterMap λa=>if a=L\/(g.get? a).isSome=true then none else (h.get? a).map λo=>(a,o)
theorem qM {g h:cg}{L a:ag}{o:gC}(h1:a≠L) (h2:g.get? a=none) (h3:h.get? a=some o):(a,o)∈oJ g h L :=
 pJ.mpr ⟨a,nc.mpr (aI h3),by simp [h1,h2,h3]⟩
theorem Em {g h:cg}{L:ag}{p:ag×gC}(hp:p∈oJ g h L):p.1≠L/\g.get? p.1=none/\h.get? p.1=some p.2:=by
 obtain ⟨b,_,e⟩:=pJ.mp hp
 split at e
 ·cases e
 ·rename_i hn
  cases q:h.get? b with
  | none=>rw [q] at e;simp at e
  | some u =>
   rw [q] at e
   simp only [YQ,iF] at e
   subst e
   refine ⟨λz=>hn (.inl z),?_,q⟩
   show g.get? b=none
   cases r:g.get? b with
   | none=>rfl
   | some v=>exact (hn (.inr (by simp [r]))).elim
theorem Ux {g h:cg}{L:ag}:AY g L h (oJ g h L):=λp hp=>let ⟨a,b,c⟩:=Em hp;⟨c,a,b⟩
end L2
namespace L2
structure Mod (K:aa) (mg:aZ->Option ai) (base:cg):Prop where
 Xj:K.In base
 glob:base.Ns bx mg
 blt:∃ mb,base.Ns builtinsNs mb/\∀ x:aZ,x≠"__name__"->mb x=eV x
 nolimit:base.NoLimit
structure Cx where
 prog:a8
 w:bT
 K:aa
 mg:aZ->Option ai
 base:cg
 A:bZ
 N:List aZ
 s₀:aq
 H₀:Hp
 env:xr
 outer:List xr
 stack:List xr
 ex:List ag
 fn:aZ->Bool
 calm:Bool
 pn:List (ag×gC)
 xe:ai->aq->Prop
def xm (l:List xr):List ag:=l.filterMap (·.frame)
abbrev Cx.fs (X:Cx):List ag:=xm X.outer
def Vis (sc:lA) (x:aZ):Prop:=sc.names.lookup x=some .local\/sc.names.lookup x=some .cell\/sc.names.lookup x=some .free
def Loc (sc:lA) (x:aZ):Prop:=sc.names.lookup x=some .local\/sc.names.lookup x=some .cell
def Look (env:xr) (h:cg) (m:aZ->Option ai) (x:aZ) (u:ai):Prop :=
 (env.kindOf x=some .local/\m x=some u)\/((env.kindOf x=some .cell\/env.kindOf x=some .free)/\∃ c,env.cells.lookup x=some c/\h.IsCell c (some u))
structure Cx.Ok (X:Cx):Prop where
 mod:Mod X.K X.mg X.base
 kind:X.env.scope.kind=.function
 glob:X.env.globals=bx
 blt:X.env.builtins=builtinsNs
 above:X.s₀.heap.objs.size<=X.env.locals
 inj:∀ x y c,X.env.cells.lookup x=some c->X.env.cells.lookup y=some c->x=y
 has:∀ x,(X.env.kindOf x=some .cell\/X.env.kindOf x=some .free)->∃ c,X.env.cells.lookup x=some c
 ZE:∀ x c,X.fn x=true->X.env.cells.lookup x=some c->X.s₀.heap.objs.size<=c
 hd:X.calm=true->X.A.handled=none
 frames:X.A.frames=some X.stack
 stk:X.stack=X.outer\/(X.stack=X.env::X.outer/\X.env.frame=some X.env.locals)
 exf:∀ b∈X.ex,b≠X.env.locals/\∀ x c,X.env.cells.lookup x=some c->c≠b
 bs:∀ b o,X.base.get? b=some o->X.s₀.heap.get? b=some o/\X.H₀ b=none
 RI:X.base.objs.size<=X.s₀.heap.objs.size
 NY:∀ b o,X.base.get? b=some o->b∉X.ex
 NT:∀ b∈X.ex,b∉X.fs
 xh:X.s₀.heap.FunFrames X.base X.outer
 Uj:∀ b∈X.fs,X.H₀ b=none
structure Inv (X:Cx) (pins:List (ag×gC)) (Z:List (Option V)) (H:Hp) (s:aq):Prop where
 ok:X.Ok
 os:s.os=X.s₀.os
 bare:xM s.gens
 base:Un X.fs X.ex X.H₀ H X.s₀.heap s.heap
 loc:∃ m,s.heap.Ns X.env.locals m/\∀ (i:Nat) (x:aZ) (v:V),X.N[i]?=some x->Z[i]?=some (some v)->Vis X.env.scope x->∃ u,RelV v u/\Look X.env s.heap m x u
 cell:∀ x c,X.env.cells.lookup x=some c->∃ v,s.heap.IsCell c v
 free:H X.env.locals=none
 rC:∀ x c,X.env.cells.lookup x=some c->H c=none
 pin:∀ p∈X.pn++pins,s.heap.get? p.1=some p.2/\H p.1=none/\p.1≠X.env.locals/\p.1∉X.fs/\∀ v,p.2.data≠.cell v
 fX:vE X.prog X.w H s.heap
 len:Z.length=X.N.length
section
variable {X:Cx}{pins:List (ag×gC)}{Z:List (Option V)}{H H':Hp}{s:aq}{h':cg}
theorem Cx.Ok.nofr (ok:X.Ok) {b:ag}{o:gC}(e:X.base.get? b=some o):b∉X.fs:=λhb=>by
 have:=(ok.xh.mem hb).1
 rw [e] at this;cases this
theorem Inv.bs (I:Inv X pins Z H s):∀ b o,X.base.get? b=some o->s.heap.get? b=some o/\H b=none:=λb o e =>
 ⟨I.base.keep b o (I.ok.bs b o e).1 (I.ok.bs b o e).2 (I.ok.nofr e) (I.ok.NY b o e),I.base.free b o (I.ok.bs b o e).1 (I.ok.bs b o e).2 (I.ok.NY b o e)⟩
theorem Inv.bk (I:Inv X pins Z H s):∀ b o,X.base.get? b=some o->s.heap.get? b=some o:=λb o e=>(I.bs b o e).1
theorem Inv.mod (I:Inv X pins Z H s):Mod X.K X.mg X.base:=I.ok.mod
theorem Inv.xj (I:Inv X pins Z H s):X.K.In s.heap:=I.ok.mod.Xj.keeps I.bk
theorem Inv.fr (I:Inv X pins Z H s):∃ m,Fr X.base X.env.locals s.heap m :=
 let ⟨m,hn,_⟩:=I.loc
 ⟨m,hn,I.bk,bE I.ok.RI I.ok.above⟩
theorem Inv.lt (I:Inv X pins Z H s):X.env.locals<s.heap.objs.size:=let ⟨_,hn,_⟩:=I.loc;hn.lt
theorem Inv.sz (I:Inv X pins Z H s):X.s₀.heap.objs.size<=s.heap.objs.size:=bE I.ok.above (oi I.lt)
theorem Inv.nofs (I:Inv X pins Z H s) {a:ag}(h:s.heap.objs.size<=a):a∉X.fs:=λhb=>by
 obtain ⟨_,o,ho,_⟩:=I.ok.xh.mem hb
 exact absurd (bc (aI ho) (bE I.sz h)) (gE _)
theorem Inv.Ui (I:Inv X pins Z H s):∀ x c,X.env.cells.lookup x=some c->c≠X.env.locals:=λx c e z=>by
 obtain ⟨v,o,ho,hd⟩:=I.cell x c e
 obtain ⟨m,⟨o',es,ep,ho',hd',_⟩,_⟩:=I.loc
 rw [z,ho'] at ho;cases ho;rw [hd'] at hd;cases hd
theorem Inv.xh (I:Inv X pins Z H s):s.heap.FunFrames X.base X.outer:=by
 have all:∀ (l:List xr),(∀ b∈xm l,b∈X.fs)->X.s₀.heap.FunFrames X.base l->s.heap.FunFrames X.base l:=by
  intro l
  induction l with
  | nil=>intro _ _;trivial
  | cons env r ih =>
   intro hs hl
   obtain ⟨hk,⟨L,o,hf,hn,ho,hd⟩,hr⟩:=hl
   have hL:L∈X.fs:=hs L (by unfold xm;rw [A8,hf];exact aw)
   obtain ⟨sl,e⟩:=I.base.slot L o ho (I.ok.Uj L hL) hL λz=>I.ok.NT L z hL
   exact ⟨hk,⟨L,_,hf,hn,e,hd⟩,ih (λb hb=>hs b (by unfold xm;rw [A8,hf];exact ah _ hb)) hr⟩
 exact all X.outer (λ_ hb=>hb) I.ok.xh
theorem Inv.stack (I:Inv X pins Z H s):s.heap.FunFrames X.base X.stack:=by
 rcases I.ok.stk with e|⟨e,hf⟩
 ·rw [e];exact I.xh
 ·rw [e]
  obtain ⟨m,hn,_⟩:=I.loc
  refine .cons (by rw [I.ok.kind];decide) hf hn ?_ I.xh
  exact zA (bE I.ok.RI I.ok.above)
theorem Inv.QC (I:Inv X pins Z H s):∀ b∈xm X.stack,b∈X.env.locals::X.fs:=λb hb=>by
 rcases I.ok.stk with e|⟨e,hf⟩
 ·rw [e] at hb;exact ah _ hb
 ·rw [e] at hb
  unfold xm at hb
  rw [A8,hf] at hb
  exact hb
theorem Inv.Ea (I:Inv X pins Z H s):∀ b∈xm X.stack,H b=none:=λb hb=>by
 rcases ay.mp (I.QC b hb) with e|hb
 ·rw [e];exact I.free
 ·obtain ⟨_,o,ho,_⟩:=I.ok.xh.mem hb
  exact I.base.free b o ho (I.ok.Uj b hb) λz=>I.ok.NT b z hb
theorem Inv.step {g':Array zm}{t':Nat}{d':Drawn}{ch:List ag}(I:Inv X pins Z H s)
  (hch:∀ b∈ch,(b∈X.ex\/X.s₀.heap.objs.size<=b)/\b≠X.env.locals/\(∀ x c,X.env.cells.lookup x=some c->c≠b)/\∀ p∈X.pn++pins,p.1≠b)
  (keep:∀ b o,b≠X.env.locals->b∉X.fs->b∉ch->s.heap.get? b=some o->H b=none->h'.get? b=some o)
  (slot:∀ b o,b≠X.env.locals->b∈X.fs->b∉ch->s.heap.get? b=some o->H b=none->∃ sl,h'.get? b=some { o with slots:=sl }) (free:∀ b o,b∉ch->s.heap.get? b=some o->H b=none->H' b=none)
  (there:∀ b o,b∉ch->s.heap.get? b=some o->∃ o',h'.get? b=some o')
  (yc:∀ b xs,H b=some (.tup xs)->H' b=some (.tup xs)) (xp:∀ b o u,H b=some (.frz o u)->H' b=some (.frz o u)) (xn:∀ b ps,H b=some (.tbl ps)->∃ more,H' b=some (.tbl (ps++more)))
  (ns:∀ m,s.heap.Ns X.env.locals m->h'.Ns X.env.locals m) (fX:vE X.prog X.w H' h') (hg:xM g') :
  Inv X pins Z H' { s with heap:=h',gens:=g',drawn:=d',toks:=t' }:=by
 have neL:∀ b o,X.s₀.heap.get? b=some o->b≠X.env.locals:=λb o e=>aS (bc (aI e) I.ok.above)
 have neC:∀ b o,X.s₀.heap.get? b=some o->b∉X.ex->b∉ch:=λb o e hx hb=>by
  rcases (hch b hb).1 with z|z
  ·exact hx z
  ·exact absurd (bc (aI e) z) (gE _)
 have cellK:∀ x c,X.env.cells.lookup x=some c->∀ v,s.heap.IsCell c v->h'.IsCell c v:=λx c e v ⟨o,ho,hd⟩=>by
  have nch:c∉ch:=λz=>(hch c z).2.2.1 x c e rfl
  by_cases hc:c∈X.fs
  ·obtain ⟨sl,q⟩:=slot c o (I.Ui x c e) hc nch ho (I.rC x c e)
   exact ⟨_,q,hd⟩
  ·exact ⟨o,keep c o (I.Ui x c e) hc nch ho (I.rC x c e),hd⟩
 refine ⟨I.ok,I.os,hg,⟨λb o e n hb hx=>?_,λb o e n hb hx=>?_,λb o e n hx=>?_,λb o e hx=>?_,λb xs e=>yc b xs (I.base.yc b xs e),λb o xs e=>xp b o xs (I.base.xp b o xs e),λb ps e=>?_⟩,?_,λx c e=>?_,?_,λx c e=>?_,λp hp=>?_,fX,I.len⟩
 ·exact keep b o (neL b o e) hb (neC b o e hx) (I.base.keep b o e n hb hx) (I.base.free b o e n hx)
 ·obtain ⟨sl,e1⟩:=I.base.slot b o e n hb hx
  obtain ⟨sl',e2⟩:=slot b _ (neL b o e) hb (neC b o e hx) e1 (I.base.free b o e n hx)
  exact ⟨sl',e2⟩
 ·obtain ⟨o',e1⟩:=I.base.there b o e hx
  exact free b o' (neC b o e hx) e1 (I.base.free b o e n hx)
 ·obtain ⟨o',e1⟩:=I.base.there b o e hx
  exact there b o' (neC b o e hx) e1
 ·obtain ⟨m1,e1⟩:=I.base.xn b ps e
  obtain ⟨m2,e2⟩:=xn b _ e1
  exact ⟨m1++m2,by rw [e2,W4]⟩
 ·obtain ⟨m,hn,hl⟩:=I.loc
  refine ⟨m,ns m hn,λi x v e1 e2 e3=>?_⟩
  obtain ⟨u,r,l⟩:=hl i x v e1 e2 e3
  refine ⟨u,r,?_⟩
  rcases l with l|⟨k,c,e,z⟩
  ·exact .inl l
  ·exact .inr ⟨k,c,e,cellK x c e _ z⟩
 ·obtain ⟨v,z⟩:=I.cell x c e
  exact ⟨v,cellK x c e v z⟩
 ·obtain ⟨m,⟨o,_,_,ho,_⟩,_⟩:=I.loc
  exact free _ o (λz=>(hch _ z).2.1 rfl) ho I.free
 ·obtain ⟨v,o,ho,hd⟩:=I.cell x c e
  exact free c o (λz=>(hch c z).2.2.1 x c e rfl) ho (I.rC x c e)
 ·obtain ⟨e,n,ne,nf,d⟩:=I.pin p hp
  have nch:p.1∉ch:=λz=>(hch p.1 z).2.2.2 p hp rfl
  exact ⟨keep p.1 p.2 ne nf nch e n,free p.1 p.2 nch e n,ne,nf,d⟩
theorem Inv.un {t':Nat}(I:Inv X pins Z H s) (u:Un X.fs [] H H' s.heap h') (fX:vE X.prog X.w H' h'):Inv X pins Z H' { s with heap:=h',toks:=t' }:=by
 obtain ⟨m,⟨o,es,ep,ho,r⟩,_⟩:=id I.loc
 obtain ⟨sl,hL⟩:=u.any ho I.free (by simp)
 exact I.step (g':=s.gens) (d':=s.drawn) (ch:=[]) (λ_ z=>nomatch z) (λb o _ hb _ e n=>u.keep b o e n hb (by simp)) (λb o _ hb _ e n=>u.slot b o e n hb (by simp)) (λb o _ e n=>u.free b o e n (by simp)) (λb o _ e=>u.there b o e (by simp)) u.yc u.xp u.xn (λm' hm=>by
  obtain ⟨o',es',ep',ho',r'⟩:=hm
  rw [ho] at ho';cases ho'
  exact ⟨_,es',ep',hL,r'⟩) fX I.bare
theorem Inv.call {g':Array zm}{t':Nat}{d':Drawn}{ch:List ag}(I:Inv X pins Z H s) (u:Un (xm X.stack) ch H H' s.heap h') (fX:vE X.prog X.w H' h') (hg:xM g')
  (hch:∀ b∈ch,(b∈X.ex\/X.s₀.heap.objs.size<=b)/\b≠X.env.locals/\(∀ x c,X.env.cells.lookup x=some c->c≠b)/\∀ p∈X.pn++pins,p.1≠b) :
  Inv X pins Z H' { s with heap:=h',gens:=g',drawn:=d',toks:=t' }:=by
 obtain ⟨m,⟨o,es,ep,ho,r⟩,_⟩:=id I.loc
 obtain ⟨sl,hL⟩:=u.any ho I.free λz=>(hch _ z).2.1 rfl
 exact I.step (ch:=ch) hch (λb o hL hb hc e n=>u.keep b o e n (λz=>(ay.mp (I.QC b z)).elim hL hb) hc) (λb o _ _ hc e n=>u.any e n hc) (λb o hc e n=>u.free b o e n hc) (λb o hc e=>u.there b o e hc) u.yc u.xp u.xn (λm' hm=>by
  obtain ⟨o',es',ep',ho',r'⟩:=hm
  rw [ho] at ho';cases ho'
  exact ⟨_,es',ep',hL,r'⟩) fX hg
theorem Inv.turned {t':Nat}{it:ag}(I:Inv X pins Z H s) (k:∀ b o,b≠it->s.heap.get? b=some o->h'.get? b=some o) (hn:H it=none) (hL:it≠X.env.locals)
  (h1:it∈X.ex\/X.s₀.heap.objs.size<=it) (h2:∀ x c,X.env.cells.lookup x=some c->c≠it) (h3:∀ p∈X.pn++pins,p.1≠it):Inv X pins Z H { s with heap:=h',toks:=t' }:=by
 have nit:∀ b u,H b=some u->b≠it:=λb u e z=>by rw [z,hn] at e;cases e
 refine I.step (g':=s.gens) (d':=s.drawn) (ch:=[it]) (λb hb=>?_) (λb o _ _ hc e _=>k b o (λz=>hc (by simp [z])) e) (λb o _ _ hc e _=>⟨o.slots,k b o (λz=>hc (by simp [z])) e⟩) (λ_ _ _ _ n=>n)
  (λb o hc e=>⟨o,k b o (λz=>hc (by simp [z])) e⟩) (λ_ _ e=>e) (λ_ _ _ e=>e) (λb ps e=>⟨#[],by rw [e];simp⟩) (λm hm=>?_) (λb u e=>?_) I.bare
 ·have e:b=it:=by simpa using hb
  subst e
  exact ⟨h1,hL,h2,h3⟩
 ·obtain ⟨o,es,ep,ho,r⟩:=hm
  exact ⟨o,es,ep,k _ o (Ne.symm hL) ho,r⟩
 ·refine (I.fX b u e).yb (λc v hc q=>k c v ?_ q) (λ_ q=>q) λ_ _ q=>q
  rcases hc with z|z
  ·rw [z];exact nit b u e
  ·exact nit c _ z
theorem Inv.tok (I:Inv X pins Z H s) (t:Nat):Inv X pins Z H { s with toks:=t }:=I.un (h':=s.heap) (t':=t) Un.refl I.fX
theorem Inv.kept {t':Nat}(I:Inv X pins Z H s) (k:∀ b u,s.heap.get? b=some u->h'.get? b=some u):Inv X pins Z H { s with heap:=h',toks:=t' }:=I.un (Un.kept k) (I.fX.kept k)
theorem Inv.laid {a:ag}{o:HO}{t':Nat}(I:Inv X pins Z H s) (k:∀ b u,s.heap.get? b=some u->h'.get? b=some u) (hp:s.heap.objs.size<=a) (new:gK X.prog X.w (upd H a o) h' a o) :
  Inv X pins Z (upd H a o) { s with heap:=h',toks:=t' }:=I.un (Un.laid k hp (I.fX.fresh hp)) (I.fX.laid k hp new)
theorem Inv.write {x e:ag}{o:HO}{t':Nat}(I:Inv X pins Z H s) (mu:Mut (H x)) (he:e=x\/H e=some (.own x)) (k:∀ b u,b≠e->s.heap.get? b=some u->h'.get? b=some u) (heo:∃ u,h'.get? e=some u)
  (new:gK X.prog X.w (upd H x o) h' x o):Inv X pins Z (upd H x o) { s with heap:=h',toks:=t' }:=I.un (Un.write mu he k heo) (I.fX.write mu he k heo new)
theorem Inv.RE {pins':List (ag×gC)}(I:Inv X pins Z H s) (h:∀ p∈pins',s.heap.get? p.1=some p.2/\H p.1=none/\p.1≠X.env.locals/\p.1∉X.fs/\∀ v,p.2.data≠.cell v):Inv X pins' Z H s :=
 ⟨I.ok,I.os,I.bare,I.base,I.loc,I.cell,I.free,I.rC,λp hp=>(a7.mp hp).elim (λz=>I.pin p (dh _ z)) (h p),I.fX,I.len⟩
theorem En {N:List aZ}(hN:N.Nodup) {i j:Nat}{x:aZ}(a:N[i]?=some x) (b:N[j]?=some x):i=j:=by
 obtain ⟨h1,e1⟩:=aC.mp a
 obtain ⟨h2,e2⟩:=aC.mp b
 exact (List.getElem_inj hN).mp (e1.trans e2.symm)
theorem IP {M:TB}{A:bZ}{E:ai->aq->Prop}{i:Nat}{x:aZ}{v:V}{u:ai}{Q:Unit->aq->Prop}(I:Inv X pins Z H s) (hN:X.N.Nodup) (hi:X.N[i]?=some x) (hx:Loc X.env.scope x) (r:RelV v u)
  (h:∀ s',Inv X pins (Z.set i (some v)) H s'->(∃ a,je a s.heap s'.heap/\(a=X.env.locals\/X.env.cells.lookup x=some a))->Q () s') (hf:X.fn x=true\/X.env.scope.names.lookup x=some .local:=by first|exact .inl rfl|exact .inr rfl|assumption):aK M A (storeName X.env x u) Q E s:=by
 obtain ⟨m,hn,hl⟩:=id I.loc
 have hcls:(X.env.scope.kind == .class || (X.env.scope.kind == .module && X.env.locals != X.env.globals))=false:=by rw [I.ok.kind];rfl
 have hiσ:i<Z.length:=by rw [I.len];exact (aC.mp hi).1
 have Ui:=I.Ui
 have tracked:∀ {a:ag}{h':cg},(∃ o,s.heap.get? a=some o/\H a=none)->je a s.heap h'->vE X.prog X.w H h':=λ{a h'} ha hs b ob e=>by
  obtain ⟨_,_,hfree⟩:=ha
  refine (I.fX b ob e).yb (λc w' hc q=>(hs.2 c ?_).trans q) (λ_ q=>q) λ_ _ q=>q
  rintro rfl
  rcases hc with rfl|hc
  ·rw [hfree] at e;cases e
  ·rw [hfree] at hc;cases hc
 rcases hx with hk|hk
 ·refine wpAny_storeName_local hk hn (λh' hn' hs=>?_) hcls
  obtain ⟨oL,_,_,hoL,_⟩:=id hn
  refine h _ ⟨I.ok,I.os,I.bare,⟨λb o e n hb hx=>?_,λb o e n hb hx=>?_,I.base.free,λb o e hx=>?_,I.base.yc,I.base.xp,I.base.xn⟩,⟨_,hn',λj y v' e1 e2 e3=>?_⟩,λy c e=>?_,I.free,I.rC,λp hp=>?_,tracked ⟨oL,hoL,I.free⟩ hs,by simpa using I.len⟩ ⟨_,hs,.inl rfl⟩
  ·exact (hs.2 b (aS (bc (aI e) I.ok.above))).trans (I.base.keep b o e n hb hx)
  ·obtain ⟨sl,e1⟩:=I.base.slot b o e n hb hx
   exact ⟨sl,(hs.2 b (aS (bc (aI e) I.ok.above))).trans e1⟩
  ·obtain ⟨o',e1⟩:=I.base.there b o e hx
   exact ⟨o',(hs.2 b (aS (bc (aI e) I.ok.above))).trans e1⟩
  ·by_cases hj:j=i
   ·subst hj
    rw [hi] at e1;cases e1
    rw [lN hiσ] at e2
    cases e2
    exact ⟨u,r,.inl ⟨hk,by simp⟩⟩
   ·rw [sg (Ne.symm hj)] at e2
    obtain ⟨u',r',q⟩:=hl j y v' e1 e2 e3
    refine ⟨u',r',?_⟩
    rcases q with ⟨k,e⟩|⟨k,c,e,z⟩
    ·refine .inl ⟨k,?_⟩
     have:y≠x:=λe=>hj (En hN e1 (e▸hi))
     simp [this,e]
    ·exact .inr ⟨k,c,e,z.sameBut hs (Ui y c e)⟩
  ·obtain ⟨w',z⟩:=I.cell y c e
   exact ⟨w',z.sameBut hs (Ui y c e)⟩
  ·obtain ⟨e,n,ne,nf,d⟩:=I.pin p hp
   exact ⟨(hs.2 p.1 ne).trans e,n,ne,nf,d⟩
 ·have hfn:X.fn x=true:=by
   rcases hf with z|z
   ·exact z
   ·rw [z] at hk;cases hk
  obtain ⟨c,hc⟩:=I.ok.has x (.inl hk)
  obtain ⟨w',z⟩:=I.cell x c hc
  refine wpAny_storeName_cell I.ok.kind hk hc z (λh' hc' hs=>?_)
  obtain ⟨oc,hoc,hocd⟩:=id z
  refine h { s with heap:=h' } ⟨I.ok,I.os,I.bare,⟨λb o e n hb hx=>?_,λb o e n hb hx=>?_,I.base.free,λb o e hx=>?_,I.base.yc,I.base.xp,I.base.xn⟩,⟨m,hn.sameBut hs (Ne.symm (Ui x c hc)),λj y v' e1 e2 e3=>?_⟩,λy c' e=>?_,I.free,I.rC,λp hp=>?_,tracked ⟨oc,hoc,I.rC x c hc⟩ hs,by simpa using I.len⟩ ⟨c,hs,.inr hc⟩
  ·exact (hs.2 b (aS (bc (aI e) (I.ok.ZE x c hfn hc)))).trans (I.base.keep b o e n hb hx)
  ·obtain ⟨sl,e1⟩:=I.base.slot b o e n hb hx
   exact ⟨sl,(hs.2 b (aS (bc (aI e) (I.ok.ZE x c hfn hc)))).trans e1⟩
  ·obtain ⟨o',e1⟩:=I.base.there b o e hx
   exact ⟨o',(hs.2 b (aS (bc (aI e) (I.ok.ZE x c hfn hc)))).trans e1⟩
  ·by_cases hj:j=i
   ·subst hj
    rw [hi] at e1;cases e1
    rw [lN hiσ] at e2
    cases e2
    exact ⟨u,r,.inr ⟨.inl hk,c,hc,hc'⟩⟩
   ·rw [sg (Ne.symm hj)] at e2
    obtain ⟨u',r',q⟩:=hl j y v' e1 e2 e3
    refine ⟨u',r',?_⟩
    rcases q with q|⟨k,c',e,z'⟩
    ·exact .inl q
    ·refine .inr ⟨k,c',e,z'.sameBut hs ?_⟩
     rintro rfl
     exact hj (En hN e1 (I.ok.inj _ _ _ e hc▸hi))
  ·by_cases hcc:c'=c
   ·subst hcc;exact ⟨_,hc'⟩
   ·obtain ⟨w2,z2⟩:=I.cell y c' e
    exact ⟨w2,z2.sameBut hs hcc⟩
  ·obtain ⟨e,n,ne,nf,d⟩:=I.pin p hp
   refine ⟨(hs.2 p.1 ?_).trans e,n,ne,nf,d⟩
   intro q
   rw [q,hoc] at e
   have q':oc=p.2:=aX e
   exact d w' (by rw [← q'];exact hocd)
theorem uf {M:TB}{A:bZ}{E:ai->aq->Prop}{i:Nat}{x:aZ}{v:V}{u:ai}{Q:Unit->aq->Prop}(I:Inv X pins Z H s) (hN:X.N.Nodup) (hi:X.N[i]?=some x) (hx:Loc X.env.scope x) (r:RelV v u)
  (h:∀ s',Inv X pins (Z.set i (some v)) H s'->Q () s') (hf:X.fn x=true\/X.env.scope.names.lookup x=some .local:=by first|exact .inl rfl|exact .inr rfl|assumption):aK M A (storeName X.env x u) Q E s :=
 IP I hN hi hx r (λs' I' _=>h s' I') hf
theorem Inv.NU {s':aq}{ch:List ag}(I:Inv X pins Z H s) (ho:s'.os=s.os) (u:Un (xm X.stack) ch H H' s.heap s'.heap) (fX:vE X.prog X.w H' s'.heap) (hg:xM s'.gens)
  (hch:∀ b∈ch,(b∈X.ex\/X.s₀.heap.objs.size<=b)/\b≠X.env.locals/\(∀ x c,X.env.cells.lookup x=some c->c≠b)/\∀ p∈X.pn++pins,p.1≠b):Inv X pins Z H' s':=by
 obtain ⟨h',g',d',t',o'⟩:=s'
 have e:o'=s.os:=ho
 subst e
 exact I.call (g':=g') (t':=t') (d':=d') u fX hg hch
end
abbrev XK:=ai->Option ag->Hp->Prop
abbrev St:=List (Option V)
abbrev VK:=V->Hp->Prop
abbrev TE:=St->Hp->VK->Prop
abbrev TT:=St->Hp->(Bool->Hp->Prop)->Prop
abbrev TA:=St->Hp->(List V->Hp->Prop)->Prop
structure ug where
 nx:St->Hp->Prop
 rt:VK
 bk:St->Hp->Prop:=λ_ _=>False
 ct:St->Hp->Prop:=λ_ _=>False
abbrev TS:=ug->St->Hp->Prop
def EP (X:Cx) (pins:List (ag×gC)) (Z:St) (Q:VK) (u:ai) (s':aq):Prop:=∃ v H',Inv X pins Z H' s'/\RelV v u/\Q v H'
def TP (X:Cx) (pins:List (ag×gC)) (Z:St) (Q:Bool->Hp->Prop) (b:Bool) (s':aq):Prop:=∃ H',Inv X pins Z H' s'/\Q b H'
def AP (X:Cx) (pins:List (ag×gC)) (Z:St) (Q:List V->Hp->Prop) (us:List ai) (s':aq):Prop:=∃ vs H',Inv X pins Z H' s'/\Vals vs us/\Q vs H'
def SP (X:Cx) (pins:List (ag×gC)) (D:ug) (f:Flow) (s':aq):Prop :=
 match f with
 | .next=>∃ σ' H',Inv X pins σ' H' s'/\D.nx σ' H'
 | .brk=>∃ σ' H',Inv X pins σ' H' s'/\D.bk σ' H'
 | .cont=>∃ σ' H',Inv X pins σ' H' s'/\D.ct σ' H'
 | .ret u=>∃ v σ' H',Inv X pins σ' H' s'/\RelV v u/\D.rt v H'
def PE (X:Cx) (e:Expr) (t:TE):Prop :=
 ∀ (pins:List (ag×gC)) (s:aq) (Z:St) (H:Hp) (Q:VK),Inv X pins Z H s->t Z H Q->aK (aY X.prog X.w) X.A (gp e X.env) (EP X pins Z Q) X.xe s
def PT (X:Cx) (e:Expr) (t:TT):Prop :=
 ∀ (pins:List (ag×gC)) (s:aq) (Z:St) (H:Hp) (Q:Bool->Hp->Prop),Inv X pins Z H s->t Z H Q->aK (aY X.prog X.w) X.A (isTrue e X.env (gp e X.env)) (TP X pins Z Q) X.xe s
def PW (X:Cx) (e:Expr) (t:TT):Prop :=
 ∀ (whole:LC ai) (pins:List (ag×gC)) (s:aq) (Z:St) (H:Hp) (Q:Bool->Hp->Prop),Inv X pins Z H s->t Z H Q->aK (aY X.prog X.w) X.A (isTrue e X.env whole) (TP X pins Z Q) X.xe s
theorem PW.pt {X:Cx}{e:Expr}{t:TT}(h:PW X e t):PT X e t:=h _
def PA (X:Cx) (es:List Expr) (t:TA):Prop :=
 ∀ (pos:rD) (pins:List (ag×gC)) (s:aq) (Z:St) (H:Hp) (Q:List V->Hp->Prop),Inv X pins Z H s->t Z H Q->aK (aY X.prog X.w) X.A (YR (jg pos (bw es X.env))) (AP X pins Z Q) X.xe s
def PS (X:Cx) (st:dR) (t:TS):Prop :=
 ∀ (pins:List (ag×gC)) (s:aq) (Z:St) (H:Hp) (D:ug),Inv X pins Z H s->t D Z H->aK (aY X.prog X.w) X.A (exec st X.env) (SP X pins D) X.xe s
def LA (X:Cx) (st:List dR) (t:TS):Prop :=
 ∀ (pins:List (ag×gC)) (s:aq) (Z:St) (H:Hp) (D:ug),Inv X pins Z H s->t D Z H->aK (aY X.prog X.w) X.A (execs st X.env) (SP X pins D) X.xe s
theorem iO {α:Type} {t:LC α}{Q Q':α->aq->Prop}{M:TB}{A:bZ}{E:ai->aq->Prop}{s:aq}(h:aK M A t Q E s) (hQ:∀ a s,Q a s->Q' a s):aK M A t Q' E s:=fj h hQ λ_ _ x=>x
end L2
namespace L2
section
variable {X:Cx}
def ao (i:Nat):TE:=λZ H Q=>∃ v,Z[i]?=some (some v)/\Q v H
def tC (v:V):TE:=λ_ H Q=>Q v H
theorem Z5 {i:Nat}{x:aZ}{pos:rD}(hN:X.N[i]?=some x) (hv:Vis X.env.scope x) (hd:(x == ("__debug__":aZ))=false:=by decide) (hcd:(x == ("__classdict__":aZ))=false:=by decide):PE X (.Name x pos) (ao i):=by
 intro pins s Z H Q I h
 obtain ⟨v,e,h⟩:=h
 obtain ⟨m,hn,hl⟩:=I.loc
 obtain ⟨u,r,l⟩:=hl i x v hN e hv
 have fin:EP X pins Z Q u s:=⟨v,H,I,r,h⟩
 rcases l with ⟨hk,hm⟩|⟨hk,c,hc,hcell⟩
 ·exact AZ (ua I.ok.kind hk hn hm fin) hd
 ·rcases hk with hk|hk
  ·exact AZ (wpAny_loadName_cell I.ok.kind hk hc hcell fin) hd
  ·exact AZ (wpAny_loadName_free I.ok.kind hk hc hcell fin hcd) hd
theorem aN {i j pos}:PE X (.Constant (.int i) j pos) (tC (.int i)):=λ_ _ _ H _ I h=>wpAny_Constant_int ⟨.int i,H,I.tok _,⟨_,rfl⟩,h⟩
theorem pU {b j pos}:PE X (.Constant (.bool b) j pos) (tC (.bl b)):=λ_ _ _ H _ I h=>Constant_bool ⟨.bl b,H,I,rfl,h⟩
theorem JF {j pos}:PE X (.Constant .none j pos) (tC .non):=λ_ _ _ H _ I h=>W5 ⟨.non,H,I,rfl,h⟩
theorem fR {x j pos}:PE X (.Constant (.str x) j pos) (tC (.str x)):=λ_ _ _ H _ I h=>Calls.Constant_str ⟨.str x,H,I.tok _,⟨_,rfl⟩,h⟩
def Gl (X:Cx) (x:aZ):Prop:=X.env.kindOf x=some .globalImplicit
theorem rF {E:ai->aq->Prop}{pins:List (ag×gC)}{s:aq}{Z:St}{H:Hp}{x:aZ}{u:ai}{pos:rD}{Q:ai->aq->Prop}(I:Inv X pins Z H s) (hg:Gl X x) (hm:X.mg x=some u) (h:Q u s)
  (hd:(x == ("__debug__":aZ))=false:=by decide):aK (aY X.prog X.w) X.A (gp (.Name x pos) X.env) Q E s :=
 LD I.ok.kind hg (Calls.loadGlobal_global (by rw [I.ok.glob];exact I.mod.glob.keeps I.bk) hm h) hd
theorem rg {E:ai->aq->Prop}{pins:List (ag×gC)}{s:aq}{Z:St}{H:Hp}{x:aZ}{u:ai}{pos:rD}{Q:ai->aq->Prop}(I:Inv X pins Z H s) (hg:Gl X x) (hm:X.mg x=none) (hv:eV x=some u) (h:Q u s)
  (hn:x≠"__name__":=by decide) (hd:(x == ("__debug__":aZ))=false:=by decide):aK (aY X.prog X.w) X.A (gp (.Name x pos) X.env) Q E s:=by
 obtain ⟨mb,h1,h2⟩:=I.mod.blt
 exact LD I.ok.kind hg (Calls.loadGlobal_builtin (by rw [I.ok.glob];exact I.mod.glob.keeps I.bk) hm (by rw [I.ok.blt];exact h1.keeps I.bk) ((h2 x hn).trans hv) h) hd
theorem rG {x:aZ}{v:V}{u:ai}{pos:rD}(hg:Gl X x) (hm:X.mg x=some u) (r:RelV v u) (hd:(x == ("__debug__":aZ))=false:=by decide):PE X (.Name x pos) (tC v) :=
 λ_ _ _ H _ I h=>rF I hg hm ⟨v,H,I,r,h⟩ hd
theorem xv {x:aZ}{v:V}{u:ai}{pos:rD}(hg:Gl X x) (hm:X.mg x=none) (hv:eV x=some u) (r:RelV v u) (hn:x≠"__name__":=by decide) (hd:(x == ("__debug__":aZ))=false:=by decide):PE X (.Name x pos) (tC v) :=
 λ_ _ _ H _ I h=>rg I hg hm hv ⟨v,H,I,r,h⟩ hn hd
variable {a b:Expr}{ta tb:TE}{pos:rD}
def PC (X:Cx) (op:Xk) (a b:Expr) (t:TE):Prop :=
 ∀ (pins:List (ag×gC)) (s:aq) (Z:St) (H:Hp) (Q:VK),Inv X pins Z H s->t Z H Q ->
  aK (aY X.prog X.w) X.A (gp a X.env) (λv s₁=>aK (aY X.prog X.w) X.A (gp b X.env) (λu s₂=>aK (aY X.prog X.w) X.A (eU op v u) (EP X pins Z Q) X.xe s₂) X.xe s₁) X.xe s
theorem Mc (b:Expr) {op:Xk}(h:op≠.In) (h2:op≠.NotIn):ng op b=false:=by
 have e1:(op == CmpOp.In)=false:=by cases op<;>first|rfl|exact absurd rfl h
 have e2:(op == CmpOp.NotIn)=false:=by cases op<;>first|rfl|exact absurd rfl h2
 cases b<;>simp [ng,e1,e2]
def Z6 (ta:TE):TE:=λZ H Q=>ta Z H λx H1=>Q (.bl (decide (x=.non))) H1
def Uy (ta:TE):TE:=λZ H Q=>ta Z H λx H1=>Q (.bl (!decide (x=.non))) H1
theorem RelV.NX {x:V}{v:ai}(r:RelV x v):(v == cI)=decide (x=.non):=by
 cases x with
 | non=>cases r;rfl
 | bl _=>cases r;rfl
 | int _=>obtain ⟨t,rfl⟩:=r;rfl
 | str _=>obtain ⟨t,rfl⟩:=r;rfl
 | byt _=>obtain ⟨t,rfl⟩:=r;rfl
 | flt _=>obtain ⟨t,rfl⟩:=r;rfl
 | ref _=>cases r;rfl
 | ty _=>cases r;rfl
theorem Z7 {j pos'} (ha:PE X a ta):PC X .Is a (.Constant .none j pos') (Z6 ta):=by
 intro pins s Z H Q I h
 refine iO (ha pins s Z H _ I h) λv s1 ⟨x,H1,I1,r1,q1⟩=>?_
 exact W5 (is_none_gen ⟨.bl _,H1,I1,by rw [r1.NX];rfl,q1⟩)
theorem Xy {j pos'} (ha:PE X a ta):PC X .IsNot a (.Constant .none j pos') (Uy ta):=by
 intro pins s Z H Q I h
 refine iO (ha pins s Z H _ I h) λv s1 ⟨x,H1,I1,r1,q1⟩=>?_
 exact W5 (isnot_none_gen ⟨.bl _,H1,I1,by rw [r1.NX];rfl,q1⟩)
def tB (t:TE):TT:=λZ H Q=>t Z H λx H1=>∃ c,x=.bl c/\Q c H1
theorem Z8 {op:Xk}{t:TE}(h:PC X op a b t) (h1:ng op b=false:=by first|exact Mc _ (by decide) (by decide)|rfl):PE X (.Compare a [op] [b] pos) t:=λpins s Z H Q I hw=>wpAny_Compare1 (h pins s Z H Q I hw) h1
theorem Z9 {op:Xk}{t:TE}(h:PC X op a b t) (h1:ng op b=false:=by first|exact Mc _ (by decide) (by decide)|rfl):PT X (.Compare a [op] [b] pos) (tB t):=by
 intro pins s Z H Q I hw
 refine ZK (iO (h pins s Z H _ I hw) λv s1 h1=>iO h1 λu s2 h2=>iO h2 λc s3 ⟨x,H1,I1,r1,q1⟩=>?_) h1
 obtain ⟨d,rfl,q⟩:=q1
 cases r1
 exact og ⟨H1,I1,q⟩
variable {tA tB':TT}{rest:List Expr}
def G6 (t u:TT):TT:=λZ H Q=>t Z H λc H1=>if c=true then u Z H1 Q else Q false H1
def tOr (t u:TT):TT:=λZ H Q=>t Z H λc H1=>if c=true then Q true H1 else u Z H1 Q
def uL (t:TT):TT:=λZ H Q=>t Z H λc H1=>Q (!c) H1
theorem zG (ha:PT X a tA):PW X (.BoolOp .And [a] pos) tA:=by
 intro wh pins s Z H Q I h
 refine isTrue_and (iO (ha pins s Z H Q I h) λc s1 e=>?_)
 cases c with
 | true=>exact isTrue_and_nil e
 | false=>exact e
theorem Oy (ha:PT X a tA):PW X (.BoolOp .Or [a] pos) tA:=by
 intro wh pins s Z H Q I h
 refine isTrue_or (iO (ha pins s Z H Q I h) λc s1 e=>?_)
 cases c with
 | false=>exact isTrue_or_nil e
 | true=>exact e
theorem Bd (ha:PT X a tA) (hb:PW X (.BoolOp .And (b::rest) pos) tB'):PW X (.BoolOp .And (a::b::rest) pos) (G6 tA tB'):=by
 intro wh pins s Z H Q I h
 refine isTrue_and (iO (ha pins s Z H _ I h) λc s1 ⟨H1,I1,q1⟩=>?_)
 cases c with
 | true=>exact hb wh pins s1 Z H1 Q I1 q1
 | false=>exact ⟨H1,I1,q1⟩
theorem QN (ha:PT X a tA) (hb:PW X (.BoolOp .Or (b::rest) pos) tB'):PW X (.BoolOp .Or (a::b::rest) pos) (tOr tA tB'):=by
 intro wh pins s Z H Q I h
 refine isTrue_or (iO (ha pins s Z H _ I h) λc s1 ⟨H1,I1,q1⟩=>?_)
 cases c with
 | true=>exact ⟨H1,I1,q1⟩
 | false=>exact hb wh pins s1 Z H1 Q I1 q1
theorem lT (ha:PT X a tA):PT X (.UnaryOp .Not a pos) (uL tA):=by
 intro pins s Z H Q I h
 exact isTrue_not (ha pins s Z H (λc H1=>Q (!c) H1) I h)
def yo (ta tb:TE):TE:=λZ H Q=>ta Z H λx H1=>∃ c,x=.bl c/\if c=true then tb Z H1 Q else Q (.bl false) H1
def QO (ta:TE):TE:=λZ H Q=>ta Z H λx H1=>∃ c,x=.bl c/\Q (.bl (!c)) H1
theorem Be {op} {t:TE}(h:PE X a t):PE X (.BoolOp op [a] pos) t:=λpins s Z H Q I hw=>BoolOp_one (h pins s Z H Q I hw)
theorem vX (ha:PE X a ta) (hb:PE X (.BoolOp .And (b::rest) pos) tb):PE X (.BoolOp .And (a::b::rest) pos) (yo ta tb):=by
 intro pins s Z H Q I h
 refine BoolOp_and (iO (ha pins s Z H _ I h) λv s1 ⟨x,H1,I1,r1,q1⟩=>?_)
 obtain ⟨c,rfl,q1⟩:=q1
 cases r1
 refine og ?_
 cases c with
 | true=>exact hb pins s1 Z H1 Q I1 q1
 | false=>exact ⟨.bl false,H1,I1,rfl,q1⟩
theorem Uz (ha:PE X a ta):PE X (.UnaryOp .Not a pos) (QO ta):=by
 intro pins s Z H Q I h
 refine UnaryOp_ (iO (ha pins s Z H _ I h) λv s1 ⟨x,H1,I1,r1,q1⟩=>?_)
 obtain ⟨c,rfl,q1⟩:=q1
 cases r1
 exact not_of (og ⟨.bl (!c),H1,I1,rfl,q1⟩)
def tIf (t:TT) (ta tb:TE):TE:=λZ H Q=>t Z H λc H1=>if c=true then ta Z H1 Q else tb Z H1 Q
theorem vY {c:Expr}(hc:PT X c tA) (ha:PE X a ta) (hb:PE X b tb):PE X (.IfExp c a b pos) (tIf tA ta tb):=by
 intro pins s Z H Q I h
 refine wpAny_IfExp (iO (hc pins s Z H _ I h) λd s1 ⟨H1,I1,q1⟩=>?_)
 cases d with
 | true=>exact ha pins s1 Z H1 Q I1 q1
 | false=>exact hb pins s1 Z H1 Q I1 q1
end
end L2
namespace L2
def fg (K:aa) (H:Hp) (a:ag) (xs:List V):Prop :=
 Rd H a (.lst xs) \/
  ∃ (o:gC) (its:Array ai) (n:Nat),K.lookup a=some o/\o.cls=.type "list"/\o.dict=none/\o.data=.seq its n/\its.size<=bf/\Vals xs its.toList
def sG (K:aa) (H:Hp) (a:ag) (xs:List V):Prop :=
 Rd H a (.tup xs) \/
  ∃ (o:gC) (its:Array ai) (n:Nat),K.lookup a=some o/\o.cls=.type "tuple"/\o.data=.seq its n/\its.size<=bf/\Vals xs its.toList
def absV:ai->Option V
 | .none=>some .non
 | .bool b=>some (.bl b)
 | .int i _=>some (.int i)
 | .str x _=>some (.str x)
 | .bytes b _=>some (.byt b)
 | .float b _=>some (.flt b)
 | .ref a=>some (.ref a)
 | .type n=>some (.ty n)
 | _=>none
theorem RelV.abs {x:V}{u:ai}(r:RelV x u):absV u=some x:=by
 cases x with
 | non=>cases r;rfl
 | bl _=>cases r;rfl
 | int _=>obtain ⟨t,rfl⟩:=r;rfl
 | str _=>obtain ⟨t,rfl⟩:=r;rfl
 | byt _=>obtain ⟨t,rfl⟩:=r;rfl
 | flt _=>obtain ⟨t,rfl⟩:=r;rfl
 | ref _=>cases r;rfl
 | ty _=>cases r;rfl
theorem RelV.inj {x y:V}{u:ai}(r:RelV x u) (q:RelV y u):x=y:=aX (r.abs.symm.trans q.abs)
theorem Vals.inj:∀ {xs ys:List V}{us:List ai},Vals xs us->Vals ys us->xs=ys
 | _,_,_,.nil,.nil=>rfl
 | _,_,_,.cons r t,.cons r' t'=>by rw [r.inj r',Vals.inj t t']
section
variable {X:Cx}{pins:List (ag×gC)}{Z:St}{H:Hp}{s:aq}{a:ag}{xs ys:List V}
theorem fg.of {K:aa}(h:H a=some (.lst xs)):fg K H a xs:=.inl (.inl h)
theorem sG.of {K:aa}(h:H a=some (.tup xs)):sG K H a xs:=.inl (.inl h)
theorem Inv.list (I:Inv X pins Z H s) (h:fg X.K H a xs):∃ its:List ai,Vals xs its/\PlainL s.heap a its.toArray/\xs.length<=bf:=by
 rcases h with h|⟨o,its,n,hk,hc,hd,hs,hz,r⟩
 ·obtain ⟨z,its,n,r,e⟩:=h.ok I.fX
  exact ⟨its,r,⟨_,n,e,rfl,rfl,rfl⟩,z⟩
 ·refine ⟨its.toList,r,⟨o,n,I.xj a o hk,hc,hd,by simpa using hs⟩,?_⟩
  have e:=r.length
  simp only [aW] at e
  omega
theorem Inv.tuple (I:Inv X pins Z H s) (h:sG X.K H a xs):∃ its:List ai,Vals xs its/\vO s.heap a its.toArray/\xs.length<=bf:=by
 rcases h with h|⟨o,its,n,hk,hc,hs,hz,r⟩
 ·obtain ⟨z,its,r,p⟩:=h.ok I.fX
  exact ⟨its,r,p,z⟩
 ·refine ⟨its.toList,r,⟨o,I.xj a o hk,hc,n,by simpa using hs⟩,?_⟩
  have e:=r.length
  simp only [aW] at e
  omega
theorem Inv.WS (I:Inv X pins Z H s) (h:fg X.K H a xs) (h':fg X.K H a ys):xs=ys:=by
 obtain ⟨its,r,⟨o,n,e,_,_,d⟩,_⟩:=I.list h
 obtain ⟨its',r',⟨o',n',e',_,_,d'⟩,_⟩:=I.list h'
 rw [e] at e';cases e'
 rw [d] at d'
 injection d' with d1 _
 have:its=its':=by simpa using congrArg Array.toList d1
 subst this
 exact r.inj r'
theorem Inv.Tn (I:Inv X pins Z H s) (h:sG X.K H a xs) (h':sG X.K H a ys):xs=ys:=by
 obtain ⟨its,r,⟨o,e,_,n,d⟩,_⟩:=I.tuple h
 obtain ⟨its',r',⟨o',e',_,n',d'⟩,_⟩:=I.tuple h'
 rw [e] at e';cases e'
 rw [d] at d'
 injection d' with d1 _
 have:its=its':=by simpa using congrArg Array.toList d1
 subst this
 exact r.inj r'
end
abbrev Cx.DQ (X:Cx) (E:ai->aq->Prop):Cx:={ X with xe:=E }
abbrev Cx.ZF (X:Cx):Cx:=X.DQ λ_ _=>False
theorem Cx.Ok.DQ {X:Cx}(ok:X.Ok) (E:ai->aq->Prop):(X.DQ E).Ok :=
 ⟨ok.mod,ok.kind,ok.glob,ok.blt,ok.above,ok.inj,ok.has,ok.ZE,ok.hd,ok.frames,ok.stk,ok.exf,ok.bs,ok.RI,ok.NY,ok.NT,ok.xh,ok.Uj⟩
theorem Cx.Ok.t9 {X:Cx}{E:ai->aq->Prop}(ok:(X.DQ E).Ok):X.Ok :=
 ⟨ok.mod,ok.kind,ok.glob,ok.blt,ok.above,ok.inj,ok.has,ok.ZE,ok.hd,ok.frames,ok.stk,ok.exf,ok.bs,ok.RI,ok.NY,ok.NT,ok.xh,ok.Uj⟩
section
variable {X:Cx}{pins:List (ag×gC)}{Z:St}{H:Hp}{s:aq}{E:ai->aq->Prop}
theorem Inv.DQ (I:Inv X pins Z H s) (E:ai->aq->Prop):Inv (X.DQ E) pins Z H s:=⟨I.ok.DQ E,I.os,I.bare,I.base,I.loc,I.cell,I.free,I.rC,I.pin,I.fX,I.len⟩
theorem Inv.t9 (I:Inv (X.DQ E) pins Z H s):Inv X pins Z H s:=⟨I.ok.t9,I.os,I.bare,I.base,I.loc,I.cell,I.free,I.rC,I.pin,I.fX,I.len⟩
theorem SP.t9 {D:ug}{f:Flow}{s':aq}(h:SP (X.DQ E) pins D f s'):SP X pins D f s':=by
 cases f with
 | next=>obtain ⟨σ',H',I,q⟩:=h;exact ⟨σ',H',I.t9,q⟩
 | brk=>obtain ⟨σ',H',I,q⟩:=h;exact ⟨σ',H',I.t9,q⟩
 | cont=>obtain ⟨σ',H',I,q⟩:=h;exact ⟨σ',H',I.t9,q⟩
 | ret u=>obtain ⟨v,σ',H',I,r,q⟩:=h;exact ⟨v,σ',H',I.t9,r,q⟩
theorem LA.ZF {st:List dR}{t:TS}(h:LA X.ZF st t):LA X st t:=λpins s Z H D I hw =>
 fj (h pins s Z H D (I.DQ _) hw) (λ_ _ q=>q.t9) λ_ _ z=>cc z
end
section
variable {X:Cx}{st:dR}{rest:List dR}{t u:TS}{e:Expr}{te:TE}{pos:rD}
def eM:TS:=λD Z H=>D.nx Z H
def bQ (t u:TS):TS:=λD Z H=>t { D with nx:=u D } Z H
theorem cu:LA X [] eM:=λ_ _ Z H _ I h=>qG ⟨Z,H,I,h⟩
theorem aB (h1:PS X st t) (h2:LA X rest u):LA X (st::rest) (bQ t u):=by
 intro pins s Z H D I h
 refine zq (iO (h1 pins s Z H { D with nx:=u D } I h) λf s1 q=>?_)
 cases f with
 | next =>
  obtain ⟨σ',H',I',q⟩:=q
  exact h2 pins s1 σ' H' D I' q
 | ret v=>exact q
 | brk=>exact q
 | cont=>exact q
theorem aH (h1:PS X st t):LA X [st] t:=by
 intro pins s Z H D I h
 refine zq (iO (h1 pins s Z H D I h) λf s1 q=>?_)
 cases f with
 | next=>exact qG q
 | ret v=>exact q
 | brk=>exact q
 | cont=>exact q
theorem Inv.quiet {pins:List (ag×gC)}{Z:St}{H:Hp}{s:aq}(I:Inv X pins Z H s):interactive X.env=false:=by simp [interactive,I.ok.kind]
def fV (te:TE):TS:=λD Z H=>te Z H λ_ H1=>D.nx Z H1
theorem cR (he:PE X e te) (hs:Eb e none pos.line X.env=pure false:=by rfl):PS X (.Expr e pos) (fV te):=by
 intro pins s Z H D I h
 exact TC (iO (he pins s Z H _ I h) λv s1 ⟨x,H1,I1,r1,q1⟩=>⟨Z,H1,I1,q1⟩) I.quiet hs
def dY (te:TE):TS:=λD Z H=>te Z H D.rt
theorem bD (he:PE X e te):PS X (.Return (some e) pos) (dY te):=by
 intro pins s Z H D I h
 exact wpAny_Return_some (iO (he pins s Z H _ I h) λv s1 ⟨x,H1,I1,r1,q1⟩=>⟨x,Z,H1,I1,r1,q1⟩)
def gX (c:TT) (t u:TS):TS:=λD Z H=>c Z H λb H1=>if b=true then t D Z H1 else u D Z H1
theorem eN {c:Expr}{a b:List dR}{tc:TT}(hc:PT X c tc) (ha:LA X a t) (hb:LA X b u):PS X (.If c a b pos) (gX tc t u):=by
 intro pins s Z H D I h
 refine wpAny_If (iO (hc pins s Z H _ I h) λd s1 ⟨H1,I1,q1⟩=>?_)
 cases d with
 | true=>exact ha pins s1 Z H1 D I1 q1
 | false=>exact hb pins s1 Z H1 D I1 q1
def vZ:TS:=λ_ _ _=>False
theorem si:PS X st vZ:=λ_ _ _ _ _ _ h=>h.elim
end
abbrev TG:=V->St->Hp->(St->Hp->Prop)->Prop
abbrev Xz:=List V->St->Hp->(St->Hp->Prop)->Prop
def PG (X:Cx) (target:Expr) (t:TG):Prop :=
 ∀ (pins:List (ag×gC)) (s:aq) (Z:St) (H:Hp) (v:V) (u:ai) (Q:St->Hp->Prop),Inv X pins Z H s->RelV v u->t v Z H Q ->
  aK (aY X.prog X.w) X.A (N8 target X.env u) (λ_ s'=>∃ σ' H',Inv X pins σ' H' s'/\Q σ' H') X.xe s
def PGs (X:Cx) (ts:List Expr) (t:Xz):Prop :=
 ∀ (pins:List (ag×gC)) (s:aq) (Z:St) (H:Hp) (vs:List V) (us:List ai) (Q:St->Hp->Prop),Inv X pins Z H s->Vals vs us->t vs Z H Q ->
  aK (aY X.prog X.w) X.A (assignInOrder ((A1 ts X.env).map (·.2)) us) (λ_ s'=>∃ σ' H',Inv X pins σ' H' s'/\Q σ' H') X.xe s
abbrev XA:=V->V->V->Hp->(Hp->Prop)->Prop
def XB (X:Cx) (t:XA):Prop :=
 ∀ (pins:List (ag×gC)) (s:aq) (Z:St) (H:Hp) (o i v:V) (ov iv u:ai) (Q:Hp->Prop),Inv X pins Z H s->RelV o ov->RelV i iv->RelV v u->t o i v H Q ->
  aK (aY X.prog X.w) X.A (setItem ov iv u) (λ_ s'=>∃ H',Inv X pins Z H' s'/\Q H') X.xe s
abbrev TIp:=V->V->Hp->VK->Prop
def PIp (X:Cx) (op:LF) (t:TIp):Prop :=
 ∀ (pins:List (ag×gC)) (s:aq) (Z:St) (H:Hp) (x y:V) (v u:ai) (Q:VK),Inv X pins Z H s->RelV x v->RelV y u->t x y H Q ->
  aK (aY X.prog X.w) X.A (Ec op v u) (EP X pins Z Q) X.xe s
section
variable {X:Cx}{pos:rD}
def b9 (i:Nat):TG:=λv Z H Q=>Q (Z.set i (some v)) H
theorem c8 {i:Nat}{x:aZ}(hN:X.N.Nodup) (hi:X.N[i]?=some x) (hx:Loc X.env.scope x) (hf:X.fn x=true\/X.env.scope.names.lookup x=some .local:=by first|exact .inl rfl|exact .inr rfl|assumption):PG X (.Name x pos) (b9 i):=by
 intro pins s Z H v u Q I r h
 exact wpAny_assign_Name (uf I hN hi hx r (λs' I'=>⟨_,H,I',h⟩) hf)
def RY:Xz:=λvs Z H Q=>vs=[]/\Q Z H
def rn (t:TG) (u:Xz):Xz:=λvs Z H Q=>∃ v r,vs=v::r/\t v Z H λσ' H'=>u r σ' H' Q
theorem D0:PGs X [] RY:=by
 intro pins s Z H vs us Q I r h
 obtain ⟨e,h⟩:=h
 subst e
 cases r
 exact assignInOrder_nil ⟨Z,H,I,h⟩
theorem jl {e:Expr}{es:List Expr}{t:TG}{u:Xz}(h1:PG X e t) (h2:PGs X es u)
  (hs:(A1 (e::es) X.env).map (·.2)=N8 e X.env::(A1 es X.env).map (·.2):=by rfl):PGs X (e::es) (rn t u):=by
 intro pins s Z H vs us Q I r h
 obtain ⟨v,vr,e1,h⟩:=h
 subst e1
 cases r with
 | cons r rr =>
  rw [hs]
  refine assignInOrder_cons (iO (h1 pins s Z H _ _ _ I r h) λ_ s1 ⟨σ1,H1,I1,q1⟩=>?_)
  exact h2 pins s1 σ1 H1 _ _ Q I1 rr q1
def RZ (K:aa) (n:Nat) (t:Xz):TG:=λv Z H Q=>∃ a xs,v=.ref a/\sG K H a xs/\xs.length=n/\t xs Z H Q
theorem JG {es:List Expr}{k:Nat}{t:Xz}{n:Nat}(hc:X.calm=true) (h:PGs X es t)
  (hn:(A1 es X.env).length=n:=by rfl) (hst:(A1 es X.env).findIdx? (·.1)=none:=by rfl):PG X (.Tuple es k pos) (RZ X.K n t):=by
 intro pins s Z H v u Q I r hw
 obtain ⟨a,xs,e1,hq,hl,hw⟩:=hw
 subst e1
 cases r
 obtain ⟨its,rv,ht,hz⟩:=I.tuple hq
 refine assign_Tuple_tuple (I.ok.hd hc) ht (by simp [hn,← hl,rv.length]) hst λh' hx=>?_
 have I1:Inv X pins Z H { s with heap:=h' }:=I.kept (t':=s.toks) λb o e=>hx b o (aS (aI e)) e
 exact h pins _ Z H xs _ Q I1 (by simpa using rv) hw
def Oz (to ti:TE) (t:XA):TG:=λv Z H Q=>to Z H λo H1=>ti Z H1 λi H2=>t o i v H2 λH3=>Q Z H3
theorem Eo {o i:Expr}{to ti:TE}{t:XA}(ho:PE X o to) (hi:PE X i ti) (hs:XB X t)
  (ha:∀ v,N8 (.Subscript o i pos) X.env v=(do
   let ov ← qH [v] (gp o X.env)
   let iv ← qH [v,ov] (gp i X.env)
   Ee pos
   qH [v,ov,iv] (setItem ov iv v)
   release [v,ov,iv] []):=by intro _;rfl):PG X (.Subscript o i pos) (Oz to ti t):=by
 intro pins s Z H v u Q I r h
 rw [ha]
 refine ae (cF (iO (ho pins s Z H _ I h) λov s1 ⟨x,H1,I1,r1,q1⟩=>?_))
 refine ae (cF (iO (hi pins s1 Z H1 _ I1 q1) λiv s2 ⟨y,H2,I2,r2,q2⟩=>?_))
 refine ae (GX (ae (cF (iO (hs pins s2 Z H2 x y v ov iv u _ I2 r1 r2 r q2) λ_ s3 ⟨H3,I3,q3⟩=>?_))))
 exact wpAny_release ⟨Z,H3,I3,q3⟩
def gY (te:TE) (g:TG):TS:=λD Z H=>te Z H λx H1=>g x Z H1 D.nx
theorem Ep {tg e:Expr}{te:TE}{g:TG}(he:PE X e te) (hg:PG X tg g) (hs:swapsWithSole [tg] e pos.line X.env=pure false:=by rfl) (hw:swappedStores [tg] e X.env=pure none:=by rfl)
  (h1:(A1 [tg] X.env).map (·.2)=[N8 tg X.env]:=by rfl):PS X (.Assign [tg] e pos) (gY te g):=by
 intro pins s Z H D I h
 refine wpAny_Assign_stores (iO (he pins s Z H _ I h) λv s1 ⟨x,H1,I1,r1,q1⟩=>?_) hs hw
 rw [h1]
 exact iO (hg pins s1 Z H1 x v _ I1 r1 q1) λ_ s2 q=>q
theorem dD {i:Nat}{x:aZ}{e:Expr}{te:TE}{pos':rD}(hN:X.N.Nodup) (hi:X.N[i]?=some x) (hx:Loc X.env.scope x) (he:PE X e te) (hs:Eb e (some (.Name x pos')) pos.line X.env=pure false:=by rfl) (hf:X.fn x=true\/X.env.scope.names.lookup x=some .local:=by first|exact .inl rfl|exact .inr rfl|assumption) :
  PS X (.Assign [.Name x pos'] e pos) (gY te (b9 i)):=by
 intro pins s Z H D I h
 refine wpAny_Assign_Name (iO (he pins s Z H _ I h) λv s1 ⟨y,H1,I1,r1,q1⟩=>?_) hs
 exact uf I1 hN hi hx r1 (λs2 I2=>⟨_,H1,I2,q1⟩) hf
def UA (i:Nat) (te:TE) (ti:TIp):TS:=λD Z H=>∃ x,Z[i]?=some (some x)/\te Z H λy H1=>ti x y H1 λz H2=>D.nx (Z.set i (some z)) H2
theorem OA {i:Nat}{x:aZ}{e:Expr}{te:TE}{op:LF}{ti:TIp}{pos':rD}(hN:X.N.Nodup) (hi:X.N[i]?=some x) (hx:Loc X.env.scope x) (he:PE X e te) (ho:PIp X op ti) (hf:X.fn x=true\/X.env.scope.names.lookup x=some .local:=by first|exact .inl rfl|exact .inr rfl|assumption) :
  PS X (.AugAssign (.Name x pos') op e pos) (UA i te ti):=by
 intro pins s Z H D I h
 obtain ⟨v,e1,h⟩:=h
 obtain ⟨m,hn,hl⟩:=I.loc
 have vis:Vis X.env.scope x:=by rcases hx with k|k;exact .inl k;exact .inr (.inl k)
 obtain ⟨u,r,l⟩:=hl i x v hi e1 vis
 refine wpAny_AugAssign_Name ?_
 have go:aK (aY X.prog X.w) X.A (gp e X.env) (λw s₂=>aK (aY X.prog X.w) X.A (Ec op u w) (λr s₃=>aK (aY X.prog X.w) X.A (storeName X.env x r) (λ_=>SP X pins D .next) X.xe s₃) X.xe s₂) X.xe s:=by
  refine iO (he pins s Z H _ I h) λw s1 ⟨y,H1,I1,r1,q1⟩=>?_
  refine iO (ho pins s1 Z H1 v y u w _ I1 r r1 q1) λz s2 ⟨zv,H2,I2,r2,q2⟩=>?_
  exact uf I2 hN hi hx r2 (λs3 I3=>⟨_,H2,I3,q2⟩) hf
 rcases l with ⟨hk,hm⟩|⟨hk,c,hc,hcell⟩
 ·exact ua I.ok.kind hk hn hm go
 ·rcases hk with hk|hk
  ·exact wpAny_loadName_cell I.ok.kind hk hc hcell go
  ·rcases hx with k|k
   ·have:X.env.scope.names.lookup x=some .free:=hk
    rw [k] at this;cases this
   ·have:X.env.scope.names.lookup x=some .free:=hk
    rw [k] at this;cases this
end
section
variable {X:Cx}{pos:rD}
def JH (c:TT) (tb:TS):TS:=λD Z H=>∃ W:Nat->St->Hp->Prop,(∃ m,W m Z H)/\∀ m Z H,W m Z H ->
 c Z H λb H1=>if b=true then ∃ N:St->Hp->Prop,(∀ σ' H',N σ' H'->∃ m',m'<m/\W m' σ' H')/\tb { D with nx:=N,ct:=N,bk:=D.nx } Z H1 else D.nx Z H1
theorem Md {c:Expr}{body:List dR}{tc:TT}{tb:TS}(hp:PassesOwn (aY X.prog X.w) X.A X.env X.xe) (hc:PT X c tc) (hb:LA X body tb):PS X (.While c body [] pos) (JH tc tb):=by
 intro pins s Z H D I h
 obtain ⟨W,⟨m0,w0⟩,turn⟩:=h
 refine wpAny_While (codeAny_whileLoop (λn s'=>∃ σ' H',Inv X pins σ' H' s'/\W n σ' H') ?_ m0 ⟨Z,H,I,w0⟩)
 rintro n s1 ⟨σ1,H1,I1,w1⟩
 refine m7 hp (iO (hc pins s1 σ1 H1 _ I1 (turn n σ1 H1 w1)) λb s2 ⟨H2,I2,q2⟩=>?_)
 cases b with
 | true =>
  obtain ⟨N,hN,q2⟩:=q2
  rw [if_pos rfl]
  refine m7 hp (iO (hb pins s2 σ1 H2 _ I2 q2) λf s3 q3=>?_)
  cases f with
  | next =>
   obtain ⟨σ3,H3,I3,n3⟩:=q3
   obtain ⟨m',hm,w3⟩:=hN σ3 H3 n3
   exact ⟨m',hm,σ3,H3,I3,w3⟩
  | cont =>
   obtain ⟨σ3,H3,I3,n3⟩:=q3
   obtain ⟨m',hm,w3⟩:=hN σ3 H3 n3
   exact ⟨m',hm,σ3,H3,I3,w3⟩
  | brk=>exact q3
  | ret v=>exact q3
 | false =>
  rw [if_neg bM]
  exact qG ⟨σ1,H2,I2,q2⟩
end
structure It where
 go:Nat->Hp->Prop
 QE:Nat->Hp->V->Hp->Prop
 stop:Nat->Hp->Prop
def Bg (X:Cx) (pins:List (ag×gC)) (H:Hp) (b:ag):Prop :=
 H b=none/\b≠X.env.locals/\b∉X.fs/\(b∈X.ex\/X.s₀.heap.objs.size<=b)/\(∀ x c,X.env.cells.lookup x=some c->c≠b)/\∀ p∈X.pn++pins,p.1≠b
theorem Inv.NZ {X:Cx}{pins:List (ag×gC)}{Z:St}{H H':Hp}{s:aq}{b:ag}(I:Inv X pins Z H s) (hb:s.heap.objs.size<=b) (hn:H' b=none):Bg X pins H' b:=by
 refine ⟨hn,fY (bc I.lt hb),I.nofs hb,.inr (bE I.sz hb),λx c e z=>?_,λp hp z=>?_⟩
 ·obtain ⟨v,q⟩:=I.cell x c e
  exact absurd (bc q.lt (by rw [z];exact hb)) (gE _)
 ·exact absurd (bc (aI (I.pin p hp).1) (by rw [z];exact hb)) (gE _)
structure OB (P:a8) (w:bT) (K:aa) (tg:Expr) (J:It) (fp:List ag) (it:ag) (tn:Nat->cg->Prop):Prop where
 mem:it∈fp
 obj:∀ i h,tn i h->∀ b∈fp,∃ o,h.get? b=some o/\∀ v,o.data≠.cell v
 keep:∀ i h h',tn i h->(∀ b∈fp,∀ o,h.get? b=some o->h'.get? b=some o)->tn i h'
 item:∀ (X:Cx),X.prog=P->X.w=w->X.K=K->X.calm=true->∀ (i:Nat) (pins:List (ag×gC)) (s:aq) (Z:St) (H:Hp) (E:ai->aq->Prop),Inv X pins Z H s->(∀ b∈fp,Bg X pins H b)->tn i s.heap->J.go i H ->
  aK (aY P w) X.A (la (.ref it)) (λr s1=>∃ u,r=some u /\
   aK (aY P w) X.A (A9 tg (.ref it) u) (λ_ s2=>∃ x H',Inv X pins Z H' s2/\RelV x u/\J.QE i H x H'/\tn (i+1) s2.heap/\∀ b∈fp,H' b=none) E s1) E s
 done:∀ (X:Cx),X.prog=P->X.w=w->X.K=K->X.calm=true->∀ (i:Nat) (pins:List (ag×gC)) (s:aq) (Z:St) (H:Hp) (E:ai->aq->Prop),Inv X pins Z H s->(∀ b∈fp,Bg X pins H b)->tn i s.heap->J.stop i H ->
  aK (aY P w) X.A (la (.ref it)) (λr s1=>r=none/\Inv X pins Z H s1) E s
 self:∀ (A:bZ) (i:Nat) (s:aq) (Q:ai->aq->Prop) (E:ai->aq->Prop),tn i s.heap->Q (.ref it) s->aK (aY P w) A (TF (.ref it)) Q E s
abbrev TI:=St->Hp->(It->Hp->Prop)->Prop
def PIE (X:Cx) (pins:List (ag×gC)) (Z:St) (tg:Expr) (R:It->Hp->Prop) (itv:ai) (s2:aq):Prop :=
 ∃ (it:ag) (fp:List ag) (tn:Nat->cg->Prop) (J:It) (H':Hp),itv=.ref it/\Inv X pins Z H' s2/\OB X.prog X.w X.K tg J fp it tn/\tn 0 s2.heap/\(∀ b∈fp,Bg X pins H' b)/\R J H'
def PI (X:Cx) (tg iter:Expr) (wi:TI):Prop :=
 ∀ (pins:List (ag×gC)) (s:aq) (Z:St) (H:Hp) (R:It->Hp->Prop),Inv X pins Z H s->wi Z H R ->
  aK (aY X.prog X.w) X.A (gp iter X.env) (λv s1=>aK (aY X.prog X.w) X.A (TF v) (PIE X pins Z tg R) X.xe s1) X.xe s
theorem IQ {M:TB}{A:bZ}{E:ai->aq->Prop}{s:aq}{tg:Expr}{it:ag}{u:ai}{o:gC}{n:String}{vs:Array ai}{Q:Unit->aq->Prop}(ho:s.heap.get? it=some o) (hc:o.cls=.type n) (hd:o.data=.fields vs)
    (hn:["enumerate","zip","dict_itemiterator","dict_reverseitemiterator","odict_iterator","itertools.zip_longest","itertools.pairwise"].contains n=false) (hQ:Q () s):aK M A (A9 tg (.ref it) u) Q E s:=by
  unfold A9
  cases tg<;>first
    | exact av hQ
    | (cases u<;>first
        | exact av hQ
        | (refine ae (TH ho ?_)
           rw [hc,hd]
           show aK M A (if (["enumerate","zip","dict_itemiterator","dict_reverseitemiterator","odict_iterator","itertools.zip_longest","itertools.pairwise"].contains n && vs[0]? == some (cO _))=true then _ else _) Q E s
           rw [if_neg (by intro h;rw [hn,kJ] at h;cases h)]
           exact av hQ))
def Ug (K:aa) (a:ag):It :=
 ⟨λi H=>∃ xs x,fg K H a xs/\xs[i]?=some x,λi H x H'=>H'=H/\∀ xs,fg K H a xs->xs[i]?=some x,λi H=>∃ xs,fg K H a xs/\xs.length<=i⟩
def Itt (K:aa) (a:ag):It :=
 ⟨λi H=>∃ xs x,sG K H a xs/\xs[i]?=some x,λi H x H'=>H'=H/\∀ xs,sG K H a xs->xs[i]?=some x,λi H=>∃ xs,sG K H a xs/\xs.length<=i⟩
def XC (lo:Int) (n:Nat):It:=⟨λi _=>i<n,λi H x H'=>H'=H/\x=.int (lo+i),λi _=>n<=i⟩
theorem R0 {P:a8}{w:bT}{K:aa}{tg:Expr}(a it:ag):OB P w K tg (Ug K a) [it] it (λi h=>h.IsListIter it a i) where
 mem:=by simp
 obj:=λi h st b hb=>by
  have e:b=it:=by simpa using hb
  subst e
  obtain ⟨o,e,c,d⟩:=st
  exact ⟨o,e,λv z=>by rw [d] at z;cases z⟩
 keep:=λi h h' st k=>st.at λo e=>k it (by simp) o e
 item:=by
  intro X hP hw hK hc i pins s Z H E I hf st hg
  subst hP hw hK
  obtain ⟨xs,x,hq,hx⟩:=hg
  obtain ⟨its,rv,p,hz⟩:=I.list hq
  obtain ⟨u,hu,ru⟩:=rv.get hx
  obtain ⟨f0,f1,f2,f3,f4,f5⟩:=hf it (by simp)
  refine wpAny_pyNext_list_item st p.isList (x:=u) (by simpa using hu) λh' st' sb=>?_
  have I1:Inv X pins Z H { s with heap:=h' }:=I.turned (t':=s.toks) (λb o hb e=>(sb.2 b hb).trans e) f0 f1 f3 f4 f5
  obtain ⟨o,e,c,d⟩:=id st'
  exact ⟨u,rfl,IQ (s:={ s with heap:=h' }) e c d (by decide) ⟨x,H,I1,ru,⟨rfl,λys hy=>by rw [I.WS hy hq];exact hx⟩,st',λb hb=>(hf b hb).1⟩⟩
 done:=by
  intro X hP hw hK hc i pins s Z H E I hf st hg
  subst hP hw hK
  obtain ⟨xs,hq,hx⟩:=hg
  obtain ⟨its,rv,p,hz⟩:=I.list hq
  obtain ⟨f0,f1,f2,f3,f4,f5⟩:=hf it (by simp)
  have hl:=rv.length
  exact wpAny_pyNext_list_end (I.ok.hd hc) st p.isList (by simp;omega) λh' eb=>⟨rfl,I.turned (t':=s.toks) (λb o hb e=>eb b o hb e) f0 f1 f3 f4 f5⟩
 self:=λ_ _ _ _ _ st h=>wpAny_pyIter_listiter st h
theorem OC {P:a8}{w:bT}{K:aa}{tg:Expr}(a it:ag):OB P w K tg (Itt K a) [it] it (λi h=>h.IsTupleIter it a i) where
 mem:=by simp
 obj:=λi h st b hb=>by
  have e:b=it:=by simpa using hb
  subst e
  obtain ⟨o,e,c,d⟩:=st
  exact ⟨o,e,λv z=>by rw [d] at z;cases z⟩
 keep:=λi h h' st k=>st.at λo e=>k it (by simp) o e
 item:=by
  intro X hP hw hK hc i pins s Z H E I hf st hg
  subst hP hw hK
  obtain ⟨xs,x,hq,hx⟩:=hg
  obtain ⟨its,rv,p,hz⟩:=I.tuple hq
  obtain ⟨u,hu,ru⟩:=rv.get hx
  obtain ⟨f0,f1,f2,f3,f4,f5⟩:=hf it (by simp)
  refine wpAny_pyNext_tuple_item st (show s.heap.IsTuple a its.toArray from p) (x:=u) (by simpa using hu) λh' st' sb=>?_
  have I1:Inv X pins Z H { s with heap:=h' }:=I.turned (t':=s.toks) (λb o hb e=>(sb.2 b hb).trans e) f0 f1 f3 f4 f5
  obtain ⟨o,e,c,d⟩:=id st'
  exact ⟨u,rfl,IQ (s:={ s with heap:=h' }) e c d (by decide) ⟨x,H,I1,ru,⟨rfl,λys hy=>by rw [I.Tn hy hq];exact hx⟩,st',λb hb=>(hf b hb).1⟩⟩
 done:=by
  intro X hP hw hK hc i pins s Z H E I hf st hg
  subst hP hw hK
  obtain ⟨xs,hq,hx⟩:=hg
  obtain ⟨its,rv,p,hz⟩:=I.tuple hq
  obtain ⟨f0,f1,f2,f3,f4,f5⟩:=hf it (by simp)
  have hl:=rv.length
  exact wpAny_pyNext_tuple_end (I.ok.hd hc) st (show s.heap.IsTuple a its.toArray from p) (by simp;omega) λh' eb=>⟨rfl,I.turned (t':=s.toks) (λb o hb e=>eb b o hb e) f0 f1 f3 f4 f5⟩
 self:=λ_ _ _ _ _ st h=>wpAny_pyIter_tupleiter st h
theorem OD {P:a8}{w:bT}{K:aa}{tg:Expr}(it:ag) (lo:Int) (n:Nat):OB P w K tg (XC lo n) [it] it (λi h=>On h it (lo+(i:Nat)*1) ((n:Int)-(i:Nat)) 1) where
 mem:=by simp
 obj:=λi h st b hb=>by
  have e:b=it:=by simpa using hb
  subst e
  exact ⟨_,st,λv z=>by
   have z':Data.fields _=Data.cell v:=z
   cases z'⟩
 keep:=λi h h' st k=>k it (by simp) _ st
 item:=by
  intro X hP hw hK hc i pins s Z H E I hf st hg
  subst hP hw hK
  obtain ⟨f0,f1,f2,f3,f4,f5⟩:=hf it (by simp)
  have W:=Walks.range (prog:=X.prog) (w:=X.w) (I.ok.hd hc) it lo 1 n
  refine W.item i s _ _ hg st λv h' tk hv st' kk=>?_
  obtain ⟨t,rfl⟩:=hv
  have I1:Inv X pins Z H { s with heap:=h',toks:=tk }:=I.turned (λb o hb e=>kk b o (by simpa using hb) e) f0 f1 f3 f4 f5
  refine ⟨_,rfl,IQ (s:={ s with heap:=h',toks:=tk }) (n:="range_iterator") st' rfl rfl (by decide) ⟨.int (lo+i),H,I1,⟨t,?_⟩,⟨rfl,rfl⟩,st',λb hb=>(hf b hb).1⟩⟩
  rw [Int.mul_one]
 done:=by
  intro X hP hw hK hc i pins s Z H E I hf st hg
  subst hP hw hK
  obtain ⟨f0,f1,f2,f3,f4,f5⟩:=hf it (by simp)
  exact YS (I.ok.hd hc) st (by have:n<=i:=hg;omega) λh' eb=>⟨rfl,I.turned (t':=s.toks) (λb o hb e=>eb b o hb e) f0 f1 f3 f4 f5⟩
 self:=λ_ _ _ _ _ st h=>YT st h
end L2
namespace L2
section
variable {X:Cx}{tg:Expr}
theorem Me {pins:List (ag×gC)}{Z:St}{H:Hp}{s:aq}{R:It->Hp->Prop}{E:ai->aq->Prop}{lo hi:Int}{t u v:Tok}{tk:Nat}(I:Inv X pins Z H s) (h1:-(2^62)<=lo) (h2:lo<2^62) (h3:-(2^62)<=hi) (h4:hi<2^62)
  (q:R (XC lo (hi-lo).toNat) H):aK (aY X.prog X.w) X.A (TF (.ref s.heap.objs.size)) (PIE X pins Z tg R) E { s with heap:=s.heap.push { cls:=.type "range",data:=.fields #[.int lo t,.int hi u,.int 1 v] },toks:=tk }:=by
 refine wpAny_pyIter_range (IsRange.new ..) (small_one h1 h2 h3 h4) ?_
 have I1:Inv X pins Z H { s with heap:=s.heap.push { cls:=.type "range",data:=.fields #[.int lo t,.int hi u,.int 1 v] },toks:=tk }:=I.kept λb o e=>au _ e
 refine ⟨(s.heap.push { cls:=.type "range",data:=.fields #[.int lo t,.int hi u,.int 1 v] }).objs.size,[(s.heap.push { cls:=.type "range",data:=.fields #[.int lo t,.int hi u,.int 1 v] }).objs.size],_,_,H,rfl,
  I1.kept (t':=tk) λb o e=>au _ e,OD _ lo (hi-lo).toNat,?_,λb hb=>?_,q⟩
 ·have e1:lo+((0:Nat):Int)*1=lo:=by simp
  have e2:(((hi-lo).toNat:Nat):Int)-((0:Nat):Int)=nh lo hi 1:=by rw [rangeSize_one];split<;>omega
  show On _ _ (lo+((0:Nat):Int)*1) ((((hi-lo).toNat:Nat):Int)-((0:Nat):Int)) 1
  rw [e1,e2]
  exact aL _ rfl
 ·have e:b=(s.heap.push { cls:=.type "range",data:=.fields #[.int lo t,.int hi u,.int 1 v] }).objs.size:=by simpa using hb
  subst e
  exact I1.NZ (ax _) (I1.fX.fresh (ax _))
def Cv (ta:TA):TI:=λZ H R=>ta Z H λvs H1=>∃ j:Int,vs=[.int j]/\-(2^62)<=j/\j<2^62/\R (XC 0 j.toNat) H1
def UB (ta:TA):TI:=λZ H R=>ta Z H λvs H1=>∃ i j:Int,vs=[.int i,.int j]/\(-(2^62)<=i/\i<2^62/\-(2^62)<=j/\j<2^62)/\R (XC i (j-i).toNat) H1
theorem sf {a:Expr}{ta:TA}{p pos:rD}(hg:Gl X "range") (hm:X.mg "range"=none) (ha:PA X [a] ta) (hs:bw [a] X.env=[(false,gp a X.env)]:=by rfl):PI X tg (.Call (.Name "range" p) [a] [] pos) (Cv ta):=by
 intro pins s Z H R I h
 refine Call_ (rg I hg hm boot_range (dJ (iO (ha pos pins s Z H _ I h) λus s1 ⟨vs,H1,I1,r1,q1⟩=>?_) hs rfl))
 obtain ⟨j,e,q1,q2,q⟩:=q1
 subst e
 cases r1 with
 | cons r rr =>
  cases rr
  obtain ⟨t,rfl⟩:=r
  exact call_range_1 (Me I1 (by omega) (by omega) q1 q2 (by simpa using q))
theorem R5 {a b:Expr}{ta:TA}{p pos:rD}(hg:Gl X "range") (hm:X.mg "range"=none) (ha:PA X [a,b] ta) (hs:bw [a,b] X.env=[(false,gp a X.env),(false,gp b X.env)]:=by rfl) (hs2:bw [b] X.env=[(false,gp b X.env)]:=by rfl) :
  PI X tg (.Call (.Name "range" p) [a,b] [] pos) (UB ta):=by
 intro pins s Z H R I h
 refine Call_ (rg I hg hm boot_range (dJ (iO (ha pos pins s Z H _ I h) λus s1 ⟨vs,H1,I1,r1,q1⟩=>?_) (by rw [hs,hs2]) (by rw [hs2];rfl)))
 obtain ⟨i,j,e,⟨q1,q2,q3,q4⟩,q⟩:=q1
 subst e
 cases r1 with
 | cons r rr =>
  cases rr with
  | cons r' rr =>
   cases rr
   obtain ⟨t,rfl⟩:=r
   obtain ⟨t',rfl⟩:=r'
   exact call_range_2 (Me I1 q1 q2 q3 q4 q)
def zH (wi:TI) (g:TG) (tb:TS):TS:=λD Z H=>wi Z H λJ H1=>∃ W:Nat->Nat->St->Hp->Prop,(∃ m,W 0 m Z H1)/\∀ i m Z H,W i m Z H ->
 (J.stop i H/\D.nx Z H)\/(J.go i H/\∃ N:St->Hp->Prop,(∀ σ' H',N σ' H'->∃ m',m'<m/\W (i+1) m' σ' H')/\∀ x H',J.QE i H x H'->g x Z H' λσ2 H2=>tb { D with nx:=N,ct:=N,bk:=D.nx } σ2 H2)
def Er (fp:List ag) (h:cg):List (ag×gC):=fp.filterMap λb=>(h.get? b).map λo=>(b,o)
theorem uM {fp:List ag}{h:cg}{b:ag}{o:gC}(hb:b∈fp) (e:h.get? b=some o):(b,o)∈Er fp h:=pJ.mpr ⟨b,hb,by rw [e];rfl⟩
theorem R6 {fp:List ag}{h:cg}{p:ag×gC}(hp:p∈Er fp h):p.1∈fp/\h.get? p.1=some p.2:=by
 obtain ⟨b,hb,e⟩:=pJ.mp hp
 cases q:h.get? b with
 | none=>rw [q] at e;cases e
 | some o =>
  rw [q] at e
  have e':(b,o)=p:=aX e
  subst e'
  exact ⟨hb,q⟩
theorem Inv.pinned {pins:List (ag×gC)}{Z:St}{H:Hp}{s:aq}{fp:List ag}(I:Inv X pins Z H s) (hf:∀ b∈fp,Bg X pins H b) (ho:∀ b∈fp,∃ o,s.heap.get? b=some o/\∀ v,o.data≠.cell v):Inv X (pins++Er fp s.heap) Z H s :=
 I.RE λp hp=>(a7.mp hp).elim (λz=>I.pin p (bp _ z)) λz=>by
  obtain ⟨hb,e⟩:=R6 z
  obtain ⟨f0,f1,f2,_⟩:=hf p.1 hb
  obtain ⟨o,e',d⟩:=ho p.1 hb
  rw [e] at e';cases e'
  exact ⟨e,f0,f1,f2,d⟩
theorem Inv.AV {pins pl:List (ag×gC)}{Z:St}{H:Hp}{s:aq}(I:Inv X (pins++pl) Z H s):Inv X pins Z H s:=I.RE λp hp=>I.pin p (bp _ (dh _ hp))
theorem rh {iter:Expr}{body:List dR}{wi:TI}{g:TG}{tb:TS}{pos:rD}(hp:PassesOwn (aY X.prog X.w) X.A X.env X.xe) (hc:X.calm=true) (hi:PI X tg iter wi) (hg:PG X tg g) (hb:LA X body tb)
  (hs:∀ x,xN iter X.env x=pure x:=by intro _;rfl):PS X (.For tg iter body [] pos) (zH wi g tb):=by
 intro pins s Z H D I h
 refine wpAny_For (iO (hi pins s Z H _ I h) λv s1 h1=>iO h1 λitv s2 h2=>?_) hs
 obtain ⟨it,fp,tn,J,H2,e,I2,T,st2,f2,W,⟨m0,w0⟩,turn⟩:=h2
 subst e
 -- what stays true of the iterator's objects through the UC
 have stat:∀ {H':Hp},(∀ b∈fp,H' b=none)->∀ b∈fp,Bg X pins H' b:=λhn b hb=>⟨hn b hb,(f2 b hb).2⟩
 refine codeAny_forLoop_any (λn s'=>∃ i σ' H',Inv X pins σ' H' s'/\tn i s'.heap/\(∀ b∈fp,H' b=none)/\W i n σ' H') ?_ m0 ⟨0,Z,H2,I2,st2,λb hb=>(f2 b hb).1,w0⟩
 rintro n s3 ⟨i,σ3,H3,I3,st3,fr3,w3⟩
 rcases turn i n σ3 H3 w3 with ⟨stop,qn⟩|⟨go,N,hN,step⟩
 ·refine m7 hp (iO (T.done X rfl rfl rfl hc i pins s3 σ3 H3 X.xe I3 (stat fr3) st3 stop) λr s4 ⟨hr,I4⟩=>?_)
  subst hr
  exact qG ⟨σ3,H3,I4,qn⟩
 ·refine m7 hp (iO (T.item X rfl rfl rfl hc i pins s3 σ3 H3 X.xe I3 (stat fr3) st3 go) λr s4 ⟨u,hr,h4⟩=>?_)
  subst hr
  refine m7 hp (iO h4 λ_ s5 ⟨x,H5,I5,r5,y5,st5,fr5⟩=>?_)
  have I5':=I5.pinned (stat fr5) (T.obj _ _ st5)
  refine m7 hp (iO (hg _ s5 σ3 H5 x u _ I5' r5 (step x H5 y5)) λ_ s6 ⟨σ6,H6,I6,q6⟩=>?_)
  refine m7 hp (iO (hb _ s6 σ6 H6 _ I6 q6) λf s7 q7=>?_)
  have again:∀ {σ7:St}{H7:Hp},Inv X (pins++Er fp s5.heap) σ7 H7 s7->N σ7 H7->∃ m,m<n/\∃ i σ' H',Inv X pins σ' H' s7/\tn i s7.heap/\(∀ b∈fp,H' b=none)/\W i m σ' H':=λ{σ7 H7} I7 n7=>by
   obtain ⟨m',hm,w7⟩:=hN σ7 H7 n7
   refine ⟨m',hm,i+1,σ7,H7,I7.AV,T.keep _ _ _ st5 λb hb o e=>(I7.pin (b,o) (bp _ (bp _ (uM hb e)))).1,λb hb=>?_,w7⟩
   obtain ⟨o,e,d⟩:=T.obj _ _ st5 b hb
   exact (I7.pin (b,o) (bp _ (bp _ (uM hb e)))).2.1
  cases f with
  | next=>obtain ⟨σ7,H7,I7,n7⟩:=q7;exact again I7 n7
  | cont=>obtain ⟨σ7,H7,I7,n7⟩:=q7;exact again I7 n7
  | brk=>obtain ⟨σ7,H7,I7,q7⟩:=q7;exact ⟨σ7,H7,I7.AV,q7⟩
  | ret v=>obtain ⟨x7,σ7,H7,I7,r7,q7⟩:=q7;exact ⟨x7,σ7,H7,I7.AV,r7,q7⟩
end
theorem oK {K:aa}{a:ag}{xs:List V}{g:TG}{tb:TS}{D:ug}{Z:St}{H:Hp}(Pv:Nat->St->Hp->Prop) (h0:Pv 0 Z H) (hl:∀ i Z H,i<=xs.length->Pv i Z H->fg K H a xs)
  (hs:∀ i x Z H,xs[i]?=some x->Pv i Z H->g x Z H λσ2 H2=>tb { D with nx:=Pv (i+1),ct:=Pv (i+1),bk:=D.nx } σ2 H2) (hd:∀ Z H,Pv xs.length Z H->D.nx Z H) :
  ∃ W:Nat->Nat->St->Hp->Prop,(∃ m,W 0 m Z H)/\∀ i m Z H,W i m Z H ->
   ((Ug K a).stop i H/\D.nx Z H)\/((Ug K a).go i H/\∃ N:St->Hp->Prop,(∀ σ' H',N σ' H'->∃ m',m'<m/\W (i+1) m' σ' H')/\∀ x H',(Ug K a).QE i H x H'->g x Z H' λσ2 H2=>tb { D with nx:=N,ct:=N,bk:=D.nx } σ2 H2):=by
 refine ⟨λi m Z H=>m=xs.length-i/\i<=xs.length/\Pv i Z H,⟨xs.length,by simp,bG _,h0⟩,?_⟩
 rintro i m Z H ⟨rfl,hi,p⟩
 have q:=hl i Z H hi p
 by_cases hlt:i<xs.length
 ·refine .inr ⟨⟨xs,xs[i],q,by simp [hlt]⟩,Pv (i+1),λσ' H' p'=>⟨xs.length-(i+1),by omega,rfl,hlt,p'⟩,λx H' y=>?_⟩
  obtain ⟨e,y⟩:=y
  subst e
  exact hs i x Z _ (y xs q) p
 ·have e:i=xs.length:=by omega
  subst e
  exact .inl ⟨⟨xs,q,ax _⟩,hd Z H p⟩
theorem XD {K:aa}{a:ag}{xs:List V}{g:TG}{tb:TS}{D:ug}{Z:St}{H:Hp}(Pv:Nat->St->Hp->Prop) (h0:Pv 0 Z H) (hl:∀ i Z H,i<=xs.length->Pv i Z H->sG K H a xs)
  (hs:∀ i x Z H,xs[i]?=some x->Pv i Z H->g x Z H λσ2 H2=>tb { D with nx:=Pv (i+1),ct:=Pv (i+1),bk:=D.nx } σ2 H2) (hd:∀ Z H,Pv xs.length Z H->D.nx Z H) :
  ∃ W:Nat->Nat->St->Hp->Prop,(∃ m,W 0 m Z H)/\∀ i m Z H,W i m Z H ->
   ((Itt K a).stop i H/\D.nx Z H)\/((Itt K a).go i H/\∃ N:St->Hp->Prop,(∀ σ' H',N σ' H'->∃ m',m'<m/\W (i+1) m' σ' H')/\∀ x H',(Itt K a).QE i H x H'->g x Z H' λσ2 H2=>tb { D with nx:=N,ct:=N,bk:=D.nx } σ2 H2):=by
 refine ⟨λi m Z H=>m=xs.length-i/\i<=xs.length/\Pv i Z H,⟨xs.length,by simp,bG _,h0⟩,?_⟩
 rintro i m Z H ⟨rfl,hi,p⟩
 have q:=hl i Z H hi p
 by_cases hlt:i<xs.length
 ·refine .inr ⟨⟨xs,xs[i],q,by simp [hlt]⟩,Pv (i+1),λσ' H' p'=>⟨xs.length-(i+1),by omega,rfl,hlt,p'⟩,λx H' y=>?_⟩
  obtain ⟨e,y⟩:=y
  subst e
  exact hs i x Z _ (y xs q) p
 ·have e:i=xs.length:=by omega
  subst e
  exact .inl ⟨⟨xs,q,ax _⟩,hd Z H p⟩
end L2
namespace L2
abbrev R2:=V->V->Hp->VK->Prop
def vp (X:Cx) (f:ai->ai->LC ai) (r:R2):Prop :=
 ∀ (pins:List (ag×gC)) (s:aq) (Z:St) (H:Hp) (x y:V) (v u:ai) (Q:VK),Inv X pins Z H s->RelV x v->RelV y u->r x y H Q ->
  aK (aY X.prog X.w) X.A (f v u) (EP X pins Z Q) X.xe s
def UnR (X:Cx) (f:ai->LC ai) (r:V->Hp->VK->Prop):Prop :=
 ∀ (pins:List (ag×gC)) (s:aq) (Z:St) (H:Hp) (x:V) (v:ai) (Q:VK),Inv X pins Z H s->RelV x v->r x H Q ->
  aK (aY X.prog X.w) X.A (f v) (EP X pins Z Q) X.xe s
def tL (X:Cx) (f:ai) (r:List V->Hp->VK->Prop):Prop :=
 ∀ (pins:List (ag×gC)) (s:aq) (Z:St) (H:Hp) (xs:List V) (us:List ai) (Q:VK),Inv X pins Z H s->Vals xs us->r xs H Q ->
  aK (aY X.prog X.w) X.A (call f us) (EP X pins Z Q) X.xe s
def TruR (X:Cx) (r:V->Hp->(Bool->Hp->Prop)->Prop):Prop :=
 ∀ (pins:List (ag×gC)) (s:aq) (Z:St) (H:Hp) (x:V) (v:ai) (Q:Bool->Hp->Prop),Inv X pins Z H s->RelV x v->r x H Q ->
  aK (aY X.prog X.w) X.A (truthy v) (TP X pins Z Q) X.xe s
def cZ (r:R2) (ta tb:TE):TE:=λZ H Q=>ta Z H λx H1=>tb Z H1 λy H2=>r x y H2 Q
def tUn (r:V->Hp->VK->Prop) (ta:TE):TE:=λZ H Q=>ta Z H λx H1=>r x H1 Q
def rI (C:Int->Int->Prop) (g:Int->Int->V):R2:=λx y H Q=>∃ i j,x=.int i/\y=.int j/\C i j/\Q (g i j) H
def vv (g:Int->Int->V):R2:=λx y H Q=>∃ i j,x=.int i/\y=.int j/\Q (g i j) H
def rU (g:Int->V):V->Hp->VK->Prop:=λx H Q=>∃ i,x=.int i/\Q (g i) H
section
variable {X:Cx}{a b c:Expr}{ta tb tc:TE}{pos:rD}
theorem aab (ha:PE X a ta) (hb:PE X b tb) {pins:List (ag×gC)}{s:aq}{Z:St}{H:Hp}{R:V->V->Hp->Prop}(I:Inv X pins Z H s)
  (h:ta Z H λx H1=>tb Z H1 λy H2=>R x y H2) {Q:ai->aq->Prop}{f:ai->ai->LC ai}
  (hf:∀ v u s2 x y H2,Inv X pins Z H2 s2->RelV x v->RelV y u->R x y H2->aK (aY X.prog X.w) X.A (f v u) Q X.xe s2) :
  aK (aY X.prog X.w) X.A (gp a X.env) (λv s₁=>aK (aY X.prog X.w) X.A (gp b X.env) (λu s₂=>aK (aY X.prog X.w) X.A (f v u) Q X.xe s₂) X.xe s₁) X.xe s:=by
 refine iO (ha pins s Z H _ I h) λv s1 ⟨x,H1,I1,r1,q1⟩=>?_
 refine iO (hb pins s1 Z H1 _ I1 q1) λu s2 ⟨y,H2,I2,r2,q2⟩=>?_
 exact hf v u s2 x y H2 I2 r1 r2 q2
theorem cD {op:LF}{r:R2}(ho:vp X (vP op) r) (ha:PE X a ta) (hb:PE X b tb):PE X (.BinOp a op b pos) (cZ r ta tb):=by
 intro pins s Z H Q I h
 exact wpAny_BinOp (aab ha hb I h λv u s2 x y H2 I2 rx ry q=>ho pins s2 Z H2 x y v u Q I2 rx ry q)
theorem QP {op:UnaryOp}{r:V->Hp->VK->Prop}(ho:UnR X (unaryOp op) r) (ha:PE X a ta):PE X (.UnaryOp op a pos) (tUn r ta):=by
 intro pins s Z H Q I h
 exact UnaryOp_ (iO (ha pins s Z H _ I h) λv s1 ⟨x,H1,I1,r1,q1⟩=>ho pins s1 Z H1 x v Q I1 r1 q1)
theorem opI {f:ai->ai->LC ai}{C:Int->Int->Prop}{g:Int->Int->Int}
  (rule:∀ (i j:Int) (t u:Tok) (s:aq) (Q:ai->aq->Prop) (E:ai->aq->Prop),C i j->Q (.int (g i j) s.toks) { s with toks:=s.toks+1 }->aK (aY X.prog X.w) X.A (f (.int i t) (.int j u)) Q E s) :
  vp X f (rI C λi j=>.int (g i j)):=by
 intro pins s Z H x y v u Q I rx ry h
 obtain ⟨i,j,rfl,rfl,hc,q⟩:=h
 obtain ⟨t,rfl⟩:=rx
 obtain ⟨t',rfl⟩:=ry
 exact rule i j t t' s _ _ hc ⟨.int (g i j),H,I.tok _,⟨_,rfl⟩,q⟩
theorem XE {f:ai->ai->LC ai}{g:Int->Int->Int}
  (rule:∀ (i j:Int) (t u:Tok) (s:aq) (Q:ai->aq->Prop) (E:ai->aq->Prop),Q (.int (g i j) s.toks) { s with toks:=s.toks+1 }->aK (aY X.prog X.w) X.A (f (.int i t) (.int j u)) Q E s) :
  vp X f (vv λi j=>.int (g i j)):=by
 intro pins s Z H x y v u Q I rx ry h
 obtain ⟨i,j,rfl,rfl,q⟩:=h
 obtain ⟨t,rfl⟩:=rx
 obtain ⟨t',rfl⟩:=ry
 exact rule i j t t' s _ _ ⟨.int (g i j),H,I.tok _,⟨_,rfl⟩,q⟩
theorem XF {f:ai->ai->LC ai}{g:Int->Int->Bool}
  (rule:∀ (i j:Int) (t u:Tok) (s:aq) (Q:ai->aq->Prop) (E:ai->aq->Prop),Q (.bool (g i j)) s->aK (aY X.prog X.w) X.A (f (.int i t) (.int j u)) Q E s) :
  vp X f (vv λi j=>.bl (g i j)):=by
 intro pins s Z H x y v u Q I rx ry h
 obtain ⟨i,j,rfl,rfl,q⟩:=h
 obtain ⟨t,rfl⟩:=rx
 obtain ⟨t',rfl⟩:=ry
 exact rule i j t t' s _ _ ⟨.bl (g i j),H,I,rfl,q⟩
def Bh (i j:Int):Prop:=0<j/\j<1073741824
def UD (i j:Int):Prop:=0<=j/\j<=1000000/\i.natAbs<2^64
def Tw (i j:Int):Prop:=(-(2^64)<i/\i<2^64)\/(-(2^64)<j/\j<2^64)
theorem Tw.ok {i j:Int}(h:Tw i j):IntMulOk i j:=by
 rcases h with ⟨h1,h2⟩|⟨h1,h2⟩
 ·exact .of_left (intBits_le_64 h1 h2)
 ·exact .of_right (intBits_le_64 h1 h2)
theorem aac:vp X (vP .Add) (vv λi j=>.int (i+j)):=XE λ_ _ _ _ _ _ _ q=>add_int q
theorem yK:vp X (vP .Sub) (vv λi j=>.int (i-j)):=XE λ_ _ _ _ _ _ _ q=>sub_int q
theorem aad:vp X (vP .Mult) (rI Tw λi j=>.int (i*j)):=opI λ_ _ _ _ _ _ _ hc q=>mul_int q hc.ok
theorem nM:vp X (vP .FloorDiv) (rI Bh λi j=>.int (i/j)):=opI λi j _ _ _ _ _ hc q=>by
 have h1:(0:Int)<j:=hc.1
 have h2:j<1073741824:=hc.2
 exact floordiv_int (by omega) (by rw [Int.fdiv_eq_ediv_of_nonneg i (by omega)];exact q) (.inl (N9 (by omega)))
theorem iu:vp X (vP .Mod) (rI (λ_ j=>0<j) λi j=>.int (i%j)):=opI λi j _ _ _ _ _ hc q=>by
 have h1:(0:Int)<j:=hc
 exact mod_int' (by omega) (by rw [Int.fmod_eq_emod_of_nonneg i (by omega)];exact q)
theorem JI:vp X (vP .Pow) (rI UD λi j=>.int (i^j.toNat)):=opI λ_ _ _ _ _ _ _ hc q=>pow_int_small hc.1 hc.2.1 hc.2.2 q
theorem XG:vp X (Ec .Add) (vv λi j=>.int (i+j)):=XE λ_ _ _ _ _ _ _ q=>ZL q
theorem XH:vp X (Ec .Sub) (vv λi j=>.int (i-j)):=XE λ_ _ _ _ _ _ _ q=>isub_int q
theorem XI:vp X (Ec .Mult) (rI Tw λi j=>.int (i*j)):=opI λ_ _ _ _ _ _ _ hc q=>imul_int q hc.ok
theorem unI {f:ai->LC ai}{g:Int->Int}
  (rule:∀ (i:Int) (t:Tok) (s:aq) (Q:ai->aq->Prop) (E:ai->aq->Prop),Q (.int (g i) s.toks) { s with toks:=s.toks+1 }->aK (aY X.prog X.w) X.A (f (.int i t)) Q E s) :
  UnR X f (rU λi=>.int (g i)):=by
 intro pins s Z H x v Q I rx h
 obtain ⟨i,rfl,q⟩:=h
 obtain ⟨t,rfl⟩:=rx
 exact rule i t s _ _ ⟨.int (g i),H,I.tok _,⟨_,rfl⟩,q⟩
theorem JJ:UnR X (unaryOp .USub) (rU λi=>.int (-i)):=unI λ_ _ _ _ _ q=>neg_int q
end
def scal:V->V->Bool
 | .non,.non=>true | .non,.int _=>true | .int _,.non=>true | .non,.bl _=>true | .bl _,.non=>true | .non,.str _=>true | .str _,.non=>true
 | .int _,.int _=>true | .bl _,.bl _=>true | .str _,.str _=>true | .byt _,.byt _=>true
 | .int _,.str _=>true | .str _,.int _=>true | .bl _,.str _=>true | .str _,.bl _=>true
 | _,_=>false
def rEq:R2:=λx y H Q=>scal x y=true/\Q (.bl (decide (x=y))) H
def rNe:R2:=λx y H Q=>scal x y=true/\Q (.bl (!decide (x=y))) H
theorem QQ {i j:Int}:decide (V.int i=V.int j)=(i == j):=by
 rw [jH]
 simp
theorem UE {i j:Bool}:decide (V.bl i=V.bl j)=(i == j):=by
 rw [jH]
 simp
theorem QR {i j:aZ}:decide (V.str i=V.str j)=(i == j):=by
 rw [jH]
 simp
theorem QS {i j:Array UInt8}:decide (V.byt i=V.byt j)=(i.toList == j.toList):=by
 rw [jH]
 cases i
 cases j
 simp
section
variable {X:Cx}{a b c:Expr}{ta tb tc:TE}{pos:rD}
theorem gF {pins:List (ag×gC)}{Z:St}{H:Hp}{s:aq}{Q:VK}{k k':Bool}(I:Inv X pins Z H s) (q:Q (.bl k) H) (e:k=k'):EP X pins Z Q (.bool k') s:=by
 subst e
 exact ⟨.bl k,H,I,rfl,q⟩
theorem abZ:vp X (eU .Eq) rEq:=by
 intro pins s Z H x y v u Q I rx ry h
 obtain ⟨hs,q⟩:=h
 cases x with
 | non =>
  cases rx
  cases y with
  | non=>cases ry;exact PySem.EqNone.eq_none_none (gF I q (by simp))
  | bl j=>cases ry;exact PySem.EqNone.eq_none_bool (gF I q (by simp))
  | int j=>obtain ⟨t',rfl⟩:=ry;exact PySem.EqNone.eq_none_int (gF I q (by simp))
  | str j=>obtain ⟨t',rfl⟩:=ry;exact PySem.EqNone.eq_none_str (gF I q (by simp))
  | _=>exact absurd (show false=true from hs) bM
 | bl i =>
  cases rx
  cases y with
  | non=>cases ry;exact PySem.EqNone.eq_bool_none (gF I q (by simp))
  | bl j=>cases ry;exact eq_bool (gF I q UE)
  | str j=>obtain ⟨t',rfl⟩:=ry;exact PySem.EqMixed.eq_bool_str (gF I q (by simp))
  | _=>exact absurd (show false=true from hs) bM
 | int i =>
  obtain ⟨t,rfl⟩:=rx
  cases y with
  | non=>cases ry;exact PySem.EqNone.eq_int_none (gF I q (by simp))
  | int j=>obtain ⟨t',rfl⟩:=ry;exact eq_int (gF I q QQ)
  | str j=>obtain ⟨t',rfl⟩:=ry;exact PySem.EqMixed.eq_int_str (gF I q (by simp))
  | _=>exact absurd (show false=true from hs) bM
 | str i =>
  obtain ⟨t,rfl⟩:=rx
  cases y with
  | non=>cases ry;exact PySem.EqNone.eq_str_none (gF I q (by simp))
  | bl j=>cases ry;exact PySem.EqMixed.eq_str_bool (gF I q (by simp))
  | int j=>obtain ⟨t',rfl⟩:=ry;exact PySem.EqMixed.eq_str_int (gF I q (by simp))
  | str j=>obtain ⟨t',rfl⟩:=ry;exact eq_str (gF I q QR)
  | _=>exact absurd (show false=true from hs) bM
 | byt i =>
  obtain ⟨t,rfl⟩:=rx
  cases y with
  | byt j=>obtain ⟨t',rfl⟩:=ry;exact PySem.W.eq_bytes (gF I q QS)
  | _=>exact absurd (show false=true from hs) bM
 | _=>cases y<;>exact absurd (show false=true from hs) bM
theorem ab0:vp X (eU .NotEq) rNe:=by
 intro pins s Z H x y v u Q I rx ry h
 obtain ⟨hs,q⟩:=h
 cases x with
 | non =>
  cases rx
  cases y with
  | non=>cases ry;exact PySem.EqNone.ne_none_none (gF I q (by simp))
  | bl j=>cases ry;exact PySem.EqNone.ne_none_bool (gF I q (by simp))
  | int j=>obtain ⟨t',rfl⟩:=ry;exact PySem.EqNone.ne_none_int (gF I q (by simp))
  | str j=>obtain ⟨t',rfl⟩:=ry;exact PySem.EqNone.ne_none_str (gF I q (by simp))
  | _=>exact absurd (show false=true from hs) bM
 | bl i =>
  cases rx
  cases y with
  | non=>cases ry;exact PySem.EqNone.ne_bool_none (gF I q (by simp))
  | bl j=>cases ry;exact ne_bool (gF I q (congrArg not UE))
  | str j=>obtain ⟨t',rfl⟩:=ry;exact PySem.EqMixed.ne_bool_str (gF I q (by simp))
  | _=>exact absurd (show false=true from hs) bM
 | int i =>
  obtain ⟨t,rfl⟩:=rx
  cases y with
  | non=>cases ry;exact PySem.EqNone.ne_int_none (gF I q (by simp))
  | int j=>obtain ⟨t',rfl⟩:=ry;exact ne_int (gF I q (congrArg not QQ))
  | str j=>obtain ⟨t',rfl⟩:=ry;exact PySem.EqMixed.ne_int_str (gF I q (by simp))
  | _=>exact absurd (show false=true from hs) bM
 | str i =>
  obtain ⟨t,rfl⟩:=rx
  cases y with
  | non=>cases ry;exact PySem.EqNone.ne_str_none (gF I q (by simp))
  | bl j=>cases ry;exact PySem.EqMixed.ne_str_bool (gF I q (by simp))
  | int j=>obtain ⟨t',rfl⟩:=ry;exact PySem.EqMixed.ne_str_int (gF I q (by simp))
  | str j=>obtain ⟨t',rfl⟩:=ry;exact ne_str (gF I q (congrArg not QR))
  | _=>exact absurd (show false=true from hs) bM
 | byt i =>
  obtain ⟨t,rfl⟩:=rx
  cases y with
  | byt j=>obtain ⟨t',rfl⟩:=ry;exact PySem.W.ne_bytes (gF I q (congrArg not QS))
  | _=>exact absurd (show false=true from hs) bM
 | _=>cases y<;>exact absurd (show false=true from hs) bM
theorem Cw:vp X (eU .Lt) (vv λi j=>.bl (decide (i<j))):=XF λ_ _ _ _ _ _ _ q=>Xl q
theorem Mg:vp X (eU .LtE) (vv λi j=>.bl (decide (i<=j))):=XF λ_ _ _ _ _ _ _ q=>le_int q
theorem Zc:vp X (eU .Gt) (vv λi j=>.bl (decide (j<i))):=XF λ_ _ _ _ _ _ _ q=>gt_int q
theorem Zd:vp X (eU .GtE) (vv λi j=>.bl (decide (j<=i))):=XF λ_ _ _ _ _ _ _ q=>ge_int q
theorem vp.or {f:ai->ai->LC ai}{r r':R2}(h:vp X f r) (h':vp X f r'):vp X f (λx y H Q=>r x y H Q\/r' x y H Q):=by
 intro pins s Z H x y v u Q I rx ry q
 rcases q with q|q
 ·exact h pins s Z H x y v u Q I rx ry q
 ·exact h' pins s Z H x y v u Q I rx ry q
theorem dB (b:Expr) {op:Xk}(h:op≠.In:=by decide) (h2:op≠.NotIn:=by decide):ng op b=false:=by
 have e1:(op == CmpOp.In)=false:=by cases op<;>first|rfl|exact absurd rfl h
 have e2:(op == CmpOp.NotIn)=false:=by cases op<;>first|rfl|exact absurd rfl h2
 cases b<;>simp [ng,e1,e2]
theorem sR {op:Xk}{r:R2}(ho:vp X (eU op) r) (ha:PE X a ta) (hb:PE X b tb) (hm:ng op b=false):PE X (.Compare a [op] [b] pos) (cZ r ta tb):=by
 intro pins s Z H Q I h
 exact wpAny_Compare1 (aab ha hb I h λv u s2 x y H2 I2 rx ry q=>ho pins s2 Z H2 x y v u Q I2 rx ry q) hm
def ft (t:TE):TT:=λZ H Q=>t Z H λx H'=>∃ k,x=.bl k/\Q k H'
theorem cJ {op:Xk}{r:R2}(ho:vp X (eU op) r) (ha:PE X a ta) (hb:PE X b tb) (hm:ng op b=false):PT X (.Compare a [op] [b] pos) (ft (cZ r ta tb)):=by
 intro pins s Z H Q I h
 refine ZK (iO (ha pins s Z H _ I h) λv s1 ⟨x,H1,I1,r1,q1⟩=>iO (hb pins s1 Z H1 _ I1 q1) λu s2 ⟨y,H2,I2,r2,q2⟩ =>
  iO (ho pins s2 Z H2 x y v u _ I2 r1 r2 q2) λc s3 ⟨z,H3,I3,r3,k,e,q3⟩=>?_) hm
 subst e
 cases r3
 exact og ⟨H3,I3,q3⟩
def JK (r r':R2) (ta tb tc:TE):TE:=λZ H Q=>ta Z H λx H1=>tb Z H1 λy H2=>r x y H2 λz H3=>∃ k,z=.bl k /\
 (if k=true then tc Z H3 λw' H4=>r' y w' H4 Q else Q (.bl false) H3)
theorem Mh {op op':Xk}{r r':R2}(ho:vp X (eU op) r) (ho':vp X (eU op') r') (ha:PE X a ta) (hb:PE X b tb) (hc:PE X c tc)
  (hm:lastMarks [op,op'] [b,c]=false:=by with_unfolding_all rfl):PE X (.Compare a [op,op'] [b,c] pos) (JK r r' ta tb tc):=by
 intro pins s Z H Q I h
 refine Compare_chain (iO (ha pins s Z H _ I h) λv s1 ⟨x,H1,I1,r1,q1⟩=>chain_link (iO (hb pins s1 Z H1 _ I1 q1) λu s2 ⟨y,H2,I2,r2,q2⟩ =>
  iO (ho pins s2 Z H2 x y v u _ I2 r1 r2 q2) λd s3 ⟨z,H3,I3,r3,k,e,q3⟩=>?_)) hm
 subst e
 cases r3
 refine og ?_
 cases k with
 | false=>exact ite_ff ⟨.bl false,H3,I3,rfl,q3⟩
 | true=>exact ite_tt (chain_last (iO (hc pins s3 Z H3 _ I3 q3) λw' s4 ⟨z',H4,I4,r4,q4⟩=>ho' pins s4 Z H4 y z' u w' Q I4 r2 r4 q4))
def XJ (K:aa) (x:V) (H:Hp) (k:Bool):Prop :=
 match x with
 | .non=>k=false
 | .bl b=>k=b
 | .int i=>k=(i != 0)
 | .str y=>y.length<=bf/\k=((y.length:Int) != 0)
 | .byt y=>y.size<=bf/\k=((y.size:Int) != 0)
 | .ref p=>(∃ xs,fg K H p xs/\k=!xs.isEmpty)\/(∃ xs,sG K H p xs/\k=!xs.isEmpty)\/∃ kvs,H p=some (.dK kvs)/\k=!kvs.isEmpty
 | _=>False
theorem OE {κ:Type} {kvs:List (κ×V)}{vs:List (κ×ai)}(r:KV kvs vs):(!vs.isEmpty)=!kvs.isEmpty:=by
 cases r<;>rfl
theorem Es {xs:List V}{its:List ai}(r:Vals xs its):(!its.toArray.isEmpty)=!xs.isEmpty:=by
 cases r<;>simp
theorem yL:(bf:Nat)<2^63:=by rw [xO];decide
theorem aae:TruR X (λx H Q=>∃ k,XJ X.K x H k/\Q k H):=by
 intro pins s Z H x v Q I rx h
 obtain ⟨k,e,q⟩:=h
 have hl:=yL
 have hs:bf=16777216:=xO
 cases x with
 | non =>
  cases rx
  have e':k=false:=e
  subst e'
  exact truthy_none ⟨H,I,q⟩
 | bl b =>
  cases rx
  have e':k=b:=e
  subst e'
  exact og ⟨H,I,q⟩
 | int i =>
  obtain ⟨t,rfl⟩:=rx
  have e':k=(i != 0):=e
  subst e'
  exact PySem.P.truthy_int ⟨H,I,q⟩
 | str y =>
  obtain ⟨t,rfl⟩:=rx
  obtain ⟨hy,e'⟩:y.length<=bf/\k=((y.length:Int) != 0):=e
  subst e'
  exact PySem.P.truthy_str (by omega) ⟨H,I.tok _,q⟩
 | byt y =>
  obtain ⟨t,rfl⟩:=rx
  obtain ⟨hy,e'⟩:y.size<=bf/\k=((y.size:Int) != 0):=e
  subst e'
  exact PySem.W.truthy_bytes (by omega) ⟨H,I.tok _,q⟩
 | ref p =>
  cases rx
  have e':(∃ xs,fg X.K H p xs/\k=!xs.isEmpty)\/(∃ xs,sG X.K H p xs/\k=!xs.isEmpty)\/∃ kvs,H p=some (.dK kvs)/\k=!kvs.isEmpty:=e
  rcases e' with ⟨xs,hx,e'⟩|⟨xs,hx,e'⟩|⟨kvs,hx,e'⟩
  ·subst e'
   obtain ⟨its,r,pl,hz⟩:=I.list hx
   have hlen:=r.length
   exact wpAny_truthy_list pl.isList (by simp only [aV];omega) ⟨H,I.tok _,by rw [Es r];exact q⟩
  ·subst e'
   obtain ⟨its,r,pl,hz⟩:=I.tuple hx
   have hlen:=r.length
   exact truthy_tuple pl (by simp only [aV];omega) ⟨H,I.tok _,by rw [Es r];exact q⟩
  ·subst e'
   obtain ⟨hz,hS,vs,r,m⟩:kvs.length<=bf/\(p == mP)=false/\∃ vs,KV kvs vs/\s.heap.DictOf (hJ X.prog X.w) p vs:=I.fX p _ hx
   have hlen:kvs.length=vs.length:=AX r
   exact wpAny_truthy_dict hS m (by omega) ⟨H,I.tok _,by rw [OE r];exact q⟩
 | _=>exact (show False from e).elim
theorem UF (ha:PE X a ta) (he:∀ whole,isTrue a X.env whole=(do let v ← whole;Ee a.pos;qH [v] (truthy v))) :
  PT X a (λZ H Q=>ta Z H λx H'=>∃ k,XJ X.K x H' k/\Q k H'):=by
 intro pins s Z H Q I h
 exact isTrue_plain (iO (ha pins s Z H _ I h) λv s1 ⟨x,H1,I1,r1,q1⟩=>aae pins s1 Z H1 x v Q I1 r1 q1) (he _)
theorem vals1 {x:V}{us:List ai}(r:Vals [x] us):∃ u,us=[u]/\RelV x u:=by
 cases r with
 | cons r1 r2=>cases r2;exact ⟨_,rfl,r1⟩
theorem vals2 {x y:V}{us:List ai}(r:Vals [x,y] us):∃ u w',us=[u,w']/\RelV x u/\RelV y w':=by
 cases r with
 | cons r1 r2 =>
  cases r2 with
  | cons r3 r4=>cases r4;exact ⟨_,_,rfl,r1,r3⟩
theorem IR (hc:X.calm=true):tL X (.builtin "max") (λxs H Q=>∃ i j,xs=[.int i,.int j]/\Q (.int (if j>i then j else i)) H):=by
 intro pins s Z H xs us Q I r h
 obtain ⟨i,j,rfl,q⟩:=h
 obtain ⟨u,w',rfl,⟨t,rfl⟩,⟨t',rfl⟩⟩:=vals2 r
 refine max_two_ints (I.ok.hd hc) λh' tk k=>⟨_,H,I.kept k,?_,q⟩
 by_cases hj:j>i
 ·rw [if_pos hj,if_pos hj];exact ⟨_,rfl⟩
 ·rw [if_neg hj,if_neg hj];exact ⟨_,rfl⟩
theorem xy (hc:X.calm=true):tL X (.builtin "min") (λxs H Q=>∃ i j,xs=[.int i,.int j]/\Q (.int (if j<i then j else i)) H):=by
 intro pins s Z H xs us Q I r h
 obtain ⟨i,j,rfl,q⟩:=h
 obtain ⟨u,w',rfl,⟨t,rfl⟩,⟨t',rfl⟩⟩:=vals2 r
 refine min_two_ints (I.ok.hd hc) λh' tk k=>⟨_,H,I.kept k,?_,q⟩
 by_cases hj:j<i
 ·rw [if_pos hj,if_pos hj];exact ⟨_,rfl⟩
 ·rw [if_neg hj,if_neg hj];exact ⟨_,rfl⟩
end
end L2
namespace L2
structure Qx (h:cg) (x dx C:ag) (mA:aZ->Option ai):Prop where
 obj:h.get? x=some (iQ C dx)
 ns:h.Ns1 dx mA
 ne:dx≠x
theorem R7 {h:cg}{dx:ag}{mA:aZ->Option ai}(n:h.Ns1 dx mA):∃ od,h.get? dx=some od/\∀ name,yd name od=some (mA name):=by
 obtain ⟨o,es,ep,ho,hd,hk,_,hm⟩:=n
 refine ⟨o,ho,λname=>?_⟩
 have e:=hm name
 unfold nsFind findBy at e
 rw [← Array.find?_toList] at e
 unfold yd
 rw [hd]
 dsimp only
 split
 ·rename_i y q
  rw [q] at e
  exact congrArg some e
 ·rename_i q
  rw [q] at e
  have a:es.toList.any (·.refKey)=false:=by
   rw [List.any_eq_false]
   intro y hy
   obtain ⟨z,t,hkey⟩:=hk y (Array.mem_toList_iff.mp hy)
   simp [DictEntry.refKey,hkey]
  have a':¬ es.toList.any (·.refKey)=true:=by rw [a];exact bM
  rw [if_neg a']
  exact congrArg some e
theorem Qx.look {h:cg}{x dx C:ag}{mA:aZ->Option ai}(I:Qx h x dx C mA):∃ od,sO h x (iQ C dx) C (some od)/\∀ name,yd name od=some (mA name) :=
 let ⟨od,ho,hl⟩:=R7 I.ns
 ⟨od,⟨I.obj,rfl,rfl,ho⟩,hl⟩
section
variable {prog:a8}{w:bT}{A:bZ}{E:ai->aq->Prop}{s:aq}{K:aa}{x dx C f:ag}{mA:aZ->Option ai}{name:aZ}{v:ai}
theorem XM {expr:Bool}{Q:ai->aq->Prop}(X:K.In s.heap) (I:Qx s.heap x dx C mA) (hg:kb K C name=true) (hh:lR K C=true)
  (ha:aO K (.ref C) name=some none) (hv:mA name=some v) (hv':W6 v=true) (h:Q v { s with toks:=s.toks+1 }) :
  aK (aY prog w) A (getAttr (.ref x) name expr) Q E s:=by
 obtain ⟨od,J,hl⟩:=I.look
 exact PySem.W.get_value X J (zr hg).1 (PySem.W.findObj_own hh ha rfl (by rw [hl,hv])) hv' h
theorem UG {pl:LC Bool}{Q:ai×List ai->aq->Prop}(X:K.In s.heap) (I:Qx s.heap x dx C mA) (hg:kb K C name=true)
  (hf:aO K (.ref C) name=some (some (.ref f))) (ht:vQ K (.ref f)=true) (hv:mA name=none) (h:Q (.ref f,[.ref x]) s) :
  aK (aY prog w) A (Eg (.ref x) name pl) Q E s:=by
 obtain ⟨od,J,hl⟩:=I.look
 exact PySem.W.method_fn X J (zr hg).1 (zr hg).2 hf (beq_iff_eq.mp ht) (by show (yd name od).map (·.isSome)=some false;rw [hl,hv];rfl) h
theorem XN {ns:List aZ}{Q:Unit->aq->Prop}(X:K.In s.heap) (I:Qx s.heap x dx C mA)
  (hs:aO K (.ref C) "__setattr__"=some (some (.builtin "object.__setattr__"))) (hp:pP K C=true) (ht:GQ K C name=some none) (hh:lR K C=true)
  (hw:QG mA ns) (hsz:ns.length<=bf)
  (h:∀ h',Qx h' x dx C (λy=>if y=name then some v else mA y)->je dx s.heap h'->Q () { s with heap:=h',toks:=s.toks+2 }) :
  aK (aY prog w) A (setAttr (.ref x) name v) Q E s:=by
 obtain ⟨od,J,hl⟩:=I.look
 refine PySem.W.set_plain X J hs (PySem.W.osa_open (s:={ s with toks:=s.toks+1 }) (r:=none) X J hp ht λb=>?_)
 obtain ⟨cd,hc,hd'⟩:=PySem.W.any_some hh
 have hx:s.heap.get? x=some ⟨.ref C,some dx,.plain,#[]⟩:=I.obj
 refine ae (av (ae (ae (wpAny_loadPart hx (ae (PySem.W.Looks.here (s:={ s with toks:=s.toks+1 }) (PySem.W.looks_clsIn X hc) ?_))))))
 rw [hd']
 refine av (a:=some dx) (ae (av (ae ?_)))
 refine wpAny_nsSet1 (s:={ s with toks:=s.toks+1 }) I.ns λh' hn2 hs2=>?_
 obtain ⟨oD,esD,epD,hoD,hdD,hcD⟩:=hn2.count (PySem.Within.cons name v hw)
 refine ae (wpAny_lookBehind hoD (by rw [hdD];exact pastItsLine_dict (bE hcD (by rw [cG];omega))) ?_)
 exact av (h _ ⟨(hs2.2 _ (Ne.symm I.ne)).trans I.obj,hn2,I.ne⟩ hs2)
theorem Mi {R:Oa->aq->Prop}{vs:List ai}{kw:List (aZ×ai)}(X:K.In s.heap) (hm:oE K C=true)
  (hi:aO K (.ref C) "__init__"=some (some (.ref f))) (hf:PySem.W.typeIn K (.ref f)=some (.type "function"))
  (h:mQ (aY prog w) (A.under (.builtin "type.__call__" ⟨.ref C::vs,kw⟩)) (.call (.ref f) ⟨.ref (s.heap.objs.size+1)::vs,kw⟩) (PySem.W.InitBack (s.heap.objs.size+1) R)
   { s with heap:=(s.heap.push f9).push (iQ C s.heap.objs.size) }) :
  mQ (aY prog w) A (.call (.ref C) ⟨vs,kw⟩) R s:=by
 obtain ⟨hh,g,d,t,os⟩:=s
 exact PySem.W.make_core (PySem.W.makes_of X hm) (ye X hi) (λself=>PySem.W.bind_fn X self hf) (.inl rfl) h
end
def fE (f:aZ) (v:V):List (aZ×V)->List (aZ×V)
 | []=>[(f,v)]
 | (g,x)::r=>if g=f then (g,v)::r else (g,x)::fE f v r
theorem gU (f g:aZ) (v:V):∀ fs:List (aZ×V),(fE f v fs).lookup g=if g=f then some v else fs.lookup g
 | []=>by
  show dS g [(f,v)]=_
  by_cases h:g=f
  ·have hb:(g == f)=true:=beq_iff_eq.mpr h
   simp only [dS,hb,if_pos h]
  ·have hb:(g == f)=false:=beq_eq_false_iff_ne.mpr h
   simp only [dS,hb,if_neg h]
 | (k,x)::r=>by
  have ih:=gU f g v r
  rw [show fE f v ((k,x)::r)=(if k=f then (k,v)::r else (k,x)::fE f v r) from rfl]
  by_cases hk:k=f
  ·rw [if_pos hk]
   by_cases h:g=k
   ·have hb:(g == k)=true:=beq_iff_eq.mpr h
    simp only [dS,hb,if_pos (h.trans hk)]
   ·have hb:(g == k)=false:=beq_eq_false_iff_ne.mpr h
    simp only [dS,hb,if_neg (λe:g=f=>h (e.trans hk.symm))]
  ·rw [if_neg hk]
   by_cases h:g=k
   ·have hb:(g == k)=true:=beq_iff_eq.mpr h
    simp only [dS,hb,if_neg (λe:g=f=>hk (h.symm.trans e))]
   ·have hb:(g == k)=false:=beq_eq_false_iff_ne.mpr h
    simp only [dS,hb]
    exact ih
theorem Bi (f:aZ) (v:V):∀ fs:List (aZ×V),f∈(fE f v fs).map (·.1)/\∀ g,g∈fs.map (·.1)->g∈(fE f v fs).map (·.1)
 | []=>⟨by simp [fE],λg h=>by simp at h⟩
 | (k,x)::r=>by
  obtain ⟨i1,i2⟩:=Bi f v r
  rw [show fE f v ((k,x)::r)=(if k=f then (k,v)::r else (k,x)::fE f v r) from rfl]
  by_cases hk:k=f
  ·rw [if_pos hk]
   subst hk
   exact ⟨by simp,λg h=>by simpa using h⟩
  ·rw [if_neg hk]
   refine ⟨?_,λg h=>?_⟩
   ·rw [cn]
    exact ah _ i1
   ·rw [cn] at h ⊢
    rcases ay.mp h with e|e
    ·exact ay.mpr (.inl e)
    ·exact ah _ (i2 g e)
theorem Cy (f:aZ) (v:V):∀ fs:List (aZ×V),(fE f v fs).length<=fs.length+1
 | []=>by simp [fE]
 | (k,x)::r=>by
  have ih:=Cy f v r
  rw [show fE f v ((k,x)::r)=(if k=f then (k,v)::r else (k,x)::fE f v r) from rfl]
  by_cases hk:k=f
  ·rw [if_pos hk,cG,cG];omega
  ·rw [if_neg hk,cG,cG];omega
theorem xk.some_of {v:V}{o:Option ai}(r:xk (some v) o):∃ u,o=some u/\RelV v u:=by
 cases o with
 | none=>exact (show False from r).elim
 | some u=>exact ⟨u,rfl,r⟩
theorem xk.none_of {o:Option ai}(r:xk none o):o=none:=by
 cases o with
 | none=>rfl
 | some u=>exact (show False from r).elim
theorem R9 {v:V}{u:ai}(r:RelV v u):W6 u=true:=by
 cases v with
 | non=>cases (show u=cI from r);rfl
 | bl b=>cases (show u=xq b from r);rfl
 | int i=>obtain ⟨t,e⟩:=(show ∃ t,u=iR i t from r);cases e;rfl
 | str x=>obtain ⟨t,e⟩:=(show ∃ t,u=tN x t from r);cases e;rfl
 | byt b=>obtain ⟨t,e⟩:=(show ∃ t,u=Value.bytes b t from r);cases e;rfl
 | flt b=>obtain ⟨t,e⟩:=(show ∃ t,u=Tx b t from r);cases e;rfl
 | ref a=>cases (show u=aE a from r);rfl
 | ty n=>cases (show u=eK n from r);rfl
section
variable {P:a8}{w:bT}{H H':Hp}{h h':cg}{a C dx:ag}{fs fs':List (aZ×V)}
theorem D5 (fX:vE P w H h) (e:H a=some (.ins C dx fs)):∃ mA,Qx h a dx C mA/\(∀ f,xk (fs.lookup f) (mA f))/\QG mA (fs.map (·.1))/\fs.length<=1000/\H dx=some (.own a):=by
 obtain ⟨d,z,ne,ob,mA,n,r,q⟩:=(show gK P w H h a (.ins C dx fs) from fX a _ e)
 exact ⟨mA,⟨ob,n,ne⟩,r,q,z,d⟩
end
structure GW (K:aa) (C:ag):Prop where
 pg:kb K C RK=true
 hd:lR K C=true
 po:pP K C=true
 sa:aO K (.ref C) "__setattr__"=some (some (.builtin "object.__setattr__"))
theorem GW.get {K:aa}{C:ag}(c:GW K C) (f:aZ):kb K C f=true:=c.pg
def fi (K:aa) (C:ag) (f:aZ):Prop:=aO K (.ref C) f=some none
theorem fi.acQ {K:aa}{C:ag}{f:aZ}(n:fi K C f):GQ K C f=some none:=by
 unfold GQ
 rw [show aO K (.ref C) f=some none from n]
 rfl
structure XO (K:aa) (C:ag) (m:aZ) (f:ag):Prop where
 at_:aO K (.ref C) m=some (some (.ref f))
 fn:vQ K (.ref f)=true
 kp:eh K (.ref f)=true
section
variable {X:Cx}{pins:List (ag×gC)}{Z:St}{H:Hp}{s:aq}{a C dx:ag}{fs:List (aZ×V)}{f:aZ}{v:V}{A:bZ}{E:ai->aq->Prop}
theorem Et {b:Bool}{Q:ai->aq->Prop}(I:Inv X pins Z H s) (e:H a=some (.ins C dx fs)) (c:GW X.K C) (n:fi X.K C f) (l:fs.lookup f=some v)
  (h:∀ u s',Inv X pins Z H s'->RelV v u->Q u s'):aK (aY X.prog X.w) A (getAttr (.ref a) f b) Q E s:=by
 obtain ⟨mA,O,r,_,_,_⟩:=D5 I.fX e
 obtain ⟨u,hu,ru⟩:=xk.some_of (v:=v) (o:=mA f) (by rw [← l];exact r f)
 exact XM I.xj O (c.get f) c.hd n hu (R9 ru) (h u _ (I.tok _) ru)
theorem Eu {m:aZ}{g:ag}{pl:LC Bool}{Q:ai×List ai->aq->Prop}(I:Inv X pins Z H s) (e:H a=some (.ins C dx fs)) (c:GW X.K C) (k:XO X.K C m g) (l:fs.lookup m=none)
  (h:Q (.ref g,[.ref a]) s):aK (aY X.prog X.w) A (Eg (.ref a) m pl) Q E s:=by
 obtain ⟨mA,O,r,_,_,_⟩:=D5 I.fX e
 have hn:mA m=none:=xk.none_of (by rw [← l];exact r m)
 exact UG I.xj O (c.get m) k.at_ k.fn hn h
theorem Ew {y:V}{u:ai}{Q:Unit->aq->Prop}(I:Inv X pins Z H s) (e:H a=some (.ins C dx fs)) (c:GW X.K C) (n:fi X.K C f) (hl:fs.length<1000) (ry:RelV y u)
  (h:∀ s',Inv X pins Z (upd H a (.ins C dx (fE f y fs))) s'->Q () s'):aK (aY X.prog X.w) A (setAttr (.ref a) f u) Q E s:=by
 obtain ⟨mA,O,r,wi,_,ho⟩:=D5 I.fX e
 have hz:(fs.map (·.1)).length<=bf:=by rw [aj,xO];omega
 refine XN I.xj O c.sa c.po n.acQ c.hd wi hz λh' O' sb=>h _ ?_
 have hd:∃ o,h'.get? dx=some o:=let ⟨o,_,_,e',_⟩:=O'.ns;⟨o,e'⟩
 refine I.write (x:=a) (e:=dx) (by rw [e];exact j9) (.inr ho) (λb q hb z=>(sb.2 b hb).trans z) hd ?_
 refine ⟨by rw [aJ O.ne];exact ho,?_,O.ne,O'.obj,_,O'.ns,λg=>?_,λg hg=>?_⟩
 ·have:=Cy f y fs;omega
 ·show xk ((fE f y fs).lookup g) (if g=f then some u else mA g)
  rw [gU]
  by_cases q:g=f
  ·rw [if_pos q,if_pos q];exact ry
  ·rw [if_neg q,if_neg q];exact r g
 ·by_cases q:g=f
  ·rw [q];exact (Bi f y fs).1
  ·refine (Bi f y fs).2 g (wi g λz=>hg ?_)
   show (if g=f then some u else mA g)=none
   rw [if_neg q];exact z
theorem Inv.made (I:Inv X pins Z H s):Inv X pins Z (upd (upd H s.heap.objs.size (.own (s.heap.objs.size+1))) (s.heap.objs.size+1) (.ins C s.heap.objs.size []))
  { s with heap:=(s.heap.push f9).push (iQ C s.heap.objs.size) }:=by
 have e1:(s.heap.push f9).get? s.heap.objs.size=some f9:=aL s.heap rfl
 have e2:((s.heap.push f9).push (iQ C s.heap.objs.size)).get? (s.heap.objs.size+1)=some (iQ C s.heap.objs.size):=by
  have:=aL (s.heap.push f9) (o:=iQ C s.heap.objs.size) rfl
  rwa [iM] at this
 have e3:(s.heap.push f9).Ns s.heap.objs.size (λ_=>none):=⟨f9,#[],_,e1,rfl,(λe he=>absurd he (by simp)),λ_=>rfl⟩
 have I1:=I.laid (a:=s.heap.objs.size) (o:=.own (s.heap.objs.size+1)) (h':=s.heap.push f9) (t':=s.toks) (λb u q=>au _ q) (ax _) ⟨_,e1⟩
 refine I1.laid (a:=s.heap.objs.size+1) (o:=.ins C s.heap.objs.size []) (t':=s.toks) (λb u q=>au _ q) (GR (iM _ _)) ?_
 have ne:s.heap.objs.size≠s.heap.objs.size+1:=aS (ji _)
 refine ⟨by rw [aJ ne,aM],bG _,ne,e2,λ_=>none,(Heap.Ns1.of_empty e3).at λo q=>au _ q,λ_=>j9,λy hy=>absurd rfl hy⟩
theorem XQ {prog:a8}{w:bT}{env:xr}{e:Expr}{f:aZ}{pos:rD}{s:aq}{Q:ai->aq->Prop}(hb:GY e f env (gp e env)=gp e env)
  (h:aK (aY prog w) A (gp e env) (λo s₁=>aK (aY prog w) A (getAttr o f true) Q E s₁) E s):aK (aY prog w) A (gp (.Attribute e f pos) env) Q E s :=
 Attribute_any_ h (by rw [arm_eval_Attribute,hb])
end
def eJ (K:aa) (ta:TE) (f:aZ):TE:=λZ H Q=>ta Z H λx H1=>∃ a C dx fs v,x=.ref a/\H1 a=some (.ins C dx fs)/\GW K C/\fi K C f/\fs.lookup f=some v/\Q v H1
def sL (K:aa) (ta tv:TE) (f:aZ):TS:=λD Z H=>tv Z H λy H1=>ta Z H1 λx H2=>∃ a C dx fs,x=.ref a/\H2 a=some (.ins C dx fs)/\GW K C/\fi K C f/\fs.length<1000 /\
 D.nx Z (upd H2 a (.ins C dx (fE f y fs)))
def aaf (X:Cx) (op:LF) (rd:V->V->Hp->VK->Prop):Prop :=
 ∀ (pins:List (ag×gC)) (s:aq) (Z:St) (H:Hp) (x y:V) (u v:ai) (Q:VK),Inv X pins Z H s->RelV x u->RelV y v->rd x y H Q->aK (aY X.prog X.w) X.A (Ec op u v) (EP X pins Z Q) X.xe s
def rH (K:aa) (ta tv:TE) (rd:V->V->Hp->VK->Prop) (f:aZ):TS:=λD Z H=>ta Z H λx H1=>∃ a C dx fs v,x=.ref a/\H1 a=some (.ins C dx fs)/\GW K C/\fi K C f/\fs.lookup f=some v /\
 tv Z H1 λy H2=>rd v y H2 λz H3=>∃ dx' fs',H3 a=some (.ins C dx' fs')/\fs'.length<1000/\D.nx Z (upd H3 a (.ins C dx' (fE f z fs')))
section
variable {X:Cx}{o e value:Expr}{f:aZ}{pos pos' tpos:rD}{ta tv:TE}
theorem bK (he:PE X e ta) (hb:GY e f X.env (gp e X.env)=gp e X.env):PE X (.Attribute e f pos) (eJ X.K ta f):=by
 intro pins s Z H Q I h
 refine XQ hb (iO (he pins s Z H _ I h) λu s1 ⟨x,H1,I1,rx,a,C,dx,fs,v,ex,ea,c,n,l,q⟩=>?_)
 subst ex
 obtain rfl:u=aE a:=rx
 exact Et I1 ea c n l λu' s2 I2 ru=>⟨v,H1,I2,ru,q⟩
theorem jO (ha:PE X o ta) (hv:PE X value tv) (hs:Eb value (some (.Attribute o f pos')) pos.line X.env=pure false):PS X (.Assign [.Attribute o f pos'] value pos) (sL X.K ta tv f):=by
 intro pins s Z H D I h
 refine plainObj_wpAny_Assign_Attribute (iO (hv pins s Z H _ I h) λu s1 ⟨y,H1,I1,ry,q⟩=>iO (ha pins s1 Z H1 _ I1 q) λov s2 ⟨x,H2,I2,rx,a,C,dx,fs,ex,ea,c,n,l,q2⟩=>?_) hs
 subst ex
 obtain rfl:ov=aE a:=rx
 exact Ew I2 ea c n l ry λs3 I3=>⟨Z,_,I3,q2⟩
theorem pZ {op:LF}{rd:V->V->Hp->VK->Prop}(ha:PE X o ta) (hv:PE X value tv) (hop:aaf X op rd):PS X (.AugAssign (.Attribute o f tpos) op value pos) (rH X.K ta tv rd f):=by
 intro pins s Z H D I h
 refine wpAny_AugAssign_AttributeAny (iO (ha pins s Z H _ I h) λov s1 ⟨x,H1,I1,rx,a,C,dx,fs,v,ex,ea,c,n,l,q⟩=>?_)
 subst ex
 obtain rfl:ov=aE a:=rx
 refine Et I1 ea c n l λu s2 I2 ru=>iO (hv pins s2 Z H1 _ I2 q) λw3 s3 ⟨y,H2,I3,ry,q3⟩=>iO (hop pins s3 Z H2 v y u w3 _ I3 ru ry q3) λw4 s4 ⟨z,H3,I4,rz,dx',fs',ea',l',q4⟩=>?_
 exact Ew I4 ea' c n l' rz λs5 I5=>⟨Z,_,I5,q4⟩
def JL:V->V->Hp->VK->Prop:=λx y H Q=>∃ i j,x=.int i/\y=.int j/\Q (.int (i+j)) H
theorem v3:aaf X .Add JL:=by
 rintro pins s Z H x y u v Q I rx ry ⟨i,j,rfl,rfl,q⟩
 obtain ⟨t,rfl⟩:=(show ∃ t,u=iR i t from rx)
 obtain ⟨t',rfl⟩:=(show ∃ t',v=iR j t' from ry)
 exact ZL ⟨.int (i+j),H,I.tok _,⟨_,rfl⟩,q⟩
end
section
variable {X:Cx}{pins:List (ag×gC)}{Z:St}{H:Hp}{s:aq}{A:bZ}{E:ai->aq->Prop}{Q:ai->aq->Prop}{c:ai}{b:Bool}
inductive zI (K:aa) (H:Hp):V->ai->Prop where
 | non:zI K H .non (.type "NoneType")
 | bl (x:Bool):zI K H (.bl x) (.type "bool")
 | int (i:Int):zI K H (.int i) (.type "int")
 | str (x:aZ):zI K H (.str x) (.type "str")
 | flt (x:UInt64):zI K H (.flt x) (.type "float")
 | lst {a:ag}{xs:List V}(e:H a=some (.lst xs)):zI K H (.ref a) (.type "list")
 | frz {a:ag}{o:gC}{xs:List V}(e:H a=some (.frz o (.lst xs))):zI K H (.ref a) (.type "list")
 | tup {a:ag}{xs:List V}(e:H a=some (.tup xs)):zI K H (.ref a) (.type "tuple")
 | dK {a:ag}{kvs:List (kg×V)}(e:H a=some (.dK kvs)):zI K H (.ref a) (.type "dict")
 | dT {a:ag}{kvs:List (List kg×V)}(e:H a=some (.dT kvs)):zI K H (.ref a) (.type "dict")
 | ins {a C dx:ag}{fs:List (aZ×V)}(e:H a=some (.ins C dx fs)) (cl:GW K C) (ha:aO K (.ref C) "__class__"=some (some (.builtin "object.__class__")))
   (hn:Cs K (.builtin "object.__class__") "__get__"=some (some (.builtin "getset_descriptor.__get__"))) (htk:GS K (.builtin "object.__class__")=some true)
   (hm:oj K C (.type "object")=some true):zI K H (.ref a) (.ref C)
theorem Sa {x:V}{u t:ai}(I:Inv X pins Z H s) (rx:RelV x u) (ty:zI X.K H x t) (e:ar X.K t c=some b) (h:∀ tk,Q (.bool b) { s with toks:=tk }) :
  aK (aY X.prog X.w) A (call (.builtin "isinstance") [u,c]) Q E s:=by
 cases ty with
 | non=>cases (show u=cI from rx);exact fB PySem.W.kitx_none I.xj j9 e (λz=>nomatch z) h
 | bl y=>cases (show u=xq y from rx);exact fB PySem.W.kitx_bool I.xj j9 e (λz=>nomatch z) h
 | int i=>obtain ⟨t,q⟩:=(show ∃ t,u=iR i t from rx);cases q;exact fB PySem.W.kitx_int I.xj j9 e (λz=>nomatch z) h
 | str y=>obtain ⟨t,q⟩:=(show ∃ t,u=tN y t from rx);cases q;exact fB PySem.W.kitx_str I.xj j9 e (λz=>nomatch z) h
 | flt y=>obtain ⟨t,q⟩:=(show ∃ t,u=Tx y t from rx);cases q;exact fB PySem.W.kitx_float I.xj j9 e (λz=>nomatch z) h
 | @lst a xs ea =>
  cases (show u=aE a from rx)
  obtain ⟨_,_,n,_,h1⟩:=(show gK X.prog X.w H s.heap a (.lst xs) from I.fX a _ ea)
  exact fB Ul I.xj ⟨_,h1,rfl⟩ e (λz=>nomatch z) h
 | @frz a ob xs ea =>
  cases (show u=aE a from rx)
  obtain ⟨_,_,_,n,_,h1⟩:=(show gK X.prog X.w H s.heap a (.frz ob (.lst xs)) from I.fX a _ ea)
  exact fB Ul I.xj ⟨_,h1,rfl⟩ e (λz=>nomatch z) h
 | @tup a xs ea =>
  cases (show u=aE a from rx)
  obtain ⟨_,_,_,p⟩:=(show gK X.prog X.w H s.heap a (.tup xs) from I.fX a _ ea)
  obtain ⟨o,h1,h2,_⟩:=p
  exact fB PySem.W.kitx_tuple I.xj ⟨o,h1,h2⟩ e (λz=>nomatch z) h
 | @dK a kvs ea =>
  cases (show u=aE a from rx)
  obtain ⟨_,_,vs,_,p⟩:=(show gK X.prog X.w H s.heap a (.dK kvs) from I.fX a _ ea)
  obtain ⟨o,es,ep,h1,h2,_⟩:=p
  exact fB Um I.xj ⟨o,h1,h2.1⟩ e (λz=>nomatch z) h
 | @dT a kvs ea =>
  cases (show u=aE a from rx)
  obtain ⟨_,_,xs,_,o,es,ep,h1,h2,_⟩:=(show gK X.prog X.w H s.heap a (.dT kvs) from I.fX a _ ea)
  exact fB Um I.xj ⟨o,h1,h2.1⟩ e (λz=>nomatch z) h
 | @ins a C dx fs ea cl ha hn htk hm =>
  cases (show u=aE a from rx)
  obtain ⟨mA,O,_⟩:=D5 I.fX ea
  obtain ⟨od,J,_⟩:=O.look
  exact fB (PySem.W.kitx_own (cl.get _) cl.hd ha hn htk hm) I.xj J e (λz=>nomatch z) h
end
end L2
namespace L2
structure k9 (k:Nat) (A:bZ):Prop where
 hd:A.handled=none
 dp:A.depth+3*k+5<rW
 un:A.units+16*k+200<jB
theorem k9.mono {j k:Nat}{A:bZ}(r:k9 k A) (h:j<=k):k9 j A:=⟨r.hd,by have:=r.dp;omega,by have:=r.un;omega⟩
theorem k9.deeper {k:Nat}{A:bZ}(r:k9 (k+1) A) (env:xr):k9 k (A.deeper env) :=
 ⟨r.hd,by have:=r.dp;show A.depth+1+3*k+5<_;omega,by have:=r.un;show A.units+3+16*k+200<_;omega⟩
theorem OF {A:bZ}{C:ag}{us:List ai}{kw:List (aZ×ai)}:(A.under (.builtin "type.__call__" ⟨.ref C::us,kw⟩)).depth=A.depth+1:=by
 first|rfl|simp [Oo,Code.weight,Code.isCreation,Code.isGuard,Code.isCaller,Code.frames,RL,guardIds]
theorem OG {A:bZ}{C:ag}{us:List ai}{kw:List (aZ×ai)}:(A.under (.builtin "type.__call__" ⟨.ref C::us,kw⟩)).units=A.units+1:=by
 first|rfl|simp [Oo,Code.cUnits,Code.frames,RL]
theorem k9.make {k:Nat}{A:bZ}(r:k9 (k+1) A) (C:ag) (us:List ai) (kw:List (aZ×ai)):k9 k (A.under (.builtin "type.__call__" ⟨.ref C::us,kw⟩)) :=
 ⟨r.hd,by have:=r.dp;rw [OF];omega,by have:=r.un;rw [OG];omega⟩
theorem k9.depth {k:Nat}{A:bZ}(r:k9 k A):A.depth<rW:=by have:=r.dp;omega
theorem k9.units {k:Nat}{A:bZ}(r:k9 k A):A.units+64<jB:=by have:=r.un;omega
def aT:TA:=λ_ H Q=>Q [] H
def ak (ta:TE) (tr:TA):TA:=λZ H Q=>ta Z H λx H1=>tr Z H1 λxs H2=>Q (x::xs) H2
section
variable {X:Cx}{e:Expr}{es:List Expr}{te:TE}{t:TA}{pos:rD}
theorem aA:PA X [] aT:=λ_ _ _ _ H Q I h=>ql ⟨[],H,I,.nil,h⟩
theorem af (ha:PE X e te) (hr:PA X es t) (hs:bw (e::es) X.env=(false,gp e X.env)::bw es X.env:=by rfl):PA X (e::es) (ak te t):=by
 intro pos pins s Z H Q I h
 rw [hs]
 show aK _ _ (YR ((false,gp e X.env)::jg pos (bw es X.env))) _ _ s
 refine lE (iO (ha pins s Z H _ I h) λu s1 ⟨x,H1,I1,r1,q1⟩=>?_)
 exact iO (hr pos pins s1 Z H1 _ I1 q1) λus s2 ⟨xs,H2,I2,r2,q2⟩=>⟨x::xs,H2,I2,.cons r1 r2,q2⟩
def sj (t:TA):TE:=λZ H Q=>t Z H λxs H1=>xs.length<=bf/\∀ p,H1 p=none->Q (.ref p) (upd H1 p (.tup xs))
def tP (t:TA):TE:=λZ H Q=>t Z H λxs H1=>xs.length<=bf/\∀ p,H1 p=none->Q (.ref p) (upd H1 p (.lst xs))
theorem jD {x1} (h:PA X es t):PE X (.Tuple es x1 pos) (sj t):=by
 intro pins s Z H Q I hq
 refine wpAny_Tuple_spliced (iO (h pos pins s Z H _ I hq) λus s1 ⟨xs,H1,I1,r,z,q⟩=>⟨by rw [← r.length];exact z,?_⟩)
 have hf:H1 s1.heap.objs.size=none:=I1.fX.fresh (ax _)
 refine ⟨.ref s1.heap.objs.size,upd H1 s1.heap.objs.size (.tup xs),I1.laid (t':=s1.toks) (λb u e=>au _ e) (ax _) ?_,rfl,q _ hf⟩
 exact ⟨z,us,r,⟨_,aL _ rfl,rfl,_,rfl⟩⟩
theorem kr (h:PA X es t):PE X (.List es pos) (tP t):=by
 intro pins s Z H Q I hq
 refine wpAny_List_spliced (iO (h pos pins s Z H _ I hq) λus s1 ⟨xs,H1,I1,r,z,q⟩=>⟨by rw [← r.length];exact z,?_⟩)
 have hf:H1 s1.heap.objs.size=none:=I1.fX.fresh (ax _)
 refine ⟨.ref s1.heap.objs.size,upd H1 s1.heap.objs.size (.lst xs),I1.laid (t':=s1.toks) (λb u e=>au _ e) (ax _) ?_,rfl,q _ hf⟩
 exact ⟨z,us,0,r,aL _ rfl⟩
end
abbrev Sp:=List V->Hp->VK->XK->Prop
abbrev Mj:=List xr->Hp->aq->XK->ai->aq->Prop
structure NW (P:a8) (w:bT) (K:aa) (mg:aZ->Option ai) (base:cg) (A:bZ) (outer:List xr) (s:aq) (H:Hp):Prop where
 frames:A.frames=some outer
 mod:Mod K mg base
 bs:∀ b o,base.get? b=some o->s.heap.get? b=some o/\H b=none
 RI:base.objs.size<=s.heap.objs.size
 xh:s.heap.FunFrames base outer
 Uj:∀ b∈xm outer,H b=none
 fX:vE P w H s.heap
 bare:xM s.gens
def CE (outer:List xr) (P:a8) (w:bT) (H:Hp) (s:aq) (Q:VK) (u:ai) (s':aq):Prop :=
 ∃ v H',s'.os=s.os/\xM s'.gens/\Un (xm outer) [] H H' s.heap s'.heap/\vE P w H' s'.heap/\RelV v u/\Q v H'
def CR (CX:Mj) (outer:List xr) (P:a8) (w:bT) (H:Hp) (s:aq) (Q:VK) (E:XK) (r:Oa) (s':aq):Prop :=
 match r with
 | .ok (.ret u)=>CE outer P w H s Q u s'
 | .ok _=>False
 | .error e=>CX outer H s E e s'
structure dg (P:a8) (w:bT) (K:aa) (mg:aZ->Option ai) (base:cg) (CX:Mj) (k:Nat) (f:ag) (fd:fo) (ps:List aZ) (sp:Sp):Prop where
 len:∀ vs H Q E,sp vs H Q E->vs.length=ps.length
 run:∀ (A:bZ) (outer:List xr) (s:aq) (H:Hp) (args:Args) (us:List ai) (vs:List V) (Q:VK) (E:XK),k9 k A->NW P w K mg base A outer s H->Eh s fd args (ps.zip us)->Vals vs us->sp vs H Q E ->
  mQ (aY P w) A (.call (.ref f) args) (CR CX outer P w H s Q E) s
theorem NW.make {P:a8}{w:bT}{K:aa}{mg:aZ->Option ai}{base:cg}{A:bZ}{outer:List xr}{s:aq}{H:Hp}(e:NW P w K mg base A outer s H) (C:ag) (us:List ai) (kw:List (aZ×ai)) :
  NW P w K mg base (A.under (.builtin "type.__call__" ⟨.ref C::us,kw⟩)) outer s H:=⟨by first|exact e.frames|(simpa [Oo,Code.envs,RL,pushEnvs] using e.frames),e.mod,e.bs,e.RI,e.xh,e.Uj,e.fX,e.bare⟩
section
variable {X:Cx}{pins:List (ag×gC)}{Z:St}{H:Hp}{s s':aq}
theorem Inv.WR (I:Inv X pins Z H s):NW X.prog X.w X.K X.mg X.base X.A X.stack s H :=
 ⟨I.ok.frames,I.ok.mod,I.bs,bE I.ok.RI I.sz,I.stack,I.Ea,I.fX,I.bare⟩
theorem Inv.after {Q:VK}{u:ai}(I:Inv X pins Z H s) (h:CE X.stack X.prog X.w H s Q u s'):EP X pins Z Q u s':=by
 obtain ⟨v,H',os,bare,un,fX,r,q⟩:=h
 obtain ⟨hh,g,d,t,os'⟩:=s'
 obtain rfl:os'=s.os:=os
 exact ⟨v,H',I.call (h':=hh) (g':=g) (d':=d) (t':=t) (ch:=[]) un fX bare (λb z=>absurd z (by simp)),r,q⟩
end
def cz (sp:Sp) (dvs:List V) (E:XK) (t:TA):TE:=λZ H Q=>t Z H λvs H1=>sp (vs++dvs) H1 Q E
def eO (C:ag) (m:aZ) (sp:Sp) (dvs:List V) (E:XK) (ta:TE) (t:TA):TE:=λZ H Q=>ta Z H λx H1=>∃ a dx fs,x=.ref a/\H1 a=some (.ins C dx fs)/\fs.lookup m=none /\
 t Z H1 λvs H2=>sp (x::(vs++dvs)) H2 Q E
def Ex (C:ag) (sp:Sp) (dvs:List V) (E:XK) (t:TA):TE:=λZ H Q=>t Z H λvs H1=>∀ x dx,H1 x=none->H1 dx=none->dx≠x ->
 sp (.ref x::(vs++dvs)) (upd (upd H1 dx (.own x)) x (.ins C dx [])) (λv H2=>v=.non/\Q (.ref x) H2) E
def Binds (K:aa) (fd:fo) (ps:List aZ) (ds:List ai):Prop :=
 ∀ (s:aq) (us:List ai),K.In s.heap->(us++ds).length=ps.length->Eh s fd ⟨us,[]⟩ (ps.zip (us++ds))
theorem Binds.all {K:aa}{fd:fo}{ps:List aZ}(h:∀ us:List ai,us.length=ps.length->LG fd ⟨us,[]⟩=pure (ps.zip us)):Binds K fd ps []:=λs us _ hl=>by
 rw [yf] at hl ⊢
 exact .of_eq (h us hl)
def rj (CX:Mj) (X:Cx) (E:XK):Prop:=∀ (pins:List (ag×gC)) (Z:St) (H:Hp) (s:aq) (e:ai) (s':aq),Inv X pins Z H s->CX X.stack H s E e s'->X.xe e s'
section
variable {X:Cx}{CX:Mj}{k:Nat}{f C:ag}{fd:fo}{ps:List aZ}{sp:Sp}{dvs:List V}{ds:List ai}{E:XK}{x m:aZ}{p pos apos:rD}{e o:Expr}{es:List Expr}{ta:TE}{t:TA}
theorem OH {pins:List (ag×gC)}{Z:St}{H:Hp}{s:aq}{Q:VK}{us:List ai}{vs:List V}(F:dg X.prog X.w X.K X.mg X.base CX k f fd ps sp) (hr:k9 k X.A) (hb:Binds X.K fd ps ds) (hd:Vals dvs ds) (hx:rj CX X E)
  (I:Inv X pins Z H s) (r:Vals vs us) (h:sp (vs++dvs) H Q E):aK (aY X.prog X.w) X.A (call (.ref f) us) (EP X pins Z Q) X.xe s:=by
 have r2:Vals (vs++dvs) (us++ds):=r.append hd
 have hl:(us++ds).length=ps.length:=by rw [← r2.length];exact F.len _ _ _ _ h
 refine qY (kH (F.run X.A X.stack s H ⟨us,[]⟩ (us++ds) (vs++dvs) Q E hr I.WR (hb s us I.xj hl) r2 h) λr s' hq=>?_)
 cases r with
 | error e=>exact hx pins Z H s e s' I hq
 | ok fl =>
  cases fl with
  | ret u=>exact I.after hq
  | next=>exact cc hq
  | brk=>exact cc hq
  | cont=>exact cc hq
theorem XR (F:dg X.prog X.w X.K X.mg X.base CX k f fd ps sp) (hr:k9 k X.A) (hg:Gl X x) (hm:X.mg x=some (.ref f)) (hk:eh X.K (.ref f)=true) (hb:Binds X.K fd ps ds) (hd:Vals dvs ds) (hx:rj CX X E)
  (ha:PA X (e::es) t) (hdb:(x == ("__debug__":aZ))=false:=by decide) (he:bw (e::es) X.env=(false,gp e X.env)::bw es X.env:=by rfl) (hpl:(jg pos (bw es X.env)).any (·.1)=false:=by rfl) :
  PE X (.Call (.Name x p) (e::es) [] pos) (cz sp dvs E t):=by
 intro pins s Z H Q I h
 refine dC (rF I hg hm ?_ hdb)
 refine lb (h₀:=X.base) I.ok.mod.Xj hk (iO (ha pos pins s Z H _ I h) λus s1 ⟨vs,H1,I1,r,q⟩=>⟨I1.xj,?_⟩) he hpl
 exact OH F hr hb hd hx I1 r q
theorem XS {pl:LC Bool}(he:PE X o ta) (c:GW X.K C) (hm:XO X.K C m f) (F:dg X.prog X.w X.K X.mg X.base CX k f fd ps sp) (hr:k9 k X.A) (hb:Binds X.K fd ps ds) (hd:Vals dvs ds) (hx:rj CX X E) (ha:PA X (e::es) t)
  (hst:bw (e::es) X.env=(false,gp e X.env)::bw es X.env:=by rfl) (hpl:(jg pos (bw es X.env)).any (·.1)=false:=by rfl)
  (ht:gp (.Call (.Attribute o m apos) (e::es) [] pos) X.env=(do
   let ov ← gp o X.env
   Ee apos.atName
   let (f,first) ← qH [ov] (Eg ov m pl)
   callWith pos f first (jg pos (bw (e::es) X.env)) (TJ pos (DR [] X.env))):=by rfl) :
  PE X (.Call (.Attribute o m apos) (e::es) [] pos) (eO C m sp dvs E ta t):=by
 intro pins s Z H Q I h
 refine Oq (pl:=pl) (iO (he pins s Z H _ I h) λu s1 ⟨x,H1,I1,rx,a,dx,fs,ex,ea,l,q⟩=>?_) ht
 subst ex
 obtain rfl:u=aE a:=rx
 refine Eu I1 ea c hm l ?_
 refine lb (first:=[.ref a]) (h₀:=X.base) I.ok.mod.Xj hm.kp (iO (ha pos pins s1 Z H1 _ I1 q) λus s2 ⟨vs,H2,I2,r,q2⟩=>⟨I2.xj,?_⟩) hst hpl
 exact OH (us:=.ref a::us) (vs:=.ref a::vs) F hr hb hd hx I2 (.cons rfl r) q2
theorem UH {pl:LC Bool}(he:PE X o ta) (c:GW X.K C) (hm:XO X.K C m f) (F:dg X.prog X.w X.K X.mg X.base CX k f fd ps sp) (hr:k9 k X.A) (hb:Binds X.K fd ps ds) (hd:Vals dvs ds) (hx:rj CX X E)
  (ht:gp (.Call (.Attribute o m apos) [] [] pos) X.env=(do
   let ov ← gp o X.env
   Ee apos.atName
   let (f,first) ← qH [ov] (Eg ov m pl)
   callWith pos f first (jg pos (bw [] X.env)) (TJ pos (DR [] X.env))):=by rfl) :
  PE X (.Call (.Attribute o m apos) [] [] pos) (eO C m sp dvs E ta aT):=by
 intro pins s Z H Q I h
 refine Oq (pl:=pl) (iO (he pins s Z H _ I h) λu s1 ⟨x,H1,I1,rx,a,dx,fs,ex,ea,l,q⟩=>?_) ht
 subst ex
 obtain rfl:u=aE a:=rx
 refine Eu I1 ea c hm l ?_
 exact PySem.W.callWith_K0 (first:=[.ref a]) I1.xj hm.kp (OH (us:=[.ref a]) (vs:=[.ref a]) F hr hb hd hx I1 (.cons rfl .nil) q)
structure Mk (K:aa) (C f:ag):Prop where
 makes:oE K C=true
 init:aO K (.ref C) "__init__"=some (some (.ref f))
 fn:vQ K (.ref f)=true
 kp:eh K (.ref C)=true
theorem UI {pins:List (ag×gC)}{Z:St}{H:Hp}{s:aq}{Q:VK}{us:List ai}{vs:List V}(M:Mk X.K C f) (F:dg X.prog X.w X.K X.mg X.base CX k f fd ps sp) (hr:k9 (k+1) X.A) (hb:Binds X.K fd ps ds) (hd:Vals dvs ds)
  (hx:rj CX X E) (I:Inv X pins Z H s) (r:Vals vs us)
  (h:∀ x dx,H x=none->H dx=none->dx≠x->sp (.ref x::(vs++dvs)) (upd (upd H dx (.own x)) x (.ins C dx [])) (λv H2=>v=.non/\Q (.ref x) H2) E) :
  aK (aY X.prog X.w) X.A (call (.ref C) us) (EP X pins Z Q) X.xe s:=by
 have hq:=h (s.heap.objs.size+1) s.heap.objs.size (I.fX.fresh (gQ _)) (I.fX.fresh (ax _)) (aS (ji _))
 have I2:=Inv.made (C:=C) I
 have r2:Vals (V.ref (s.heap.objs.size+1)::(vs++dvs)) (aE (s.heap.objs.size+1)::(us++ds)):=.cons rfl (r.append hd)
 have hl:(aE (s.heap.objs.size+1)::us++ds).length=ps.length:=by
  have e:=r2.length
  rw [F.len _ _ _ _ hq] at e
  exact e.symm
 refine qY (Mi (f:=f) I.xj M.makes M.init (beq_iff_eq.mp M.fn) (kH (F.run _ X.stack _ _ ⟨aE (s.heap.objs.size+1)::us,[]⟩ (aE (s.heap.objs.size+1)::(us++ds)) _ _ E (hr.make C us [])
  (I2.WR.make C us []) (hb _ (aE (s.heap.objs.size+1)::us) I2.xj hl) r2 hq) λr s' hq'=>?_))
 cases r with
 | error e=>exact hx pins Z _ _ e s' I2 hq'
 | ok fl =>
  cases fl with
  | ret u =>
   obtain ⟨v,H',I3,rv,ev,q3⟩:=I2.after hq'
   subst ev
   exact ⟨rv,⟨V.ref (s.heap.objs.size+1),H',I3,rfl,q3⟩⟩
  | next=>exact cc hq'
  | brk=>exact cc hq'
  | cont=>exact cc hq'
theorem zJ (M:Mk X.K C f) (F:dg X.prog X.w X.K X.mg X.base CX k f fd ps sp) (hr:k9 (k+1) X.A) (hg:Gl X x) (hm:X.mg x=some (.ref C)) (hb:Binds X.K fd ps ds) (hd:Vals dvs ds) (hx:rj CX X E)
  (ha:PA X (e::es) t) (hdb:(x == ("__debug__":aZ))=false:=by decide) (he:bw (e::es) X.env=(false,gp e X.env)::bw es X.env:=by rfl) (hpl:(jg pos (bw es X.env)).any (·.1)=false:=by rfl) :
  PE X (.Call (.Name x p) (e::es) [] pos) (Ex C sp dvs E t):=by
 intro pins s Z H Q I h
 refine dC (rF I hg hm ?_ hdb)
 refine lb (h₀:=X.base) I.ok.mod.Xj M.kp (iO (ha pos pins s Z H _ I h) λus s1 ⟨vs,H1,I1,r,q⟩=>⟨I1.xj,?_⟩) he hpl
 exact UI M F hr hb hd hx I1 r q
end
section
variable {X:Cx}{CX:Mj}{k:Nat}{f C:ag}{fd:fo}{ps ks:List aZ}{sp:Sp}{E:XK}{x m:aZ}{p pos apos kpos:rD}{e o:Expr}{es:List Expr}{kws:List Keyword}{te ta:TE}{t tk:TA}{nm:Option aZ}
variable {g:List ai->List ai->List ai}{gV:List V->List V->List V}
end
structure bC (N P:List aZ) (sc:lA):Prop where
 kind:sc.kind=.function
 co:sc.isCoroutine=false
 gen:sc.isGenerator=false
 nd:N.Nodup
 pre:N.take P.length=P
 par:∀ x∈P,sc.names.lookup x=some .local\/sc.names.lookup x=some .cell
 abg:∀ y∈sc.names,y.2≠.free
theorem IS {kindOf:aZ->Option m8}{x:aZ}:∀ {binds:List (aZ×ai)}{m:aZ->Option ai},(∀ v,(x,v)∉binds)->Xm kindOf binds m x=m x
 | [],_,_=>rfl
 | (n,v)::r,m,h=>by
  unfold Xm
  rw [IS λw hw=>h w (ah _ hw)]
  split
  ·have:x≠n:=by rintro rfl;exact h v aw
   simp [this]
  ·rfl
theorem IT {kindOf:aZ->Option m8}{x:aZ}:∀ {binds:List (aZ×ai)}{m:aZ->Option ai},(∀ v,(x,v)∉binds)->Xn kindOf binds m x=m x
 | [],_,_=>rfl
 | (n,v)::r,m,h=>by
  unfold Xn
  rw [IT λw hw=>h w (ah _ hw)]
  split
  ·rfl
  ·have:x≠n:=by rintro rfl;exact h v aw
   simp [this]
theorem IU {kindOf:aZ->Option m8}{x:aZ}{v:ai}:∀ {P:List aZ}{vs:List ai}{i:Nat}{m:aZ->Option ai},P.Nodup->P[i]?=some x->vs[i]?=some v->kindOf x=some .local ->
  Xm kindOf (P.zip vs) m x=some v
 | [],_,_,_,_,h,_,_=>by simp at h
 | _::_,[],_,_,_,_,h,_=>by simp at h
 | p::P,w::vs,0,m,nd,h1,h2,hk=>by
  simp at h1 h2;subst h1;subst h2
  show Xm kindOf ((p,w)::P.zip vs) m p=_
  unfold Xm
  rw [IS λv hv=>(bq.mp nd).1 (yg hv).1,if_pos hk]
  simp
 | p::P,w::vs,i+1,m,nd,h1,h2,hk=>by
  show Xm kindOf ((p,w)::P.zip vs) m x=_
  unfold Xm
  exact IU (i:=i) (bq.mp nd).2 (by simpa using h1) (by simpa using h2) hk
theorem IV {kindOf:aZ->Option m8}{x:aZ}{v:ai}:∀ {P:List aZ}{vs:List ai}{i:Nat}{m:aZ->Option ai},P.Nodup->P[i]?=some x->vs[i]?=some v->kindOf x≠some .local ->
  Xn kindOf (P.zip vs) m x=some v
 | [],_,_,_,_,h,_,_=>by simp at h
 | _::_,[],_,_,_,_,h,_=>by simp at h
 | p::P,w::vs,0,m,nd,h1,h2,hk=>by
  simp at h1 h2;subst h1;subst h2
  show Xn kindOf ((p,w)::P.zip vs) m p=_
  unfold Xn
  rw [IT λv hv=>(bq.mp nd).1 (yg hv).1,if_neg hk]
  simp
 | p::P,w::vs,i+1,m,nd,h1,h2,hk=>by
  show Xn kindOf ((p,w)::P.zip vs) m x=_
  unfold Xn
  exact IV (i:=i) (bq.mp nd).2 (by simpa using h1) (by simpa using h2) hk
def start (N:List aZ) (vs:List V):St:=vs.map some++qI (N.length-vs.length) none
def pN (CX:Mj) (P:a8) (w:bT) (K:aa) (mg:aZ->Option ai) (base:cg) (N:List aZ) (qual:aZ) (scope:lA) (f:ag) (cd:ai) (A:bZ) (outer:List xr) (s:aq) (H:Hp) (E:XK):Cx where
 prog:=P
 w:=w
 K:=K
 mg:=mg
 base:=base
 A:=A.deeper (pQ qual scope s.heap.objs.size f cd)
 N:=N
 s₀:=s
 H₀:=H
 env:=pQ qual scope s.heap.objs.size f cd
 outer:=outer
 stack:=pQ qual scope s.heap.objs.size f cd::outer
 ex:=[]
 calm:=true
 fn:=λ_=>true
 pn:=[]
 xe:=λe s'=>aK (aY P w) (A.deeper (pQ qual scope s.heap.objs.size f cd)) (leaving (pQ qual scope s.heap.objs.size f cd) e) (λ_ s''=>CX outer H s E e s'') (λe' s''=>CX outer H s E e' s'') s'
theorem Ml {sc:lA}{n:Nat}{x:aZ}(h:sc.names.lookup x=some .cell):∃ c,(Xo n sc.names []).lookup x=some c:=by
 have q:=vR sc.names n [] (.inl h)
 exact LY.mp q
theorem IW {CX:Mj}{P:a8}{w:bT}{K:aa}{mg:aZ->Option ai}{base:cg}{N ps:List aZ}{qual:aZ}{scope:lA}{f:ag}{cd:ai}{A:bZ}{outer:List xr}{s s1:aq}{H:Hp}{E:XK}{us:List ai}{vs:List V}
  (S:bC N ps scope) (hd:A.handled=none) (e0:NW P w K mg base A outer s H) (hl:vs.length=ps.length) (r:Vals vs us)
  (x:InCallC s s.heap.objs.size (Xm (pQ qual scope s.heap.objs.size f cd).kindOf (ps.zip us) λ_=>none) (Xo (s.heap.objs.size+1) scope.names []) (Xn (pQ qual scope s.heap.objs.size f cd).kindOf (ps.zip us) λ_=>none) s1) :
  Inv (pN CX P w K mg base N qual scope f cd A outer s H E) [] (start N vs) H s1:=by
 have hpl:ps.length<=N.length:=by have:=congrArg fN S.pre;rw [cf] at this;omega
 obtain ⟨h1,tk,rfl,hk⟩:=x.done
 have noA:∀ b:ag,b∉(pN CX P w K mg base N qual scope f cd A outer s H E).ex:=λb z=>absurd (show b∈([]:List ag) from z) (by simp)
 refine ⟨⟨e0.mod,S.kind,rfl,rfl,ax _,λy z c h1 h2=>?_,λy hy=>?_,λy c _ h=>?_,λ_=>hd,RM e0.frames,.inr ⟨rfl,rfl⟩,λb z=>absurd z (noA b),e0.bs,e0.RI,λb _ _=>noA b,λb z=>absurd z (noA b),e0.xh,e0.Uj⟩,
  rfl,e0.bare,Un.kept hk,⟨_,x.toInCall.ns,λi y v h1 h2 h3=>?_⟩,λy c h=>⟨_,x.cell y c h⟩,e0.fX.fresh (ax _),λy c h=>?_,λp hp=>absurd (show p∈([]:List (ag×gC)) from hp) (by simp),e0.fX.kept hk,?_⟩
 ·exact name_of_addr x.apart (om h1) (om h2)
 ·have hy:scope.names.lookup y=some .cell\/scope.names.lookup y=some .free:=hy
  rcases hy with hy|hy
  ·exact Ml hy
  ·exact absurd rfl (S.abg _ (om hy))
 ·exact oi (x.above y c (om h))
 ·have hi:i<vs.length:=by
   unfold start at h2
   by_cases hi:i<vs.length
   ·exact hi
   ·rw [fO (by simpa using hi)] at h2
    rw [QH] at h2
    split at h2<;>cases h2
  have ha:vs[i]?=some v:=by
   unfold start at h2
   rw [ij (by simpa using hi),aG] at h2
   cases e:vs[i]? with
   | none=>rw [e] at h2;cases h2
   | some a=>rw [e] at h2;cases h2;rfl
  obtain ⟨u,hu,rv⟩:=r.get ha
  have hp:ps[i]?=some y:=by
   rw [← S.pre,List.getElem?_take_of_lt (by omega)];exact h1
  have ndP:ps.Nodup:=by rw [← S.pre];exact S.nd.sublist (YU _ _)
  refine ⟨u,rv,?_⟩
  rcases S.par y (a9 hp) with k|k
  ·exact .inl ⟨k,IU ndP hp hu k⟩
  ·obtain ⟨c,e⟩:=Ml (n:=s.heap.objs.size+1) k
   refine .inr ⟨.inl k,c,e,?_⟩
   have q:=x.cell y c e
   rw [IV ndP hp hu (by show scope.names.lookup y≠_;rw [k];decide)] at q
   exact q
 ·exact e0.fX.fresh (oi (x.above y c (om h)))
 ·unfold start
  show _=N.length
  rw [bN,aj,yG]
  omega
theorem UJ {CX:Mj}{P:a8}{w:bT}{K:aa}{mg:aZ->Option ai}{base:cg}{k:Nat}{f:ag}{name qual:aZ}{params:sP}{body:List dR}{scope:lA}{dV kV doc pm gG ct oc:ai}{an od:Option ag}
  {osl:Array (Option ai)}{N ps:List aZ}{sp:Sp}(lk:K.lookup f=some ⟨oc,od,.func (iD name qual params body scope dV kV doc pm an gG ct),osl⟩) (hcd:pR K gG qual=true) (S:bC N ps scope)
  (len:∀ vs H Q E,sp vs H Q E->vs.length=ps.length)
  (hbody:∀ (A:bZ) (outer:List xr) (s:aq) (H:Hp) (vs:List V) (Q:VK) (E:XK),k9 k (A.deeper (pQ qual scope s.heap.objs.size f gG))->sp vs H Q E ->
   ∃ t,LA (pN CX P w K mg base N qual scope f gG A outer s H E) body t/\t { nx:=λ_ H'=>Q .non H',rt:=Q } (start N vs) H) :
  dg P w K mg base CX (k+1) f (iD name qual params body scope dV kV doc pm an gG ct) ps sp:=by
 refine ⟨len,λA outer s H args us vs Q E hr e0 hb r hsp=>?_⟩
 have hl:=len _ _ _ _ hsp
 have KX:K.In s.heap:=e0.mod.Xj.keeps λb o e=>(e0.bs b o e).1
 have lim:s.heap.NoLimit:=e0.mod.nolimit.keeps λb o e=>(e0.bs b o e).1
 have hkind:∀ y∈ps.zip us,scope.names.lookup y.1=some .local\/(scope.names.lookup y.1=some .cell/\((Xo (s.heap.objs.size+1) scope.names []).lookup y.1).isSome=true):=λ⟨n,v⟩ hy=>by
  rcases S.par n (yg hy).1 with q|q
  ·exact .inl q
  ·exact .inr ⟨q,vR _ _ _ (.inl q)⟩
 refine ZM hr.depth (KX _ _ lk) rfl S.co S.gen rfl (TK KX hcd) (hb _ _ _ _ ?_)
 refine TL S.kind hkind λenv he s1 x=>?_
 subst he
 refine ⟨lim.keeps x.toInCall.keep,codeAny_func ?_⟩
 obtain ⟨t,ht,hq⟩:=hbody A outer s H vs Q E (hr.deeper _) hsp
 have I:Inv (pN CX P w K mg base N qual scope f gG A outer s H E) [] (start N vs) H s1:=IW S hr.hd e0 hl r x
 refine fj (ht [] s1 (start N vs) H _ I hq) (λfl s' hs=>?_) λe s' hs=>hs
 have fin:∀ {σ':St}{H':Hp}{v:V}{u:ai},Inv (pN CX P w K mg base N qual scope f gG A outer s H E) [] σ' H' s'->RelV v u->Q v H'->CE outer P w H s Q u s' :=
  λ{σ' H' v u} J rv q=>⟨v,H',J.os,J.bare,J.base,J.fX,rv,q⟩
 cases fl with
 | ret u =>
  obtain ⟨v,σ',H',J,rv,q⟩:=hs
  exact fin J rv q
 | next =>
  obtain ⟨σ',H',J,q⟩:=hs
  exact fin (v:=V.non) (u:=cI) J rfl q
 | brk =>
  obtain ⟨_,_,_,q⟩:=hs
  exact cc q
 | cont =>
  obtain ⟨_,_,_,q⟩:=hs
  exact cc q
end L2
namespace L2
section
variable {X:Cx}{x:aZ}{p pos:rD}{e:Expr}{es:List Expr}{t:TA}{id T:String}{r:List V->Hp->VK->Prop}
def v5 (r:List V->Hp->VK->Prop) (t:TA):TE:=λZ H Q=>t Z H λvs H1=>r vs H1 Q
theorem c6 (hc:tL X (.builtin id) r) (hg:Gl X x) (hm:X.mg x=none) (hv:eV x=some (.builtin id)) (ha:PA X (e::es) t) (hn:x≠"__name__":=by decide) (hdb:(x == ("__debug__":aZ))=false:=by decide)
  (he:bw (e::es) X.env=(false,gp e X.env)::bw es X.env:=by rfl) (hpl:(jg pos (bw es X.env)).any (·.1)=false:=by rfl):PE X (.Call (.Name x p) (e::es) [] pos) (v5 r t):=by
 intro pins s Z H Q I h
 refine dC (rg I hg hm hv ?_ hn hdb)
 exact zB (iO (ha pos pins s Z H _ I h) λus s1 ⟨vs,H1,I1,r1,q1⟩=>hc pins s1 Z H1 vs us Q I1 r1 q1) he hpl
end
end L2
namespace HT
open PySem PyProof.Rows
def lexLt:List Int->List Int->Bool
 | [],[]=>false
 | [],_::_=>true
 | _::_,[]=>false
 | x::xs,y::ys=>if x=y then lexLt xs ys else decide (x<y)
theorem Ey (x y:Int) (xs ys:List Int):lexLt (x::xs) (y::ys)=if x=y then lexLt xs ys else decide (x<y):=rfl
theorem G7:lexLt [] []=false:=rfl
theorem Ez (y:Int) (ys:List Int):lexLt [] (y::ys)=true:=rfl
theorem EA (x:Int) (xs:List Int):lexLt (x::xs) []=false:=rfl
theorem UK (A:bZ) (s:aq) (a:Int) (t:Tok) (c:Int) (u:Tok):∃ e,SeqAt.EqAt A s (.int a t) (.int c u) e/\(e=true↔a=c) :=
 ⟨(a == c),km a t c u,by simp⟩
theorem UL (A:bZ) (s:aq) (a:Int) (t:Tok) (c:Int) (u:Tok) (prog:a8) (w:bT) (E:ai->aq->Prop) (Q:ai->aq->Prop) (h:Q (.bool (decide (a<c))) s) :
  aK (aY prog w) A (richCompare .Lt (.int a t) (.int c u)) Q E s :=
 (Xl h:aK (aY prog w) A (eU .Lt (.int a t) (.int c u)) Q E s)
section
open PySem.SeqAt
open PySem.AutoSeq1 (wpAny_loadPart')
open PySem.MeetsSeq PySem.MeetsSeq2 PySem.MeetsSeq3
theorem G8 (l b:ag) (items items2:Array ai) (n n2:Nat) (dd dd2:Option ag) (sl sl2:Array (Option ai)) (ns ms:List Int) (hi:ip items.toList ns) (hj:ip items2.toList ms) :
  Meets (lO.«tuple.__lt__» ⟨[.ref l,.ref b],[]⟩)
   (λ_ R s=>s.heap.get? l=some { cls:=.type "tuple",dict:=dd,data:=.seq items n,slots:=sl }/\s.heap.get? b=some { cls:=.type "tuple",dict:=dd2,data:=.seq items2 n2,slots:=sl2 } /\
    R (.ok (.ret (.bool (lexLt ns ms)))) s) :=
 .of_wp λprog w A R s h=>by
  obtain ⟨hp,g,d,tk,os⟩:=s;obtain ⟨hl,hb,h⟩:=h
  have f2:=AutoSeq1.sub_tuple_tuple
  have z1:items.size=ns.length:=by rw [← hi.length];simp
  have z2:items2.size=ms.length:=by rw [← hj.length];simp
  wp_walk using wpAny_loadPart' hl,wpAny_loadPart' hb,wpAny_forIn_list _ (λrest b s'=>b.1=none/\s'=⟨hp,g,d,tk,os⟩/\∃ (vs ws:List ai) (ns' ms':List Int),rest=vs.zip ws /\
   ip vs ns'/\ip ws ms'/\ns'.length+items2.size=ms'.length+items.size/\R (.ok (.ret (.bool (lexLt ns' ms')))) ⟨hp,g,d,tk,os⟩) _
  case turn =>
   rintro ⟨y,x⟩ rest b s' ⟨hb',rfl,vs,ws,ns',ms',hz,hvi,hwi,hlen,hR⟩
   cases hvi with
   | nil=>rw [List.zip_nil_left] at hz;cases hz
   | cons a t hvi' =>
    cases hwi with
    | nil=>rw [List.zip_nil_right] at hz;cases hz
    | cons c u hwi' =>
     rw [lP] at hz
     injection hz with hyx hrest
     injection hyx with hy hx
     subst hy hx
     rw [Ey] at hR
     simp only [cG] at hlen
     obtain ⟨e,he,hiff⟩:=UK A.in1 ⟨hp,g,d,tk,os⟩ a t c u
     refine ae (he prog w _ _ ?_)
     cases e with
     | true =>
      rw [if_pos (hiff.mp rfl)] at hR
      wp_walk
      exact ⟨rfl,rfl,_,_,_,_,hrest,hvi',hwi',by omega,hR⟩
     | false =>
      rw [if_neg (λq=>absurd (hiff.mpr q) bM)] at hR
      have hri:=UL A.in1 ⟨hp,g,d,tk,os⟩ a t c u prog w
      wp_walk using hri
      exact ⟨_,rfl,by simpa using hR⟩
  case fin =>
   rintro ⟨b1,b2⟩ s' ⟨hb',rfl,vs,ws,ns',ms',hz,hvi,hwi,hlen,hR⟩
   simp only at hb'
   subst hb'
   have hv:lexLt ns' ms'=decide (items.size<items2.size):=by
    cases hvi with
    | nil =>
     cases hwi with
     | nil =>
      simp only [sJ] at hlen
      rw [G7]
      exact (decide_eq_false (by omega)).symm
     | cons c u hw =>
      simp only [sJ,cG] at hlen
      rw [Ez]
      exact (decide_eq_true (by omega)).symm
    | cons a t hv =>
     cases hwi with
     | nil =>
      simp only [sJ,cG] at hlen
      rw [EA]
      exact (decide_eq_false (by omega)).symm
     | cons c u hw =>
      rw [lP] at hz
      cases hz
   rw [hv] at hR
   wp_walk
   exact ⟨_,rfl,by simpa [Builtin.Tuple.tupleCompareSizes] using hR⟩
  case h =>
   exact ⟨rfl,rfl,items.toList,items2.toList,ns,ms,rfl,hi,hj,by omega,h⟩
end
section
variable {prog:a8}{w:bT}{A:bZ}{E:ai->aq->Prop}{s:aq}
theorem OI {l b:ag}{items items2:Array ai}{ns ms:List Int}{Q:ai->aq->Prop}(hl:vO s.heap l items) (hb:vO s.heap b items2) (hi:ip items.toList ns) (hj:ip items2.toList ms)
  (hu:A.units<jB) (h:Q (.bool (lexLt ns ms)) s):aK (aY prog w) A (eU .Lt (.ref l) (.ref b)) Q E s:=by
 obtain ⟨⟨cls,dd,data,sl⟩,ho,hc,n,hd⟩:=id hl
 obtain ⟨⟨cls2,dd2,data2,sl2⟩,ho2,hc2,n2,hd2⟩:=id hb
 simp only at hc hd hc2 hd2
 subst hc hd hc2 hd2
 exact richCompare_meets_room (op:=.Lt) ⟨_,ho,rfl⟩ ⟨_,ho2,rfl⟩ PySem.F.slot_tuple_lt PySem.F.entry_tuple_lt (PySem.F.args_tuple_lt_2 _ _) (G8 l b items items2 n n2 dd dd2 sl sl2 ns ms hi hj)
  ⟨ho,ho2,show xq (lexLt ns ms)≠Value.notImplemented/\Q (.bool (lexLt ns ms)) s from ⟨(λx=>nomatch x),h⟩⟩ hu
def LX (n d:Nat):Option Int->Nat
 | none=>d
 | some v=>if v<0 then (v+(n:Int)).toNat else min v.toNat n
theorem Mm (n d:Nat):LX n d none=d:=rfl
theorem XT (n d k:Nat):LX n d (some (k:Int))=min k n:=by
 show (if (k:Int)<0 then ((k:Int)+(n:Int)).toNat else min (k:Int).toNat n)=min k n
 rw [if_neg (by omega),i4]
end
end HT
namespace L2
abbrev TO:=St->Hp->(Option Int->Hp->Prop)->Prop
def PO (X:Cx) (e:Option Expr) (t:TO):Prop :=
 ∀ (pins:List (ag×gC)) (s:aq) (Z:St) (H:Hp) (Q:Option Int->Hp->Prop),Inv X pins Z H s->t Z H Q ->
  aK (aY X.prog X.w) X.A (evalPart e X.env) (λu s'=>∃ o H',Inv X pins Z H' s'/\IsPart u o/\Q o H') X.xe s
def lG:TO:=λ_ H Q=>Q none H
def pV (t:TE):TO:=λZ H Q=>t Z H λx H1=>∃ i,x=.int i/\Q (some i) H1
theorem intsAre_of {ns:List Int}:∀ {us:List ai},Vals (ns.map V.int) us->ip us ns:=by
 induction ns with
 | nil=>intro us r;rw [RN] at r;cases r;exact .nil
 | cons n ns ih =>
  intro us r
  rw [cn] at r
  cases r with
  | cons r1 r2 =>
   obtain ⟨t,e⟩:=r1
   subst e
   exact .cons n t (ih r2)
section
variable {X:Cx}{e:Expr}{te:TE}{lo hi:Option Expr}{tl th:TO}{pos p2:rD}
theorem nN:PO X none lG:=by
 intro pins s Z H Q I h
 rw [evalPart_none]
 exact av ⟨none,H,I,.none,h⟩
theorem jI (h:PE X e te):PO X (some e) (pV te):=by
 intro pins s Z H Q I hw
 rw [evalPart_some]
 refine iO (h pins s Z H _ I hw) λu s1 ⟨x,H1,I1,r1,q1⟩=>?_
 obtain ⟨i,rfl,q⟩:=q1
 obtain ⟨t,rfl⟩:=r1
 exact ⟨some i,H1,I1,.int i t,q⟩
def SlR (X:Cx) (r:V->Option Int->Option Int->Hp->VK->Prop):Prop :=
 ∀ (pins:List (ag×gC)) (s:aq) (Z:St) (H:Hp) (x:V) (v vl vu:ai) (lo hi:Option Int) (sl:ag) (Q:VK),Inv X pins Z H s->RelV x v->s.heap.IsSliceOf sl vl vu .none->IsPart vl lo->IsPart vu hi->r x lo hi H Q ->
  ∃ T id,vS (.type T) "__getitem__"=pure (some (.builtin id))/\s.TypeIs v T/\aK (aY X.prog X.w) X.A (getItem v (.ref sl)) (EP X pins Z Q) X.xe s
def Oj (r:V->Option Int->Option Int->Hp->VK->Prop) (te:TE) (tl th:TO):TE:=λZ H Q=>te Z H λx H1=>tl Z H1 λl H2=>th Z H2 λu H3=>r x l u H3 Q
theorem jm {r:V->Option Int->Option Int->Hp->VK->Prop}(hr:SlR X r) (he:PE X e te) (hl:PO X lo tl) (hu:PO X hi th):PE X (.Subscript e (.Slice lo hi none p2) pos) (Oj r te tl th):=by
 intro pins s Z H Q I h
 refine Subscript_ (iO (he pins s Z H _ I h) λv s1 ⟨x,H1,I1,r1,q1⟩=>?_)
 refine wpAny_Slice (iO (hl pins s1 Z H1 _ I1 q1) λvl s2 ⟨l,H2,I2,pl,q2⟩=>iO (hu pins s2 Z H2 _ I2 q2) λvu s3 ⟨u,H3,I3,pu,q3⟩=>?_)
 rw [evalPart_none]
 refine av ?_
 have I4:Inv X pins Z H3 { s3 with heap:=s3.heap.push { cls:=.type "slice",data:=.fields #[vl,vu,.none] } }:=I3.kept (t':=s3.toks) λb ob q=>au _ q
 obtain ⟨T,id,hT,ht,hg⟩:=hr pins { s3 with heap:=s3.heap.push { cls:=.type "slice",data:=.fields #[vl,vu,.none] } } Z H3 x v vl vu l u s3.heap.objs.size Q I4 r1 (Heap.IsSliceOf.new ..) pl pu q3
 show aK (aY X.prog X.w) X.A (subscriptTail e (.Slice lo hi none p2) v (.ref s3.heap.objs.size)) (EP X pins Z Q) X.xe { s3 with heap:=s3.heap.push { cls:=.type "slice",data:=.fields #[vl,vu,.none] } }
 exact tail_any (ops:=[.ref s3.heap.objs.size,v]) ht hT hg (by with_unfolding_all rfl)
def EB (xs:List V) (lo hi:Option Int):List V:=(xs.drop (HT.LX xs.length 0 lo)).take (HT.LX xs.length xs.length hi-HT.LX xs.length 0 lo)
theorem Mn (xs:List V) (lo hi:Option Int):(EB xs lo hi).length<=xs.length:=by
 unfold EB
 rw [cf,dO]
 omega
end
end L2
namespace L2
def Uh (n:Nat) (i:Int):Option Nat:=if 0<=i then (if i<n then some i.toNat else none) else if -(n:Int)<=i then some (i+n).toNat else none
def UM {α:Type} (xs:List α) (i:Int):Option α:=(Uh xs.length i).bind λj=>xs[j]?
theorem QU {n:Nat}{i:Int}{j:Nat}(h:Uh n i=some j):seqIndex? i n=some j/\j<n/\-(n:Int)<=i/\i<n:=by
 unfold Uh at h
 by_cases h0:0<=i
 ·rw [if_pos h0] at h
  by_cases h1:i<n
  ·rw [if_pos h1] at h
   have e:i.toNat=j:=aX h
   exact ⟨by rw [seqIndex_of h0 h1,e],by omega,by omega,h1⟩
  ·rw [if_neg h1] at h;cases h
 ·rw [if_neg h0] at h
  by_cases h1:-(n:Int)<=i
  ·rw [if_pos h1] at h
   have e:(i+n).toNat=j:=aX h
   exact ⟨by rw [seqIndex_neg (by omega) h1,e],by omega,h1,by omega⟩
  ·rw [if_neg h1] at h;cases h
theorem QV {α:Type} {xs:List α}{i:Int}{v:α}(h:UM xs i=some v):∃ j,seqIndex? i xs.length=some j/\xs[j]?=some v/\j<xs.length/\-(xs.length:Int)<=i/\i<xs.length:=by
 unfold UM at h
 cases e:Uh xs.length i with
 | none=>rw [e] at h;cases h
 | some j =>
  rw [e] at h
  obtain ⟨h1,h2,h3,h4⟩:=QU e
  exact ⟨j,h1,h,h2,h3,h4⟩
theorem XU {α:Type} {xs:List α}{j:Nat}{v:α}(h:xs[j]?=some v):UM xs (j:Int)=some v:=by
 have hj:j<xs.length:=(aC.mp h).1
 have e:Uh xs.length (j:Int)=some j:=by
  unfold Uh
  rw [if_pos (by omega),if_pos (by omega)];simp
 unfold UM;rw [e];exact h
theorem UN {α:Type} (xs:List α) (v:α):UM (xs++[v]) (-1)=some v:=by
 have hl:(xs++[v]).length=xs.length+1:=by simp
 have e:Uh (xs++[v]).length (-1)=some xs.length:=by
  unfold Uh
  rw [hl,if_neg (by decide),if_pos (by omega)]
  congr 1
  omega
 unfold UM
 rw [e]
 show (xs++[v])[xs.length]?=some v
 simp
def XW (b:Expr):Prop:=∀ o i,subscripted b false o i=operate [o,i] (getItem o i)
def YI (X:Cx) (r:R2):Prop :=
 ∀ (value slice:Expr) (pins:List (ag×gC)) (s:aq) (Z:St) (H:Hp) (x y:V) (v u:ai) (Q:VK),Inv X pins Z H s->RelV x v->RelV y u->r x y H Q ->
  subscripted slice false v u=operate [v,u] (getItem v u)->aK (aY X.prog X.w) X.A (subscriptTail value slice v u) (EP X pins Z Q) X.xe s
def MtR (X:Cx) (id:String) (r:V->List V->Hp->VK->Prop):Prop :=
 ∀ (pins:List (ag×gC)) (s:aq) (Z:St) (H:Hp) (x:V) (xs:List V) (v:ai) (us:List ai) (Q:VK),Inv X pins Z H s->RelV x v->Vals xs us->r x xs H Q ->
  aK (aY X.prog X.w) X.A (call (.builtin id) (v::us)) (EP X pins Z Q) X.xe s
section
variable {X:Cx}{a b:Expr}{ta tb:TE}{pos:rD}
theorem YI.or {r r':R2}(h:YI X r) (h':YI X r'):YI X (λx y H Q=>r x y H Q\/r' x y H Q):=by
 intro value slice pins s Z H x y v u Q I rx ry q hs
 rcases q with q|q
 ·exact h value slice pins s Z H x y v u Q I rx ry q hs
 ·exact h' value slice pins s Z H x y v u Q I rx ry q hs
theorem dU {r:R2}(hr:YI X r) (ha:PE X a ta) (hb:PE X b tb) (hs:XW b):PE X (.Subscript a b pos) (cZ r ta tb):=by
 intro pins s Z H Q I h
 exact Subscript_ (aab ha hb I h λv u s2 x y H2 I2 rx ry q=>hr a b pins s2 Z H2 x y v u Q I2 rx ry q (hs _ _))
def rIxL (K:aa):R2:=λx y H Q=>∃ p xs i v,x=.ref p/\y=.int i/\fg K H p xs/\UM xs i=some v/\Q v H
def rIxT (K:aa):R2:=λx y H Q=>∃ p xs i v,x=.ref p/\y=.int i/\sG K H p xs/\UM xs i=some v/\Q v H
theorem XX:YI X (rIxL X.K):=by
 intro value slice pins s Z H x y v u Q I rx ry h hs
 obtain ⟨p,xs,i,z,rfl,rfl,hq,he,q⟩:=h
 cases rx
 obtain ⟨t,rfl⟩:=ry
 obtain ⟨its,r,pl,hz⟩:=I.list hq
 obtain ⟨j,h1,h2,h3,h4,h5⟩:=QV he
 obtain ⟨w,ew,rw'⟩:=r.get h2
 have hl:=r.length
 have hn:=yL
 have fin:EP X pins Z Q w s:=⟨z,H,I,rw',q⟩
 by_cases h0:0<=i
 ·have hj:i.toNat=j:=by
   rw [seqIndex_of h0 h5] at h1
   exact aX h1
  exact item_listR pl.isList h0 (by omega) (by rw [hj];simpa using ew) fin hs
 ·have hj:(i+(its.toArray.size:Int)).toNat=j:=by
   rw [seqIndex_neg (by omega) h4] at h1
   rw [aV,← hl]
   exact aX h1
  exact YV (x:=w) pl.isList.typeIs slot_list_getitem.lookup
   (wpAny_getItem_list_neg (Q:=λr s'=>r=w/\EP X pins Z Q r s') pl.isList (by omega) (by rw [aV]<;>omega) (by omega) (by rw [hj];simpa using ew) ⟨rfl,fin⟩) hs
theorem aag:YI X (rIxT X.K):=by
 intro value slice pins s Z H x y v u Q I rx ry h hs
 obtain ⟨p,xs,i,z,rfl,rfl,hq,he,q⟩:=h
 cases rx
 obtain ⟨t,rfl⟩:=ry
 obtain ⟨its,r,pl,hz⟩:=I.tuple hq
 obtain ⟨j,h1,h2,h3,h4,h5⟩:=QV he
 obtain ⟨w,ew,rw'⟩:=r.get h2
 have hl:=r.length
 have hn:=yL
 have fin:EP X pins Z Q w s:=⟨z,H,I,rw',q⟩
 exact YV (x:=w) pl.typeIs slot_tuple_getitem.lookup
  (getItem_tuple (j:=j) (Q:=λr s'=>r=w/\EP X pins Z Q r s') pl (by omega) (by omega) (by rw [aV,← hl];exact h1) (by simpa using ew) ⟨rfl,fin⟩) hs
theorem OJ (its:List ai) (n j:Nat) (u:ai):bu (·.setIfInBounds j u) { cls:=.type "list",data:=.seq its.toArray n }={ cls:=.type "list",data:=.seq (its.set j u).toArray n }:=by
 simp [bu]
theorem Inv.lst {pins:List (ag×gC)}{Z:St}{H:Hp}{s:aq}{p:ag}{xs:List V}(I:Inv X pins Z H s) (h:H p=some (.lst xs)) :
  ∃ (its:List ai) (n:Nat),Vals xs its/\s.heap.get? p=some { cls:=.type "list",data:=.seq its.toArray n }/\xs.length<=bf:=by
 obtain ⟨z,its,n,r,e⟩:=I.fX p _ h
 exact ⟨its,n,r,e,z⟩
theorem Inv.abb {pins:List (ag×gC)}{Z:St}{H:Hp}{s:aq}{p:ag}{xs ys:List V}{its its':List ai}{n n':Nat}{f:gC->gC}(I:Inv X pins Z H s) (h:H p=some (.lst xs))
  (ho:s.heap.get? p=some { cls:=.type "list",data:=.seq its.toArray n }) (hf:f { cls:=.type "list",data:=.seq its.toArray n }={ cls:=.type "list",data:=.seq its'.toArray n' }) (r:Vals ys its') (hz:ys.length<=bf) (t:Nat) :
  Inv X pins Z (upd H p (.lst ys)) { s with heap:=s.heap.update p f,toks:=t }:=by
 have e:(s.heap.update p f).get? p=some { cls:=.type "list",data:=.seq its'.toArray n' }:=by
  rw [bz f ho (by rw [hf]<;>rfl),hf]
 refine I.write (x:=p) (e:=p) (by rw [h];trivial) (.inl rfl) (λb u hb q=>(bW _ _ (Ne.symm hb)).trans q) ⟨_,e⟩ ?_
 exact ⟨hz,its',n',r,e⟩
def Ze:V->V->V->Hp->(Hp->Prop)->Prop:=λo i v H Q=>∃ p xs k j,o=.ref p/\i=.int k/\H p=some (.lst xs)/\Uh xs.length k=some j/\Q (upd H p (.lst (xs.set j v)))
theorem UO:XB X Ze:=by
 intro pins s Z H o i v ov iv u Q I ro ri rv h
 obtain ⟨p,xs,k,j,rfl,rfl,hp,hj,q⟩:=h
 cases ro
 obtain ⟨t,rfl⟩:=ri
 obtain ⟨its,n,r,ho,hz⟩:=I.lst hp
 obtain ⟨h1,h2,h3,h4⟩:=QU hj
 have hl:=r.length
 have hn:=yL
 have I':Inv X pins Z (upd H p (.lst (xs.set j v))) { s with heap:=s.heap.update p (bu (·.setIfInBounds j u)) } :=
  I.abb hp ho (OJ its n j u) (r.set rv j) (by rw [List.length_set];exact hz) s.toks
 by_cases h0:0<=k
 ·have hk:k.toNat=j:=by
   rw [seqIndex_of h0 h4] at h1
   exact aX h1
  exact PySem.W.ki_setAt ho h0 (by omega) (by rw [aV,← hl];exact h4) (by rw [hk];exact ⟨_,I',q⟩)
 ·have hk:(k+(its.toArray.size:Int)).toNat=j:=by
   rw [seqIndex_neg (by omega) h3] at h1
   rw [aV,← hl]
   exact aX h1
  exact PySem.W.ki_setBack ho (by omega) (by rw [aV,← hl];exact h3) (by omega) (by rw [hk];exact ⟨_,I',q⟩)
theorem JM (lo hi:Option Int) (n:Nat):(ub lo hi none n).1=((HT.LX n 0 lo:Nat):Int)/\(ub lo hi none n).2.1=((HT.LX n n hi:Nat):Int)/\(ub lo hi none n).2.2=1:=by
 refine ⟨?_,?_,rfl⟩
 ·cases lo with
  | none=>simp [ub,HT.LX]
  | some i =>
   simp only [ub,HT.LX,Xp,show (1:Int)>0 by decide,if_true]
   by_cases h:i<0
   ·simp only [h,if_true]<;>omega
   ·simp only [h,if_false]<;>omega
 ·cases hi with
  | none=>simp [ub,HT.LX]
  | some i =>
   simp only [ub,HT.LX,Xp,show (1:Int)>0 by decide,if_true]
   by_cases h:i<0
   ·simp only [h,if_true]<;>omega
   ·simp only [h,if_false]<;>omega
theorem G9 (its:List ai) (lo hi:Option Int):slicePick its.toArray lo hi none=((its.drop (HT.LX its.length 0 lo)).take (HT.LX its.length its.length hi-HT.LX its.length 0 lo)).toArray:=by
 obtain ⟨h1,h2,h3⟩:=JM lo hi its.toArray.size
 unfold slicePick
 rw [h1,h2,h3]
 simp only [sliceRange_one,pick_run,aV]<;>rfl
def uN (K:aa):V->Option Int->Option Int->Hp->VK->Prop:=λx lo hi H Q=>∃ a xs,x=.ref a/\fg K H a xs/\∀ p,H p=none->Q (.ref p) (upd H p (.lst (EB xs lo hi)))
theorem lH:SlR X (uN X.K):=by
 intro pins s Z H x v vl vu lo hi sl Q I rx hs pl pu h
 obtain ⟨a,xs,rfl,hx,q⟩:=h
 cases rx
 obtain ⟨its,r,ht,hz⟩:=I.list hx
 have hlen:=r.length
 refine ⟨"list",_,slot_list_getitem.lookup,ht.isList.typeIs,?_⟩
 refine wpAny_getItem_list_slice ht.isList hs pl pu .none (by simp) ?_ (by rw [aV]<;>omega)
 rw [G9,← hlen]
 refine ⟨.ref s.heap.objs.size,_,I.laid (t':=s.toks) (o:=.lst (EB xs lo hi)) (λb ob q=>au _ q) (ax _) ?_,rfl,q _ (I.fX.fresh (ax _))⟩
 exact ⟨bE (Mn xs lo hi) hz,_,0,(r.drop (HT.LX xs.length 0 lo)).take (HT.LX xs.length xs.length hi-HT.LX xs.length 0 lo),aL _ rfl⟩
theorem JN:tL X (.builtin "len") (λxs H Q=>∃ p ys,xs=[.ref p]/\(fg X.K H p ys\/sG X.K H p ys)/\Q (.int ys.length) H):=by
 intro pins s Z H xs us Q I r h
 obtain ⟨p,ys,rfl,hq,q⟩:=h
 obtain ⟨u,rfl,rx⟩:=vals1 r
 cases rx
 have hn:=yL
 rcases hq with hq|hq
 ·obtain ⟨its,r',pl,hz⟩:=I.list hq
  have hlen:=r'.length
  exact Calls.call_len_list pl.isList (by simp only [aV]<;>omega) ⟨.int ys.length,H,I.tok _,⟨s.toks+1,by rw [aV,hlen]⟩,q⟩
 ·obtain ⟨its,r',pl,hz⟩:=I.tuple hq
  have hlen:=r'.length
  exact len_tuple pl (by simp only [aV]<;>omega) ⟨.int ys.length,H,I.tok _,⟨s.toks+1,by rw [aV,hlen]⟩,q⟩
theorem tL.or {f:ai}{r r':List V->Hp->VK->Prop}(h:tL X f r) (h':tL X f r'):tL X f (λxs H Q=>r xs H Q\/r' xs H Q):=by
 intro pins s Z H xs us Q I rs q
 rcases q with q|q
 ·exact h pins s Z H xs us Q I rs q
 ·exact h' pins s Z H xs us Q I rs q
def tyV (K:aa) (T:String) (x:V) (H:Hp):Prop:=match x with
 | .str _=>T="str"
 | .int _=>T="int"
 | .ref p=>(T="list"/\∃ xs,fg K H p xs)\/(T="tuple"/\∃ o,K.lookup p=some o/\o.cls=.type "tuple"/\o.dict=none) \/
   (T="dict"/\((∃ kvs,H p=some (.dK kvs))\/∃ kvs,H p=some (.dT kvs)))\/(T="set"/\∃ S n,H p=some (.set S n))
 | _=>False
theorem UP {pins:List (ag×gC)}{Z:St}{H:Hp}{s:aq}{T:String}{x:V}{v:ai}(I:Inv X pins Z H s) (r:RelV x v) (ty:tyV X.K T x H) :
  s.TypeIs v T/\∀ a,v=.ref a->∃ ob,s.heap.get? a=some ob/\ob.dict=none:=by
 cases x with
 | str z =>
  obtain ⟨t,rfl⟩:=r
  cases (show T="str" from ty)
  exact ⟨typeIs_str s z t,λ_ e=>nomatch e⟩
 | int i =>
  obtain ⟨t,rfl⟩:=r
  cases (show T="int" from ty)
  exact ⟨typeIs_int s i t,λ_ e=>nomatch e⟩
 | ref p =>
  cases r
  rcases ty with ⟨rfl,xs,hq⟩|⟨rfl,o,hk,hc,hd⟩|⟨rfl,hk⟩|⟨rfl,S,n,hk⟩
  ·obtain ⟨its,_,pl,_⟩:=I.list hq
   refine ⟨pl.isList.typeIs,λa e=>?_⟩
   cases e
   obtain ⟨o,n,e,c,hd,_⟩:=pl
   exact ⟨o,e,hd⟩
  ·refine ⟨⟨o,I.xj p o hk,hc⟩,λa e=>?_⟩
   cases e
   exact ⟨o,I.xj _ o hk,hd⟩
  ·have z:∃ o,s.heap.get? p=some o/\o.ExactDict:=by
    rcases hk with ⟨kvs,hk⟩|⟨kvs,hk⟩
    ·obtain ⟨_,_,_,_,o,_,_,e,ex,_⟩:=I.fX p _ hk
     exact ⟨o,e,ex⟩
    ·obtain ⟨_,_,_,_,o,_,_,e,ex,_⟩:=I.fX p _ hk
     exact ⟨o,e,ex⟩
   obtain ⟨o,e,ex⟩:=z
   refine ⟨⟨o,e,ex.1⟩,λa e2=>?_⟩
   cases e2
   exact ⟨o,e,ex.2.1⟩
  ·obtain ⟨o,_,_,_,e,ex,_⟩:=I.fX p _ hk
   refine ⟨⟨o,e,ex.1⟩,λa e2=>?_⟩
   cases e2
   exact ⟨o,e,ex.2.1⟩
 | _=>exact cc ty
def tBM0 (K:aa) (T:String) (r:V->List V->Hp->VK->Prop) (to:TE):TE:=λZ H Q=>to Z H λx H1=>tyV K T x H1/\r x [] H1 Q
def IX (K:aa) (T:String) (r:V->List V->Hp->VK->Prop) (to:TE) (t:TA):TE:=λZ H Q=>to Z H λx H1=>tyV K T x H1/\t Z H1 λxs H2=>r x xs H2 Q
variable {o e:Expr}{es:List Expr}{to:TE}{t:TA}{name:aZ}{apos cpos:rD}{T id:String}{r:V->List V->Hp->VK->Prop}
theorem aah (pa:PlainAttrs T) (slot:Slot T name id) (hty:typeOf (.builtin id)=pure (.type "method_descriptor")) (hm:MtR X id r) (ho:PE X o to)
  (hbase:GY o name X.env (gp o X.env)=gp o X.env:=by rfl) (hline:(apos.endLine == cpos.line)=true:=by rfl):PE X (.Call (.Attribute o name apos) [] [] cpos) (tBM0 X.K T r to):=by
 intro pins s Z H Q I h
 refine wpAny_Call_method0_late hbase hline (iO (ho pins s Z H _ I h) λv s1 ⟨x,H1,I1,r1,ty,q1⟩=>?_)
 obtain ⟨h1,h2⟩:=UP I1 r1 ty
 exact ⟨T,id,pa,slot,hty,h1,h2,QI rfl (PySem.evalArgs_none (hm pins s1 Z H1 x [] v [] Q I1 r1 .nil q1))⟩
theorem qN (pa:PlainAttrs T) (slot:Slot T name id) (hty:typeOf (.builtin id)=pure (.type "method_descriptor")) (hm:MtR X id r) (ho:PE X o to) (ha:PA X (e::es) t)
  (hbase:GY o name X.env (gp o X.env)=gp o X.env:=by rfl)
  (hfew:((jg cpos (bw (e::es) X.env)).all (λx=>!x.1) && (TJ cpos (DR [] X.env)).all (λx=>x.1.isSome)
   && decide ((e::es).length+([]:List Keyword).length+(if ([]:List Keyword).isEmpty then 0 else 1)<30))=true:=by rfl)
  (hline:(apos.endLine == cpos.line)=true:=by rfl) (hs:bw (e::es) X.env=(false,gp e X.env)::bw es X.env:=by rfl) (hplain:(jg cpos (bw es X.env)).any (·.1)=false:=by rfl) :
  PE X (.Call (.Attribute o name apos) (e::es) [] cpos) (IX X.K T r to t):=by
 intro pins s Z H Q I h
 refine wpAny_Call_method_late hbase hfew hline rfl (iO (ho pins s Z H _ I h) λv s1 ⟨x,H1,I1,r1,ty,q1⟩=>?_)
 obtain ⟨h1,h2⟩:=UP I1 r1 ty
 refine ⟨T,id,pa,slot,hty,h1,h2,?_⟩
 have hA:=ha cpos pins s1 Z H1 _ I1 q1
 rw [hs] at hA ⊢
 refine QI (by show (false || (jg cpos (bw es X.env)).any (·.1))=false;rw [hplain]<;>rfl) (TM ?_)
 exact iO hA λus s2 ⟨vs,H2,I2,r2,q2⟩=>hm pins s2 Z H2 x vs v us Q I2 r1 r2 q2
end
end L2
namespace L2
def Xh (X:Cx) (id:String) (r:V->List V->Hp->VK->Prop):Prop :=
 ∀ (pins:List (ag×gC)) (s:aq) (Z:St) (H:Hp) (x:V) (xs:List V) (v:ai) (us:List ai) (Q:VK),Inv X pins Z H s->RelV x v->Vals xs us->r x xs H Q ->
  aK (aY X.prog X.w) X.A (call (.builtin id) (v::us)) (EP X pins Z Q) X.xe s
theorem Vals.one:∀ {x:V}{us:List ai},Vals [x] us->∃ u,us=[u]/\RelV x u
 | _,_,.cons r .nil=>⟨_,rfl,r⟩
theorem Vals.zero:∀ {us:List ai},Vals [] us->us=[]
 | _,.nil=>rfl
theorem Vals.dropLast {xs:List V}{us:List ai}(h:Vals xs us):Vals xs.dropLast us.dropLast:=by
 induction h with
 | nil=>exact .nil
 | cons r t ih =>
  cases t with
  | nil=>exact .nil
  | cons q t'=>exact .cons r ih
theorem Vals.reverse {xs:List V}{us:List ai}(h:Vals xs us):Vals xs.reverse us.reverse:=by
 induction h with
 | nil=>exact .nil
 | cons r t ih=>rw [YW,YW];exact Vals.append ih (.cons r .nil)
theorem OK {α:Type} (l:List α):l.eraseIdx (l.length-1)=l.dropLast:=by
 induction l with
 | nil=>rfl
 | cons a r ih =>
  cases r with
  | nil=>rfl
  | cons b r =>
   have e:(a::b::r).length-1=((b::r).length-1)+1:=by
    have h1:(a::b::r).length=r.length+2:=rfl
    have h2:(b::r).length=r.length+1:=rfl
    omega
   rw [e,vV,ih]
   all_goals rfl
section
variable {X:Cx}{pins:List (ag×gC)}{Z:St}{H:Hp}{s:aq}{l b:ag}{xs ys zs:List V}
theorem Inv.lset {its its':List ai}{n:Nat}{f:Array ai->Array ai}{t':Nat}(I:Inv X pins Z H s) (hH:H l=some (.lst xs))
  (e:s.heap.get? l=some { cls:=.type "list",data:=.seq its.toArray n }) (hf:f its.toArray=its'.toArray) (hv:Vals ys its') (hz:ys.length<=bf) :
  Inv X pins Z (upd H l (.lst ys)) { s with heap:=s.heap.update l (bu f),toks:=t' }:=by
 have q:=PySem.IsL.update e f
 rw [hf] at q
 refine I.write (x:=l) (e:=l) (by rw [hH];exact trivial) (.inl rfl) (λb' u hb hu=>(bW s.heap (bu f) (Ne.symm hb)).trans hu) ⟨_,q⟩ ?_
 exact ⟨hz,its',_,hv,q⟩
theorem Inv.lnew {its:List ai}{t':Nat}(I:Inv X pins Z H s) (hv:Vals ys its) (hz:ys.length<=bf) :
  Inv X pins Z (upd H s.heap.objs.size (.lst ys)) { s with heap:=s.heap.push { cls:=.type "list",data:=.seq its.toArray },toks:=t' } :=
 I.laid (λ_ _ q=>au _ q) (ax _) ⟨hz,its,0,hv,aL _ rfl⟩
theorem Inv.fresh (I:Inv X pins Z H s):H s.heap.objs.size=none:=I.fX.fresh (ax _)
theorem Inv.YK (I:Inv X pins Z H s) (hH:H l=some (.lst xs)):xs.length<=bf/\∃ (its:List ai) (n:Nat),Vals xs its/\xs.length=its.length/\s.heap.get? l=some { cls:=.type "list",data:=.seq its.toArray n }:=by
 obtain ⟨z,its,n,r,e⟩:=I.fX l _ hH
 exact ⟨z,its,n,r,r.length,e⟩
end
section
variable {X:Cx}
def nO:V->List V->Hp->VK->Prop:=λx vs H Q=>∃ l xs y,x=.ref l/\vs=[y]/\H l=some (.lst xs)/\xs.length<bf/\Q .non (upd H l (.lst (xs++[y])))
theorem lj:Xh X "list.append" nO:=by
 intro pins s Z H x vs v us Q I rx rv h
 obtain ⟨l,xs,y,rfl,rfl,hH,hz,q⟩:=h
 cases rx
 obtain ⟨u,rfl,ru⟩:=rv.one
 obtain ⟨z,its,n,r,hl,e⟩:=I.YK hH
 refine TN F.slot_list_append ⟨_,e,rfl⟩ F.entry_list_append (F.args_list_append_2 _ _) (PySem.list_append l its.toArray n u (by rw [aV];omega)) ⟨e,?_⟩
 refine ⟨.non,_,I.lset (its':=its++[u]) hH e (by simp) (r.append (.cons ru .nil)) ?_,rfl,q⟩
 rw [bN,TQ]
 omega
def rPop:V->List V->Hp->VK->Prop:=λx vs H Q=>∃ l xs y,x=.ref l/\vs=[]/\H l=some (.lst xs)/\xs[xs.length-1]?=some y/\Q y (upd H l (.lst xs.dropLast))
theorem aai:Xh X "list.pop" rPop:=by
 intro pins s Z H x vs v us Q I rx rv h
 obtain ⟨l,xs,y,rfl,rfl,hH,hy,q⟩:=h
 cases rx
 have hus:=rv.zero
 subst hus
 obtain ⟨z,its,n,r,hl,e⟩:=I.YK hH
 obtain ⟨u,hu,ru⟩:=r.get hy
 have hy':its.toArray[its.toArray.size-1]?=some u:=by
  show its.toArray[its.length-1]?=some u
  rw [← dA,← hl]
  exact hu
 refine TN F.slot_list_pop ⟨_,e,rfl⟩ F.entry_list_pop (F.args_list_pop_1 _) (MeetsSeq.list_pop_last l its.toArray n u hy' (by rw [aV];omega)) ⟨e,?_⟩
 refine ⟨y,_,I.lset (its':=its.dropLast) hH e ?_ r.dropLast ?_,ru,q⟩
 ·show its.toArray.eraseIdxIfInBounds (its.toArray.size-1)=its.dropLast.toArray
  rw [aV,List.eraseIdxIfInBounds_toArray,OK]
 ·rw [List.length_dropLast]
  omega
def rCat:R2:=λx y H Q=>∃ l b xs zs,x=.ref l/\y=.ref b/\H l=some (.lst xs)/\H b=some (.lst zs)/\xs.length+zs.length<=bf/\∀ p,H p=none->Q (.ref p) (upd H p (.lst (xs++zs)))
theorem aaj:vp X (vP .Add) rCat:=by
 intro pins s Z H x y v u Q I rx ry h
 obtain ⟨l,b,xs,zs,rfl,rfl,hH,hB,hz,q⟩:=h
 cases rx
 cases ry
 obtain ⟨z,its,n,r,hl,e⟩:=I.YK hH
 obtain ⟨z2,its2,n2,r2,hl2,e2⟩:=I.YK hB
 refine PySem.P.add_list e e2 ?_ (by rw [aV,aV];omega)
 have ea:its.toArray++its2.toArray=(its++its2).toArray:=by simp
 rw [ea]
 exact ⟨.ref _,_,I.lnew (t':=s.toks) (r.append r2) (by rw [bN];omega),rfl,q _ I.fresh⟩
end
section
variable {prog:a8}{w:bT}{A:bZ}{E:ai->aq->Prop}{s:aq}
end
section
variable {X:Cx}
end
end L2
namespace L2
section
variable {κ:Type} [DecidableEq κ]
def mC (kvs:List (κ×V)) (k:κ):Option V:=(kvs.find? λkv=>decide (kv.1=k)).map (·.2)
def xX (kvs:List (κ×V)) (k:κ) (v:V):List (κ×V) :=
 if (kvs.any λkv=>decide (kv.1=k))=true then kvs.map (λkv=>if kv.1=k then (kv.1,v) else kv) else kvs++[(k,v)]
def uh (kvs:List (κ×V)) (k:κ):List (κ×V):=kvs.filter λkv=>decide (kv.1≠k)
theorem v7 {p:κ×V}{r:List (κ×V)}{k:κ}(e:p.1=k):mC (p::r) k=some p.2:=by simp [mC,pF,e]
theorem ui {p:κ×V}{r:List (κ×V)}{k:κ}(e:¬ p.1=k):mC (p::r) k=mC r k:=by simp [mC,pF,e]
theorem zK (k:κ):∀ kvs:List (κ×V),(kvs.any λkv=>decide (kv.1=k))=(mC kvs k).isSome
 | []=>rfl
 | p::r=>by
  rw [Os]
  by_cases e:p.1=k
  ·simp only [v7 e,decide_eq_true e,Bool.true_or,Option.isSome_some]
  ·rw [ui e,decide_eq_false e,Bool.false_or];exact zK k r
theorem Cz (kvs:List (κ×V)) (k:κ) (v:V):(xX kvs k v).length<=kvs.length+1:=by
 unfold xX
 split
 ·rw [aj];omega
 ·rw [bN,cG,sJ];omega
theorem UQ {kvs:List (κ×V)}{k:κ}(v:V) (h:mC kvs k=none):xX kvs k v=kvs++[(k,v)]:=by
 unfold xX
 rw [zK,h]
 exact if_neg (by decide)
theorem xk.uF {o:Option V}{u:Option ai}(r:xk o u):o.isSome=u.isSome:=by
 cases o with
 | none=>cases u with
  | none=>rfl
  | some _=>exact (show False from r).elim
 | some _=>cases u with
  | none=>exact (show False from r).elim
  | some _=>rfl
theorem KV.val {kvs:List (κ×V)}{vs:List (κ×ai)}(r:KV kvs vs) (k:κ):xk (mC kvs k) (LH vs k):=by
 unfold KV at r
 induction r with
 | nil=>exact j9
 | @cons p q ps qs h t ih =>
  obtain ⟨h1,h2⟩:=h
  by_cases e:p.1=k
  ·have e':q.1=k:=h1.symm.trans e
   have b:LH (q::qs) k=some q.2:=by simp [LH,pF,e']
   rw [v7 e,b];exact h2
  ·have e':¬ q.1=k:=λz=>e (h1.trans z)
   have b:LH (q::qs) k=LH qs k:=by simp [LH,pF,e']
   rw [ui e,b];exact ih
theorem KV.any {kvs:List (κ×V)}{vs:List (κ×ai)}(r:KV kvs vs) (k:κ):(kvs.any λkv=>decide (kv.1=k))=vs.any λkv=>decide (kv.1=k):=by
 unfold KV at r
 induction r with
 | nil=>rfl
 | cons h t ih=>rw [Os,Os,ih,h.1]
theorem KV.aa9 {kvs:List (κ×V)}{vs:List (κ×ai)}(r:KV kvs vs) (k:κ) {y:V}{u:ai}(ry:RelV y u) :
  KV (kvs.map λkv=>if kv.1=k then (kv.1,y) else kv) (vs.map λkv=>if kv.1=k then (kv.1,u) else kv):=by
 unfold KV at r ⊢
 induction r with
 | nil=>exact .nil
 | @cons p q ps qs h t ih =>
  rw [cn,cn]
  refine .cons ?_ ih
  obtain ⟨h1,h2⟩:=h
  by_cases e:p.1=k
  ·rw [if_pos e,if_pos (h1.symm.trans e)];exact ⟨h1,ry⟩
  ·rw [if_neg e,if_neg (λz=>e (h1.trans z))];exact ⟨h1,h2⟩
theorem KV.put {kvs:List (κ×V)}{vs:List (κ×ai)}(r:KV kvs vs) (k:κ) {y:V}{u:ai}(ry:RelV y u):KV (xX kvs k y) (stored vs k u):=by
 unfold xX stored
 rw [r.any k]
 by_cases e:(vs.any λkv=>decide (kv.1=k))=true
 ·rw [if_pos e,if_pos e];exact r.aa9 k ry
 ·rw [if_neg e,if_neg e];exact Paired.snoc r ⟨rfl,ry⟩
theorem KV.length {kvs:List (κ×V)}{vs:List (κ×ai)}(r:KV kvs vs):kvs.length=vs.length:=AX r
end
theorem Mo {P:a8}{w:bT}{k:kg}{u:ai}(r:RelV (kV k) u):(hJ P w).is k u=true:=by
 cases k with
 | inl i=>obtain ⟨t,e⟩:=(show ∃ t,u=iR i t from r);subst e;exact Ma P w i t
 | inr x=>obtain ⟨t,e⟩:=(show ∃ t,u=tN x t from r);subst e;exact Mb P w x t
theorem IY {P:a8}{w:bT}:∀ {ks:List kg}{us:List ai},Vals (ks.map kV) us->ItemsAre (hJ P w) ks us
 | [],_,r=>by rw [RN] at r;cases r;exact .nil
 | k::ks,_,r=>by
  rw [cn] at r
  cases r with
  | cons h t=>exact .cons (Mo h) (IY t)
abbrev KT (H:Hp):List (List kg×V)->List (List kg×ag×ai)->Prop:=Paired λp q=>p.1=q.1/\H q.2.1=some (.tup (p.1.map kV))/\RelV p.2 q.2.2
theorem KT.val {H:Hp}{kvs:List (List kg×V)}{xs:List (List kg×ag×ai)}(r:KT H kvs xs) (k:List kg):xk (mC kvs k) ((LI xs k).map (·.2)):=by
 induction r with
 | nil=>exact j9
 | @cons p q ps qs h t ih =>
  obtain ⟨h1,_,h2⟩:=h
  by_cases e:p.1=k
  ·have e':q.1=k:=h1.symm.trans e
   have b:LI (q::qs) k=some q.2:=by simp [LI,pF,e']
   rw [v7 e,b];exact h2
  ·have e':¬ q.1=k:=λz=>e (h1.trans z)
   have b:LI (q::qs) k=LI qs k:=by simp [LI,pF,e']
   rw [ui e,b];exact ih
theorem KT.aa9 {H:Hp}{kvs:List (List kg×V)}{xs:List (List kg×ag×ai)}(r:KT H kvs xs) (k:List kg) {y:V}{u:ai}(ry:RelV y u) :
  KT H (kvs.map λkv=>if kv.1=k then (kv.1,y) else kv) (xs.map (putAt k u)):=by
 induction r with
 | nil=>exact .nil
 | @cons p q ps qs h t ih =>
  rw [cn,cn]
  refine .cons ?_ ih
  obtain ⟨h1,h2,h3⟩:=h
  unfold putAt
  by_cases e:p.1=k
  ·rw [if_pos e,if_pos (h1.symm.trans e)];exact ⟨h1,h2,ry⟩
  ·rw [if_neg e,if_neg (λz=>e (h1.trans z))];exact ⟨h1,h2,h3⟩
theorem KT.put {H:Hp}{kvs:List (List kg×V)}{xs:List (List kg×ag×ai)}(r:KT H kvs xs) (k:List kg) {b:ag}{y:V}{u:ai}(hb:H b=some (.tup (k.map kV))) (ry:RelV y u) :
  KT H (xX kvs k y) (storedH xs k b u):=by
 have e:(kvs.any λkv=>decide (kv.1=k))=(LI xs k).isSome:=by
  rw [zK,(r.val k).uF,CW]
 unfold xX storedH
 rw [e]
 by_cases q:(LI xs k).isSome=true
 ·rw [if_pos q,if_pos q];exact r.aa9 k ry
 ·rw [if_neg q,if_neg q];exact Paired.snoc r ⟨rfl,hb,ry⟩
theorem KT.keeps {H H':Hp}{kvs:List (List kg×V)}{xs:List (List kg×ag×ai)}(r:KT H kvs xs) (ht:∀ b ys,H b=some (.tup ys)->H' b=some (.tup ys)):KT H' kvs xs :=
 Paired.To r λ_ _ z=>⟨z.1,ht _ _ z.2.1,z.2.2⟩
section
variable {P:a8}{w:bT}{H:Hp}{h:cg}{a:ag}
theorem Zg {u:HO}(ok:vE P w H h) (e:Rd H a u):gK P w H h a u:=e.ok ok
theorem IZ {kvs:List (kg×V)}(ok:vE P w H h) (e:Rd H a (.dK kvs)):kvs.length<=bf/\(a == mP)=false/\∃ vs,KV kvs vs/\h.DictOf (hJ P w) a vs :=
 show gK P w H h a (.dK kvs) from Zg ok e
theorem Zh {kvs:List (kg×V)}(ok:vE P w H h) (e:H a=some (.dK kvs)):kvs.length<=bf/\(a == mP)=false/\∃ vs,KV kvs vs/\h.DictOf (hJ P w) a vs:=IZ ok (.inl e)
theorem v8 {ks:List kg}(ok:vE P w H h) (e:H a=some (.tup (ks.map kV))):(pE (hJ P w)).is h ks a:=by
 obtain ⟨_,its,r,o,h1,h2,n,h3⟩:=(show gK P w H h a (.tup (ks.map kV)) from ok a _ e)
 exact ⟨o,its.toArray,n,h1,h2,h3,by simpa using IY r⟩
theorem Ja {kvs:List (List kg×V)}(ok:vE P w H h) (e:Rd H a (.dT kvs)):kvs.length<=bf/\(a == mP)=false /\
  ∃ xs,KT H kvs xs/\h.DictOfH (pE (hJ P w)) a xs:=by
 obtain ⟨z,y,xs,r,o,es,ep,h1,h2,h3,h4,h5⟩:=(show gK P w H h a (.dT kvs) from Zg ok e)
 refine ⟨z,y,xs,r,o,es,ep,h1,h2,h3,h4,λx hx=>?_,h5⟩
 have all:∀ {l:List (List kg×V)}{m:List (List kg×ag×ai)},KT H l m->∀ x∈m,(pE (hJ P w)).is h x.1 x.2.1:=by
  intro l m q
  induction q with
  | nil=>intro x hx;exact nomatch hx
  | @cons p q ps qs hq t ih =>
   intro x hx
   rcases ay.mp hx with e|hx
   ·subst e
    exact v8 ok (by rw [← hq.1];exact hq.2.1)
   ·exact ih x hx
 exact all r x hx
theorem ab6 {kvs:List (List kg×V)}(ok:vE P w H h) (e:H a=some (.dT kvs)):kvs.length<=bf/\(a == mP)=false /\
  ∃ xs,KT H kvs xs/\h.DictOfH (pE (hJ P w)) a xs:=Ja ok (.inl e)
end
def Cp (H:Hp) (a:ag) (y:V) (r:Option V):Prop :=
 (∃ kvs k,Rd H a (.dK kvs)/\y=kV k/\r=mC kvs k)\/∃ kvs k b,Rd H a (.dT kvs)/\y=.ref b/\H b=some (.tup (k.map kV))/\r=mC kvs k
def IG (H:Hp) (a:ag) (y v:V) (H':Hp):Prop :=
 (∃ kvs k,H a=some (.dK kvs)/\y=kV k/\kvs.length<bf/\H'=upd H a (.dK (xX kvs k v))) \/
 ∃ kvs k b,H a=some (.dT kvs)/\y=.ref b/\H b=some (.tup (k.map kV))/\kvs.length<bf/\H'=upd H a (.dT (xX kvs k v))
theorem Cp.t {H:Hp}{a b:ag}{kvs:List (List kg×V)}{k:List kg}(e:H a=some (.dT kvs)) (eb:H b=some (.tup (k.map kV))):Cp H a (.ref b) (mC kvs k):=.inr ⟨kvs,k,b,.inl e,rfl,eb,rfl⟩
theorem IG.t {H:Hp}{a b:ag}{kvs:List (List kg×V)}{k:List kg}{v:V}(e:H a=some (.dT kvs)) (eb:H b=some (.tup (k.map kV))) (hl:kvs.length<bf) :
  IG H a (.ref b) v (upd H a (.dT (xX kvs k v))):=.inr ⟨kvs,k,b,e,rfl,eb,hl,rfl⟩
section
variable {X:Cx}{pins:List (ag×gC)}{Z:St}{H:Hp}{s:aq}{a:ag}{y v:V}{u r:ai}{o:Option V}{A:bZ}{E:ai->aq->Prop}
theorem Inv.big (I:Inv X pins Z H s):mP<s.heap.objs.size:=by
 have h:bx<s.heap.objs.size:=(I.mod.glob.keeps I.bk).lt
 exact TR (by decide) h
theorem Jb {Q:ai->aq->Prop}(hu:A.units+1<jB) (I:Inv X pins Z H s) (g:Cp H a y (some v)) (ry:RelV y u) (h:∀ w' s',Inv X pins Z H s'->RelV v w'->Q w' s') :
  aK (aY X.prog X.w) A (getItem (.ref a) u) Q E s:=by
 rcases g with ⟨kvs,k,e,ey,l⟩|⟨kvs,k,b,e,ey,eb,l⟩
 ·subst ey
  obtain ⟨z,hd,vs,rel,dd⟩:=IZ I.fX e
  obtain ⟨w',hw,rw'⟩:=xk.some_of (v:=v) (o:=LH vs k) (by rw [l];exact rel.val k)
  exact wpAny_getItem_of (Mo ry) dd.mapOf hw (h w' _ (I.tok _) rw')
 ·subst ey
  cases (show u=aE b from ry)
  obtain ⟨z,hd,xs,rel,dd⟩:=Ja I.fX e
  obtain ⟨w',hw,rw'⟩:=xk.some_of (v:=v) (o:=(LI xs k).map (·.2)) (by rw [l];exact rel.val k)
  obtain ⟨p,hp,hp2⟩:=bV.mp hw
  refine wpAny_getItem_heap (mR hu) (v8 I.fX eb) dd hp ?_
  rw [hp2]
  exact h w' _ (I.tok _) rw'
theorem d_in {Q:ai->aq->Prop}(hu:A.units+1<jB) (I:Inv X pins Z H s) (g:Cp H a y o) (ry:RelV y u) (h:∀ s',Inv X pins Z H s'->Q (.bool o.isSome) s') :
  aK (aY X.prog X.w) A (eU .In u (.ref a)) Q E s:=by
 rcases g with ⟨kvs,k,e,ey,l⟩|⟨kvs,k,b,e,ey,eb,l⟩
 ·subst ey
  obtain ⟨z,hd,vs,rel,dd⟩:=IZ I.fX e
  refine wpAny_in_of (Mo ry) hd dd.mapOf ?_
  rw [← (rel.val k).uF,← l]
  exact h _ (I.tok _)
 ·subst ey
  cases (show u=aE b from ry)
  obtain ⟨z,hd,xs,rel,dd⟩:=Ja I.fX e
  refine wpAny_in_heap (mR hu) (v8 I.fX eb) hd dd ?_
  have q:=(rel.val k).uF
  rw [CW] at q
  rw [← q,← l]
  exact h _ (I.tok _)
theorem XY {Q:ai->aq->Prop}(hu:A.units+1<jB) (I:Inv X pins Z H s) (g:Cp H a y o) (ry:RelV y u) (h:∀ s',Inv X pins Z H s'->Q (.bool (!o.isSome)) s') :
  aK (aY X.prog X.w) A (eU .NotIn u (.ref a)) Q E s:=by
 rcases g with ⟨kvs,k,e,ey,l⟩|⟨kvs,k,b,e,ey,eb,l⟩
 ·subst ey
  obtain ⟨z,hd,vs,rel,dd⟩:=IZ I.fX e
  refine wpAny_notIn_of (Mo ry) hd dd.mapOf ?_
  rw [← (rel.val k).uF,← l]
  exact h _ (I.tok _)
 ·subst ey
  cases (show u=aE b from ry)
  obtain ⟨z,hd,xs,rel,dd⟩:=Ja I.fX e
  refine wpAny_notIn_heap (mR hu) (v8 I.fX eb) hd dd ?_
  have q:=(rel.val k).uF
  rw [CW] at q
  rw [← q,← l]
  exact h _ (I.tok _)
theorem JO {h':cg}{t':Nat}{ob:HO}(I:Inv X pins Z H s) (mu:Mut (H a)) (hs:je a s.heap h') (he:∃ q,h'.get? a=some q) (new:gK X.prog X.w (upd H a ob) h' a ob) :
  Inv X pins Z (upd H a ob) { s with heap:=h',toks:=t' } :=
 I.write (x:=a) (e:=a) mu (.inl rfl) (λb q hb z=>(hs.2 b hb).trans z) he new
theorem aak {P:a8}{w:bT}{H':Hp}{h':cg}{kvs:List (kg×V)}{vs:List (kg×ai)}(z:kvs.length<=bf) (hd:(a == mP)=false) (rel:KV kvs vs) (dd:h'.DictOf (hJ P w) a vs) :
  gK P w H' h' a (.dK kvs):=⟨z,hd,vs,rel,dd⟩
theorem Jc {H':Hp}{Q:Unit->aq->Prop}(hu:A.units+1<jB) (I:Inv X pins Z H s) (g:IG H a y v H') (ry:RelV y u) (rv:RelV v r) (h:∀ s',Inv X pins Z H' s'->Q () s') :
  aK (aY X.prog X.w) A (setItem (.ref a) u r) Q E s:=by
 rcases g with ⟨kvs,k,e,ey,l,eH⟩|⟨kvs,k,b,e,ey,eb,l,eH⟩
 ·subst ey eH
  obtain ⟨z,hd,vs,rel,dd⟩:=Zh I.fX e
  have hz:vs.length<=bf:=by rw [← rel.length];exact z
  have hl:(xX kvs k v).length<=bf:=by have:=Cz kvs k v;omega
  refine wpAny_setItem_pairs (hsz:=hz) (Mo ry) dd λh' dd' hs=>h _ ?_
  have he:∃ q,h'.get? a=some q:=let ⟨q,_,_,hq,_⟩:=dd';⟨q,hq⟩
  exact JO I (by rw [e];exact j9) hs he (aak hl hd (rel.put k rv) dd')
 ·subst ey eH
  cases (show u=aE b from ry)
  obtain ⟨z,hd,xs,rel,dd⟩:=ab6 I.fX e
  have hz:xs.length<=bf:=by rw [← AX rel];exact z
  have hl:(xX kvs k v).length<=bf:=by have:=Cz kvs k v;omega
  refine wpAny_setItem_heap (hsz:=hz) (mR hu) (v8 I.fX eb) dd λh' dd' hs=>h _ ?_
  obtain ⟨q,es,ep,hq,h2,h3,h4,_,h5⟩:=dd'
  refine JO I (by rw [e];exact j9) hs ⟨q,hq⟩ ⟨hl,hd,_,(rel.put k eb rv).keeps λc ys ec=>?_,q,es,ep,hq,h2,h3,h4,h5⟩
  rw [aJ (jG ec e (λz=>nomatch z))]
  exact ec
end
section
variable {X:Cx}{pins:List (ag×gC)}{Z:St}{H:Hp}{s:aq}{a:ag}{kvs:List (kg×V)}{k:kg}{u:ai}{A:bZ}{E:ai->aq->Prop}
theorem ab7 {Q:ai->aq->Prop}(I:Inv X pins Z H s) (e:Rd H a (.dK kvs)) (h:∀ t s',Inv X pins Z H s'->Q (.int kvs.length t) s'):aK (aY X.prog X.w) A (call (.builtin "len") [.ref a]) Q E s:=by
 obtain ⟨z,hd,vs,rel,dd⟩:=IZ I.fX e
 refine call_len_dict hd dd (by rw [← rel.length];rw [xO] at z;omega) ?_
 rw [← rel.length]
 exact h _ _ (I.tok _)
end
theorem Mp {X:Cx}{pins:List (ag×gC)}{Z:St}{H:Hp}{s:aq}{a:ag}{y:V}{o:Option V}(I:Inv X pins Z H s) (g:Cp H a y o):s.TypeIs (.ref a) "dict":=by
 rcases g with ⟨kvs,k,e,_,_⟩|⟨kvs,k,b,e,_,_,_⟩
 ·obtain ⟨_,_,vs,_,dd⟩:=IZ I.fX e
  exact dd.typeIs
 ·obtain ⟨_,_,xs,_,dd⟩:=Ja I.fX e
  exact dd.typeIs
def Zi (td ty tv:TE) (rd:V->V->Hp->VK->Prop):TS:=λD Z H=>td Z H λx H1=>ty Z H1 λy H2=>∃ a v,x=.ref a/\Cp H2 a y (some v) /\
 tv Z H2 λy2 H3=>rd v y2 H3 λz H4=>∃ H5,IG H4 a y z H5/\D.nx Z H5
section
variable {X:Cx}{o i e value:Expr}{pos pos' tpos:rD}{td ty tv:TE}
theorem XZ {op:LF}{rd:V->V->Hp->VK->Prop}(hu:X.A.units+1<jB) (ho:PE X o td) (hi:PE X i ty) (hv:PE X value tv) (hop:aaf X op rd)
  (ha:∀ ov iv new,augStore i ov iv new=(do qH [new,ov,iv] (setItem ov iv new);release [new,ov,iv] [];pure .next)):PS X (.AugAssign (.Subscript o i tpos) op value pos) (Zi td ty tv rd):=by
 intro pins s Z H D I h
 refine wpAny_AugAssign_SubscriptAny (iO (ho pins s Z H _ I h) λu s1 ⟨x,H1,I1,rx,q1⟩=>iO (hi pins s1 Z H1 _ I1 q1) λiv s2 ⟨y,H2,I2,ry,a,v,ex,g,q2⟩=>?_) ha
 subst ex
 obtain rfl:u=aE a:=rx
 refine Jb hu I2 g ry λw' s3 I3 rw'=>iO (hv pins s3 Z H2 _ I3 q2) λw2 s4 ⟨y2,H3,I4,ry2,q3⟩=>iO (hop pins s4 Z H3 v y2 w' w2 _ I4 rw' ry2 q3) λw3 s5 ⟨z,H4,I5,rz,H5,g5,q4⟩=>?_
 exact Jc hu I5 g5 ry rz λs6 I6=>⟨Z,H5,I6,q4⟩
end
theorem UR {P:a8}{w:bT}{H:Hp}(h:cg) (hb:mP<h.objs.size):gK P w H (h.push { cls:=.type "dict",data:=.dict #[] }) h.objs.size (.dT []) :=
 ⟨bG _,beq_eq_false_iff_ne.mpr (Ne.symm (aS hb)),[],.nil,_,#[],0,aL _ rfl,⟨rfl,rfl,rfl⟩,rfl,rfl,zC⟩
def ED:TE:=λ_ H Q=>∀ p,H p=none->Q (.ref p) (upd H p (.dT []))
section
variable {X:Cx}{pos:rD}
theorem EE:PE X (.Dict [] [] pos) ED:=λpins s Z H Q I h =>
 wpAny_Dict_empty ⟨.ref s.heap.objs.size,_,I.laid (a:=s.heap.objs.size) (o:=.dT []) (t':=s.toks) (λ_ _ q=>au _ q) (ax _) (UR s.heap I.big),rfl,h _ (I.fX.fresh (ax _))⟩
end
section
variable {X:Cx}{pins:List (ag×gC)}{Z:St}{H:Hp}{s:aq}{a:ag}{y d:V}{u r:ai}{o:Option V}{A:bZ}{E:ai->aq->Prop}
end
section
variable {X:Cx}{o e f:Expr}{apos cpos:rD}{td ty tx:TE}
end
section
variable {X:Cx}{pins:List (ag×gC)}{Z:St}{H:Hp}{s:aq}{a:ag}{kvs:List (kg×V)}{A:bZ}{E:ai->aq->Prop}
end
section
variable {X:Cx}{pins:List (ag×gC)}{Z:St}{H:Hp}{s:aq}{a:ag}{y:V}{u:ai}{A:bZ}{E:ai->aq->Prop}
end
end L2
namespace Att
open PySem PySem.W PySem.Calls PyProof.Rows
theorem C3 {P:Params}{h:cg}:∀ (ns:List Int) (vs:List ai),WellAll P h vs (ns.map WData.int)->ip vs ns:=by
 intro ns
 induction ns with
 | nil =>
  intro vs w
  rw [RN] at w
  cases w
  exact .nil
 | cons n ns ih =>
  intro vs w
  rw [cn] at w
  cases w with
  | cons a b =>
   cases a
   exact .cons _ _ (ih _ b)
theorem Sb {l:vF}{n:Nat}(hn:l.most=some n) {P:Params}{h:cg}{args:List WData}{vals:List ai}
  (hpre:l.row.toRowW.claim.pre args=true) (hwl:WellAll P h vals args) :
  ∃ a vs ns,vals=[aE a]/\args=[WData.list (ns.map WData.int)]/\h.get? a=some { cls:=.type "list",data:=.seq vs.toArray }/\ip vs ns/\ns.length<=n:=by
 have hsh:WShape.hasAll [] args [.list .int]=true:=(pre_splitW hpre).1
 have hc:l.pre.holds [] { args:=args }=true:=(pre_splitW hpre).2
 obtain ⟨d,r,rfl,h1,h2⟩:=hasAllW_cons hsh
 obtain rfl:=hasAllW_nil h2
 obtain ⟨xs,rfl,h3⟩:=hasW_list h1
 obtain ⟨ns,rfl⟩:=items_int h3
 have hlen:ns.length<=n:=by
  unfold OpenLaw.pre at hc
  have h4:(WTm.not (.lt (.lit (.int (n:Int))) (.len (.arg 0)))).holds [] { args:=[.list (ns.map .int)] }=true:=by
   have h4:=(holds_andW hc).1
   rw [hn] at h4
   exact h4
  have h5:=condW_of h4 (w_not (w_lt w_lit (w_len_list (w_arg rfl))))
  rw [aj] at h5
  refine rX λq=>?_
  have q':(n:Int)<((ns.length:Nat):Int):=by omega
  first
   | (rw [decide_eq_true q'] at h5;exact absurd h5 (by decide))
   | (simp at h5;omega)
 cases hwl with
 | cons w1 w2 =>
  cases w2
  cases w1 with
  | list ho hall=>exact ⟨_,_,ns,rfl,rfl,ho,C3 ns _ hall,hlen⟩
theorem Sd (l:vF) (args:List WData):l.row.toRowW.claim.post args (.bool true) args=true :=
 postW_of (r:=l.row.toRowW) (X:=(true == true))
  (show WShape.has [] (.bool true) .bool=true by first|rfl|decide|simp [WShape.has,WShape.arms,WShape.armsAll])
  (show (WTm.eq .res (.lit (.bool true))).value [] { args:=args,res:=some (.bool true),after:=args }=some (.bool (true == true)) from w_eq_bool (w_res rfl) w_lit) rfl
theorem Mq {l:vF}{n:Nat}{q:a8}{loose:List aZ}{XP:(aZ->Option ai)->cg->Prop}{YP:bT->cg->Prop}{d:DefRec}
  (hn:l.most=some n) (hdf:d.params.defaults=[])
  (call:∀ (w:bT) (s₀ s₁:aq) (mg mb:aZ->Option ai) (fa:ag) (o:gC) (pm cd doc:ai) (a:ag) (vs:List ai) (ns:List Int),
   Ground q loose [] XP w s₀ mg mb s₁.heap->YP w s₁.heap ->
   s₁.heap.get? fa=some o->o.data=.func (docDef d.name d.params d.body d.scope pm cd doc)->s₁.heap.CodeRec cd d.name->mg d.name=some (.ref fa) ->
   s₁.heap.get? a=some { cls:=.type "list",data:=.seq vs.toArray }->ip vs ns->ns.length<=n->s₁.gens=#[] ->
   mQ (aY l.prog w) LJ (.call (.ref fa) ⟨[.ref a],[]⟩) (λr s'=>r=.ok (.ret (.bool true))/\OldK s₁.heap s'.heap/\s'.os=s₁.os/\xM s'.gens) s₁) :
  W7 q loose XP YP l.row.toRowW d [] (λf vs=>W8 f vs):=by
 intro w s₀ s₁ mg mb G Y fa o pm cd doc dV kV ho hd hcd hD hmg hg args vals as hpre hlay hrd hwl hlo
 obtain rfl:dV=.none:=Dflts.none hD hdf
 obtain rfl:kV=.none:=Dflts.noKw hD
 obtain ⟨a,vs,ns,rfl,rfl,hobj,hints,hlen⟩:=Sb hn hpre hwl
 refine enter_call (kH (call w s₀ s₁ mg mb fa o pm cd doc a vs ns G Y ho (fd_plain hd) hcd hmg hobj hints hlen hg) λr s' hq=>?_)
 obtain ⟨rfl,h2,h3,h4⟩:=hq
 exact ⟨.inl ⟨.bool true,.bool true,[],rfl,λ_=>rfl,.bool true,Sd l _,λ_=>⟨LZ,λ_ hm=>(nomatch hm)⟩⟩,h2,h3,h4⟩
section
variable {prog:a8}{w:bT}{A:bZ}{E:ai->aq->Prop}{s:aq}{K:aa}
end
end Att
namespace L2
theorem Bj:∀ {vs:List ai}{ns:List Int},ip vs ns->Vals (ns.map V.int) vs
 | _,_,.nil=>.nil
 | _,_,.cons n t h=>.cons ⟨t,rfl⟩ (Bj h)
end L2
namespace L2
end L2
namespace L2
def fF (s:dR) (j:Nat):dR:=match s with
 | .ClassDef _ _ _ body _ _ _ _ _ _ _=>body.getD j (.Pass ⟨0,0,0,0⟩)
 | _=>.Pass ⟨0,0,0,0⟩
def sS (s:dR):sP:=match s with
 | .FunctionDef _ a _ _ _ _ _ _ _ _=>a
 | _=>{ posonlyargs:=[],args:=[],vararg:=none,kwonlyargs:=[],kw_defaults:=[],kwarg:=none,defaults:=[] }
def nQ (s:dR):List dR:=match s with
 | .FunctionDef _ _ b _ _ _ _ _ _ _=>b
 | _=>[]
def aU (s:dR):lA:=match s with
 | .FunctionDef _ _ _ _ _ _ sc _ _ _=>sc
 | _=>{ kind:=.function,names:=[],isGenerator:=false,isCoroutine:=false }
abbrev eT:Mj:=λ_ _ _ _ _ _=>False
abbrev E0:XK:=λ_ _ _=>False
theorem bF {X:Cx}:rj eT X E0:=λ_ _ _ _ _ _ _ h=>h.elim
structure jZ (K:aa) (x qual:aZ) (st:dR) (f:ag) (fd:fo):Prop where
 ex:∃ (oc:ai) (od:Option ag) (kV doc pm:ai) (an:Option ag) (gG ct:ai) (osl:Array (Option ai)),
  fd=iD x qual (sS st) (nQ st) (aU st) .none kV doc pm an gG ct/\K.lookup f=some ⟨oc,od,.func fd,osl⟩/\pR K gG qual=true
 kp:eh K (.ref f)=true
section
variable {P:a8}{w:bT}{K:aa}{mg:aZ->Option ai}{base:cg}
theorem jZ.ok {x qual:aZ}{st:dR}{f:ag}{fd:fo}{N ps:List aZ}{k:Nat}{sp:Sp}(F:jZ K x qual st f fd) (S:bC N ps (aU st)) (len:∀ vs H Q E,sp vs H Q E->vs.length=ps.length)
  (hbody:∀ (gG:ai) (A:bZ) (outer:List xr) (s:aq) (H:Hp) (vs:List V) (Q:VK) (E:XK),k9 k (A.deeper (pQ qual (aU st) s.heap.objs.size f gG))->sp vs H Q E ->
   ∃ t,LA (pN eT P w K mg base N qual (aU st) f gG A outer s H E).ZF (nQ st) t/\t { nx:=λ_ H'=>Q .non H',rt:=Q } (start N vs) H):dg P w K mg base eT (k+1) f fd ps sp:=by
 obtain ⟨oc,od,kV,doc,pm,an,gG,ct,osl,rfl,lk,hcd⟩:=F.ex
 refine UJ lk hcd S len λA outer s H vs Q E hr hsp=>?_
 obtain ⟨t,h,q⟩:=hbody gG A outer s H vs Q E hr hsp
 exact ⟨t,h.ZF,q⟩
theorem jZ.binds {x qual:aZ}{st:dR}{f:ag}{fd:fo}{ps:List aZ}(F:jZ K x qual st f fd)
  (h:∀ (kV doc pm:ai) (an:Option ag) (gG ct:ai) (us:List ai),us.length=ps.length->LG (iD x qual (sS st) (nQ st) (aU st) .none kV doc pm an gG ct) ⟨us,[]⟩=pure (ps.zip us)):Binds K fd ps []:=by
 obtain ⟨oc,od,kV,doc,pm,an,gG,ct,osl,rfl,lk,hcd⟩:=F.ex
 exact .all (h kV doc pm an gG ct)
theorem JP {x qual:aZ}{st:dR}{f:ag}{oc:ai}{od an:Option ag}{osl:Array (Option ai)}{kV doc pm gG ct:ai}(l:K.lookup f=some ⟨oc,od,.func (iD x qual (sS st) (nQ st) (aU st) .none kV doc pm an gG ct),osl⟩)
  (c:pR K gG qual=true) (k:eh K (.ref f)=true):jZ K x qual st f (iD x qual (sS st) (nQ st) (aU st) .none kV doc pm an gG ct):=⟨⟨oc,od,kV,doc,pm,an,gG,ct,osl,rfl,l,c⟩,k⟩
end
section
variable {X:Cx}
theorem pv (i:Nat) {x:aZ}{pos:rD}(hN:X.N[i]?=some x:=by rfl) (hv:Vis X.env.scope x:=by first|exact Or.inl rfl|exact Or.inr (Or.inl rfl)|exact Or.inr (Or.inr rfl)) (hd:(x == ("__debug__":aZ))=false:=by decide)
  (hcd:(x == ("__classdict__":aZ))=false:=by decide):PE X (.Name x pos) (ao i):=Z5 hN hv hd hcd
end
theorem jf {A B:Prop}(h:B):if false=true then A else B:=by
 rw [if_neg bM]
 exact h
theorem mX {A B:Prop}(h:A):if true=true then A else B:=by
 rw [if_pos rfl]
 exact h
def cB (H H':Hp):Prop:=∀ b o,H b=some o->H' b=some o
theorem cB.refl (H:Hp):cB H H:=λ_ _ h=>h
theorem cB.trans {H H1 H2:Hp}(a:cB H H1) (b:cB H1 H2):cB H H2:=λc o h=>b c o (a c o h)
theorem cB.free {H H':Hp}(e:cB H H') {l:ag}(h:H' l=Option.none):H l=Option.none:=by
 cases q:H l with
 | none=>rfl
 | some o =>
  rw [e l o q] at h
  cases h
theorem cB.seq {K:aa}{H H':Hp}{a:ag}{xs:List V}(e:cB H H') (h:fg K H a xs):fg K H' a xs:=by
 rcases h with (h|⟨o,h⟩)|h
 ·exact .inl (.inl (e _ _ h))
 ·exact .inl (.inr ⟨o,e _ _ h⟩)
 ·exact .inr h
end L2
namespace L2
section
variable {X:Cx}
theorem Se:tL X (.builtin "len") (λxs H Q=>∃ a kvs,xs=[V.ref a]/\H a=some (.dK kvs)/\Q (.int kvs.length) H):=by
 intro pins s Z H xs us Q I r h
 obtain ⟨a,kvs,rfl,ha,q⟩:=h
 obtain ⟨u,rfl,ru⟩:=vals1 r
 cases ru
 exact ab7 I (.inl ha) λt s' I'=>⟨.int kvs.length,H,I',⟨t,rfl⟩,q⟩
end
section
variable {κ:Type} [DecidableEq κ]
theorem QW:∀ {l:List κ}{k:κ},l.Nodup->¬ k∈l->(l++[k]).Nodup
 | [],k,_,_=>by simp
 | a::r,k,h,hk=>by
  obtain ⟨h1,h2⟩:=bq.mp h
  show (a::(r++[k])).Nodup
  refine bq.mpr ⟨λm=>?_,QW h2 λm=>hk (ay.mpr (Or.inr m))⟩
  rcases a7.mp m with q|q
  ·exact h1 q
  ·exact hk (ay.mpr (Or.inl (aF.mp q).symm))
theorem Sg {p:κ×V}{r:List (κ×V)}{k:κ}(e:p.1=k):uh (p::r) k=uh r k:=by
 unfold uh
 rw [ZN,if_neg (by simp [e])]
theorem Jd {p:κ×V}{r:List (κ×V)}{k:κ}(e:¬ p.1=k):uh (p::r) k=p::uh r k:=by
 unfold uh
 rw [ZN,if_pos (by simp [e])]
theorem Mr:∀ {kvs:List (κ×V)}{k:κ},¬ k∈kvs.map (·.1)->uh kvs k=kvs
 | [],_,_=>rfl
 | p::r,k,h=>by
  have h':¬ k∈r.map (·.1):=λm=>by
   obtain ⟨q,hq,e⟩:=bX.mp m
   exact h (bX.mpr ⟨q,ay.mpr (Or.inr hq),e⟩)
  rw [Jd λe=>h (bX.mpr ⟨p,ay.mpr (Or.inl rfl),e⟩),Mr h']
end
end L2
namespace L2
def sM (cells:List (aZ×ag)):List (aZ×m8)->List (aZ×ag)->List (aZ×ag)
 | [],acc=>acc
 | (n,k)::r,acc=>sM cells r (if k == .free then (n,(cells.lookup n).getD 0)::acc else acc)
theorem yM {env:xr}:∀ (names:List (aZ×m8)) (acc:List (aZ×ag)),(∀ n,(n,bP)∈names->∃ c,env.cells.lookup n=some c) ->
  (forIn names acc λ(x:aZ×m8) (r:List (aZ×ag))=>(if x.2 == .free then (cellOf env x.1 >>= λc=>pure (oh ((x.1,c)::r))) else pure (oh r):LC (ForInStep (List (aZ×ag)))))=pure (sM env.cells names acc)
 | [],acc,_=>rfl
 | (n,k)::r,acc,h=>by
  rw [yh]
  have hr:∀ n,(n,bP)∈r->∃ c,env.cells.lookup n=some c:=λn hn=>h n (ah _ hn)
  cases hk:k == bP with
  | false =>
   simp only [hk,cC,if_false,pure_bind]
   rw [yM r acc hr]
   show _=pure (sM env.cells r (if k == bP then _ else acc))
   rw [hk];rfl
  | true =>
   have e:k=.free:=by simpa using hk
   subst e
   obtain ⟨c,hc⟩:=h n aw
   have e2:cellOf env n=pure c:=by unfold cellOf;rw [hc]
   simp only [hk,if_true,e2,pure_bind]
   rw [yM r _ hr]
   show _=pure (sM env.cells r (if bP == bP then (n,(env.cells.lookup n).getD 0)::acc else acc))
   rw [hc];rfl
theorem yN {scope:lA}{env:xr}(h:∀ n,(n,bP)∈scope.names->∃ c,env.cells.lookup n=some c):closureFor scope env=pure (sM env.cells scope.names []):=by
 have e:=yM (env:=env) scope.names [] h
 unfold closureFor
 rw [← bind_pure (pure (sM env.cells scope.names []):LC _),← e]
theorem ou {cells:List (aZ×ag)}{x:aZ}{c:ag}:∀ (names:List (aZ×m8)) (acc:List (aZ×ag)),(∀ n,(n,bP)∈names->∃ c,cells.lookup n=some c) ->
  (sM cells names acc).lookup x=some c->cells.lookup x=some c\/acc.lookup x=some c
 | [],acc,_,h=>.inr h
 | (n,k)::r,acc,hf,h=>by
  have hr:∀ n,(n,bP)∈r->∃ c,cells.lookup n=some c:=λn hn=>hf n (ah _ hn)
  unfold sM at h
  rcases ou r _ hr h with z|z
  ·exact .inl z
  ·cases hk:k == bP with
   | false=>rw [hk] at z;exact .inr z
   | true =>
    have e:k=.free:=by simpa using hk
    subst e
    obtain ⟨d,hd⟩:=hf n aw
    rw [hk,if_pos rfl,hd] at z
    by_cases hx:x=n
    ·subst hx
     rw [dm,beq_self_eq_true] at z
     exact .inl (by rw [hd];exact z)
    ·rw [dm,beq_false_of_ne hx] at z
     exact .inr z
theorem zL {cells:List (aZ×ag)}{x:aZ}:∀ (names:List (aZ×m8)) (acc:List (aZ×ag)),((x,bP)∈names\/∃ c,acc.lookup x=some c)->∃ c,(sM cells names acc).lookup x=some c
 | [],acc,h=>h.elim (λz=>nomatch z) λz=>z
 | (n,k)::r,acc,h=>by
  unfold sM
  refine zL r _ ?_
  rcases h with z|⟨c,z⟩
  ·rcases ay.mp z with e|z
   ·have e1:n=x:=(dz e).1.symm
    have e2:k=.free:=(dz e).2.symm
    subst e1 e2
    exact .inr ⟨_,by rw [if_pos (by rfl),dm,beq_self_eq_true]⟩
   ·exact .inl z
  ·refine .inr ?_
   split
   ·rw [dm]
    cases x == n
    ·exact ⟨c,z⟩
    ·exact ⟨_,rfl⟩
   ·exact ⟨c,z⟩
theorem zM {env:xr}{x:aZ}{k:m8}:∀ {names:List (aZ×m8)},
  (names.map λ(n,k)=>if (k == bP && env.scope.kind == .function && env.kindOf n == some .cell) then (n,i5) else (n,k)).lookup x=some k ->
   ∃ k0,names.lookup x=some k0/\(k=k0\/(k0=.free/\k=.cell))
 | [],h=>by simp at h
 | (n,k1)::r,h=>by
  have ih:=@zM env x k r
  have h:dS x ((if (k1 == bP && env.scope.kind == .function && env.kindOf n == some .cell)=true then (n,i5) else (n,k1))::r.map λ(n,k)=>if (k == bP && env.scope.kind == .function && env.kindOf n == some .cell) then (n,i5) else (n,k))=some k:=h
  by_cases hc:(k1 == bP && env.scope.kind == .function && env.kindOf n == some .cell)=true
  ·rw [if_pos hc,dm] at h
   rw [dm]
   have e:k1=.free:=by
    rw [dP,dP] at hc
    simpa using hc.1.1
   cases hx:x == n with
   | true=>rw [hx] at h;exact ⟨k1,rfl,.inr ⟨e,(aX h).symm⟩⟩
   | false=>rw [hx] at h;exact ih h
  ·rw [if_neg hc,dm] at h
   rw [dm]
   cases hx:x == n with
   | true=>rw [hx] at h;exact ⟨k1,rfl,.inl (aX h).symm⟩
   | false=>rw [hx] at h;exact ih h
theorem CB {env:xr}{x:aZ}:∀ {names:List (aZ×m8)},names.lookup x=some .free ->
  (names.map λ(n,k)=>if (k == bP && env.scope.kind == .function && env.kindOf n == some .cell) then (n,i5) else (n,k)).lookup x=some .free \/
  (names.map λ(n,k)=>if (k == bP && env.scope.kind == .function && env.kindOf n == some .cell) then (n,i5) else (n,k)).lookup x=some .cell
 | [],h=>by simp at h
 | (n,k1)::r,h=>by
  have ih:=@CB env x r
  show dS x ((if (k1 == bP && env.scope.kind == .function && env.kindOf n == some .cell)=true then (n,i5) else (n,k1))::r.map λ(n,k)=>if (k == bP && env.scope.kind == .function && env.kindOf n == some .cell) then (n,i5) else (n,k))=some .free \/
   dS x ((if (k1 == bP && env.scope.kind == .function && env.kindOf n == some .cell)=true then (n,i5) else (n,k1))::r.map λ(n,k)=>if (k == bP && env.scope.kind == .function && env.kindOf n == some .cell) then (n,i5) else (n,k))=some .cell
  rw [dm] at h
  by_cases hc:(k1 == bP && env.scope.kind == .function && env.kindOf n == some .cell)=true
  ·rw [if_pos hc,dm]
   cases hx:x == n with
   | true=>exact .inr rfl
   | false=>rw [hx] at h;exact ih h
  ·rw [if_neg hc,dm]
   cases hx:x == n with
   | true=>rw [hx] at h;exact .inl h
   | false=>rw [hx] at h;exact ih h
theorem mem_of_lookup {x:aZ}{k:m8}:∀ {names:List (aZ×m8)},names.lookup x=some k->(x,k)∈names
 | [],h=>by simp at h
 | (n,k1)::r,h=>by
  rw [dm] at h
  cases hx:x == n with
  | true =>
   rw [hx] at h
   have e:x=n:=by simpa using hx
   rw [e,aX h];exact aw
  | false=>rw [hx] at h;exact ah _ (mem_of_lookup h)
def JQ (X:Cx) (N:List aZ) (scope:lA) (s:aq) (H:Hp) (fp:List ag):Cx where
 prog:=X.prog
 w:=X.w
 K:=X.K
 mg:=X.mg
 base:=X.base
 A:=X.A
 N:=N
 s₀:=s
 H₀:=H
 env:=compEnvC scope (sM X.env.cells scope.names []) s.heap.objs.size X.env
 outer:=X.stack
 stack:=X.stack
 ex:=fp
 fn:=λ_=>false
 calm:=X.calm
 pn:=[]
 xe:=λ_ _=>False
def GL (X:Cx) (scope:lA):List Nat->List aZ->Prop
 | [],[]=>True
 | j::js,y::ys=>X.N[j]?=some y/\(X.env.kindOf y=some .cell\/X.env.kindOf y=some .free)/\scope.names.lookup y=some .free/\GL X scope js ys
 | _,_=>False
def Ms (Z:St) (js:List Nat):St:=js.map λj=>(Z[j]?).join
theorem GL.len {X:Cx}{scope:lA}:∀ {js:List Nat}{ys:List aZ},GL X scope js ys->js.length=ys.length
 | [],[],_=>rfl
 | _::_,_::_,h=>by rw [cG,cG,GL.len h.2.2.2]
 | [],_::_,h=>h.elim
 | _::_,[],h=>h.elim
theorem GL.get {X:Cx}{scope:lA}{Z:St}{y:aZ}{v:V}:∀ {js:List Nat}{ys:List aZ}{i:Nat},GL X scope js ys->ys[i]?=some y->(Ms Z js)[i]?=some (some v) ->
  ∃ j:Nat,X.N[j]?=some y/\Z[j]?=some (some v)/\(X.env.kindOf y=some .cell\/X.env.kindOf y=some .free)/\scope.names.lookup y=some .free
 | [],[],i,_,e,_=>by simp at e
 | j::js,z::ys,0,h,e,q=>by
  simp only [pS,iF] at e
  subst e
  refine ⟨j,h.1,?_,h.2.1,h.2.2.1⟩
  have q':(Z[j]?).join=some v:=by simpa [Ms] using q
  cases hj:Z[j]? with
  | none=>rw [hj] at q';simp at q'
  | some o=>rw [hj] at q';rw [← q'];rfl
 | j::js,z::ys,i+1,h,e,q=>GL.get (i:=i) h.2.2.2 (by simpa using e) (by simpa [Ms] using q)
 | [],_::_,_,h,_,_=>h.elim
 | _::_,[],_,h,_,_=>h.elim
section
variable {X:Cx}{pins:List (ag×gC)}{Z:St}{H:Hp}{s s':aq}{scope:lA}{fp:List ag}
theorem OL {N:List aZ}(I:Inv X pins Z H s) (hf:∀ b∈fp,Bg X pins H b) (hlt:∀ b∈fp,b<s.heap.objs.size) (hkind:scope.kind=.function) (hcell:∀ y∈scope.names,y.2≠.cell)
  (hfr:∀ n,(n,bP)∈scope.names->∃ c,X.env.cells.lookup n=some c):(JQ X N scope s H fp).Ok where
 mod:=I.mod
 kind:=hkind
 glob:=I.ok.glob
 blt:=I.ok.blt
 above:=ax _
 inj:=λx y c h1 h2=>I.ok.inj x y c ((ou _ _ hfr h1).resolve_right (by simp)) ((ou _ _ hfr h2).resolve_right (by simp))
 has:=λx hx=>by
  refine zL _ _ (.inl ?_)
  have key:∀ k,(k=i5\/k=bP)->(relabel scope X.env).names.lookup x=some k->(x,bP)∈scope.names:=λk hk e=>by
   obtain ⟨k0,e0,z⟩:=zM e
   rcases z with z|⟨z,_⟩
   ·subst z
    rcases hk with hk|hk
    ·subst hk;exact absurd rfl (hcell _ (mem_of_lookup e0))
    ·subst hk;exact mem_of_lookup e0
   ·subst z;exact mem_of_lookup e0
  rcases hx with hx|hx
  ·exact key _ (.inl rfl) hx
  ·exact key _ (.inr rfl) hx
 ZE:=λx c h=>by cases h
 hd:=I.ok.hd
 frames:=I.ok.frames
 stk:=.inl rfl
 exf:=λb hb=>⟨aS (hlt b hb),λx c e=>(hf b hb).2.2.2.2.1 x c ((ou _ _ hfr e).resolve_right (by simp))⟩
 bs:=I.bs
 RI:=bE I.ok.RI I.sz
 NY:=λb o e hb=>by
  rcases (hf b hb).2.2.2.1 with z|z
  ·exact I.ok.NY b o e z
  ·exact absurd (bc (aI e) (bE I.ok.RI z)) (gE _)
 NT:=λb hb hs=>by
  rcases ay.mp (I.QC b hs) with z|z
  ·exact (hf b hb).2.1 z
  ·exact (hf b hb).2.2.1 z
 xh:=I.stack
 Uj:=I.Ea
theorem X0 {own ys:List aZ}{js:List Nat}{h1:cg}{tk:Nat}{m:aZ->Option ai}(I:Inv X pins Z H s) (hf:∀ b∈fp,Bg X pins H b) (hlt:∀ b∈fp,b<s.heap.objs.size) (hkind:scope.kind=.function)
  (hcell:∀ y∈scope.names,y.2≠.cell) (hfr:∀ n,(n,bP)∈scope.names->∃ c,X.env.cells.lookup n=some c) (hc:GL X scope js ys)
  (hn:h1.Ns s.heap.objs.size m) (hk:∀ b o,s.heap.get? b=some o->h1.get? b=some o) :
  Inv (JQ X (own++ys) scope s H fp) [] (qI own.length none++Ms Z js) H { s with heap:=h1,toks:=tk }:=by
 have hcl:∀ x c,(sM X.env.cells scope.names []).lookup x=some c->X.env.cells.lookup x=some c:=λx c e=>(ou _ _ hfr e).resolve_right (by simp)
 refine ⟨OL I hf hlt hkind hcell hfr,rfl,I.bare,Un.kept hk,⟨m,hn,λi x v e1 e2 e3=>?_⟩,λx c e=>?_,I.fresh,λx c e=>I.rC x c (hcl x c e),(λp hp=>nomatch hp),I.fX.kept hk,?_⟩
 ·have e1':(own++ys)[i]?=some x:=e1
  by_cases hi:i<own.length
  ·rw [ij (by simpa using hi)] at e2
   rw [QH] at e2
   split at e2
   ·cases aX e2
   ·cases e2
  ·have hi':own.length<=i:=rX hi
   rw [fO hi'] at e1'
   rw [fO (by simpa using hi'),yG] at e2
   obtain ⟨j,q1,q2,q3,q4⟩:=hc.get e1' e2
   obtain ⟨m0,_,hl⟩:=I.loc
   obtain ⟨u,r,l⟩:=hl j x v q1 q2 (by
    rcases q3 with q3|q3
    ·exact .inr (.inl q3)
    ·exact .inr (.inr q3))
   refine ⟨u,r,.inr ⟨?_,?_⟩⟩
   ·rcases CB (env:=X.env) q4 with z|z
    ·exact .inr z
    ·exact .inl z
   ·rcases l with ⟨k,_⟩|⟨_,c,hc1,hc2⟩
    ·rcases q3 with q3|q3<;>rw [k] at q3<;>cases aX q3
    ·obtain ⟨d,hd⟩:=zL (cells:=X.env.cells) (x:=x) scope.names [] (.inl (mem_of_lookup q4))
     have hd':=hcl x d hd
     rw [hc1] at hd'
     cases aX hd'
     obtain ⟨o,ho,hod⟩:=hc2
     exact ⟨c,hd,o,hk c o ho,hod⟩
 ·obtain ⟨v,o,ho,hod⟩:=I.cell x c (hcl x c e)
  exact ⟨v,o,hk c o ho,hod⟩
 ·show (qI own.length none++Ms Z js).length=(own++ys).length
  rw [bN,bN,yG,Ms,aj,hc.len]
theorem US {N:List aZ}{σ':St}{H':Hp}(I:Inv X pins Z H s) (hf:∀ b∈fp,Bg X pins H b) (J:Inv (JQ X N scope s H fp) [] σ' H' s'):Inv X pins Z H' s' :=
 I.NU (ch:=fp) J.os J.base J.fX J.bare λb hb=>⟨(hf b hb).2.2.2.1,(hf b hb).2.1,(hf b hb).2.2.2.2.1,(hf b hb).2.2.2.2.2⟩
end
section
variable {prog:a8}{w:bT}{A:bZ}{R:Oa->aq->Prop}{s:aq}
theorem JR {elt target iter:Expr}{ifs:List Expr}{scope:lA}{pos:rD}{it acc:ai}{env:xr}(I:Nat->aq->Prop)
  (turn:∀ n s,I n s->aK (aY prog w) A (la it) (λr s₁=>match r with
   | none=>R (.ok .next) s₁
   | some v=>aK (aY prog w) A (A9 target it v) (λ_ s₁'=>aK (aY prog w) A (N8 target env v) (λ_ s₂ =>
     aK (aY prog w) A (forIn ifs true λc r=>if r=true then do let ok ← isTrue c env (gp c env);pure (oh ok) else pure (oh r)) (λok s₃ =>
      if ok=true then aK (aY prog w) A (gp elt env) (λx s₄ =>
       aK (aY prog w) A (call (.builtin "list.append") [acc,x]) (λ_ s₅=>∃ m,m<n/\I m s₅) (λ_ _=>False) s₄) (λ_ _=>False) s₃
      else ∃ m,m<n/\I m s₃) (λ_ _=>False) s₂) (λ_ _=>False) s₁') (λ_ _=>False) s₁) (λ_ _=>False) s)
  (n:Nat) (h:I n s) :
  mQ (aY prog w) A (.compLoop (.ListComp elt [⟨target,iter,ifs,0⟩] scope pos) 0 it acc env) R s:=by
 refine codeAny_loop rfl I (λn s hI=>?_) n h
 show aK _ A ((compTurn (.ListComp elt [⟨target,iter,ifs,0⟩] scope pos) 0 it acc env).onRaise (λx=>do noteFrame x env;theTreesLotGoes x)) _ _ s
 refine wpAny_noted ?_
 rw [compTurn_list]
 refine ae (GX (ae (fj (turn n s hI) (λr s₁ h₁=>?_) λ_ _ h'=>h'.elim)))
 cases r with
 | none=>exact av h₁
 | some v =>
  refine ae (fj h₁ (λ_ s₁' h₁'=>?_) λ_ _ h'=>h'.elim)
  refine ae (fj h₁' (λ_ s₂ h₂=>ae (fj h₂ (λok s₃ h₃=>?_) λ_ _ h'=>h'.elim)) λ_ _ h'=>h'.elim)
  cases ok with
  | false=>exact av ⟨rfl,h₃⟩
  | true =>
   exact ae (ae (fj h₃ (λx s₄ h₄=>ae (fj h₄ (λ_ s₅ h₅=>av (av ⟨rfl,h₅⟩)) λ_ _ h'=>h'.elim)) λ_ _ h'=>h'.elim))
end
def UT (X:Cx) (ifs:List Expr) (t:TT):Prop :=
 ∀ (pins:List (ag×gC)) (s:aq) (Z:St) (H:Hp) (Q:Bool->Hp->Prop),Inv X pins Z H s->t Z H Q ->
  aK (aY X.prog X.w) X.A (forIn ifs true λc r=>if r=true then do let ok ← isTrue c X.env (gp c X.env);pure (oh ok) else pure (oh r)) (TP X pins Z Q) X.xe s
def Bk:TT:=λ_ H Q=>Q true H
theorem qO {X:Cx}:UT X [] Bk:=λ_ _ _ H _ I h=>wpAny_tests_nil ⟨H,I,h⟩
theorem qP {X:Cx}{c:Expr}{t:TT}(h:PT X c t):UT X [c] t:=λpins s Z H Q I q=>wpAny_tests_one (h pins s Z H Q I q)
def ow (own:Nat) (js:List Nat) (wi:TI) (g:TG) (tt:TT) (te:TE):TE:=λZ H Q=>wi Z H λJ H1=>∀ acc,H1 acc=none ->
 ∃ W:Nat->Nat->List V->St->Hp->Prop,(∃ m,W 0 m [] (qI own none++Ms Z js) (upd H1 acc (.lst [])))/\∀ i m ys σ' H',W i m ys σ' H'->H' acc=some (.lst ys) /\
  ((J.stop i H'/\Q (.ref acc) H')\/(J.go i H'/\∀ x H2,J.QE i H' x H2->g x σ' H2 λσ2 H3=>tt σ2 H3 λb H4 =>
   if b=true then te σ2 H4 λy H5=>H5 acc=some (.lst ys)/\ys.length<bf/\∃ m',m'<m/\W (i+1) m' (ys++[y]) σ2 (upd H5 acc (.lst (ys++[y]))) else ∃ m',m'<m/\W (i+1) m' ys σ2 H4))
section
variable {X:Cx}
theorem Mt {elt tg iter:Expr}{ifs:List Expr}{scope:lA}{pos:rD}{own ys:List aZ}{js:List Nat}{wi:TI}{g:TG}{tt:TT}{te:TE}{pins:List (ag×gC)}{s:aq}{Z:St}{H:Hp}{Q:VK}
  {use:Option (ai->LC Unit)}{Q':ai->aq->Prop}{p:rD}(hcalm:X.calm=true)
  (hi:PI X tg iter wi) (hkind:scope.kind=.function) (hcell:∀ y∈scope.names,y.2≠.cell) (hnames:∀ y∈scope.names,y.2=.local->scope.names.lookup y.1=some .local)
  (hfr:∀ n,(n,bP)∈scope.names->∃ c,X.env.cells.lookup n=some c) (hc:GL X scope js ys)
  (hg:∀ s0 H0 fp,PG (JQ X (own++ys) scope s0 H0 fp) tg g) (ht:∀ s0 H0 fp,UT (JQ X (own++ys) scope s0 H0 fp) ifs tt) (he:∀ s0 H0 fp,PE (JQ X (own++ys) scope s0 H0 fp) elt te)
  (I:Inv X pins Z H s) (h:ow own.length js wi g tt te Z H Q)
  (hu:∀ (D C:ag) (H':Hp) (s':aq),Inv X pins Z H' s'->Q (.ref D) H'->Bg X pins H' C->(∃ m,s'.heap.Ns C m)->compPost (aY X.prog X.w) X.A X.xe use Q' (.ref D) C (.ok .next) s')
  (hs:∀ x,xN iter X.env x=pure x) :
  aK (aY X.prog X.w) X.A (comprehension (.ListComp elt [⟨tg,iter,ifs,0⟩] scope pos) scope X.env p (newList []) false (gp iter X.env) use) Q' X.xe s:=by
 refine wpAny_comprehension_free (g:=⟨tg,iter,ifs,0⟩) (gs:=[]) rfl hs (yN hfr) hkind hnames (iO (hi pins s Z H _ I h) λv s1 h1=>iO h1 λitv s2 h2=>?_)
 obtain ⟨it,fp,tn,J,H2,e,I2,T,st2,f2,q⟩:=h2
 subst e
 refine fI (wpAny_newFunctionEnv hcell (by intro y hy;simp at hy) (λh₁ hns₁ hsb₁=>?_) hkind)
 dsimp only at hns₁ hsb₁ ⊢
 have nD:H2 s2.heap.objs.size=none:=I2.fresh
 have I3:Inv X pins Z (upd H2 s2.heap.objs.size (.lst [])) { s2 with heap:=s2.heap.push { cls:=.type "list",data:=.seq ([]:List ai).toArray },toks:=s2.toks }:=I2.lnew (its:=[]) .nil (bG _)
 have hlt2:∀ b∈fp,b<s2.heap.objs.size:=λb hb=>let ⟨o,e,_⟩:=T.obj _ _ st2 b hb;aI e
 obtain ⟨W,⟨m0,w0⟩,turn⟩:=q _ nD
 generalize hs3:({ s2 with heap:=s2.heap.push { cls:=.type "list",data:=.seq ([]:List ai).toArray },toks:=s2.toks }:aq)=s3 at I3
 have hh3:s2.heap.push { cls:=.type "list",dict:=none,data:=.seq ([]:List ai).toArray }=s3.heap:=by rw [← hs3]
 have hsz3:s3.heap.objs.size=s2.heap.objs.size+1:=by rw [← hh3,iM]
 have hlt3:∀ b∈fp,b<s3.heap.objs.size:=λb hb=>by rw [hsz3];exact qZ (hlt2 b hb)
 have f3:∀ b∈fp,Bg X pins (upd H2 s2.heap.objs.size (.lst [])) b:=λb hb=>⟨by rw [aJ (aS (hlt2 b hb))];exact (f2 b hb).1,(f2 b hb).2⟩
 have fC:Bg X pins (upd H2 s2.heap.objs.size (.lst [])) s3.heap.objs.size:=I3.NZ (ax _) I3.fresh
 rw [hh3] at hns₁ hsb₁ ⊢
 have hk3:∀ b o,s3.heap.get? b=some o->h₁.get? b=some o:=λb o e=>hsb₁.extBut b o (aS (aI e)) (au _ e)
 have es4:({ s2 with heap:=h₁,toks:=s2.toks+([]:List (aZ×ai)).length }:aq)={ s3 with heap:=h₁,toks:=s2.toks+([]:List (aZ×ai)).length }:=by rw [← hs3]
 have I4:=X0 (own:=own) (h1:=h₁) (tk:=s2.toks+([]:List (aZ×ai)).length) I3 f3 hlt3 hkind hcell hfr hc hns₁ hk3
 have st4:tn 0 h₁:=T.keep _ _ _ st2 λb hb o e=>hk3 b o (by rw [← hh3];exact au _ e)
 have stat:∀ {H':Hp},(∀ b∈fp,H' b=none)->∀ b∈fp,Bg (JQ X (own++ys) scope s3 (upd H2 s2.heap.objs.size (.lst [])) fp) [] H' b:=λhn b hb =>
  ⟨hn b hb,aS (hlt3 b hb),(OL (N:=own++ys) I3 f3 hlt3 hkind hcell hfr).NT b hb,.inl hb,λx c e=>((OL (N:=own++ys) I3 f3 hlt3 hkind hcell hfr).exf b hb).2 x c e,λp hp=>nomatch hp⟩
 have UC:∀ s4:aq,s4={ s3 with heap:=h₁,toks:=s2.toks+([]:List (aZ×ai)).length } ->
   mQ (aY X.prog X.w) X.A (.compLoop (.ListComp elt [⟨tg,iter,ifs,0⟩] scope pos) 0 (.ref it) (.ref s2.heap.objs.size) (compEnvC scope (sM X.env.cells scope.names []) s3.heap.objs.size X.env))
    (compPost (aY X.prog X.w) X.A X.xe use Q' (.ref s2.heap.objs.size) s3.heap.objs.size) s4:=by
  rintro s4 rfl
  refine JR (λn s'=>∃ i ys' σ' H',Inv (JQ X (own++ys) scope s3 (upd H2 s2.heap.objs.size (.lst [])) fp) [] σ' H' s'/\tn i s'.heap/\(∀ b∈fp,H' b=none)/\W i n ys' σ' H') ?_ m0
   ⟨0,[],_,_,I4,st4,λb hb=>(f3 b hb).1,w0⟩
  rintro n s5 ⟨i,ys',σ5,H5,I5,st5,fr5,w5⟩
  obtain ⟨hacc,rest⟩:=turn i n ys' σ5 H5 w5
  rcases rest with ⟨stop,qn⟩|⟨go,step⟩
  ·refine iO (T.done (JQ X (own++ys) scope s3 (upd H2 s2.heap.objs.size (.lst [])) fp) rfl rfl rfl hcalm i [] s5 σ5 H5 _ I5 (stat fr5) st5 stop) λr s6 ⟨hr,I6⟩=>?_
   subst hr
   exact hu _ _ H5 s6 (US I3 f3 I6) qn ⟨I6.free,fC.2⟩ (let ⟨m,hn,_⟩:=I6.loc;⟨m,hn⟩)
  ·refine iO (T.item (JQ X (own++ys) scope s3 (upd H2 s2.heap.objs.size (.lst [])) fp) rfl rfl rfl hcalm i [] s5 σ5 H5 _ I5 (stat fr5) st5 go) λr s6 ⟨u,hr,h6⟩=>?_
   subst hr
   refine iO h6 λ_ s7 ⟨x,H7,I7,r7,y7,st7,fr7⟩=>?_
   have I7':=I7.pinned (stat fr7) (T.obj _ _ st7)
   refine iO (hg _ _ _ _ s7 σ5 H7 x u _ I7' r7 (step x H7 y7)) λ_ s8 ⟨σ8,H8,I8,q8⟩=>?_
   refine iO (ht _ _ _ _ s8 σ8 H8 _ I8 q8) λok s9 ⟨H9,I9,q9⟩=>?_
   have kept:∀ {s10:aq}{σ10:St}{H10:Hp},Inv (JQ X (own++ys) scope s3 (upd H2 s2.heap.objs.size (.lst [])) fp) ([]++Er fp s7.heap) σ10 H10 s10 ->
     Inv (JQ X (own++ys) scope s3 (upd H2 s2.heap.objs.size (.lst [])) fp) [] σ10 H10 s10/\tn (i+1) s10.heap/\∀ b∈fp,H10 b=none:=λ{s10 σ10 H10} I10=>by
    refine ⟨I10.AV,T.keep _ _ _ st7 λb hb o e=>(I10.pin (b,o) (bp _ (bp _ (uM hb e)))).1,λb hb=>?_⟩
    obtain ⟨o,e,d⟩:=T.obj _ _ st7 b hb
    exact (I10.pin (b,o) (bp _ (bp _ (uM hb e)))).2.1
   cases ok with
   | false =>
    simp only [cC,if_false] at q9 ⊢
    obtain ⟨m',hm,w9⟩:=q9
    obtain ⟨k1,k2,k3⟩:=kept I9
    exact ⟨m',hm,i+1,ys',σ8,H9,k1,k2,k3,w9⟩
   | true =>
    simp only [if_true] at q9 ⊢
    refine iO (he _ _ _ _ s9 σ8 H9 _ I9 q9) λyv s10 ⟨y,H10,I10,r10,a10,l10,m',hm,w10⟩=>?_
    refine iO (lj (X:=JQ X (own++ys) scope s3 (upd H2 s2.heap.objs.size (.lst [])) fp) _ s10 σ8 H10 (.ref s2.heap.objs.size) [y] (.ref s2.heap.objs.size) [yv] (λv H'=>v=.non/\H'=upd H10 s2.heap.objs.size (.lst (ys'++[y]))) I10 rfl (.cons r10 .nil) ⟨_,_,_,rfl,rfl,a10,l10,rfl,rfl⟩) λ_ s11 ⟨_,H11,I11,_,_,e11⟩=>?_
    subst e11
    obtain ⟨k1,k2,k3⟩:=kept I11
    exact ⟨m',hm,i+1,_,σ8,_,k1,k2,k3,w10⟩
 have fin:=codeAny_compStart_list (R:=compPost (aY X.prog X.w) X.A X.xe use Q' (.ref s2.heap.objs.size) s3.heap.objs.size) (UC _ rfl) (T.self X.A 0 { s3 with heap:=h₁,toks:=s2.toks+([]:List (aZ×ai)).length } _ _ st4 (UC _ rfl))
 rw [← hs3] at fin ⊢
 exact fin
theorem zN {pins:List (ag×gC)}{Z:St}{H:Hp}{s:aq}{scope:lA}(I:Inv X pins Z H s) (h:(scope.names.all λy=>y.2 != .free || X.env.kindOf y.1 == some .cell || X.env.kindOf y.1 == some .free)=true) :
  ∀ n,(n,bP)∈scope.names->∃ c,X.env.cells.lookup n=some c:=λn hn=>by
 have q:=ZO.mp h _ hn
 simp only [bne_self_eq_false,Bool.false_or,Bool.or_eq_true,beq_iff_eq] at q
 exact I.ok.has n q
theorem nR {elt tg iter:Expr}{ifs:List Expr}{scope:lA}{pos:rD}(own:List aZ) {ys:List aZ}(js:List Nat) {wi:TI}{g:TG}{tt:TT}{te:TE}(hcalm:X.calm=true)
  (hi:PI X tg iter wi) (hc:GL X scope js ys)
  (hg:∀ s0 H0 fp,PG (JQ X (own++ys) scope s0 H0 fp) tg g) (ht:∀ s0 H0 fp,UT (JQ X (own++ys) scope s0 H0 fp) ifs tt) (he:∀ s0 H0 fp,PE (JQ X (own++ys) scope s0 H0 fp) elt te)
  (hfr:(scope.names.all λy=>y.2 != .free || X.env.kindOf y.1 == some .cell || X.env.kindOf y.1 == some .free)=true:=by rfl)
  (hkind:scope.kind=.function:=by rfl) (hcell:∀ y∈scope.names,y.2≠.cell:=by decide +kernel) (hnames:∀ y∈scope.names,y.2=.local->scope.names.lookup y.1=some .local:=by decide +kernel)
  (hs:∀ x,xN iter X.env x=pure x:=by intro _;rfl):PE X (.ListComp elt [⟨tg,iter,ifs,0⟩] scope pos) (ow own.length js wi g tt te):=by
 intro pins s Z H Q I h
 rw [eval_ListComp]
 refine Mt (use:=none) hcalm hi hkind hcell hnames (zN I hfr) hc hg ht he I h (λD C H' s' I' q fC ⟨m,hn⟩=>⟨m,hn,λh' hs'=>⟨.ref D,H',?_,rfl,q⟩⟩) hs
 exact I'.turned (t':=s'.toks) (λb o hb e=>(hs'.2 b hb).trans e) fC.1 fC.2.1 fC.2.2.2.1 fC.2.2.2.2.1 fC.2.2.2.2.2
theorem D6 {elt tg iter:Expr}{ifs:List Expr}{scope:lA}{pos spos py:rD}{i:Nat}{y:aZ}(own:List aZ) {ys:List aZ}(js:List Nat) {wi:TI}{g:TG}{tt:TT}{te:TE}(hcalm:X.calm=true)
  (hN:X.N.Nodup) (hy:X.N[i]?=some y) (hl:X.env.scope.names.lookup y=some .local)
  (hi:PI X tg iter wi) (hc:GL X scope js ys)
  (hg:∀ s0 H0 fp,PG (JQ X (own++ys) scope s0 H0 fp) tg g) (ht:∀ s0 H0 fp,UT (JQ X (own++ys) scope s0 H0 fp) ifs tt) (he:∀ s0 H0 fp,PE (JQ X (own++ys) scope s0 H0 fp) elt te)
  (hfr:(scope.names.all λy=>y.2 != .free || X.env.kindOf y.1 == some .cell || X.env.kindOf y.1 == some .free)=true:=by rfl)
  (hsw:Eb (.ListComp elt [⟨tg,iter,ifs,0⟩] scope pos) (some (.Name y py)) spos.line X.env=pure true:=by rfl)
  (hkind:scope.kind=.function:=by rfl) (hcell:∀ y∈scope.names,y.2≠.cell:=by decide +kernel) (hnames:∀ y∈scope.names,y.2=.local->scope.names.lookup y.1=some .local:=by decide +kernel)
  (hs:∀ x,xN iter X.env x=pure x:=by intro _;rfl) :
  PS X (.Assign [.Name y py] (.ListComp elt [⟨tg,iter,ifs,0⟩] scope pos) spos) (gY (ow own.length js wi g tt te) (b9 i)):=by
 intro pins s Z H D I h
 rw [exec_Assign_Name_used _ _ _ _ hsw]
 refine ae (GX (ae ?_))
 show aK _ X.A (do let _ ← comprehension (.ListComp elt [⟨tg,iter,ifs,0⟩] scope pos) scope X.env _ (newList []) false (gp iter X.env) (some (N8 (.Name y py) X.env))) _ _ s
 refine ae (fj (Mt (Q:=λx H1=>b9 i x Z H1 D.nx) (Q':=λ_ s'=>SP X pins D .next s') (use:=some (N8 (.Name y py) X.env)) hcalm hi hkind hcell hnames (zN I hfr) hc hg ht he I h (λDd C H' s' I' q fC ⟨m,hn⟩=>?_) hs) (λ_ s' hq=>av (av hq)) λ_ _ e=>e)
 show aK _ X.A (N8 (.Name y py) X.env (.ref Dd)) _ _ _
 refine wpAny_assign_Name (IP (v:=.ref Dd) I' hN hy (.inl hl) rfl (λs'' I'' ⟨a,sb,ha⟩=>?_) (.inr hl))
 have hCa:C≠a:=by
  rcases ha with z|z
  ·rw [z];exact fC.2.1
  ·exact Ne.symm (fC.2.2.2.2.1 _ _ z)
 refine ⟨m,hn.sameBut sb hCa,λh' hs'=>?_⟩
 exact ⟨_,H',I''.turned (t':=s''.toks) (λb o hb e=>(hs'.2 b hb).trans e) fC.1 fC.2.1 fC.2.2.2.1 fC.2.2.2.2.1 fC.2.2.2.2.2,q⟩
end
end L2
namespace L2
mutual
def Rep (K:aa) (H:Hp):PyData->V->Prop
 | .none,v=>v=.non
 | .bool b,v=>v=.bl b
 | .int i,v=>v=.int i
 | .str x,v=>v=.str x
 | .list ds,v=>∃ a xs,v=.ref a/\fg K H a xs/\gn K H ds xs
 | .tuple ds,v=>∃ a xs,v=.ref a/\sG K H a xs/\gn K H ds xs
 | .dict _,_=>False
def gn (K:aa) (H:Hp):List PyData->List V->Prop
 | [],vs=>vs=[]
 | d::ds,vs=>∃ v r,vs=v::r/\Rep K H d v/\gn K H ds r
end
section
variable {X:Cx}{pins:List (ag×gC)}{Z:St}{H:Hp}{s:aq}
mutual
theorem Rep.reads (I:Inv X pins Z H s):∀ (d:PyData) (v:V) (u:ai),Rep X.K H d v->RelV v u->∃ as,Reads s.heap u d as
 | .none,v,u,h,r=>by
  cases (show v=.non by simpa only [Rep] using h)
  cases (show u=cI from r);exact ⟨_,.none⟩
 | .bool b,v,u,h,r=>by
  cases (show v=.bl b by simpa only [Rep] using h)
  cases (show u=xq b from r);exact ⟨_,.bool b⟩
 | .int i,v,u,h,r=>by
  cases (show v=.int i by simpa only [Rep] using h)
  obtain ⟨t,rfl⟩:=(show ∃ t,u=iR i t from r);exact ⟨_,.int i t⟩
 | .str x,v,u,h,r=>by
  cases (show v=.str x by simpa only [Rep] using h)
  obtain ⟨t,rfl⟩:=(show ∃ t,u=tN x t from r);exact ⟨_,.str x t⟩
 | .list ds,v,u,h,r=>by
  obtain ⟨a,xs,rfl,hq,ha⟩:=(show ∃ a xs,v=.ref a/\fg X.K H a xs/\gn X.K H ds xs by simpa only [Rep] using h)
  cases (show u=aE a from r)
  obtain ⟨its,rv,⟨o,n,e1,e2,_,e3⟩,_⟩:=I.list hq
  obtain ⟨as,ra⟩:=gn.reads I ds xs its ha rv
  exact ⟨_,.list e1 e2 e3 (by simpa using ra)⟩
 | .tuple ds,v,u,h,r=>by
  obtain ⟨a,xs,rfl,hq,ha⟩:=(show ∃ a xs,v=.ref a/\sG X.K H a xs/\gn X.K H ds xs by simpa only [Rep] using h)
  cases (show u=aE a from r)
  obtain ⟨its,rv,⟨o,e1,e2,n,e3⟩,_⟩:=I.tuple hq
  obtain ⟨as,ra⟩:=gn.reads I ds xs its ha rv
  exact ⟨_,.tuple e1 e2 e3 (by simpa using ra)⟩
 | .dict _,v,u,h,r=>absurd h (by simp only [Rep];exact λz=>z)
theorem gn.reads (I:Inv X pins Z H s):∀ (ds:List PyData) (vs:List V) (us:List ai),gn X.K H ds vs->Vals vs us->∃ as,ReadsAll s.heap us ds as
 | [],vs,us,h,r=>by
  cases (show vs=[] by simpa only [gn] using h)
  cases r;exact ⟨_,.nil⟩
 | d::ds,vs,us,h,r=>by
  obtain ⟨v,rr,rfl,h1,h2⟩:=(show ∃ v r,vs=v::r/\Rep X.K H d v/\gn X.K H ds r by simpa only [gn] using h)
  cases r with
  | cons ru rs =>
   obtain ⟨as,r1⟩:=Rep.reads I d v _ h1 ru
   obtain ⟨bs,r2⟩:=gn.reads I ds rr _ h2 rs
   exact ⟨_,.cons r1 r2⟩
end
end
theorem cB.aba {K:aa}{H H':Hp}{a:ag}{xs:List V}(e:cB H H') (h:sG K H a xs):sG K H' a xs:=by
 rcases h with (h|⟨o,h⟩)|h
 ·exact .inl (.inl (e _ _ h))
 ·exact .inl (.inr ⟨o,e _ _ h⟩)
 ·exact .inr h
theorem gn.cons {K:aa}{H:Hp}{d:PyData}{v:V}{ds:List PyData}{vs:List V}(h1:Rep K H d v) (h2:gn K H ds vs):gn K H (d::ds) (v::vs):=by
 simp only [gn];exact ⟨v,vs,rfl,h1,h2⟩
theorem gn.nil {K:aa}{H:Hp}:gn K H [] []:=by simp only [gn]
theorem Rep.int {K:aa}{H:Hp}(i:Int):Rep K H (.int i) (.int i):=by simp only [Rep]
theorem Rep.lst {K:aa}{H:Hp}{a:ag}{xs:List V}{ds:List PyData}(h:fg K H a xs) (r:gn K H ds xs):Rep K H (.list ds) (.ref a):=by
 simp only [Rep];exact ⟨a,xs,rfl,h,r⟩
theorem Rep.tup {K:aa}{H:Hp}{a:ag}{xs:List V}{ds:List PyData}(h:sG K H a xs) (r:gn K H ds xs):Rep K H (.tuple ds) (.ref a):=by
 simp only [Rep];exact ⟨a,xs,rfl,h,r⟩
theorem gn.ints {K:aa}{H:Hp}:∀ (ns:List Int),gn K H (ns.map .int) (ns.map V.int)
 | []=>gn.nil
 | n::ns=>gn.cons (Rep.int n) (gn.ints ns)
section
variable {X:Cx}
structure zO (d:PyData):Prop where
 lay:d.canLay0=true
 dep:d.depth<=60
def X1 (K:aa) (neg:Bool):R2:=λx y H Q=>∃ dx dy,Rep K H dx x/\Rep K H dy y/\zO dx/\zO dy/\Q (.bl (if neg then !PyData.eqv dx dy else fh dx dy)) H
theorem aal (hu:X.A.units+64<jB):vp X (eU .Eq) (X1 X.K false):=by
 intro pins s Z H x y v u Q I rx ry h
 obtain ⟨dx,dy,h1,h2,f1,f2,q⟩:=h
 obtain ⟨as,r1⟩:=Rep.reads I dx x v h1 rx
 obtain ⟨bs,r2⟩:=Rep.reads I dy y u h2 ry
 have:=f1.dep
 exact SeqAt.compareEq_reads r1 r2 f1.lay f2.lay (bj (Ct (bE (Nat.min_le_left _ _) (bE f1.dep (by decide))) _) hu) ⟨.bl _,H,I,rfl,q⟩
theorem aam (hu:X.A.units+64<jB):vp X (eU .NotEq) (X1 X.K true):=by
 intro pins s Z H x y v u Q I rx ry h
 obtain ⟨dx,dy,h1,h2,f1,f2,q⟩:=h
 obtain ⟨as,r1⟩:=Rep.reads I dx x v h1 rx
 obtain ⟨bs,r2⟩:=Rep.reads I dy y u h2 ry
 exact SeqAt.compareNe_reads r1 r2 f1.lay f2.lay (bj (Ct (bE (Nat.min_le_left _ _) (bE f1.dep (by decide))) _) hu) ⟨.bl _,H,I,rfl,q⟩
def mD (K:aa):R2:=λx y H Q=>rEq x y H Q\/X1 K false x y H Q
def Mu (K:aa):R2:=λx y H Q=>rNe x y H Q\/X1 K true x y H Q
theorem gZ (hu:X.A.units+64<jB):vp X (eU .Eq) (mD X.K):=abZ.or (aal hu)
theorem JS (hu:X.A.units+64<jB):vp X (eU .NotEq) (Mu X.K):=ab0.or (aam hu)
def aan (K:aa) (neg:Bool):R2:=λx y H Q=>∃ d ds,Rep K H d x/\(Rep K H (.list ds) y\/Rep K H (.tuple ds) y)/\zO d/\eP ds=true/\Q (.bl (if neg then !(ds.any λe=>fh e d) else ds.any λe=>fh e d)) H
theorem aao (hu:X.A.units+64<jB):vp X (eU .In) (aan X.K false):=by
 intro pins s Z H x y v u Q I rx ry h
 obtain ⟨d,ds,h1,h2,f1,f2,q⟩:=h
 obtain ⟨as,r1⟩:=Rep.reads I d x v h1 rx
 have hb:X.A.units+1+min (fJ ds) d.depth<jB:=bj (by have:=f1.dep;omega) hu
 rcases h2 with h2|h2
 ·obtain ⟨bs,r2⟩:=Rep.reads I _ y u h2 ry
  exact SeqAt.in_list_reads r2 r1 f2 f1.lay hb ⟨.bl _,H,I,rfl,q⟩
 ·obtain ⟨bs,r2⟩:=Rep.reads I _ y u h2 ry
  exact SeqAt.in_tuple_reads r2 r1 f2 f1.lay hb ⟨.bl _,H,I,rfl,q⟩
theorem Sh (hu:X.A.units+64<jB):vp X (eU .NotIn) (aan X.K true):=by
 intro pins s Z H x y v u Q I rx ry h
 obtain ⟨d,ds,h1,h2,f1,f2,q⟩:=h
 obtain ⟨as,r1⟩:=Rep.reads I d x v h1 rx
 have hb:X.A.units+1+min (fJ ds) d.depth<jB:=bj (by have:=f1.dep;omega) hu
 rcases h2 with h2|h2
 ·obtain ⟨bs,r2⟩:=Rep.reads I _ y u h2 ry
  exact SeqAt.notIn_list_reads r2 r1 f2 f1.lay hb ⟨.bl _,H,I,rfl,q⟩
 ·obtain ⟨bs,r2⟩:=Rep.reads I _ y u h2 ry
  exact SeqAt.notIn_tuple_reads r2 r1 f2 f1.lay hb ⟨.bl _,H,I,rfl,q⟩
def aap (neg:Bool):R2:=λy x H Q=>∃ a o,x=.ref a/\Cp H a y o/\Q (.bl (if neg then !o.isSome else o.isSome)) H
theorem aaq (hu:X.A.units+64<jB):vp X (eU .In) (aap false):=by
 intro pins s Z H y x iv u Q I ry rx h
 obtain ⟨a,o,rfl,g,q⟩:=h
 cases rx
 exact d_in (bj (by omega) hu) I g ry λs' I'=>⟨.bl _,H,I',rfl,q⟩
theorem Si (hu:X.A.units+64<jB):vp X (eU .NotIn) (aap true):=by
 intro pins s Z H y x iv u Q I ry rx h
 obtain ⟨a,o,rfl,g,q⟩:=h
 cases rx
 exact XY (bj (by omega) hu) I g ry λs' I'=>⟨.bl _,H,I',rfl,q⟩
def EF (K:aa) (neg:Bool):R2:=λx y H Q=>aan K neg x y H Q\/aap neg x y H Q
theorem JT (hu:X.A.units+64<jB):vp X (eU .In) (EF X.K false):=(aao hu).or (aaq hu)
theorem Bl (hu:X.A.units+64<jB):vp X (eU .NotIn) (EF X.K true):=(Sh hu).or (Si hu)
def hZ:R2:=λx y H Q=>vv (λi j=>.int (i+j)) x y H Q\/rCat x y H Q
theorem eE:vp X (vP .Add) hZ:=aac.or aaj
def rIxD:R2:=λx y H Q=>∃ a v,x=.ref a/\Cp H a y (some v)/\Q v H
theorem X2 (hu:X.A.units+64<jB):YI X rIxD:=by
 intro value slice pins s Z H x y v u Q I rx ry h hs
 obtain ⟨a,z,rfl,g,q⟩:=h
 cases rx
 exact tail_any (Mp I g) JA.lookup (Jb (bj (by omega) hu) I g ry λw' s' I' r'=>⟨z,H,I',r',q⟩) hs
def gA (K:aa):R2:=λx y H Q=>(rIxL K x y H Q\/rIxT K x y H Q)\/rIxD x y H Q
theorem g9 (hu:X.A.units+64<jB):YI X (gA X.K):=(XX.or aag).or (X2 hu)
def Zj:V->V->V->Hp->(Hp->Prop)->Prop:=λo i v H Q=>∃ a H',o=.ref a/\IG H a i v H'/\Q H'
theorem set_dict (hu:X.A.units+64<jB):XB X Zj:=by
 intro pins s Z H o i v ov iv u Q I ro ri rv h
 obtain ⟨a,H',rfl,g,q⟩:=h
 cases ro
 exact Jc (bj (by omega) hu) I g ri rv λs' I'=>⟨H',I',q⟩
def EG:V->V->V->Hp->(Hp->Prop)->Prop:=λo i v H Q=>Ze o i v H Q\/Zj o i v H Q
theorem Mv (hu:X.A.units+64<jB):XB X EG:=by
 intro pins s Z H o i v ov iv u Q I ro ri rv h
 rcases h with h|h
 ·exact UO pins s Z H o i v ov iv u Q I ro ri rv h
 ·exact set_dict hu pins s Z H o i v ov iv u Q I ro ri rv h
def Ha (K:aa):List V->Hp->VK->Prop:=λxs H Q=>(∃ p ys,xs=[.ref p]/\(fg K H p ys\/sG K H p ys)/\Q (.int ys.length) H)\/(∃ a kvs,xs=[V.ref a]/\H a=some (.dK kvs)/\Q (.int kvs.length) H)
theorem qa:tL X (.builtin "len") (Ha X.K):=JN.or Se
def Mw (K:aa):List V->Hp->VK->Prop:=λxs H Q=>∃ x T t b,xs=[x,.ty T]/\zI K H x t/\ar K t (.type T)=some b/\Q (.bl b) H
theorem uj:tL X (.builtin "isinstance") (Mw X.K):=by
 intro pins s Z H xs us Q I r h
 obtain ⟨x,T,t,b,rfl,ty,e,q⟩:=h
 obtain ⟨u,w',rfl,ru,rw'⟩:=vals2 r
 cases (show w'=eK T from rw')
 exact Sa I ru ty e λtk=>⟨.bl b,H,I.tok tk,rfl,q⟩
theorem Inv.xm {pins:List (ag×gC)}{Z:St}{H:Hp}{s:aq}(I:Inv X pins Z H s):∃ m,Fr X.base X.env.locals s.heap m/\AY X.base X.env.locals s.heap (oJ X.base s.heap X.env.locals) :=
 let ⟨m,F⟩:=I.fr
 ⟨m,F,Ux⟩
end
end L2
namespace L2
section
variable {Z:St}{H:Hp}{Q:VK}{D:ug}{ta tb te:TE}{t u:TS}{c c':TT}{tA:TA}{QT:Bool->Hp->Prop}{QA:List V->Hp->Prop}
theorem zQ (h:t { D with nx:=u D } Z H):bQ t u D Z H:=h
theorem ab9 {g:TG}(h:te Z H λx H1=>g x Z H1 D.nx):gY te g D Z H:=h
theorem X3 {i:Nat}{v:V}{R:St->Hp->Prop}(h:R (Z.set i (some v)) H):b9 i v Z H R:=h
theorem aar {to ti:TE}{ts:XA}{v:V}{R:St->Hp->Prop}(h:to Z H λo H1=>ti Z H1 λi H2=>ts o i v H2 λH3=>R Z H3):Oz to ti ts v Z H R:=h
theorem CC {i:Nat}{v:V}(h:Z[i]?=some (some v)) (k:Q v H):ao i Z H Q:=⟨v,h,k⟩
theorem x_c {v:V}(k:Q v H):tC v Z H Q:=k
theorem x_op {r:R2}(h:ta Z H λx H1=>tb Z H1 λy H2=>r x y H2 Q):cZ r ta tb Z H Q:=h
theorem x_un {r:V->Hp->VK->Prop}(h:ta Z H λx H1=>r x H1 Q):tUn r ta Z H Q:=h
theorem acb (h:te Z H D.rt):dY te D Z H:=h
theorem aas (h:te Z H λ_ H1=>D.nx Z H1):fV te D Z H:=h
theorem aat (h:D.nx Z H):eM D Z H:=h
theorem UU (h:c Z H λb H1=>if b=true then t D Z H1 else u D Z H1):gX c t u D Z H:=h
theorem x_if (h:c Z H λb H1=>if b=true then ta Z H1 Q else tb Z H1 Q):tIf c ta tb Z H Q:=h
theorem UV (h:te Z H λx H'=>∃ k,x=.bl k/\QT k H'):ft te Z H QT:=h
theorem UW (h:c Z H λb H1=>if b=true then c' Z H1 QT else QT false H1):G6 c c' Z H QT:=h
theorem x_or (h:c Z H λb H1=>if b=true then QT true H1 else c' Z H1 QT):tOr c c' Z H QT:=h
theorem acd (h:c Z H λb H1=>QT (!b) H1):uL c Z H QT:=h
theorem aau (h:ta Z H λx H1=>∃ c,x=.bl c/\if c=true then tb Z H1 Q else Q (.bl false) H1):yo ta tb Z H Q:=h
theorem aav (h:ta Z H λx H1=>∃ c,x=.bl c/\Q (.bl (!c)) H1):QO ta Z H Q:=h
theorem ace (h:QT true H):Bk Z H QT:=h
theorem QX (h:QA [] H):aT Z H QA:=h
theorem yO (h:te Z H λx H1=>tA Z H1 λxs H2=>QA (x::xs) H2):ak te tA Z H QA:=h
theorem acf (h:tA Z H λxs H1=>xs.length<=bf/\∀ p,H1 p=none->Q (.ref p) (upd H1 p (.tup xs))):sj tA Z H Q:=h
theorem acg (h:tA Z H λxs H1=>xs.length<=bf/\∀ p,H1 p=none->Q (.ref p) (upd H1 p (.lst xs))):tP tA Z H Q:=h
theorem OM {sp:Sp}{dvs:List V}{E:XK}(h:tA Z H λvs H1=>sp (vs++dvs) H1 Q E):cz sp dvs E tA Z H Q:=h
theorem x_cb {r:List V->Hp->VK->Prop}(h:tA Z H λvs H1=>r vs H1 Q):v5 r tA Z H Q:=h
theorem x_bm {K:aa}{T:String}{r:V->List V->Hp->VK->Prop}{to:TE}(h:to Z H λx H1=>tyV K T x H1/\tA Z H1 λxs H2=>r x xs H2 Q):IX K T r to tA Z H Q:=h
theorem x_sl {r:V->Option Int->Option Int->Hp->VK->Prop}{tl th:TO}(h:te Z H λx H1=>tl Z H1 λl H2=>th Z H2 λu H3=>r x l u H3 Q):Oj r te tl th Z H Q:=h
theorem UX {R:Option Int->Hp->Prop}(h:R none H):lG Z H R:=h
theorem aaw {R:Option Int->Hp->Prop}(h:te Z H λx H1=>∃ i,x=.int i/\R (some i) H1):pV te Z H R:=h
theorem aci {g:Int->Int->V}{i j:Int}(h:Q (g i j) H):vv g (.int i) (.int j) H Q:=⟨i,j,rfl,rfl,h⟩
theorem x_rI {C:Int->Int->Prop}{g:Int->Int->V}{i j:Int}(hc:C i j) (h:Q (g i j) H):rI C g (.int i) (.int j) H Q:=⟨i,j,rfl,rfl,hc,h⟩
theorem aax {i j:Int}(h:Q (.int (i+j)) H):hZ (.int i) (.int j) H Q:=.inl ⟨i,j,rfl,rfl,h⟩
theorem acj {K:aa}{i j:Int}(h:Q (.bl (decide (V.int i=V.int j))) H):mD K (.int i) (.int j) H Q:=.inl ⟨rfl,h⟩
theorem Zk {K:aa}{i j:Int}(h:Q (.bl (!decide (V.int i=V.int j))) H):Mu K (.int i) (.int j) H Q:=.inl ⟨rfl,h⟩
theorem oz {K:aa}{p:ag}{xs:List V}{i:Int}{v:V}(h:fg K H p xs) (e:UM xs i=some v) (k:Q v H):gA K (.ref p) (.int i) H Q:=.inl (.inl ⟨p,xs,i,v,rfl,rfl,h,e,k⟩)
theorem qQ {K:aa}{p:ag}{xs:List V}{i:Int}{v:V}(h:sG K H p xs) (e:UM xs i=some v) (k:Q v H):gA K (.ref p) (.int i) H Q:=.inl (.inr ⟨p,xs,i,v,rfl,rfl,h,e,k⟩)
theorem JU {K:aa}{p:ag}{xs:List V}(h:fg K H p xs) (k:Q (.int xs.length) H):Ha K [.ref p] H Q:=.inl ⟨p,xs,rfl,.inl h,k⟩
theorem EH {l:ag}{xs:List V}{y:V}(h:H l=some (.lst xs)) (hl:xs.length<bf) (k:Q .non (upd H l (.lst (xs++[y])))):nO (.ref l) [y] H Q:=⟨l,xs,y,rfl,rfl,h,hl,k⟩
theorem aay {p:ag}{xs:List V}{k:Int}{j:Nat}{v:V}{R:Hp->Prop}(h:H p=some (.lst xs)) (e:Uh xs.length k=some j) (q:R (upd H p (.lst (xs.set j v)))):EG (.ref p) (.int k) v H R:=.inl ⟨p,xs,k,j,rfl,rfl,h,e,q⟩
theorem vw {p A B:Prop} [Decidable p] (h1:p->A) (h2:¬ p->B):if decide p=true then A else B:=by
 by_cases h:p
 ·rw [if_pos (decide_eq_true h)];exact h1 h
 ·rw [if_neg (by rw [decide_eq_false h];decide)];exact h2 h
theorem ifnd {p A B:Prop} [Decidable p] (h1:¬ p->A) (h2:p->B):if (!decide p)=true then A else B:=by
 by_cases h:p
 ·rw [if_neg (by rw [decide_eq_true h];decide)];exact h2 h
 ·rw [if_pos (by rw [decide_eq_false h];decide)];exact h1 h
theorem lU {i j:Int}:(V.int i=V.int j)↔i=j:=⟨λh=>by injection h,λh=>by rw [h]⟩
end
end L2
namespace BootT
open PySem
theorem len:eV "len"=some (.builtin "len"):=by decide +kernel
theorem gM:eV "isinstance"=some (.builtin "isinstance"):=by decide +kernel
theorem EI:eV "sorted"=some (.builtin "sorted"):=by decide +kernel
theorem min:eV "min"=some (.builtin "min"):=by decide +kernel
theorem max:eV "max"=some (.builtin "max"):=by decide +kernel
theorem int:eV "int"=some (.type "int"):=by decide +kernel
theorem bool:eV "bool"=some (.type "bool"):=by decide +kernel
theorem list:eV "list"=some (.type "list"):=by decide +kernel
end BootT
namespace L2
def Mx:List V->Hp->VK->Prop:=λxs H Q=>∃ i j,xs=[.int i,.int j]/\Q (.int (if j<i then j else i)) H
def UY:List V->Hp->VK->Prop:=λxs H Q=>∃ i j,xs=[.int i,.int j]/\Q (.int (if j>i then j else i)) H
def kK (K:aa) (ta:TE):TT:=λZ H Q=>ta Z H λx H'=>∃ k,XJ K x H' k/\Q k H'
theorem QY {K:aa}{ta:TE}{Z:St}{H:Hp}{Q:Bool->Hp->Prop}(h:ta Z H λx H'=>∃ k,XJ K x H' k/\Q k H'):kK K ta Z H Q:=h
section
variable {X:Cx}{a:Expr}{ta:TE}
theorem fS (ha:PE X a ta) (he:∀ whole,isTrue a X.env whole=(do let v ← whole;Ee a.pos;qH [v] (truthy v))):PT X a (kK X.K ta):=UF ha he
end
def Itd (a:ag) (kvs:List (kg×V)) (o:gC):It :=
 ⟨λi H=>i<kvs.length/\H a=some (.frz o (.dK kvs)),λi H x H'=>H'=H/\∃ k v,kvs[i]?=some (k,v)/\x=kV k,λi H=>kvs.length<=i/\H a=some (.frz o (.dK kvs))⟩
theorem aaz {k:kg}{u:ai}(h:Ek k u=true):RelV (kV k) u:=by
 rcases iX h with ⟨i,t,rfl,rfl⟩|⟨x,t,rfl,rfl⟩
 ·exact ⟨t,rfl⟩
 ·exact ⟨t,rfl⟩
theorem KV.get {kvs:List (kg×V)}{vs:List (kg×ai)}(r:KV kvs vs) {i:Nat}{k:kg}{v:V}(e:kvs[i]?=some (k,v)):∃ u,vs[i]?=some (k,u)/\RelV v u:=by
 unfold KV at r
 induction r generalizing i with
 | nil=>simp at e
 | @cons p q ps qs h t ih =>
  cases i with
  | zero =>
   simp at e
   subst e
   obtain ⟨q1,q2⟩:=q
   obtain ⟨h1,h2⟩:=h
   simp only at h1 h2
   subst h1
   exact ⟨q2,rfl,h2⟩
  | succ i =>
   obtain ⟨u,e1,e2⟩:=ih (by simpa using e)
   exact ⟨u,by simpa using e1,e2⟩
theorem Sj {P:a8}{w:bT}{K:aa}{tg:Expr}(a it:ag) (o:gC) (kvs:List (kg×V)) (vs:List (kg×ai)) (ep:Nat) (rel:KV kvs vs)
  (od:∀ h:cg,h.get? a=some o->h.DictAt (hJ P w) a vs ep):OB P w K tg (Itd a kvs o) [it] it (λi h=>h.IsKeyIter it a i vs.length ep) where
 mem:=by simp
 obj:=λi h st b hb=>by
  have e:b=it:=by simpa using hb
  subst e
  obtain ⟨o,e,c,d⟩:=st
  exact ⟨o,e,λv z=>by rw [d] at z;cases z⟩
 keep:=λi h h' st k=>st.at λo e=>k it (by simp) o e
 item:=by
  intro X hP hw hK hc i pins s Z H E I hf st hg
  subst hP hw hK
  obtain ⟨hlt,hq⟩:=hg
  obtain ⟨e0,_⟩:=(show gK X.prog X.w H s.heap a (.frz o (.dK kvs)) from I.fX a _ hq)
  obtain ⟨⟨k,v⟩,hx⟩:∃ p,kvs[i]?=some p:=⟨kvs[i],by simp [hlt]⟩
  obtain ⟨u,hu,ru⟩:=rel.get hx
  obtain ⟨f0,f1,f2,f3,f4,f5⟩:=hf it (by simp)
  refine wpAny_pyNext_dict_item st (od _ e0) hu λkey h' hkey st' sb=>?_
  have I1:Inv X pins Z H { s with heap:=h' }:=I.turned (t':=s.toks) (λb o hb e=>(sb.2 b hb).trans e) f0 f1 f3 f4 f5
  obtain ⟨o',e,c,d⟩:=id st'
  exact ⟨key,rfl,IQ (s:={ s with heap:=h' }) e c d (by decide) ⟨kV k,H,I1,aaz hkey,⟨rfl,k,v,hx,rfl⟩,st',λb hb=>(hf b hb).1⟩⟩
 done:=by
  intro X hP hw hK hc i pins s Z H E I hf st hg
  subst hP hw hK
  obtain ⟨hle,hq⟩:=hg
  obtain ⟨e0,_⟩:=(show gK X.prog X.w H s.heap a (.frz o (.dK kvs)) from I.fX a _ hq)
  obtain ⟨f0,f1,f2,f3,f4,f5⟩:=hf it (by simp)
  have hl:=rel.length
  exact wpAny_pyNext_dict_end (I.ok.hd hc) st (od _ e0) (by simp;omega) λh' eb=>⟨rfl,I.turned (t':=s.toks) (λb o hb e=>eb b o hb e) f0 f1 f3 f4 f5⟩
 self:=λ_ _ _ _ _ st h=>wpAny_pyIter_keyiter st h
def uk (K:aa) (tl:TE):TI:=λZ H R=>tl Z H λx H1=>∃ a,x=.ref a/\(((∃ xs,fg K H1 a xs)/\R (Ug K a) H1)\/((∃ xs,sG K H1 a xs)/\R (Itt K a) H1) \/
 ∃ kvs,H1 a=some (.dK kvs)/\∀ o,R (Itd a kvs o) (upd H1 a (.frz o (.dK kvs))))
theorem aaA {K:aa}{tl:TE}{Z:St}{H:Hp}{R:It->Hp->Prop}(h:tl Z H λx H1=>∃ a,x=.ref a/\(((∃ xs,fg K H1 a xs)/\R (Ug K a) H1)\/((∃ xs,sG K H1 a xs)/\R (Itt K a) H1) \/
 ∃ kvs,H1 a=some (.dK kvs)/\∀ o,R (Itd a kvs o) (upd H1 a (.frz o (.dK kvs))))):uk K tl Z H R:=h
section
variable {X:Cx}{tg:Expr}
theorem lB {l:Expr}{tl:TE}(hl:PE X l tl):PI X tg l (uk X.K tl):=by
 intro pins s Z H R I h
 refine iO (hl pins s Z H _ I h) λv s1 ⟨x,H1,I1,r1,q1⟩=>?_
 obtain ⟨a,e,q1⟩:=q1
 subst e
 cases r1
 rcases q1 with ⟨⟨xs,hq⟩,q⟩|⟨⟨xs,hq⟩,q⟩|⟨kvs,hq,q⟩
 ·obtain ⟨its,rv,p,hz⟩:=I1.list hq
  refine wpAny_pyIter_list p.isList ?_
  refine ⟨s1.heap.objs.size,[s1.heap.objs.size],_,_,H1,rfl,I1.kept (t':=s1.toks) λb o e=>au _ e,R0 a _,⟨_,aL _ rfl,rfl,rfl⟩,λb hb=>?_,q⟩
  have e:b=s1.heap.objs.size:=by simpa using hb
  subst e
  exact I1.NZ (ax _) (I1.fX.fresh (ax _))
 ·obtain ⟨its,rv,p,hz⟩:=I1.tuple hq
  refine wpAny_pyIter_tuple (show s1.heap.IsTuple a its.toArray from p) ?_
  refine ⟨s1.heap.objs.size,[s1.heap.objs.size],_,_,H1,rfl,I1.kept (t':=s1.toks) λb o e=>au _ e,OC a _,⟨_,aL _ rfl,rfl,rfl⟩,λb hb=>?_,q⟩
  have e:b=s1.heap.objs.size:=by simpa using hb
  subst e
  exact I1.NZ (ax _) (I1.fX.fresh (ax _))
 ·obtain ⟨hz,hsys,vs,rel,dd⟩:=Zh I1.fX hq
  obtain ⟨ep,da⟩:=dd.dictAt
  obtain ⟨ob,es,ho,rr⟩:=id da
  have od:∀ h:cg,h.get? a=some ob->h.DictAt (hJ X.prog X.w) a vs ep:=λh e=>⟨ob,es,e,rr⟩
  have un:Un X.fs [] H1 (upd H1 a (.frz ob (.dK kvs))) s1.heap s1.heap:=by
   have hne:∀ b u,H1 b=some u->u≠.dK kvs->b≠a:=λb u e n z=>by subst z;rw [hq] at e;exact n (aX e).symm
   refine ⟨λb o e _ _ _=>e,λb o e _ _ _=>⟨o.slots,e⟩,λb o e n _=>?_,λb o e _=>⟨o,e⟩,λb ys e=>?_,λb o u e=>?_,λb ps e=>?_⟩
   ·rw [aJ (λz=>by subst z;rw [hq] at n;cases n)];exact n
   ·rw [aJ (hne b _ e (by intro z;cases z))];exact e
   ·rw [aJ (hne b _ e (by intro z;cases z))];exact e
   ·exact ⟨#[],by rw [aJ (hne b _ e (by intro z;cases z)),e];simp⟩
  have fX:vE X.prog X.w (upd H1 a (.frz ob (.dK kvs))) s1.heap:=λb u e=>by
   by_cases hb:b=a
   ·subst hb
    rw [aM] at e
    cases e
    exact ⟨ho,hz,hsys,vs,rel,dd⟩
   ·rw [aJ hb] at e
    refine (I1.fX b u e).yb (λc v _ q=>q) (λc q0=>?_) λc ys q0=>?_
    ·rw [aJ (λz=>by rw [z,hq] at q0;cases q0)];exact q0
    ·rw [aJ (λz=>by rw [z,hq] at q0;cases q0)];exact q0
  have I2:Inv X pins Z (upd H1 a (.frz ob (.dK kvs))) { s1 with heap:=s1.heap,toks:=s1.toks }:=I1.un un fX
  refine wpAny_pyIter_dict hsys da ?_
  refine ⟨s1.heap.objs.size,[s1.heap.objs.size],_,_,_,rfl,I2.kept (t':=s1.toks) λb o e=>au _ e,Sj a _ ob kvs vs ep rel od,⟨_,aL _ rfl,rfl,rfl⟩,λb hb=>?_,q ob⟩
  have e:b=s1.heap.objs.size:=by simpa using hb
  subst e
  exact I2.NZ (ax _) (I2.fX.fresh (ax _))
end
section
variable {K:aa}{Z:St}{H:Hp}{Q:VK}
structure oC (n i:Nat) (S:St->Prop) (Pv:List V->Hp->Prop) (m:Nat) (ys:List V) (Z:St) (H:Hp):Prop where
 m:m=n-i
 le:i<=n
 s:S Z
 p:Pv ys H
theorem oC.mk' {n i:Nat}{S:St->Prop}{Pv:List V->Hp->Prop}{ys:List V}{Z:St}{H:Hp}(hi:i<n) (s:S Z) (p:Pv ys H):∃ m',m'<n-i/\oC n (i+1) S Pv m' ys Z H:=⟨n-(i+1),by omega,rfl,hi,s,p⟩
theorem rJ {σ0:St}{g:TG}{tt:TT}{te:TE}{J:It}{n:Nat}{acc:ag}{R:Hp->Prop}(Pv:Nat->List V->Hp->Prop) (S:St->Prop) (h0:Pv 0 [] (upd H acc (.lst []))) (s0:S σ0)
  (ha:∀ i ys H,Pv i ys H->H acc=some (.lst ys)) (hst:∀ ys H,Pv n ys H->J.stop n H/\R H) (hgo:∀ i ys H,i<n->Pv i ys H->J.go i H)
  (hs:∀ i ys σ' H x H2,i<n->Pv i ys H->S σ'->J.QE i H x H2->g x σ' H2 λσ2 H3=>tt σ2 H3 λb H4=>if b=true then te σ2 H4 λy H5=>H5 acc=some (.lst ys)/\ys.length<bf/\∃ m',m'<n-i/\oC n (i+1) S (Pv (i+1)) m' (ys++[y]) σ2 (upd H5 acc (.lst (ys++[y]))) else ∃ m',m'<n-i/\oC n (i+1) S (Pv (i+1)) m' ys σ2 H4) :
  ∃ W:Nat->Nat->List V->St->Hp->Prop,(∃ m,W 0 m [] σ0 (upd H acc (.lst [])))/\∀ i m ys σ' H',W i m ys σ' H'->H' acc=some (.lst ys) /\
  ((J.stop i H'/\R H')\/(J.go i H'/\∀ x H2,J.QE i H' x H2->g x σ' H2 λσ2 H3=>tt σ2 H3 λb H4 =>
   if b=true then te σ2 H4 λy H5=>H5 acc=some (.lst ys)/\ys.length<bf/\∃ m',m'<m/\W (i+1) m' (ys++[y]) σ2 (upd H5 acc (.lst (ys++[y]))) else ∃ m',m'<m/\W (i+1) m' ys σ2 H4)):=by
 refine ⟨λi m ys σ' H'=>oC n i S (Pv i) m ys σ' H',⟨n,by simp,bG _,s0,h0⟩,?_⟩
 rintro i m ys σ' H' ⟨rfl,hi,hS,p⟩
 refine ⟨ha i ys H' p,?_⟩
 by_cases hlt:i<n
 ·exact .inr ⟨hgo i ys H' hlt p,λx H2 y=>hs i ys σ' H' x H2 hlt p hS y⟩
 ·have e:i=n:=by omega
  subst e
  exact .inl (hst ys H' p)
structure UZ (Pv:St->Hp->Prop) (μ:St->Hp->Nat) (m:Nat) (Z:St) (H:Hp):Prop where
 m:m=μ Z H
 p:Pv Z H
theorem My {c:TT}{tb:TS}{D:ug}(Pv:St->Hp->Prop) (μ:St->Hp->Nat) (h0:Pv Z H)
  (hs:∀ Z H,Pv Z H->c Z H λb H1=>if b=true then ∃ N:St->Hp->Prop,(∀ σ' H',N σ' H'->∃ m',m' < μ Z H/\UZ Pv μ m' σ' H')/\tb { D with nx:=N,ct:=N,bk:=D.nx } Z H1 else D.nx Z H1):JH c tb D Z H:=by
 refine ⟨UZ Pv μ,⟨_,rfl,h0⟩,?_⟩
 rintro m Z H ⟨rfl,p⟩
 exact hs Z H p
def wN (Pv:St->Hp->Prop) (μ:St->Hp->Nat) (b:Nat):St->Hp->Prop:=λZ H=>Pv Z H/\μ Z H<b
theorem Zm {Pv:St->Hp->Prop}{μ:St->Hp->Nat} {b:Nat}:∀ σ' H',wN Pv μ b σ' H'->∃ m',m'<b/\UZ Pv μ m' σ' H':=λσ' H' ⟨p,l⟩=>⟨_,l,rfl,p⟩
end
end L2
namespace L2
section
variable {Z:St}{H:Hp}{Q:VK}{D:ug}{ta tb te:TE}{t u:TS}{tA:TA}{QT:Bool->Hp->Prop}{QA:List V->Hp->Prop}{K:aa}
theorem X4 {r r':R2}{tc:TE}(h:ta Z H λx H1=>tb Z H1 λy H2=>r x y H2 λz H3=>∃ k,z=.bl k/\(if k=true then tc Z H3 λw' H4=>r' y w' H4 Q else Q (.bl false) H3)):JK r r' ta tb tc Z H Q:=h
theorem x_rU {g:Int->V}{i:Int}(h:Q (g i) H):rU g (.int i) H Q:=⟨i,rfl,h⟩
theorem ack {i j:Bool}(h:Q (.bl (decide (V.bl i=V.bl j))) H):mD K (.bl i) (.bl j) H Q:=.inl ⟨rfl,h⟩
theorem x_tB (h:te Z H λx H1=>∃ c,x=.bl c/\QT c H1):tB te Z H QT:=h
theorem acm (h:ta Z H λx H1=>Q (.bl (decide (x=.non))) H1):Z6 ta Z H Q:=h
theorem aaB (h:ta Z H λx H1=>Q (.bl (!decide (x=.non))) H1):Uy ta Z H Q:=h
theorem aaC {R:It->Hp->Prop}(h:tA Z H λvs H1=>∃ j:Int,vs=[.int j]/\-(2^62)<=j/\j<2^62/\R (XC 0 j.toNat) H1):Cv tA Z H R:=h
theorem acn {wi:TI}{g:TG}{tb:TS}(h:wi Z H λJ H1=>∃ W:Nat->Nat->St->Hp->Prop,(∃ m,W 0 m Z H1)/\∀ i m Z H,W i m Z H ->
 (J.stop i H/\D.nx Z H)\/(J.go i H/\∃ N:St->Hp->Prop,(∀ σ' H',N σ' H'->∃ m',m'<m/\W (i+1) m' σ' H')/\∀ x H',J.QE i H x H'->g x Z H' λσ2 H2=>tb { D with nx:=N,ct:=N,bk:=D.nx } σ2 H2)):zH wi g tb D Z H:=h
theorem aaD {own:Nat}{js:List Nat}{wi:TI}{g:TG}{tt:TT}(h:wi Z H λJ H1=>∀ acc,H1 acc=none ->
 ∃ W:Nat->Nat->List V->St->Hp->Prop,(∃ m,W 0 m [] (qI own none++Ms Z js) (upd H1 acc (.lst [])))/\∀ i m ys σ' H',W i m ys σ' H'->H' acc=some (.lst ys) /\
  ((J.stop i H'/\Q (.ref acc) H')\/(J.go i H'/\∀ x H2,J.QE i H' x H2->g x σ' H2 λσ2 H3=>tt σ2 H3 λb H4 =>
   if b=true then te σ2 H4 λy H5=>H5 acc=some (.lst ys)/\ys.length<bf/\∃ m',m'<m/\W (i+1) m' (ys++[y]) σ2 (upd H5 acc (.lst (ys++[y]))) else ∃ m',m'<m/\W (i+1) m' ys σ2 H4))):ow own js wi g tt te Z H Q:=h
theorem aco {i:Nat}{ti:TIp}{x:V}(hx:Z[i]?=some (some x)) (h:te Z H λy H1=>ti x y H1 λz H2=>D.nx (Z.set i (some z)) H2):UA i te ti D Z H:=⟨x,hx,h⟩
theorem JV {n:Nat}{ts:Xz}{a:ag}{xs:List V}{R:St->Hp->Prop}(h:sG K H a xs) (hn:xs.length=n) (k:ts xs Z H R):RZ K n ts (.ref a) Z H R:=⟨a,xs,rfl,h,hn,k⟩
theorem X5 {g:TG}{gs:Xz}{v:V}{r:List V}{R:St->Hp->Prop}(h:g v Z H λσ' H'=>gs r σ' H' R):rn g gs (v::r) Z H R:=⟨v,r,rfl,h⟩
theorem aaE {R:St->Hp->Prop}(h:R Z H):RY [] Z H R:=⟨rfl,h⟩
theorem U0 {l b:ag}{xs zs:List V}(h:H l=some (.lst xs)) (h':H b=some (.lst zs)) (hl:xs.length+zs.length<=bf) (k:∀ p,H p=none->Q (.ref p) (upd H p (.lst (xs++zs)))):hZ (.ref l) (.ref b) H Q:=.inr ⟨l,b,xs,zs,rfl,rfl,h,h',hl,k⟩
theorem acp {i j:Int}(k:Q (.int (if j<i then j else i)) H):Mx [.int i,.int j] H Q:=⟨i,j,rfl,k⟩
theorem acq {i j:Int}(k:Q (.int (if j>i then j else i)) H):UY [.int i,.int j] H Q:=⟨i,j,rfl,k⟩
theorem sT {x:V}{T:String}{t:ai}{b:Bool}(ty:zI K H x t) (e:ar K t (.type T)=some b) (k:Q (.bl b) H):Mw K [x,.ty T] H Q:=⟨x,T,t,b,rfl,ty,e,k⟩
theorem EJ {a:ag}{xs:List V}{lo hi:Option Int}(h:fg K H a xs) (k:∀ p,H p=none->Q (.ref p) (upd H p (.lst (EB xs lo hi)))):uN K (.ref a) lo hi H Q:=⟨a,xs,rfl,h,k⟩
theorem acr {x y:V}{dx dy:PyData}(h1:Rep K H dx x) (h2:Rep K H dy y) (f1:zO dx) (f2:zO dy) (k:Q (.bl (fh dx dy)) H):mD K x y H Q:=.inr ⟨dx,dy,h1,h2,f1,f2,k⟩
theorem Zo {x y:V}{dx dy:PyData}(h1:Rep K H dx x) (h2:Rep K H dy y) (f1:zO dx) (f2:zO dy) (k:Q (.bl (!PyData.eqv dx dy)) H):Mu K x y H Q:=.inr ⟨dx,dy,h1,h2,f1,f2,k⟩
theorem U1 {x y:V}{d:PyData}{ds:List PyData}(h1:Rep K H d x) (h2:Rep K H (.list ds) y) (f1:zO d) (f2:eP ds=true) (k:Q (.bl (!(ds.any λe=>fh e d))) H):EF K true x y H Q:=.inl ⟨d,ds,h1,.inl h2,f1,f2,k⟩
theorem Zp {x y:V}{d:PyData}{ds:List PyData}(h1:Rep K H d x) (h2:Rep K H (.list ds) y) (f1:zO d) (f2:eP ds=true) (k:Q (.bl (ds.any λe=>fh e d)) H):EF K false x y H Q:=.inl ⟨d,ds,h1,.inl h2,f1,f2,k⟩
end
section
variable {K:aa}
theorem U2:ar K (.type "int") (.type "int")=some true:=by rfl
theorem U3:ar K (.type "int") (.type "bool")=some false:=by rfl
theorem U4:ar K (.type "bool") (.type "int")=some true:=by rfl
theorem ON:ar K (.type "bool") (.type "bool")=some true:=by rfl
theorem U5:ar K (.type "NoneType") (.type "int")=some false:=by rfl
theorem aaF:ar K (.type "list") (.type "list")=some true:=by rfl
theorem U6:ar K (.type "str") (.type "int")=some false:=by rfl
end
theorem cB.dG {H:Hp}{l:ag}{o:HO}(h:H l=none):cB H (upd H l o):=λb u e=>by rw [aJ (aP e h)];exact e
def bS (c:ag) (H H':Hp):Prop:=∀ b o,H b=some o->b≠c->H' b=some o
theorem bS.refl (c:ag) (H:Hp):bS c H H:=λ_ _ h _=>h
theorem bS.trans {c:ag}{H H1 H2:Hp}(a:bS c H H1) (b:bS c H1 H2):bS c H H2:=λx o h n=>b x o (a x o h n) n
theorem bS.same {c:ag}{H H':Hp}(e:cB H H'):bS c H H':=λb o h _=>e b o h
theorem bS.upd {c:ag}{H:Hp}{o:HO}:bS c H (upd H c o):=λb u e n=>by rw [aJ n];exact e
theorem fG {α:Type} {xs:List α}{j:Nat}{i:Int}{v:α}(hi:i=(j:Int)) (h:xs[j]?=some v):UM xs i=some v:=by subst hi;exact XU h
theorem aaG {n j:Nat}{i:Int}(hi:i=(j:Int)) (h:j<n):Uh n i=some j:=by
 subst hi
 unfold Uh
 rw [if_pos (by omega),if_pos (by omega)]
 rfl
theorem bA {n m:Nat}(h:n<=m) (hm:m<=100000:=by decide):n<=bf:=bE h (bE hm (by rw [xO];decide))
theorem iP {n m:Nat}(h:n<m) (hm:m<=100000:=by decide):n<bf:=bc h (bE hm (by rw [xO];decide))
mutual
def sk:PyData->Bool
 | .int _=>true
 | .list xs=>lV xs
 | .tuple xs=>lV xs
 | _=>false
def lV:List PyData->Bool
 | []=>true
 | x::xs=>sk x && lV xs
end
mutual
theorem Je:∀ d:PyData,sk d=true->d.canLay0=true
 | .int _,_=>by simp [mW]
 | .list xs,h=>by simp only [sk] at h;simp only [mW];exact jo xs h
 | .tuple xs,h=>by simp only [sk] at h;simp only [mW];exact jo xs h
 | .none,h=>by simp [sk] at h
 | .bool _,h=>by simp [sk] at h
 | .str _,h=>by simp [sk] at h
 | .dict _,h=>by simp [sk] at h
theorem jo:∀ ds:List PyData,lV ds=true->eP ds=true
 | [],_=>by simp [eP]
 | d::ds,h=>by
  simp only [lV,dP] at h
  simp only [eP,dP]
  exact ⟨Je d h.1,jo ds h.2⟩
end
end L2
namespace L2
section
variable {Z:St}{H:Hp}{Q:VK}{K:aa}
end
end L2
namespace L2
open PySem PySem.Spec PySem.Calls PyProof.Rows
open PySem.W (kla_fn kla_obj tabObj CodeHd)
theorem acs {h:cg}{a:ag}{m m':aZ->Option ai}(x:h.Ns a m) (y:h.Ns a m'):m=m':=by
 obtain ⟨o,es,ep,e,d,_,r⟩:=x
 obtain ⟨o',es',ep',e',d',_,r'⟩:=y
 rw [e] at e';cases e'
 rw [d] at d';cases d'
 funext n
 rw [← r n,← r' n]
theorem Inv.news {X:Cx}{pins:List (ag×gC)}{Z:St}{H:Hp}{s:aq}{h':cg}{m:aZ->Option ai}{t':Nat}(I:Inv X pins Z H s) (hm:s.heap.Ns X.env.locals m) (F:Fr X.base X.env.locals h' m)
  (N:AY X.base X.env.locals h' (oJ X.base s.heap X.env.locals)):Inv X pins Z H { s with heap:=h',toks:=t' }:=by
 have k:∀ b o,b≠X.env.locals->s.heap.get? b=some o->h'.get? b=some o:=λb o h1 e=>by
  cases q:X.base.get? b with
  | some u =>
   have:=I.bk b u q
   rw [e] at this;cases this
   exact F.keep b _ q
  | none=>exact (N (b,o) (qM h1 q e)).1
 refine I.step (g':=s.gens) (d':=s.drawn) (ch:=[]) (λ_ z=>nomatch z) (λb o h1 _ _ e _=>k b o h1 e) (λb o h1 _ _ e _=>⟨o.slots,k b o h1 e⟩) (λ_ _ _ _ n=>n) (λb o _ e=>?_) (λ_ _ e=>e) (λ_ _ _ e=>e)
  (λb ps e=>⟨#[],by rw [e];simp⟩) (λm' hm'=>by rw [← acs hm hm'];exact F.ns) (λb u e=>?_) I.bare
 ·by_cases hb:b=X.env.locals
  ·subst hb
   obtain ⟨o',_,_,e',_⟩:=F.ns
   exact ⟨o',e'⟩
  ·exact ⟨o,k b o hb e⟩
 ·refine (I.fX b u e).yb (λc v hc q=>k c v ?_ q) (λ_ q=>q) λ_ _ q=>q
  rintro rfl
  rcases hc with hc|hc
  ·rw [← hc,I.free] at e;cases e
  ·rw [I.free] at hc;cases hc
def Mz (Pt:ag) (H H':Hp):Prop:=∀ b o,b≠Pt->H b=some o->H' b=some o
def QD (Pt:ag) (pos:rD) (qual:aZ) (H:Hp):Prop :=
 H Pt=some (.tbl #[])\/∃ c' oc vs t,H Pt=some (.tbl #[cO pos.line,cO pos.col,.ref c'])/\H c'=some (.frz oc (.ext λ_=>True))/\oc.data=.fields vs/\vs[1]?=some (tN qual t)
theorem QD.tbl {Pt:ag}{pos:rD}{qual:aZ}{H:Hp}(h:QD Pt pos qual H):∃ ps,H Pt=some (.tbl ps):=by
 rcases h with h|⟨_,_,_,_,h,_⟩
 ·exact ⟨_,h⟩
 ·exact ⟨_,h⟩
section
variable {X:Cx}{pins:List (ag×gC)}{Z:St}{H:Hp}{s:aq}{c Pt:ag}
theorem U7 {E:ai->aq->Prop}{Q:ai->aq->Prop}{params:sP}{body:Expr}{scope:lA}{pos:rD}(I:Inv X pins Z H s) (hcode:X.env.code=.ref c) (C:rY X.base c Pt) (B:X.base.BuiltinsAt X.mg Pt)
  (hdef:defaultsOf params X.env=([],[])) (hfr:∀ n,(n,bP)∈scope.names->∃ c,X.env.cells.lookup n=some c) (hT:QD Pt pos (X.env.qual++"<lambda>") H)
  (h:∀ f c' ctv h' tk H2,Inv X pins Z H2 { s with heap:=h',toks:=tk }->h'.get? f=some (A2 "<lambda>" (X.env.qual++"<lambda>") params body scope (sM X.env.cells scope.names []) ((X.mg "__name__").getD .none) c' ctv)->h'.CodeRec (.ref c') (X.env.qual++"<lambda>") ->
   Mz Pt H H2->QD Pt pos (X.env.qual++"<lambda>") H2->(∀ b o,b≠Pt->s.heap.get? b=some o->h'.get? b=some o)->Q (.ref f) { s with heap:=h',toks:=tk }) :
  aK (aY X.prog X.w) X.A (gp (.Lambda params body scope pos) X.env) Q E s:=by
 have hg:s.heap.Ns bx X.mg:=I.mod.glob.keeps I.bk
 have C1:=C.keeps I.bk
 have B1:s.heap.BuiltinsAt X.mg Pt:=let ⟨bm,o,b1,b2,b3,b4,b5,b6⟩:=B;⟨bm,o,b1,b2,b3,b4,I.bk _ _ b5,b6⟩
 refine PySem.W.kla_eval hdef ?_
 rcases hT with hT|⟨c',oc,vs,t,hT,hc',hd,hv⟩
 ·have hP:s.heap.get? Pt=some (Ob #[]):=I.fX Pt _ hT
  have hgP:bx≠Pt:=λq=>by
   obtain ⟨o,es,ep,e,hd,_⟩:=hg
   rw [q,hP] at e;cases e;cases hd
  refine PySem.W.kla_makeFunction (mg:=X.mg) (yN hfr) I.ok.glob hg hcode C1 hP trivial rfl hgP B1 λc' ctv h' tk hx hge hlt hrec htb=>?_
  obtain ⟨c₂,oc,vs,t,e2,hoc,hd,hv⟩:=id hrec
  cases e2
  have hn:H c'=none:=I.fX.fresh hge
  have ncP:c'≠Pt:=λq=>by rw [q,hT] at hn;cases hn
  have hL:X.env.locals≠Pt:=λq=>by have:=I.free;rw [q,hT] at this;cases this
  have k:∀ b o,b≠Pt->s.heap.get? b=some o->(h'.push (A2 "<lambda>" (X.env.qual++"<lambda>") params body scope (sM X.env.cells scope.names []) ((X.mg "__name__").getD .none) c' ctv)).get? b=some o:=λb o hb e=>au _ (hx b o hb e)
  have hP':(h'.push (A2 "<lambda>" (X.env.qual++"<lambda>") params body scope (sM X.env.cells scope.names []) ((X.mg "__name__").getD .none) c' ctv)).get? Pt=some (Ob #[cO pos.line,cO pos.col,.ref c']):=au _ htb
  have hoc':(h'.push (A2 "<lambda>" (X.env.qual++"<lambda>") params body scope (sM X.env.cells scope.names []) ((X.mg "__name__").getD .none) c' ctv)).get? c'=some oc:=au _ hoc
  have hf:(h'.push (A2 "<lambda>" (X.env.qual++"<lambda>") params body scope (sM X.env.cells scope.names []) ((X.mg "__name__").getD .none) c' ctv)).get? h'.objs.size=some (A2 "<lambda>" (X.env.qual++"<lambda>") params body scope (sM X.env.cells scope.names []) ((X.mg "__name__").getD .none) c' ctv):=aL _ rfl
  generalize h'.push (A2 "<lambda>" (X.env.qual++"<lambda>") params body scope (sM X.env.cells scope.names []) ((X.mg "__name__").getD .none) c' ctv)=h2 at k hP' hoc' hf
  have st:∀ b o,b≠Pt->H b=some o->upd (upd H Pt (.tbl #[cO pos.line,cO pos.col,.ref c'])) c' (.frz oc (.ext λ_=>True)) b=some o:=λb o hb e=>by
   rw [aJ (aP e hn),aJ hb];exact e
  refine h _ c' ctv h2 tk (upd (upd H Pt (.tbl #[cO pos.line,cO pos.col,.ref c'])) c' (.frz oc (.ext λ_=>True))) ?_ hf ⟨c',oc,vs,t,rfl,hoc',hd,hv⟩ st (.inr ⟨c',oc,vs,t,by rw [aJ (Ne.symm ncP)];exact aM,aM,hd,hv⟩) k
  have nP:∀ b,H b=none->b≠Pt:=λb e q=>by rw [q,hT] at e;cases e
  refine I.step (g':=s.gens) (d':=s.drawn) (ch:=[]) (λ_ z=>nomatch z) (λb o _ _ _ e n=>k b o (nP b n) e) (λb o _ _ _ e n=>⟨o.slots,k b o (nP b n) e⟩) (λb o _ e n=>?_) (λb o _ e=>?_) (λb xs e=>?_) (λb o u e=>?_)
   (λb ps e=>?_) (λm' hm'=>?_) (λb u e=>?_) I.bare
  ·rw [aJ (aS (bc (aI e) hge)),aJ (nP b n)];exact n
  ·by_cases hb:b=Pt
   ·exact ⟨_,hb▸hP'⟩
   ·exact ⟨o,k b o hb e⟩
  ·exact st b _ (λq=>by rw [q,hT] at e;cases e) e
  ·exact st b _ (λq=>by rw [q,hT] at e;cases e) e
  ·by_cases hb:b=Pt
   ·subst hb
    rw [hT] at e;cases e
    exact ⟨#[cO pos.line,cO pos.col,.ref c'],by rw [aJ (Ne.symm ncP),aM];simp⟩
   ·exact ⟨#[],by rw [st b _ hb e];simp⟩
  ·obtain ⟨o,es,ep,e,r⟩:=hm'
   exact ⟨o,es,ep,k _ o hL e,r⟩
  ·by_cases hb:b=c'
   ·subst hb
    rw [aM] at e;cases e
    exact ⟨hoc',trivial,⟨oc,hoc'⟩,λ_ _ _ _=>trivial⟩
   ·rw [aJ hb] at e
    by_cases hb2:b=Pt
    ·subst hb2
     rw [aM] at e;cases e
     exact hP'
    ·rw [aJ hb2] at e
     refine (I.fX b u e).yb (λd v hc q=>k d v ?_ q) (λd q=>st d _ (λz=>by rw [z,hT] at q;cases q) q) λd xs q=>st d _ (λz=>by rw [z,hT] at q;cases q) q
     rintro rfl
     rcases hc with hc|hc
     ·exact hb2 hc.symm
     ·rw [hT] at hc;cases hc
 ·have hP:s.heap.get? Pt=some (Ob #[cO pos.line,cO pos.col,.ref c']):=I.fX Pt _ hT
  refine PySem.W.kla_makeFunctionHit (mg:=X.mg) (cv:=.ref c') (yN hfr) I.ok.glob hg hcode C1 hP (by simp [TriplesOk,cO]) (by simp [codeAmong,cO]) B1 λctv h' tk hk hsz=>?_
  have k:∀ b o,s.heap.get? b=some o->(h'.push (A2 "<lambda>" (X.env.qual++"<lambda>") params body scope (sM X.env.cells scope.names []) ((X.mg "__name__").getD .none) c' ctv)).get? b=some o:=λb o e=>au _ (hk b o e)
  refine h h'.objs.size c' ctv _ tk H (I.kept k) (aL _ rfl) ⟨c',oc,vs,t,rfl,k _ _ (I.fX c' _ hc').1,hd,hv⟩ (λ_ _ _ e=>e) (.inr ⟨c',oc,vs,t,hT,hc',hd,hv⟩) λb o _ e=>k b o e
end
end L2
namespace L2
open PySem PySem.Spec PySem.Calls PyProof.Rows
open PySem.W (kla_fn kla_obj tabObj CodeHd)
section
variable {X:Cx}{c Pt:ag}{e:Expr}{tx:TA}{x y:aZ}{j:Nat}{params:sP}{scope:lA}{p0 p1 p2 p3 lpos kpos pos:rD}
end
end L2
namespace L2
open PySem PySem.Spec PySem.Calls PyProof.Rows
open PySem.W (tabObj CodeHd noTabs tabIn)
end L2
namespace L2
theorem jZ.okC {P:a8}{w:bT}{K:aa}{mg:aZ->Option ai}{base:cg}{x qual:aZ}{st:dR}{f:ag}{fd:fo}{N ps:List aZ}{k:Nat}{sp:Sp}{gG:ai}(F:jZ K x qual st f fd) (hc:fd.code=gG) (S:bC N ps (aU st)) (len:∀ vs H Q E,sp vs H Q E->vs.length=ps.length)
  (hbody:∀ (A:bZ) (outer:List xr) (s:aq) (H:Hp) (vs:List V) (Q:VK) (E:XK),k9 k (A.deeper (pQ qual (aU st) s.heap.objs.size f gG))->sp vs H Q E ->
   ∃ t,LA (pN eT P w K mg base N qual (aU st) f gG A outer s H E).ZF (nQ st) t/\t { nx:=λ_ H'=>Q .non H',rt:=Q } (start N vs) H):dg P w K mg base eT (k+1) f fd ps sp:=by
 obtain ⟨oc,od,kV,doc,pm,an,cdv',ct,osl,rfl,lk,hcd⟩:=F.ex
 have e:cdv'=gG:=hc
 subst e
 refine UJ lk hcd S len λA outer s H vs Q E hr hsp=>?_
 obtain ⟨t,h,q⟩:=hbody A outer s H vs Q E hr hsp
 exact ⟨t,h.ZF,q⟩
end L2
namespace L2
end L2
namespace L2
end L2
namespace L2
section
variable {K:aa}{Z:St}{H:Hp}{Q:VK}
theorem JW {σ0:St}{g:TG}{tt:TT}{te:TE}{z acc:ag}{xs:List V}{R:Hp->Prop}{α:Type} (items:List α) (p:α->Bool) (f:α->V) (S:St->Prop) (hlen:items.length=xs.length) (hz:fg K H z xs) (ha:H acc=none) (s0:S σ0) (hs:xs.length<=100000)
  (turn:∀ (i:Nat) (a:α) (x:V) (σ':St) (H':Hp) (G:V->St->Hp->Prop) (G':St->Hp->Prop),items[i]?=some a->xs[i]?=some x->cB H H'->S σ'->(p a=true->∀ σ2,S σ2->G (f a) σ2 H')->(p a=false->∀ σ2,S σ2->G' σ2 H') ->
   g x σ' H' λσ2 H3=>tt σ2 H3 λb H4=>if b=true then te σ2 H4 λy H5=>G y σ2 H5 else G' σ2 H4)
  (fin:∀ H',cB H H'->H' acc=some (.lst ((items.filter p).map f))->R H') :
  ∃ W:Nat->Nat->List V->St->Hp->Prop,(∃ m,W 0 m [] σ0 (upd H acc (.lst [])))/\∀ i m ys σ' H',W i m ys σ' H'->H' acc=some (.lst ys) /\
  (((Ug K z).stop i H'/\R H')\/((Ug K z).go i H'/\∀ x H2,(Ug K z).QE i H' x H2->g x σ' H2 λσ2 H3=>tt σ2 H3 λb H4 =>
   if b=true then te σ2 H4 λy H5=>H5 acc=some (.lst ys)/\ys.length<bf/\∃ m',m'<m/\W (i+1) m' (ys++[y]) σ2 (upd H5 acc (.lst (ys++[y]))) else ∃ m',m'<m/\W (i+1) m' ys σ2 H4)):=by
 refine rJ (n:=xs.length) (λi ys H'=>ys=((items.take i).filter p).map f/\H' acc=some (.lst ys)/\cB H H') S ⟨by simp,aM,cB.dG ha⟩ s0 ?_ ?_ ?_ ?_
 ·rintro i ys H' ⟨_,h,_⟩;exact h
 ·rintro ys H' ⟨e,h,S'⟩
  refine ⟨⟨_,S'.seq hz,ax _⟩,fin H' S' ?_⟩
  rw [h,e,cQ (by omega)]
 ·rintro i ys H' hi ⟨e,h,S'⟩
  exact ⟨_,_,S'.seq hz,aD hi⟩
 ·rintro i ys σ' H' x H2 hi ⟨e,h,S'⟩ hσ ⟨e2,hx⟩
  subst e2
  have hxi:=hx _ (S'.seq hz)
  obtain ⟨a,hai⟩:∃ a,items[i]?=some a:=⟨_,aD (by omega)⟩
  have et:items.take (i+1)=items.take i++[a]:=by rw [jK,hai];rfl
  refine turn i a x σ' H2 _ _ hai hxi S' hσ (λhp σ2 h2=>?_) λhp σ2 h2=>?_
  ·refine ⟨h,bj (m:=i) ?_ (bc hi (bA hs)),oC.mk' hi h2 ⟨?_,aM,λb o q=>by rw [aJ (aP q ha)];exact S' _ _ q⟩⟩
   ·rw [e,aj];exact bE (eC _ _) (by rw [cf];omega)
   ·rw [et,e,fP,br]
    simp [hp]
  ·refine oC.mk' hi h2 ⟨?_,h,S'⟩
   rw [et,e,fP,br]
   simp [hp]
theorem yP:∀ ns:List Int,lV (ns.map .int)=true
 | []=>rfl
 | n::ns=>by simp only [cn,lV,dP];exact ⟨by simp [sk],yP ns⟩
theorem EK:∀ ns:List Int,fJ (ns.map .int)<=1
 | []=>by simp [fJ]
 | n::ns=>by
  have:=EK ns
  simp only [cn,fJ]
  have e:(Uo n).depth<=1:=by simp [pY]
  omega
theorem EL {H:Hp}{a:ag}{ns:List Int}(h:fg K H a (ns.map V.int)):Rep K H (.list (ns.map .int)) (.ref a):=.lst h (gn.ints ns)
end
end L2
namespace BootT
open PySem
theorem sum:eV "sum"=some (.builtin "sum"):=by decide +kernel
theorem zip:eV "zip"=some (.type "zip"):=by decide +kernel
theorem set:eV "set"=some (.type "set"):=by decide +kernel
end BootT
namespace L2
open PySem PySem.Spec PyProof.Rows PySem.SeqAt
section
variable {X:Cx}
def U8 (K:aa):V->List V->Hp->VK->Prop:=λx vs H Q=>∃ (l:ag) (ns:List Int) (k:Int),x=.ref l/\vs=[.int k]/\fg K H l (ns.map V.int)/\k∈ns/\Q (.int (ns.idxOf k:Nat)) H
theorem U9:Xh X "list.index" (U8 X.K):=by
 intro pins s Z H x vs v us Q I rx rv h
 obtain ⟨l,ns,k,rfl,rfl,hq,hk,q⟩:=h
 cases rx
 obtain ⟨u,rfl,t,rfl⟩:=rv.one
 obtain ⟨its,r,pl,hz⟩:=I.list hq
 have hi:ip its ns:=intsAre_of r
 have hlen:=hi.length
 have hl2:=r.length
 have hj:ns.idxOf k<ns.length:=iI.mpr hk
 have h63:=yL
 rw [aj] at hz hl2
 obtain ⟨⟨cls,dd,data,sl⟩,ho,hc,n,hd⟩:=pl.isList
 simp only at hc hd
 subst hc hd
 refine TN gI ⟨_,ho,rfl⟩ LK (JB _ _)
  (list_indexAt l its.toArray n dd sl (.int k t) (isInt k) (ns.idxOf k) (by rw [aV];omega) (by omega) ?_ ?_) ⟨ho,λy hy=>(eq_isInt k t hi y (by simpa using hy)).at _ _,⟨.int _,H,I.tok _,⟨_,rfl⟩,q⟩⟩
 ·show isInt k its[ns.idxOf k]=true
  rw [isInt_at k hi _ (by omega) hj]
  simpa using CY hj
 ·intro j hjs hlt
  show isInt k its[j]=false
  rw [isInt_at k hi j (by simpa using hjs) (by omega)]
  exact ne_of_lt_idxOf hlt _
def QZ (K:aa):V->List V->Hp->VK->Prop:=λx vs H Q=>∃ (l:ag) (y:V) (ds:List PyData) (d:PyData) (j:Nat) (ej:PyData),x=.ref l/\vs=[y]/\Rep K H (.list ds) (.ref l)/\Rep K H d y/\zO d/\eP ds=true /\
 ds.length<=bf/\ds[j]?=some ej/\fh ej d=true/\(∀ m e,m<j->ds[m]?=some e->fh e d=false)/\Q (.int (j:Nat)) H
theorem Sk (hu:X.A.units+64<jB):Xh X "list.index" (QZ X.K):=by
 intro pins s Z H x vs v us Q I rx rv h
 obtain ⟨l,y,ds,d,j,ej,rfl,rfl,hR,hd,hf,hc,hz,hj,he,hno,q⟩:=h
 cases rx
 obtain ⟨u,rfl,ru⟩:=rv.one
 obtain ⟨as,r1⟩:=Rep.reads I _ _ _ hR rfl
 obtain ⟨bs,r2⟩:=Rep.reads I d y u hd ru
 have h63:=yL
 have hdep:=hf.dep
 have hjl:j<ds.length:=(aC.mp hj).1
 cases r1 with
 | @list _ o items n _ as2 h1 h2 h3 h4 =>
  obtain ⟨cls,dd,data,sl⟩:=o
  have h2':cls=_:=h2
  have h3':data=_:=h3
  subst h2' h3'
  have hm:=readsAll_map _ _ _ hc h4
  have hsz:items.size=ds.length:=by rw [← hm,aj,aW]
  have at_:∀ (m:Nat) (hm':m<items.size) (e:PyData),ds[m]?=some e->readOf s.heap items[m]=e:=λm hm' e z=>by
   rw [← hm,aG,dA,cE hm'] at z
   exact aX z
  refine TN gI ⟨_,h1,rfl⟩ LK (JB _ _)
   (list_indexAt l items n dd sl u (λy=>fh (readOf s.heap y) d) j (by omega) (by omega) ?_ ?_) ⟨h1,items_eqAt h4 r2 hc hf.lay (by omega),⟨.int _,H,I.tok _,⟨_,rfl⟩,q⟩⟩
  ·show fh (readOf s.heap items[j]) d=true
   rw [at_ j (by omega) _ hj];exact he
  ·intro m hm' hlt
   obtain ⟨e,z⟩:∃ e,ds[m]?=some e:=⟨_,aD (by omega)⟩
   show fh (readOf s.heap items[m]) d=false
   rw [at_ m hm' e z]
   exact hno m e hlt z
theorem Xh.or {id:String}{r r':V->List V->Hp->VK->Prop}(h:Xh X id r) (h':Xh X id r'):Xh X id (λx vs H Q=>r x vs H Q\/r' x vs H Q):=by
 intro pins s Z H x vs v us Q I rx rv z
 rcases z with z|z
 ·exact h pins s Z H x vs v us Q I rx rv z
 ·exact h' pins s Z H x vs v us Q I rx rv z
def sU (K:aa):V->List V->Hp->VK->Prop:=λx vs H Q=>U8 K x vs H Q\/QZ K x vs H Q
theorem um (hu:X.A.units+64<jB):Xh X "list.index" (sU X.K):=U9.or (Sk hu)
def Sl (lo c:Int) (n:Nat):It:=⟨λi _=>i<n,λi H x H'=>H'=H/\x=.int (lo+i*c),λi _=>n<=i⟩
theorem MA {P:a8}{w:bT}{K:aa}{tg:Expr}(it:ag) (lo c:Int) (n:Nat):OB P w K tg (Sl lo c n) [it] it (λi h=>On h it (lo+(i:Nat)*c) ((n:Int)-(i:Nat)) c) where
 mem:=by simp
 obj:=λi h st b hb=>by
  have e:b=it:=by simpa using hb
  subst e
  exact ⟨_,st,λv z=>by
   have z':Data.fields _=Data.cell v:=z
   cases z'⟩
 keep:=λi h h' st k=>k it (by simp) _ st
 item:=by
  intro X hP hw hK hc i pins s Z H E I hf st hg
  subst hP hw hK
  obtain ⟨f0,f1,f2,f3,f4,f5⟩:=hf it (by simp)
  have W:=Walks.range (prog:=X.prog) (w:=X.w) (I.ok.hd hc) it lo c n
  refine W.item i s _ _ hg st λv h' tk hv st' kk=>?_
  obtain ⟨t,rfl⟩:=hv
  have I1:Inv X pins Z H { s with heap:=h',toks:=tk }:=I.turned (λb o hb e=>kk b o (by simpa using hb) e) f0 f1 f3 f4 f5
  exact ⟨_,rfl,IQ (s:={ s with heap:=h',toks:=tk }) (n:="range_iterator") st' rfl rfl (by decide) ⟨.int (lo+i*c),H,I1,⟨t,rfl⟩,⟨rfl,rfl⟩,st',λb hb=>(hf b hb).1⟩⟩
 done:=by
  intro X hP hw hK hc i pins s Z H E I hf st hg
  subst hP hw hK
  obtain ⟨f0,f1,f2,f3,f4,f5⟩:=hf it (by simp)
  exact YS (I.ok.hd hc) st (by have:n<=i:=hg;omega) λh' eb=>⟨rfl,I.turned (t':=s.toks) (λb o hb e=>eb b o hb e) f0 f1 f3 f4 f5⟩
 self:=λ_ _ _ _ _ st h=>YT st h
def Hb (i j c:Int):Nat:=if i<j then ((j-i-1)/c+1).toNat else 0
def Va (ta:TA):TI:=λZ H R=>ta Z H λvs H1=>∃ i j c:Int,vs=[.int i,.int j,.int c]/\(-(2^40)<=i/\i<2^40/\-(2^40)<=j/\j<2^40/\0<c/\c<2^20)/\R (Sl i c (Hb i j c)) H1
theorem EM {i j c:Int}(hc:0<c):nh i j c=(Hb i j c:Int):=by
 unfold nh Hb
 rw [if_pos hc]
 split
 ·have:0<=(j-i-1)/c:=Int.ediv_nonneg (by omega) (by omega)
  omega
 ·rfl
theorem aaH {i j c:Int}(h:-(2^40)<=i/\i<2^40/\-(2^40)<=j/\j<2^40/\0<c/\c<2^20):JC i j c=true:=by
 have hr:=EM (i:=i) (j:=j) h.2.2.2.2.1
 have hb:(Hb i j c:Int)<=2^42:=by
  unfold Hb
  split
  ·have:(j-i-1)/c<=j-i-1:=Int.ediv_le_self _ (by omega)
   omega
  ·decide
 unfold JC
 rw [hr,if_pos h.2.2.2.2.1]
 have fit:∀ x:Int,-(2^43)<=x->x<=2^43->Ba x=true:=λx h1 h2=>by
  unfold Ba
  simp only [dP,decide_eq_true_eq]
  omega
 rw [fit i (by omega) (by omega),fit j (by omega) (by omega),fit c (by omega) (by omega),fit _ (by omega) (by omega),fit (j+(c-1)) (by omega) (by omega)]
 simp
variable {tg:Expr}
theorem Sm {a b c:Expr}{ta:TA}{p pos:rD}(hg:Gl X "range") (hm:X.mg "range"=none) (ha:PA X [a,b,c] ta) (hs:bw [a,b,c] X.env=[(false,gp a X.env),(false,gp b X.env),(false,gp c X.env)]:=by rfl) (hs2:bw [b,c] X.env=[(false,gp b X.env),(false,gp c X.env)]:=by rfl) :
  PI X tg (.Call (.Name "range" p) [a,b,c] [] pos) (Va ta):=by
 intro pins s Z H R I h
 refine Call_ (rg I hg hm boot_range (dJ (iO (ha pos pins s Z H _ I h) λus s1 ⟨vs,H1,I1,r1,q1⟩=>?_) (by rw [hs,hs2]) (by rw [hs2];rfl)))
 obtain ⟨i,j,c,e,hq,q⟩:=q1
 subst e
 cases r1 with
 | cons r rr =>
  cases rr with
  | cons r' rr =>
   cases rr with
   | cons r'' rr =>
    cases rr
    obtain ⟨t,rfl⟩:=r
    obtain ⟨t',rfl⟩:=r'
    obtain ⟨t'',rfl⟩:=r''
    refine call_range_3 (by omega) ?_ (.inl (N9 (by omega)))
    refine wpAny_pyIter_range (IsRange.new ..) (aaH hq) ?_
    have I2:Inv X pins Z H1 { s1 with heap:=s1.heap.push { cls:=.type "range",data:=.fields #[.int i t,.int j t',.int c t''] },toks:=s1.toks }:=I1.kept λb o e=>au _ e
    refine ⟨(s1.heap.push { cls:=.type "range",data:=.fields #[.int i t,.int j t',.int c t''] }).objs.size,[(s1.heap.push { cls:=.type "range",data:=.fields #[.int i t,.int j t',.int c t''] }).objs.size],_,_,H1,rfl,
     I2.kept (t':=s1.toks) λb o e=>au _ e,MA _ i c (Hb i j c),?_,λb hb=>?_,q⟩
    ·have e1:i+((0:Nat):Int)*c=i:=by simp
     have e2:((Hb i j c:Nat):Int)-((0:Nat):Int)=nh i j c:=by rw [EM hq.2.2.2.2.1];omega
     show On _ _ (i+((0:Nat):Int)*c) (((Hb i j c:Nat):Int)-((0:Nat):Int)) c
     rw [e1,e2]
     exact aL _ rfl
    ·have e:b=(s1.heap.push { cls:=.type "range",data:=.fields #[.int i t,.int j t',.int c t''] }).objs.size:=by simpa using hb
     subst e
     exact I2.NZ (ax _) (I2.fX.fresh (ax _))
theorem OO {g:TG}{tb:TS}{D:ug}{Z:St}{H:Hp}{lo c:Int}{n:Nat}(W:Nat->St->Hp->Prop) (h0:W 0 Z H) (turn:∀ i Z H,i<n->W i Z H->g (.int (lo+i*c)) Z H λσ2 H2=>tb { D with nx:=W (i+1),ct:=W (i+1),bk:=D.nx } σ2 H2)
  (last:∀ Z H,W n Z H->D.nx Z H):∃ W':Nat->Nat->St->Hp->Prop,(∃ m,W' 0 m Z H)/\∀ i m Z H,W' i m Z H ->
   ((Sl lo c n).stop i H/\D.nx Z H)\/((Sl lo c n).go i H/\∃ N:St->Hp->Prop,(∀ σ' H',N σ' H'->∃ m',m'<m/\W' (i+1) m' σ' H')/\∀ x H',(Sl lo c n).QE i H x H'->g x Z H' λσ2 H2=>tb { D with nx:=N,ct:=N,bk:=D.nx } σ2 H2):=by
 refine ⟨λi m Z H=>i<=n/\m=n-i/\W i Z H,⟨n,by omega,by omega,h0⟩,?_⟩
 rintro i m Z H ⟨hi,hm,w⟩
 by_cases h:i=n
 ·subst h
  exact .inl ⟨ax _,last Z H w⟩
 ·refine .inr ⟨show i<n by omega,W (i+1),λσ' H' w'=>⟨n-(i+1),by omega,by omega,rfl,w'⟩,?_⟩
  rintro x H' ⟨rfl,rfl⟩
  exact turn i Z H' (by omega) w
theorem X6 {ta:TA}{Z:St}{H:Hp}{R:It->Hp->Prop}(h:ta Z H λvs H1=>∃ i j c:Int,vs=[.int i,.int j,.int c]/\(-(2^40)<=i/\i<2^40/\-(2^40)<=j/\j<2^40/\0<c/\c<2^20)/\R (Sl i c (Hb i j c)) H1):Va ta Z H R:=h
theorem Q0 {K:aa}{l:ag}{ns:List Int}{k:Int}{H:Hp}{Q:VK}(h:fg K H l (ns.map V.int)) (hk:k∈ns) (q:Q (.int (ns.idxOf k:Nat)) H):sU K (.ref l) [.int k] H Q:=.inl ⟨l,ns,k,rfl,rfl,h,hk,q⟩
end
end L2
namespace L2
end L2
namespace L2
section
variable {K:aa}{H:Hp}{Q:VK}{a:ag}{xs:List V}{ns:List Int}{i i':Int}{j j':Nat}
theorem JX {n d:Nat}(h:i=(j:Int)):HT.LX n d (some i)=min j n:=by subst h;exact HT.XT n d j
theorem MB (h:i=(j:Int)):EB xs (some i) none=xs.drop j:=by
 unfold EB
 rw [JX h,HT.Mm]
 by_cases e:j<=xs.length
 ·rw [yH e,cQ (by rw [dO];omega)]
 ·rw [IJ (by omega),qJ (ax _),qJ (by omega)];simp
theorem JY (h:i=(j:Int)):EB xs none (some i)=xs.take j:=by
 unfold EB
 rw [JX h,HT.Mm,List.drop_zero,Nat.sub_zero]
 by_cases e:j<=xs.length
 ·rw [yH e]
 ·rw [IJ (by omega),cQ (ax _),cQ (by omega)]
theorem X7 (h:i=(j:Int)) (h':i'=(j':Int)):EB xs (some i) (some i')=(xs.drop j).take (j'-j):=by
 unfold EB
 rw [JX h,JX h']
 by_cases e:j<=xs.length
 ·rw [yH e]
  by_cases e':j'<=xs.length
  ·rw [yH e']
  ·rw [IJ (by omega),cQ (by rw [dO];omega),cQ (by rw [dO];omega)]
 ·rw [qJ (show xs.length<=min j xs.length by omega),qJ (show xs.length<=j by omega)];simp
theorem zS (h:fg K H a (ns.map V.int)) (e:i=(j:Int)) (k:∀ p,H p=none->Q (.ref p) (upd H p (.lst ((ns.drop j).map V.int)))):uN K (.ref a) (some i) none H Q :=
 EJ h λp hp=>by rw [MB e,← Ot];exact k p hp
theorem OP (h:fg K H a (ns.map V.int)) (e:i=(j:Int)) (k:∀ p,H p=none->Q (.ref p) (upd H p (.lst ((ns.take j).map V.int)))):uN K (.ref a) none (some i) H Q :=
 EJ h λp hp=>by rw [JY e,← vG];exact k p hp
theorem Q1 (h:fg K H a (ns.map V.int)) (e:i=(j:Int)) (e':i'=(j':Int)) (k:∀ p,H p=none->Q (.ref p) (upd H p (.lst (((ns.drop j).take (j'-j)).map V.int)))):uN K (.ref a) (some i) (some i') H Q :=
 EJ h λp hp=>by rw [X7 e e',← Ot,← vG];exact k p hp
theorem EN {l b:ag}{ms:List Int}(h:H l=some (.lst (ns.map V.int))) (h':H b=some (.lst (ms.map V.int))) (hl:ns.length+ms.length<=100000) (k:∀ p,H p=none->Q (.ref p) (upd H p (.lst ((ns++ms).map V.int)))):hZ (.ref l) (.ref b) H Q :=
 U0 h h' (by rw [aj,aj];exact bA hl) λp hp=>by rw [← br];exact k p hp
theorem X8 {j:Nat}{v:Int}(h:ns[j]?=some v):(ns.map V.int)[j]?=some (.int v):=by rw [aG,h];rfl
theorem MC {v:Int}(h:fg K H a (ns.map V.int)) (e:i=(j:Int)) (g:ns[j]?=some v) (k:Q (.int v) H):gA K (.ref a) (.int i) H Q:=oz h (fG e (X8 g)) k
theorem OQ (h:fg K H a (ns.map V.int)) (k:Q (.int ns.length) H):Ha K [.ref a] H Q:=JU h (by rw [aj];exact k)
end
end L2
namespace L2
section
variable {K:aa}{Z:St}{H:Hp}{Q:VK}
theorem Vb {σ0:St}{g:TG}{te:TE}{J:It}{n:Nat}{acc:ag}{R:Hp->Prop}(E:Nat->V->Hp->Prop) (X:Nat->V->Prop) (S:St->Prop) (ha:H acc=none) (s0:S σ0) (hn:n<=100000)
  (hgo:∀ i H',cB H H'->i<n->J.go i H') (hstop:∀ H',cB H H'->J.stop n H') (hy:∀ i H' x H2,cB H H'->i<n->J.QE i H' x H2->H2=H'/\X i x)
  (st:∀ i y H1 H2 zs,H1 acc=some (.lst zs)->bS acc H1 H2->E i y H1->E i y H2)
  (turn:∀ (i:Nat) (x:V) (σ':St) (H':Hp) (G:V->St->Hp->Prop),i<n->X i x->cB H H'->S σ'->(∀ y σ2 H5,S σ2->cB H' H5->E i y H5->G y σ2 H5)->g x σ' H' λσ2 H3=>te σ2 H3 λy H5=>G y σ2 H5)
  (fin:∀ ys H',ys.length=n->H' acc=some (.lst ys)->cB H H'->(∀ i y,ys[i]?=some y->E i y H')->R H') :
  ∃ W:Nat->Nat->List V->St->Hp->Prop,(∃ m,W 0 m [] σ0 (upd H acc (.lst [])))/\∀ i m ys σ' H',W i m ys σ' H'->H' acc=some (.lst ys) /\
  ((J.stop i H'/\R H')\/(J.go i H'/\∀ x H2,J.QE i H' x H2->g x σ' H2 λσ2 H3=>Bk σ2 H3 λb H4 =>
   if b=true then te σ2 H4 λy H5=>H5 acc=some (.lst ys)/\ys.length<bf/\∃ m',m'<m/\W (i+1) m' (ys++[y]) σ2 (upd H5 acc (.lst (ys++[y]))) else ∃ m',m'<m/\W (i+1) m' ys σ2 H4)):=by
 refine rJ (n:=n) (tt:=Bk) (λi ys H'=>ys.length=i/\H' acc=some (.lst ys)/\cB H H'/\∀ j y,ys[j]?=some y->E j y H') S ⟨rfl,aM,cB.dG ha,λj y e=>by simp at e⟩ s0 ?_ ?_ ?_ ?_
 ·rintro i ys H' ⟨_,h,_⟩;exact h
 ·rintro ys H' ⟨e,h,S',hE⟩
  exact ⟨hstop H' S',fin ys H' e h S' hE⟩
 ·rintro i ys H' hi ⟨e,h,S',hE⟩
  exact hgo i H' S' hi
 ·rintro i ys σ' H' x H2 hi ⟨e,h,S',hE⟩ hσ hyl
  obtain ⟨rfl,hX⟩:=hy i H' x H2 S' hi hyl
  have z:=turn i x σ' H2 (λy σ2 H5=>H5 acc=some (.lst ys)/\ys.length<bf/\∃ m',m'<n-i/\oC n (i+1) S (λys H'=>ys.length=i+1/\H' acc=some (.lst ys)/\cB H H'/\∀ j y,ys[j]?=some y->E j y H') m' (ys++[y]) σ2 (upd H5 acc (.lst (ys++[y])))) hi hX S' hσ ?_
  ·exact z
  ·intro y σ2 H5 h2 S5 hE5
   refine ⟨S5 _ _ h,iP (m:=100000) (by omega),oC.mk' hi h2 ⟨by rw [bN,e];rfl,aM,λb o q=>by rw [aJ (aP q ha)];exact S5 _ _ (S' _ _ q),λj v hv=>?_⟩⟩
   have hb:bS acc H5 (upd H5 acc (.lst (ys++[y]))):=bS.upd
   by_cases hj:j<ys.length
   ·rw [ij hj] at hv
    exact st j v _ _ _ (S5 _ _ h) hb (st j v _ _ _ h (bS.same S5) (hE j v hv))
   ·rw [fO (by omega)] at hv
    have ej:j=i:=by
     by_cases z:j-ys.length=0
     ·omega
     ·rw [cM (by simp;omega)] at hv;cases hv
    subst ej
    rw [e,Nat.sub_self] at hv
    have ev:y=v:=by simpa using hv
    subst ev
    exact st j y _ _ _ (S5 _ _ h) hb hE5
theorem MD {σ0:St}{g:TG}{te:TE}{z acc:ag}{xs:List V}{R:Hp->Prop}(E:Nat->V->Hp->Prop) (S:St->Prop) (hz:fg K H z xs) (ha:H acc=none) (s0:S σ0) (hn:xs.length<=100000)
  (st:∀ i y H1 H2 zs,H1 acc=some (.lst zs)->bS acc H1 H2->E i y H1->E i y H2)
  (turn:∀ (i:Nat) (x:V) (σ':St) (H':Hp) (G:V->St->Hp->Prop),i<xs.length->xs[i]?=some x->cB H H'->S σ'->(∀ y σ2 H5,S σ2->cB H' H5->E i y H5->G y σ2 H5)->g x σ' H' λσ2 H3=>te σ2 H3 λy H5=>G y σ2 H5)
  (fin:∀ ys H',ys.length=xs.length->H' acc=some (.lst ys)->cB H H'->(∀ i y,ys[i]?=some y->E i y H')->R H') :
  ∃ W:Nat->Nat->List V->St->Hp->Prop,(∃ m,W 0 m [] σ0 (upd H acc (.lst [])))/\∀ i m ys σ' H',W i m ys σ' H'->H' acc=some (.lst ys) /\
  (((Ug K z).stop i H'/\R H')\/((Ug K z).go i H'/\∀ x H2,(Ug K z).QE i H' x H2->g x σ' H2 λσ2 H3=>Bk σ2 H3 λb H4 =>
   if b=true then te σ2 H4 λy H5=>H5 acc=some (.lst ys)/\ys.length<bf/\∃ m',m'<m/\W (i+1) m' (ys++[y]) σ2 (upd H5 acc (.lst (ys++[y]))) else ∃ m',m'<m/\W (i+1) m' ys σ2 H4)) :=
 Vb E (λi x=>xs[i]?=some x) S ha s0 hn (λi H' S' h=>⟨xs,_,S'.seq hz,aD h⟩) (λH' S'=>⟨xs,S'.seq hz,ax _⟩) (λi H' x H2 S' _ h=>⟨h.1,h.2 xs (S'.seq hz)⟩) st turn fin
end
end L2
namespace Sx
open PySem PySem.W PyProof.Rows
variable {n:Nat}{k:Nat->Int}
def Sat (n:Nat) (k:Nat->Int) {α:Type}:KasT α->(α->Prop)->Prop
 | .ret a,Q=>Q a
 | .ask i j f,Q=>i<n/\j<n/\Sat n k (f (decide (k i<k j))) Q
theorem Sat.bind {α β:Type} {f:α->KasT β}{Q:β->Prop}:∀ {t:KasT α},Sat n k t (λa=>Sat n k (f a) Q)->Sat n k (t.bind f) Q
 | .ret _,h=>h
 | .ask _ _ _,h=>⟨h.1,h.2.1,Sat.bind h.2.2⟩
theorem Sat.mono {α:Type} {Q Q':α->Prop}(hq:∀ a,Q a->Q' a):∀ {t:KasT α},Sat n k t Q->Sat n k t Q'
 | .ret _,h=>hq _ h
 | .ask _ _ _,h=>⟨h.1,h.2.1,Sat.mono hq h.2.2⟩
def Pm (n:Nat) (p:Array Nat):Prop:=p.toList.Perm (fM n)
theorem Pm.size {p:Array Nat}(h:Pm n p):p.size=n:=by have:=h.length_eq;simpa using this
theorem Pm.lt {p:Array Nat}(h:Pm n p) (hn:0<n) (i:Nat):p.getD i 0<n:=by
 by_cases hi:i<p.size
 ·have e:p.getD i 0=p[i]:=by simp [uc,hi]
  rw [e]
  have:p[i]∈fM n:=h.mem_iff.mp (by simp)
  simpa using this
 ·have e:p.getD i 0=0:=by simp [uc,hi]
  omega
def Ky (k:Nat->Int) (p:Array Nat) (i:Nat):Int:=k (p.getD i 0)
theorem Ky.congr {p q:Array Nat}{i j:Nat}(h:p[i]?=q[j]?):Ky k p i=Ky k q j:=by
 unfold Ky
 have e:∀ (r:Array Nat) (a:Nat),r.getD a 0=(r[a]?).getD 0:=λr a=>by by_cases h:a<r.size<;>simp [uc,h]
 rw [e,e,h]
theorem Pm.rev {p:Array Nat}(h:Pm n p) (i j:Nat):Pm n (RO p i j):=(LL.mp (mirror_perm p i j _)).trans h
theorem Pm.bub {p:Array Nat}(h:Pm n p) (i j:Nat):Pm n (bubble p i j):=(LL.mp (bubble_perm p i j)).trans h
theorem OR {p:Array Nat}{a b:Nat}(hb:b<=p.size) (i:Nat):Ky k (RO p a b) i=if a<=i/\i<b then Ky k p (a+b-1-i) else Ky k p i:=by
 have e:=getElem?_mirror_all (i:=a) hb i
 split
 ·rename_i h;rw [if_pos h] at e;exact Ky.congr e
 ·rename_i h;rw [if_neg h] at e;exact Ky.congr e
theorem JZ {p:Array Nat}{a b:Nat}(hb:b<=p.size) (h:∀ i,a<=i->i+1<b->Ky k p i=Ky k p (i+1)) (i:Nat):Ky k (RO p a b) i=Ky k p i:=by
 have all:∀ d i,a<=i->i+d<b->Ky k p i=Ky k p (i+d):=λd=>by
  induction d with
  | zero=>intro i _ _;rfl
  | succ d ih=>intro i h1 h2;rw [ih i h1 (by omega),h (i+d) (by omega) (by omega)];rfl
 rw [OR hb]
 split
 ·rename_i z
  by_cases c:a+b-1-i<=i
  ·have:=all (i-(a+b-1-i)) (a+b-1-i) (by omega) (by omega)
   rw [this];congr 1;omega
  ·have:=all (a+b-1-i-i) i (by omega) (by omega)
   rw [this];congr 1;omega
 ·rfl
def Up (k:Nat->Int) (p:Array Nat) (m:Nat):Prop:=∀ i,i+1<m->Ky k p i<=Ky k p (i+1)
def Dn (k:Nat->Int) (p:Array Nat) (m:Nat):Prop:=∀ i,i+1<m->Ky k p (i+1)<=Ky k p i
theorem Up.le {p:Array Nat}{m:Nat}(h:Up k p m) {i j:Nat}(hij:i<=j) (hj:j<m):Ky k p i<=Ky k p j:=by
 induction j with
 | zero =>
  have:i=0:=by omega
  subst this;exact Int.le_refl _
 | succ j ih =>
  by_cases e:i=j+1
  ·subst e;exact Int.le_refl _
  ·exact Int.le_trans (ih (by omega) (by omega)) (h j hj)
theorem Up.one {p:Array Nat}{m:Nat}(hm:m<=1):Up k p m:=λi hi=>absurd hi (by omega)
theorem J0 {p:Array Nat}(hp:Pm n p) (hn:0<n):∀ (f m:Nat),1<=m->m+f<=n->Up k p m->Sat n k (kas_asc p f m) λm'=>m<=m'/\m'<=m+f/\Up k p m'/\(m'<m+f->Ky k p m'<Ky k p (m'-1))
 | 0,m,_,_,h=>⟨ax _,ax _,h,λz=>absurd z (by omega)⟩
 | f+1,m,h1,h2,h=>by
  refine ⟨hp.lt hn _,hp.lt hn _,?_⟩
  by_cases c:k (p.getD m 0)<k (p.getD (m-1) 0)
  ·rw [decide_eq_true c]
   exact ⟨ax _,by omega,h,λ_=>c⟩
  ·rw [decide_eq_false c]
   refine Sat.mono (λm' z=>⟨by omega,by omega,z.2.2.1,λw=>z.2.2.2 (by omega)⟩) (J0 hp hn f (m+1) (by omega) (by omega) λi hi=>?_)
   by_cases e:i+1=m
   ·subst e
    have:Ky k p i=k (p.getD (i+1-1) 0):=rfl
    have:Ky k p (i+1)=k (p.getD (i+1) 0):=rfl
    omega
   ·exact h i (by omega)
structure aaI (n:Nat) (k:Nat->Int) (p:Array Nat) (m q:Nat):Prop where
 pm:Pm n p
 dn:Dn k p m
 le:q+1<=m
 eq:∀ i,m-(q+1)<=i->i+1<m->Ky k p i=Ky k p (i+1)
theorem zT (hn:0<n):∀ (f:Nat) (p:Array Nat) (m q:Nat),1<=m->m+f<=n->aaI n k p m q->Sat n k (kas_desc f p m q) λr=>m<=r.2.1/\r.2.1<=m+f/\aaI n k r.1 r.2.1 r.2.2
 | 0,p,m,q,_,_,h=>⟨ax _,ax _,h⟩
 | f+1,p,m,q,h1,h2,h=>by
  refine ⟨h.pm.lt hn _,h.pm.lt hn _,?_⟩
  by_cases c:k (p.getD m 0)<k (p.getD (m-1) 0)
  ·rw [decide_eq_true c]
   show Sat n k (if q>0 then _ else _) _
   have hc:Ky k p m<=Ky k p (m-1):=TU c
   by_cases hq:q>0
   ·rw [if_pos hq]
    have sm:∀ i,Ky k (RO p (m-(q+1)) m) i=Ky k p i:=JZ (by rw [h.pm.size];omega) h.eq
    refine Sat.mono (λr z=>⟨by omega,by omega,z.2.2⟩) (zT hn f _ (m+1) 0 (by omega) (by omega) ⟨h.pm.rev _ _,λi hi=>?_,by omega,λi h3 h4=>absurd h4 (by omega)⟩)
    rw [sm,sm]
    by_cases e:i+1=m
    ·subst e;exact hc
    ·exact h.dn i (by omega)
   ·rw [if_neg hq]
    refine Sat.mono (λr z=>⟨by omega,by omega,z.2.2⟩) (zT hn f _ (m+1) 0 (by omega) (by omega) ⟨h.pm,λi hi=>?_,by omega,λi h3 h4=>absurd h4 (by omega)⟩)
    by_cases e:i+1=m
    ·subst e;exact hc
    ·exact h.dn i (by omega)
  ·rw [decide_eq_false c]
   refine ⟨h.pm.lt hn _,h.pm.lt hn _,?_⟩
   by_cases d:k (p.getD (m-1) 0)<k (p.getD m 0)
   ·rw [decide_eq_true d]
    exact ⟨ax _,lg m (f+1),h⟩
   ·rw [decide_eq_false d]
    have he:Ky k p m=Ky k p (m-1):=by
     have e1:Ky k p m=k (p.getD m 0):=rfl
     have e2:Ky k p (m-1)=k (p.getD (m-1) 0):=rfl
     omega
    have hle:=h.le
    refine Sat.mono (λr z=>⟨by omega,by omega,z.2.2⟩) (zT hn f p (m+1) (q+1) (by omega) (by omega) ⟨h.pm,λi hi=>?_,by omega,λi h3 h4=>?_⟩)
    ·by_cases e:i+1=m
     ·subst e;exact Int.le_of_eq he
     ·exact h.dn i (by omega)
    ·by_cases e:i+1=m
     ·subst e;exact he.symm
     ·exact h.eq i (by omega) (by omega)
theorem ME {p:Array Nat}{m:Nat}(hn:0<n) (hp:Pm n p) (h1:1<=m) (hm:m<=n) (h:Dn k p m):Sat n k (kas_tail3 m n p) λr=>Pm n r.2/\1<=r.1/\r.1<=n/\Up k r.2 r.1:=by
 refine Sat.bind (Sat.mono (λm' z=>⟨hp.rev _ _,by omega,by omega,z.2.2.1⟩) (J0 (hp.rev 0 m) hn (n-m) m h1 (by omega) λi hi=>?_))
 rw [OR (by rw [hp.size];exact hm),OR (by rw [hp.size];exact hm),if_pos (by omega),if_pos (by omega)]
 have:=h (0+m-1-(i+1)) (by omega)
 have e:0+m-1-(i+1)+1=0+m-1-i:=by omega
 rw [e] at this;exact this
theorem zU {p:Array Nat}{m:Nat}(hn:0<n) (hp:Pm n p) (h1:1<=m) (hm:m+1<=n) (h:Dn k p (m+1)):Sat n k (kas_descPart m n p) λr=>Pm n r.2/\1<=r.1/\r.1<=n/\Up k r.2 r.1:=by
 refine Sat.bind (Sat.mono ?_ (zT hn (n-(m+1)) p (m+1) 0 (by omega) (by omega) ⟨hp,h,by omega,λi h3 h4=>absurd h4 (by omega)⟩))
 rintro ⟨p',m',q'⟩ ⟨a1,a2,a3⟩
 show Sat n k (if q'>0 then _ else _) _
 have a1:m+1<=m':=a1
 have a2:m'<=m+1+(n-(m+1)):=a2
 have a3:aaI n k p' m' q':=a3
 by_cases hq:q'>0
 ·rw [if_pos hq]
  refine ME hn (a3.pm.rev _ _) (by omega) (by omega) λi hi=>?_
  have sm:∀ i,Ky k (RO p' (m'-(q'+1)) m') i=Ky k p' i:=JZ (by rw [a3.pm.size];omega) a3.eq
  rw [sm,sm];exact a3.dn i hi
 ·rw [if_neg hq]
  exact ME hn a3.pm (by omega) (by omega) a3.dn
theorem Sn {p:Array Nat}(hn:0<n) (hp:Pm n p):Sat n k (kas_count n p) λr=>Pm n r.2/\1<=r.1/\r.1<=n/\Up k r.2 r.1:=by
 refine Sat.bind (Sat.mono ?_ (J0 hp hn (n-1) 1 (ax _) (by omega) (Up.one (ax _))))
 rintro m ⟨a1,a2,a3,a4⟩
 show Sat n k (if (m == n)=true then _ else _) _
 by_cases e:m=n
 ·subst e
  rw [if_pos (by simp)]
  exact ⟨hp,a1,ax _,a3⟩
 ·rw [if_neg (by simpa using e)]
  have a4:=a4 (by omega)
  by_cases h1:m>1
  ·rw [if_pos h1]
   refine ⟨hp.lt hn _,hp.lt hn _,?_⟩
   by_cases c:k (p.getD 0 0)<k (p.getD (m-1) 0)
   ·rw [decide_eq_true c]
    exact ⟨hp,a1,by omega,a3⟩
   ·rw [decide_eq_false c]
    have eqs:∀ i,i+1<m->Ky k p i=Ky k p (i+1):=λi hi=>by
     have b1:=a3.le (bG i) (show i<m by omega)
     have b2:=a3 i hi
     have b3:=a3.le (show i+1<=m-1 by omega) (by omega)
     have e1:Ky k p 0=k (p.getD 0 0):=rfl
     have e2:Ky k p (m-1)=k (p.getD (m-1) 0):=rfl
     omega
    have sm:∀ i,Ky k (RO p 0 m) i=Ky k p i:=JZ (by rw [hp.size];omega) λi _ hi=>eqs i hi
    refine zU hn (hp.rev _ _) a1 (by omega) λi hi=>?_
    rw [sm,sm]
    by_cases e3:i+1=m
    ·subst e3;exact TU a4
    ·exact Int.le_of_eq (eqs i (by omega)).symm
  ·rw [if_neg h1]
   have e1:m=1:=by omega
   subst e1
   refine zU hn hp (ax _) (by omega) λi hi=>?_
   have e2:i=0:=by omega
   subst e2
   exact TU a4
theorem Bn {p:Array Nat}{x:Nat}(hn:0<n) (hp:Pm n p) (hx:Up k p x):∀ (f l r:Nat),r-l<=f->l<=r->r<=x->(∀ i,i<l->Ky k p i<=Ky k p x)->(∀ i,r<=i->i<x->Ky k p x<Ky k p i) ->
  Sat n k (kas_place p x f l r) λl'=>l'<=x/\(∀ i,i<l'->Ky k p i<=Ky k p x)/\∀ i,l'<=i->i<x->Ky k p x<Ky k p i
 | 0,l,r,h1,h2,h3,h4,h5=>⟨by omega,h4,λi z1 z2=>h5 i (by omega) z2⟩
 | f+1,l,r,h1,h2,h3,h4,h5=>by
  show Sat n k (if l>=r then _ else _) _
  by_cases c:l>=r
  ·rw [if_pos c]
   exact ⟨by omega,h4,λi z1 z2=>h5 i (by omega) z2⟩
  ·rw [if_neg c]
   refine ⟨hp.lt hn _,hp.lt hn _,?_⟩
   by_cases d:k (p.getD x 0)<k (p.getD ((l+r)/2) 0)
   ·rw [decide_eq_true d]
    refine Bn hn hp hx f l ((l+r)/2) (by omega) (by omega) (by omega) h4 λi z1 z2=>?_
    have b:=hx.le z1 z2
    have d:Ky k p x<Ky k p ((l+r)/2):=d
    omega
   ·rw [decide_eq_false d]
    refine Bn hn hp hx f ((l+r)/2+1) r (by omega) (by omega) h3 (λi z1=>?_) h5
    have b:=hx.le (show i<=(l+r)/2 by omega) (by omega)
    have d:¬ Ky k p x<Ky k p ((l+r)/2):=d
    omega
theorem Vc {p:Array Nat}{x l:Nat}(hx:x<p.size) (hl:l<=x) (i:Nat):Ky k (bubble p x (x-l)) i=if i=l then Ky k p x else if l<i/\i<=x then Ky k p (i-1) else Ky k p i:=by
 have e:=getElem?_bubble hx (x-l) (by omega) i
 have e2:x-(x-l)=l:=by omega
 rw [e2] at e
 by_cases h1:i=l
 ·rw [if_pos h1] at e ⊢;exact Ky.congr e
 ·rw [if_neg h1] at e ⊢
  by_cases h2:l<i/\i<=x
  ·rw [if_pos h2] at e ⊢;exact Ky.congr e
  ·rw [if_neg h2] at e ⊢;exact Ky.congr e
theorem Q2 (hn:0<n):∀ (f:Nat) (p:Array Nat) (x:Nat),x+f=n->Pm n p->Up k p x->Sat n k (kas_bin f p x) λp'=>Pm n p'/\Up k p' n
 | 0,p,x,h1,hp,h=>⟨hp,by rw [← h1];exact h⟩
 | f+1,p,x,h1,hp,h=>by
  refine Sat.bind (Sat.mono ?_ (Bn hn hp h x 0 x (by omega) (bG _) (ax _) (λi z=>absurd z (by omega)) (λi z1 z2=>absurd z2 (by omega))))
  rintro l ⟨a1,a2,a3⟩
  refine Q2 hn f _ (x+1) (by omega) (hp.bub _ _) λi hi=>?_
  have hs:x<p.size:=by rw [hp.size];omega
  rw [Vc hs a1,Vc hs a1]
  by_cases c1:i+1<l
  ·rw [if_neg (by omega),if_neg (by omega),if_neg (by omega),if_neg (by omega)]
   exact h i (by omega)
  ·by_cases c2:i+1=l
   ·rw [if_neg (by omega),if_neg (by omega),if_pos c2]
    exact a2 i (by omega)
   ·by_cases c3:i=l
    ·rw [if_pos c3,if_neg (by omega),if_pos (by omega)]
     have:=a3 i (by omega) (by omega)
     have e:i+1-1=i:=by omega
     rw [e];omega
    ·rw [if_neg c3,if_pos (by omega),if_neg (by omega),if_pos (by omega)]
     have:=h (i-1) (by omega)
     have e:i-1+1=i+1-1:=by omega
     rw [e] at this;exact this
theorem Vd:Pm n (List.toArray (fM n)):=by unfold Pm;simp
theorem MF (hn:0<n):Sat n k (kas_sort n) λp=>Pm n p/\Up k p n:=by
 refine Sat.bind (Sat.mono ?_ (Sn hn Vd))
 rintro ⟨m,p⟩ ⟨a1,a2,a3,a4⟩
 show Sat n k (if m<n then _ else _) _
 have a2:1<=m:=a2
 have a3:m<=n:=a3
 have a4:Up k p m:=a4
 by_cases c:m<n
 ·rw [if_pos c]
  have e:max m 1=m:=by omega
  show Sat n k (kas_bin (n-max m 1) p (max m 1)) _
  rw [e]
  exact Q2 hn (n-m) p m (by omega) a1 a4
 ·rw [if_neg c]
  have:m=n:=by omega
  subst this
  exact ⟨a1,a4⟩
theorem Sat.ask {cmp:Nat->Nat->(Bool->aq->Prop)->aq->Prop}{s:aq}(hc:∀ i j C,i<n->j<n->C (decide (k i<k j)) s->cmp i j C s) {α:Type} {Q:α->Prop}{G:α->aq->Prop}(hG:∀ a,Q a->G a s):∀ {t:KasT α},Sat n k t Q->t.kasWp cmp G s
 | .ret _,h=>hG _ h
 | .ask i j f,h=>hc i j _ h.1 h.2.1 (Sat.ask hc hG h.2.2)
end Sx
namespace L2
open PySem PySem.Spec PyProof.Rows PySem.W
theorem aaJ {h:cg}{a:ag}{m m':aZ->Option ai}(x:h.Ns a m) (y:h.Ns a m'):m=m':=by
 obtain ⟨o,es,ep,e,d,_,r⟩:=x
 obtain ⟨o',es',ep',e',d',_,r'⟩:=y
 rw [e] at e';cases e'
 rw [d] at d';cases d'
 funext n
 rw [← r n,← r' n]
theorem gK.obj {P:a8}{w:bT}{H:Hp}{h:cg}{a:ag}{o:HO}(x:gK P w H h a o):∃ ob,h.get? a=some ob:=by
 cases o with
 | lst xs=>obtain ⟨_,_,_,_,e⟩:=x;exact ⟨_,e⟩
 | tup xs=>obtain ⟨_,_,_,ob,e,_⟩:=x;exact ⟨_,e⟩
 | dK kvs=>obtain ⟨_,_,_,_,ob,_,_,e,_⟩:=x;exact ⟨_,e⟩
 | dT kvs=>obtain ⟨_,_,_,_,ob,_,_,e,_⟩:=x;exact ⟨_,e⟩
 | set S n=>obtain ⟨ob,_,_,_,e,_⟩:=x;exact ⟨_,e⟩
 | ins C dx fs=>obtain ⟨_,_,_,e,_⟩:=x;exact ⟨_,e⟩
 | own y=>exact x
 | xd fs=>obtain ⟨_,⟨ob,_,_,e,_⟩,_⟩:=x;exact ⟨_,e⟩
 | rng lo hi=>obtain ⟨_,_,_,e⟩:=x;exact ⟨_,e⟩
 | frz ob u=>exact ⟨_,x.1⟩
 | tbl ps=>exact ⟨_,x⟩
 | met f y=>exact ⟨_,x⟩
 | ext φ=>exact x.2.1
section
variable {X:Cx}{pins:List (ag×gC)}{Z:St}{H:Hp}{s:aq}
theorem Inv.GM {h':cg}{m:aZ->Option ai}{t':Nat}{D:ag}{ob:gC}{o:HO}(I:Inv X pins Z H s) (hm:s.heap.Ns X.env.locals m) (F:Fr X.base X.env.locals h' m)
  (N:AY X.base X.env.locals h' ((D,ob)::oJ X.base s.heap X.env.locals)) (hD:∀ q∈oJ X.base s.heap X.env.locals,q.1<D) (new:gK X.prog X.w (upd H D o) h' D o):H D=none/\Inv X pins Z (upd H D o) { s with heap:=h',toks:=t' }:=by
 have nd:=N (D,ob) aw
 have gD:s.heap.get? D=none:=by
  cases q:s.heap.get? D with
  | none=>rfl
  | some u=>exact absurd (hD (D,u) (qM nd.2.1 nd.2.2 q)) (gE _)
 have hn:H D=none:=by
  cases q:H D with
  | none=>rfl
  | some u =>
   obtain ⟨w,e⟩:∃ w,s.heap.get? D=some w:=(I.fX D u q).obj
   rw [gD] at e;cases e
 have k:∀ b o,b≠X.env.locals->s.heap.get? b=some o->h'.get? b=some o:=λb o h1 e=>by
  cases q:X.base.get? b with
  | some u =>
   have z:=I.bk b u q
   rw [e] at z
   cases z
   exact F.keep b _ q
  | none=>exact (N (b,o) (ah _ (qM h1 q e))).1
 have nD:∀ b o,s.heap.get? b=some o->b≠D:=λb o e z=>by rw [z,gD] at e;cases e
 have hH:∀ b u,H b=some u->b≠D:=λb u e=>aP e hn
 refine ⟨hn,I.step (g':=s.gens) (d':=s.drawn) (ch:=[]) (λ_ z=>nomatch z) (λb o h1 _ _ e _=>k b o h1 e) (λb o h1 _ _ e _=>⟨o.slots,k b o h1 e⟩) (λb o _ e n=>by rw [aJ (nD b o e)];exact n) (λb o _ e=>?_)
  (λb _ e=>by rw [aJ (hH b _ e)];exact e) (λb _ _ e=>by rw [aJ (hH b _ e)];exact e) (λb ps e=>⟨#[],by rw [aJ (hH b _ e),e];simp⟩) (λm' hm'=>by rw [← aaJ hm hm'];exact F.ns) (λb u e=>?_) I.bare⟩
 ·by_cases hb:b=X.env.locals
  ·subst hb
   obtain ⟨o',_,_,e',_⟩:=F.ns
   exact ⟨o',e'⟩
  ·exact ⟨o,k b o hb e⟩
 ·by_cases hb:b=D
  ·subst hb
   rw [aM] at e
   cases e
   exact new
  ·rw [aJ hb] at e
   refine (I.fX b u e).yb (λc v hc q=>k c v ?_ q) (λc q=>by rw [aJ (hH c _ q)];exact q) λc _ q=>by rw [aJ (hH c _ q)];exact q
   rintro rfl
   rcases hc with hc|hc
   ·rw [← hc,I.free] at e;cases e
   ·rw [I.free] at hc;cases hc
end
theorem MG {α:Type} {p q:α->Bool}:∀ {l:List α}{x:α},(∀ y∈l,p y=true->q y=true)->x∈l->p x=false->q x=true->l.countP p<l.countP q
 | y::l,x,h,hx,h1,h2=>by
  have hl:∀ y∈l,p y=true->q y=true:=λy hy=>h y (ah _ hy)
  have hle:l.countP p<=l.countP q:=TV hl
  rw [ZP,ZP]
  rcases ay.mp hx with e|hx
  ·subst e
   rw [h1,h2]
   simp
   omega
  ·have hlt:=MG hl hx h1 h2
   by_cases hp:p y=true
   ·rw [if_pos hp,if_pos (h y aw hp)];omega
   ·rw [if_neg hp];omega
abbrev Zt:=Int×Int×ag
def zP (z:Zt):Int×Int:=(z.1,z.2.1)
def mY (z:Zt):V:=.ref z.2.2
def jh (H:Hp) (z:Zt):Prop:=H z.2.2=some (.tup [.int z.1,.int z.2.1])
section
variable {prog:a8}{w:bT}{A:bZ}{s:aq}
end
end L2
namespace L2
open PySem PySem.Spec PyProof.Rows PySem.W
theorem Jg:∀ zs:List Zt,Vals (zs.map mY) (zs.map λz=>aE z.2.2)
 | []=>.nil
 | z::zs=>.cons rfl (Jg zs)
theorem OS {α:Type} (l:List α) (d:α):(fM l.length).map (λi=>l.getD i d)=l:=by
 apply jL
 intro i
 rw [aG]
 by_cases h:i<l.length
 ·rw [W9 h,aD h];simp [h]
 ·rw [cM (by simp;omega),cM (by omega)];rfl
section
variable {X:Cx}
theorem J1 {prog:a8}{w:bT}{A:bZ}{E:ai->aq->Prop}{s:aq}{l:ag}{vs:List ai}{Q:ai->aq->Prop}(hl:s.heap.IsList l vs.toArray) (h2:vs.length<2)
  (h:Q (.ref (s.heap.objs.size+1)) { s with heap:=sortedAll s.heap vs vs.toArray }):aK (aY prog w) A (call (.builtin "sorted") [.ref l]) Q E s:=by
 have hz:vs.length<=bf:=bA (m:=2) (by omega)
 refine L0 kind_sorted YX YY (args_sorted1 _) (ae (m:=checkCount "sorted" 1 1 _) (av (ae (collect_list hl (ae (yi ?_ hz)) hz))))
 have e1:((s.heap.push (bL "list" #[] 0)).update s.heap.objs.size (bu (·++vs.toArray))).objs.size=s.heap.objs.size+1:=(rE ..).trans (size_push' ..)
 have g1:(((s.heap.push (bL "list" #[] 0)).update s.heap.objs.size (bu (·++vs.toArray))).push (bL "list" vs.toArray 0)).get? (s.heap.objs.size+1)=some (bL "list" vs.toArray 0):=e1▸aL _ rfl
 have e0:(bL "list" vs.toArray 0:gC)={ cls:=.type "list",data:=.seq vs.toArray }:=rfl
 have hlt:s.heap.objs.size+1<(((s.heap.push (bL "list" #[] 0)).update s.heap.objs.size (bu (·++vs.toArray))).push (bL "list" vs.toArray 0)).objs.size:=aI g1
 show aK (aY prog w) A.in1 (do let _ ← qH [aE ((s.heap.push (bL "list" #[] 0)).update s.heap.objs.size (bu (·++vs.toArray))).objs.size] (call (.builtin "list.sort") [aE ((s.heap.push (bL "list" #[] 0)).update s.heap.objs.size (bu (·++vs.toArray))).objs.size]);ret (aE ((s.heap.push (bL "list" #[] 0)).update s.heap.objs.size (bu (·++vs.toArray))).objs.size)) _ _ { s with heap:=((s.heap.push (bL "list" #[] 0)).update s.heap.objs.size (bu (·++vs.toArray))).push (bL "list" vs.toArray 0) }
 rw [e1]
 generalize hh:((s.heap.push (bL "list" #[] 0)).update s.heap.objs.size (bu (·++vs.toArray))).push (bL "list" vs.toArray 0)=hp at g1 hlt
 unfold sortedAll at h
 rw [hh] at h
 refine ae (cF (dZ TX ⟨_,g1,rfl⟩ QJ ?_ (args_list_sort _)))
 rw [list_sort_plain]
 obtain ⟨c1,g2⟩:∃ c1,(hp.update (s.heap.objs.size+1) (bu λ_=>#[])).get? (s.heap.objs.size+1)=some (bL "list" #[] c1):=⟨_,uH g1 λ_=>#[]⟩
 refine ae (vq g1 rfl (ae (tO g1 rfl (ae (seqEpoch_at g2 rfl (ae (DS (ae (yi (cF ?_) (bG _))) hz)))) (by rw [aV];exact hz) (bG _))))
 have g6:(((hp.update (s.heap.objs.size+1) (bu λ_=>#[])).push (bL "tuple" vs.toArray 0)).push (bL "list" #[] 0)).get? (s.heap.objs.size+1)=some (bL "list" #[] c1):=au _ (au _ g2)
 have hn:vs.toArray.size<2:=by rw [aV];exact h2
 show aK (aY prog w) A.in1.in1 _ _ _ { s with heap:=((hp.update (s.heap.objs.size+1) (bu λ_=>#[])).push (bL "tuple" vs.toArray 0)).push (bL "list" #[] 0) }
 dsimp only
 rw [if_pos hn,if_pos hn]
 refine ae (av ?_)
 rw [YZ]
 refine ae (av ?_)
 dsimp only
 have es:(arrOf (SortSt.mk' general' (vs.toArray.zip vs.toArray) #[] 7 none)).map (·.2)=vs.toArray:=by
  show (vs.toArray.zip vs.toArray).map (·.2)=vs.toArray
  apply Y0.mp
  simp
  exact ZQ (ax _)
 rw [es]
 refine ae (seqEpoch_at g6 rfl (ae (tO g6 rfl ?_ (bG _) (by rw [aV];exact GT hz))))
 simp only [bne_self_eq_false,cC,if_false]
 exact av ⟨_,rfl,av ⟨_,rfl,h⟩⟩
end
section
variable {X:Cx}
end
end L2
namespace Zl
open PySem PySem.W PyProof.Rows
section
variable {prog:a8}{w:bT}{A:bZ}{E:ai->aq->Prop}{s:aq}{z TI TO i1 i2 l1 l2:ag}{xs ys:Array ai}{k:Nat}
abbrev EO (h:cg) (z TI TO T:ag) (f:Bool):Prop:=h.get? z=some { cls:=.type "zip",dict:=none,data:=.fields #[cO T,.bool f,.bool false,.ref TI,.ref TO],slots:=#[] }
theorem MH {T:ag}{f:Bool}{oT:gC}{Q:Bool->aq->Prop}(hz:EO s.heap z TI TO T f) (hT:s.heap.get? T=some oT)
  (hQ:∀ h',EO h' z TI TO T true->je z s.heap h'->Q false { s with heap:=h' }):aK (aY prog w) A (iE (.ref z)) Q E s:=by
 unfold iE
 refine ae (xP hz rfl (x:=cO T) rfl ?_)
 unfold cO
 dsimp only
 refine ae (kdx_alive (a:=T) hT ?_)
 simp only [Uq,cC,if_false]
 refine ae (xP hz rfl (x:=.bool f) rfl ?_)
 cases f with
 | true =>
  rw [if_neg (by decide)]
  exact av (hQ s.heap hz ⟨rfl,λb hb=>rfl⟩)
 | false =>
  rw [if_pos (by decide)]
  exact ae (wpAny_setField_rec hz (by simp) λh' hz' hs'=>av (hQ h' hz' hs'))
theorem Ve {T:ag}{f:Bool}{oT:gC}{x y:ai}{Q:ai->aq->Prop}(D:DT z TI TO i1 i2 l1 l2) (hz:EO s.heap z TI TO T f) (hT:s.heap.get? T=some oT) (hTI:yj s.heap TI (.ref i1) (.ref i2))
  (h1:s.heap.IsListIter i1 l1 k) (h2:s.heap.IsListIter i2 l2 k) (hl1:s.heap.IsList l1 xs) (hl2:s.heap.IsList l2 ys) (hx:xs[k]?=some x) (hy:ys[k]?=some y)
  (hQ:∀ h',EO h' z TI TO T true->h'.IsListIter i1 l1 (k+1)->h'.IsListIter i2 l2 (k+1)->yj h' s.heap.objs.size x y ->
   (∀ c o,c≠z->c≠i1->c≠i2->s.heap.get? c=some o->h'.get? c=some o)->Q (.ref s.heap.objs.size) { s with heap:=h' }) :
  aK (aY prog w) A (lO.«zip.__next__» ⟨[.ref z],[]⟩) (λfin s'=>∃ v,fin=.done (.ret v)/\Q v s') E s:=by
 show aK _ _ (field (.ref z) 2 >>= _) _ _ _
 refine ae (xP hz rfl (x:=.bool false) rfl ?_)
 show aK _ _ (field (.ref z) 3 >>= _) _ _ _
 refine ae (xP hz rfl (x:=.ref TI) rfl (ae (wpAny_seqItems hTI rfl ?_)))
 show aK _ _ (iE (.ref z) >>= _) _ _ _
 refine ae (MH hz hT λh₀ z₀ s₀=>?_)
 simp only [cC,if_false]
 refine ae ?_
 rw [← Xa]
 simp only [yh,zD]
 refine ae (ae (cF ?_))
 show aK _ _ (lh (.ref i1) >>= _) _ _ _
 refine ae (A3 (s:={ s with heap:=h₀ }) (h1.extBut s₀.extBut D.i1z) (hl1.extBut s₀.extBut D.l1z) hx λh₁ j₁ s₁=>av (av ?_))
 refine ae (ae (cF ?_))
 show aK _ _ (lh (.ref i2) >>= _) _ _ _
 refine ae (A3 (s:={ s with heap:=h₁ }) ((h2.extBut s₀.extBut D.i2z).extBut s₁.extBut D.i12.symm) ((hl2.extBut s₀.extBut D.l2z).extBut s₁.extBut D.l2i1) hy λh₂ j₂ s₂=>av (av (av ?_)))
 have sz:h₂.objs.size=s.heap.objs.size:=by rw [s₂.1,s₁.1,s₀.1]
 have zz:EO h₂ z TI TO T true:=s₂.extBut _ _ D.i2z.symm (s₁.extBut _ _ D.i1z.symm z₀)
 have kp:∀ c o,c≠z->c≠i1->c≠i2->s.heap.get? c=some o->h₂.get? c=some o:=λc o c1 c2 c3 e=>s₂.extBut _ _ c3 (s₁.extBut _ _ c2 (s₀.extBut _ _ c1 e))
 refine ae (DS ?_ (by show 2<=bf;exact L2.bA (m:=2) (ax 2)))
 refine av ⟨_,rfl,?_⟩
 show Q (.ref h₂.objs.size) { s with heap:=h₂.push { cls:=.type "tuple",data:=.seq #[x,y] } }
 rw [sz]
 refine hQ _ (au _ zz) ((Heap.IsListIter.extBut j₁ s₂.extBut D.i12).at λo e=>au _ e) (j₂.at λo e=>au _ e) (by rw [← sz];exact aL _ rfl) λc o c1 c2 c3 e=>au _ (kp c o c1 c2 c3 e)
theorem X9 {T:ag}{f:Bool}{oT:gC}{Q:PySem.Fin->aq->Prop}(hh:A.handled=none) (D:DT z TI TO i1 i2 l1 l2) (hz:EO s.heap z TI TO T f) (hT:s.heap.get? T=some oT) (hTI:yj s.heap TI (.ref i1) (.ref i2))
  (h1:s.heap.IsListIter i1 l1 k) (h2:s.heap.IsListIter i2 l2 k) (hl1:s.heap.IsList l1 xs) (hl2:s.heap.IsList l2 ys) (hend:xs[k]?=none\/ys[k]?=none)
  (hE:∀ h' e,(∀ c o,c≠z->c≠i1->c≠i2->s.heap.get? c=some o->h'.get? c=some o)->(∃ o,h'.get? e=some o/\o.cls=.type "StopIteration")->E (.ref e) { s with heap:=h' }) :
  aK (aY prog w) A (lO.«zip.__next__» ⟨[.ref z],[]⟩) Q E s:=by
 show aK _ _ (field (.ref z) 2 >>= _) _ _ _
 refine ae (xP hz rfl (x:=.bool false) rfl ?_)
 show aK _ _ (field (.ref z) 3 >>= _) _ _ _
 refine ae (xP hz rfl (x:=.ref TI) rfl (ae (wpAny_seqItems hTI rfl ?_)))
 show aK _ _ (iE (.ref z) >>= _) _ _ _
 refine ae (MH hz hT λh₀ z₀ s₀=>?_)
 simp only [cC,if_false]
 refine ae ?_
 rw [← Xa]
 simp only [yh,zD]
 refine ae (ae (cF ?_))
 show aK _ _ (lh (.ref i1) >>= _) _ _ _
 cases hx:xs[k]? with
 | none=>exact ae (ZR (s:={ s with heap:=h₀ }) hh (h1.extBut s₀.extBut D.i1z) (hl1.extBut s₀.extBut D.l1z) hx λh₁ e s₁ he=>hE h₁ e (λc o c1 c2 c3 q=>s₁ _ _ c2 (s₀.extBut _ _ c1 q)) he)
 | some x =>
  have hy:ys[k]?=none:=by rcases hend with q|q;rw [hx] at q;cases q;exact q
  refine ae (A3 (s:={ s with heap:=h₀ }) (h1.extBut s₀.extBut D.i1z) (hl1.extBut s₀.extBut D.l1z) hx λh₁ j₁ s₁=>av (av ?_))
  refine ae (ae (cF ?_))
  show aK _ _ (lh (.ref i2) >>= _) _ _ _
  exact ae (ZR (s:={ s with heap:=h₁ }) hh ((h2.extBut s₀.extBut D.i2z).extBut s₁.extBut D.i12.symm) ((hl2.extBut s₀.extBut D.l2z).extBut s₁.extBut D.l2i1) hy λh₂ e s₂ he =>
   hE h₂ e (λc o c1 c2 c3 q=>s₂ _ _ c3 (s₁.extBut _ _ c2 (s₀.extBut _ _ c1 q))) he)
structure ZS (h:cg) (z TI TO i1 i2 l1 l2 S:ag) (xs ys:Array ai) (k:Nat):Prop where
 zz:(k=0/\IsZip h z TI TO .none/\∃ a b,yj h TO a b)\/∃ T f oT,EO h z TI TO T f/\h.get? T=some oT/\T≠z/\T≠i1/\T≠i2/\T≠S
 ti:yj h TI (.ref i1) (.ref i2)
 a1:h.IsListIter i1 l1 k
 a2:h.IsListIter i2 l2 k
 b1:h.IsList l1 xs
 b2:h.IsList l2 ys
structure Off (z TI TO i1 i2 l1 l2 S:ag):Prop where
 z:z≠S
 ti:TI≠S
 to:TO≠S
 i1:i1≠S
 i2:i2≠S
 l1:l1≠S
 l2:l2≠S
theorem ZS.keep {h h':cg}{S:ag}(x:ZS h z TI TO i1 i2 l1 l2 S xs ys k) (O:Off z TI TO i1 i2 l1 l2 S) (hk:∀ b o,b≠S->h.get? b=some o->h'.get? b=some o):ZS h' z TI TO i1 i2 l1 l2 S xs ys k where
 zz:=by
  rcases x.zz with ⟨e,hz,a,b,hp⟩|⟨T,f,oT,hz,hT,n1,n2,n3,n4⟩
  ·exact .inl ⟨e,hk _ _ O.z hz,a,b,hk _ _ O.to hp⟩
  ·exact .inr ⟨T,f,oT,hk _ _ O.z hz,hk _ _ n4 hT,n1,n2,n3,n4⟩
 ti:=hk _ _ O.ti x.ti
 a1:=x.a1.at λo e=>hk _ o O.i1 e
 a2:=x.a2.at λo e=>hk _ o O.i2 e
 b1:=x.b1.at λo e=>hk _ o O.l1 e
 b2:=x.b2.at λo e=>hk _ o O.l2 e
theorem ZS.item {S:ag}{x y:ai}{Q:Option ai->aq->Prop}(D:DT z TI TO i1 i2 l1 l2) (st:ZS s.heap z TI TO i1 i2 l1 l2 S xs ys k) (hS:S<s.heap.objs.size) (hx:xs[k]?=some x) (hy:ys[k]?=some y)
  (hQ:∀ h',ZS h' z TI TO i1 i2 l1 l2 S xs ys (k+1)->yj h' s.heap.objs.size x y->(∀ c o,c≠z->c≠TO->c≠i1->c≠i2->s.heap.get? c=some o->h'.get? c=some o)->Q (some (.ref s.heap.objs.size)) { s with heap:=h' }) :
  aK (aY prog w) A (la (.ref z)) Q E s:=by
 have lt1:i1<s.heap.objs.size:=by obtain ⟨_,e,_⟩:=st.a1;exact aI e
 have lt2:i2<s.heap.objs.size:=by obtain ⟨_,e,_⟩:=st.a2;exact aI e
 rcases st.zz with ⟨e,hz,a,b,hp⟩|⟨T,f,oT,hz,hT,n1,n2,n3,n4⟩
 ·refine wpAny_pyNext_zip_item D hz st.ti hp st.a1 st.a2 st.b1 st.b2 hx hy λh' q1 q2 q3 q4 q5 q6 q7=>?_
  refine hQ h' ⟨.inr ⟨_,false,_,q1,q5,fY (aI hz),fY lt1,fY lt2,fY hS⟩,q7 _ _ D.TIz D.TITO D.TIi1 D.TIi2 st.ti,q3,q4,st.b1.at λo e=>q7 _ o D.l1z D.l1TO D.l1i1 D.l1i2 e,st.b2.at λo e=>q7 _ o D.l2z D.l2TO D.l2i1 D.l2i2 e⟩ q5 q7
 ·have ty:s.TypeIs (.ref z) "zip":=⟨_,hz,rfl⟩
  unfold la
  refine ae (iU (fQ (name:=gJ "__next__") ty F.slot_zip_next (dZ F.slot_zip_next ty F.entry_zip_next
   (Ve D hz hT st.ti st.a1 st.a2 st.b1 st.b2 hx hy λh' q1 q3 q4 q5 q7=>av ?_) (F.args_zip_next_1 _))))
  refine hQ h' ⟨.inr ⟨T,true,oT,q1,q7 _ _ n1 n2 n3 hT,n1,n2,n3,n4⟩,q7 _ _ D.TIz D.TIi1 D.TIi2 st.ti,q3,q4,st.b1.at λo e=>q7 _ o D.l1z D.l1i1 D.l1i2 e,st.b2.at λo e=>q7 _ o D.l2z D.l2i1 D.l2i2 e⟩ q5 λc o c1 _ c3 c4 e=>q7 c o c1 c3 c4 e
theorem ZS.done {S:ag}{Q:Option ai->aq->Prop}(hh:A.handled=none) (D:DT z TI TO i1 i2 l1 l2) (st:ZS s.heap z TI TO i1 i2 l1 l2 S xs ys k) (hend:xs[k]?=none\/ys[k]?=none)
  (hQ:∀ h',(∀ c o,c≠z->c≠TO->c≠i1->c≠i2->s.heap.get? c=some o->h'.get? c=some o)->Q none { s with heap:=h' }):aK (aY prog w) A (la (.ref z)) Q E s:=by
 rcases st.zz with ⟨e,hz,a,b,hp⟩|⟨T,f,oT,hz,hT,n1,n2,n3,n4⟩
 ·exact wpAny_pyNext_zip_end hh D hz st.ti hp st.a1 st.a2 st.b1 st.b2 hend hQ
 ·have ty:s.TypeIs (.ref z) "zip":=⟨_,hz,rfl⟩
  unfold la
  refine ae (iU (fQ (name:=gJ "__next__") ty F.slot_zip_next (dZ F.slot_zip_next ty F.entry_zip_next
   (X9 hh D hz hT st.ti st.a1 st.a2 st.b1 st.b2 hend λh' e hk he=>?_) (F.args_zip_next_1 _))))
  obtain ⟨o,ho,hc⟩:=he
  exact ae (pG (T:="StopIteration") (b:=true) ⟨o,ho,hc⟩ DU (av (hQ _ λc o c1 _ c3 c4 q=>hk c o c1 c3 c4 q)))
structure Made (h:cg) (lo:ag) (xs ys:Array ai) (as:List ag):Prop where
 up:as.Pairwise (· < ·)
 lo:∀ a∈as,lo<a
 pr:∀ (j:Nat) (a:ag),as[j]?=some a->∃ x y,xs[j]?=some x/\ys[j]?=some y/\yj h a x y
theorem UC {S n:Nat}{R:Oa->aq->Prop}(hh:A.handled=none) (D:DT z TI TO i1 i2 l1 l2) (O:Off z TI TO i1 i2 l1 l2 S) (hn:min xs.size ys.size=n) (hn2:n<=100000) (res:ai) (lo:ag) (hlo:z<=lo/\TO<=lo/\i1<=lo/\i2<=lo/\S<=lo) {h₀:cg}
  (hR:∀ h' tk acc c as,(∀ b o,b≠S->b≠z->b≠TO->b≠i1->b≠i2->h₀.get? b=some o->h'.get? b=some o)->h'.get? S=some { cls:=.type "list",dict:=none,data:=.seq acc c,slots:=#[] }->acc.toList=as.map aE->as.length=n->Made h' lo xs ys as->R (.ok (.ret res)) { s with heap:=h',toks:=tk }) :
  ∀ (m i:Nat) (h:cg) (tk c:Nat) (acc:Array ai) (as:List ag),n-i=m->i<=n->ZS h z TI TO i1 i2 l1 l2 S xs ys i->(∀ b o,b≠S->b≠z->b≠TO->b≠i1->b≠i2->h₀.get? b=some o->h.get? b=some o) ->
   h.get? S=some { cls:=.type "list",dict:=none,data:=.seq acc c,slots:=#[] }->acc.toList=as.map aE->as.length=i->Made h lo xs ys as->lo<h.objs.size ->
   mQ (aY prog w) A (.builtin "list.extend.loop" ⟨[.ref S,.ref z,res],[]⟩) R { s with heap:=h,toks:=tk }:=by
 intro m
 induction m with
 | zero =>
  intro i h tk c acc as hm hi st kp hS hacc hal hM hlh
  have ei:i=n:=by omega
  subst ei
  refine ko JD ?_
  rw [iJ fU _]
  show aK _ A.in1 (la (.ref z) >>= _) _ _ _
  have hend:xs[i]?=none\/ys[i]?=none:=by
   by_cases q:xs.size<=i
   ·exact .inl (lF q)
   ·exact .inr (lF (by omega))
  refine ae (ZS.done (s:={ s with heap:=h,toks:=tk }) (A:=A.in1) hh D st hend λh' he=>?_)
  refine av (hR h' tk acc c as (λb o b1 b2 b3 b4 b5 e=>he b o b2 b3 b4 b5 (kp b o b1 b2 b3 b4 b5 e)) (he S _ (Ne.symm O.z) (Ne.symm O.to) (Ne.symm O.i1) (Ne.symm O.i2) hS) hacc hal ⟨hM.up,hM.lo,λj a hj=>?_⟩)
  obtain ⟨x,y,q1,q2,q3⟩:=hM.pr j a hj
  have far:∀ {b:ag},b<=lo->a≠b:=λhb=>fY (bj hb (hM.lo a (a9 hj)))
  exact ⟨x,y,q1,q2,he a _ (far hlo.1) (far hlo.2.1) (far hlo.2.2.1) (far hlo.2.2.2.1) q3⟩
 | succ m ih =>
  intro i h tk c acc as hm hi st kp hS hacc hal hM hlh
  have hlt:i<n:=by omega
  obtain ⟨x,hx⟩:∃ x,xs[i]?=some x:=⟨_,cE (by omega)⟩
  obtain ⟨y,hy⟩:∃ y,ys[i]?=some y:=⟨_,cE (by omega)⟩
  refine ko JD ?_
  rw [iJ fU _]
  show aK _ A.in1 (la (.ref z) >>= _) _ _ _
  refine ae (ZS.item (s:={ s with heap:=h,toks:=tk }) (A:=A.in1) D st (aI hS) hx hy λh' st' hp kk=>?_)
  have hS':=kk S _ (Ne.symm O.z) (Ne.symm O.to) (Ne.symm O.i1) (Ne.symm O.i2) hS
  have hsz:acc.size=i:=by rw [← aW,hacc,aj,hal]
  show aK _ A.in1 (zt S (·.push (aE h.objs.size)) >>= _) _ _ _
  refine ae (m9 hS' rfl (av ⟨jC fU _,?_⟩) (by rw [hsz];exact L2.bA (m:=100000) (by omega)) (by rw [Array.size_push,hsz];exact GT (L2.bA (m:=100000) (by omega))))
  have oth:∀ b o,b≠S->h'.get? b=some o->(h'.update S (bu (·.push (aE h.objs.size)))).get? b=some o:=λb o hb e=>(bW _ _ (Ne.symm hb)).trans e
  have hnS:h.objs.size≠S:=fY (aI hS)
  refine ih (i+1) _ tk _ (acc.push (aE h.objs.size)) (as++[h.objs.size]) (by omega) hlt (st'.keep O oth) (λb o b1 b2 b3 b4 b5 e=>oth b o b1 (kk b o b2 b3 b4 b5 (kp b o b1 b2 b3 b4 b5 e))) (bz _ hS' rfl) (by rw [DV,hacc,br];rfl) (by rw [bN,hal];rfl) ⟨?_,λa ha=>?_,λj a hj=>?_⟩ ?_
  ·refine zE.mpr ⟨hM.up,vW _ _,λa ha b hb=>?_⟩
   rw [aF.mp hb]
   obtain ⟨j,hj⟩:=bU.mp ha
   obtain ⟨_,_,_,_,q⟩:=hM.pr j a hj
   exact aI q
  ·rcases a7.mp ha with q|q
   ·exact hM.lo a q
   ·rw [aF.mp q];exact hlh
  ·by_cases q:j<as.length
   ·rw [ij q] at hj
    obtain ⟨x',y',q1,q2,q3⟩:=hM.pr j a hj
    have far:∀ {b:ag},b<=lo->a≠b:=λhb=>fY (bj hb (hM.lo a (a9 hj)))
    exact ⟨x',y',q1,q2,oth a _ (far hlo.2.2.2.2) (kk a _ (far hlo.1) (far hlo.2.1) (far hlo.2.2.1) (far hlo.2.2.2.1) q3)⟩
   ·rw [fO (by omega)] at hj
    have ej:j-as.length=0:=by
     by_cases w:j-as.length=0
     ·exact w
     ·rw [cM (by simp;omega)] at hj;cases hj
    rw [ej] at hj
    have ea:h.objs.size=a:=by simpa using hj
    have ej':j=i:=by omega
    subst ea ej'
    exact ⟨x,y,hx,hy,oth _ _ hnS hp⟩
  ·rw [rE]
   exact bc hlh (oi (aI hp))
theorem OT:vS (.type "zip") "__len__"=pure none:=by rw [qK,jM];kernel_rfl
theorem Ya:vS (.type "zip") "__length_hint__"=pure none:=by rw [qK,jM];kernel_rfl
theorem aaK {Q:Bool->aq->Prop}(ty:s.TypeIs (.ref z) "zip") (h:Q true s):aK (aY prog w) A (gv (.ref z)) Q E s:=by
 unfold gv
 refine ae (uI ty OT ?_)
 refine ae (uI ty Ya ?_)
 exact av h
theorem OU {S c₀ n:Nat} {R:Oa->aq->Prop}{va vb:ai}(hh:A.handled=none) (D:DT z TI TO i1 i2 l1 l2) (O:Off z TI TO i1 i2 l1 l2 S) (hn:min xs.size ys.size=n) (hn2:n<=100000) (res:ai) (hz:IsZip s.heap z TI TO .none) (hTO:yj s.heap TO va vb)
  (st:ZS s.heap z TI TO i1 i2 l1 l2 S xs ys 0) (hS:s.heap.get? S=some { cls:=.type "list",data:=.seq #[] c₀ })
  (hR:∀ h' tk acc c as,(∀ b o,b≠S->b≠z->b≠TO->b≠i1->b≠i2->s.heap.get? b=some o->h'.get? b=some o)->h'.get? S=some { cls:=.type "list",dict:=none,data:=.seq acc c,slots:=#[] }->acc.toList=as.map aE->as.length=n->Made h' (s.heap.objs.size-1) xs ys as->R (.ok (.ret res)) { s with heap:=h',toks:=tk }) :
  aK (aY prog w) A.in1 (dM (.ref S) (.ref z) res) (λfin s'=>match fin with | .done f=>R (.ok f) s' | .again c'=>c'.quiet=true/\mQ (aY prog w) A c' R s') (λe s'=>R (.error e) s') s:=by
 have ty:s.TypeIs (.ref z) "zip":=⟨_,hz,rfl⟩
 have lts:∀ {b:ag}{o:gC},s.heap.get? b=some o->b<=s.heap.objs.size-1:=λe=>Nat.le_sub_one_of_lt (aI e)
 have lt1:i1<=s.heap.objs.size-1:=by obtain ⟨_,e,_⟩:=st.a1;exact lts e
 have lt2:i2<=s.heap.objs.size-1:=by obtain ⟨_,e,_⟩:=st.a2;exact lts e
 have pos:0<s.heap.objs.size:=bj (bG _) (aI hz)
 have key:∀ (h:cg) (c₁ tk:Nat),h.objs.size=s.heap.objs.size->(∀ b o,b≠S->s.heap.get? b=some o->h.get? b=some o)->h.get? S=some { cls:=.type "list",data:=.seq #[] c₁ } ->
   mQ (aY prog w) A (.builtin "list.extend.loop" ⟨[.ref S,.ref z,res],[]⟩) R { s with heap:=h,toks:=tk }:=λh c₁ tk hsz kp hS₁ =>
  UC (h₀:=s.heap) hh D O hn hn2 res (s.heap.objs.size-1) ⟨lts hz,lts hTO,lt1,lt2,lts hS⟩ hR n 0 h tk c₁ #[] [] rfl (bG _) (st.keep O kp) (λb o b1 _ _ _ _ e=>kp b o b1 e) hS₁ rfl rfl ⟨LZ,(λa ha=>nomatch ha),λj a hj=>by simp at hj⟩ (by rw [hsz];exact Nat.sub_lt pos (by decide))
 unfold dM
 refine ae (LM (T:="zip") ty ?_)
 have e1:hV (.ref S) (.ref z)=false:=by simp [hV,Ne.symm O.z]
 have e2:(eK "zip" == eK "list")=false:=by decide
 have e3:(eK "zip" == eK "tuple")=false:=by decide
 simp only [e1,e2,e3,Ou,cC,if_false]
 refine ae (wpAny_pyIter_zip hz (ae (cF (aaK ty ?_))))
 refine kq (λ_=>ae (sQ (ae ?_))) (λ_=>av ⟨jC fU _,key _ c₀ _ rfl (λb o _ e=>e) hS⟩)
 show aK _ _ (zt S (·.push .none) >>= λ_=>zt S (·.pop)) _ _ _
 have g₂:=bz (bu (·.push cI)) hS rfl
 have g₃:=bz (bu (·.pop)) g₂ rfl
 refine ae (m9 hS rfl (m9 (hz:=by seq_fits) g₂ rfl (av ⟨jC fU _,key _ _ _ ?_ (λb o hb e=>?_) g₃⟩)))
 ·rw [rE,rE]
 ·exact (bW _ _ (Ne.symm hb)).trans ((bW _ _ (Ne.symm hb)).trans e)
theorem Bo {n:Nat}{Q:ai->aq->Prop}{va vb:ai}(hh:A.handled=none) (D:DT z TI TO i1 i2 l1 l2) (hn:min xs.size ys.size=n) (hn2:n<=100000) (hz:IsZip s.heap z TI TO .none) (hTO:yj s.heap TO va vb) (hTI:yj s.heap TI (.ref i1) (.ref i2))
  (a1:s.heap.IsListIter i1 l1 0) (a2:s.heap.IsListIter i2 l2 0) (b1:s.heap.IsList l1 xs) (b2:s.heap.IsList l2 ys)
  (hQ:∀ h' tk acc c as,(∀ b o,b≠z->b≠TO->b≠i1->b≠i2->s.heap.get? b=some o->h'.get? b=some o)->h'.get? s.heap.objs.size=some { cls:=.type "list",dict:=none,data:=.seq acc c,slots:=#[] }->acc.toList=as.map aE->as.length=n->Made h' s.heap.objs.size xs ys as->Q (.ref s.heap.objs.size) { s with heap:=h',toks:=tk }) :
  aK (aY prog w) A (call (.type "list") [.ref z]) Q E s:=by
 refine callType_codes (Q₁:=λobj s₁=>obj=.ref s.heap.objs.size/\s₁={ s with heap:=s.heap.push { cls:=.type "list",data:=.seq #[] } }) PySem.F.called_list (PySem.F.typeCall_list_1 _) PySem.F.entry_list_init (code_list_new _ ⟨rfl,rfl⟩) ?_
 rintro obj s₁ ⟨rfl,rfl⟩
 have hS:(s.heap.push { cls:=.type "list",data:=.seq #[] }).get? s.heap.objs.size=some { cls:=.type "list",data:=.seq #[] }:=aL _ rfl
 refine ⟨⟨_,hS,rfl⟩,PySem.F.args_list_init_2 _ _,?_⟩
 have ne:∀ {b:ag}{o:gC},s.heap.get? b=some o->b≠s.heap.objs.size:=λe=>aS (aI e)
 have O:Off z TI TO i1 i2 l1 l2 s.heap.objs.size:=⟨ne hz,ne hTI,ne hTO,by obtain ⟨_,e,_⟩:=a1;exact ne e,by obtain ⟨_,e,_⟩:=a2;exact ne e,by obtain ⟨_,e,_⟩:=b1;exact ne e,by obtain ⟨_,e,_⟩:=b2;exact ne e⟩
 show aK _ _ (do let old ← GZ (.ref s.heap.objs.size);GU (.ref s.heap.objs.size) (λ_=>#[]);letGo old.toList.reverse;dM (.ref s.heap.objs.size) (.ref z) .none) _ _ _
 refine ae (vq hS rfl (ae (tO hS rfl (ae (wpAny_letGo ?_)) (bG _) (bG _))))
 have g₂:=bz (bu (λ_=>(#[]:Array ai))) hS rfl
 have kp:∀ b o,s.heap.get? b=some o->((s.heap.push { cls:=.type "list",data:=.seq #[] }).update s.heap.objs.size (bu (λ_=>(#[]:Array ai)))).get? b=some o:=λb o e=>(bW _ _ (Ne.symm (ne e))).trans (au _ e)
 have sz:((s.heap.push { cls:=.type "list",data:=.seq #[] }).update s.heap.objs.size (bu (λ_=>(#[]:Array ai)))).objs.size-1=s.heap.objs.size:=by rw [rE,iM];rfl
 refine OU (s:={ s with heap:=(s.heap.push { cls:=.type "list",data:=.seq #[] }).update s.heap.objs.size (bu (λ_=>(#[]:Array ai))) }) (A:=A.in1) hh D O hn hn2 .none (kp _ _ hz) (kp _ _ hTO) ⟨.inl ⟨rfl,kp _ _ hz,_,_,kp _ _ hTO⟩,kp _ _ hTI,a1.at λo e=>kp _ o e,a2.at λo e=>kp _ o e,b1.at λo e=>kp _ o e,b2.at λo e=>kp _ o e⟩ g₂ λh' tk acc c as k1 k2 k3 k4 k5=>?_
 have k5':Made h' s.heap.objs.size xs ys as:=sz▸k5
 exact ⟨rfl,hQ h' tk acc c as (λb o c1 c2 c3 c4 e=>k1 b o (ne e) c1 c2 c3 c4 (kp b o e)) k2 k3 k4 k5'⟩
end
end Zl
namespace L2
open PySem PySem.Spec PyProof.Rows PySem.W
section
variable {X:Cx}{pins:List (ag×gC)}{Z:St}{H H':Hp}{s:aq}
theorem Inv.grow {h':cg}{t':Nat}(I:Inv X pins Z H s) (k:∀ b u,s.heap.get? b=some u->h'.get? b=some u) (sub:cB H H') (new:∀ b,b<s.heap.objs.size->H b=none->H' b=none) (ok:vE X.prog X.w H' h'):Inv X pins Z H' { s with heap:=h',toks:=t' } :=
 I.un ⟨λb o e _ _ _=>k b o e,λb o e _ _ _=>⟨o.slots,k b o e⟩,λb o e n _=>new b (aI e) n,λb o e _=>⟨o,k b o e⟩,λb _ e=>sub _ _ e,λb _ _ e=>sub _ _ e,λb ps e=>⟨#[],by rw [sub _ _ e];simp⟩⟩ ok
end
def Hc (H:Hp) (zs:List Zt):Hp:=λb=>match zs.find? (λz=>z.2.2 == b) with|some z=>some (.tup [.int z.1,.int z.2.1])|none=>H b
theorem Vg {H:Hp}{zs:List Zt}{b:ag}(h:∀ z∈zs,z.2.2≠b):Hc H zs b=H b:=by
 unfold Hc
 rw [List.find?_eq_none.mpr λz hz=>by simpa using h z hz]
theorem MI {H:Hp}:∀ {zs:List Zt}{z:Zt},(zs.map λz=>z.2.2).Nodup->z∈zs->Hc H zs z.2.2=some (.tup [.int z.1,.int z.2.1])
 | y::zs,z,hn,hz=>by
  unfold Hc
  rw [cn,bq] at hn
  rcases ay.mp hz with e|hz
  ·subst e
   rw [List.find?_cons_of_pos (by simp)]
  ·have hne:¬ (y.2.2 == z.2.2)=true:=λq=>hn.1 (by
    have e:y.2.2=z.2.2:=by simpa using q
    rw [e];exact bR hz)
   rw [List.find?_cons_of_neg (p:=λw:Zt=>w.2.2 == z.2.2) hne]
   exact MI hn.2 hz
def Vh (K:aa) (t:TA):TE:=λZ H Q=>t Z H λvs H1=>∃ (a b:ag) (ns ms:List Int),vs=[.ref a,.ref b]/\fg K H1 a (ns.map V.int)/\fg K H1 b (ms.map V.int)/\ns.length<=100000 /\
 ∀ (l:ag) (zs:List Zt) (H2:Hp),cB H1 H2->H1 l=none->H2 l=some (.lst (zs.map mY))->(∀ z∈zs,jh H2 z)->zs.map zP=ns.zip ms->Q (.ref l) H2
theorem J2:∀ {vs:List ai}{ns:List Int}{j:Nat}{v:ai},ip vs ns->vs[j]?=some v->∃ i t,ns[j]?=some i/\v=.int i t
 | _,_,0,v,.cons n t r,e=>by simp at e;exact ⟨n,t,rfl,e.symm⟩
 | _,_,j+1,v,.cons n t r,e=>J2 (j:=j) r (by simpa using e)
 | _,_,j,v,.nil,e=>by simp at e
theorem Vi {h:cg}{lo:ag}{xs ys:List ai}{ns ms:List Int}(hx:ip xs ns) (hy:ip ys ms):∀ {as:List ag},(∀ (j:Nat) (a:ag),as[j]?=some a->∃ x y,xs.toArray[j]?=some x/\ys.toArray[j]?=some y/\yj h a x y)->as.length=min ns.length ms.length ->
  ∃ zs:List Zt,zs.map (λz=>z.2.2)=as/\zs.map zP=ns.zip ms/\∀ z∈zs,∃ t u,yj h z.2.2 (.int z.1 t) (.int z.2.1 u):=by
 intro as hp hl
 have hlx:=hx.length
 have hly:=hy.length
 refine ⟨(ns.zip ms).zipWith (λt a=>(t.1,t.2,a)) as,?_,?_,λz hz=>?_⟩
 ·apply jL
  intro j
  rw [aG,yI]
  by_cases hj:j<as.length
  ·rw [aD hj,aD (by rw [yk];omega)];rfl
  ·rw [cM (rX hj)]
   cases (ns.zip ms)[j]?<;>rfl
 ·apply jL
  intro j
  rw [aG,yI]
  by_cases hj:j<as.length
  ·rw [aD hj,aD (by rw [yk];omega)];rfl
  ·rw [cM (rX hj),cM (by rw [yk];omega)];rfl
 ·obtain ⟨j,hj⟩:=bU.mp hz
  rw [yI] at hj
  cases ea:as[j]? with
  | none =>
   rw [ea] at hj
   cases ew:(ns.zip ms)[j]? with
   | none=>rw [ew] at hj;cases hj
   | some w=>rw [ew] at hj;cases hj
  | some a =>
   obtain ⟨x,y,q1,q2,q3⟩:=hp j a ea
   obtain ⟨i,t,e1,rfl⟩:=J2 (j:=j) hx (by simpa using q1)
   obtain ⟨i',u,e2,rfl⟩:=J2 (j:=j) hy (by simpa using q2)
   have ez:(ns.zip ms)[j]?=some (i,i'):=by rw [Oc];exact ⟨e1,e2⟩
   rw [ea,ez] at hj
   have:z=(i,i',a):=(aX hj).symm
   subst this
   exact ⟨t,u,q3⟩
section
variable {X:Cx}{x y:Expr}{t:TA}{p1 p2 q1 q2:rD}
theorem Yb (hc:X.calm=true) (hgl:Gl X "list") (hml:X.mg "list"=none) (hgz:Gl X "zip") (hmz:X.mg "zip"=none) (ha:PA X [x,y] t)
  (he:bw [.Call (.Name "zip" p1) [x,y] [] p2] X.env=[(false,gp (.Call (.Name "zip" p1) [x,y] [] p2) X.env)]:=by rfl) (he2:bw [x,y] X.env=(false,gp x X.env)::bw [y] X.env:=by rfl) (hpl:(jg p2 (bw [y] X.env)).any (·.1)=false:=by rfl) :
  PE X (.Call (.Name "list" q1) [.Call (.Name "zip" p1) [x,y] [] p2] [] q2) (Vh X.K t):=by
 intro pins s Z H Q I h
 refine dC (rg I hgl hml BootT.list (dJ ?_ he rfl))
 rw [he]
 show aK _ _ (YR ((false,gp (.Call (.Name "zip" p1) [x,y] [] p2) X.env)::jg q2 (bw [] X.env))) _ _ s
 refine lE (dC (rg I hgz hmz BootT.zip (dJ (iO (ha p2 pins s Z H _ I h) λus s1 ⟨vs,H1,I1,r1,q⟩=>?_) he2 hpl)))
 obtain ⟨a,b,ns,ms,rfl,hA,hB,hle,k⟩:=q
 obtain ⟨u,v,rfl,ru,rv⟩:=vals2 r1
 cases ru
 cases rv
 obtain ⟨xs,vx,px,_⟩:=I1.list hA
 obtain ⟨ys,vy,py,_⟩:=I1.list hB
 have ix:=intsAre_of vx
 have iy:=intsAre_of vy
 have lx:=ix.length
 have ly:=iy.length
 have al:a<s1.heap.objs.size:=by obtain ⟨_,e,_⟩:=px.isList;exact aI e
 have bl:b<s1.heap.objs.size:=by obtain ⟨_,e,_⟩:=py.isList;exact aI e
 refine call_zip_2 px.isList py.isList λh' hz hTI hTO j1 j2 hsz hk=>ql ?_
 refine Zl.Bo (s:={ s1 with heap:=h' }) (n:=min ns.length ms.length) (I1.ok.hd hc) (zipApart_new al bl) (by rw [aV,aV,lx,ly]) (by omega) hz hTO hTI j1 j2 (px.isList.at λo e=>hk _ o e) (py.isList.at λo e=>hk _ o e) λh2 tk acc c as k1 k2 k3 k4 k5=>?_
 obtain ⟨zs,e1,e2,e3⟩:=Vi (lo:=0) ix iy k5.pr k4
 have old:∀ b o,s1.heap.get? b=some o->h2.get? b=some o:=λb o e=>by
  have hb:=aI e
  refine k1 b o (aS (bc hb (lg _ _))) (aS (bc hb (lg _ _))) (aS hb) (aS (bc hb (lg _ _))) (hk b o e)
 have up:∀ z∈zs,h'.objs.size<z.2.2:=λz hz=>k5.lo _ (by rw [← e1];exact bR hz)
 have hs5:h'.objs.size=s1.heap.objs.size+5:=hsz
 have nd:(zs.map λz=>z.2.2).Nodup:=by rw [e1];exact k5.up.imp λq=>aS q
 have far:∀ z∈zs,∀ b:ag,b<s1.heap.objs.size->z.2.2≠b:=λz hz b hb=>fY (TR (bc hb (by rw [hs5];exact lg _ _)) (up z hz))
 have lf:∀ b:ag,b<s1.heap.objs.size->b≠h'.objs.size:=λb hb=>aS (bc hb (by rw [hs5];exact lg _ _))
 have hold:∀ b:ag,b<s1.heap.objs.size->upd (Hc H1 zs) h'.objs.size (.lst (zs.map mY)) b=H1 b:=λb hb=>by rw [aJ (lf b hb),Vg λz hz=>far z hz b hb]
 have S:cB H1 (upd (Hc H1 zs) h'.objs.size (.lst (zs.map mY))):=λb o e=>by rw [hold b (I1.fX.lt e)];exact e
 have hpair:∀ z∈zs,jh (upd (Hc H1 zs) h'.objs.size (.lst (zs.map mY))) z:=λz hz=>by
  show upd (Hc H1 zs) h'.objs.size (.lst (zs.map mY)) z.2.2=_
  rw [aJ (fY (up z hz))]
  exact MI nd hz
 have hlz:zs.length<=100000:=by
  have:=congrArg fN e2
  rw [aj,yk] at this
  omega
 have I2:Inv X pins Z (upd (Hc H1 zs) h'.objs.size (.lst (zs.map mY))) { s1 with heap:=h2,toks:=tk }:=I1.grow old S (λb hb n=>by rw [hold b hb];exact n) λb o e=>by
  by_cases hb:b<s1.heap.objs.size
  ·rw [hold b hb] at e
   exact (I1.fX b o e).yb (λc v _ q=>old c v q) (λc q=>S _ _ q) λc _ q=>S _ _ q
  ·by_cases hl:b=h'.objs.size
   ·subst hl
    rw [aM] at e
    cases e
    refine ⟨by rw [aj];exact bA hlz,acc.toList,c,?_,by rw [Array.toArray_toList];exact k2⟩
    rw [k3,← e1,cW]
    exact Jg zs
   ·rw [aJ hl] at e
    unfold Hc at e
    cases w:zs.find? (λz=>z.2.2 == b) with
    | none =>
     rw [w] at e
     have e:H1 b=some o:=e
     rw [I1.fX.fresh (rX hb)] at e
     cases e
    | some z =>
     rw [w] at e
     cases e
     have hz':=List.mem_of_find?_eq_some w
     have eb:z.2.2=b:=by simpa using List.find?_some w
     subst eb
     obtain ⟨t,u,hp⟩:=e3 z hz'
     exact ⟨bA (m:=2) (ax 2),[.int z.1 t,.int z.2.1 u],.cons ⟨t,rfl⟩ (.cons ⟨u,rfl⟩ .nil),⟨_,hp,rfl,_,rfl⟩⟩
 exact ⟨.ref h'.objs.size,_,I2,rfl,k _ zs _ S (I1.fX.fresh (by rw [hs5];exact lg _ _)) aM hpair e2⟩
theorem aaL {K:aa}{t:TA}{Z:St}{H:Hp}{Q:VK}(h:t Z H λvs H1=>∃ (a b:ag) (ns ms:List Int),vs=[.ref a,.ref b]/\fg K H1 a (ns.map V.int)/\fg K H1 b (ms.map V.int)/\ns.length<=100000 /\
 ∀ (l:ag) (zs:List Zt) (H2:Hp),cB H1 H2->H1 l=none->H2 l=some (.lst (zs.map mY))->(∀ z∈zs,jh H2 z)->zs.map zP=ns.zip ms->Q (.ref l) H2):Vh K t Z H Q:=h
end
end L2
namespace L2
open PySem PySem.Spec PyProof.Rows PySem.W
def WX (h:cg) (d:ag) (ks:List ai) (ep:Nat):Prop:=∃ o es,h.get? d=some o/\o.ExactDict/\o.data=.dict es ep/\es.toList.map (·.key)=ks
section
variable {prog:a8}{w:bT}{A:bZ}{E:ai->aq->Prop}{s:aq}{d it:ag}{ks:List ai}{ep i:Nat}
theorem WX.typeIs (x:WX s.heap d ks ep):s.TypeIs (.ref d) "dict":=let ⟨o,_,e,c,_⟩:=x;⟨o,e,c.1⟩
theorem MJ {Q:ai->aq->Prop}(hd:(d == mP)=false) (x:WX s.heap d ks ep)
  (q:Q (.ref s.heap.objs.size) { s with heap:=s.heap.push { cls:=.type "dict_keyiterator",data:=.fields #[.ref d,.int 0 0,.int ks.length 0,.int ep 0] } }):aK (aY prog w) A (TF (.ref d)) Q E s:=by
 have hT:=x.typeIs
 obtain ⟨o,es,e,c,da,hk⟩:=x
 have hs:es.size=ks.length:=by rw [← hk,aj,aW]
 refine LN hT F.slot_dict_iter (dZ F.slot_dict_iter hT F.entry_dict_iter ?_ (F.args_dict_iter_1 _))
 unfold lO.«dict.__iter__» Builtin.Dict.dictSlotNone
 refine ae (ae (ZT hT ?_))
 show aK _ _ (pure (aE d)) _ _ s
 refine av ?_
 show aK _ _ (IK d >>= _) _ _ s
 unfold IK
 rw [if_neg (by rw [hd];exact bM)]
 refine ae (av (ae (rZ e da (ae (QK e da ?_)))))
 refine ae (fI (av ⟨_,rfl,"dict_keyiterator",_,⟨_,aL _ rfl,rfl⟩,F.slot_dict_keyiterator_next.lookup,?_⟩))
 simpa [cO,hs] using q
theorem Vj {Q:Option ai->aq->Prop}{v:ai}(t:s.heap.IsKeyIter it d i ks.length ep) (x:WX s.heap d ks ep) (hv:ks[i]?=some v)
  (q:∀ h',h'.IsKeyIter it d (i+1) ks.length ep->je it s.heap h'->Q (some v) { s with heap:=h' }):aK (aY prog w) A (la (.ref it)) Q E s:=by
 have tt:=t.typeIs
 obtain ⟨ob,g,gc,gd⟩:=id t
 obtain ⟨o,es,e,c,da,hk⟩:=x
 have hs:es.size=ks.length:=by rw [← hk,aj,aW]
 have hi:i<es.size:=by rw [hs];exact (aC.mp hv).1
 have ev:es[i].key=v:=by
  rw [← hk,aG] at hv
  simpa [hi] using hv
 unfold la
 refine ae (iU (fQ (name:=gJ "__next__") tt F.slot_dict_keyiterator_next (dZ F.slot_dict_keyiterator_next tt F.entry_dict_keyiterator_next ?_ (F.args_dict_keyiterator_next_1 _))))
 refine ae (av (ae (ae ?_)))
 first|refine ae (mw tt (av ?_))|refine ae (qm tt (av ?_))
 refine ae (r0 g gd ?_)
 simp only [show xQ "dict_keyiterator"=false by decide,cC,if_false]
 show aK _ _ (if (aE d == cI)=true then _ else _) _ _ s
 rw [if_neg (show ¬ ((aE d == cI)=true) from bM)]
 refine ae (av (ae (rZ e da ?_)))
 rw [if_neg (by rw [hs];simp)]
 refine ae (av (ae (QK e da ?_)))
 rw [if_neg (by simp)]
 refine av ?_
 simp only [show ¬ ((i:Int)<0) from by omega,if_false,i4,cE hi]
 refine ae ?_
 first|refine ae (mw tt (av ?_))|refine ae (qm tt (av ?_))
 refine ae (ZU tt ?_)
 show aK _ _ (TY (.ref it) 1 (cO ((i:Int)+1)) >>= _) _ _ s
 refine ae (lQ g gd (by simp) ?_)
 have t':(s.heap.update it (kd (·.setIfInBounds 1 (cO ((i:Int)+1))))).IsKeyIter it d (i+1) ks.length ep :=
  ⟨_,bz _ g (mS (d0 gd _)),(vH ..).trans gc,by rw [d0 gd];simp [cO]⟩
 refine ae (cF ?_)
 refine ae (ZU (s:={ s with heap:=s.heap.update it (kd (·.setIfInBounds 1 (cO ((i:Int)+1)))) }) t'.typeIs ?_)
 show aK _ _ (pure es[i].key) _ _ _
 rw [ev]
 exact av (av ⟨_,rfl,av (q _ t' (cV ..))⟩)
theorem Yc {Q:Option ai->aq->Prop}(hh:A.handled=none) (hi:ks.length<=i) (t:s.heap.IsKeyIter it d i ks.length ep) (x:WX s.heap d ks ep) (q:∀ h',Ur it s.heap h'->Q none { s with heap:=h' }):aK (aY prog w) A (la (.ref it)) Q E s:=by
 have tt:=t.typeIs
 obtain ⟨ob,g,gc,gd⟩:=id t
 obtain ⟨o,es,e,c,da,hk⟩:=x
 have hs:es.size=ks.length:=by rw [← hk,aj,aW]
 unfold la
 refine ae (iU (fQ (name:=gJ "__next__") tt F.slot_dict_keyiterator_next (dZ F.slot_dict_keyiterator_next tt F.entry_dict_keyiterator_next ?_ (F.args_dict_keyiterator_next_1 _))))
 refine ae (av (ae (ae ?_)))
 first|refine ae (mw tt (av ?_))|refine ae (qm tt (av ?_))
 refine ae (r0 g gd ?_)
 simp only [show xQ "dict_keyiterator"=false by decide,cC,if_false]
 show aK _ _ (if (aE d == cI)=true then _ else _) _ _ s
 rw [if_neg (show ¬ ((aE d == cI)=true) from bM)]
 refine ae (av (ae (rZ e da ?_)))
 rw [if_neg (by rw [hs];simp)]
 refine ae (av (ae (QK e da ?_)))
 rw [if_neg (by simp)]
 refine av ?_
 simp only [show ¬ ((i:Int)<0) from by omega,if_false,i4,lF (bE (GR hs) hi)]
 refine ae ?_
 first|refine ae (mw tt (av ?_))|refine ae (qm tt (av ?_))
 show aK _ _ (TY (.ref it) 0 .none >>= _) _ _ s
 refine ae (lQ g gd (by simp) ?_)
 show aK _ _ (Y1 (.type "StopIteration") [] >>= _) _ _ _
 refine ae ?_
 simp only [Y1,newTuple]
 refine ae (fI ?_ (by size_fits))
 refine ae (m:=r9 _ _) (Ov (a:=cI) (by first|rfl|(simp only [r9];rfl)) ?_)
 refine fI ?_ (by size_fits)
 simp only [raiseNew]
 refine ae (Xb ?_)
 rw [show A.in1.handled=none from hh]
 refine ae (av (wpAny_throw ?_))
 refine ae (pG (T:="StopIteration") (b:=true) ⟨_,aL _ rfl,rfl⟩ DU ?_)
 exact av (q _ (((cV ..).extBut.push _).push _))
theorem Vk {acc:Array ai}(h:ItemsOf (λi v=>ks[i]?=some v) acc ks.length):acc.toList=ks:=by
 apply jL
 intro j
 cases e:acc.toList[j]? with
 | some v=>exact (h.2 j v (by rw [← dA];exact e)).symm
 | none =>
  have:ks.length<=j:=by have:=uK.mp e;rw [aW,h.1] at this;exact this
  exact (cM this).symm
end
section
variable {X:Cx}
end
end L2
namespace L2
open PySem PySem.Spec PyProof.Rows PySem.W
theorem Paired.at {α β:Type} {F:α->β->Prop}{l₁:List α} {l₂:List β} (r:Paired F l₁ l₂):∀ {i:Nat}{a:α},l₁[i]?=some a->∃ b,l₂[i]?=some b/\F a b:=by
 induction r with
 | nil=>intro i a e;simp at e
 | cons h t ih =>
  intro i a e
  cases i with
  | zero =>
   simp only [pS,iF] at e
   subst e
   exact ⟨_,rfl,h⟩
  | succ i=>exact ih (by simpa using e)
theorem Paired.len {α β:Type} {F:α->β->Prop}{l₁:List α} {l₂:List β} (r:Paired F l₁ l₂):l₁.length=l₂.length:=by
 induction r with
 | nil=>rfl
 | cons h t ih=>simp [ih]
def ItT (a:ag) (kvs:List (List kg×V)) (o:gC):It :=
 ⟨λi H=>i<kvs.length/\H a=some (.frz o (.dT kvs)),λi H x H'=>H'=H/\∃ k v b,kvs[i]?=some (k,v)/\x=.ref b/\H b=some (.tup (k.map kV)),λi H=>kvs.length<=i/\H a=some (.frz o (.dT kvs))⟩
theorem Q3 {P:a8}{w:bT}{K:aa}{tg:Expr}(a it:ag) (o:gC) (kvs:List (List kg×V)) (es:Array DictEntry) (ep:Nat) (hx:o.ExactDict) (hd:o.data=.dict es ep) (hl:es.size=kvs.length) :
  OB P w K tg (ItT a kvs o) [it] it (λi h=>h.IsKeyIter it a i (es.toList.map (·.key)).length ep) where
 mem:=by simp
 obj:=λi h st b hb=>by
  have e:b=it:=by simpa using hb
  subst e
  obtain ⟨o,e,c,d⟩:=st
  exact ⟨o,e,λv z=>by rw [d] at z;cases z⟩
 keep:=λi h h' st k=>st.at λo e=>k it (by simp) o e
 item:=by
  intro X hP hw hK hc i pins s Z H E I hf st hg
  subst hP hw hK
  obtain ⟨hlt,hq⟩:=hg
  obtain ⟨e0,_,_,xs,rel,o',es',ep',e1,e2,e3,e4,e5⟩:=(show gK X.prog X.w H s.heap a (.frz o (.dT kvs)) from I.fX a _ hq)
  rw [e0] at e1
  cases e1
  rw [hd] at e3
  injection e3 with e3 e3'
  subst e3 e3'
  obtain ⟨⟨k,v⟩,hkv⟩:∃ p,kvs[i]?=some p:=⟨kvs[i],by simp [hlt]⟩
  obtain ⟨q,hq2,rq⟩:=L2.Paired.at rel hkv
  have hkey:(es.toList.map (·.key))[i]?=some (.ref q.2.1):=by rw [e4,cW,aG,hq2];rfl
  obtain ⟨f0,f1,f2,f3,f4,f5⟩:=hf it (by simp)
  refine Vj st ⟨o,es,e0,hx,hd,rfl⟩ hkey λh' st' sb=>?_
  have I1:Inv X pins Z H { s with heap:=h' }:=I.turned (t':=s.toks) (λb o hb e=>(sb.2 b hb).trans e) f0 f1 f3 f4 f5
  obtain ⟨o',e,c,d⟩:=id st'
  exact ⟨_,rfl,IQ (s:={ s with heap:=h' }) e c d (by decide) ⟨.ref q.2.1,H,I1,rfl,⟨rfl,k,v,q.2.1,hkv,rfl,rq.2.1⟩,st',λb hb=>(hf b hb).1⟩⟩
 done:=by
  intro X hP hw hK hc i pins s Z H E I hf st hg
  subst hP hw hK
  obtain ⟨hle,hq⟩:=hg
  obtain ⟨e0,_⟩:=(show gK X.prog X.w H s.heap a (.frz o (.dT kvs)) from I.fX a _ hq)
  obtain ⟨f0,f1,f2,f3,f4,f5⟩:=hf it (by simp)
  have hn:(es.toList.map (·.key)).length=kvs.length:=by rw [aj,aW,hl]
  exact Yc (I.ok.hd hc) (by omega) st ⟨o,es,e0,hx,hd,rfl⟩ λh' eb=>⟨rfl,I.turned (t':=s.toks) (λb o hb e=>eb b o hb e) f0 f1 f3 f4 f5⟩
 self:=λ_ _ _ _ _ st h=>wpAny_pyIter_keyiter st h
def iDT (tl:TE):TI:=λZ H R=>tl Z H λx H1=>∃ a kvs,x=.ref a/\((H1 a=some (.dT kvs)/\∀ o,R (ItT a kvs o) (upd H1 a (.frz o (.dT kvs))))\/∃ o,H1 a=some (.frz o (.dT kvs))/\R (ItT a kvs o) H1)
theorem Zq {tl:TE}{Z:St}{H:Hp}{R:It->Hp->Prop}(h:tl Z H λx H1=>∃ a kvs,x=.ref a/\((H1 a=some (.dT kvs)/\∀ o,R (ItT a kvs o) (upd H1 a (.frz o (.dT kvs))))\/∃ o,H1 a=some (.frz o (.dT kvs))/\R (ItT a kvs o) H1)):iDT tl Z H R:=h
section
variable {X:Cx}{tg:Expr}
theorem Zr {l:Expr}{tl:TE}(hl:PE X l tl):PI X tg l (iDT tl):=by
 intro pins s Z H R I h
 refine iO (hl pins s Z H _ I h) λv s1 ⟨x,H1,I1,r1,q1⟩=>?_
 obtain ⟨a,kvs,e,q1⟩:=q1
 subst e
 cases r1
 rcases q1 with ⟨hq,q⟩|⟨ob,hq,q⟩
 rotate_left
 ·obtain ⟨ho,hz,hsys,xs,rel,ob',es,ep,ho',hx,hd,he,hn⟩:=(show gK X.prog X.w H1 s1.heap a (.frz ob (.dT kvs)) from I1.fX a _ hq)
  rw [ho] at ho'
  cases ho'
  have hl:es.size=kvs.length:=by rw [← aW,he,aj,Paired.len rel]
  refine MJ hsys ⟨ob,es,ho,hx,hd,rfl⟩ ?_
  refine ⟨s1.heap.objs.size,[s1.heap.objs.size],_,_,_,rfl,I1.kept (t':=s1.toks) λb o e=>au _ e,Q3 a _ ob kvs es ep hx hd hl,⟨_,aL _ rfl,rfl,rfl⟩,λb hb=>?_,q⟩
  have e:b=s1.heap.objs.size:=by simpa using hb
  subst e
  exact I1.NZ (ax _) (I1.fX.fresh (ax _))
 obtain ⟨hz,hsys,xs,rel,ob,es,ep,ho,hx,hd,he,hn⟩:=(show gK X.prog X.w H1 s1.heap a (.dT kvs) from I1.fX a _ hq)
 have un:Un X.fs [] H1 (upd H1 a (.frz ob (.dT kvs))) s1.heap s1.heap:=by
  have hne:∀ b u,H1 b=some u->u≠.dT kvs->b≠a:=λb u e n z=>by subst z;rw [hq] at e;exact n (aX e).symm
  refine ⟨λb o e _ _ _=>e,λb o e _ _ _=>⟨o.slots,e⟩,λb o e n _=>?_,λb o e _=>⟨o,e⟩,λb ys e=>?_,λb o u e=>?_,λb ps e=>?_⟩
  ·rw [aJ (λz=>by subst z;rw [hq] at n;cases n)];exact n
  ·rw [aJ (hne b _ e (by intro z;cases z))];exact e
  ·rw [aJ (hne b _ e (by intro z;cases z))];exact e
  ·exact ⟨#[],by rw [aJ (hne b _ e (by intro z;cases z)),e];simp⟩
 have nt:∀ c ys,H1 c=some (.tup ys)->(upd H1 a (.frz ob (.dT kvs))) c=some (.tup ys):=λc ys q0=>by
  rw [aJ (λz=>by rw [z,hq] at q0;cases q0)];exact q0
 have fX:vE X.prog X.w (upd H1 a (.frz ob (.dT kvs))) s1.heap:=λb u e=>by
  by_cases hb:b=a
  ·subst hb
   rw [aM] at e
   cases e
   exact ⟨ho,hz,hsys,xs,Paired.To rel λp q z=>⟨z.1,nt _ _ z.2.1,z.2.2⟩,ob,es,ep,ho,hx,hd,he,hn⟩
  ·rw [aJ hb] at e
   refine (I1.fX b u e).yb (λc v _ q=>q) (λc q0=>?_) nt
   rw [aJ (λz=>by rw [z,hq] at q0;cases q0)];exact q0
 have I2:Inv X pins Z (upd H1 a (.frz ob (.dT kvs))) { s1 with heap:=s1.heap,toks:=s1.toks }:=I1.un un fX
 have hl:es.size=kvs.length:=by rw [← aW,he,aj,Paired.len rel]
 refine MJ hsys ⟨ob,es,ho,hx,hd,rfl⟩ ?_
 refine ⟨s1.heap.objs.size,[s1.heap.objs.size],_,_,_,rfl,I2.kept (t':=s1.toks) λb o e=>au _ e,Q3 a _ ob kvs es ep hx hd hl,⟨_,aL _ rfl,rfl,rfl⟩,λb hb=>?_,q ob⟩
 have e:b=s1.heap.objs.size:=by simpa using hb
 subst e
 exact I2.NZ (ax _) (I2.fX.fresh (ax _))
end
def Yd (H:Hp) (Q:VK):VK:=λx H'=>Q x H'\/∃ a o kvs,(∀ o' u',H a≠some (.frz o' u'))/\H' a=some (.frz o (.dT kvs))/\Q x (upd H' a (.dT kvs))
theorem Un.Tu {fs ex:List ag}{H H':Hp}{h h':cg}{a:ag}{o:gC}{kvs:List (List kg×V)}(u:Un fs ex H H' h h') (hn:∀ o' u',H a≠some (.frz o' u')) (ha:H' a=some (.frz o (.dT kvs))):Un fs ex H (upd H' a (.dT kvs)) h h' where
 keep:=u.keep
 slot:=u.slot
 free:=λb ob e n hx=>by
  have q:=u.free b ob e n hx
  rw [aJ (λz=>by rw [z,ha] at q;cases q)];exact q
 there:=u.there
 yc:=λb xs e=>by
  have q:=u.yc b xs e
  rw [aJ (λz=>by rw [z,ha] at q;cases q)];exact q
 xp:=λb ob w e=>by
  have q:=u.xp b ob w e
  rw [aJ (λz=>hn ob w (by rw [← z];exact e))];exact q
 xn:=λb ps e=>by
  obtain ⟨more,q⟩:=u.xn b ps e
  exact ⟨more,by rw [aJ (λz=>by rw [z,ha] at q;cases q)];exact q⟩
theorem vE.Tu {P:a8}{w:bT}{H:Hp}{h:cg}{a:ag}{o:gC}{kvs:List (List kg×V)}(k:vE P w H h) (ha:H a=some (.frz o (.dT kvs))):vE P w (upd H a (.dT kvs)) h:=by
 have nt:∀ c ys,H c=some (.tup ys)->(upd H a (.dT kvs)) c=some (.tup ys):=λc ys q0=>by
  rw [aJ (λz=>by rw [z,ha] at q0;cases q0)];exact q0
 intro b u e
 by_cases hb:b=a
 ·subst hb
  rw [aM] at e
  cases e
  obtain ⟨_,hz,hsys,xs,rel,ob,es,ep,r⟩:=(show gK P w H h b (.frz o (.dT kvs)) from k b _ ha)
  exact ⟨hz,hsys,xs,Paired.To rel λp q z=>⟨z.1,nt _ _ z.2.1,z.2.2⟩,ob,es,ep,r⟩
 ·rw [aJ hb] at e
  refine (k b u e).yb (λc v _ q=>q) (λc q0=>?_) nt
  rw [aJ (λz=>by rw [z,ha] at q0;cases q0)];exact q0
end L2
namespace BootT
theorem Vl:eV "reversed"=some (.type "reversed"):=by decide +kernel
end BootT
namespace L2
open PySem PySem.Spec PyProof.Rows PySem.W
theorem dg.Tu {P:a8}{w:bT}{K:aa}{mg:aZ->Option ai}{base:cg}{CX:Mj}{k:Nat}{f:ag}{fd:fo}{ps:List aZ}{sp sp':Sp}(F:dg P w K mg base CX k f fd ps sp')
  (h:∀ vs H Q E,sp vs H Q E->sp' vs H (Yd H Q) E):dg P w K mg base CX k f fd ps sp:=by
 refine ⟨λvs H Q E q=>F.len vs H _ E (h _ _ _ _ q),λA outer s H args us vs Q E hr he hb hv hs=>?_⟩
 refine kH (F.run A outer s H args us vs _ E hr he hb hv (h _ _ _ _ hs)) λr s' q=>?_
 cases r with
 | error e=>exact q
 | ok fl =>
  cases fl with
  | ret u =>
   obtain ⟨v,H',h1,h2,h3,h4,h5,q⟩:=(show CE outer P w H s (Yd H Q) u s' from q)
   rcases q with q|⟨a,o,kvs,hn,ha,q⟩
   ·exact (show CE outer P w H s Q u s' from ⟨v,H',h1,h2,h3,h4,h5,q⟩)
   ·exact (show CE outer P w H s Q u s' from ⟨v,_,h1,h2,h3.Tu hn ha,h4.Tu ha,h5,q⟩)
  | _=>exact q
theorem Paired.eraseIdx {α β:Type} {F:α->β->Prop}{l₁:List α} {l₂:List β} (r:Paired F l₁ l₂):∀ j,Paired F (l₁.eraseIdx j) (l₂.eraseIdx j):=by
 induction r with
 | nil=>intro j;exact .nil
 | cons h t ih =>
  intro j
  cases j with
  | zero=>exact t
  | succ j=>exact .cons h (ih j)
theorem ER {κ:Type} [DecidableEq κ] {k:κ}{v:V}:∀ {kvs:List (κ×V)}{j:Nat},(kvs.map (·.1)).Nodup->kvs[j]?=some (k,v)->kvs.eraseIdx j=uh kvs k
 | [],j,_,e=>by simp at e
 | p::r,0,hn,e=>by
  simp only [pS,iF] at e
  subst e
  have h1:=(bq.mp hn).1
  rw [Sg rfl,Mr h1];rfl
 | p::r,j+1,hn,e=>by
  simp only [QL] at e
  have h1:=(bq.mp hn).1
  have hm:k∈r.map (·.1):=bX.mpr ⟨_,a9 e,rfl⟩
  have hne:¬ p.1=k:=λz=>h1 (by rw [show (λx:κ×V=>x.1) p=k from z];exact hm)
  rw [Jd hne,vV,ER (bq.mp hn).2 e]
theorem CD {κ:Type} [DecidableEq κ] {k:κ}{v:V}:∀ {kvs:List (κ×V)}{j:Nat},(kvs.map (·.1)).Nodup->kvs[j]?=some (k,v)->mC kvs k=some v
 | [],j,_,e=>by simp at e
 | p::r,0,hn,e=>by
  simp only [pS,iF] at e
  subst e
  exact v7 rfl
 | p::r,j+1,hn,e=>by
  simp only [QL] at e
  have h1:=(bq.mp hn).1
  have hm:k∈r.map (·.1):=bX.mpr ⟨_,a9 e,rfl⟩
  have hne:¬ p.1=k:=λz=>h1 (by rw [show (λx:κ×V=>x.1) p=k from z];exact hm)
  rw [ui hne]
  exact CD (bq.mp hn).2 e
theorem Jh {α β:Type} (f:α->β):∀ (l:List α) (j:Nat),(l.map f).eraseIdx j=(l.eraseIdx j).map f
 | [],_=>by simp
 | a::l,0=>rfl
 | a::l,j+1=>by simp [vV,Jh f l j]
theorem So {H:Hp}{kvs:List (List kg×V)}{xs:List (List kg×ag×ai)}(r:KT H kvs xs):kvs.map (·.1)=xs.map (·.1):=by
 induction r with
 | nil=>rfl
 | cons h t ih=>simp [h.1,ih]
section
variable {X:Cx}
def Q4:V->List V->Hp->VK->Prop:=λx vs H Q=>∃ a kvs k b v,x=.ref a/\vs=[.ref b]/\H a=some (.dT kvs)/\H b=some (.tup (k.map kV))/\mC kvs k=some v/\Q v (upd H a (.dT (uh kvs k)))
theorem J3 (hu:X.A.units+64<jB):Xh X "dict.pop" Q4:=by
 intro pins s Z H x xs v us Q I rx rs h
 obtain ⟨a,kvs,k,b,y,rfl,rfl,ha,hb,hy,q⟩:=h
 cases rx
 obtain ⟨u,rfl,ru⟩:=vals1 rs
 cases ru
 obtain ⟨hz,lo,ys,rel,o,es,ep,e1,e2,e3,e4,e5⟩:=(show gK X.prog X.w H s.heap a (.dT kvs) from I.fX a _ ha)
 have hl:es.size=kvs.length:=by rw [← aW,e4,aj,Paired.len rel]
 have hT:s.TypeIs (.ref a) "dict":=⟨o,e1,e2.1⟩
 have hes:es.size<=bf:=by rw [hl];exact hz
 have hkey:=v8 (P:=X.prog) (w:=X.w) I.fX hb
 have his:∀ x∈ys,(pE (hJ X.prog X.w)).is s.heap x.1 x.2.1:=λx hx=>by
  obtain ⟨i,hi⟩:=bU.mp hx
  obtain ⟨p,hp⟩:∃ p,kvs[i]?=some p:=⟨kvs[i]'(by rw [Paired.len rel];exact (aC.mp hi).1),by simp⟩
  obtain ⟨x',hx',r1,r2,_⟩:=L2.Paired.at rel hp
  rw [hi] at hx'
  cases hx'
  rw [← r1]
  exact v8 I.fX r2
 have rel:KT H kvs ys:=rel
 have ev:=KT.val rel k
 rw [hy] at ev
 have hroom:(pE (hJ X.prog X.w)).room X.A.in1:=mR (by omega)
 have hnd:(kvs.map (·.1)).Nodup:=by rw [So rel];exact e5
 refine dZ F.slot_dict_pop hT F.entry_dict_pop ?_ (F.args_dict_pop_2 _ _)
 unfold lO.«dict.pop» Builtin.Dict.keyAndDefault
 refine ae (ae (ZT hT ?_))
 show aK _ _ (pure (a,aE b,none)) _ _ s
 refine av ?_
 have hne:es.isEmpty=false:=by
  cases e:es.isEmpty with
  | false=>rfl
  | true =>
   have:es.size=0:=by simpa [Array.isEmpty] using e
   have:kvs=[]:=iN (by omega)
   subst this
   cases hy
 show aK _ _ (dictEntries a >>= _) _ _ s
 refine ae (rZ e1 e3 ?_)
 simp only [hne,cC,if_false,pure_bind]
 refine ae ?_
 unfold Builtin.Dict.takeOut
 try with_reducible refine cF ?_
 refine ae ((pE (hJ X.prog X.w)).pyHash hroom hkey ?_)
 refine ae (wpAny_dictFind_heap (s:={ s with toks:=s.toks+(pE (hJ X.prog X.w)).draws k }) hroom hkey e1 e3 e4 his e5 (λhno=>?_) λj p hj=>?_)
 ·rw [atKey_none_of_get hno] at ev
  exact ev.elim
 ·have ep':LI ys k=some p:=atKey_of_get e5 hj
  rw [ep'] at ev
  have ev:RelV y p.2:=ev
  refine ae (rZ (s:={ s with toks:=s.toks+(pE (hJ X.prog X.w)).draws k }) e1 e3 ?_)
  rw [entry_at e4 j,hj]
  refine ae (wpAny_updateDictKeys (hz:=hes) (s:={ s with toks:=s.toks+(pE (hJ X.prog X.w)).draws k }) e1 e3 (av ?_))
  simp only [YQ,Uq,cC,if_false]
  refine ae (wpAny_letGo (av ⟨_,rfl,y,upd H a (.dT (uh kvs k)),?_,ev,q⟩))
  have hk2:kvs[j]?=some (k,y):=by
   have hjl:j<kvs.length:=by rw [Paired.len rel];exact (aC.mp hj).1
   obtain ⟨x',hx',r1,_⟩:=L2.Paired.at rel (aD hjl)
   rw [hj] at hx'
   cases hx'
   have e:kvs[j]?=some (k,kvs[j].2):=by
    rw [aD hjl]
    have r1:kvs[j].1=k:=r1
    exact congrArg some (Prod.ext r1 rfl)
   have:=CD hnd e
   rw [hy] at this
   rw [e,← aX this]
  have hrel:KT H (uh kvs k) (ys.eraseIdx j):=by rw [← ER hnd hk2];exact Paired.eraseIdx rel j
  refine JO I (by rw [ha];exact j9) (cV ..) ⟨_,bz _ e1 (Xq (A4 e3 _))⟩
   ⟨bE (eC _ _) hz,lo,_,hrel.keeps λc zs ec=>?_,_,_,ep+1,bz _ e1 (Xq (A4 e3 _)),e2.mapDictKeys _,A4 e3 _,?_,?_⟩
  ·rw [aJ (jG ec ha (λz=>nomatch z))]
   exact ec
  ·have:(es.eraseIdxIfInBounds j).toList=es.toList.eraseIdx j:=by obtain ⟨l⟩:=es;simp
   rw [this,e4,Jh]
  ·exact (zF _ (List.eraseIdx_sublist _ _)).nodup e5
end
end L2
namespace L2
open PySem PySem.Spec PyProof.Rows PySem.W
namespace Rv
theorem OT:vS (.type "list_reverseiterator") "__len__"=pure none:=by rw [qK,jM];kernel_rfl
theorem Vm:vS (.type "list_reverseiterator") "__length_hint__"=pure (some (.builtin "list_reverseiterator.__length_hint__")):=by rw [qK,jM];kernel_rfl
section
variable {prog:a8}{w:bT}{A:bZ}{E:ai->aq->Prop}{s:aq}{I l:ag}
theorem aaK {Q:Bool->aq->Prop}(ty:s.TypeIs (.ref I) "list_reverseiterator") (h:Q false s):aK (aY prog w) A (gv (.ref I)) Q E s:=by
 unfold gv
 refine ae (uI ty OT ?_)
 show aK _ A (specialOf (aE I) (gJ "__length_hint__") >>= _) _ _ _
 refine ae (uI ty Vm ?_)
 generalize hid:("list_reverseiterator.__length_hint__":String)=id0
 wp_delta
 rw [show splitId id0=some ("list_reverseiterator","__length_hint__") from by subst hid;decide +kernel]
 subst hid
 refine ae (pG (T:="list_reverseiterator") (b:=true) ty (by rw [DW];kernel_rfl) ?_)
 exact av h
theorem OU {S c₀ n:Nat} {R:Oa->aq->Prop}{fp wr:List ag}{G:Array zm->Array zm->Prop}{P:Nat->ai->Prop}{St:Nat->aq->Prop}(W:WalksS prog w A.in1 I fp wr G n P St) (ty:∀ i s,St i s->s.TypeIs (.ref I) "list_reverseiterator")
  (res:ai) (hst:St 0 s) (hSf:S∉fp) (hI:I∈fp) (hS:s.heap.get? S=some { cls:=.type "list",data:=.seq #[] c₀ }) (hn:n<=bf)
  (hR:∀ s' acc' c',Moved (S::wr) G s s'->s'.heap.get? S=some { cls:=.type "list",dict:=none,data:=.seq acc' c',slots:=#[] }->ItemsOf P acc' n->R (.ok (.ret res)) s') :
  aK (aY prog w) A.in1 (dM (.ref S) (.ref I) res) (λfin s'=>match fin with | .done f=>R (.ok f) s' | .again c'=>c'.quiet=true/\mQ (aY prog w) A c' R s') (λe s'=>R (.error e) s') s:=by
 have hSI:S≠I:=λe=>hSf (e▸hI)
 unfold dM
 refine ae (LM (ty 0 _ hst) ?_)
 have h1:hV (.ref S) (.ref I)=false:=by simp [hV,hSI]
 have h2:(eK "list_reverseiterator" == eK "list")=false:=by decide
 have h3:(eK "list_reverseiterator" == eK "tuple")=false:=by decide
 simp only [h1,h2,h3,Ou,cC,if_false]
 refine ae (W.self 0 _ _ _ hst (ae (cF (aaK (ty 0 _ hst) ?_))))
 refine kq (λ_=>?_) (λ_=>av ⟨jC F.plain_extend_loop _,DX W hn _ hSf _ n 0 _ _ _ rfl (bG _) hst hS (QM P) hR⟩)
 refine ae (sQ (ae ?_))
 show aK _ A.in1 (zt S (·.push .none) >>= λ_=>zt S (·.pop)) _ _ _
 refine ae (m9 hS rfl ?_)
 have g2:=bz (bu (·.push cI)) hS rfl
 refine m9 (hz:=by seq_fits) g2 rfl ?_
 have g3:=bz (bu (·.pop)) g2 rfl
 have oth:∀ b o,b≠S->s.heap.get? b=some o->((s.heap.update S (bu (·.push cI))).update S (bu (·.pop))).get? b=some o :=
  λb o hb e=>(bW _ _ (Ne.symm hb)).trans ((bW _ _ (Ne.symm hb)).trans e)
 refine av ⟨jC F.plain_extend_loop _,DX W hn _ hSf _ n 0 _ _ _ rfl (bG _) (W.frame 0 s _ s.toks hst (ax _) λb hb o e=>oth b o (λh=>hSf (h▸hb)) e) g3 (QM P) λs' acc' c' hm hS' hacc=>?_⟩
 exact hR s' acc' c' (TZ W.gtrans ((Moved.refl W.grefl).then_heap (ax _) λb o hb e=>oth b o (λh=>hb (h▸aw)) e) hm) hS' hacc
theorem Bo {n:Nat}{Q:ai->aq->Prop}{fp wr:List ag}{G:Array zm->Array zm->Prop}{P:Nat->ai->Prop}{St:Nat->aq->Prop}(W:WalksS prog w A.in1.in1 I fp wr G n P St) (ty:∀ i s,St i s->s.TypeIs (.ref I) "list_reverseiterator")
  (hst:St 0 s) (hfp:∀ b∈fp,b<s.heap.objs.size) (hI:I∈fp) (hn:n<=bf)
  (hQ:∀ s' acc' c',Moved (s.heap.objs.size::wr) G { s with heap:=s.heap.push { cls:=.type "list",data:=.seq #[] } } s'->s'.heap.get? s.heap.objs.size=some { cls:=.type "list",dict:=none,data:=.seq acc' c',slots:=#[] }->ItemsOf P acc' n->Q (.ref s.heap.objs.size) s') :
  aK (aY prog w) A (call (.type "list") [.ref I]) Q E s:=by
 have hSf:s.heap.objs.size∉fp:=λhm=>gE _ (hfp _ hm)
 refine callType_codes (Q₁:=λobj s₁=>obj=.ref s.heap.objs.size/\s₁={ s with heap:=s.heap.push { cls:=.type "list",data:=.seq #[] } }) F.called_list (F.typeCall_list_1 _) F.entry_list_init (code_list_new _ ⟨rfl,rfl⟩) ?_
 rintro obj s₁ ⟨rfl,rfl⟩
 have hS:(s.heap.push { cls:=.type "list",data:=.seq #[] }).get? s.heap.objs.size=some { cls:=.type "list",data:=.seq #[] }:=aL _ rfl
 refine ⟨⟨_,hS,rfl⟩,F.args_list_init_2 _ _,?_⟩
 show aK _ _ (do let old ← GZ (.ref s.heap.objs.size);GU (.ref s.heap.objs.size) (λ_=>#[]);letGo old.toList.reverse;dM (.ref s.heap.objs.size) (.ref I) .none) _ _ _
 refine ae (vq hS rfl (ae (tO hS rfl (ae (wpAny_letGo ?_)) (bG _) (bG _))))
 have g2:=bz (bu (λ_=>(#[]:Array ai))) hS rfl
 have oth:∀ b o,b≠s.heap.objs.size->(s.heap.push { cls:=.type "list",data:=.seq #[] }).get? b=some o->((s.heap.push { cls:=.type "list",data:=.seq #[] }).update s.heap.objs.size (bu (λ_=>(#[]:Array ai)))).get? b=some o :=
  λb o hb e=>(bW _ _ (Ne.symm hb)).trans e
 refine OU (A:=A.in1) (s:={ s with heap:=(s.heap.push { cls:=.type "list",data:=.seq #[] }).update s.heap.objs.size (bu (λ_=>(#[]:Array ai))) }) W ty .none (W.frame 0 s _ s.toks hst (ax _) λb hb o e=>oth b o (λh=>hSf (h▸hb)) (au _ e)) hSf hI g2 hn λs' acc' c' hm hS' hacc=>?_
 exact ⟨rfl,hQ s' acc' c' (TZ W.gtrans ((Moved.refl (s:={ s with heap:=s.heap.push { cls:=.type "list",data:=.seq #[] } }) W.grefl).then_heap (ax _) λb o hb e=>oth b o (λh=>hb (h▸aw)) e) hm) hS' hacc⟩
end
end Rv
def Vn (K:aa) (t:TA):TE:=λZ H Q=>t Z H λvs H1=>∃ a xs,vs=[.ref a]/\fg K H1 a xs/\∀ p,H1 p=none->Q (.ref p) (upd H1 p (.lst xs.reverse))
theorem aaM {K:aa}{t:TA}{Z:St}{H:Hp}{Q:VK}(h:t Z H λvs H1=>∃ a xs,vs=[.ref a]/\fg K H1 a xs/\∀ p,H1 p=none->Q (.ref p) (upd H1 p (.lst xs.reverse))):Vn K t Z H Q:=h
section
variable {X:Cx}{x:Expr}{t:TA}{p1 p2 q1 q2:rD}
theorem Ye (hc:X.calm=true) (hgl:Gl X "list") (hml:X.mg "list"=none) (hgz:Gl X "reversed") (hmz:X.mg "reversed"=none) (ha:PA X [x] t)
  (he:bw [.Call (.Name "reversed" p1) [x] [] p2] X.env=[(false,gp (.Call (.Name "reversed" p1) [x] [] p2) X.env)]:=by rfl) (he2:bw [x] X.env=(false,gp x X.env)::bw [] X.env:=by rfl) (hpl:(jg p2 (bw [] X.env)).any (·.1)=false:=by rfl) :
  PE X (.Call (.Name "list" q1) [.Call (.Name "reversed" p1) [x] [] p2] [] q2) (Vn X.K t):=by
 intro pins s Z H Q I h
 refine dC (rg I hgl hml BootT.list (dJ ?_ he rfl))
 rw [he]
 show aK _ _ (YR ((false,gp (.Call (.Name "reversed" p1) [x] [] p2) X.env)::jg q2 (bw [] X.env))) _ _ s
 refine lE (dC (rg I hgz hmz BootT.Vl (dJ (iO (ha p2 pins s Z H _ I h) λus s1 ⟨vs,H1,I1,r1,q⟩=>?_) he2 hpl)))
 obtain ⟨a,xs,rfl,hA,k⟩:=q
 obtain ⟨u,rfl,ru⟩:=vals1 r1
 cases ru
 obtain ⟨its,rv,pl,hz⟩:=I1.list hA
 have hlen:=rv.length
 have al:a<s1.heap.objs.size:=by obtain ⟨_,e,_⟩:=pl.isList;exact aI e
 have I2:Inv X pins Z H1 { s1 with heap:=s1.heap.push (DY a ((its.toArray.size:Int)-1)) }:=I1.kept (t':=s1.toks) λb o e=>au _ e
 refine call_reversed_list pl.isList (ql ?_)
 have st0:(s1.heap.push (DY a ((its.toArray.size:Int)-1))).IsRevIter s1.heap.objs.size a ((its.toArray.size:Int)-1-((0:Nat):Int)):=⟨_,aL _ rfl,rfl,by simp [DY]⟩
 have il:(s1.heap.push (DY a ((its.toArray.size:Int)-1))).IsList a its.toArray:=pl.isList.at λo e=>au _ e
 refine Rv.Bo (s:={ s1 with heap:=s1.heap.push (DY a ((its.toArray.size:Int)-1)) }) (Walks.listRev (A:=X.A.in1.in1) (I1.ok.hd hc) s1.heap.objs.size a (aS al) its.toArray).toS (λi s st=>st.2.1.typeIs) ⟨bG _,st0,il⟩ (λb hb=>?_) (by simp) (by rw [aV];omega) λs' acc c hm hS hacc=>?_
 ·have:(s1.heap.push (DY a ((its.toArray.size:Int)-1))).objs.size=s1.heap.objs.size+1:=iM ..
  show b<(s1.heap.push (DY a ((its.toArray.size:Int)-1))).objs.size
  rw [this]
  rcases ay.mp hb with rfl|hb
  ·exact ji _
  ·rw [aF.mp hb];exact qZ al
 ·have es:s'={ s1 with heap:=s'.heap,toks:=s'.toks }:=by have e:=Moved.eq_with hm;exact e
  have hsz:(s1.heap.push (DY a ((its.toArray.size:Int)-1))).objs.size=s1.heap.objs.size+1:=iM ..
  have old:∀ b o,s1.heap.get? b=some o->s'.heap.get? b=some o:=λb o e=>by
   have hb:=aI e
   refine hm.heap b o (λhmem=>?_) (au _ (au _ e))
   rcases ay.mp hmem with z|z
   ·rw [show ({ s1 with heap:=s1.heap.push (DY a ((its.toArray.size:Int)-1)) }:aq).heap.objs.size=s1.heap.objs.size+1 from hsz] at z
    rw [z] at hb;exact Nat.not_succ_le_self _ (oi (bc hb (ax _)))
   ·rw [aF.mp z] at hb;exact gE _ hb
  have eacc:acc.toList=its.reverse:=by
   apply jL
   intro j
   cases e:acc.toList[j]? with
   | some v =>
    have q:=hacc.2 j v (by rw [← dA];exact e)
    have hj:j<its.length:=by have:=(aC.mp e).1;rw [aW,hacc.1,aV] at this;exact this
    rw [List.getElem?_reverse hj]
    simp only [aV,yJ] at q
    exact q.symm
   | none =>
    have:its.length<=j:=by have:=uK.mp e;rw [aW,hacc.1,aV] at this;exact this
    exact (cM (by rw [Xc];exact this)).symm
  rw [show ({ s1 with heap:=s1.heap.push (DY a ((its.toArray.size:Int)-1)) }:aq).heap.objs.size=s1.heap.objs.size+1 from hsz] at hS ⊢
  rw [es]
  refine ⟨.ref (s1.heap.objs.size+1),_,I1.laid (t':=s'.toks) (o:=.lst xs.reverse) old (gQ _) ⟨by rw [Xc];exact hz,its.reverse,c,rv.reverse,?_⟩,rfl,k _ (I1.fX.fresh (gQ _))⟩
  rw [hS,← eacc]
end
end L2
namespace Sw
open PySem
def Cq (xs:Array Nat):Prop:=xs.toList.Pairwise (· < ·)
theorem Cq.lt {xs:Array Nat}(h:Cq xs) {i j a b:Nat}(hij:i<j) (h1:xs[i]?=some a) (h2:xs[j]?=some b):a<b:=by
 rw [← dA] at h1 h2
 obtain ⟨hi,e1⟩:=aC.mp h1
 obtain ⟨hj,e2⟩:=aC.mp h2
 have:=Od.mp h i j hi hj hij
 rw [e1,e2] at this;exact this
theorem ES {xs:Array Nat}{j:Nat}(h:Cq xs):∀ (fuel lo hi:Nat),lo<=hi->hi<=xs.size->hi-lo<=fuel->(∀ i a,i<lo->xs[i]?=some a->a<j)->(∀ i a,hi<=i->xs[i]?=some a->j<=a) ->
  (sd xs j fuel lo hi<=xs.size/\(∀ i a,i<sd xs j fuel lo hi->xs[i]?=some a->a<j)/\∀ i a,sd xs j fuel lo hi<=i->xs[i]?=some a->j<=a)
 | 0,lo,hi,h1,h2,h3,h4,h5=>by
  have:lo=hi:=by omega
  subst this
  exact ⟨h2,h4,h5⟩
 | fuel+1,lo,hi,h1,h2,h3,h4,h5=>by
  unfold sd
  by_cases c:lo<hi
  ·rw [if_pos c]
   have hm:(lo+hi)/2<xs.size:=by omega
   have em:xs[(lo+hi)/2]?=some xs[(lo+hi)/2]:=cE hm
   have eg:xs.getD ((lo+hi)/2) j=xs[(lo+hi)/2]:=by simp [uc,hm]
   simp only [eg]
   by_cases c2:xs[(lo+hi)/2]<j
   ·rw [if_pos c2]
    refine ES h fuel _ _ (by omega) h2 (by omega) (λi a hi' ha=>?_) h5
    by_cases e:i=(lo+hi)/2
    ·subst e;rw [em] at ha;cases ha;exact c2
    ·exact TR (h.lt (show i<(lo+hi)/2 by omega) ha em) c2
   ·rw [if_neg c2]
    refine ES h fuel _ _ (by omega) (by omega) (by omega) h4 (λi a hi' ha=>?_)
    by_cases e:i=(lo+hi)/2
    ·subst e;rw [em] at ha;cases ha;omega
    ·have:=h.lt (show (lo+hi)/2<i by omega) em ha;omega
  ·rw [if_neg c]
   have:lo=hi:=by omega
   subst this
   exact ⟨h2,h4,h5⟩
theorem ET {xs:Array Nat}(h:Cq xs) (j:Nat):eW xs j<=xs.size/\(∀ i a,i<eW xs j->xs[i]?=some a->a<j)/\∀ i a,eW xs j<=i->xs[i]?=some a->j<=a :=
 ES h _ _ _ (bG _) (ax _) (by omega) (λi a hi=>absurd hi (by omega)) λi a hi ha=>by
  have:=(jj.mp ha).1;omega
theorem MK {xs:Array Nat}(h:Cq xs) {k p:Nat}(hk:k=0/\p=0\/∃ k',k=k'+1/\∃ a,xs[k']?=some a/\p=a+1):eW xs p=k:=by
 obtain ⟨h1,h2,h3⟩:=ET h p
 rcases hk with ⟨rfl,rfl⟩|⟨k',rfl,a,ha,rfl⟩
 ·by_cases e:eW xs 0=0
  ·exact e
  ·have:xs[0]?=some xs[0]:=cE (by omega)
   have:=h2 0 _ (by omega) this;omega
 ·have hk:=(jj.mp ha).1
  rcases Nat.lt_trichotomy (eW xs (a+1)) (k'+1) with c|c|c
  ·have:=h3 k' a (by omega) ha;omega
  ·exact c
  ·have e:xs[k'+1]?=some (xs[k'+1]'(by omega)):=cE (by omega)
   have q1:=h2 (k'+1) _ c e
   have q2:=h.lt (show k'<k'+1 by omega) ha e
   omega
theorem Cq.insert {xs:Array Nat}(h:Cq xs) {j:Nat}(hj:xs[eW xs j]?≠some j):Cq (SetTable.insertAt xs (eW xs j) j):=by
 obtain ⟨h1,h2,h3⟩:=ET h j
 generalize eW xs j=p at h1 h2 h3 hj
 unfold Cq
 rw [SetTable.toList_insertAt]
 have e:xs.toList=xs.toList.take p++xs.toList.drop p:=(jA _ _).symm
 have hp:(xs.toList.take p++xs.toList.drop p).Pairwise (· < ·):=by rw [← e];exact h
 rw [zE] at hp
 obtain ⟨p1,p2,p3⟩:=hp
 have m1:∀ a∈xs.toList.take p,a<j:=λa ha=>by
  obtain ⟨i,hi⟩:=bU.mp ha
  rw [pK] at hi
  split at hi
  ·exact h2 i a (by assumption) (by rw [← dA];exact hi)
  ·cases hi
 have m2:∀ a∈xs.toList.drop p,j<a:=λa ha=>by
  obtain ⟨i,hi⟩:=bU.mp ha
  rw [ue,dA] at hi
  have q:=h3 (p+i) a (by omega) hi
  rcases Nat.lt_or_eq_of_le q with q|q
  ·exact q
  ·subst q
   cases i with
   | zero=>exact absurd hi hj
   | succ i =>
    have e0:xs[p]?=some (xs[p]'(by have:=(jj.mp hi).1;omega)):=cE _
    have q1:=h3 p _ (ax _) e0
    have q2:=h.lt (show p<p+(i+1) by omega) e0 hi
    omega
 rw [zE]
 refine ⟨p1,List.pairwise_cons.mpr ⟨m2,p2⟩,λa ha b hb=>?_⟩
 rcases ay.mp hb with rfl|hb
 ·exact m1 a ha
 ·exact p3 a ha b hb
structure TI (t:i6):Prop where
 rise:Cq t.place
 nod:t.dummies=#[]
theorem Q5 (j:Nat):L3 #[] j=false:=by simp [L3]
theorem ML {t:i6}(h:TI t) {hashAt:Nat->Int}{hh:Int}:∀ (fuel:Nat) (p:SetTable.Probe) {j:Nat}{d:Option Nat},xR t hashAt hh fuel p=some (.empty j d)->p.dummy=none->d=none/\t.place[eW t.place j]?≠some j
 | 0,p,j,d,e,_=>by simp [xR] at e
 | fuel+1,p,j,d,e,hd=>by
  unfold xR at e
  have adv:(t.advance p).dummy=none:=by unfold SetTable.advance;split<;>exact hd
  cases hs:t.slot p.j with
  | empty =>
   rw [hs] at e
   simp only [iF,ZV] at e
   obtain ⟨rfl,rfl⟩:=e
   refine ⟨hd,λz=>?_⟩
   unfold Y2 at hs
   simp [z] at hs
  | dummy =>
   unfold Y2 at hs
   rw [h.nod] at hs
   simp only [Q5] at hs
   split at hs<;>simp at hs
  | live i =>
   rw [hs] at e
   simp only at e
   split at e
   ·simp at e
   ·exact ML h fuel _ e adv
theorem Sq {t:i6}(h:TI t) {hh:Int}{j:Nat}{b:Bool}(e:t.freeSlot hh=some (j,b)):t.place[eW t.place j]?≠some j:=by
 unfold SetTable.freeSlot at e
 split at e
 ·rename_i j' d he
  obtain ⟨e1,e2⟩:=ML h _ _ he rfl
  subst e1
  simp at e
  rw [← e.1];exact e2
 ·cases e
theorem TI.standIn (t:i6) (n:Nat):TI (t.standIn n):=⟨by unfold Cq SetTable.standIn;simp only [Array.toList_range];exact RP,rfl⟩
theorem TI.orStandIn {t:i6}(h:TI t) (n:Nat):TI (t.orStandIn n):=by
 unfold RQ
 split
 ·exact h
 ·exact TI.standIn t n
theorem TI.put {t:i6}(h:TI t) {j:Nat}(hj:t.place[eW t.place j]?≠some j):TI (t.put j).1:=by
 refine ⟨h.rise.insert hj,?_⟩
 show (if L3 t.dummies j then _ else t.dummies)=#[]
 rw [h.nod,Q5,if_neg (by decide)]
theorem TI.layNew {t:i6}(h:TI t) (es:Array (Int×ai)) (hh:Int) (x:ai):TI (DZ t es hh x).2.1:=by
 unfold DZ
 split
 ·rename_i slot wd he
  exact (h.put (Sq h he)).orStandIn _
 ·exact TI.standIn t _
theorem TI.relayAll {t:i6}(es:Array (Int×ai)) (wanted:Nat):TI (zu t es wanted).2.1:=by
 unfold zu
 split
 ·rename_i t' order he
  dsimp only
  split
  ·unfold Xd Y3 at he
   simp only [T3,Oe,Y4,iF] at he
   obtain ⟨owner,_,he⟩:=he
   have:=(dz he).1
   subst this
   refine ⟨?_,rfl⟩
   show ((fM _).filterMap _ |>.map _).toArray.toList.Pairwise _
   rw [List.toList_toArray,List.map_filterMap]
   have:(λx=>Bb (λy:Nat×Nat=>y.1) (Bb (λy=>(x,y)) (owner.getD x none)))=λx=>Bb (λ_=>x) (owner.getD x none):=by funext x;cases owner.getD x none<;>rfl
   refine List.Pairwise.filterMap _ (λa b hab c hc d hd=>?_) RP
   cases ha:owner.getD a none<;>rw [ha] at hc<;>simp at hc
   cases hb:owner.getD b none<;>rw [hb] at hd<;>simp at hd
   omega
  ·exact TI.standIn t _
 ·exact TI.standIn t _
theorem TI.off {t:i6}(h:TI t):TI { t with plain:=false }:=⟨h.rise,h.nod⟩
theorem TI.fresh (a b:Nat) (c:Bool):TI (Xr a b c):=⟨by simp [Cq,Xr],rfl⟩
theorem OV (t:i6) (es:Array (Int×ai)) (hh:Int) (x:ai):(DZ t es hh x).2.1.led=t.led:=by
 unfold DZ
 split
 ·simp only [RQ];split<;>rfl
 ·rfl
theorem J5 (t:i6) (es:Array (Int×ai)) (wanted:Nat):(zu t es wanted).2.1.led=t.led:=by
 unfold zu
 split
 ·rename_i t' order he
  dsimp only
  split
  ·unfold Xd Y3 at he
   simp only [T3,Oe,Y4,iF] at he
   obtain ⟨owner,_,he⟩:=he
   have:=(dz he).1
   subst this
   rfl
  ·rfl
 ·rfl
end Sw
namespace Sw
def key (e:Int×ai):Int:=match e.2 with | .int i _=>i|_=>0
section
variable {prog:a8}{w:bT}
def SO (prog:a8) (w:bT) (bt:Bool) (h:cg) (a:ag) (ks:List Int):Prop :=
 ∃ o es ep t,h.get? a=some o/\o.ExactSet/\o.data=.set es ep t/\ElemsOf (rV prog w) es.toList/\(∀ e∈es.toList,∃ u,e.2=.int (key e) u)/\es.size<zw/\t.fits es.size=true/\TI t/\t.led=!bt/\ks=es.toList.map key/\ks.Nodup
theorem SO.keep {bt:Bool}{h h':cg}{a:ag}{ks:List Int}(x:SO prog w bt h a ks) (k:∀ o,h.get? a=some o->h'.get? a=some o):SO prog w bt h' a ks :=
 let ⟨o,es,ep,t,e,r⟩:=x;⟨o,es,ep,t,k o e,r⟩
theorem SO.lt {bt:Bool}{h:cg}{a:ag}{ks:List Int}(x:SO prog w bt h a ks):a<h.objs.size:=let ⟨_,_,_,_,e,_⟩:=x;aI e
variable {A:bZ}{E:ai->aq->Prop}{s:aq}
theorem MM {g:Bool->LC Unit}(hg:∀ (b:Bool) (s₁:aq) (Q':Unit->aq->Prop),Q' () s₁->aK (aY prog w) A (g b) Q' E s₁)
  {a:ag}{o:gC}{es:Array (Int×ai)}{ep:Nat}{t:i6}(ho:s.heap.get? a=some o) (hd:o.data=.set es ep t)
  {es1:Array (Int×ai)}{t2:i6}(hb1:es1.size<zw) (hf2:t2.fits es1.size=true) (ti:TI t2) {wasDummy:Bool}{R:Option Bool->aq->Prop}
  (h:∀ h' es2 ep2 t3,je a s.heap h'->h'.get? a=some { o with data:=.set es2 ep2 t3 }->es2.toList.Perm es1.toList->t3.fits es2.size=true->TI t3->t3.led=t2.led->R (some true) { s with heap:=h' }) :
  aK (aY prog w) A (do
    storeSet a es1 t2
    if (!wasDummy && t2.tooFull)=true then do
      g (relayAll t2 es1 (ka es1.size)).2.2
      storeSet a (relayAll t2 es1 (ka es1.size)).1 (relayAll t2 es1 (ka es1.size)).2.1
      pure (some true)
     else pure (some true)) R E s:=by
 refine ae (wpAny_storeSet_of ho hd ?_ (LO hb1))
 have g1:(s.heap.update a (yl es1 t2)).get? a=some { o with data:=.set es1 (ep+1) t2 }:=by
  have:=bz (yl es1 t2) ho (by rw [putSet_of es1 t2 hd];rfl)
  rw [putSet_of es1 t2 hd] at this;exact this
 have b1:=cV s.heap a (yl es1 t2)
 split
 ·have hp:=relayAll_perm t2 es1 (ka es1.size)
  have hfr:=relayAll_fits t2 es1 (ka es1.size)
  have tir:=TI.relayAll (t:=t2) es1 (ka es1.size)
  have lr:=J5 t2 es1 (ka es1.size)
  generalize relayAll t2 es1 (ka es1.size)=Rl at hp hfr tir lr ⊢
  obtain ⟨es2,t3,gave2⟩:=Rl
  dsimp only at hp hfr tir lr ⊢
  have hsz:es2.size=es1.size:=by rw [← aW,hp.length_eq,aW]
  refine ae (hg _ _ _ (ae (wpAny_storeSet_of g1 rfl ?_ (LO (by rw [hsz];exact hb1)))))
  have g2:((s.heap.update a (yl es1 t2)).update a (yl es2 t3)).get? a=some { o with data:=.set es2 (ep+1+1) t3 }:=bz (yl es2 t3) g1 rfl
  exact av (h _ es2 _ t3 (b1.trans (cV _ a _)) g2 hp hfr tir lr)
 ·exact av (h _ es1 _ t2 b1 g1 (pH _) hf2 ti rfl)
theorem aaN {bt:Bool}{a:ag}{ks:List Int}{k:Int}{u:Tok}{Q:Bool->aq->Prop}(hS:SO prog w bt s.heap a ks) (hroom:ks.length+1<zw)
  (h:∀ h' ks' b,je a s.heap h'->SO prog w bt h' a ks'->(∀ x,x∈ks'↔x∈ks\/x=k)->ks'.length<=ks.length+1->Q b { s with heap:=h' }) :
  aK (aY prog w) A (setAddHashed a (.int k u) ((rV prog w).hash k)) Q E s:=by
 obtain ⟨o,es,ep,t,ho,hex,hd,hel,hin,hb,hf,ti,hled,rfl,hnd⟩:=hS
 have hsc:(iR k u).scannable=true:=rfl
 have hkey:(rV prog w).is k (.int k u)=true:=intKind_is _ _ _ _
 have hisk:∀ e∈es.toList,((rV prog w).is k e.2=true↔key e=k):=λe he=>by
  obtain ⟨v,hv⟩:=hin e he
  rw [hv,KeyKind.is_eq_decide (intKind_is prog w (key e) v) k,decide_eq_true_iff]
  exact eq_comm
 unfold setAddHashed setAddHashedIn
 refine cF (ae (kI ho hd hf ?_))
 dsimp only
 rw [byScan_of hsc hb hel]
 simp only [↓reduceIte]
 unfold setAddByScan
 refine ae (ae (sQ (ae (wpAny_setScan_of hkey ho hd hf hel ?_))))
 cases hr:List.findIdx? (λe=>(rV prog w).is k e.2) es.toList with
 | some j =>
  dsimp only
  obtain ⟨hj,hpj,_⟩:=List.findIdx?_eq_some_iff_getElem.mp hr
  have hm:k∈es.toList.map key:=bX.mpr ⟨es.toList[j],iG hj,(hisk _ (iG hj)).mp hpj⟩
  refine av (av ?_)
  have e:s={ s with heap:=s.heap }:=by cases s;rfl
  rw [e]
  exact h s.heap _ _ (Heap.SameBut.refl a s.heap) ⟨o,es,ep,t,ho,hex,hd,hel,hin,hb,hf,ti,hled,rfl,hnd⟩ (λx=>⟨.inl,λq=>q.elim id λe=>e▸hm⟩) (gQ _)
 | none =>
  dsimp only
  have hnm:k∉es.toList.map key:=λhm=>by
   obtain ⟨e,he,ek⟩:=bX.mp hm
   have:=List.findIdx?_eq_none_iff.mp hr e he
   rw [(hisk e he).mpr ek] at this;exact Bool.noConfusion this
  have hgw:∀ (b:Bool) {s₁:aq} {Q':Unit->aq->Prop},Q' () s₁->aK (aY prog w) A (match b with|true=>rule "set.scan.the-table-gave-way" | false=>pure ()) Q' E s₁ :=
   λb s₁ Q' hq=>by cases b<;>first|exact av hq|exact sQ hq
  have hperm:=layNew_perm t es ((rV prog w).hash k) (.int k u)
  have hfits:=layNew_fits t es ((rV prog w).hash k) (.int k u)
  have tin:=ti.layNew es ((rV prog w).hash k) (.int k u)
  have ledn:=OV t es ((rV prog w).hash k) (.int k u)
  generalize layNew t es ((rV prog w).hash k) (.int k u)=L at hperm hfits tin ledn ⊢
  obtain ⟨es1,t1,wasDummy,gave⟩:=L
  dsimp only at hperm hfits tin ledn ⊢
  rw [DV] at hperm
  have hsz1:es1.size=es.size+1:=by rw [← aW,hperm.length_eq,bN,aW];rfl
  rw [aj,aW] at hroom
  have hb1:es1.size<zw:=by omega
  refine ae (hgw _ ?_)
  have hend:∀ (h':cg) (es2:Array (Int×ai)) (ep2:Nat) (t2 t3:i6),t2.led=t1.led->je a s.heap h'->h'.get? a=some { o with data:=.set es2 ep2 t3 }->es2.toList.Perm es1.toList->t3.fits es2.size=true->TI t3->t3.led=t2.led->Q true { s with heap:=h' }:=by
   intro h' es2 ep2 t2 t3 l2 sb g2 hp2 hf3 ti3 l3
   have hpp:=hp2.trans hperm
   have hpk:=hpp.map key
   rw [br] at hpk
   have ek:[((rV prog w).hash k,iR k u)].map key=[k]:=rfl
   rw [ek] at hpk
   have hs2:es2.size=es.size+1:=by rw [← aW,hp2.length_eq,aW];exact hsz1
   refine h h' (es2.toList.map key) true sb ⟨_,es2,ep2,t3,g2,hex,rfl,(hel.push hkey hsc).perm hpp,λe he=>?_,by omega,hf3,ti3,by rw [l3,l2,ledn,hled],rfl,?_⟩ (λx=>?_) (by rw [aj,aj,aW,aW];omega)
   ·rcases a7.mp (hpp.mem_iff.mp he) with he|he
    ·exact hin e he
    ·rw [aF.mp he];exact ⟨u,rfl⟩
   ·exact hpk.nodup_iff.mpr (L2.QW hnd hnm)
   ·rw [hpk.mem_iff,a7,aF]
  split
  ·refine ae ?_
   rw [hashByValue_scannable 8 hsc]
   refine av ?_
   refine MM (λb s₁ Q' hq=>by cases b<;>first|exact av hq|exact sQ hq) ho hd hb1 ?_ ?_ ?_
   ·split
    ·exact hfits
    ·exact SetTable.fits_plain_off hfits
   ·split
    ·exact tin
    ·exact tin.off
   ·intro h' es2 ep2 t3 q1 q2 q3 q4 q5 q6
    dsimp only
    refine av (hend h' es2 ep2 _ t3 ?_ q1 q2 q3 q4 q5 q6)
    split<;>rfl
  ·refine ae (av ?_)
   simp only [↓reduceIte]
   refine MM (λb s₁ Q' hq=>by cases b<;>first|exact av hq|exact sQ hq) ho hd hb1 hfits tin ?_
   intro h' es2 ep2 t3 q1 q2 q3 q4 q5 q6
   dsimp only
   exact av (hend h' es2 ep2 _ t3 rfl q1 q2 q3 q4 q5 q6)
end
end Sw
namespace Sw
abbrev bt (w:bT):Bool:=w.params.followText "set-order"
section
variable {prog:a8}{w:bT}{A:bZ}{E:ai->aq->Prop}{s:aq}
theorem Vo (a:ai) {Q₁:ai->aq->Prop} (h:Q₁ (.ref s.heap.objs.size) { s with heap:=s.heap.push { cls:=.type "set",dict:=none,data:=.set #[] 0 (.fresh 0 0 (!bt w)) } }) :
  mQ (aY prog w) A (.call (.builtin "set.__new__") ⟨[.type "set",a],[]⟩) (wants Q₁ E) s:=by
 refine codeAny_of_tree ?_
 show aK _ A.in1 (do checkBuiltinCall "set.__new__" ⟨[.type "set",a],[]⟩;again (.builtin "set.__new__" ⟨[.type "set",a],[]⟩)) _ _ s
 refine ae (Ov (F.newCall_set_1 a) (av ⟨jC F.plain_set_new _,ko F.entry_set_new ?_⟩))
 rw [iJ F.plain_set_new _]
 unfold lO.«set.__new__» abq
 have hsub:=sub_set_self
 obtain ⟨hp,g,d,tk,os⟩:=s
 dsimp only
 wp_walk
 refine jF (av ?_)
 dsimp only
 simp only [newObj]
 refine ae (wpAny_alloc (av ?_))
 exact av h
theorem Yg {R:Oa->aq->Prop}{I:ag}{fp wr:List ag}{G:Array zm->Array zm->Prop}{n:Nat}{P:Nat->ai->Prop}{St:Nat->aq->Prop}(W:WalksS prog w A.in1 I fp wr G n P St) (S:ag) (hSf:S∉fp) (ns:List Int) (hl:ns.length=n) (hval:∀ i v,P i v->∃ k t,ns[i]?=some k/\v=.int k t) (hb:n+1<zw) :
  ∀ (k i:Nat) (s:aq) (ks:List Int),n-i=k->i<=n->St i s->SO prog w (bt w) s.heap S ks->(∀ x,x∈ks↔x∈ns.take i)->ks.length<=i ->
   (∀ s' ks',Moved (S::wr) G s s'->SO prog w (bt w) s'.heap S ks'->(∀ x,x∈ks'↔x∈ns)->ks'.length<=n->R (.ok (.ret .none)) s') ->
   mQ (aY prog w) A (.builtin "set.update.loop" ⟨[.ref S,.ref I],[]⟩) R s:=by
 have hSw:S∉wr:=λh=>hSf (W.sub _ h)
 have hsub:∀ b∈wr,b∈S::wr:=λb hb=>ah _ hb
 intro k
 induction k with
 | zero =>
  intro i s ks hk hi hst hS hm0 hle hR
  have hin:i=n:=by omega
  subst hin
  refine ko F.entry_set_update_loop ?_
  rw [iJ F.plain_set_update_loop _]
  show aK _ A.in1 (la (.ref I) >>= _) _ _ s
  refine ae (W.done s _ _ hst λs' hm=>?_)
  show aK _ A.in1 (ret cI) _ _ s'
  exact av (hR s' ks (hm.mono hsub) (hS.keep λo e=>hm.heap S o hSw e) (λx=>by rw [hm0,← hl,ZW]) hle)
 | succ k ih =>
  intro i s ks hk hi hst hS hm0 hle hR
  have hlt:i<n:=by omega
  refine ko F.entry_set_update_loop ?_
  rw [iJ F.plain_set_update_loop _]
  show aK _ A.in1 (la (.ref I) >>= _) _ _ s
  refine ae (W.item i s _ _ hlt hst λv s' hP hst' hm=>?_)
  obtain ⟨c,t,hc,rfl⟩:=hval i v hP
  show aK _ A.in1 (qH [iR c t] (setAdd S (.int c t)) >>= _) _ _ s'
  refine ae (cF ?_)
  unfold setAdd
  refine cF ?_
  refine ae ((rV prog w).pyHash (k:=c) (intKind_is _ _ _ _) ?_)
  refine aaN (s:={ s' with toks:=s'.toks+1 }) (hS.keep λo e=>hm.heap S o hSw e) (by omega) λh' ks' b hsb hS2 hmem hlen=>?_
  refine av ⟨jC F.plain_set_update_loop _,ih (i+1) _ ks' (by omega) hlt (W.frame _ s' _ _ hst' (gQ _) λb hb o e=>?_) hS2 (λx=>?_) (by omega) λs'' ks'' hm'' hS'' hmem'' hlen''=>?_⟩
  ·rw [hsb.2 b (λh:b=S=>hSf (by rw [← h];exact hb))];exact e
  ·rw [hmem,hm0,List.take_succ,hc,a7];simp
  ·refine hR s'' ks'' (TZ W.gtrans ((hm.mono hsub).then_heap (gQ _) λb o hb e=>?_) hm'') hS'' hmem'' hlen''
   rw [hsb.2 b (λh:b=S=>hb (by rw [h];exact aw))];exact e
theorem Vp {l:ag}{items:Array ai}{ns:List Int}{Q:ai->aq->Prop}(hh:A.handled=none) (hl:s.heap.IsList l items) (hi:ip items.toList ns) (hb:items.size+1<zw)
  (h:∀ (h':cg) (tk:Nat) (ks:List Int),SO prog w (bt w) h' s.heap.objs.size ks->(∀ x,x∈ks↔x∈ns)->ks.length<=items.size->(∀ b o,s.heap.get? b=some o->h'.get? b=some o)->Q (.ref s.heap.objs.size) { s with heap:=h',toks:=tk }) :
  aK (aY prog w) A (call (.type "set") [.ref l]) Q E s:=by
 obtain ⟨c,tl,hmro⟩:=F.called_set.mro
 have hmade:=F.called_set.made
 have hsub:=F.called_set.sub
 refine qY (codeAny_of_tree ?_)
 show aK _ _ (callAny (.type "set") _) _ _ _
 refine av ⟨Code.quiet_builtin _ (by decide +kernel),ko F.entry_type_call ?_⟩
 rw [Around.under_plain (weight_type_call_type "set" [.ref l] []) rfl]
 have h1:=F.called_set.notType
 have h2:=F.called_set.canCreate
 have hct:=F.typeCall_set_1 (.ref l)
 repeat (any_goals (first|assumption|wp_step))
 refine kH (Vo (.ref l) (E:=E) (Q₁:=λobj s₁=>obj=.ref s.heap.objs.size/\s₁={ s with heap:=s.heap.push { cls:=.type "set",dict:=none,data:=.set #[] 0 (.fresh 0 0 (!bt w)) } }) ⟨rfl,rfl⟩) λr s₁ hr=>?_
 cases r with
 | error e=>exact hr
 | ok fl =>
  cases fl with
  | ret obj =>
   obtain ⟨rfl,rfl⟩:=hr
   have hS:(s.heap.push { cls:=.type "set",dict:=none,data:=.set #[] 0 (.fresh 0 0 (!bt w)) }).get? s.heap.objs.size=some { cls:=.type "set",dict:=none,data:=.set #[] 0 (.fresh 0 0 (!bt w)) }:=aL _ rfl
   have hT:Shared.TypeIs { s with heap:=s.heap.push { cls:=.type "set",dict:=none,data:=.set #[] 0 (.fresh 0 0 (!bt w)) } } (.ref s.heap.objs.size) "set":=⟨_,hS,rfl⟩
   have hli:=F.called_set.init.lookup
   have hbi:=F.called_set.init.bind (.ref s.heap.objs.size)
   repeat (any_goals (first|assumption|wp_step))
   refine kH (codeAny_call_builtin (R:=wants (λr s₂=>r=.none/\∃ h' tk ks,s₂={ s with heap:=h',toks:=tk }/\SO prog w (bt w) h' s.heap.objs.size ks/\(∀ x,x∈ks↔x∈ns)/\ks.length<=items.size/\(∀ b o,s.heap.get? b=some o->h'.get? b=some o)) E) F.called_set.init.plain F.entry_set_init (check_set_init_1 hT ?_)) λr₂ s₂ hr₂=>?_
   ·obtain ⟨ol,hol,hcl,nl,hdl⟩:=hl
    obtain ⟨ocls,odict,odata,oslots⟩:=ol
    simp only at hcl hdl
    subst hcl;subst hdl
    have hol':(s.heap.push { cls:=.type "set",dict:=none,data:=.set #[] 0 (.fresh 0 0 (!bt w)) }).get? l=some { cls:=.type "list",dict:=odict,data:=.seq items nl,slots:=oslots }:=au _ hol
    have hsls:=F.sub_list_set
    have hslf:=F.sub_list_frozenset
    have hne:(eK "list" == eK "dict")=false:=by decide
    have hl1:(s.heap.push { cls:=.type "set",dict:=none,data:=.set #[] 0 (.fresh 0 0 (!bt w)) }).IsList l items:=⟨_,hol',rfl,nl,rfl⟩
    unfold lO.«set.__init__» noKeywords abt
    generalize hPI:TF=PI
    wp_walk
    subst hPI
    refine wpAny_pyIter_list hl1 ?_
    refine ae (wpAny_runValue ?_)
    have hlS:l<s.heap.objs.size:=aI hol
    have hh3:A.in1.in1.in1.handled=none:=by simp [hh]
    have hneI:l≠(s.heap.push { cls:=.type "set",dict:=none,data:=.set #[] 0 (.fresh 0 0 (!bt w)) }).objs.size:=by
     rw [iM];exact aS (qZ hlS)
    have hSf:s.heap.objs.size∉[(s.heap.push { cls:=.type "set",dict:=none,data:=.set #[] 0 (.fresh 0 0 (!bt w)) }).objs.size,l]:=by
     rw [iM];simp only [ay,aF,eL,or_false,not_or]
     exact ⟨aS (ji _),fY hlS⟩
    have hlen:=hi.length
    rw [aW] at hlen
    have hval:∀ (i:Nat) (v:ai),items[i]?=some v->∃ k t,ns[i]?=some k/\v=.int k t:=λi v hv=>by
     obtain ⟨t,e⟩:=Xs hi i v (by rw [dA];exact hv)
     have hlt:=(jj.mp hv).1
     have:ns[i]?=some (ns.getD i 0):=by rw [List.getD_eq_getElem?_getD,aD (by omega)];rfl
     exact ⟨_,t,this,e⟩
    refine Yg ((Walks.list hh3 _ l hneI items).toS) s.heap.objs.size hSf ns hlen.symm hval hb (items.size-0) 0 _ [] (by omega) (bG _)
     ⟨⟨_,aL _ rfl,rfl,rfl⟩,(hl1.push _)⟩ ?hS0 (λx=>by simp) (ax _) ?hR
    case hS0 =>
     have hget:((s.heap.push { cls:=.type "set",dict:=none,data:=.set #[] 0 (.fresh 0 0 (!bt w)) }).push { cls:=.type "list_iterator",data:=.fields #[.ref l,.int 0 0] }).get? s.heap.objs.size
       = some { cls:=.type "set",dict:=none,data:=.set #[] 0 (.fresh 0 0 (!bt w)) }:=au _ hS
     exact ⟨_,#[],0,_,hget,⟨rfl,rfl,rfl⟩,rfl,(λe he=>by simp at he),(λe he=>by simp at he),by decide,rfl,TI.fresh _ _ _,rfl,rfl,zC⟩
    case hR =>
     intro s' ks' hm hS' hmem hlen'
     obtain ⟨h',g',d',tk',os'⟩:=s'
     have eg:g'=s.gens:=hm.gens
     have ed:d'=s.drawn:=hm.drawn
     have eo:os'=s.os:=hm.os
     subst eg;subst ed;subst eo
     show aK _ _ _ _ _ _
     refine av ?_
     show aK _ _ (ret cI) _ _ _
     refine av ⟨rfl,h',tk',ks',rfl,hS',hmem,hlen',λb o e=>?_⟩
     have hb:=aI e
     have hb1:b≠s.heap.objs.size:=aS hb
     have hb2:b≠(s.heap.push { cls:=.type "set",dict:=none,data:=.set #[] 0 (.fresh 0 0 (!bt w)) }).objs.size:=by
      rw [iM];exact aS (qZ hb)
     exact hm.heap b o (by simp only [ay,aF,eL,or_false,not_or];exact ⟨hb1,hb2⟩) (au _ (au _ e))
   ·cases r₂ with
    | error e=>exact hr₂
    | ok fl₂ =>
     cases fl₂ with
     | ret r =>
      obtain ⟨rfl,h',tk,ks,rfl,hS',hm',hl',hk'⟩:=hr₂
      repeat (any_goals (first|assumption|wp_step))
      exact h _ _ _ hS' hm' hl' hk'
     | _=>exact hr₂.elim
  | _=>exact hr.elim
end
end Sw
namespace Sw
theorem MN:Manifest.owners.lookup (String.ofList ['r','o','t','a','r','e','t','i','_','t','e','s'].reverse)=some Manifest.sig_set_iterator:=by kernel_rfl
theorem gN:Slot "set_iterator" "__next__" "set_iterator.__next__" :=
 .of (owner:="set_iterator") (n:="__next__") (by rw [qK,jM];kernel_rfl) (by decide +kernel) (by decide +kernel) (by decide +kernel)
  (by first|exact .inl (by decide +kernel)|exact .inr (by decide +kernel)) (by rw [DW];kernel_rfl)
theorem qo:entryFor table "set_iterator.__next__"=some lO.«set_iterator.__next__»:=entryFor_of_tree (by kernel_rfl)
theorem rK (a:ai):argsOk "set_iterator.__next__" ⟨[a],[]⟩:=by
 unfold argsOk;rw [signature?_of (id:="set_iterator.__next__") (n:=['_','_','t','x','e','n','_','_']) (o:=['r','o','t','a','r','e','t','i','_','t','e','s']) (by kernel_rfl) MN];kernel_rfl
theorem zV:Slot "set_iterator" "__iter__" "set_iterator.__iter__" :=
 .of (owner:="set_iterator") (n:="__iter__") (by rw [qK,jM];kernel_rfl) (by decide +kernel) (by decide +kernel) (by decide +kernel)
  (by first|exact .inl (by decide +kernel)|exact .inr (by decide +kernel)) (by rw [DW];kernel_rfl)
theorem J7 (a:ai):argsOk "set_iterator.__iter__" ⟨[a],[]⟩:=by
 unfold argsOk;rw [signature?_of (id:="set_iterator.__iter__") (n:=['_','_','r','e','t','i','_','_']) (o:=['r','o','t','a','r','e','t','i','_','t','e','s']) (by kernel_rfl) MN];kernel_rfl
theorem Hd:entryFor table "set_iterator.__iter__"=some lO.«dict_keyiterator.__iter__» :=
 entryFor_alias (id':="dict_keyiterator.__iter__") (by kernel_rfl) rfl (by decide +kernel) (by kernel_rfl)
theorem EU:entryFor table "set.__iter__"=some lO.«frozenset.__iter__» :=
 entryFor_alias (id':="frozenset.__iter__") (by kernel_rfl) rfl (by decide +kernel) (by kernel_rfl)
theorem EV {α:Type} {l:List α}{i:Nat}(h:i<l.length):(l[i]::l.eraseIdx i).Perm l:=by
 rw [List.eraseIdx_eq_take_drop_succ]
 have e:l=l.take i++l[i]::l.drop (i+1):=by rw [List.getElem_cons_drop,jA]
 conv=>rhs;rw [e]
 exact G0.symm
theorem Ji {α:Type} (next:Nat->Nat):∀ (fuel k:Nat) (left:List α) (out:Array α),fuel=left.length->(LP next fuel k left out).toList.Perm (out.toList++left)
 | 0,k,left,out,h=>by
  have:left=[]:=iN h.symm
  subst this;simp [LP]
 | fuel+1,k,left,out,h=>by
  unfold LP
  have hlt:next k%left.length<left.length:=Nat.mod_lt _ (by omega)
  rw [aD hlt]
  dsimp only
  refine (Ji next fuel _ _ _ (by rw [Us];simp [hlt];omega)).trans ?_
  rw [DV,fq]
  refine vT _ ?_
  exact EV hlt
def AS (h:cg) (it:ag) (first:ai) (i:Nat) (a:ag) (n ep:Nat):Prop:=∃ o,h.get? it=some o/\o.cls=.type "set_iterator"/\o.data=.fields #[first,cO i,.ref a,cO n,cO ep]
theorem AS.keep {h h':cg}{it a:ag}{first:ai}{i n ep:Nat}(x:AS h it first i a n ep) (k:∀ o,h.get? it=some o->h'.get? it=some o):AS h' it first i a n ep:=let ⟨o,e,r⟩:=x;⟨o,k o e,r⟩
def RS (h:cg) (a:ag) (es:Array (Int×ai)) (ep:Nat) (t:i6):Prop:=∃ o,h.get? a=some o/\o.ExactSet/\o.data=.set es ep t/\t.fits es.size=true
theorem RS.keep {h h':cg}{a:ag}{es:Array (Int×ai)}{ep:Nat}{t:i6}(x:RS h a es ep t) (k:∀ o,h.get? a=some o->h'.get? a=some o):RS h' a es ep t:=let ⟨o,e,r⟩:=x;⟨o,k o e,r⟩
section
variable {prog:a8}{w:bT}{A:bZ}{E:ai->aq->Prop}{s:aq}{it a:ag}{es:Array (Int×ai)}{ep n:Nat}{t:i6}
theorem Q6 {first:ai}{i:Nat}{Q:ai->aq->Prop}(x:AS s.heap it first i a n ep) (h:Q (.ref it) s):aK (aY prog w) A (TF (.ref it)) Q E s:=by
 have hT:s.TypeIs (.ref it) "set_iterator":=let ⟨o,e,c,_⟩:=x;⟨o,e,c⟩
 refine LN hT zV (dZ zV hT Hd ?_ (J7 _))
 show aK _ _ (ret (.ref it)) _ _ s
 exact av ⟨_,rfl,"set_iterator",_,hT,gN.lookup,h⟩
def Ord (w:bT) (a:ag) (es:Array (Int×ai)) (ep:Nat) (t:i6) (vs:List ai) (sl:Nat->Nat):Prop :=
 sl 0=0/\vs.length=es.size/\((bt w=true/\vs=(Ei (w.params.setOrder a ep) es).toList.map (·.2)/\∀ i,sl i=0) \/
  (bt w=false/\vs=es.toList.map (·.2)/\(!t.plain && decide (es.size>1))=false/\(t.led=true)/\Cq t.place/\∀ i p,t.place[i]?=some p->sl (i+1)=p+1))
theorem Sr {i:Nat}{v:ai}{vs:List ai}{sl:Nat->Nat}{Q:Option ai->aq->Prop}(x:AS s.heap it (cO (sl i)) i a es.size ep) (r:RS s.heap a es ep t) (o:Ord w a es ep t vs sl) (hv:vs[i]?=some v)
  (q:∀ h',AS h' it (cO (sl (i+1))) (i+1) a es.size ep->je it s.heap h'->Q (some v) { s with heap:=h' }):aK (aY prog w) A (la (.ref it)) Q E s:=by
 have hT:s.TypeIs (.ref it) "set_iterator":=let ⟨o,e,c,_⟩:=x;⟨o,e,c⟩
 obtain ⟨ob,g,gc,gd⟩:=x
 obtain ⟨oa,ra,rx,rd,rf⟩:=r
 unfold la
 refine ae (iU (fQ (name:=gJ "__next__") hT gN (dZ gN hT qo ?_ (rK _))))
 unfold lO.«set_iterator.__next__»
 refine ae (m:=T7 "__next__" 0 _) (av ?_)
 refine ae (r0 g gd ?_)
 show aK _ _ (T8 a >>= _) _ _ s
 refine ae (pT ra rd rf ?_)
 rw [if_neg (by simp)]
 show aK _ _ (RR a ((sl i:Nat):Int).toNat ((i:Nat):Int).toNat ((ep:Nat):Int).toNat >>= _) _ _ s
 simp only [i4]
 have nxt:aK (aY prog w) A.in1 (RR a (sl i) i ep) (λz s'=>z=some (v,sl (i+1))/\s'=s) (λ_ _=>False) s:=by
  unfold RR
  refine ae (kI ra rd rf ?_)
  dsimp only
  refine ae ?_
  unfold IL
  refine ae (jF (av ?_))
  obtain ⟨o0,o1,⟨b1,b2,b3⟩|⟨b1,b2,b3,b4,b5,b6⟩⟩:=o
  ·have b1':(({ program:=(aY prog w).prog,params:=(aY prog w).w.params }:Setting).params.followText "set-order")=true:=b1
   rw [b1']
   simp only [↓reduceIte]
   rw [if_neg (by simp)]
   refine ae ?_
   unfold setWalk
   refine ae (kI ra rd rf ?_)
   dsimp only
   refine ae ?_
   unfold IL
   refine ae (jF (av ?_))
   rw [b1']
   simp only [↓reduceIte]
   refine ae (jF (av (av ⟨?_,rfl⟩)))
   have hv':=hv
   rw [b2,aG,dA] at hv'
   show Bb (λe=>(e.2,sl i)) (Ei (w.params.setOrder a ep) es)[i]?=_
   obtain ⟨e,he,ev⟩:=bV.mp hv'
   rw [he,b3 i,b3 (i+1)]
   simp [ev]
  ·have b1':(({ program:=(aY prog w).prog,params:=(aY prog w).w.params }:Setting).params.followText "set-order")=false:=b1
   rw [b1']
   simp only [cC,↓reduceIte]
   refine kq (λhd=>absurd (show (!t.plain && decide (es.size>1))=true from hd) (by rw [b3];decide)) (λ_=>ae ?_)
   show aK _ _ (if (!t.led && !es.isEmpty)=true then _ else _) _ _ _
   rw [if_neg (by rw [b4];simp)]
   refine av (av ⟨?_,rfl⟩)
   have hlt:i<es.size:=by rw [← o1];exact (aC.mp hv).1
   have hfs:t.place.size=es.size:=by
    have:=rf
    unfold Y5 at this
    simp at this
    exact this.1
   have hp:t.place[i]?=some (t.place[i]'(by omega)):=cE _
   have hbel:eW t.place (sl i)=i:=by
    refine MK b5 ?_
    cases i with
    | zero=>exact .inl ⟨rfl,o0⟩
    | succ k =>
     have hk:t.place[k]?=some (t.place[k]'(by omega)):=cE _
     exact .inr ⟨k,rfl,_,hk,b6 k _ hk⟩
   rw [hbel,hp,b6 i _ hp]
   rw [b2,aG,dA] at hv
   obtain ⟨e,he,ev⟩:=bV.mp hv
   rw [he]
   obtain ⟨e1,e2⟩:=e
   simp at ev
   simp [ev]
 refine ae (fj nxt (λz s' hz=>?_) λ_ _ x=>x.elim)
 obtain ⟨rfl,rfl⟩:=hz
 dsimp only
 have g1:=bz (kd (·.setIfInBounds 0 (cO ((sl (i+1):Nat):Int)))) g (mS (d0 gd _))
 refine ae (lQ g gd (by simp) (ae (lQ g1 (d0 gd _) (by simp) ?_)))
 have g2:=bz (kd (·.setIfInBounds 1 (cO ((i:Int)+1)))) g1 (mS (d0 (d0 gd _) _))
 refine av ⟨_,rfl,av (q _ ⟨_,g2,(vH ..).trans ((vH ..).trans gc),?_⟩ ((cV ..).trans (cV ..)))⟩
 rw [d0 (d0 gd _)]
 simp [cO]
theorem Vq {vs:List ai}{sl:Nat->Nat}{Q:Option ai->aq->Prop}(hh:A.handled=none) (x:AS s.heap it (cO (sl vs.length)) vs.length a es.size ep) (r:RS s.heap a es ep t) (o:Ord w a es ep t vs sl)
  (q:∀ h',Ur it s.heap h'->Q none { s with heap:=h' }):aK (aY prog w) A (la (.ref it)) Q E s:=by
 have hT:s.TypeIs (.ref it) "set_iterator":=let ⟨o,e,c,_⟩:=x;⟨o,e,c⟩
 obtain ⟨ob,g,gc,gd⟩:=x
 obtain ⟨oa,ra,rx,rd,rf⟩:=r
 unfold la
 refine ae (iU (fQ (name:=gJ "__next__") hT gN (dZ gN hT qo ?_ (rK _))))
 unfold lO.«set_iterator.__next__»
 refine ae (m:=T7 "__next__" 0 _) (av ?_)
 refine ae (r0 g gd ?_)
 show aK _ _ (T8 a >>= _) _ _ s
 refine ae (pT ra rd rf ?_)
 rw [if_neg (by simp)]
 show aK _ _ (RR a ((sl vs.length:Nat):Int).toNat ((vs.length:Nat):Int).toNat ((ep:Nat):Int).toNat >>= _) _ _ s
 simp only [i4]
 have nxt:aK (aY prog w) A.in1 (RR a (sl vs.length) vs.length ep) (λz s'=>z=none/\s'=s) (λ_ _=>False) s:=by
  unfold RR
  refine ae (kI ra rd rf ?_)
  dsimp only
  refine ae ?_
  unfold IL
  refine ae (jF (av ?_))
  obtain ⟨o0,o1,⟨b1,b2,b3⟩|⟨b1,b2,b3,b4,b5,b6⟩⟩:=o
  ·have b1':(({ program:=(aY prog w).prog,params:=(aY prog w).w.params }:Setting).params.followText "set-order")=true:=b1
   rw [b1']
   simp only [↓reduceIte]
   rw [if_neg (by simp)]
   refine ae ?_
   unfold setWalk
   refine ae (kI ra rd rf ?_)
   dsimp only
   refine ae ?_
   unfold IL
   refine ae (jF (av ?_))
   rw [b1']
   simp only [↓reduceIte]
   refine ae (jF (av (av ⟨?_,rfl⟩)))
   show Bb (λe=>(e.2,sl vs.length)) (Ei (w.params.setOrder a ep) es)[vs.length]?=_
   rw [lF (by have h:=o1;rw [b2,aj,aW] at h;rw [o1];exact GR h)]
   rfl
  ·have b1':(({ program:=(aY prog w).prog,params:=(aY prog w).w.params }:Setting).params.followText "set-order")=false:=b1
   rw [b1']
   simp only [cC,↓reduceIte]
   refine kq (λhd=>absurd (show (!t.plain && decide (es.size>1))=true from hd) (by rw [b3];decide)) (λ_=>ae ?_)
   show aK _ _ (if (!t.led && !es.isEmpty)=true then _ else _) _ _ _
   rw [if_neg (by rw [b4];simp)]
   refine av (av ⟨?_,rfl⟩)
   have hfs:t.place.size=es.size:=by
    have:=rf
    unfold Y5 at this
    simp at this
    exact this.1
   have hbel:eW t.place (sl vs.length)=vs.length:=by
    refine MK b5 ?_
    cases e:vs.length with
    | zero=>exact .inl ⟨rfl,o0⟩
    | succ k =>
     have hk:t.place[k]?=some (t.place[k]'(by omega)):=cE _
     exact .inr ⟨k,rfl,_,hk,b6 k _ hk⟩
   rw [hbel,lF (by omega)]
 refine ae (fj nxt (λz s' hz=>?_) λ_ _ x=>x.elim)
 obtain ⟨rfl,rfl⟩:=hz
 dsimp only
 refine ae (lQ g gd (by simp) ?_)
 show aK _ _ (Y1 (.type "StopIteration") [] >>= _) _ _ _
 refine ae ?_
 simp only [Y1,newTuple]
 refine ae (fI ?_ (by size_fits))
 refine ae (m:=r9 _ _) (Ov (a:=cI) (by first|rfl|(simp only [r9];rfl)) ?_)
 refine fI ?_ (by size_fits)
 simp only [raiseNew]
 refine ae (Xb ?_)
 rw [show A.in1.handled=none from hh]
 refine ae (av (wpAny_throw ?_))
 refine ae (pG (T:="StopIteration") (b:=true) ⟨_,aL _ rfl,rfl⟩ DU ?_)
 exact av (q _ (((cV ..).extBut.push _).push _))
theorem Ss (hh:A.handled=none) (I a:ag) (hne:a≠I) {vs:List ai}{sl:Nat->Nat}(o:Ord w a es ep t vs sl) :
  Walks prog w A I [I,a] [I] vs.length (λi v=>vs[i]?=some v) (λi h=>AS h I (cO (sl i)) i a es.size ep/\RS h a es ep t) where
 sub:=λb hb=>by simp at hb;simp [hb]
 frame:=λ_ _ _ st hk=>⟨st.1.keep λo e=>hk I (by simp) o e,st.2.keep λo e=>hk a (by simp) o e⟩
 item:=λi s Q E hi st hQ=>by
  have hv:vs[i]?=some vs[i]:=aD hi
  exact Sr st.1 st.2 o hv λh' x' hs'=>hQ _ h' s.toks hv ⟨x',st.2.keep λo e=>hs'.extBut a o hne e⟩ λb o hb e=>hs'.extBut b o (λh=>hb (by simp [h])) e
 done:=λs Q E st hQ=>Vq hh st.1 st.2 o λh' he=>hQ h' s.toks λb o hb e=>he b o (λh=>hb (by simp [h])) e
 self:=λ_ _ _ _ st hQ=>Q6 st.1 hQ
end
end Sw
namespace Sw
section
variable {prog:a8}{w:bT}{A:bZ}{E:ai->aq->Prop}{s:aq}{it a:ag}{es:Array (Int×ai)}{ep n:Nat}{t:i6}
theorem Su {M:TB}{src:Source}{k:Nat}{Q:Nat->aq->Prop}(hk:k≠0) (h:∀ i d,i<k->Q i { s with drawn:=d }):aK M A (choose src k) Q E s :=
 λΓ p hΓ=>⟨hk,h _ _ (Nat.mod_lt _ (Y6 hk))⟩
theorem Q7 {α:Type}:∀ (k:Nat) (xs:List α) {s:aq}{Q:List α->aq->Prop},xs.length=k->(∀ ys d,ys.Perm xs->Q ys { s with drawn:=d })->aK (aY prog w) A (drawOrder k xs) Q E s
 | 0,xs,s,Q,hl,h=>by
  have:xs=[]:=iN hl
  subst this
  exact av (h [] s.drawn (pH _))
 | k+1,[],s,Q,hl,h=>by simp at hl
 | k+1,x::xs,s,Q,hl,h=>by
  unfold drawOrder
  refine ae (Su (by simp) λi d hi=>?_)
  rw [aD hi]
  dsimp only
  refine ae (Q7 k _ (by rw [Us,if_pos hi];omega) λys d' hp=>av (h _ d' ?_))
  exact (hp.cons _).trans (EV hi)
structure Dr (h:cg) (T:ag) (es:Array (Int×ai)) (ord:List Nat) (vs:List ai):Prop where
 tup:∃ o,h.get? T=some o/\o.data=.seq (ord.map λ(i:Nat)=>cO (i:Int)).toArray 0
 len:vs.length=ord.length
 at_:∀ (i:Nat) p,ord[i]?=some p->∃ e,es[p]?=some e/\vs[i]?=some e.2
theorem Yh {T:ag}{ord:List Nat}{i:Nat}{v:ai}{vs:List ai}{Q:Option ai->aq->Prop}(x:AS s.heap it (.ref T) i a es.size ep) (r:RS s.heap a es ep t) (o:Dr s.heap T es ord vs) (hv:vs[i]?=some v)
  (q:∀ h',AS h' it (.ref T) (i+1) a es.size ep->je it s.heap h'->Q (some v) { s with heap:=h' }):aK (aY prog w) A (la (.ref it)) Q E s:=by
 have hT:s.TypeIs (.ref it) "set_iterator":=let ⟨o,e,c,_⟩:=x;⟨o,e,c⟩
 obtain ⟨ob,g,gc,gd⟩:=x
 obtain ⟨oa,ra,rx,rd,rf⟩:=r
 obtain ⟨⟨ot,gt,gtd⟩,ol,oat⟩:=o
 have hi:i<ord.length:=by rw [← ol];exact (aC.mp hv).1
 obtain ⟨e,he,hve⟩:=oat i _ (aD hi)
 rw [hv] at hve
 cases hve
 unfold la
 refine ae (iU (fQ (name:=gJ "__next__") hT gN (dZ gN hT qo ?_ (rK _))))
 unfold lO.«set_iterator.__next__»
 refine ae (m:=T7 "__next__" 0 _) (av ?_)
 refine ae (r0 g gd ?_)
 show aK _ _ (T8 a >>= _) _ _ s
 refine ae (pT ra rd rf ?_)
 rw [if_neg (by simp)]
 show aK _ _ (Ej (.ref T) >>= _) _ _ s
 have sq:aK (aY prog w) A.in1 (Ej (.ref T)) (λz s'=>z=some (ord.map λ(i:Nat)=>cO (i:Int)).toArray/\s'=s) (λ_ _=>False) s:=by
  unfold Ej
  refine ae (TH gt ?_)
  rw [gtd]
  exact av ⟨rfl,rfl⟩
 refine ae (fj sq (λz s' hz=>?_) λ_ _ x=>x.elim)
 obtain ⟨rfl,rfl⟩:=hz
 dsimp only
 have hpi:(ord.map λ(i:Nat)=>cO (i:Int)).toArray[((i:Nat):Int).toNat]?=some (cO (ord[i]:Int)):=by
  rw [i4,yJ,aG,aD hi];rfl
 show aK _ _ (match (ord.map λ(i:Nat)=>cO (i:Int)).toArray[((i:Nat):Int).toNat]? with|some (.int place _)=>_|some _=>_|none=>_) _ _ _
 rw [hpi]
 show aK _ _ (setNextDrawn a ((ord[i]:Nat):Int).toNat ((ep:Nat):Int).toNat >>= _) _ _ _
 simp only [i4]
 refine ae ?_
 unfold setNextDrawn
 refine ae (kI ra rd rf ?_)
 dsimp only
 rw [if_neg (by simp),he]
 refine av (ae (lQ g gd (by simp) ?_))
 have g1:=bz (kd (·.setIfInBounds 1 (cO ((i:Int)+1)))) g (mS (d0 gd _))
 refine av ⟨_,rfl,av (q _ ⟨_,g1,(vH ..).trans gc,?_⟩ (cV ..))⟩
 rw [d0 gd]
 simp [cO]
theorem aaO {T:ag}{ord:List Nat}{vs:List ai}{Q:Option ai->aq->Prop}(hh:A.handled=none) (x:AS s.heap it (.ref T) vs.length a es.size ep) (r:RS s.heap a es ep t) (o:Dr s.heap T es ord vs)
  (q:∀ h',Ur it s.heap h'->Q none { s with heap:=h' }):aK (aY prog w) A (la (.ref it)) Q E s:=by
 have hT:s.TypeIs (.ref it) "set_iterator":=let ⟨o,e,c,_⟩:=x;⟨o,e,c⟩
 obtain ⟨ob,g,gc,gd⟩:=x
 obtain ⟨oa,ra,rx,rd,rf⟩:=r
 obtain ⟨⟨ot,gt,gtd⟩,ol,oat⟩:=o
 unfold la
 refine ae (iU (fQ (name:=gJ "__next__") hT gN (dZ gN hT qo ?_ (rK _))))
 unfold lO.«set_iterator.__next__»
 refine ae (m:=T7 "__next__" 0 _) (av ?_)
 refine ae (r0 g gd ?_)
 show aK _ _ (T8 a >>= _) _ _ s
 refine ae (pT ra rd rf ?_)
 rw [if_neg (by simp)]
 show aK _ _ (Ej (.ref T) >>= _) _ _ s
 have sq:aK (aY prog w) A.in1 (Ej (.ref T)) (λz s'=>z=some (ord.map λ(i:Nat)=>cO (i:Int)).toArray/\s'=s) (λ_ _=>False) s:=by
  unfold Ej
  refine ae (TH gt ?_)
  rw [gtd]
  exact av ⟨rfl,rfl⟩
 refine ae (fj sq (λz s' hz=>?_) λ_ _ x=>x.elim)
 obtain ⟨rfl,rfl⟩:=hz
 dsimp only
 have hpi:(ord.map λ(i:Nat)=>cO (i:Int)).toArray[((vs.length:Nat):Int).toNat]?=none:=by
  rw [i4,yJ,aG,cM (by omega)];rfl
 show aK _ _ (match (ord.map λ(i:Nat)=>cO (i:Int)).toArray[((vs.length:Nat):Int).toNat]? with|some (.int place _)=>_|some _=>_|none=>_) _ _ _
 rw [hpi]
 dsimp only
 have g1:=bz (kd (·.setIfInBounds 0 (cO 0))) g (mS (d0 gd _))
 refine ae (lQ g gd (by simp) (ae (lQ g1 (d0 gd _) (by simp) ?_)))
 show aK _ _ (Y1 (.type "StopIteration") [] >>= _) _ _ _
 refine ae ?_
 simp only [Y1,newTuple]
 refine ae (fI ?_ (by size_fits))
 refine ae (m:=r9 _ _) (Ov (a:=cI) (by first|rfl|(simp only [r9];rfl)) ?_)
 refine fI ?_ (by size_fits)
 simp only [raiseNew]
 refine ae (Xb ?_)
 rw [show A.in1.handled=none from hh]
 refine ae (av (wpAny_throw ?_))
 refine ae (pG (T:="StopIteration") (b:=true) ⟨_,aL _ rfl,rfl⟩ DU ?_)
 exact av (q _ ((((cV ..).trans (cV ..)).extBut.push _).push _))
theorem Vr (hh:A.handled=none) (I a T:ag) (hne:a≠I) (hnT:T≠I) {ord:List Nat}{vs:List ai} :
  Walks prog w A I [I,a,T] [I] vs.length (λi v=>vs[i]?=some v) (λi h=>AS h I (.ref T) i a es.size ep/\RS h a es ep t/\Dr h T es ord vs) where
 sub:=λb hb=>by simp at hb;simp [hb]
 frame:=λ_ _ _ st hk=>⟨st.1.keep λo e=>hk I (by simp) o e,st.2.1.keep λo e=>hk a (by simp) o e,let ⟨o,e,d⟩:=st.2.2.tup;⟨⟨o,hk T (by simp) o e,d⟩,st.2.2.len,st.2.2.at_⟩⟩
 item:=λi s Q E hi st hQ=>by
  have hv:vs[i]?=some vs[i]:=aD hi
  exact Yh st.1 st.2.1 st.2.2 hv λh' x' hs'=>hQ _ h' s.toks hv ⟨x',st.2.1.keep λo e=>hs'.extBut a o hne e,let ⟨o,e,d⟩:=st.2.2.tup;⟨⟨o,hs'.extBut T o hnT e,d⟩,st.2.2.len,st.2.2.at_⟩⟩ λb o hb e=>hs'.extBut b o (λh=>hb (by simp [h])) e
 done:=λs Q E st hQ=>aaO hh st.1 st.2.1 st.2.2 λh' he=>hQ h' s.toks λb o hb e=>he b o (λh=>hb (by simp [h])) e
 self:=λ_ _ _ _ st hQ=>Q6 st.1 hQ
theorem Vs {ks:List Int}{Q:ai->aq->Prop}(hh:A.handled=none) (hS:SO prog w (bt w) s.heap a ks)
  (q:∀ I h1 d (vs:List ai) (ns:List Int) fp St,Walks prog w A I fp [I] vs.length (λi v=>vs[i]?=some v) St->St 0 h1->(∀ b o,s.heap.get? b=some o->h1.get? b=some o)->I∈fp->(∀ b∈fp,b=a\/s.heap.objs.size<=b)->s.heap.objs.size<=I->ip vs ns->ns.Perm ks->Q (.ref I) { s with heap:=h1,drawn:=d }) :
  aK (aY prog w) A (TF (.ref a)) Q E s:=by
 have hlt:=hS.lt
 obtain ⟨o,es,ep,t,ho,hex,hd,hel,hin,hb,hf,ti,hled,rfl,hnd⟩:=hS
 have hT:s.TypeIs (.ref a) "set":=⟨o,ho,hex.1⟩
 have hints:∀ {l:List (Int×ai)},(∀ e∈l,∃ u,e.2=.int (key e) u)->ip (l.map (·.2)) (l.map key):=by
  intro l
  induction l with
  | nil=>intro _;exact .nil
  | cons e l ih =>
   intro h
   obtain ⟨u,eu⟩:=h e aw
   rw [cn,cn,eu]
   exact .cons _ _ (ih λe' he'=>h e' (ah _ he'))
 refine LN hT F.slot_set_iter (dZ F.slot_set_iter hT EU ?_ (F.args_set_iter_1 _))
 unfold lO.«frozenset.__iter__» abu T7
 simp only [List.isEmpty_nil,Bool.not_true,cC,↓reduceIte,bind_assoc,sJ,bne_self_eq_false]
 unfold abv abw
 refine ae (av ?_)
 try dsimp only
 refine ae (av ?_)
 refine ae (ae (pT ho hd hf (av ?_)))
 refine ae ?_
 unfold setDrawn
 refine ae (kI ho hd hf ?_)
 dsimp only
 refine ae ?_
 unfold IL
 refine ae (jF (av (av ?_)))
 have hz:es.size<=bf:=LO hb
 have hrs:RS s.heap a es ep t:=⟨o,ho,hex,hd,hf⟩
 refine kq (λhdr=>?_) (λhdr=>?_)
 ·refine ae (Q7 es.size (fM es.size) (jN) λord d hp=>?_)
  have hol:ord.length=es.size:=by rw [hp.length_eq,jN]
  refine ae (DS ?_ (by rw [aj,hol];exact hz))
  have k1:∀ b ob,s.heap.get? b=some ob->(s.heap.push (bL "tuple" (ord.map λ(i:Nat)=>cO (i:Int)).toArray 0)).get? b=some ob:=λb ob e=>au _ e
  have gT:(s.heap.push (bL "tuple" (ord.map λ(i:Nat)=>cO (i:Int)).toArray 0)).get? s.heap.objs.size=some (bL "tuple" (ord.map λ(i:Nat)=>cO (i:Int)).toArray 0):=aL _ rfl
  have hsz:(s.heap.push (bL "tuple" (ord.map λ(i:Nat)=>cO (i:Int)).toArray 0)).objs.size=s.heap.objs.size+1:=iM ..
  generalize s.heap.push (bL "tuple" (ord.map λ(i:Nat)=>cO (i:Int)).toArray 0)=h0 at k1 gT hsz
  refine ae (wpAny_setEpoch_of (s:={ s with heap:=h0,drawn:=d }) (k1 _ _ ho) hd hf ?_)
  unfold newFields
  refine ae (fI (av ⟨_,rfl,"set_iterator",_,⟨_,aL _ rfl,rfl⟩,gN.lookup,?_⟩))
  have hmem:∀ p∈ord,p<es.size:=λp hpm=>by simpa using hp.mem_iff.mp hpm
  have hget:∀ p,p<es.size->es[p]?=some (es.getD p (0,.none)):=λp hp'=>by rw [cE hp'];simp [uc,hp']
  have hperm:(ord.map λp=>es.getD p (0,.none)).Perm es.toList:=by
   refine (hp.map _).trans ?_
   have:(fM es.size).map (λp=>es.getD p (0,.none))=es.toList:=by
    apply jL
    intro i
    rw [aG]
    by_cases hi:i<es.size
    ·rw [W9 hi,dA,hget i hi];rfl
    ·rw [cM (by rw [jN];omega),cM (by rw [aW];omega)];rfl
   rw [this]
  have hsub:∀ e∈ord.map (λp=>es.getD p (0,.none)),∃ u,e.2=.int (key e) u:=λe he=>hin e (hperm.mem_iff.mp he)
  have hst:AS (h0.push { cls:=.type "set_iterator",data:=.fields [aE s.heap.objs.size,cO 0,.ref a,cO es.size,cO ep].toArray }) h0.objs.size (.ref s.heap.objs.size) 0 a es.size ep:=⟨_,aL _ rfl,rfl,rfl⟩
  have haI:a≠h0.objs.size:=by rw [hsz];exact aS (qZ hlt)
  have hTI:s.heap.objs.size≠h0.objs.size:=by rw [hsz];exact aS (ji _)
  refine q h0.objs.size _ d ((ord.map λp=>es.getD p (0,.none)).map (·.2)) ((ord.map λp=>es.getD p (0,.none)).map key) [h0.objs.size,a,s.heap.objs.size] _ (Vr (es:=es) (ep:=ep) (t:=t) (ord:=ord) hh h0.objs.size a s.heap.objs.size haI hTI) ⟨hst,hrs.keep λob e=>au _ (k1 _ _ e),⟨_,au _ gT,rfl⟩,by rw [aj,aj],λi p hip=>?_⟩
   (λb ob e=>au _ (k1 _ _ e)) (by simp) (λb hb'=>?_) (by rw [hsz];exact gQ _) (hints hsub) (hperm.map key)
  ·have hpl:=hmem p (a9 hip)
   exact ⟨_,hget p hpl,by rw [aG,aG,hip];rfl⟩
  ·simp only [ay,eL,or_false] at hb'
   rcases hb' with rfl|rfl|rfl
   ·exact .inr (by rw [hsz];exact gQ _)
   ·exact .inl rfl
   ·exact .inr (ax _)
 ·refine ae (av (ae (wpAny_setEpoch_of ho hd hf ?_)))
  unfold newFields
  refine ae (fI (av ⟨_,rfl,"set_iterator",_,⟨_,aL _ rfl,rfl⟩,gN.lookup,?_⟩))
  have hst:AS (s.heap.push { cls:=.type "set_iterator",data:=.fields [cO 0,cO 0,.ref a,cO es.size,cO ep].toArray }) s.heap.objs.size (cO 0) 0 a es.size ep:=⟨_,aL _ rfl,rfl,rfl⟩
  obtain ⟨vs,sl,ns,hord,hiv,hpn⟩:∃ vs sl ns,Ord w a es ep t vs sl/\ip vs ns/\ns.Perm (es.toList.map key):=by
   by_cases hbt:bt w=true
   ·have hpp:=Ji (w.params.setOrder a ep) es.size 0 es.toList #[] (aW).symm
    rw [show (#[]:Array (Int×ai)).toList++es.toList=es.toList by simp] at hpp
    have hpp:(Ei (w.params.setOrder a ep) es).toList.Perm es.toList:=hpp
    exact ⟨(Ei (w.params.setOrder a ep) es).toList.map (·.2),λ_=>0,(Ei (w.params.setOrder a ep) es).toList.map key,⟨rfl,by rw [aj,hpp.length_eq,aW],.inl ⟨hbt,rfl,λ_=>rfl⟩⟩,hints λe he=>hin e (hpp.mem_iff.mp he),hpp.map key⟩
   ·have hbf:bt w=false:=by cases h:bt w<;>simp_all
    refine ⟨es.toList.map (·.2),λi=>match i with|0=>0|k+1=>t.place.getD k 0+1,es.toList.map key,⟨rfl,by rw [aj,aW],.inr ⟨hbf,rfl,?_,by rw [hled,hbf];rfl,ti.rise,λi p hp=>?_⟩⟩,hints hin,pH _⟩
    ·cases hx:(!t.plain && decide (es.size>1)) with
     | false=>rfl
     | true =>
      refine absurd ?_ hdr
      show (!(w.params.followText "set-order") && (!t.plain && decide (es.size>1)))=true
      rw [hx,show w.params.followText "set-order"=false from hbf];rfl
    ·have:=(jj.mp hp)
     obtain ⟨hlt',e⟩:=this
     show t.place.getD i 0+1=p+1
     simp [uc,hlt',e]
  have h0:=hord.1
  refine q s.heap.objs.size _ s.drawn vs ns [s.heap.objs.size,a] _ (Ss hh s.heap.objs.size a (aS hlt) hord) ⟨by rw [h0];exact hst,hrs.keep λob e=>au _ e⟩ (λb ob e=>au _ e) (by simp) (λb hb'=>?_) (ax _) hiv hpn
  simp only [ay,eL,or_false] at hb'
  rcases hb' with rfl|rfl
  ·exact .inr (ax _)
  ·exact .inl rfl
end
end Sw
namespace Sw
open PySem PySem.Spec PyProof.Rows PySem.W
section
variable {prog:a8}{w:bT}{A:bZ}{E:ai->aq->Prop}{s:aq}{a:ag}
theorem Vt {Q:Bool->aq->Prop}(hT:s.TypeIs (.ref a) "set") (h:Q false s):aK (aY prog w) A (gv (.ref a)) Q E s:=by
 unfold gv
 refine ae (uI hT PySem.F.slot_set_len.lookup ?_)
 generalize hid:("set.__len__":String)=id0
 wp_delta
 rw [show splitId id0=some ("set","__len__") from by subst hid;decide +kernel]
 subst hid
 refine ae (pG (T:="set") (b:=true) hT (by rw [DW];kernel_rfl) ?_)
 refine kq (λhab=>absurd hab (by decide)) (λ_=>?_)
 refine kq (λ_=>?_) (λhab=>absurd (by decide +kernel) hab)
 refine ae (LM hT ?_)
 exact av h
theorem Vu {S:ag}{ks:List Int}{R:Oa->aq->Prop}(hh:A.handled=none) (hS:SO prog w (bt w) s.heap a ks) (hSa:S≠a) (hn:ks.length<=bf) (g:s.heap.get? S=some { cls:=.type "list",data:=.seq #[] 0 })
  (q:∀ h' tk d acc' c' (ns:List Int),(∀ b o,b≠S->s.heap.get? b=some o->h'.get? b=some o)->h'.get? S=some { cls:=.type "list",dict:=none,data:=.seq acc' c',slots:=#[] }->ip acc'.toList ns->ns.Perm ks->R (.ok (.ret (.ref S))) { s with heap:=h',toks:=tk,drawn:=d }) :
  mQ (aY prog w) A (.builtin "list.__iadd__" ⟨[.ref S,.ref a],[]⟩) R s:=by
 have hT:s.TypeIs (.ref a) "set":=let ⟨o,_,_,_,e,c,_⟩:=hS;⟨o,e,c.1⟩
 refine ko F.entry_list_iadd ?_
 rw [iJ F.plain_list_iadd _]
 show aK _ A.in1 (dM (.ref S) (.ref a) (.ref S)) _ _ s
 unfold dM
 refine ae (LM (T:="set") hT ?_)
 have h1:hV (.ref S) (.ref a)=false:=by simp [hV,hSa]
 have h2:(eK "set" == eK "list")=false:=by decide
 have h3:(eK "set" == eK "tuple")=false:=by decide
 simp only [h1,h2,h3,Ou,cC,if_false]
 refine ae (Vs (A:=A.in1) hh hS λI h1 d vs ns fp St W st kp hI hfp hIl hiv hpn=>?_)
 have hSf:S∉fp:=λhm=>by
  rcases hfp S hm with e|e
  ·exact hSa e
  ·exact absurd (aI g) (Nat.not_lt.mpr e)
 have hln:vs.length=ks.length:=by rw [hiv.length,hpn.length_eq]
 have hn':vs.length<=bf:=by omega
 have hT1:({ s with heap:=h1,drawn:=d }:aq).TypeIs (.ref a) "set":=let ⟨o,e,c⟩:=hT;⟨o,kp _ _ e,c⟩
 have key:∀ (h:cg) (c₁:Nat),St 0 h->(∀ b o,b≠S->s.heap.get? b=some o->h.get? b=some o)->h.get? S=some { cls:=.type "list",data:=.seq #[] c₁ } ->
   mQ (aY prog w) A (.builtin "list.extend.loop" ⟨[.ref S,.ref I,.ref S],[]⟩) R { s with heap:=h,drawn:=d }:=by
  intro h c₁ hst hk hS₁
  refine DX W.toS hn' S hSf (.ref S) vs.length 0 _ #[] c₁ rfl (bG _) hst hS₁ (QM _) λs' acc' c' hm hS' hacc=>?_
  have es:s'={ s with heap:=s'.heap,toks:=s'.toks,drawn:=d }:=by have e:=Moved.eq_with hm;exact e
  rw [es]
  have ea:acc'.toList=vs:=L2.Vk hacc
  refine q s'.heap s'.toks d acc' c' ns (λb o hb e=>hm.heap b o (λhmem=>?_) (hk b o hb e)) hS' (by rw [ea];exact hiv) hpn
  rcases ay.mp hmem with e'|hmem
  ·exact hb e'
  ·rw [aF.mp hmem] at e
   exact absurd (aI e) (Nat.not_lt.mpr hIl)
 refine ae (cF (Vt hT1 ?_))
 refine kq (λ_=>?_) (λ_=>av ⟨jC fU _,key _ 0 st (λb o _ e=>kp b o e) (kp _ _ g)⟩)
 refine ae (sQ (ae ?_))
 show aK _ _ (zt S (·.push .none) >>= λ_=>zt S (·.pop)) _ _ _
 refine ae (m9 (kp _ _ g) rfl ?_)
 have g2:=bz (bu (·.push cI)) (kp _ _ g) rfl
 refine m9 (hz:=by seq_fits) g2 rfl ?_
 have g3:=bz (bu (·.pop)) g2 rfl
 refine av ⟨jC fU _,key _ _ ?_ (λb o hb e=>?_) g3⟩
 ·refine W.frame 0 _ _ st λb hb o e=>?_
  have hbS:b≠S:=λh=>hSf (h▸hb)
  exact (bW _ _ (Ne.symm hbS)).trans ((bW _ _ (Ne.symm hbS)).trans e)
 ·exact (bW _ _ (Ne.symm hb)).trans ((bW _ _ (Ne.symm hb)).trans (kp b o e))
theorem MO {ks:List Int}{Q:List ai->aq->Prop}(hh:A.handled=none) (hS:SO prog w (bt w) s.heap a ks) (hn:ks.length<=bf)
  (q:∀ h' tk d vs (ns:List Int),(∀ b o,s.heap.get? b=some o->h'.get? b=some o)->ip vs ns->ns.Perm ks->Q vs { s with heap:=h',toks:=tk,drawn:=d }):aK (aY prog w) A (collect (.ref a)) Q E s:=by
 have hlt:=hS.lt
 unfold collect
 refine ae (wpAny_runValue (ko F.entry_proto_collect ?_))
 rw [iJ F.plain_proto_collect _]
 show aK _ A.in1 (newList [] >>= λl=>again (.builtin "list.__iadd__" ⟨[l,.ref a],[]⟩)) _ _ s
 have g:(s.heap.push { cls:=.type "list",data:=.seq ([]:List ai).toArray }).get? s.heap.objs.size=some { cls:=.type "list",data:=.seq #[] 0 }:=aL _ rfl
 refine ae (fI (av ⟨jC F.plain_list_iadd _,Vu (s:={ s with heap:=s.heap.push { cls:=.type "list",data:=.seq ([]:List ai).toArray } }) hh (hS.keep λo e=>au _ e) (fY hlt) hn g λh' tk d acc' c' ns hk hS' hi hp=>?_⟩))
 show aK _ A (load s.heap.objs.size >>= _) _ _ { s with heap:=h',toks:=tk,drawn:=d }
 refine ae (TH hS' (av (q h' tk d acc'.toList ns (λb o e=>hk b o (aS (aI e)) (au _ e)) hi hp)))
theorem OW {ks:List Int}{h₀:cg} {L:ag}{m:aZ->Option ai}{news:List (ag×gC)}{Q:ai->aq->Prop}(hh:A.handled=none) (hS:SO prog w (bt w) s.heap a ks) (h64:ks.length<64) (F:Fr h₀ L s.heap m) (N:AY h₀ L s.heap news)
  (q:∀ D c h' tk d (out:List ai) (ns:List Int),Fr h₀ L h' m->AY h₀ L h' ((D,bL "list" out.toArray c)::news)->(∀ p∈news,p.1<D)->ip out ns->ns.Perm ks->ns.Pairwise (·<=·)->Q (.ref D) { s with heap:=h',toks:=tk,drawn:=d }) :
  aK (aY prog w) A (call (.builtin "sorted") [.ref a]) Q E s:=by
 refine L0 kind_sorted YX YY (args_sorted1 _) (ae (m:=checkCount "sorted" 1 1 _) (av (ae (MO hh hS (L2.bA (m:=64) (by omega)) λh1 tk d vs ns keep hi hp=>?_))))
 have hvl:vs.length<64:=by rw [hi.length,hp.length_eq];exact h64
 have hz:vs.length<=bf:=L2.bA (m:=64) (by omega)
 refine ae (yi ?_ hz)
 have F1:=F.kept keep
 have N1:=N.grown keep
 have hL:L<h1.objs.size:=F1.ns.lt
 have g:(h1.push (bL "list" vs.toArray 0)).get? h1.objs.size=some (bL "list" vs.toArray 0):=aL _ rfl
 show aK (aY prog w) A.in1 (do let _ ← qH [aE h1.objs.size] (call (.builtin "list.sort") [aE h1.objs.size]);ret (aE h1.objs.size)) _ _ { s with heap:=h1.push (bL "list" vs.toArray 0),toks:=tk,drawn:=d }
 refine ae (cF (dZ TX ⟨_,g,rfl⟩ QJ (list_sort_tree (s:={ s with heap:=h1.push (bL "list" vs.toArray 0),toks:=tk,drawn:=d }) g hi hvl λout ns' a1 a2 a3=>⟨_,rfl,av ⟨_,rfl,?_⟩⟩) (args_list_sort _)))
 have hb:∀ b o,s.heap.get? b=some o->b≠h1.objs.size:=λb o e=>aS (aI (keep b o e))
 have k7:∀ b o,s.heap.get? b=some o->(sortedHeap (h1.push (bL "list" vs.toArray 0)) h1.objs.size vs out).get? b=some o:=λb o e=>by
  unfold sortedHeap
  exact (bW _ _ (Ne.symm (hb b o e))).trans (au _ (au _ ((bW _ _ (Ne.symm (hb b o e))).trans (au _ (keep b o e)))))
 obtain ⟨c1,g2⟩:∃ c1,((h1.push (bL "list" vs.toArray 0)).update h1.objs.size (bu λ_=>#[])).get? h1.objs.size=some (bL "list" #[] c1):=⟨_,uH g λ_=>#[]⟩
 obtain ⟨c7,g7⟩:∃ c7,(sortedHeap (h1.push (bL "list" vs.toArray 0)) h1.objs.size vs out).get? h1.objs.size=some (bL "list" out c7):=⟨_,uH (au _ (au _ g2)) λ_=>out⟩
 refine q h1.objs.size c7 _ tk d out.toList ns' (F.kept k7) (λp hp'=>?_) (λp hp'=>aI (N1 p hp').1) a1 (a2.trans hp) a3
 rcases ay.mp hp' with rfl|hp'
 ·exact ⟨by simpa using g7,fY hL,zA (bE F1.above (oi hL))⟩
 ·exact (N.grown k7) p hp'
end
end Sw
namespace L2
open PySem PySem.Spec PyProof.Rows PySem.W
theorem Inv.drawn {X:Cx}{pins:List (ag×gC)}{Z:St}{H:Hp}{s:aq}(I:Inv X pins Z H s) (d:Drawn):Inv X pins Z H { s with drawn:=d }:=⟨I.ok,I.os,I.bare,I.base,I.loc,I.cell,I.free,I.rC,I.pin,I.fX,I.len⟩
def zW (K:aa) (t:TA):TE:=λZ H Q=>t Z H λvs H1=>∃ (a:ag) (ns:List Int),vs=[.ref a]/\fg K H1 a (ns.map V.int)/\ns.length<=4000/\(∃ ds:List Int,ds.length<64/\∀ x∈ns,x∈ds) /\
 ∀ p (ks:List Int),H1 p=none->ks.Pairwise (· < ·)->(∀ x,x∈ks↔x∈ns)->Q (.ref p) (upd H1 p (.lst (ks.map V.int)))
theorem Sv {K:aa}{t:TA}{Z:St}{H:Hp}{Q:VK}(h:t Z H λvs H1=>∃ (a:ag) (ns:List Int),vs=[.ref a]/\fg K H1 a (ns.map V.int)/\ns.length<=4000/\(∃ ds:List Int,ds.length<64/\∀ x∈ns,x∈ds) /\
 ∀ p (ks:List Int),H1 p=none->ks.Pairwise (· < ·)->(∀ x,x∈ks↔x∈ns)->Q (.ref p) (upd H1 p (.lst (ks.map V.int)))):zW K t Z H Q:=h
theorem Vv {ks ds:List Int}(hn:ks.Nodup) (h:∀ x∈ks,x∈ds):ks.length<=ds.length:=by
 induction ks generalizing ds with
 | nil=>simp
 | cons a ks ih =>
  obtain ⟨h1,h2⟩:=bq.mp hn
  obtain ⟨l1,l2,rfl⟩:=pL (h a aw)
  have:=ih (ds:=l1++l2) h2 λx hx=>by
   have hx':=h x (ah _ hx)
   rcases a7.mp hx' with q|q
   ·exact dh _ q
   ·rcases ay.mp q with q|q
    ·exact absurd (q▸hx) h1
    ·exact bp _ q
  simp at this ⊢;omega
section
variable {X:Cx}{x:Expr}{t:TA}{p1 p2 q1 q2:rD}
theorem EW (hc:X.calm=true) (hgl:Gl X "sorted") (hml:X.mg "sorted"=none) (hgz:Gl X "set") (hmz:X.mg "set"=none) (ha:PA X [x] t)
  (he:bw [.Call (.Name "set" p1) [x] [] p2] X.env=[(false,gp (.Call (.Name "set" p1) [x] [] p2) X.env)]:=by rfl) (he2:bw [x] X.env=(false,gp x X.env)::bw [] X.env:=by rfl) (hpl:(jg p2 (bw [] X.env)).any (·.1)=false:=by rfl) :
  PE X (.Call (.Name "sorted" q1) [.Call (.Name "set" p1) [x] [] p2] [] q2) (zW X.K t):=by
 intro pins s Z H Q I h
 refine dC (rg I hgl hml BootT.EI (zB ?_ he rfl))
 rw [he]
 show aK _ _ (YR ((false,gp (.Call (.Name "set" p1) [x] [] p2) X.env)::jg q2 (bw [] X.env))) _ _ s
 refine lE (dC (rg I hgz hmz BootT.set (dJ (iO (ha p2 pins s Z H _ I h) λus s1 ⟨vs,H1,I1,r1,q⟩=>?_) he2 hpl)))
 obtain ⟨a,ns,rfl,hA,hl4,⟨ds,hds,hsub⟩,k⟩:=q
 obtain ⟨u,rfl,ru⟩:=vals1 r1
 cases ru
 obtain ⟨its,rv,pl,hz⟩:=I1.list hA
 have hi:ip its ns:=intsAre_of rv
 have hlen:=hi.length
 refine Sw.Vp (ns:=ns) (I1.ok.hd hc) pl.isList (by simpa using hi) (by rw [aV,hlen];unfold zw;omega) λh2 tk ks hS hmem hle hk=>ql ?_
 have hnd:ks.Nodup:=by obtain ⟨_,_,_,_,_,_,_,_,_,_,_,_,_,_,hn⟩:=hS;exact hn
 have h64:ks.length<64:=bj (Vv hnd λx hx=>hsub x ((hmem x).mp hx)) hds
 have I2:Inv X pins Z H1 { s1 with heap:=h2,toks:=tk }:=I1.kept (t':=tk) hk
 obtain ⟨m,F,N⟩:=I2.xm
 refine Sw.OW (s:={ s1 with heap:=h2,toks:=tk }) (I1.ok.hd hc) hS h64 F N λD c h' tk' d out ms F' N' hD a1 a2 a3=>?_
 obtain ⟨hn,I3⟩:=I2.GM (t':=tk') (o:=.lst (ms.map V.int)) F.ns F' N' hD ⟨by rw [aj,a2.length_eq];exact bA (m:=64) (by omega),out,c,Bj a1,(N' _ aw).1⟩
 refine ⟨.ref D,_,I3.drawn d,rfl,k D ms hn ?_ (λx=>by rw [a2.mem_iff,hmem])⟩
 have hnd':ms.Nodup:=a2.nodup_iff.mpr hnd
 exact (List.Pairwise.and a3 hnd').imp λ{x y} h=>by
  have h1:=h.1;have h2:x≠y:=h.2
  omega
end
end L2
namespace L2
open PySem PySem.Spec PyProof.Rows PySem.W
section
variable {X:Cx}
end
end L2
namespace L2
def Kp (h h':cg):Prop:=∀ b o,h.get? b=some o->∃ o',h'.get? b=some o'/\o'.cls=o.cls/\o'.dict=o.dict
theorem Kp.refl (h:cg):Kp h h:=λb o e=>⟨o,e,rfl,rfl⟩
theorem Kp.trans {h h1 h2:cg}(a:Kp h h1) (b:Kp h1 h2):Kp h h2:=λc o e=>by
 obtain ⟨o1,e1,p1,q1⟩:=a c o e
 obtain ⟨o2,e2,p2,q2⟩:=b c o1 e1
 exact ⟨o2,e2,p2.trans p1,q2.trans q1⟩
inductive Quiet {α:Type}:LC α->Prop where
 | pure (a:α):Quiet (.pure a)
 | unsup (w:String):Quiet (.unsupported w)
 | load {a:ag}{p:Option ai}{k:gC->LC α}(h:∀ o,Quiet (k o)):Quiet (.load a p k)
 | update {a:ag}{p:Option ai}{f:gC->gC}{k:Unit->LC α}(hf:∀ o,(f o).cls=o.cls/\(f o).dict=o.dict/\(o.isFreed=false->(f o).isFreed=false)) (h:Quiet (k ())):Quiet (.update a p f k)
 | alloc {o:gC}{k:ag->LC α}(h:∀ a,Quiet (k a)):Quiet (.alloc o k)
 | stack {k:List (Code×rD)->LC α}(h:∀ x,Quiet (k x)):Quiet (.stack k)
theorem Quiet.bind {α β:Type} {t:LC α}{f:α->LC β}(ht:Quiet t) (hf:∀ a,Quiet (f a)):Quiet (t.bind f):=by
 induction ht with
 | pure a=>exact hf a
 | unsup w=>exact .unsup w
 | load h ih=>exact .load ih
 | update h1 h2 ih=>exact .update h1 ih
 | alloc h ih=>exact .alloc ih
 | stack h ih=>exact .stack ih
theorem Quiet.bind' {α β:Type} {t:LC α}{f:α->LC β}(ht:Quiet t) (hf:∀ a,Quiet (f a)):Quiet (t >>= f):=ht.bind hf
theorem Sy {h:cg}{b:ag}{o:gC}(e:h.get? b=some o):o.isFreed=false:=by
 unfold Heap.get? at e
 split at e
 ·cases e
 ·rename_i x hx
  obtain ⟨c,d,da,sl⟩:=o
  cases da with
  | freed=>exact absurd e (hx c d sl)
  | _=>rfl
theorem Sz {h:cg}{a:ag}{f:gC->gC}(hf:∀ o,(f o).cls=o.cls/\(f o).dict=o.dict/\(o.isFreed=false->(f o).isFreed=false)):Kp h (h.update a f):=λb o e=>by
 by_cases hb:b=a
 ·subst hb
  exact ⟨f o,bz f e ((hf o).2.2 (Sy e)),(hf o).1,(hf o).2.1⟩
 ·exact ⟨o,by rw [bW _ _ (Ne.symm hb)];exact e,rfl,rfl⟩
theorem Yi {h:cg}{o:gC}:Kp h (h.push o):=λb u e=>⟨u,au o e,rfl,rfl⟩
theorem Quiet.wp {α:Type} {t:LC α}(ht:Quiet t) {M:TB}{Γ:PySem.Ctx}:∀ {Q:α->rD->aq->Prop}{E:ai->rD->aq->Prop}{p:rD}{s:aq},Sem.wp M Γ t Q E p s->Sem.wp M Γ t (λa p' s'=>Q a p' s'/\Kp s.heap s'.heap) E p s:=by
 induction ht with
 | pure a=>intro Q E p s h;exact ⟨h,Kp.refl _⟩
 | unsup w=>intro Q E p s h;exact h
 | load h ih=>intro Q E p s h;obtain ⟨o,e,q⟩:=h;exact ⟨o,e,ih o q⟩
 | update hf h ih =>
  intro Q E p s h
  obtain ⟨e,q⟩:=h
  exact ⟨e,Sem.wp_mono _ _ _ (λx p' s' z=>⟨z.1,(Sz hf).trans z.2⟩) (λ_ _ _ z=>z) _ _ (ih q)⟩
 | alloc h ih=>intro Q E p s h;exact Sem.wp_mono _ _ _ (λx p' s' z=>⟨z.1,Yi.trans z.2⟩) (λ_ _ _ z=>z) _ _ (ih _ h)
 | stack h ih=>intro Q E p s h;exact ih _ h
theorem kh {α:Type} {t:LC α}(ht:Quiet t) {M:TB}{A:bZ}{Q:α->aq->Prop}{E:ai->aq->Prop}{s:aq}(h:aK M A t Q E s):aK M A t (λa s'=>Q a s'/\Kp s.heap s'.heap) E s :=
 λΓ p hΓ=>ht.wp (h Γ p hΓ)
theorem OX (a:ag):Quiet (load a):=.load λo=>.pure o
theorem J8:Quiet stack:=.stack λx=>.pure x
theorem Vw (v:ai):Quiet (fieldsOf v):=by
 unfold fieldsOf
 split
 ·refine (OX _).bind' λo=>?_
  split
  ·exact .pure _
  ·exact .unsup _
 ·exact .unsup _
theorem D7 (v:ai) (i:Nat):Quiet (field v i):=by
 unfold field
 refine (Vw v).bind' λo=>?_
 split
 ·exact .pure _
 ·exact .unsup _
theorem SB (g:Array ai->Array ai) (o:gC):(kd g o).cls=o.cls/\(kd g o).dict=o.dict/\(o.isFreed=false->(kd g o).isFreed=false):=by
 obtain ⟨c,d,da,sl⟩:=o
 cases da<;>first|exact ⟨rfl,rfl,λz=>z⟩|exact ⟨rfl,rfl,λ_=>rfl⟩
theorem yQ (v:ai) (i:Nat) (x:ai):Quiet (TY v i x):=by
 unfold TY
 split
 ·unfold updateField
  refine (OX _).bind' λo=>?_
  split
  ·split
   ·exact .update (SB _) (.pure _)
   ·exact .unsup _
  ·exact .unsup _
 ·exact .unsup _
theorem MP:Quiet frameEnvs:=J8.bind' λ_=>.pure _
theorem Vx (env:xr) (outer:List xr):Quiet (behindIsImport env outer):=by
 unfold behindIsImport
 split
 ·exact .pure _
 ·split
  ·exact .pure _
  ·exact (D7 _ _).bind' λ_=>.pure _
theorem aaP (env:xr) (b:Bool) (outer:List xr):Quiet (keptBack env b outer):=by
 unfold keptBack
 split
 ·split
  ·exact .pure _
  ·exact (J8.bind' λ_=>.pure _:Quiet underTheClaimsCaller).bind' λ_=>.pure _
 ·exact .pure _
theorem Q8:∀ l:List xr,Quiet (readyFrames l)
 | []=>by rw [Og];exact .pure _
 | env::outer=>by
  rw [Og]
  simp only
  split
  ·refine (OX _).bind' λo=>?_
   split
   ·exact .pure _
   ·refine (Vx _ _).bind' λ_=>?_
    refine (aaP _ _ _).bind' λ_=>?_
    refine Quiet.bind' (.update (λo=>⟨rfl,rfl,λz=>?_⟩) (.pure _)) λ_=>Q8 outer
    obtain ⟨c,d,da,sl⟩:=o
    cases da<;>first|exact z|rfl|(unfold Obj.isFreed at z ⊢;exact z)
  ·exact .unsup _
theorem OY (l:List xr):Quiet (frameObject l):=by
 unfold frameObject
 split
 ·exact .pure _
 ·exact (Q8 _).bind' λ_=>.pure _
theorem SC (env:xr):Quiet (Oh env):=by
 unfold Oh
 refine MP.bind' λ_=>?_
 refine (OY _).bind' λ_=>?_
 split
 ·exact .pure _
 ·exact .unsup _
theorem Yj (f:ag) (b:Bool):Quiet (Y7 f b):=by
 unfold Y7
 refine J8.bind' λ_=>?_
 split
 ·exact .pure _
 ·exact .pure _
theorem Vy (ty:String) (d:Data) (x:Option ag):Quiet (newObjAsIs (.type ty) d x):=by
 unfold newObjAsIs
 exact Quiet.bind' (.alloc λ_=>.pure _) λ_=>.pure _
theorem Yk (a b c d e:ai) (p:List ai):Quiet (xS a b c d e p):=by
 unfold xS newFields
 generalize ([a,b,c,d,e]++if p.isEmpty=true then qI 6 cI else p)=vs
 unfold newObj
 simp only
 split
 ·exact Quiet.bind' (.unsup _) λ_=>Vy _ _ _
 ·exact Vy _ _ _
theorem OZ (v:ai) (env:xr):Quiet (noteFrame v env):=by
 unfold noteFrame
 split
 ·refine (D7 _ _).bind' λhead=>?_
  have jp:∀ f,Quiet (do
    let x ← Oh env
    let y ← Y7 f (head != cI)
    let z ← xS head x cI (cO ↑f) cI y
    TY v 1 z):=λf=>by
   refine (SC _).bind' λ_=>?_
   refine (Yj _ _).bind' λ_=>?_
   refine (Yk _ _ _ _ _ _).bind' λ_=>yQ _ _ _
  split
  ·refine (D7 _ _).bind' λ_=>?_
   split
   ·exact .pure _
   ·exact (yQ _ _ _).bind' λ_=>jp _
  ·exact jp _
 ·exact .unsup _
theorem v9 (v:ai) (f:Option ag):Quiet (setFlight v f):=by
 unfold setFlight
 refine (D7 _ _).bind' λ_=>?_
 split
 ·exact yQ _ _ _
 ·exact .pure _
theorem Jj (env:xr) (v:ai):Quiet (leaving env v):=(OZ _ _).bind' λ_=>v9 _ _
end L2
namespace L2
theorem gK.at {P:a8}{w:bT}{H:Hp}{h:cg}{a:ag}{o:HO}(x:gK P w H h a o):∃ u,h.get? a=some u:=by
 cases o with
 | lst xs=>obtain ⟨_,_,_,_,e⟩:=x;exact ⟨_,e⟩
 | tup xs=>obtain ⟨_,_,_,o,e,_⟩:=x;exact ⟨_,e⟩
 | dK kvs=>obtain ⟨_,_,_,_,o,_,_,e,_⟩:=x;exact ⟨_,e⟩
 | dT kvs=>obtain ⟨_,_,_,_,o,_,_,e,_⟩:=x;exact ⟨_,e⟩
 | set S n=>obtain ⟨o,_,_,_,e,_⟩:=x;exact ⟨_,e⟩
 | ins C dx fs=>obtain ⟨_,_,_,e,_⟩:=x;exact ⟨_,e⟩
 | own y=>obtain ⟨_,e⟩:=x;exact ⟨_,e⟩
 | xd fs=>obtain ⟨_,⟨_,_,_,e,_⟩,_⟩:=x;exact ⟨_,e⟩
 | rng lo hi=>obtain ⟨_,_,_,e⟩:=x;exact ⟨_,e⟩
 | frz ob u=>obtain ⟨e,_⟩:=x;exact ⟨_,e⟩
 | tbl ps=>exact ⟨_,(show h.get? a=some _ from x)⟩
 | met f y=>exact ⟨_,(show h.get? a=some _ from x)⟩
 | ext φ=>obtain ⟨_,⟨_,e⟩,_⟩:=x;exact ⟨_,e⟩
structure Fly (P:a8) (w:bT) (st:List xr) (H:Hp) (s:aq) (H2:Hp) (a:ag) (B h:cg):Prop where
 un:Un (xm st) [] H H2 s.heap h
 fX:vE P w H2 h
 stays:B.StaysIn h
 has:∀ b o,H2 b=some o->∃ u,B.get? b=some u
 old:∀ b o,s.heap.get? b=some o->b∉xm st->∃ u,B.get? b=some u
 no:B.get? a=none
 dict:∃ o,h.get? a=some o/\o.dict=none
section
variable {P:a8}{w:bT}{st:List xr}{H H2:Hp}{s:aq}{a:ag}{B h h':cg}
theorem Fly.step (F:Fly P w st H s H2 a B h) (hf:∀ b∈xm st,H b=none/\∃ o,s.heap.get? b=some o/\∀ vs,o.data≠.fields vs) (us:h.UpToSlots h') (sy:B.StaysIn h') (kp:Kp h h'):Fly P w st H s H2 a B h':=by
 have keep:∀ b o u,B.get? b=some u->h.get? b=some o->h'.get? b=some o:=λb o u e1 e2=>by
  have:=F.stays b u e1
  rw [e2] at this;cases this
  exact sy b _ e1
 have slot:∀ b o,s.heap.get? b=some o->H b=none->b∈xm st->∃ sl,h'.get? b=some { o with slots:=sl }:=λb o e n hb=>by
  obtain ⟨sl,e1⟩:=F.un.slot b o e n hb (by simp)
  obtain ⟨_,o',e',nd⟩:=hf b hb
  rw [e] at e';cases e'
  obtain ⟨sl',e2⟩:=us b { o with slots:=sl } e1 nd
  exact ⟨sl',e2⟩
 refine ⟨⟨λb o e n hb _=>?_,λb o e n hb _=>slot b o e n hb,λb o e n _=>F.un.free b o e n (by simp),λb o e _=>?_,F.un.yc,F.un.xp,F.un.xn⟩,λb o e=>?_,sy,F.has,F.old,F.no,?_⟩
 ·obtain ⟨u,hu⟩:=F.old b o e hb
  exact keep b o u hu (F.un.keep b o e n hb (by simp))
 ·by_cases hb:b∈xm st
  ·obtain ⟨sl,e1⟩:=slot b o e (hf b hb).1 hb;exact ⟨_,e1⟩
  ·obtain ⟨u,hu⟩:=F.old b o e hb;exact ⟨u,sy b u hu⟩
 ·refine (F.fX b o e).yb (λc v hc r=>?_) (λ_ z=>z) λ_ _ z=>z
  obtain ⟨u,hu⟩:∃ u,B.get? c=some u:=by
   rcases hc with rfl|hc
   ·exact F.has _ o e
   ·exact F.has _ _ hc
  exact keep c v u hu r
 ·obtain ⟨o,e,d⟩:=F.dict
  obtain ⟨o',e',_,d'⟩:=kp a o e
  exact ⟨o',e',d'.trans d⟩
end
def sN (P:a8) (w:bT):Mj:=λouter H s E e s'=>∃ (a:ag) (cls a0:ai) (B:cg) (H2:Hp),e=.ref a/\s'.os=s.os/\xM s'.gens/\B.FlyingW outer a cls a0 s'.heap/\Fly P w outer H s H2 a B s'.heap/\E cls none H2
theorem yR {X:Cx}{pins:List (ag×gC)}{Z:St}{H:Hp}{s:aq}(I:Inv X pins Z H s):∀ b∈xm X.stack,H b=none/\∃ o,s.heap.get? b=some o/\∀ vs,o.data≠.fields vs:=λb hb=>⟨I.Ea b hb,(I.stack.mem hb).2⟩
section
variable {P:a8}{w:bT}{K:aa}{mg:aZ->Option ai}{base:cg}{N:List aZ}{qual:aZ}{scope:lA}{f:ag}{cd:ai}{A:bZ}{outer:List xr}{s:aq}{H:Hp}{E E':XK}
theorem SD {pins:List (ag×gC)}{Z:St}{H1:Hp}{s1:aq}{h':cg}{a:ag}{cls:ai}{args:List ai}(I:Inv (pN (sN P w) P w K mg base N qual scope f cd A outer s H E) pins Z H1 s1) (mk:s1.heap.MadeExcOf h' a cls args) (q:E cls none H1) :
  (pN (sN P w) P w K mg base N qual scope f cd A outer s H E).xe (.ref a) { s1 with heap:=h' }:=by
 have hL:∀ b o,s.heap.get? b=some o->b≠s.heap.objs.size:=λb o e=>aS (aI e)
 have hfr:∀ b o,s.heap.get? b=some o->b∉xm outer->b∉xm (pQ qual scope s.heap.objs.size f cd::outer):=λb o e hb z=>by
  rcases ay.mp (show b∈s.heap.objs.size::xm outer from z) with z|z
  ·exact hL b o e z
  ·exact hb z
 have Zb:∀ b o u,H1 b=some o->s1.heap.get? b=some u->(vU s1.heap (xm (pQ qual scope s.heap.objs.size f cd::outer))).get? b=some u:=λb o u e r =>
  nK _ r λz=>by have:=I.Ea b z;rw [e] at this;cases this
 refine iO (kh (Jj _ _) (wpAny_leaves_madeW (base:=vU s1.heap (xm (pQ qual scope s.heap.objs.size f cd::outer))) (h:=s1.heap) (L:=s.heap.objs.size) (outer:=outer) (Q:=λ_ s2=>∃ t,(vU s1.heap (xm (pQ qual scope s.heap.objs.size f cd::outer))).FlyingW outer a cls (.ref t) s2.heap/\h'.UpToSlots s2.heap/\s2.os=s1.os/\s2.gens=s1.gens)
  I.ok.frames rfl (λb o e=>Tz _ e) (PySem.W.funFrames_hide I.stack λe he c hc=>pJ.mpr ⟨e,he,hc⟩) mk λh2 t fl tp nt us=>⟨t,fl,us,rfl,rfl⟩)) λ_ s2 ⟨⟨t,fl,us,e1,e2⟩,kp⟩=>?_
 have slot:∀ b o,s.heap.get? b=some o->H b=none->b∈xm outer->∃ sl,s2.heap.get? b=some { o with slots:=sl }:=λb o e n hb=>by
  obtain ⟨sl,e3⟩:=I.base.slot b o e n hb (by simp [pN])
  obtain ⟨_,o',e',nd⟩:=I.ok.xh.mem hb
  have e':s.heap.get? b=some o':=e'
  rw [e] at e';cases e'
  obtain ⟨sl',e4⟩:=us b { o with slots:=sl } (mk.keeps b { o with slots:=sl } e3) nd
  exact ⟨sl',e4⟩
 refine ⟨a,cls,.ref t,_,H1,rfl,e1.trans I.os,by rw [e2];exact I.bare,fl,⟨⟨λb o e n hb _=>?_,λb o e n hb _=>slot b o e n hb,λb o e n _=>I.base.free b o e n (by simp [pN]),λb o e _=>?_,I.base.yc,I.base.xp,I.base.xn⟩,λb o e=>?_,fl.1,λb o e=>?_,λb o e hb=>?_,fl.2.1,?_⟩,q⟩
 ·exact fl.1 b o (nK _ (I.base.keep b o e n hb (by simp [pN])) (hfr b o e hb))
 ·by_cases hb:b∈xm outer
  ·obtain ⟨sl,e3⟩:=slot b o e (I.ok.Uj b hb) hb;exact ⟨_,e3⟩
  ·obtain ⟨o',e3⟩:=I.base.there b o e (by simp [pN])
   exact ⟨o',fl.1 b o' (nK _ e3 (hfr b o e hb))⟩
 ·refine (I.fX b o e).yb (λc v hc r=>fl.1 c v ?_) (λ_ z=>z) λ_ _ z=>z
  rcases hc with rfl|hc
  ·exact Zb _ o v e r
  ·exact Zb _ _ v hc r
 ·obtain ⟨u,hu⟩:=(I.fX b o e).at
  exact ⟨u,Zb b o u e hu⟩
 ·obtain ⟨o',e3⟩:=I.base.there b o e (by simp [pN])
  exact ⟨o',nK _ e3 (hfr b o e hb)⟩
 ·obtain ⟨t',e3,_⟩:=mk.there
  obtain ⟨o',e4,_,d⟩:=kp a _ e3
  exact ⟨o',e4,d⟩
theorem Yl (hE:∀ cls H,E cls none H->E' cls none H):rj (sN P w) (pN (sN P w) P w K mg base N qual scope f cd A outer s H E') E:=by
 rintro pins Z H1 s1 e s2 I ⟨a,cls,a0,B,H2,rfl,os,bare,fl,F,q⟩
 have hfr:∀ b o,s.heap.get? b=some o->b∉xm outer->b∉xm (pQ qual scope s.heap.objs.size f cd::outer):=λb o e hb z=>by
  rcases ay.mp (show b∈s.heap.objs.size::xm outer from z) with z|z
  ·exact aS (aI e) z
  ·exact hb z
 refine iO (kh (Jj _ _) (wpAny_leaves_onW (L:=s.heap.objs.size) (outer:=outer) (Q:=λ_ s3=>B.FlyingW outer a cls a0 s3.heap/\s2.heap.UpToSlots s3.heap/\s3.os=s2.os/\s3.gens=s2.gens) I.ok.frames rfl fl λh' fl' us=>⟨fl',us,rfl,rfl⟩)) λ_ s3 ⟨⟨fl',us,e1,e2⟩,kp⟩=>?_
 have F':=F.step (yR I) us fl'.1 kp
 refine ⟨a,cls,a0,B,H2,rfl,(e1.trans os).trans I.os,by rw [e2];exact bare,fl',⟨⟨λb o e n hb _=>?_,λb o e n hb _=>?_,λb o e n _=>?_,λb o e _=>?_,λb xs e=>F'.un.yc _ _ (I.base.yc _ _ e),λb o u e=>F'.un.xp _ _ _ (I.base.xp _ _ _ e),λb ps e=>?_⟩,F'.fX,F'.stays,F'.has,λb o e hb=>?_,F'.no,F'.dict⟩,hE _ _ q⟩
 ·exact F'.un.keep b o (I.base.keep b o e n hb (by simp [pN])) (I.base.free b o e n (by simp [pN])) (hfr b o e hb) (by simp)
 ·obtain ⟨sl,e3⟩:=I.base.slot b o e n hb (by simp [pN])
  obtain ⟨sl',e4⟩:=F'.un.slot b _ e3 (I.base.free b o e n (by simp [pN])) (ah _ hb:b∈s.heap.objs.size::xm outer) (by simp)
  exact ⟨sl',e4⟩
 ·obtain ⟨o',e3⟩:=I.base.there b o e (by simp [pN])
  exact F'.un.free b o' e3 (I.base.free b o e n (by simp [pN])) (by simp)
 ·obtain ⟨o',e3⟩:=I.base.there b o e (by simp [pN])
  exact F'.un.there b o' e3 (by simp)
 ·obtain ⟨m1,e3⟩:=I.base.xn b ps e
  obtain ⟨m2,e4⟩:=F'.un.xn b _ e3
  exact ⟨m1++m2,by rw [e4,W4]⟩
 ·obtain ⟨o',e3⟩:=I.base.there b o e (by simp [pN])
  exact F'.old b o' e3 (hfr b o e hb)
end
end L2
namespace L2
abbrev SE:List ai:=[.type "ValueError",.type "Exception",.type "BaseException",.type "object"]
def NsQ (K:aa) (N:ag):Prop:=Y8 K N=true/\∀ n∈T9,bO K N n=some none
theorem nsq {K:aa}{N:ag}{c:ai}{d:Option ag}{es:Array DictEntry}{ep:Nat}{sl:Array (Option ai)}(h:dS N K=some ⟨c,d,.dict es ep,sl⟩)
  (ho:(es.toList.all λe=>match e.key with | .str _ _=>true|_=>false)=true) (h1:bO K N "__init__"=some none) (h2:bO K N "__getattribute__"=some none) (h3:bO K N "__getattr__"=some none) (h4:bO K N "args"=some none):NsQ K N:=by
 refine ⟨?_,λn hn=>?_⟩
 ·unfold Y8
  rw [h]
  simp only [← Array.all_toList]
  exact ho
 ·unfold T9 at hn
  simp only [ay,eL,or_false] at hn
  rcases hn with rfl|rfl|rfl|rfl
  ·exact h1
  ·exact h2
  ·exact h3
  ·exact h4
def zX (K:aa) (C:ag):Prop:=∃ (N A:ag) (nm q:aZ) (bs:List ai) (hdct:Bool) (sn:List aZ) (sub:List ai) (ab:Bool) (col:Option Bool) (dd:Option ag) (k0 k1 k2 k3 k5:Option ai) (c0:ai) (dd':Option ag) (cd:ClassData) (sl:Array (Option ai)),
 dS C K=some (excClassObj nm q C N bs (.ref A::SE) hdct sn sub ab col dd k0 k1 k2 k3 k5 "ValueError.__new__")/\dS A K=some ⟨c0,dd',.cls cd,sl⟩/\NsQ K N/\NsQ K cd.ns
theorem exK {K:aa}{C N A:ag}{nm q:aZ}{bs:List ai}{hdct:Bool}{sn:List aZ}{sub:List ai}{ab:Bool}{col:Option Bool}{dd:Option ag}{k0 k1 k2 k3 k5:Option ai}{c0:ai}{dd':Option ag}{cd:ClassData}{sl:Array (Option ai)}
  (h1:dS C K=some (excClassObj nm q C N bs (.ref A::SE) hdct sn sub ab col dd k0 k1 k2 k3 k5 "ValueError.__new__")) (h2:dS A K=some ⟨c0,dd',.cls cd,sl⟩) (h3:NsQ K N) (h4:NsQ K cd.ns):zX K C :=
 ⟨N,A,nm,q,bs,hdct,sn,sub,ab,col,dd,k0,k1,k2,k3,k5,c0,dd',cd,sl,h1,h2,h3,h4⟩
theorem Q9 {K:aa}{h:cg}{C:ag}(X:K.In h) (e:zX K C):∃ bm N nm q bs hdct sn sub ab col dd k0 k1 k2 k3 k5 mN,
  h.get? C=some (excClassObj nm q C N bs bm hdct sn sub ab col dd k0 k1 k2 k3 k5 "ValueError.__new__")/\h.Ns N mN/\(∀ n∈T9,mN n=none)/\OwnTailQ h SE bm:=by
 obtain ⟨N,A,nm,q,bs,hdct,sn,sub,ab,col,dd,k0,k1,k2,k3,k5,c0,dd',cd,sl,h1,h2,⟨n1,n2⟩,⟨m1,m2⟩⟩:=e
 refine ⟨.ref A::SE,N,nm,q,bs,hdct,sn,sub,ab,col,dd,k0,k1,k2,k3,k5,h.nsMap N,X _ _ h1,Xt (Ua X n1),λn hn=>LQ X n1 (n2 n hn),?_⟩
 exact .own (X _ _ h2) (Xt (Ua X m1)) (λn hn=>LQ X m1 (m2 n hn)) .base
structure Exc (K:aa) (mg:aZ->Option ai) (x:aZ) (C:ag):Prop where
 at_:mg x=some (.ref C)
 ex:zX K C
def yS (cls:ai) (E:XK):TS:=λ_ _ H=>E cls none H
def MQ (X:Cx) (E:XK):Prop:=∀ (pins:List (ag×gC)) (Z:St) (H:Hp) (s:aq) (h':cg) (a:ag) (cls:ai) (args:List ai),Inv X pins Z H s->s.heap.MadeExcOf h' a cls args->E cls none H->X.xe (.ref a) { s with heap:=h' }
theorem wb {X:Cx}{x:aZ}{C:ag}{txt:aZ}{k:Nat}{np cp cpos pos:rD}{E:XK}(hc:X.calm=true) (hg:Gl X x) (ex:Exc X.K X.mg x C) (hx:MQ X E) (hd:(x == ("__debug__":aZ))=false:=by decide) :
  PS X (.Raise (some (.Call (.Name x np) [.Constant (.str txt) k cp] [] cpos)) none pos) (yS (.ref C) E):=by
 intro pins s Z H D I h
 obtain ⟨bm,N,nm,q,bs,hdct,sn,sub,ab,col,dd,k0,k1,k2,k3,k5,mN,o1,o2,o3,o4⟩:=Q9 I.mod.Xj ex.ex
 refine wpAny_Raise_call_subT (bmB:=SE) (nm:=nm) (q:=q) (C:=C) (N:=N) (bs:=bs) (hdct:=hdct) (sn:=sn) (sub:=sub) (ab:=ab) (col:=col) (dd:=dd) (k0:=k0) (k1:=k1) (k2:=k2) (k3:=k3) (k5:=k5) F.excBase_ValueError (o4.tail.hasType rfl) (I.ok.hd hc) rfl (o3 _ (by simp [T9])) ?_
 refine rF I hg ex.at_ ⟨rfl,?_⟩ hd
 refine TM ?_
 refine iO ((show PA X [.Constant (.str txt) k cp] (ak (tC (.str txt)) aT) from af fR aA) cpos pins s Z H (λvs H'=>vs.length=1/\H'=H) I ⟨rfl,rfl⟩) λus s2 ⟨vs,H',I2,r,hl,eH⟩=>?_
 subst eH
 refine ⟨rfl,by rw [← r.length,hl];decide,I2.bk _ _ o1,o2.keeps I2.bk,o4.tail.keeps I2.bk,λh' e mk=>hx pins Z H' s2 h' e _ _ I2 mk h⟩
theorem jZ.Qz {P:a8}{w:bT}{K:aa}{mg:aZ->Option ai}{base:cg}{x qual:aZ}{st:dR}{f:ag}{fd:fo}{N ps:List aZ}{k:Nat}{sp:Sp}(F:jZ K x qual st f fd) (S:bC N ps (aU st)) (len:∀ vs H Q E,sp vs H Q E->vs.length=ps.length)
  (hbody:∀ (gG:ai) (A:bZ) (outer:List xr) (s:aq) (H:Hp) (vs:List V) (Q:VK) (E:XK),k9 k (A.deeper (pQ qual (aU st) s.heap.objs.size f gG))->sp vs H Q E ->
   ∃ t,LA (pN (sN P w) P w K mg base N qual (aU st) f gG A outer s H E) (nQ st) t/\t { nx:=λ_ H'=>Q .non H',rt:=Q } (start N vs) H):dg P w K mg base (sN P w) (k+1) f fd ps sp:=by
 obtain ⟨oc,od,kV,doc,pm,an,gG,ct,osl,rfl,lk,hcd⟩:=F.ex
 exact UJ lk hcd S len λA outer s H vs Q E hr hsp=>hbody gG A outer s H vs Q E hr hsp
theorem qR {P:a8}{w:bT}{K:aa}{mg:aZ->Option ai}{base:cg}{N:List aZ}{qual:aZ}{scope:lA}{f:ag}{cd:ai}{A:bZ}{outer:List xr}{s:aq}{H:Hp}{E:XK}:MQ (pN (sN P w) P w K mg base N qual scope f cd A outer s H E) E:=λ_ _ _ _ _ _ _ _ I mk q=>SD I mk q
theorem pW {P:a8}{w:bT}{K:aa}{mg:aZ->Option ai}{base:cg}{N:List aZ}{qual:aZ}{scope:lA}{f:ag}{cd:ai}{A:bZ}{outer:List xr}{s:aq}{H:Hp}{E:XK}:rj (sN P w) (pN (sN P w) P w K mg base N qual scope f cd A outer s H E) E:=Yl λ_ _ z=>z
end L2
namespace L2
def Ra (a:ag) (cls:ai):HO:=.ext λh=>∃ o vs,h.get? a=some o/\o.cls=cls/\o.dict=none/\o.data=.fields vs
theorem Vz {P:a8}{w:bT}{H:Hp}{h:cg}{a:ag}{cls:ai}{o:gC}{vs:Array ai}(e:h.get? a=some o) (c:o.cls=cls) (d:o.dict=none) (f:o.data=.fields vs):gK P w H h a (Ra a cls) :=
 ⟨⟨o,vs,e,c,d,f⟩,⟨o,e⟩,λh1 h2 ⟨o',vs',e',r⟩ k=>⟨o',vs',k _ e',r⟩⟩
section
variable {X:Cx}{pins:List (ag×gC)}{Z:St}{H:Hp}{s:aq}
theorem SF {M:TB}{A:bZ}{E:ai->aq->Prop}{i:Nat}{x:aZ}{v:V}{Q:Unit->aq->Prop}(I:Inv X pins Z H s) (hN:X.N.Nodup) (hi:X.N[i]?=some x) (hk:X.env.scope.names.lookup x=some .local) (hv:Z[i]?=some (some v))
  (h:∀ s',Inv X pins (Z.set i none) H s'->Q () s'):aK M A (unbindName X.env x) Q E s:=by
 obtain ⟨m,hn,hl⟩:=id I.loc
 have hcls:(X.env.scope.kind == .class || (X.env.scope.kind == .module && X.env.locals != X.env.globals))=false:=by rw [I.ok.kind];rfl
 have hiσ:i<Z.length:=by rw [I.len];exact (aC.mp hi).1
 have Ui:=I.Ui
 obtain ⟨u0,_,l0⟩:=hl i x v hi hv (.inl hk)
 obtain ⟨_,hm⟩:X.env.kindOf x=some .local/\m x=some u0:=by
  rcases l0 with z|⟨z,_⟩
  ·exact z
  ·have hk':X.env.kindOf x=some .local:=hk
   rcases z with z|z<;>rw [hk'] at z<;>cases z
 refine wpAny_unbindName_local hk hn hm hcls (λh' u hn' hs=>?_)
 obtain ⟨oL,_,_,hoL,_⟩:=id hn
 refine h _ ⟨I.ok,I.os,I.bare,⟨λb o e n hb hx=>?_,λb o e n hb hx=>?_,I.base.free,λb o e hx=>?_,I.base.yc,I.base.xp,I.base.xn⟩,⟨_,hn',λj y v' e1 e2 e3=>?_⟩,λy c e=>?_,I.free,I.rC,λp hp=>?_,λb ob e=>?_,by simpa using I.len⟩
 ·exact (hs.2 b (aS (bc (aI e) I.ok.above))).trans (I.base.keep b o e n hb hx)
 ·obtain ⟨sl,e1⟩:=I.base.slot b o e n hb hx
  exact ⟨sl,(hs.2 b (aS (bc (aI e) I.ok.above))).trans e1⟩
 ·obtain ⟨o',e1⟩:=I.base.there b o e hx
  exact ⟨o',(hs.2 b (aS (bc (aI e) I.ok.above))).trans e1⟩
 ·have hj:j≠i:=λz=>by
   subst z
   rw [lN hiσ] at e2;cases e2
  rw [sg (Ne.symm hj)] at e2
  obtain ⟨u',r',q⟩:=hl j y v' e1 e2 e3
  refine ⟨u',r',?_⟩
  rcases q with ⟨k,e⟩|⟨k,c,e,z⟩
  ·refine .inl ⟨k,?_⟩
   have:y≠x:=λe=>hj (En hN e1 (e▸hi))
   simp [this,e]
  ·exact .inr ⟨k,c,e,z.sameBut hs (Ui y c e)⟩
 ·obtain ⟨w',z⟩:=I.cell y c e
  exact ⟨w',z.sameBut hs (Ui y c e)⟩
 ·obtain ⟨e,n,ne,nf,d⟩:=I.pin p hp
  exact ⟨(hs.2 p.1 ne).trans e,n,ne,nf,d⟩
 ·refine (I.fX b ob e).yb (λc w' hc q=>(hs.2 c ?_).trans q) (λ_ q=>q) λ_ _ q=>q
  rintro rfl
  have hf:=I.free
  rcases hc with rfl|hc
  ·rw [hf] at e;cases e
  ·rw [hf] at hc;cases hc
theorem Jk {M:TB}{A:bZ}{E:ai->aq->Prop}{i:Nat}{x:aZ}{pos:rD}{Q:Unit->aq->Prop}(I:Inv X pins Z H s) (hN:X.N.Nodup) (hi:X.N[i]?=some x) (hk:X.env.scope.names.lookup x=some .local)
  (h:∀ s',Inv X pins (Z.set i none) H s'->Q () s'):aK M A (do bindName X.env x .none;unbindBehindTheSuite X.env x pos) Q E s:=by
 have hiσ:i<Z.length:=by rw [I.len];exact (aC.mp hi).1
 refine ae ?_
 unfold bindName
 refine ae (cF (wpAny_point ?_))
 refine ae ?_
 refine uf I hN hi (.inl hk) (v:=.non) rfl (λs' I'=>wpAny_point ?_) (.inr hk)
 unfold unbindBehindTheSuite
 refine wpAny_onRaise ?_
 refine SF I' hN hi hk (v:=.non) (by rw [lN hiσ]) λs2 I2=>h s2 ?_
 rw [List.set_set] at I2
 exact I2
abbrev Cx.marked (X:Cx) (a:ag):Cx:={ X with A:=X.A.mark (some (.ref a)),calm:=false,xe:=λ_ _=>False }
theorem Inv.mark (I:Inv X pins Z H s) (a:ag):Inv (X.marked a) pins Z H s :=
 ⟨⟨I.ok.mod,I.ok.kind,I.ok.glob,I.ok.blt,I.ok.above,I.ok.inj,I.ok.has,I.ok.ZE,(λz=>nomatch z),I.ok.frames,I.ok.stk,I.ok.exf,I.ok.bs,I.ok.RI,I.ok.NY,I.ok.NT,I.ok.xh,I.ok.Uj⟩,I.os,I.bare,I.base,I.loc,I.cell,I.free,I.rC,I.pin,I.fX,I.len⟩
theorem Inv.unmark {a:ag}(ok:X.Ok) (I:Inv (X.marked a) pins Z H s):Inv X pins Z H s:=⟨ok,I.os,I.bare,I.base,I.loc,I.cell,I.free,I.rC,I.pin,I.fX,I.len⟩
theorem Inv.ZD {a:ag}{o:HO}(I:Inv X pins Z H s) (ha:H a=none) (h0:X.s₀.heap.get? a=none) (hL:a≠X.env.locals) (hc:∀ x c,X.env.cells.lookup x=some c->c≠a) (hp:∀ p∈X.pn++pins,p.1≠a) (ok:gK X.prog X.w (upd H a o) s.heap a o):Inv X pins Z (upd H a o) s:=by
 refine ⟨I.ok,I.os,I.bare,⟨λb ob e n hb hx=>I.base.keep b ob e n hb hx,I.base.slot,λb ob e n hx=>?_,I.base.there,λb xs e=>?_,λb ob u e=>?_,λb ps e=>?_⟩,I.loc,I.cell,?_,λx c e=>?_,λp hp'=>?_,λb ob e=>?_,I.len⟩
 ·rw [aJ (λz=>by rw [z,h0] at e;cases e)];exact I.base.free b ob e n hx
 ·have:=I.base.yc b xs e
  rw [aJ (aP this ha)];exact this
 ·have:=I.base.xp b ob u e
  rw [aJ (aP this ha)];exact this
 ·obtain ⟨m,this⟩:=I.base.xn b ps e
  exact ⟨m,by rw [aJ (aP this ha)];exact this⟩
 ·rw [aJ (Ne.symm hL)];exact I.free
 ·rw [aJ (hc x c e)];exact I.rC x c e
 ·obtain ⟨e,n,r⟩:=I.pin p hp'
  exact ⟨e,by rw [aJ (hp p hp')];exact n,r⟩
 ·by_cases hb:b=a
  ·subst hb
   rw [aM] at e;cases e;exact ok
  ·rw [aJ hb] at e
   refine (I.fX b ob e).yb (λc v _ q=>q) (λc q=>?_) λc xs q=>?_
   ·rw [aJ (aP q ha)];exact q
   ·rw [aJ (aP q ha)];exact q
end
end L2
namespace L2
def aaQ (K:aa) (sp:Sp) (t:TA) (cT:ai) (i:Nat) (th:TS):TS:=λD Z H=>t Z H λvs H1=>∃ E:XK,sp (vs++[]) H1 (λ_ H2=>D.nx Z H2) E /\
 ∀ cls H2,E cls none H2->∃ Dc:ag,cls=.ref Dc/\eD K cls cT=some true/\∀ a,H2 a=none->th { nx:=λ_ _=>False,rt:=D.rt } (Z.set i (some (.ref a))) (upd H2 a (Ra a cls))
section
variable {X:Cx}{k:Nat}{f CT:ag}{fd:fo}{ps:List aZ}{sp:Sp}{x xT n:aZ}{p np cpos epos hpos pos:rD}{e:Expr}{es:List Expr}{t:TA}{th:TS}{i:Nat}{b₀:dR} {N0:List dR}
theorem aaR (F:dg X.prog X.w X.K X.mg X.base (sN X.prog X.w) k f fd ps sp) (hr:k9 k X.A) (hg:Gl X x) (hm:X.mg x=some (.ref f)) (hk:eh X.K (.ref f)=true) (hb:Binds X.K fd ps [])
  (ha:PA X.ZF (e::es) t) (hex0:X.ex=[]) (hst:X.stack=X.env::X.outer/\X.env.frame=some X.env.locals) (hgT:Gl X xT) (hmT:X.mg xT=some (.ref CT)) (hN:X.N.Nodup) (hi:X.N[i]?=some n) (hn:X.env.scope.names.lookup n=some .local)
  (hth:∀ a,LA (X.marked a) (b₀::N0) th)
  (hs:Eb (.Call (.Name x p) (e::es) [] cpos) none epos.line X.env=pure false:=by rfl)
  (hdb:(x == ("__debug__":aZ))=false:=by decide) (hdT:(xT == ("__debug__":aZ))=false:=by decide) (he:bw (e::es) X.env=(false,gp e X.env)::bw es X.env:=by rfl) (hpl:(jg cpos (bw es X.env)).any (·.1)=false:=by rfl) :
  PS X (.Try [.Expr (.Call (.Name x p) (e::es) [] cpos) epos] [.ExceptHandler (some (.Name xT np)) (some n) (b₀::N0) hpos] [] [] pos) (aaQ X.K sp t (.ref CT) i th):=by
 intro pins s Z H D I h
 refine wpAny_Try_except ?_
 refine zq ?_
 refine TC ?_ I.quiet hs
 refine dC (rF I hg hm ?_ hdb)
 refine lb (h₀:=X.base) I.ok.mod.Xj hk (fj (ha cpos pins s Z H _ (I.DQ _) h) (λus s1 ⟨vs,H1,I1,r,E,q,hE⟩=>⟨I1.xj,?_⟩) λ_ _ z=>cc z) he hpl
 ·have I1:=I1.t9
  have r2:Vals (vs++[]) (us++[]):=r.append .nil
  have hl:(us++[]).length=ps.length:=by rw [← r2.length];exact F.len _ _ _ _ q
  refine qY (kH (F.run X.A X.stack s1 H1 ⟨us,[]⟩ (us++[]) (vs++[]) _ E hr I1.WR (hb s1 us I1.xj hl) r2 q) λr s' hq=>?_)
  cases r with
  | ok fl =>
   cases fl with
   | ret u =>
    obtain ⟨v,H2,I2,_,q2⟩:=I1.after hq
    exact qG (qG ⟨Z,H2,I2,q2⟩)
   | next=>exact cc hq
   | brk=>exact cc hq
   | cont=>exact cc hq
  | error ev =>
   obtain ⟨a,cls,a0,B,H2,rfl,os,bare,fl,Fl,qE⟩:=hq
   obtain ⟨Dc,rfl,hex,hh⟩:=hE cls H2 qE
   have frm:=yR I1
   have fl':=fl
   rw [hst.1] at fl'
   have hfm:=I1.ok.frames
   rw [hst.1] at hfm
   -- the exception is no thing of ours so far
   have na1:s1.heap.get? a=none:=by
    cases ea:s1.heap.get? a with
    | none=>rfl
    | some o =>
     by_cases hb:a∈xm X.stack
     ·obtain ⟨hfree,o',eo',nd⟩:=frm a hb
      rw [ea] at eo';cases eo'
      obtain ⟨sl,e1⟩:=Fl.un.slot a o ea hfree hb (by simp)
      obtain ⟨_,_,_,oe,vs',_,_,_,e2,_,e3,_⟩:=fl
      rw [e1] at e2;cases e2
      exact absurd e3 (nd vs')
     ·obtain ⟨u,hu⟩:=Fl.old a o ea hb
      rw [Fl.no] at hu;cases hu
   have na2:H2 a=none:=by
    cases ea:H2 a with
    | none=>rfl
    | some o=>obtain ⟨u,hu⟩:=Fl.has a o ea;rw [Fl.no] at hu;cases hu
   have na0:X.s₀.heap.get? a=none:=by
    cases ea:X.s₀.heap.get? a with
    | none=>rfl
    | some o => 
     obtain ⟨o',e1⟩:=I1.base.there a o ea (by rw [hex0];simp)
     rw [na1] at e1;cases e1
   refine iO (kh (OZ _ _) (wpAny_looks_onW (L:=X.env.locals) (outer:=X.outer) (Q:=λ_ s3=>B.HeldW (X.env::X.outer) a (.ref Dc) a0 X.env.locals s3.heap/\s'.heap.UpToSlots s3.heap/\s3.os=s'.os/\s3.gens=s'.gens) hfm hst.2 fl' λh' hd us=>⟨hd,us,rfl,rfl⟩)) λ_ s3 ⟨⟨hd3,us3,o3,g3⟩,kp3⟩=>?_
   have F3:=Fl.step frm us3 hd3.1 kp3
   refine iO (kh (v9 _ _) (wpAny_landsW (Q:=λ_ s4=>B.FlyingW (X.env::X.outer) a (.ref Dc) a0 s4.heap/\s3.heap.UpToSlots s4.heap/\s4.os=s3.os/\s4.gens=s3.gens) hd3 λh' fl us=>⟨fl,us,rfl,rfl⟩)) λ_ s4 ⟨⟨fl4,us4,o4,g4⟩,kp4⟩=>?_
   have F4:=F3.step frm us4 fl4.1 kp4
   have I4:Inv X pins Z H2 s4:=I1.NU (ch:=[]) ((o4.trans o3).trans os) F4.un F4.fX (by rw [g4,g3];exact bare) (λb z=>absurd z (by simp))
   refine wpAny_handleBy_cons ?_ (λz=>nomatch z)
   refine ZX ?_
   have I4m:=I4.mark a
   refine rF I4m hgT hmT ?_ hdT
   obtain ⟨oe4,vs4,T4,oT4,ts4,e4,⟨c4,_⟩,d4,_⟩:=fl4.2.2.2
   have dict4:oe4.dict=none:=by
    obtain ⟨o,e5,d5⟩:=F4.dict
    rw [e4] at e5;cases e5;exact d5
   have inst4:sO s4.heap a oe4 Dc none:=⟨e4,c4,by unfold IM;rw [d4],by rw [dict4];trivial⟩
   refine Xu (K:=X.K) I4.xj inst4.type hex _ _ _ s4 (λ_ _ z=>z) ?_
   refine Ut ?_
   refine iO (kh (v9 _ _) (lands_againW (Q:=λ_ s5=>B.FlyingW (X.env::X.outer) a (.ref Dc) a0 s5.heap/\s4.heap.UpToSlots s5.heap/\s5.os=s4.os/\s5.gens=s4.gens) fl4 λh' fl us=>⟨fl,us,rfl,rfl⟩)) λ_ s5 ⟨⟨fl5,us5,o5,g5⟩,kp5⟩=>?_
   have F5:=F4.step frm us5 fl5.1 kp5
   have I5:Inv X pins Z H2 s5:=I1.NU (ch:=[]) (((o5.trans o4).trans o3).trans os) F5.un F5.fX (by rw [g5,g4,g3];exact bare) (λb z=>absurd z (by simp))
   obtain ⟨oe5,vs5,T5,oT5,ts5,e5,⟨c5,_⟩,d5,_⟩:=fl5.2.2.2
   have dict5:oe5.dict=none:=by
    obtain ⟨o,e6,d6⟩:=F5.dict
    rw [e5] at e6;cases e6;exact d6
   have I6:Inv X pins Z (upd H2 a (Ra a (.ref Dc))) s5:=by
    refine I5.ZD na2 na0 (λz=>?_) (λy c hc z=>?_) (λp hp z=>?_) (Vz e5 c5 dict5 d5)
    ·obtain ⟨m,⟨o,_,_,ho,_⟩,_⟩:=I1.loc
     rw [← z,na1] at ho;cases ho
    ·obtain ⟨v,o,ho,_⟩:=I1.cell y c hc
     rw [z,na1] at ho;cases ho
    ·have:=(I1.pin p hp).1
     rw [z,na1] at this;cases this
   refine uf I6 hN hi (.inl hn) (v:=.ref a) rfl (λs6 I7=>?_) (.inr hn)
   refine fj (hth a pins s6 _ _ _ (I7.mark a) (hh a na2)) (λf s7 z=>?_) λ_ _ z=>cc z
   cases f with
   | ret u =>
    obtain ⟨v,σ',H',I8,rv,q8⟩:=z
    exact Jk (I8.unmark I1.ok) hN hi hn λs8 I9=>⟨v,_,H',I9,rv,q8⟩
   | next=>obtain ⟨_,_,_,z⟩:=z;exact cc z
   | brk=>obtain ⟨_,_,_,z⟩:=z;exact cc z
   | cont=>obtain ⟨_,_,_,z⟩:=z;exact cc z
end
end L2
namespace L2
structure Cn (K:aa) (D:ag):Prop where
 ex:zX K D
 it:mT K (.ref D) (.ref D)=some true
 ga:aO K (.ref D) "__getattribute__"=some (some (.builtin "BaseException.__getattribute__"))
 gt:aO K (.ref D) "__getattr__"=some none
 ha:aO K (.ref D) "__class__"=some (some (.builtin "object.__class__"))
 hn:Cs K (.builtin "object.__class__") "__get__"=some (some (.builtin "getset_descriptor.__get__"))
 htk:GS K (.builtin "object.__class__")=some true
 hm:oj K D (.type "object")=some true
theorem Cn.cls {K:aa}{D:ag}(e:Cn K D):∃ cd,ZY K D=some cd:=by
 have h:=e.it
 unfold mT at h
 simp only at h
 split at h
 ·rename_i hc
  rw [dP] at hc
  exact LY.mp hc.1
 ·cases h
theorem MR:vS (eK "ValueError") (gJ "__getattr__")=pure none:=by
 unfold vS
 rfl
theorem Bp:ExcAttrBase "ValueError" SE:=⟨F.excAttr_ValueError,F.excBase_ValueError.mroIs,MR,rfl⟩
theorem SH {prog:a8}{w:bT}{A:bZ}{E:ai->aq->Prop}{Q:Option ai->aq->Prop}{K:aa}{x D:ag}{ox:gC}{s:aq}(e:Cn K D) (X:K.In s.heap) (i:sO s.heap x ox D none)
  (q:Q (some (.ref D)) { s with toks:=s.toks+1 }):aK (aY prog w) A (getAttr? (.ref x) (gJ "__class__")) Q E s:=by
 obtain ⟨cd,hcd⟩:=e.cls
 obtain ⟨h,g,d,t,os⟩:=s
 unfold getAttr?
 refine ae (wpAny_mkText ?_)
 unfold getAttrBy?
 refine ae (iU ?_)
 unfold getAttrBy
 refine cF ?_
 refine ae (i.type.at ?_)
 refine ae ((ye X e.ga).at ?_)
 show aK _ _ (if (Oi (aE D) && lS "BaseException.__getattribute__" == lS "object.__getattribute__")=true then _ else _) _ _ _
 have hne:¬ (Oi (aE D) && lS "BaseException.__getattribute__" == lS "object.__getattribute__")=true:=by
  have h1:(lS "BaseException.__getattribute__" == lS "object.__getattribute__")=false:=by decide
  rw [h1,Bool.and_false];decide
 rw [if_neg hne]
 unfold getAttrByItsOwn
 refine ae ?_
 unfold hookBefore
 show aK _ _ (if Oi (aE D)=true then _ else _) _ _ _
 rw [if_pos (show Oi (aE D)=true from rfl)]
 refine (ye X e.gt).at ?_
 refine ae (iU (cF ?_))
 unfold callGetattribute
 show aK _ _ (if (false && Oi (lS "BaseException.__getattribute__"))=true then _ else _) _ _ _
 rw [if_neg (by decide)]
 unfold boundAndCalled
 rw [Bp.toExcAttrFacts.ga.bind]
 refine ae (av ?_)
 show aK _ _ (call (lS "BaseException.__getattribute__") ([aE x]++[tN (gJ "__class__") t])) _ _ _
 refine qY (codeAny_call_builtin Bp.toExcAttrFacts.ga.plain F.entry_bexc_ga ?_)
 obtain ⟨bm,N,nm,q',bs,hdct,sn,sub,ab,col,dd,k0,k1,k2,k3,k5,mN,o1,o2,o3,o4⟩:=Q9 X e.ex
 refine wpAny_check_ga_own Bp o1 o4 i.at_ i.cls ?_
 unfold lO.«object.__getattribute__»
 refine ae (av ?_)
 refine ae (av ?_)
 refine ae (i.type.at ?_)
 have hf:Xv K D none (gJ "__class__")=some (RT (.builtin "getset_descriptor.__get__") (.builtin "object.__class__")):=by
  unfold Xv
  simp [hcd,e.ha,e.hn,e.htk]
 refine ae ((PySem.W.looks_find X i hf).at ?_)
 show aK _ _ (zx (.builtin "getset_descriptor.__get__") (.builtin "object.__class__") (.ref x) (.ref D)) _ _ _
 unfold zx
 refine ae (cF (qY (PySem.W.class_get X i e.hm ?_)))
 refine av ?_
 refine PySem.W.handed_on rfl ?_
 exact av q
theorem VA {K:aa}{x D:ag}(e:Cn K D):PySem.W.KitX K (.ref x) (.ref D) λh=>∃ o vs,h.get? x=some o/\o.cls=.ref D/\o.dict=none/\o.data=.fields vs:=by
 have inst:∀ h:cg,(∃ o vs,h.get? x=some o/\o.cls=.ref D/\o.dict=none/\o.data=.fields vs)->∃ o,sO h x o D none:=λh ⟨o,vs,e1,e2,e3,e4⟩ =>
  ⟨o,e1,e2,by unfold IM;rw [e4],by rw [e3];trivial⟩
 obtain ⟨cd,hcd⟩:=e.cls
 refine ⟨λM h _ hh=>?_,λM h X _=>(PySem.W.kit_cls X e.it).2.1,λh tp dd its n sl X ht=>?_,λ{prog w A E Q s} X hh q=>?_⟩
 ·obtain ⟨o,i⟩:=inst h hh
  exact i.type
 ·rw [beq_eq_false_iff_ne]
  intro z
  cases z
  unfold ZY at hcd
  split at hcd
  ·rename_i hl
   rw [X _ _ hl] at ht
   cases ht
  ·cases hcd
 ·obtain ⟨o,i⟩:=inst s.heap hh
  exact SH e X i q
def wc (K:aa):List V->Hp->VK->Prop:=λxs H Q=>∃ (a D C:ag) (b:Bool),xs=[.ref a,.ref C]/\H a=some (Ra a (.ref D))/\Cn K D/\ar K (.ref D) (.ref C)=some b/\Q (.bl b) H
theorem oA {X:Cx}:tL X (.builtin "isinstance") (wc X.K):=by
 intro pins s Z H xs us Q I r h
 obtain ⟨a,D,C,b,rfl,ha,hD,e,q⟩:=h
 obtain ⟨u,w',rfl,ru,rw'⟩:=vals2 r
 cases (show u=aE a from ru)
 cases (show w'=aE C from rw')
 obtain ⟨hφ,_⟩:=I.fX a _ ha
 exact fB (VA hD) I.xj hφ e (λz=>nomatch z) λtk=>⟨.bl b,H,I.tok tk,rfl,q⟩
end L2
namespace L2
structure rB (k:Nat) (A:bZ):Prop where
 dp:A.depth+3*k+5<rW
 un:A.units+16*k+200<jB
theorem k9.n {k:Nat}{A:bZ}(r:k9 k A):rB k A:=⟨r.dp,r.un⟩
theorem rB.mark {k:Nat}{A:bZ}(r:rB k A) (v:Option ai):rB k (A.mark v):=⟨r.dp,r.un⟩
theorem rB.mono {j k:Nat}{A:bZ}(r:rB k A) (h:j<=k):rB j A:=⟨by have:=r.dp;omega,by have:=r.un;omega⟩
theorem rB.deeper {k:Nat}{A:bZ}(r:rB (k+1) A) (env:xr):rB k (A.deeper env) :=
 ⟨by have:=r.dp;show A.depth+1+3*k+5<_;omega,by have:=r.un;show A.units+3+16*k+200<_;omega⟩
theorem rB.depth {k:Nat}{A:bZ}(r:rB k A):A.depth<rW:=by have:=r.dp;omega
structure Jl (P:a8) (w:bT) (K:aa) (mg:aZ->Option ai) (base:cg) (k:Nat) (f:ag) (fd:fo) (ps:List aZ) (sp:Sp):Prop where
 len:∀ vs H Q E,sp vs H Q E->vs.length=ps.length
 run:∀ (A:bZ) (outer:List xr) (s:aq) (H:Hp) (args:Args) (us:List ai) (vs:List V) (Q:VK) (E:XK),rB k A->NW P w K mg base A outer s H->Eh s fd args (ps.zip us)->Vals vs us->sp vs H Q E ->
  mQ (aY P w) A (.call (.ref f) args) (CR eT outer P w H s Q E) s
def cxN (P:a8) (w:bT) (K:aa) (mg:aZ->Option ai) (base:cg) (N:List aZ) (qual:aZ) (scope:lA) (f:ag) (cd:ai) (A:bZ) (outer:List xr) (s:aq) (H:Hp):Cx :=
 { pN eT P w K mg base N qual scope f cd A outer s H E0 with calm:=false,xe:=λ_ _=>False }
theorem aaS {P:a8}{w:bT}{K:aa}{mg:aZ->Option ai}{base:cg}{k:Nat}{f:ag}{name qual:aZ}{params:sP}{body:List dR}{scope:lA}{dV kV doc pm gG ct oc:ai}{an od:Option ag}
  {osl:Array (Option ai)}{N ps:List aZ}{sp:Sp}(lk:K.lookup f=some ⟨oc,od,.func (iD name qual params body scope dV kV doc pm an gG ct),osl⟩) (hcd:pR K gG qual=true) (S:bC N ps scope)
  (len:∀ vs H Q E,sp vs H Q E->vs.length=ps.length)
  (hbody:∀ (A:bZ) (outer:List xr) (s:aq) (H:Hp) (vs:List V) (Q:VK) (E:XK),rB k (A.deeper (pQ qual scope s.heap.objs.size f gG))->sp vs H Q E ->
   ∃ t,LA (cxN P w K mg base N qual scope f gG A outer s H) body t/\t { nx:=λ_ H'=>Q .non H',rt:=Q } (start N vs) H) :
  Jl P w K mg base (k+1) f (iD name qual params body scope dV kV doc pm an gG ct) ps sp:=by
 refine ⟨len,λA outer s H args us vs Q E hr e0 hb r hsp=>?_⟩
 have hl:=len _ _ _ _ hsp
 have KX:K.In s.heap:=e0.mod.Xj.keeps λb o e=>(e0.bs b o e).1
 have lim:s.heap.NoLimit:=e0.mod.nolimit.keeps λb o e=>(e0.bs b o e).1
 have hkind:∀ y∈ps.zip us,scope.names.lookup y.1=some .local\/(scope.names.lookup y.1=some .cell/\((Xo (s.heap.objs.size+1) scope.names []).lookup y.1).isSome=true):=λ⟨n,v⟩ hy=>by
  rcases S.par n (yg hy).1 with q|q
  ·exact .inl q
  ·exact .inr ⟨q,vR _ _ _ (.inl q)⟩
 refine ZM hr.depth (KX _ _ lk) rfl S.co S.gen rfl (TK KX hcd) (hb _ _ _ _ ?_)
 refine TL S.kind hkind λenv he s1 x=>?_
 subst he
 refine ⟨lim.keeps x.toInCall.keep,codeAny_func ?_⟩
 obtain ⟨t,ht,hq⟩:=hbody A outer s H vs Q E (hr.deeper _) hsp
 have I:Inv (cxN P w K mg base N qual scope f gG A outer s H) [] (start N vs) H s1:=by
  have J:Inv (pN eT P w K mg base N qual scope f gG { A with handled:=none } outer s H E0) [] (start N vs) H s1:=IW S rfl ⟨e0.frames,e0.mod,e0.bs,e0.RI,e0.xh,e0.Uj,e0.fX,e0.bare⟩ hl r x
  exact ⟨⟨J.ok.mod,J.ok.kind,J.ok.glob,J.ok.blt,J.ok.above,J.ok.inj,J.ok.has,J.ok.ZE,(λz=>nomatch z),RM e0.frames,J.ok.stk,J.ok.exf,J.ok.bs,J.ok.RI,J.ok.NY,J.ok.NT,J.ok.xh,J.ok.Uj⟩,J.os,J.bare,J.base,J.loc,J.cell,J.free,J.rC,J.pin,J.fX,J.len⟩
 refine fj (ht [] s1 (start N vs) H _ I hq) (λfl s' hs=>?_) λe s' hs=>cc hs
 have fin:∀ {σ':St}{H':Hp}{v:V}{u:ai},Inv (cxN P w K mg base N qual scope f gG A outer s H) [] σ' H' s'->RelV v u->Q v H'->CE outer P w H s Q u s' :=
  λ{σ' H' v u} J rv q=>⟨v,H',J.os,J.bare,J.base,J.fX,rv,q⟩
 cases fl with
 | ret u =>
  obtain ⟨v,σ',H',J,rv,q⟩:=hs
  exact fin J rv q
 | next =>
  obtain ⟨σ',H',J,q⟩:=hs
  exact fin (v:=V.non) (u:=cI) J rfl q
 | brk =>
  obtain ⟨_,_,_,q⟩:=hs
  exact cc q
 | cont =>
  obtain ⟨_,_,_,q⟩:=hs
  exact cc q
theorem jZ.okN {P:a8}{w:bT}{K:aa}{mg:aZ->Option ai}{base:cg}{x qual:aZ}{st:dR}{f:ag}{fd:fo}{N ps:List aZ}{k:Nat}{sp:Sp}(F:jZ K x qual st f fd) (S:bC N ps (aU st)) (len:∀ vs H Q E,sp vs H Q E->vs.length=ps.length)
  (hbody:∀ (gG:ai) (A:bZ) (outer:List xr) (s:aq) (H:Hp) (vs:List V) (Q:VK) (E:XK),rB k (A.deeper (pQ qual (aU st) s.heap.objs.size f gG))->sp vs H Q E ->
   ∃ t,LA (cxN P w K mg base N qual (aU st) f gG A outer s H) (nQ st) t/\t { nx:=λ_ H'=>Q .non H',rt:=Q } (start N vs) H):Jl P w K mg base (k+1) f fd ps sp:=by
 obtain ⟨oc,od,kV,doc,pm,an,gG,ct,osl,rfl,lk,hcd⟩:=F.ex
 exact aaS lk hcd S len λA outer s H vs Q E hr hsp=>hbody gG A outer s H vs Q E hr hsp
section
variable {X:Cx}{k:Nat}{f:ag}{fd:fo}{ps:List aZ}{sp:Sp}{x:aZ}{p pos:rD}{e:Expr}{es:List Expr}{t:TA}
theorem MS (F:Jl X.prog X.w X.K X.mg X.base k f fd ps sp) (hr:rB k X.A) (hg:Gl X x) (hm:X.mg x=some (.ref f)) (hk:eh X.K (.ref f)=true) (hb:Binds X.K fd ps [])
  (ha:PA X (e::es) t) (hdb:(x == ("__debug__":aZ))=false:=by decide) (he:bw (e::es) X.env=(false,gp e X.env)::bw es X.env:=by rfl) (hpl:(jg pos (bw es X.env)).any (·.1)=false:=by rfl) :
  PE X (.Call (.Name x p) (e::es) [] pos) (cz sp [] E0 t):=by
 intro pins s Z H Q I h
 refine dC (rF I hg hm ?_ hdb)
 refine lb (h₀:=X.base) I.ok.mod.Xj hk (iO (ha pos pins s Z H _ I h) λus s1 ⟨vs,H1,I1,r,q⟩=>⟨I1.xj,?_⟩) he hpl
 have r2:Vals (vs++[]) (us++[]):=r.append .nil
 have hl:(us++[]).length=ps.length:=by rw [← r2.length];exact F.len _ _ _ _ q
 refine qY (kH (F.run X.A X.stack s1 H1 ⟨us,[]⟩ (us++[]) (vs++[]) Q E0 hr I1.WR (hb s1 us I1.xj hl) r2 q) λr s' hq=>?_)
 cases r with
 | error e=>exact cc hq
 | ok fl =>
  cases fl with
  | ret u=>exact I1.after hq
  | next=>exact cc hq
  | brk=>exact cc hq
  | cont=>exact cc hq
end
theorem J9 {cls:ai}{E:XK}{D:ug}{Z:St}{H:Hp}(h:E cls none H):yS cls E D Z H:=h
theorem Ka {K:aa}{a D C:ag}{b:Bool}{H:Hp}{Q:VK}(ha:H a=some (Ra a (.ref D))) (hD:Cn K D) (e:ar K (.ref D) (.ref C)=some b) (k:Q (.bl b) H):wc K [.ref a,.ref C] H Q:=⟨a,D,C,b,rfl,ha,hD,e,k⟩
theorem acw {K:aa}{sp:Sp}{t:TA}{cT:ai}{i:Nat}{th:TS}{D:ug}{Z:St}{H:Hp}(h:t Z H λvs H1=>∃ E:XK,sp (vs++[]) H1 (λ_ H2=>D.nx Z H2) E /\
 ∀ cls H2,E cls none H2->∃ Dc:ag,cls=.ref Dc/\eD K cls cT=some true/\∀ a,H2 a=none->th { nx:=λ_ _=>False,rt:=D.rt } (Z.set i (some (.ref a))) (upd H2 a (Ra a cls))):aaQ K sp t cT i th D Z H:=h
end L2
namespace L2
section
variable {K:aa}{Z:St}{H:Hp}{Q:VK}
end
end L2
namespace L2
structure nS (P:a8) (w:bT) (K:aa) (mg:aZ->Option ai) (base:cg) (CX:Mj) (k:Nat) (x:aZ) (ps:List aZ) (sp:Sp) where
 f:ag
 d:fo
 G:dg P w K mg base CX k f d ps sp
 m:mg x=some (.ref f)
 kp:eh K (.ref f)=true
 b:Binds K d ps []
structure aaT (P:a8) (w:bT) (K:aa) (mg:aZ->Option ai) (base:cg) (k:Nat) (x:aZ) (ps:List aZ) (sp:Sp) where
 f:ag
 d:fo
 G:Jl P w K mg base k f d ps sp
 m:mg x=some (.ref f)
 kp:eh K (.ref f)=true
 b:Binds K d ps []
structure jq (P:a8) (w:bT) (K:aa) (mg:aZ->Option ai) (base:cg) (CX:Mj) (k:Nat) (C:ag) (x:aZ) (ps:List aZ) (sp:Sp) where
 f:ag
 d:fo
 G:dg P w K mg base CX k f d ps sp
 m:XO K C x f
 b:Binds K d ps []
structure O0 (P:a8) (w:bT) (K:aa) (mg:aZ->Option ai) (base:cg) (CX:Mj) (k:Nat) (C:ag) (ps:List aZ) (sp:Sp) where
 f:ag
 d:fo
 G:dg P w K mg base CX k f d ps sp
 m:Mk K C f
 b:Binds K d ps []
structure uJ (K:aa) (mg:aZ->Option ai) (x:aZ) (st:dR) (ps:List aZ) where
 f:ag
 d:fo
 F:jZ K x x st f d
 m:mg x=some (.ref f)
 bt:∀ (s:aq) (us:List ai),us.length=ps.length->Eh s d ⟨us,[]⟩ (ps.zip us)
 b:Binds K d ps []
structure nB (K:aa) (C:ag) (x q:aZ) (st:dR) (ps:List aZ) where
 f:ag
 d:fo
 F:jZ K x q st f d
 a:aO K (.ref C) x=some (some (.ref f))
 i:vQ K (.ref f)=true
 b:Binds K d ps []
def xY {K:aa}{h:cg}{mg:aZ->Option ai}{x:aZ}{st:dR}{ps:List aZ}(X:K.In h) (G:h.Ns bx mg) {f:ag}{od an:Option ag}{sl:Array (Option ai)}{oc kV dc pm cd ct:ai}(a:bO K bx x=some (some (.ref f)))
  (l:K.lookup f=some ⟨oc,od,.func (iD x x (sS st) (nQ st) (aU st) .none kV dc pm an cd ct),sl⟩) (c:pR K cd x=true) (k:eh K (.ref f)=true)
  (hb:∀ (kV doc pm:ai) (an:Option ag) (gG ct:ai) (us:List ai),us.length=ps.length->LG (iD x x (sS st) (nQ st) (aU st) .none kV doc pm an gG ct) ⟨us,[]⟩=pure (ps.zip us)):uJ K mg x st ps :=
 ⟨f,_,JP l c k,fD X G a,λs us hl=>.of_eq (hb kV dc pm an cd ct us hl),(JP l c k).binds hb⟩
def Bq {K:aa}{C:ag}{x q:aZ}{st:dR}{ps:List aZ}{f:ag}{od an:Option ag}{sl:Array (Option ai)}{oc kV dc pm cd ct:ai}(a:aO K (.ref C) x=some (some (.ref f))) (i:vQ K (.ref f)=true)
  (l:K.lookup f=some ⟨oc,od,.func (iD x q (sS st) (nQ st) (aU st) .none kV dc pm an cd ct),sl⟩) (c:pR K cd q=true) (k:eh K (.ref f)=true)
  (hb:∀ (kV doc pm:ai) (an:Option ag) (gG ct:ai) (us:List ai),us.length=ps.length->LG (iD x q (sS st) (nQ st) (aU st) .none kV doc pm an gG ct) ⟨us,[]⟩=pure (ps.zip us)):nB K C x q st ps :=
 ⟨f,_,JP l c k,a,i,(JP l c k).binds hb⟩
theorem uJ.law {K:aa}{mg:aZ->Option ai}{x y:aZ}{st:dR}{fa:ag}(D:uJ K mg x st [y]) (h:mg x=some (.ref fa)):D.f=fa:=by
 have:=D.m.symm.trans h
 cases this;rfl
section
variable {X:Cx}{CX:Mj}{E:XK}{k:Nat}{C:ag}{ps:List aZ}{sp:Sp}{x:aZ}{p pos apos:rD}{e o:Expr}{es:List Expr}{t:TA}{ta:TE}
theorem lC (c:nS X.prog X.w X.K X.mg X.base CX k x ps sp) (hr:k9 k X.A) (hg:Gl X x) (hx:rj CX X E) (ha:PA X (e::es) t) (hdb:(x == ("__debug__":aZ))=false:=by decide) (he:bw (e::es) X.env=(false,gp e X.env)::bw es X.env:=by rfl) (hpl:(jg pos (bw es X.env)).any (·.1)=false:=by rfl) :
  PE X (.Call (.Name x p) (e::es) [] pos) (cz sp [] E t):=XR c.G hr hg c.m c.kp c.b .nil hx ha hdb he hpl
theorem uo {pl:LC Bool}(c:jq X.prog X.w X.K X.mg X.base CX k C x ps sp) (cl:GW X.K C) (hr:k9 k X.A) (he:PE X o ta) (hx:rj CX X E) (ha:PA X (e::es) t)
  (hst:bw (e::es) X.env=(false,gp e X.env)::bw es X.env:=by rfl) (hpl:(jg pos (bw es X.env)).any (·.1)=false:=by rfl)
  (ht:gp (.Call (.Attribute o x apos) (e::es) [] pos) X.env=(do
   let ov ← gp o X.env
   Ee apos.atName
   let (f,first) ← qH [ov] (Eg ov x pl)
   callWith pos f first (jg pos (bw (e::es) X.env)) (TJ pos (DR [] X.env))):=by rfl) :
  PE X (.Call (.Attribute o x apos) (e::es) [] pos) (eO C x sp [] E ta t):=XS he cl c.m c.G hr c.b .nil hx ha hst hpl ht
theorem O1 {pl:LC Bool}(c:jq X.prog X.w X.K X.mg X.base CX k C x ps sp) (cl:GW X.K C) (hr:k9 k X.A) (he:PE X o ta) (hx:rj CX X E)
  (ht:gp (.Call (.Attribute o x apos) [] [] pos) X.env=(do
   let ov ← gp o X.env
   Ee apos.atName
   let (f,first) ← qH [ov] (Eg ov x pl)
   callWith pos f first (jg pos (bw [] X.env)) (TJ pos (DR [] X.env))):=by rfl) :
  PE X (.Call (.Attribute o x apos) [] [] pos) (eO C x sp [] E ta aT):=UH he cl c.m c.G hr c.b .nil hx ht
end
end L2
namespace L2
open PySem PySem.Spec PyProof.Rows PySem.W
def jr:List Int->List Int->Bool
 | [],[]=>false
 | [],_::_=>true
 | _::_,[]=>false
 | x::xs,y::ys=>if x=y then jr xs ys else decide (x<y)
theorem xA:∀ x:List Int,jr x x=false
 | []=>rfl
 | x::xs=>by unfold jr;rw [if_pos rfl];exact xA xs
theorem yT:∀ {x y:List Int},jr x y=false->jr y x=true\/x=y
 | [],[],_=>.inr rfl
 | [],_::_,h=>by unfold jr at h;cases h
 | _::_,[],_=>.inl (by unfold jr;rfl)
 | x::xs,y::ys,h=>by
  unfold jr at h ⊢
  by_cases e:x=y
  ·subst e
   rw [if_pos rfl] at h ⊢
   rcases yT h with q|q
   ·exact .inl q
   ·exact .inr (by rw [q])
  ·rw [if_neg e] at h
   rw [if_neg (Ne.symm e)]
   exact .inl (by have:=of_decide_eq_false h;exact decide_eq_true (by omega))
theorem yU:∀ {x y z:List Int},jr x y=true->jr y z=true->jr x z=true
 | [],[],_,h,_=>by unfold jr at h;cases h
 | [],_::_,[],_,h=>by unfold jr at h;cases h
 | [],_::_,_::_,_,_=>by unfold jr;rfl
 | _::_,[],_,h,_=>by unfold jr at h;cases h
 | _::_,_::_,[],_,h=>by unfold jr at h;cases h
 | x::xs,y::ys,z::zs,h,h'=>by
  unfold jr at h h' ⊢
  by_cases e:x=y
  ·subst e
   rw [if_pos rfl] at h
   by_cases e':x=z
   ·rw [if_pos e'] at h' ⊢;exact yU h h'
   ·rw [if_neg e'] at h' ⊢;exact h'
  ·rw [if_neg e] at h
   have h1:=of_decide_eq_true h
   by_cases e':y=z
   ·subst e';rw [if_neg e];exact h
   ·rw [if_neg e'] at h'
    have h2:=of_decide_eq_true h'
    rw [if_neg (by omega)]
    exact decide_eq_true (by omega)
def Jm (ts:List (List Int)) (t:List Int):Int:=(ts.countP λu=>jr u t:Nat)
theorem EX {ts:List (List Int)}{t u:List Int}(ht:t∈ts):decide (Jm ts t<Jm ts u)=jr t u:=by
 unfold Jm
 cases q:jr t u with
 | true =>
  have:=MG (l:=ts) (p:=λv=>jr v t) (q:=λv=>jr v u) (x:=t) (λy _ h=>yU h q) ht (xA t) q
  exact decide_eq_true (by omega)
 | false =>
  have:ts.countP (λv=>jr v u)<=ts.countP λv=>jr v t:=TV λv _ h=>by
   rcases yT q with e|e
   ·exact yU h e
   ·rw [e];exact h
  exact decide_eq_false (by omega)
inductive Flat:List Bool->List V->List Int->Prop
 | nil:Flat [] [] []
 | int (i:Int) {m:List Bool}{xs:List V}{ks:List Int}:Flat m xs ks->Flat (false::m) (.int i::xs) (i::ks)
 | bl (b:Bool) {m:List Bool}{xs:List V}{ks:List Int}:Flat m xs ks->Flat (true::m) (.bl b::xs) (b2i b::ks)
theorem Flat.length {m:List Bool}{xs:List V}{ks:List Int}(h:Flat m xs ks):xs.length=m.length:=by
 induction h with
 | nil=>rfl
 | int _ _ ih=>simp [ih]
 | bl _ _ ih=>simp [ih]
section
variable {prog:a8}{w:bT}{A:bZ}{s:aq}{b:Bool}{Q:Bool->aq->Prop}
theorem VB {m:List Bool}{xs:List V}{ks:List Int}(fx:Flat m xs ks):∀ {ys:List V}{ls:List Int}{us ws:List ai}{i:Nat},Flat m ys ls->Vals xs us->Vals ys ws->(b && i == 0)=false->Q (jr ks ls) s ->
  KatLex prog w A b false Q (us.zip ws) i s:=by
 induction fx with
 | nil =>
  intro ys ls us ws i fy rx ry hi q
  cases fy;cases rx;cases ry
  unfold jr at q
  exact kat_nil q
 | int a _ ih =>
  intro ys ls us ws i fy rx ry hi q
  cases fy with
  | int c fy =>
   cases rx with
   | cons r1 rx =>
    cases ry with
    | cons r2 ry =>
     obtain ⟨t,rfl⟩:=r1
     obtain ⟨u,rfl⟩:=r2
     rw [lP]
     refine LR (km a t c u _ _ _ _ ?_)
     unfold jr at q
     by_cases e:a=c
     ·rw [if_pos e] at q
      rw [show (a == c)=true by simpa using e]
      exact LS (ih fy rx ry (by simp) q)
     ·rw [if_neg e] at q
      rw [show (a == c)=false by simpa using e]
      refine kat_no ?_
      rw [hi]
      exact kat_one _ _ (Xl q)
 | bl a _ ih =>
  intro ys ls us ws i fy rx ry hi q
  cases fy with
  | bl c fy =>
   cases rx with
   | cons r1 rx =>
    cases ry with
    | cons r2 ry =>
     cases r1;cases r2
     rw [lP]
     refine LR (SeqAt.EqAt.bool_bool a c _ _ _ _ ?_)
     unfold jr at q
     by_cases e:a=c
     ·rw [if_pos (by rw [e])] at q
      rw [show (a == c)=true by simpa using e]
      exact LS (ih fy rx ry (by simp) q)
     ·rw [if_neg (by cases a<;>cases c<;>first|exact absurd rfl e|decide)] at q
      rw [show (a == c)=false by simpa using e]
      refine kat_no ?_
      rw [hi]
      exact kat_one _ _ (lt_bool q)
theorem Ym {x y:ag}{m:List Bool}{xs ys:List V}{ks ls:List Int}{us ws:List ai}{E:ai->aq->Prop}(fx:Flat (false::m) xs ks) (fy:Flat (false::m) ys ls) (rx:Vals xs us) (ry:Vals ys ws)
  (hx:vO s.heap x us.toArray) (hy:vO s.heap y ws.toArray) (h:Q (jr ks ls) s):aK (aY prog w) A (keyLt' (tuples' true) (.ref x) (.ref y)) Q E s:=by
 obtain ⟨ox,ex,cx,nx,dx⟩:=hx
 obtain ⟨oy,ey,cy,ny,dy⟩:=hy
 have l1:us.length=ws.length:=by rw [← rx.length,← ry.length,fx.length,fy.length]
 refine kat_lt ex dx ey dy ?_
 rw [show decide (us.toArray.size<ws.toArray.size)=false by simp [l1]]
 cases fx with
 | int a fx =>
  cases fy with
  | int c fy =>
   cases rx with
   | cons r1 rx =>
    cases ry with
    | cons r2 ry =>
     obtain ⟨t,rfl⟩:=r1
     obtain ⟨u,rfl⟩:=r2
     show KatLex _ _ _ _ _ _ (List.zip (_::_) (_::_)) 0 s
     rw [lP]
     refine LR (km a t c u _ _ _ _ ?_)
     unfold jr at h
     by_cases e:a=c
     ·rw [if_pos e] at h
      rw [show (a == c)=true by simpa using e]
      exact LS (VB fx fy rx ry (by simp) h)
     ·rw [if_neg e] at h
      rw [show (a == c)=false by simpa using e]
      exact kat_no (oneLt_int h)
end
abbrev Zn:=List Int×ag
def we (z:Zn):V:=.ref z.2
def aaU (m:List Bool) (H:Hp) (z:Zn):Prop:=∃ xs,H z.2=some (.tup xs)/\Flat (false::m) xs z.1
def wg (K:aa):List V->Hp->VK->Prop:=λxs H Q=>∃ (p:ag) (zs:List Zn) (m:List Bool),xs=[.ref p]/\fg K H p (zs.map we)/\(∀ z∈zs,aaU m H z)/\zs.length<64 /\
 ∀ (l:ag) (zs':List Zn),H l=none->zs'.Perm zs->zs'.Pairwise (λz w=>jr w.1 z.1=false)->Q (.ref l) (upd H l (.lst (zs'.map we)))
theorem EY:∀ {zs:List Zn}{us:List ai},Vals (zs.map we) us->us=zs.map λz=>aE z.2
 | [],_,h=>by cases h;rfl
 | z::zs,_,h=>by
  cases h with
  | cons h1 h2=>cases h1;rw [EY h2];rfl
theorem uO:∀ zs:List Zn,Vals (zs.map we) (zs.map λz=>aE z.2)
 | []=>.nil
 | _::zs=>.cons rfl (uO zs)
theorem Rb {h:cg}:∀ {zs:List Zn},(∀ z∈zs,∃ i t us,vO h z.2 (iR i t::us).toArray)->∃ fs,KatTups h (zs.map λz=>aE z.2) fs/\fs.length=zs.length/\∀ v∈fs,∃ i t,v=iR i t
 | [],_=>⟨[],.nil,rfl,λ_ h=>nomatch h⟩
 | z::zs,hz=>by
  obtain ⟨fs,k1,k2,k3⟩:=Rb (zs:=zs) λz' h'=>hz z' (ah _ h')
  obtain ⟨i,t,us,o,e,c,n,d⟩:=hz z aw
  refine ⟨.int i t::fs,KatTups.cons e c d (by simp) k1,by simp [k2],λv hv=>?_⟩
  rcases ay.mp hv with rfl|hv
  ·exact ⟨i,t,rfl⟩
  ·exact k3 v hv
theorem zY {zs:List Zn}{d:Zn}{k:Nat->Int}{pr:Array Nat}(hk:∀ i,k i=Jm (zs.map (·.1)) (zs.getD i d).1) (hp1:Sx.Pm zs.length pr) (hp2:Sx.Up k pr zs.length) :
  (pr.toList.map λi=>zs.getD i d).Perm zs/\(pr.toList.map λi=>zs.getD i d).Pairwise λz w=>jr w.1 z.1=false:=by
 have plt:∀ i∈pr.toList,i<zs.length:=λi hi=>by simpa using hp1.mem_iff.mp hi
 have mz:∀ i,i<zs.length->zs.getD i d∈zs:=λi hi=>by
  have:zs.getD i d=zs[i]:=by simp [hi]
  rw [this];exact iG hi
 refine ⟨?_,?_⟩
 ·have:=hp1.map λi=>zs.getD i d
  rwa [OS] at this
 ·rw [Od]
  intro i j hi hj hij
  rw [aj] at hi hj
  simp only [List.getElem_map]
  have hsz:pr.size=zs.length:=hp1.size
  have hj':j<zs.length:=by rw [← hsz];simpa using hj
  have hle:=hp2.le (oi hij) hj'
  unfold Sx.Ky at hle
  have gi:∀ i (h:i<pr.toList.length),pr.getD i 0=pr.toList[i]:=λi h=>by
   have h':i<pr.size:=by simpa using h
   simp [uc,h']
  rw [gi i hi,gi j hj,hk,hk] at hle
  cases w:jr (zs.getD pr.toList[j] d).1 (zs.getD pr.toList[i] d).1 with
  | false=>rfl
  | true =>
   rw [← EX (ts:=zs.map (·.1)) (bR (mz _ (plt _ (iG hj)))),decide_eq_true_iff] at w
   omega
section
variable {X:Cx}
theorem uP:tL X (.builtin "sorted") (wg X.K):=by
 intro pins s Z H xs us Q I r h
 obtain ⟨p,zs,mk,rfl,hq,hz,h64,q⟩:=h
 obtain ⟨u,rfl,ru⟩:=vals1 r
 cases ru
 obtain ⟨its,rv,pl,hsz⟩:=I.list hq
 have ei:=EY rv
 subst ei
 have tup0:∀ z∈zs,∃ xs us,Flat (false::mk) xs z.1/\Vals xs us/\vO s.heap z.2 us.toArray:=λz hz'=>by
  obtain ⟨xs,h1,h2⟩:=hz z hz'
  obtain ⟨ts,r,it,_⟩:=I.tuple (.of h1)
  exact ⟨xs,ts,h2,r,it⟩
 by_cases h2:2<=zs.length
 ·obtain ⟨m,F,N⟩:=I.xm
  refine kat_sorted F N pl.isList (by rw [aj];exact h2) (by rw [aj];exact h64) λD e1 h' F' N' hD=>?_
  have kept:∀ b o,b≠X.env.locals->s.heap.get? b=some o->h'.get? b=some o:=λb o h1 e=>by
   cases w:X.base.get? b with
   | some u =>
    have z:=I.bk b u w
    rw [e] at z
    cases z
    exact F'.keep b _ w
   | none=>exact (N' (b,o) (ah _ (qM h1 w e))).1
  have tup:∀ z∈zs,∃ xs us,Flat (false::mk) xs z.1/\Vals xs us/\vO h' z.2 us.toArray:=λz hz'=>by
   obtain ⟨xs,us,f,r,o,e,rest⟩:=tup0 z hz'
   refine ⟨xs,us,f,r,o,kept _ o (λw=>?_) e,rest⟩
   obtain ⟨_,e2,_⟩:=hz z hz'
   rw [w,I.free] at e2
   cases e2
  obtain ⟨fs,k1,k2,k3⟩:=Rb (zs:=zs) (h:=h') λz hz'=>by
   obtain ⟨xs,us,f,r,it⟩:=tup z hz'
   generalize z.1=kz at f
   cases f with
   | int i f =>
    cases r with
    | cons r1 r=>obtain ⟨t,rfl⟩:=r1;exact ⟨i,t,_,it⟩
  refine kat_kind (T:=.type "int") k1 (by omega) (λv hv=>?_) rfl ?_
  ·obtain ⟨i,t,rfl⟩:=k3 v hv
   exact Looks.now
  have et:(eK "int" != eK "tuple")=true:=by decide
  rw [et,aj]
  have gz:∀ i,i<zs.length->(zs.map λz=>aE z.2).getD i cI=aE (zs.getD i ([],0)).2:=λi hi=>by simp [hi]
  have mz:∀ i,i<zs.length->zs.getD i ([],0)∈zs:=λi hi=>by
   have:zs.getD i ([],0)=zs[i]:=by simp [hi]
   rw [this];exact iG hi
  refine Sx.Sat.ask (n:=zs.length) (k:=λi=>Jm (zs.map (·.1)) (zs.getD i ([],0)).1) (λi j C hi hj hC=>?_) (λpr hp=>?_) (Sx.MF (by omega))
  ·unfold kas_ask
   rw [gz i hi,gz j hj]
   obtain ⟨xs,us,f1,r1,i1⟩:=tup _ (mz i hi)
   obtain ⟨ys,ws,f2,r2,i2⟩:=tup _ (mz j hj)
   refine Ym (s:={ s with heap:=h' }) f1 f2 r1 r2 i1 i2 ?_
   rw [EX (bR (mz i hi))] at hC
   exact hC
  ·obtain ⟨hperm,hsort⟩:=zY (d:=([],0)) (λi=>rfl) hp.1 hp.2
   have plt:∀ i∈pr.toList,i<zs.length:=λi hi=>by simpa using hp.1.mem_iff.mp hi
   have eo:(pr.toList.map λi=>(zs.map λz=>aE z.2).getD i cI)=(pr.toList.map λi=>zs.getD i ([],0)).map λz=>aE z.2:=by
    rw [cW]
    exact oF λi hi=>gz i (plt i hi)
   rw [eo]
   generalize (pr.toList.map λi=>zs.getD i ([],0))=zs' at hperm hsort
   have hlen:zs'.length<=bf:=bA (m:=64) (by rw [hperm.length_eq];omega)
   refine Ow F' N' (A5 λq hq=>aS (hD q hq)) λh'' c F'' N''=>?_
   obtain ⟨hn,I2⟩:=I.GM (t':=s.toks) (o:=.lst (zs'.map we)) F.ns F'' N'' hD ⟨by rw [aj];exact hlen,_,c,uO zs',(N'' _ aw).1⟩
   exact ⟨.ref D,_,I2,rfl,q D zs' hn hperm hsort⟩
 ·have hs:(zs.map λz=>aE z.2).length<2:=by rw [aj];omega
  refine J1 pl.isList hs ?_
  obtain ⟨e,he⟩:=sortedAll_at s.heap (zs.map λz=>aE z.2) (zs.map λz=>aE z.2).toArray
  refine ⟨.ref (s.heap.objs.size+1),_,I.laid (t':=s.toks) (o:=.lst (zs.map we)) (λb o e=>sortedAll_old e) (gQ _) ⟨by rw [aj];exact bA (m:=64) (by omega),_,e,uO zs,by simpa [bL] using he⟩,rfl,q _ zs (I.fX.fresh (gQ _)) (pH _) ?_⟩
  match zs,h2 with
  | [],_=>exact .nil
  | [z],_=>exact vW _ _
  | z::w::r,h2=>simp at h2
end
end L2
namespace L2
open PySem PySem.Spec PySem.Calls PyProof.Rows
open PySem.W (kla_fn kla_obj tabObj CodeHd)
theorem SI {prog:a8}{w:bT}{A:bZ}{E:ai->aq->Prop}{Q:ai->aq->Prop}{s:aq}{f c':ag}{qual x:aZ}{params:sP}{body:Expr}{scope:lA}{clos:List (aZ×ag)}{pm ctv v:ai}
  (hroom:A.depth<rW) (ho:s.heap.get? f=some (A2 "<lambda>" qual params body scope clos pm c' ctv)) (hrec:s.heap.CodeRec (.ref c') qual) (hlim:s.heap.NoLimit)
  (hb:LG (kla_fn "<lambda>" qual params body scope clos pm (.ref c') ctv) ⟨[v],[]⟩=pure [(x,v)])
  (hx:scope.names.lookup x=some .local) (hk:scope.kind=.function) (hco:scope.isCoroutine=false) (hgen:scope.isGenerator=false) (hcell:∀ z∈scope.names,z.2≠.cell)
  (h:∀ (env:xr) (h₁:cg) (tk:Nat) (E':ai->aq->Prop),env.scope=scope->env.cells=clos->s.heap.objs.size<=env.locals->h₁.Ns env.locals (λz=>dS z [(x,v)])->(∀ b o,s.heap.get? b=some o->h₁.get? b=some o) ->
   aK (aY prog w) (A.deeper env) (gp body env) Q E' { s with heap:=h₁,toks:=tk }) :
  aK (aY prog w) A (call (.ref f) [v]) Q E s:=by
 refine qY (PySem.W.kla_callFunE hroom ho rfl hco hgen rfl hrec ?_)
 rw [hb]
 refine av (wpAny_newFunctionEnv hcell (λz hz=>by rw [aF.mp hz];exact hx) (λh₁ hns hsb=>⟨hlim.fresh _ hsb,?_⟩) hk)
 have hk₁:∀ b o,s.heap.get? b=some o->h₁.get? b=some o:=λb o e=>hsb.extBut b o (aS (aI e)) (au _ e)
 exact PySem.W.kla_codeExpr (h _ h₁ _ _ rfl rfl (ax _) hns hk₁)
section
variable {prog:a8}{w:bT}{A:bZ}{env:xr}{s:aq}{h:cg}{a b:Expr}{i j:Int}{pos:rD}
end
section
variable {X:Cx}{c Pt:ag}{e body:Expr}{tx:TA}{x y:aZ}{j:Nat}{params:sP}{scope:lA}{p0 lpos kpos pos:rD}{C:Int->Int->Int->Prop}{g:Int->Int->Int->Int}
end
end L2
namespace L2
open PySem PySem.Spec PySem.Calls PyProof.Rows PySem.W
theorem Rc:∀ x y:List Int,jr x y=HT.lexLt x y
 | [],[]=>rfl
 | [],_::_=>rfl
 | _::_,[]=>rfl
 | x::xs,y::ys=>by unfold jr;rw [HT.Ey,Rc xs ys]
def zZ (z:Zn) (t:Tok):gC:=bL "tuple" #[.int (z.1.headD 0) t,.ref z.2] 0
section
variable {prog:a8}{w:bT}{A:bZ}{s:aq}{Q:Bool->aq->Prop}
theorem Yn {k1 k2 b1 b2:ag}{w1 w2 x1 y1 x2 y2:Int}{t1 t2 ta tb tc td:Tok}{E:ai->aq->Prop}(hx:vO s.heap k1 #[.int w1 t1,.ref b1]) (hy:vO s.heap k2 #[.int w2 t2,.ref b2])
  (hb1:vO s.heap b1 #[.int x1 ta,.int y1 tb]) (hb2:vO s.heap b2 #[.int x2 tc,.int y2 td]) (hu:A.units<jB) (h:Q (jr [w1,x1,y1] [w2,x2,y2]) s):aK (aY prog w) A (keyLt' (tuples' true) (.ref k1) (.ref k2)) Q E s:=by
 obtain ⟨ox,ex,cx,nx,dx⟩:=hx
 obtain ⟨oy,ey,cy,ny,dy⟩:=hy
 refine kat_lt ex dx ey dy ?_
 have ez:(#[iR w1 t1,aE b1].toList.zip #[iR w2 t2,aE b2].toList)=[(.int w1 t1,.int w2 t2),(.ref b1,.ref b2)]:=rfl
 rw [ez]
 refine LR (km w1 t1 w2 t2 _ _ _ _ ?_)
 unfold jr at h
 by_cases e:w1=w2
 ·rw [if_pos e] at h
  rw [show (w1 == w2)=true by simpa using e]
  by_cases eb:b1=b2
  ·subst eb
   refine LS (LR (SeqAt.EqAt.same _ _ _ _ _ (LS (kat_nil ?_))))
   have:x1=x2/\y1=y2:=by
    obtain ⟨o,e1,_,n,d1⟩:=hb1
    obtain ⟨o',e2,_,n',d2⟩:=hb2
    rw [e1] at e2;cases e2
    rw [d1] at d2
    simp at d2
    exact ⟨d2.1.1.1,d2.1.2.1⟩
   rw [this.1,this.2,xA] at h
   exact h
  ·have rc:SeqAt.RcAt A s (.ref b1) (.ref b2) ((fM (min 2 2)).all (λj=>if j=0 then x1 == x2 else y1 == y2) && (2 == 2)):=SeqAt.RcAt.tuples (items:=#[.int x1 ta,.int y1 tb]) (items2:=#[.int x2 tc,.int y2 td]) hb1 hb2 hu λj h1 h2=>by
    match j,h1,h2 with
    | 0,_,_=>exact km x1 ta x2 tc
    | 1,_,_=>exact km y1 tb y2 td
    | j+2,h1,_=>exact absurd h1 (by simp)
   have er:((fM (min 2 2)).all (λj=>if j=0 then x1 == x2 else y1 == y2) && (2 == 2))=(x1 == x2 && y1 == y2):=by
    show ([0,1].all _ && true)=_
    simp
   rw [er] at rc
   refine LS (LR (SeqAt.EqAt.of_refs eb rc _ _ _ _ ?_))
   by_cases c1:x1=x2/\y1=y2
   ·rw [show (x1 == x2 && y1 == y2)=true by simp [c1]]
    refine LS (kat_nil ?_)
    rw [c1.1,c1.2,xA] at h
    exact h
   ·rw [show (x1 == x2 && y1 == y2)=false by
     cases q:(x1 == x2 && y1 == y2) with
     | false=>rfl
     | true=>simp at q;exact absurd q c1]
    refine kat_no (kat_one _ _ (HT.OI hb1 hb2 (.cons _ _ (.cons _ _ .nil)) (.cons _ _ (.cons _ _ .nil)) hu ?_))
    rw [Rc] at h
    exact h
 ·rw [if_neg e] at h
  rw [show (w1 == w2)=false by simpa using e]
  exact kat_no (oneLt_int h)
end
section
variable {P:a8}{w:bT}{A:bZ}{env:xr}{s:aq}{h:cg}{H:Hp}
theorem VC {x y:aZ}{b d cl:ag}{wt:Int}{tk:Nat}{p1 p2 p3 p4 p5:rD}{x1} {Q:ai->aq->Prop}{E:ai->aq->Prop}(fX:vE P w H h) (hk:env.scope.kind=.function) (hx:env.scope.names.lookup x=some .local) (hy:env.scope.names.lookup y=some .free) (hn:h.Ns env.locals (λz=>dS z [(x,aE b)]))
  (hcl:env.cells.lookup y=some cl) (hcv:h.IsCell cl (some (.ref d))) {Uk:List (List kg×V)}{k:List kg}(hd:H d=some (.dT Uk)) (hb:H b=some (.tup (k.map kV))) (hv:mC Uk k=some (.int wt)) (hu:A.units+64<jB)
  (q:∀ t tk',Q (.ref h.objs.size) { s with heap:=h.push (bL "tuple" #[.int wt t,.ref b] 0),toks:=tk' })
  (hdx:(x == ("__debug__":aZ))=false:=by decide) (hdy:(y == ("__debug__":aZ))=false:=by decide) (hdc:(y == ("__classdict__":aZ))=false:=by decide) :
  aK (aY P w) A (gp (.Tuple [.Subscript (.Name y p1) (.Name x p2) p3,.Name x p4] x1 p5) env) Q E { s with heap:=h,toks:=tk }:=by
 have lx:dS x [(x,aE b)]=some (aE b):=by rw [dm,beq_self_eq_true]
 refine wpAny_Tuple_spliced (lE (Subscript_ (AZ (wpAny_loadName_free hk hy hcl (v:=.ref d) hcv ?_ hdc) hdy)))
 refine AZ (ua hk hx hn (v:=.ref b) lx ?_) hdx
 obtain ⟨z,hm,xs,rel,dd⟩:=Ja fX (.inl hd)
 obtain ⟨w',hw,rw'⟩:=xk.some_of (v:=V.int wt) (o:=(LI xs k).map (·.2)) (by rw [← hv];exact rel.val k)
 obtain ⟨t,rfl⟩:=rw'
 obtain ⟨p,hp,hp2⟩:=bV.mp hw
 have ty:({ s with heap:=h,toks:=tk }:aq).TypeIs (.ref d) "dict":=by
  obtain ⟨o,es,ep,e1,e2,_⟩:=dd
  exact ⟨o,e1,e2.1⟩
 refine tail_any ty JA.lookup (wpAny_getItem_heap (mR (by omega)) (v8 fX hb) dd hp ?_) rfl
 rw [hp2]
 refine lE (AZ (ua hk hx hn (v:=.ref b) lx (ql ⟨?_,q t _⟩)) hdx)
 exact bA (m:=2) (ax 2)
end
end L2
namespace L2
open PySem PySem.Spec PySem.Calls PyProof.Rows PySem.W
def Re (own:List (ag×gC)) (zs:List Zn) (ks:List ag):Prop:=Paired (λ(z:Zn) (k:ag)=>∃ t,(k,zZ z t)∈own) zs ks
theorem CF {α β:Type} {R:α->β->Prop}{a:α}{b:β}(r:R a b):∀ {xs:List α}{ys:List β},Paired R xs ys->Paired R (xs++[a]) (ys++[b])
 | _,_,.nil=>.cons r .nil
 | _,_,.cons h t=>.cons h (CF r t)
theorem EZ {α β:Type} {R:α->β->Prop}:∀ {xs:List α}{ys:List β},Paired R xs ys->ys.length=xs.length
 | _,_,.nil=>rfl
 | _,_,.cons _ t=>by simp [EZ t]
theorem E1 {α β:Type} {R:α->β->Prop}:∀ {xs:List α}{ys:List β},Paired R xs ys->∀ (i:Nat) (a:α),xs[i]?=some a->∃ b,ys[i]?=some b/\R a b
 | _,_,.nil,_,_,h=>by simp at h
 | _,_,.cons r t,0,a,h=>by simp at h;subst h;exact ⟨_,rfl,r⟩
 | _,_,.cons r t,i+1,a,h=>by simpa using E1 t i a (by simpa using h)
section
variable {prog:a8}{w:bT}{A:bZ}{s:aq}{h₀:cg} {L a kS:ag}{m:aZ->Option ai}{news:List (ag×gC)}{f:ai}{e1:Nat}{zs:List Zn}{Fin:List ai->Nat->aq->Prop}
theorem Zs (turn:∀ z∈zs,∀ (h:cg) (tk:Nat) (own:List (ag×gC)),Fr h₀ L h m->AY h₀ L h (news++own)->∀ Q:ai->aq->Prop,
   (∀ h' tk' t k,(∀ b o,h.get? b=some o->h'.get? b=some o)->h.get? k=none->h'.get? k=some (zZ z t)->Q (.ref k) { s with heap:=h',toks:=tk' })->aK (aY prog w) A (call f [.ref z.2]) Q (λ_ _=>False) { s with heap:=h,toks:=tk })
  (hak:a≠kS):∀ (r done:List Zn) (ks:List ag) (own:List (ag×gC)) (e:Nat) (h:cg) (tk:Nat),Fr h₀ L h m->AY h₀ L h ((kS,bL "list" (ks.map aE).toArray e)::(a,bL "list" #[] e1)::(own++news))->(∀ q∈own++news,q.1≠kS)->Re own done ks->(∀ z∈r,z∈zs) ->
   (∀ own' ks' e' h' tk',Fr h₀ L h' m->AY h₀ L h' ((kS,bL "list" (ks'.map aE).toArray e')::(a,bL "list" #[] e1)::(own'++news))->(∀ q∈own'++news,q.1≠kS)->Re own' (done++r) ks'->Fin (ks'.map aE) e' { s with heap:=h',toks:=tk' }) ->
   KatKeys prog w A h₀ L m kS f Fin (r.map λz=>aE z.2) (ks.map aE) e { s with heap:=h,toks:=tk }
 | [],done,ks,own,e,h,tk,F,N,hk,rel,hr,fin=>KatKeys.nil (fin own ks e h tk F N hk (by rw [yf];exact rel))
 | z::r,done,ks,own,e,h,tk,F,N,hk,rel,hr,fin=>by
  have nk:=N _ aw
  refine KatKeys.cons (turn z (hr z aw) h tk ((kS,bL "list" (ks.map aE).toArray e)::(a,bL "list" #[] e1)::own) F (λp hp=>N p ?_) _ λh' tk' t k keep kn hkk=>?_)
  ·rcases a7.mp hp with hp|hp
   ·exact ah _ (ah _ (bp _ hp))
   ·rcases ay.mp hp with hp|hp
    ·exact hp▸aw
    ·rcases ay.mp hp with hp|hp
     ·exact hp▸ah _ aw
     ·exact ah _ (ah _ (dh _ hp))
  have F':Fr h₀ L h' m:=F.kept keep
  have N':=N.grown keep
  have kL:k≠L:=λq=>by
   obtain ⟨o,_,_,e,_⟩:=F.ns
   rw [q,e] at kn;cases kn
  have k0:h₀.get? k=none:=by
   cases q:h₀.get? k with
   | none=>rfl
   | some o=>rw [F.keep k o q] at kn;cases kn
  have kk:k≠kS:=λq=>by rw [q,nk.1] at kn;cases kn
  have hk':∀ q∈(k,zZ z t)::own++news,q.1≠kS:=λq hq=>by
   rcases ay.mp hq with rfl|hq
   ·exact kk
   ·exact hk q hq
  have N2:AY h₀ L h' ((kS,bL "list" (ks.map aE).toArray e)::(a,bL "list" #[] e1)::((k,zZ z t)::own++news)):=λp hp=>by
   rcases ay.mp hp with rfl|hp
   ·exact N' _ aw
   ·rcases ay.mp hp with rfl|hp
    ·exact N' _ (ah _ aw)
    ·rcases ay.mp hp with rfl|hp
     ·exact ⟨hkk,kL,k0⟩
     ·exact N' p (ah _ (ah _ hp))
  refine KatBack.intro F' N2 (A5 λq hq=>?_) λh2 c F2 N3=>?_
  ·rcases ay.mp hq with rfl|hq
   ·exact hak
   ·exact hk' q hq
  have em:ks.map aE++[aE k]=(ks++[k]).map aE:=by simp
  rw [em] at N3 ⊢
  exact Zs turn hak r (done++[z]) (ks++[k]) ((k,zZ z t)::own) c h2 tk' F2 N3 hk' (CF ⟨t,aw⟩ (Paired.To rel λz' k' ⟨t',ht⟩=>⟨t',ah _ ht⟩))
   (λz' hz'=>hr z' (ah _ hz')) λown' ks' e' h3 tk3 F3 N4 hk3 rel3=>fin own' ks' e' h3 tk3 F3 N4 hk3 (by rw [fq] at rel3;exact rel3)
end
section
variable {prog:a8}{w:bT}{A:bZ}{s:aq}{h₀:cg} {L a kS:ag}{m:aZ->Option ai}{news own:List (ag×gC)}{e e1:Nat}{zs:List Zn}{ks:List ag}{Post:aq->Prop}
theorem O2 (F:Fr h₀ L s.heap m) (N:AY h₀ L s.heap ((kS,bL "list" (ks.map aE).toArray e)::(a,bL "list" #[] e1)::(own++news))) (hk:∀ q∈own++news,q.1≠kS) (hak:a≠kS) (hna:∀ q∈news,q.1≠a)
  (rel:Re own zs ks) (h2:2<=zs.length) (hu:A.units<jB) (tie:∀ z∈zs,∃ v x y t u,z.1=[v,x,y]/\vO s.heap z.2 #[.int x t,.int y u])
  (fin:∀ h' c (zs':List Zn),zs'.Perm zs->zs'.Pairwise (λz w=>jr w.1 z.1=false)->Fr h₀ L h' m->AY h₀ L h' ((a,bL "list" (zs'.map λz=>aE z.2).toArray c)::news)->Post { s with heap:=h' }) :
  aK (aY prog w) A (keyKind' (ks.map aE).toArray) (λκ s''=>(kas_sort (zs.map λz=>aE z.2).length).kasWp (kas_ask prog w A κ (Ub false (ks.map aE))) (λp s3=>KatFin h₀ L m kS a (ks.map aE) e e1 (Ub false (p.toList.map λi=>(Ub false (zs.map λz=>aE z.2)).getD i cI)) (λs4=>Post s4) s3) s'') (λ_ _=>False) s:=by
 have kl:=EZ rel
 have at_:∀ (z:Zn) (k:ag) (t:Tok),(k,zZ z t)∈own->vO s.heap k #[.int (z.1.headD 0) t,.ref z.2]:=λz k t hm=>by
  have:=(N _ (ah _ (ah _ (dh _ hm)))).1
  exact ⟨_,this,rfl,0,rfl⟩
 have kt:∀ {zs:List Zn}{ks:List ag},Re own zs ks->∃ fs,KatTups s.heap (ks.map aE) fs/\fs.length=zs.length/\∀ v∈fs,∃ i t,v=iR i t:=by
  intro zs ks rel
  induction rel with
  | nil=>exact ⟨[],.nil,rfl,λ_ h=>nomatch h⟩
  | cons r _ ih =>
   obtain ⟨fs,f1,f2,f3⟩:=ih
   obtain ⟨t,ht⟩:=r
   obtain ⟨o,e,c,n,d⟩:=at_ _ _ t ht
   refine ⟨.int _ t::fs,KatTups.cons e c d (by rfl) f1,by simp [f2],λv hv=>?_⟩
   rcases ay.mp hv with rfl|hv
   ·exact ⟨_,t,rfl⟩
   ·exact f3 v hv
 obtain ⟨fs,f1,f2,f3⟩:=kt rel
 refine kat_kind (T:=.type "int") f1 (by omega) (λv hv=>?_) rfl ?_
 ·obtain ⟨i,t,rfl⟩:=f3 v hv
  exact Looks.now
 have et:(eK "int" != eK "tuple")=true:=by decide
 rw [et,aj]
 have rv:∀ {α:Type} (l:List α),Ub false l=l:=λl=>by unfold Ub;rw [if_neg (by simp)]
 simp only [rv]
 have gz:∀ i,i<zs.length->(zs.map λz=>aE z.2).getD i cI=aE (zs.getD i ([],0)).2:=λi hi=>by simp [hi]
 have mz:∀ i,i<zs.length->zs.getD i ([],0)∈zs:=λi hi=>by
  have:zs.getD i ([],0)=zs[i]:=by simp [hi]
  rw [this];exact iG hi
 have gk:∀ i,i<zs.length->∃ k t,(ks.map aE).getD i cI=aE k/\vO s.heap k #[.int ((zs.getD i ([],0)).1.headD 0) t,.ref (zs.getD i ([],0)).2]:=λi hi=>by
  obtain ⟨k,hk1,t,ht⟩:=E1 rel i _ (by rw [aD hi])
  have:zs.getD i ([],0)=zs[i]:=by simp [hi]
  rw [this]
  exact ⟨k,t,by simp [hk1],at_ _ _ _ ht⟩
 refine Sx.Sat.ask (n:=zs.length) (k:=λi=>Jm (zs.map (·.1)) (zs.getD i ([],0)).1) (λi j C hi hj hC=>?_) (λpr hp=>?_) (Sx.MF (by omega))
 ·unfold kas_ask
  obtain ⟨k1,t1,q1,i1⟩:=gk i hi
  obtain ⟨k2,t2,q2,i2⟩:=gk j hj
  rw [q1,q2]
  have hC':C (jr (zs.getD i ([],0)).1 (zs.getD j ([],0)).1) s:=by
   rw [EX (bR (mz i hi))] at hC
   exact hC
  obtain ⟨v1,x1,y1,ta,tb,z1,b1⟩:=tie _ (mz i hi)
  obtain ⟨v2,x2,y2,tc,td,z2,b2⟩:=tie _ (mz j hj)
  rw [z1,z2] at hC'
  rw [z1] at i1
  rw [z2] at i2
  exact Yn i1 i2 b1 b2 hu hC'
 ·obtain ⟨hperm,hsort⟩:=zY (d:=([],0)) (λi=>rfl) hp.1 hp.2
  have plt:∀ i∈pr.toList,i<zs.length:=λi hi=>by simpa using hp.1.mem_iff.mp hi
  have eo:(pr.toList.map λi=>(zs.map λz=>aE z.2).getD i cI)=(pr.toList.map λi=>zs.getD i ([],0)).map λz=>aE z.2:=by
   rw [cW]
   exact oF λi hi=>gz i (plt i hi)
  rw [eo]
  generalize (pr.toList.map λi=>zs.getD i ([],0))=zs' at hperm hsort
  refine KatFin.intro F N (A5 λq hq=>?_) λh' c F' N'=>?_
  ·rcases ay.mp hq with rfl|hq
   ·exact hak
   ·exact hk q hq
  have N2:AY h₀ L h' ((a,bL "list" #[] e1)::news):=λp hp=>by
   rcases ay.mp hp with rfl|hp
   ·exact N' _ (ah _ aw)
   ·exact N' p (ah _ (ah _ (bp _ hp)))
  exact Ow (s:={ s with heap:=h' }) F' N2 (A5 λq hq=>hna q hq) λh'' c' F'' N''=>fin h'' c' zs' hperm hsort F'' N''
end
end L2
namespace L2
open PySem PySem.Spec PySem.Calls PyProof.Rows PySem.W
section
variable {prog:a8}{w:bT}{A:bZ}{E:ai->aq->Prop}{s:aq}{h₀:cg} {L a:ag}{m:aZ->Option ai}{news:List (ag×gC)}{f:ai}{n:Nat}{vs:List ai}{P:PySem.Fin->aq->Prop}
theorem SJ (F:Fr h₀ L s.heap m) (N:AY h₀ L s.heap news) (ho:s.heap.get? a=some (bL "list" vs.toArray n)) (haL:a≠L) (ha0:h₀.get? a=none) (hna:∀ p∈news,p.1≠a) (h1:vs.length<2)
  (turn:∀ v∈vs,∀ (h:cg) (tk:Nat) (own:List (ag×gC)),Fr h₀ L h m->AY h₀ L h (news++own)->∀ Q:ai->aq->Prop,
   (∀ h' tk' k,(∀ b o,h.get? b=some o->h'.get? b=some o)->Q k { s with heap:=h',toks:=tk' })->aK (aY prog w) A (call f [v]) Q (λ_ _=>False) { s with heap:=h,toks:=tk })
  (q:∀ h' tk c,Fr h₀ L h' m->AY h₀ L h' ((a,bL "list" vs.toArray c)::news)->P (.done (.ret .none)) { s with heap:=h',toks:=tk }):aK (aY prog w) A (ksk_tree a f false) P E s:=by
 have hz:vs.length<=bf:=bA (m:=2) (by omega)
 have s1:=cV s.heap a (bu λ_=>(#[]:Array ai))
 obtain ⟨e1,g1⟩:∃ c,(s.heap.update a (bu λ_=>(#[]:Array ai))).get? a=some (bL "list" #[] c):=⟨_,uH ho λ_=>#[]⟩
 have F1:Fr h₀ L (s.heap.update a (bu λ_=>(#[]:Array ai))) m:=ksk_fr F s1 haL ha0
 have N1:=ksk_news N s1 hna
 unfold ksk_tree
 refine ae (vq ho rfl (ae (tO ho rfl (ae (seqEpoch_at g1 rfl (ae (DS (ae (yi (cF ?_) (bG _))) hz)))) (by rw [aV];exact hz) (bG _))))
 have k2:∀ b o,(s.heap.update a (bu λ_=>(#[]:Array ai))).get? b=some o->(((s.heap.update a (bu λ_=>(#[]:Array ai))).push (bL "tuple" vs.toArray 0)).push (bL "list" #[] 0)).get? b=some o:=λb o e=>au _ (au _ e)
 have gk:(((s.heap.update a (bu λ_=>(#[]:Array ai))).push (bL "tuple" vs.toArray 0)).push (bL "list" #[] 0)).get? ((s.heap.update a (bu λ_=>(#[]:Array ai))).push (bL "tuple" vs.toArray 0)).objs.size=some (bL "list" #[] 0):=aL _ rfl
 have kfr:∀ b o,(s.heap.update a (bu λ_=>(#[]:Array ai))).get? b=some o->b≠((s.heap.update a (bu λ_=>(#[]:Array ai))).push (bL "tuple" vs.toArray 0)).objs.size:=λb o e=>aS (aI (au (bL "tuple" vs.toArray 0) e))
 show aK (aY prog w) A (ksk_rest a f false vs.toArray _ (.ref ((s.heap.update a (bu λ_=>(#[]:Array ai))).push (bL "tuple" vs.toArray 0)).objs.size)) _ _ { s with heap:=((s.heap.update a (bu λ_=>(#[]:Array ai))).push (bL "tuple" vs.toArray 0)).push (bL "list" #[] 0) }
 generalize ((s.heap.update a (bu λ_=>(#[]:Array ai))).push (bL "tuple" vs.toArray 0)).objs.size=kS at gk kfr
 generalize ((s.heap.update a (bu λ_=>(#[]:Array ai))).push (bL "tuple" vs.toArray 0)).push (bL "list" #[] 0)=h2 at k2 gk
 have hak:a≠kS:=kfr a _ g1
 have hnk:∀ p∈news,p.1≠kS:=λp hp=>kfr _ _ (N1 p hp).1
 have kL:kS≠L:=λz=>by
  obtain ⟨o,_,_,e,_⟩:=F1.ns
  exact kfr _ _ e z.symm
 have k0:h₀.get? kS=none:=by
  cases z:h₀.get? kS with
  | none=>rfl
  | some o=>exact absurd rfl (kfr _ _ (F1.keep kS o z))
 have F2:=F1.kept k2
 have N2:AY h₀ L h2 ((kS,bL "list" #[] 0)::(a,bL "list" #[] e1)::news):=λp hp=>by
  rcases ay.mp hp with rfl|hp
  ·exact ⟨gk,kL,k0⟩
  ·rcases ay.mp hp with rfl|hp
   ·exact ⟨k2 _ _ g1,haL,ha0⟩
   ·exact (N1.grown k2) p hp
 have end_:∀ (ks:List ai) (e:Nat) (h:cg) (tk:Nat),ks.length=vs.length->Fr h₀ L h m->AY h₀ L h ((kS,bL "list" ks.toArray e)::(a,bL "list" #[] e1)::news)->aK (aY prog w) A (ksk_end a false vs.toArray e1 (.ref kS) ks.toArray) P E { s with heap:=h,toks:=tk }:=by
  intro ks e h tk hl F3 N3
  have hn2:vs.toArray.size<2:=by rw [aV];exact h1
  unfold ksk_end
  simp only [cC,if_false]
  rw [if_pos hn2,if_pos hn2]
  refine ae (av ?_)
  rw [YZ]
  refine ae (av ?_)
  dsimp only
  refine kat_tail (h₀:=h₀) (L:=L) (m:=m) (e:=e) (ks:=ks) (out:=vs) ?_ (by omega) (by omega) rfl ?_
  ·show (ks.toArray.zip vs.toArray).map (·.2)=vs.toArray
   apply Y0.mp
   simp
   exact ZQ (by omega)
  ·have rv:Ub false vs=vs:=by unfold Ub;rw [if_neg (by simp)]
   rw [rv]
   refine KatFin.intro F3 N3 (A5 λq hq=>?_) λh' c F' N'=>?_
   ·rcases ay.mp hq with rfl|hq
    ·exact hak
    ·exact hnk q hq
   ·exact Ow (s:={ s with heap:=h',toks:=tk }) F' (λp hp=>N' p (ah _ hp)) (A5 λq hq=>hna q hq) λh'' c' F'' N''=>q h'' tk c' F'' N''
 unfold ksk_rest
 refine ae (sQ ?_)
 match vs,h1,turn,end_ with
 | [],_,_,end_ =>
  refine ae ?_
  simp only [Xw,zD]
  refine av (ae (vq gk rfl (end_ [] 0 h2 _ rfl F2 N2)))
 | [v],_,turn,end_ =>
  refine ae ?_
  simp only [Xw,yh,zD]
  refine ae (ae (iU (fj (turn v aw h2 _ ((kS,bL "list" #[] 0)::(a,bL "list" #[] e1)::[]) F2 (λp hp=>N2 p ?_) _ λh3 tk3 k keep=>?_) (λ_ _ z=>z) λ_ _ z=>z.elim)))
  ·rcases a7.mp hp with hp|hp
   ·exact ah _ (ah _ hp)
   ·rcases ay.mp hp with rfl|hp
    ·exact aw
    ·rw [aF.mp hp];exact ah _ aw
  have g3:=keep _ _ gk
  have s3:=cV h3 kS (bu (·.push k))
  obtain ⟨c3,g4⟩:∃ c,(h3.update kS (bu (·.push k))).get? kS=some (bL "list" (List.toArray [k]) c):=⟨_,uH g3 (·.push k)⟩
  dsimp only
  refine ae (tO g3 rfl (av ?_) (bG _) (oo (bG _)))
  dsimp only
  refine av (ae (vq g4 rfl (end_ [k] c3 _ tk3 rfl (ksk_fr (F2.kept keep) s3 kL k0) λp hp=>?_)))
  rcases ay.mp hp with rfl|hp
  ·exact ⟨g4,kL,k0⟩
  ·have:=(N2.grown keep) p (ah _ hp)
   exact ⟨(s3.2 p.1 (by
    rcases ay.mp hp with rfl|hp
    ·exact hak
    ·exact hnk p hp)).trans this.1,this.2⟩
 | _::_::_,h,_,_=>exact absurd h (by simp)
end
section
variable {X:Cx}{c Pt:ag}{e:Expr}{tx:TA}{x y:aZ}{j:Nat}{params:sP}{scope:lA}{p0 p1 p2 p3 p4 p5 lpos kpos pos:rD}{x1:Nat}
end
end L2
namespace L2
open PySem PySem.Spec PySem.Calls PyProof.Rows
theorem k9.WO {k:Nat}{A:bZ}(r:k9 k A):A.units+128<jB:=by have:=r.un;omega
section
variable {X:Cx}{CX:Mj}{k:Nat}{B:ag}{x:aZ}{ps:List aZ}{sp:Sp}{o e:Expr}{es:List Expr}{t:TA}{E:XK}{apos pos:rD}
end
section
variable {X:Cx}{x:Expr}{t:TA}{p1 p2 q1 q2:rD}
end
end L2
namespace L2
open PySem PySem.Spec PySem.Calls PyProof.Rows
open PySem.W (tabObj CodeHd noTabs tabIn)
theorem SK {P:a8}{w:bT}{K:aa}{mg mb:aZ->Option ai}{k:Nat}{fa a:ag}{Ps:List (ag×ag)}{fd:fo}{x:aZ}{sp:Sp}{s₁:aq} {vs:List ai}{ns:List Int}
  (KX:K.In s₁.heap) (hns:s₁.heap.Ns bx mg) (hb:s₁.heap.Ns builtinsNs mb) (hbb:∀ x:aZ,x≠"__name__"->mb x=eV x) (hlim:s₁.heap.NoLimit) (hg:s₁.gens=#[])
  (C:∀ p∈Ps,rY s₁.heap p.1 p.2) (hPt0:∀ p∈Ps,s₁.heap.get? p.2=some (Ob #[])) (Bm:∀ p∈Ps,s₁.heap.BuiltinsAt mg p.2) (hnt:noTabs K=true)
  (ha:s₁.heap.get? a=some { cls:=.type "list",data:=.seq vs.toArray }) (hi:ip vs ns) (hl:ns.length<=bf) (hr:k9 k LJ)
  (F:∀ base:cg,K.In base->base.Ns bx mg->(∀ p∈Ps,rY base p.1 p.2/\base.BuiltinsAt mg p.2)->dg P w K mg base eT k fa fd [x] sp) (hbind:∀ (s:aq) (u:ai),Eh s fd ⟨[u],[]⟩ [(x,u)])
  (hsp:∀ H:Hp,(∀ p∈Ps,H p.2=some (.tbl #[]))->fg K H a (ns.map V.int)->sp [.ref a] H (λv _=>v=.bl true) λ_ _ _=>False)
  (hCX:∀ H e s',eT [] H s₁ (λ_ _ _=>False) e s'->False) :
  mQ (aY P w) LJ (.call (.ref fa) ⟨[.ref a],[]⟩) (λr s'=>r=.ok (.ret (.bool true))/\OldK s₁.heap s'.heap/\s'.os=s₁.os/\xM s'.gens) s₁:=by
 have rv:=Bj hi
 have lenV:=hi.length
 have hPt:∀ b,b∈Ps.map (·.2)->s₁.heap.get? b=some (Ob #[]):=λb hb=>by
  obtain ⟨p,hp,rfl⟩:=bX.mp hb
  exact hPt0 p hp
 have naP:a∉Ps.map (·.2):=λz=>by rw [hPt a z] at ha;cases ha
 have KPt:∀ b,b∈Ps.map (·.2)->K.lookup b=none:=λb hb=>by
  cases q:K.lookup b with
  | none=>rfl
  | some o =>
   have e:=KX b o q
   rw [hPt b hb] at e;cases e
   have h2:=ZO.mp hnt (b,Ob #[]) (PySem.W.mem_of_lookupK q)
   exact absurd (show false=true from h2) bM
 have core:∀ H:Hp,(∀ b,b∈Ps.map (·.2)->H b=some (.tbl #[]))->(∀ b,b∉Ps.map (·.2)->H b=none\/∃ o xs,H b=some (.frz o (.lst xs)))->fg K H a (ns.map V.int)->vE P w H s₁.heap->(∀ b,b∉Ps.map (·.2)->H b≠none->b=a)->(H a≠none->K.lookup a=none) ->
   mQ (aY P w) LJ (.call (.ref fa) ⟨[.ref a],[]⟩) (λr s'=>r=.ok (.ret (.bool true))/\OldK s₁.heap s'.heap/\s'.os=s₁.os/\xM s'.gens) s₁:=by
  intro H hT hO hS fX hA hK
  have base_of:∀ {b:ag}{o:gC},s₁.heap.get? b=some o->H b=none->(El s₁.heap H).get? b=some o:=λe n=>Uw e n
  have noA:∀ {b:ag}{o:gC},s₁.heap.get? b=some o->o.cls≠.type "list"->b∉Ps.map (·.2)->H b=none:=λ{b o} e d hbP=>by
   cases q:H b with
   | none=>rfl
   | some u =>
    have e':b=a:=hA b hbP (by rw [q];simp)
    subst e'
    rw [ha] at e;cases e
    exact absurd rfl d
  have noD:∀ {b:ag}{o:gC}{es:Array DictEntry}{ep:Nat},s₁.heap.get? b=some o->o.data=.dict es ep->H b=none:=λ{b o es ep} e d=>by
   have hbP:b∉Ps.map (·.2):=λz=>by rw [hPt b z] at e;cases e;cases d
   cases q:H b with
   | none=>rfl
   | some u =>
    have e':b=a:=hA b hbP (by rw [q];simp)
    subst e'
    rw [ha] at e;cases e
    have d':Data.seq vs.toArray _=Data.dict es ep:=d
    cases d'
  have nsK:∀ {b:ag}{m:aZ->Option ai},s₁.heap.Ns b m->(El s₁.heap H).Ns b m:=λ{b m} ⟨o,es,ep,e,d,r⟩=>⟨o,es,ep,base_of e (noD e d),d,r⟩
  have hKb:K.In (El s₁.heap H):=λb o e=>base_of (KX b o e) (by
   have hbP:b∉Ps.map (·.2):=λz=>by rw [KPt b z] at e;cases e
   cases q:H b with
   | none=>rfl
   | some u =>
    have e':b=a:=hA b hbP (by rw [q];simp)
    subst e'
    rw [hK (by rw [q];simp)] at e;cases e)
  have hM:Mod K mg (El s₁.heap H):=⟨hKb,nsK hns,⟨mb,nsK hb,hbb⟩,let ⟨mc,h1,h2⟩:=hlim;⟨mc,nsK h1,h2⟩⟩
  have notab:∀ {b:ag}{o:gC},s₁.heap.get? b=some o->o.cls≠.none->b∉Ps.map (·.2):=λ{b o} e d z=>by rw [hPt b z] at e;cases e;exact d rfl
  have hCB:∀ p∈Ps,rY (El s₁.heap H) p.1 p.2/\(El s₁.heap H).BuiltinsAt mg p.2:=λp hp=>by
   refine ⟨?_,?_⟩
   ·obtain ⟨o,vs',file,tf,flags,tg,inF,text,tt,e1,r1,r2,r3,r4,r5,r6,r7,r8,hne⟩:=C p hp
    exact ⟨o,vs',file,tf,flags,tg,inF,text,tt,base_of e1 (noA e1 (by rw [r1];decide) (notab e1 (by rw [r1];decide))),r1,r2,r3,r4,r5,r6,r7,r8,hne⟩
   ·obtain ⟨bm,o,b1,b2,b3,b4,b5,b6,b7⟩:=Bm p hp
    exact ⟨bm,o,b1,b2,b3,b4,base_of b5 (noA b5 (by rw [b6];decide) (notab b5 (by rw [b6];decide))),b6,b7⟩
  have e0:NW P w K mg (El s₁.heap H) LJ [] s₁ H:=⟨rfl,hM,λb o e=>Xx e,GR (RX _ _),trivial,λb hb=>absurd (show b∈([]:List ag) from hb) (by simp),fX,.of_eq hg⟩
  refine kH ((F _ hKb (nsK hns) hCB).run LJ [] s₁ H ⟨[.ref a],[]⟩ [.ref a] [.ref a] _ _ hr e0 (hbind s₁ (.ref a)) (.cons rfl .nil) (hsp H (λp hp=>hT p.2 (bR hp)) hS)) λr s' h=>?_
  cases r with
  | error e=>exact (hCX H e s' h).elim
  | ok fl =>
   cases fl with
   | next=>exact cc h
   | brk=>exact cc h
   | cont=>exact cc h
   | ret u =>
    obtain ⟨v,H',os,bare,un,hok',r',q⟩:=h
    have q':v=.bl true:=q
    subst q'
    obtain rfl:u=xq true:=r'
    have keep:∀ b o,b∉Ps.map (·.2)->s₁.heap.get? b=some o->s'.heap.get? b=some o:=λb o hbP e=>by
     cases q:H b with
     | none=>exact un.keep b o e q (by intro z;exact absurd (show b∈([]:List ag) from z) (by simp)) (by simp)
     | some u =>
      rcases hO b hbP with z|⟨ob,xs,z⟩
      ·rw [q] at z;cases z
      ·have z2:=un.xp b ob _ z
       obtain ⟨e1,_⟩:=fX b _ z
       obtain ⟨e2,_⟩:=hok' b _ z2
       rw [e] at e1;cases e1
       exact e2
    have hmore:∀ b,b∈Ps.map (·.2)->∃ more,s'.heap.get? b=some (Ob (#[]++more)):=λb hb=>by
     obtain ⟨more,hm⟩:=un.xn b _ (hT b hb)
     exact ⟨more,hok' b _ hm⟩
    refine ⟨rfl,⟨λb o e=>?_,λb o e=>?_⟩,os,bare⟩
    ·by_cases hbP:b∈Ps.map (·.2)
     ·obtain ⟨more,hP'⟩:=hmore b hbP
      obtain ⟨p,hp,rfl⟩:=bX.mp hbP
      rw [hPt0 p hp] at e;cases e
      exact .inr (.inl ⟨((C p hp).tab (hPt0 p hp)).isCodeTable,rfl,#[],more,rfl,hP'⟩)
     ·exact .inl (keep b o hbP e)
    ·by_cases hbP:b∈Ps.map (·.2)
     ·obtain ⟨more,hP'⟩:=hmore b hbP
      exact ⟨_,hP'⟩
     ·exact ⟨o,keep b o hbP e⟩
 cases hk:K.lookup a with
 | some o =>
  have e:=KX a o hk
  rw [ha] at e
  cases e
  refine core (λb=>if b∈Ps.map (·.2) then some (.tbl #[]) else none) (λb hb=>if_pos hb) (λb hb=>.inl (if_neg hb)) (.inr ⟨_,vs.toArray,_,hk,rfl,rfl,rfl,by rw [aV,lenV];exact hl,by simpa using rv⟩) (λb u z=>?_) (λb hb z=>absurd (if_neg hb) z) λz=>absurd (if_neg naP) z
  by_cases hb:b∈Ps.map (·.2)
  ·have z':=(if_pos hb).symm.trans z
   cases z'
   exact hPt b hb
  ·have z':=(if_neg hb).symm.trans z
   cases z'
 | none =>
  refine core (λb=>if b∈Ps.map (·.2) then some (.tbl #[]) else if b=a then some (.frz { cls:=.type "list",data:=.seq vs.toArray } (.lst (ns.map V.int))) else none) (λb hb=>if_pos hb) (λb hb=>?_) (.inl (.inr ⟨{ cls:=.type "list",data:=.seq vs.toArray },(if_neg naP).trans (if_pos rfl)⟩)) (λb u z=>?_) (λb hb z=>?_) λ_=>hk
  ·by_cases hba:b=a
   ·exact .inr ⟨_,_,(if_neg hb).trans (if_pos hba)⟩
   ·exact .inl ((if_neg hb).trans (if_neg hba))
  ·by_cases hb:b∈Ps.map (·.2)
   ·have z':=(if_pos hb).symm.trans z
    cases z'
    exact hPt b hb
   ·have z0:=(if_neg hb).symm.trans z
    by_cases hba:b=a
    ·have z':=(if_pos hba).symm.trans z0
     cases z'
     subst hba
     exact ⟨ha,by rw [aj];exact hl,vs,_,rv,ha⟩
    ·have z':=(if_neg hba).symm.trans z0
     cases z'
  ·by_cases hba:b=a
   ·exact hba
   ·exact absurd ((if_neg hb).trans (if_neg hba)) z
theorem VD {l:vF}{n k:Nat}{q:a8}{loose:List aZ}{XP:(aZ->Option ai)->cg->Prop}{YP:bT->cg->Prop}{d:DefRec}{K:Params->aa}{sp:bT->Sp}{x:aZ}{Ps:List (ag×ag)}
  (hn:l.most=some n) (hn2:n<=bf) (hdf:d.params.defaults=[]) (hr:k9 k LJ)
  (hY:∀ (w:bT) (h:cg),YP w h->(K w.params).In h)
  (htab:∀ p∈Ps,∃ (y:aZ) (dy:DefRec),(recsOf q).find? (λe=>e.name == y)=some dy/\∀ w:bT,tabIn (K w.params) y=some p) (hnt:∀ w:bT,noTabs (K w.params)=true)
  (F:∀ (w:bT) (mg:aZ->Option ai) (fa:ag) (h:cg),(K w.params).In h->h.Ns bx mg->mg d.name=some (.ref fa) ->
   ∃ fd:fo,(∀ (s:aq) (u:ai),Eh s fd ⟨[u],[]⟩ [(x,u)]) /\
    ∀ base:cg,(K w.params).In base->base.Ns bx mg->(∀ p∈Ps,rY base p.1 p.2/\base.BuiltinsAt mg p.2)->dg l.prog w (K w.params) mg base eT k fa fd [x] (sp w))
  (hsp:∀ (w:bT) (H:Hp) (a:ag) (ns:List Int),ns.length<=n->(∀ p∈Ps,H p.2=some (.tbl #[]))->fg (K w.params) H a (ns.map V.int)->sp w [.ref a] H (λv _=>v=.bl true) λ_ _ _=>False)
  (hCX:∀ (H:Hp) (s:aq) (e:ai) (s':aq),eT [] H s (λ_ _ _=>False) e s'->False) :
  W7 q loose XP YP l.row.toRowW d [] (λf vs=>W8 f vs):=by
 refine Att.Mq hn hdf λw s₀ s₁ mg mb fa o pm cd doc a vs ns G Y ho hd hcd hmg hobj hints hlen hg=>?_
 have KX:=hY w _ Y
 obtain ⟨fd,hb,hF⟩:=F w mg fa _ KX G.T.g hmg
 have hC:∀ p∈Ps,rY s₁.heap p.1 p.2/\s₁.heap.get? p.2=some (Ob #[]):=λp hp=>by
  obtain ⟨y,dy,h1,h2⟩:=htab p hp
  exact PySem.W.tab_of G.T KX h1 (h2 w)
 have hgs:=G.T.g
 obtain ⟨bm,ob,b1,b2,b3,b4,b5,b6⟩:=G.T.bmain
 have hbG:bm≠bx:=λq=>by
  obtain ⟨o,es,ep,e,hd,_⟩:=hgs
  rw [q,e] at b3;cases b3;rw [hd] at b6;cases b6
 refine SK KX G.T.g G.T.b G.T.builtins G.T.nolimit hg (λp hp=>(hC p hp).1) (λp hp=>(hC p hp).2) (λp hp=>⟨bm,ob,b1,b2,hbG,λq=>?_,b3,b4,b5,b6⟩) (hnt w) hobj hints (bE hlen hn2) hr hF hb (λH hT hS=>hsp w H a ns hlen hT hS) λH e s'=>hCX H s₁ e s'
 have:=(hC p hp).2
 rw [← q,b3] at this
 cases this
 cases b4
end L2
namespace L2
def VE (K:aa):List V->Hp->VK->Prop:=λxs H Q=>∃ (p:ag) (ns:List Int),xs=[.ref p]/\fg K H p (ns.map V.int)/\Q (.int ns.sum) H
theorem Jo {X:Cx}(hc:X.calm=true):tL X (.builtin "sum") (VE X.K):=by
 intro pins s Z H xs us Q I r h
 obtain ⟨p,ns,rfl,hq,q⟩:=h
 obtain ⟨u,rfl,ru⟩:=vals1 r
 cases ru
 obtain ⟨its,rv,pl,hz⟩:=I.list hq
 have hi:ip its ns:=intsAre_of rv
 obtain ⟨ys,e⟩:=hi.allInts.items
 have hn:=hi.numsOf
 have e':its=(intItems ys).toList:=by rw [← e]
 rw [e',nums_intItems] at hn
 have hl:s.heap.IsList p (intItems ys):=by rw [← e];exact pl.isList
 subst hn
 refine sum_intListG (I.ok.hd hc) hl λh' tk t' hk=>⟨.int _,H,I.kept hk,⟨t',?_⟩,q⟩
 rw [preSum_eq,cQ (by simp)]
end L2
namespace L2
open PySem PySem.Spec PyProof.Rows PySem.W
section
variable {X:Cx}{a:Expr}{ta:TE}
end
end L2
namespace L2
open PySem PySem.Spec PySem.Calls PyProof.Rows PySem.W
def O3 (Pt:ag) (pos:rD) (qual:aZ) (j:Nat) (tx:TA):TE:=λZ H Q=>tx Z H λv H1 =>
 ∃ (p d:ag) (zs:List Zn) (Uk:List (List kg×V)),v=[.ref p]/\H1 p=some (.lst (zs.map we))/\Z[j]?=some (some (.ref d))/\H1 d=some (.dT Uk)/\(∀ z∈zs,∃ w x y:Int,z.1=[w,x,y]/\H1 z.2=some (.tup [.int x,.int y])/\mC Uk [gH x,gH y]=some (.int w))/\zs.length<64/\QD Pt pos qual H1 /\
  ∀ (l:ag) (zs':List Zn) (H2:Hp),H2 l=none->Mz Pt H1 H2->QD Pt pos qual H2->zs'.Perm zs->zs'.Pairwise (λz w=>jr w.1 z.1=false)->Q (.ref l) (upd H2 l (.lst (zs'.map we)))
theorem MT {prog:a8}{w:bT}{A:bZ}{E:ai->aq->Prop}{s:aq}{l:ag}{vs:List ai}{Q:List ai->aq->Prop}(hl:s.heap.IsList l vs.toArray) (hn:vs.length<=bf)
  (q:∀ h' tk,(∀ b o,s.heap.get? b=some o->h'.get? b=some o)->Q vs { s with heap:=h',toks:=tk }):aK (aY prog w) A (collect (.ref l)) Q E s:=by
 refine collect_list hl (q _ _ λb o e=>?_) (by simpa using hn)
 have hlt:b<s.heap.objs.size:=aI e
 rw [Heap.get?_update_ne _ _ _ _ (aS hlt),Heap.get?_push_ne _ _ _ (aS hlt)]
 exact e
section
variable {X:Cx}{c Pt:ag}{e:Expr}{tx:TA}{x y:aZ}{j:Nat}{params:sP}{scope:lA}{p0 p1 p2 p3 p4 p5 lpos kpos pos:rD}{x1:Nat}
theorem VF (hcalm:X.calm=true) (hcode:X.env.code=.ref c) (C0:rY X.base c Pt) (B:X.base.BuiltinsAt X.mg Pt) (hroom:X.A.depth<rW) (hun:X.A.units+128<jB)
  (hgl:Gl X "sorted") (hm:X.mg "sorted"=none) (hx:PA X [e] tx) (hN:X.N[j]?=some y) (hky:X.env.kindOf y=some .cell)
  (hs:jg pos (bw [e] X.env)=(false,gp e X.env)::jg pos (bw [] X.env):=by rfl) (hpl:(jg pos (bw [e] X.env)).any (·.1)=false:=by rfl)
  (hdef:defaultsOf params X.env=([],[]):=by rfl)
  (hbind:∀ clos pm gG ctv v,LG (kla_fn "<lambda>" (X.env.qual++"<lambda>") params (.Tuple [.Subscript (.Name y p1) (.Name x p2) p3,.Name x p4] x1 p5) scope clos pm gG ctv) ⟨[v],[]⟩=pure [(x,v)]:=by intros;rfl)
  (hsx:scope.names.lookup x=some .local:=by rfl) (hsy:scope.names.lookup y=some .free:=by rfl) (hk:scope.kind=.function:=by rfl) (hco:scope.isCoroutine=false:=by rfl) (hgen:scope.isGenerator=false:=by rfl) (hcell:∀ z∈scope.names,z.2≠.cell:=by decide +kernel)
  (hfr:(scope.names.all λy=>y.2 != .free || X.env.kindOf y.1 == some .cell || X.env.kindOf y.1 == some .free)=true:=by rfl)
  (hdx:(x == ("__debug__":aZ))=false:=by decide) (hdy:(y == ("__debug__":aZ))=false:=by decide) (hdc:(y == ("__classdict__":aZ))=false:=by decide) :
  PE X (.Call (.Name "sorted" p0) [e] [⟨some "key",.Lambda params (.Tuple [.Subscript (.Name y p1) (.Name x p2) p3,.Name x p4] x1 p5) scope lpos,kpos⟩] pos) (O3 Pt lpos (X.env.qual++"<lambda>") j tx):=by
 intro pins s Z H Q I h
 refine dC (rg I hgl hm (u:=.builtin "sorted") BootT.EI ?_)
 refine callWith_kw ?_ hs hpl
 refine iO (hx pos pins s Z H _ I h) λus s1 ⟨vs,H1,I1,rv,q⟩=>?_
 obtain ⟨p,d,zs,Uk,rfl,hp,hj,hd,hkv,h64,hT,k⟩:=q
 obtain ⟨u,rfl,ru⟩:=vals1 rv
 cases ru
 show aK _ X.A (evalAll [do let v ← gp _ X.env;Ee pos;pure v]) _ _ s1
 refine wpAny_evalAll_cons (ae (U7 I1 hcode C0 B hdef (zN I1 hfr) hT λf c' ctv h' tk H2 I2 hf hrec S2 T2 hk2=>ae (GX (av (wpAny_evalAll_nil ?_)))))
 obtain ⟨ps,hPt⟩:=hT.tbl
 have hp2:=S2 p _ (λz=>by rw [z,hPt] at hp;cases hp) hp
 have hd2:=S2 d _ (λz=>by rw [z,hPt] at hd;cases hd) hd
 have k2:∀ z∈zs,∃ w x y:Int,z.1=[w,x,y]/\H2 z.2=some (.tup [.int x,.int y])/\mC Uk [gH x,gH y]=some (.int w):=λz hz=>by
  obtain ⟨w,x,y,e1,e2,e3⟩:=hkv z hz
  exact ⟨w,x,y,e1,S2 _ _ (λz=>by rw [z,hPt] at e2;cases e2) e2,e3⟩
 obtain ⟨its,n1,rp,op,zp⟩:=I2.lst hp2
 have hits:=EY rp
 subst hits
 have hh:X.A.handled=none:=I2.ok.hd hcalm
 obtain ⟨m,F2,N2⟩:=I2.xm
 obtain ⟨my,hny,hlk⟩:=I2.loc
 obtain ⟨uy,ruy,lky⟩:=hlk j y (.ref d) hN hj (.inr (.inl hky))
 cases ruy
 obtain ⟨cl,hcl,hcv⟩:∃ cl,X.env.cells.lookup y=some cl/\h'.IsCell cl (some (.ref d)):=by
  rcases lky with ⟨z,_⟩|⟨_,cl,h1,h2⟩
  ·rw [hky] at z;cases z
  ·exact ⟨cl,h1,h2⟩
 have hclo:(sM X.env.cells scope.names []).lookup y=some cl:=by
  obtain ⟨d,hd⟩:=zL (cells:=X.env.cells) (x:=y) scope.names [] (.inl (mem_of_lookup hsy))
  have hd':=(ou _ _ (zN I1 hfr) hd).resolve_right (by simp)
  rw [hcl] at hd'
  rw [hd,← hd']
 have kept:∀ (h:cg) (own:List (ag×gC)),Fr X.base X.env.locals h m->AY X.base X.env.locals h (oJ X.base h' X.env.locals++own)->∀ b o,b≠X.env.locals->h'.get? b=some o->h.get? b=some o:=λh own F N b o h1 e=>by
  cases q:X.base.get? b with
  | some u =>
   have:=I2.bk b u q
   rw [e] at this;cases this
   exact F.keep b _ q
  | none=>exact (N (b,o) (dh _ (qM h1 q e))).1
 have fL:f≠X.env.locals:=λz=>by
  obtain ⟨o,es,ep,e,d,_⟩:=F2.ns
  rw [← z] at e
  rw [e] at hf;cases hf;cases d
 have cL:c'≠X.env.locals:=λz=>by
  obtain ⟨c2,o2,vs2,t2,e2,h2,d2,_⟩:=hrec
  cases e2
  obtain ⟨o,es,ep,e,d,_⟩:=F2.ns
  rw [← z] at e
  rw [e] at h2;cases h2;rw [d] at d2;cases d2
 have clL:cl≠X.env.locals:=I2.Ui y cl hcl
 have un2:X.A.in1.in1.units+3+64<jB:=by show X.A.units+1+1+3+64<_;omega
 -- one key
 have turn:∀ z∈zs,∀ (h:cg) (tk':Nat) (own:List (ag×gC)),Fr X.base X.env.locals h m->AY X.base X.env.locals h (oJ X.base h' X.env.locals++own)->∀ R:ai->aq->Prop,
   (∀ h3 tk3 t k,(∀ b o,h.get? b=some o->h3.get? b=some o)->h.get? k=none->h3.get? k=some (zZ z t)->R (.ref k) { s1 with heap:=h3,toks:=tk3 })->aK (aY X.prog X.w) X.A.in1.in1 (call (.ref f) [.ref z.2]) R (λ_ _=>False) { s1 with heap:=h,toks:=tk' }:=by
  intro z hz h tk' own F N R hR
  obtain ⟨ww,xx,yy,ez,hzt,hzw⟩:=k2 z hz
  have kk:=kept h own F N
  have J:Inv X pins Z H2 { s1 with heap:=h,toks:=tk' }:=I2.news (s:={ s1 with heap:=h',toks:=tk }) F2.ns F λp hp=>N p (dh _ hp)
  refine SI (s:={ s1 with heap:=h,toks:=tk' }) (by exact hroom) (kk f _ fL hf) ?_ (I2.mod.nolimit.keeps F.keep) (hbind _ _ _ _ _) hsx hk hco hgen hcell λenv h3 tk3 E' q1 q2 q3 hns hk3=>?_
  ·obtain ⟨c2,o2,vs2,t2',e2,h2,d2⟩:=hrec
   cases e2
   exact ⟨c',o2,vs2,t2',rfl,kk _ _ cL h2,d2⟩
  ·refine VC (s:={ s1 with heap:=h,toks:=tk' }) (H:=H2) (d:=d) (cl:=cl) (k:=[gH xx,gH yy]) (J.fX.kept hk3) (by rw [q1];exact hk) (by rw [q1];exact hsx) (by rw [q1];exact hsy) hns (by rw [q2];exact hclo) ?_ hd2 hzt hzw un2 (λt tk4=>?_) hdx hdy hdc
   ·obtain ⟨o,e,d⟩:=hcv
    exact ⟨o,hk3 _ _ (kk _ _ clL e),d⟩
   ·refine hR _ tk4 t _ (λb o e=>au _ (hk3 b o e)) ?_ ?_
    ·cases q:h.get? h3.objs.size with
     | none=>rfl
     | some o=>exact absurd (aI (hk3 _ _ q)) (gE _)
    ·have:zZ z t=bL "tuple" #[.int ww t,.ref z.2] 0:=by unfold zZ;rw [ez];rfl
     rw [this]
     exact aL _ rfl
 have hzl:(zs.map λz=>aE z.2).length<=bf:=bA (m:=64) (by rw [aj];omega)
 -- the call
 refine call_function_entry_kw kind_sorted YX YY (ksk_s1 _ _) ?_
 unfold lO.«sorted»
 refine ae (m:=checkCount "sorted" 1 1 _) (av (ae (MT (s:={ s1 with heap:=h',toks:=tk }) ⟨_,op,rfl,n1,rfl⟩ hzl λh3 tk3 keep3=>?_)))
 refine ae (yi ?_ hzl)
 have F3:=F2.kept keep3
 have N3:=N2.grown keep3
 have hL:X.env.locals<h3.objs.size:=F3.ns.lt
 have g4:(h3.push (bL "list" (zs.map λz=>aE z.2).toArray 0)).get? h3.objs.size=some (bL "list" (zs.map λz=>aE z.2).toArray 0):=aL _ rfl
 have k4:∀ b o,h3.get? b=some o->(h3.push (bL "list" (zs.map λz=>aE z.2).toArray 0)).get? b=some o:=λb o e=>au _ e
 have F4:=F3.kept k4
 have N4:=N3.grown k4
 have hD:∀ q∈oJ X.base h' X.env.locals,q.1<h3.objs.size:=λq hq=>aI (N3 q hq).1
 have hD0:X.base.get? h3.objs.size=none:=zA (bE F3.above (oi hL))
 show aK (aY X.prog X.w) X.A.in1 (do let _ ← qH [aE h3.objs.size] (call (.builtin "list.sort") [aE h3.objs.size] _);ret (aE h3.objs.size)) _ _ { s1 with heap:=h3.push (bL "list" (zs.map λz=>aE z.2).toArray 0),toks:=tk3 }
 refine ae (cF (wpAny_call_entry_kw TX ⟨_,g4,rfl⟩ QJ ?_ (ksk_l1 _ _)))
 have tie:∀ (h:cg),(∀ b o,b≠X.env.locals->h'.get? b=some o->h.get? b=some o)->∀ z∈zs,∃ v x y t u,z.1=[v,x,y]/\vO h z.2 #[.int x t,.int y u]:=λh hkp z hz=>by
  obtain ⟨ww,xx,yy,ez,hzt,hzw⟩:=k2 z hz
  obtain ⟨ts,r,it,_⟩:=I2.tuple (.of hzt)
  cases r with
  | cons h1 r =>
   cases r with
   | cons h2 r =>
    cases r
    obtain ⟨t,rfl⟩:=h1
    obtain ⟨u,rfl⟩:=h2
    obtain ⟨o,e,rest⟩:=it
    refine ⟨ww,xx,yy,t,u,ez,o,hkp _ o (λw=>?_) e,rest⟩
    rw [w,I2.free] at hzt;cases hzt
 have done:∀ (h'':cg) (tk'' c'':Nat) (zs':List Zn),zs'.Perm zs->zs'.Pairwise (λz w=>jr w.1 z.1=false)->Fr X.base X.env.locals h'' m->AY X.base X.env.locals h'' ((h3.objs.size,bL "list" (zs'.map λz=>aE z.2).toArray c'')::oJ X.base h' X.env.locals) ->
   EP X pins Z Q (.ref h3.objs.size) { s1 with heap:=h'',toks:=tk'' }:=λh'' tk'' c'' zs' hperm hsort F N=>by
  obtain ⟨hn,I3⟩:=I2.GM (t':=tk'') (o:=.lst (zs'.map we)) F2.ns F N hD ⟨by rw [aj];exact bA (m:=64) (by rw [hperm.length_eq];omega),_,c'',uO zs',(N _ aw).1⟩
  exact ⟨.ref h3.objs.size,_,I3,rfl,k h3.objs.size zs' H2 hn S2 T2 hperm hsort⟩
 show aK (aY X.prog X.w) X.A.in1.in1 (lO.«list.sort» ⟨[.ref h3.objs.size],[(gJ "key",.ref f)]⟩) _ _ _
 rw [ksk_t1]
 by_cases h2:2<=zs.length
 ·refine kat_keyed (s:={ s1 with heap:=h3.push (bL "list" (zs.map λz=>aE z.2).toArray 0),toks:=tk3 }) F4 N4 g4 (fY hL) hD0 (λp hp=>aS (hD p hp)) (by rw [aj];exact h2) (by rw [aj];omega) λkS e1 h5 F5 N5 l0 l1=>?_
  refine Zs (s:={ s1 with heap:=h3.push (bL "list" (zs.map λz=>aE z.2).toArray 0),toks:=tk3 }) (zs:=zs) (λz hz h tk' own F N R hR=>turn z hz h tk' own F N R hR) (aS l0) zs [] [] [] 0 h5 tk3 F5 N5 (λq hq=>aS (l1 q hq)) .nil (λz hz=>hz) λown' ks' e' h6 tk6 F6 N6 hk6 rel6=>?_
  refine O2 (s:={ s1 with heap:=h6,toks:=tk6 }) F6 N6 hk6 (aS l0) (λq hq=>aS (hD q hq)) rel6 h2 (by omega) (tie h6 λb o hb e=>?_) λh7 c7 zs' hperm hsort F7 N7=>?_
  ·refine kept h6 [] F6 (λp hp=>N6 p ?_) b o hb e
   rw [yf] at hp
   exact ah _ (ah _ (bp _ hp))
  ·exact ⟨_,rfl,av ⟨_,rfl,done h7 tk6 c7 zs' hperm hsort F7 N7⟩⟩
 ·refine SJ (s:={ s1 with heap:=h3.push (bL "list" (zs.map λz=>aE z.2).toArray 0),toks:=tk3 }) F4 N4 g4 (fY hL) hD0 (λp hp=>aS (hD p hp)) (by rw [aj];omega) (λv hv h tk' own F N R hR=>?_) λh7 tk7 c7 F7 N7=>?_
  ·obtain ⟨z,hz,rfl⟩:=bX.mp hv
   exact turn z hz h tk' own F N R λh3 tk3 t k keep _ _=>hR h3 tk3 (.ref k) keep
  ·refine ⟨_,rfl,av ⟨_,rfl,done h7 tk7 c7 zs (pH _) ?_ F7 N7⟩⟩
   match zs,h2 with
   | [],_=>exact .nil
   | [z],_=>exact vW _ _
   | z::w::r,h2=>simp at h2
end
end L2
namespace Sw
section
variable {prog:a8}{w:bT}{A:bZ}{E:ai->aq->Prop}{s:aq}
end
end Sw
namespace L2
open PySem PySem.Spec PyProof.Rows PySem.W
section
variable {X:Cx}{x:Expr}{t:TA}{p1 p2 q1 q2:rD}
end
end L2
namespace L2
def VG (K:aa) (C:ag) (sp:Sp) (t:TA) (cT:ai) (i:Nat) (th:TS):TS:=λD Z H=>t Z H λvs H1=>∃ E:XK,(∀ x dx,H1 x=none->H1 dx=none->dx≠x->sp (.ref x::(vs++[])) (upd (upd H1 dx (.own x)) x (.ins C dx [])) (λ_ _=>False) E) /\
 ∀ cls H2,E cls none H2->∃ Dc:ag,cls=.ref Dc/\eD K cls cT=some true/\∀ a,H2 a=none->th { nx:=λ_ _=>False,rt:=D.rt } (Z.set i (some (.ref a))) (upd H2 a (Ra a cls))
section
variable {X:Cx}{k:Nat}{f C CT:ag}{fd:fo}{ps:List aZ}{sp:Sp}{x xT n:aZ}{p np cpos epos hpos pos:rD}{e:Expr}{es:List Expr}{t:TA}{th:TS}{i:Nat}{b₀:dR} {N0:List dR}
theorem Yo (M:Mk X.K C f) (F:dg X.prog X.w X.K X.mg X.base (sN X.prog X.w) k f fd ps sp) (hr:k9 (k+1) X.A) (hg:Gl X x) (hm:X.mg x=some (.ref C)) (hb:Binds X.K fd ps [])
  (ha:PA X.ZF (e::es) t) (hex0:X.ex=[]) (hst:X.stack=X.env::X.outer/\X.env.frame=some X.env.locals) (hgT:Gl X xT) (hmT:X.mg xT=some (.ref CT)) (hN:X.N.Nodup) (hi:X.N[i]?=some n) (hn:X.env.scope.names.lookup n=some .local)
  (hth:∀ a,LA (X.marked a) (b₀::N0) th)
  (hs:Eb (.Call (.Name x p) (e::es) [] cpos) none epos.line X.env=pure false:=by rfl)
  (hdb:(x == ("__debug__":aZ))=false:=by decide) (hdT:(xT == ("__debug__":aZ))=false:=by decide) (he:bw (e::es) X.env=(false,gp e X.env)::bw es X.env:=by rfl) (hpl:(jg cpos (bw es X.env)).any (·.1)=false:=by rfl) :
  PS X (.Try [.Expr (.Call (.Name x p) (e::es) [] cpos) epos] [.ExceptHandler (some (.Name xT np)) (some n) (b₀::N0) hpos] [] [] pos) (VG X.K C sp t (.ref CT) i th):=by
 intro pins s Z H D I h
 refine wpAny_Try_except ?_
 refine zq ?_
 refine TC ?_ I.quiet hs
 refine dC (rF I hg hm ?_ hdb)
 refine lb (h₀:=X.base) I.ok.mod.Xj M.kp (fj (ha cpos pins s Z H _ (I.DQ _) h) (λus s1 ⟨vs,H1,I1,r,E,q,hE⟩=>⟨I1.xj,?_⟩) λ_ _ z=>cc z) he hpl
 ·have I0:=I1.t9
  have hq:=q (s1.heap.objs.size+1) s1.heap.objs.size (I0.fX.fresh (gQ _)) (I0.fX.fresh (ax _)) (aS (ji _))
  have I1:=Inv.made (C:=C) I0
  have r2:Vals (V.ref (s1.heap.objs.size+1)::(vs++[])) (aE (s1.heap.objs.size+1)::(us++[])):=.cons rfl (r.append .nil)
  have hl:(aE (s1.heap.objs.size+1)::us++[]).length=ps.length:=by
   have e:=r2.length
   rw [F.len _ _ _ _ hq] at e
   exact e.symm
  have hb2:=hb _ (aE (s1.heap.objs.size+1)::us) I1.xj hl
  rw [G4] at hb2
  refine qY (Mi (f:=f) I0.xj M.makes M.init (beq_iff_eq.mp M.fn) (kH (F.run _ X.stack _ _ ⟨aE (s1.heap.objs.size+1)::us,[]⟩ (aE (s1.heap.objs.size+1)::(us++[])) _ _ E (hr.make C us [])
   (I1.WR.make C us []) hb2 r2 hq) λr s' hq=>?_))
  generalize upd (upd H1 s1.heap.objs.size (.own (s1.heap.objs.size+1))) (s1.heap.objs.size+1) (.ins C s1.heap.objs.size [])=H1 at hq I1
  generalize ({ s1 with heap:=(s1.heap.push f9).push (iQ C s1.heap.objs.size) }:aq)=s1 at hq I1
  cases r with
  | ok fl =>
   cases fl with
   | ret u =>
    obtain ⟨v,H2,I2,_,q2⟩:=I1.after hq
    exact q2.elim
   | next=>exact cc hq
   | brk=>exact cc hq
   | cont=>exact cc hq
  | error ev =>
   obtain ⟨a,cls,a0,B,H2,rfl,os,bare,fl,Fl,qE⟩:=hq
   obtain ⟨Dc,rfl,hex,hh⟩:=hE cls H2 qE
   have frm:=yR I1
   have fl':=fl
   rw [hst.1] at fl'
   have hfm:=I1.ok.frames
   rw [hst.1] at hfm
   -- the exception is no thing of ours so far
   have na1:s1.heap.get? a=none:=by
    cases ea:s1.heap.get? a with
    | none=>rfl
    | some o =>
     by_cases hb:a∈xm X.stack
     ·obtain ⟨hfree,o',eo',nd⟩:=frm a hb
      rw [ea] at eo';cases eo'
      obtain ⟨sl,e1⟩:=Fl.un.slot a o ea hfree hb (by simp)
      obtain ⟨_,_,_,oe,vs',_,_,_,e2,_,e3,_⟩:=fl
      rw [e1] at e2;cases e2
      exact absurd e3 (nd vs')
     ·obtain ⟨u,hu⟩:=Fl.old a o ea hb
      rw [Fl.no] at hu;cases hu
   have na2:H2 a=none:=by
    cases ea:H2 a with
    | none=>rfl
    | some o=>obtain ⟨u,hu⟩:=Fl.has a o ea;rw [Fl.no] at hu;cases hu
   have na0:X.s₀.heap.get? a=none:=by
    cases ea:X.s₀.heap.get? a with
    | none=>rfl
    | some o => 
     obtain ⟨o',e1⟩:=I1.base.there a o ea (by rw [hex0];simp)
     rw [na1] at e1;cases e1
   refine iO (kh (OZ _ _) (wpAny_looks_onW (L:=X.env.locals) (outer:=X.outer) (Q:=λ_ s3=>B.HeldW (X.env::X.outer) a (.ref Dc) a0 X.env.locals s3.heap/\s'.heap.UpToSlots s3.heap/\s3.os=s'.os/\s3.gens=s'.gens) hfm hst.2 fl' λh' hd us=>⟨hd,us,rfl,rfl⟩)) λ_ s3 ⟨⟨hd3,us3,o3,g3⟩,kp3⟩=>?_
   have F3:=Fl.step frm us3 hd3.1 kp3
   refine iO (kh (v9 _ _) (wpAny_landsW (Q:=λ_ s4=>B.FlyingW (X.env::X.outer) a (.ref Dc) a0 s4.heap/\s3.heap.UpToSlots s4.heap/\s4.os=s3.os/\s4.gens=s3.gens) hd3 λh' fl us=>⟨fl,us,rfl,rfl⟩)) λ_ s4 ⟨⟨fl4,us4,o4,g4⟩,kp4⟩=>?_
   have F4:=F3.step frm us4 fl4.1 kp4
   have I4:Inv X pins Z H2 s4:=I1.NU (ch:=[]) ((o4.trans o3).trans os) F4.un F4.fX (by rw [g4,g3];exact bare) (λb z=>absurd z (by simp))
   refine wpAny_handleBy_cons ?_ (λz=>nomatch z)
   refine ZX ?_
   have I4m:=I4.mark a
   refine rF I4m hgT hmT ?_ hdT
   obtain ⟨oe4,vs4,T4,oT4,ts4,e4,⟨c4,_⟩,d4,_⟩:=fl4.2.2.2
   have dict4:oe4.dict=none:=by
    obtain ⟨o,e5,d5⟩:=F4.dict
    rw [e4] at e5;cases e5;exact d5
   have inst4:sO s4.heap a oe4 Dc none:=⟨e4,c4,by unfold IM;rw [d4],by rw [dict4];trivial⟩
   refine Xu (K:=X.K) I4.xj inst4.type hex _ _ _ s4 (λ_ _ z=>z) ?_
   refine Ut ?_
   refine iO (kh (v9 _ _) (lands_againW (Q:=λ_ s5=>B.FlyingW (X.env::X.outer) a (.ref Dc) a0 s5.heap/\s4.heap.UpToSlots s5.heap/\s5.os=s4.os/\s5.gens=s4.gens) fl4 λh' fl us=>⟨fl,us,rfl,rfl⟩)) λ_ s5 ⟨⟨fl5,us5,o5,g5⟩,kp5⟩=>?_
   have F5:=F4.step frm us5 fl5.1 kp5
   have I5:Inv X pins Z H2 s5:=I1.NU (ch:=[]) (((o5.trans o4).trans o3).trans os) F5.un F5.fX (by rw [g5,g4,g3];exact bare) (λb z=>absurd z (by simp))
   obtain ⟨oe5,vs5,T5,oT5,ts5,e5,⟨c5,_⟩,d5,_⟩:=fl5.2.2.2
   have dict5:oe5.dict=none:=by
    obtain ⟨o,e6,d6⟩:=F5.dict
    rw [e5] at e6;cases e6;exact d6
   have I6:Inv X pins Z (upd H2 a (Ra a (.ref Dc))) s5:=by
    refine I5.ZD na2 na0 (λz=>?_) (λy c hc z=>?_) (λp hp z=>?_) (Vz e5 c5 dict5 d5)
    ·obtain ⟨m,⟨o,_,_,ho,_⟩,_⟩:=I1.loc
     rw [← z,na1] at ho;cases ho
    ·obtain ⟨v,o,ho,_⟩:=I1.cell y c hc
     rw [z,na1] at ho;cases ho
    ·have:=(I1.pin p hp).1
     rw [z,na1] at this;cases this
   refine uf I6 hN hi (.inl hn) (v:=.ref a) rfl (λs6 I7=>?_) (.inr hn)
   refine fj (hth a pins s6 _ _ _ (I7.mark a) (hh a na2)) (λf s7 z=>?_) λ_ _ z=>cc z
   cases f with
   | ret u =>
    obtain ⟨v,σ',H',I8,rv,q8⟩:=z
    exact Jk (I8.unmark I1.ok) hN hi hn λs8 I9=>⟨v,_,H',I9,rv,q8⟩
   | next=>obtain ⟨_,_,_,z⟩:=z;exact cc z
   | brk=>obtain ⟨_,_,_,z⟩:=z;exact cc z
   | cont=>obtain ⟨_,_,_,z⟩:=z;exact cc z
end
end L2
namespace Rm
variable {f:Nat->Int}{m:Nat}{r:List Int}
def tn {α:Type} (r:List α) (k:Nat):List α:=r.drop k++(r.drop 1).take k
theorem VH {k:Nat}(hk:k<r.length):(tn r k).length=r.length:=by
 unfold tn
 rw [bN,dO,cf,dO]
 omega
theorem Yp:tn r 0=r:=by simp [tn]
theorem O4 {a:Int}(h:a∈r):r.idxOf a<r.length:=iI.mpr h
end Rm
namespace Rm
section
variable {n:Nat}{v par:Nat->Nat}
end
end Rm
namespace Rm
def al:List Int->List (Int×Int)
 | []=>[]
 | [_]=>[]
 | a::b::r=>(a,b)::al (b::r)
theorem O5:∀ r:List Int,al r=r.zip (r.drop 1)
 | []=>rfl
 | [_]=>rfl
 | a::b::r=>by
  have:=O5 (b::r)
  simp only [List.drop_succ_cons,List.drop_zero] at this ⊢
  rw [lP,← this];rfl
theorem oM:∀ (xs:List Int) (x:Int) (ys:List Int),al (xs++x::ys)=al (xs++[x])++al (x::ys)
 | [],x,ys=>rfl
 | [a],x,ys=>rfl
 | a::b::xs,x,ys=>by
  have:=oM (b::xs) x ys
  show (a,b)::al ((b::xs)++x::ys)=(a,b)::al ((b::xs)++[x])++al (x::ys)
  rw [this];rfl
theorem iK:∀ {r:List Int}{x y:Int},(x,y)∈al r->x∈r/\y∈r
 | a::b::r,x,y,h=>by
  rcases ay.mp h with e|h
  ·cases e;simp
  ·have:=iK h
   exact ⟨ah _ this.1,ah _ this.2⟩
theorem O6:∀ r:List Int,(al r).length=r.length-1
 | []=>rfl
 | [_]=>rfl
 | a::b::r=>by
  have:=O6 (b::r)
  simp only [al,cG] at this ⊢
  omega
structure qi (r:List Int):Prop where
 ne:r≠[]
 cnt:∃ ds:List Int,ds.Nodup/\(∀ x,x∈ds↔x∈r)/\r.length+1=2*ds.length
 ends:r.head?=r.getLast?
 nd:(al r).Nodup
 sym:∀ x y,(x,y)∈al r->(y,x)∈al r
theorem qi.one (a:Int):qi [a]:=⟨by simp,⟨[a],by simp,by simp,rfl⟩,rfl,by simp [al],λx y h=>by simp [al] at h⟩
theorem qi.WV {A B:List Int}{z:Int}(h:qi (A++z::B)) (hA:z∉A) (hB:z∉B) (hn:A++B≠[]):∃ A' w B',A=A'++[w]/\B=w::B':=by
 have he:=h.ends
 have hAne:A≠[]:=λe=>by
  subst e
  simp only [List.nil_append,List.head?_cons] at he hn
  rcases iq B with e|⟨us,u,e⟩
  ·exact hn e
  ·rw [ir] at e
   subst e
   rw [show z::(us++[u])=(z::us)++[u] by simp,di] at he
   simp at he
   subst he
   exact hB (by simp)
 have hBne:B≠[]:=λe=>by
  subst e
  rw [di] at he
  simp at he
  cases A with
  | nil=>exact hAne rfl
  | cons a A =>
   simp at he
   subst he
   exact hA (by simp)
 obtain ⟨A',w,e⟩:∃ A' w,A=A'++[w]:=by
  rcases iq A with e|⟨us,u,e⟩
  ·exact absurd e hAne
  ·exact ⟨us,u,by rw [e,ir]⟩
 subst e
 cases B with
 | nil=>exact absurd rfl hBne
 | cons v B' =>
  refine ⟨A',w,B',rfl,?_⟩
  have e1:al (A'++[w]++z::v::B')=al (A'++[w])++((w,z)::(z,v)::al (v::B')):=by
   rw [fq,Uc,oM];rfl
  have m:=h.sym w z (by rw [e1];simp)
  rw [e1] at m
  rcases a7.mp m with m|m
  ·exact absurd (iK m).1 hA
  ·rcases ay.mp m with m|m
   ·cases m;exact absurd (by simp) hA
   ·rcases ay.mp m with m|m
    ·cases m;rfl
    ·exact absurd (iK m).1 hB
theorem VI (xs ys:List Int) (w z:Int):(al (xs++w::z::w::ys)).Perm ((w,z)::(z,w)::al (xs++w::ys)):=by
 rw [oM,oM xs w ys]
 show (al (xs++[w])++([(w,z),(z,w)]++al (w::ys))).Perm ([(w,z),(z,w)]++(al (xs++[w])++al (w::ys)))
 rw [← fq,← fq]
 exact List.Perm.append_right _ mx
theorem E3 (xs ys:List Int) (w z:Int):(xs++w::z::w::ys).head?=(xs++w::ys).head?/\(xs++w::z::w::ys).getLast?=(xs++w::ys).getLast?:=by
 constructor
 ·cases xs<;>simp
 ·cases ys with
  | nil=>simp [di]
  | cons y ys=>simp [di,pM]
theorem qi.Tq {xs ys:List Int}{w z:Int}(h:qi (xs++w::z::w::ys)) (hz:z∉xs++w::ys):qi (xs++w::ys):=by
 have hp:=VI xs ys w z
 have nd:=hp.nodup_iff.mp h.nd
 have nd2:=(bq.mp nd).2
 refine ⟨by simp,?_,?_,(bq.mp nd2).2,λx y hxy=>?_⟩
 ·obtain ⟨ds,h1,h2,h3⟩:=h.cnt
  have hzd:z∈ds:=(h2 z).mpr (by simp)
  refine ⟨ds.erase z,h1.erase z,λx=>?_,?_⟩
  ·rw [h1.mem_erase_iff,h2]
   constructor
   ·rintro ⟨h4,h5⟩
    simp at h5 ⊢
    rcases h5 with h5|h5|h5|h5|h5
    ·exact .inl h5
    ·exact .inr (.inl h5)
    ·exact absurd h5 h4
    ·exact .inr (.inl h5)
    ·exact .inr (.inr h5)
   ·intro h5
    refine ⟨λe=>hz (e▸h5),?_⟩
    simp at h5 ⊢
    rcases h5 with h5|h5|h5
    ·exact .inl h5
    ·exact .inr (.inl h5)
    ·exact .inr (.inr (.inr (.inr h5)))
  ·rw [vI hzd]
   have:0<ds.length:=xU hzd
   simp at h3 ⊢
   omega
 ·have:=E3 xs ys w z
  rw [← this.1,← this.2];exact h.ends
 ·have hm:=hp.mem_iff.mp (h.sym x y (hp.mem_iff.mpr (ah _ (ah _ hxy))))
  rcases ay.mp hm with e|hm
  ·cases e;exact absurd (iK hxy).1 hz
  ·rcases ay.mp hm with e|hm
   ·cases e;exact absurd (iK hxy).2 hz
   ·exact hm
theorem qi.put {xs ys:List Int}{w z:Int}(h:qi (xs++w::ys)) (hz:z∉xs++w::ys):qi (xs++w::z::w::ys):=by
 have hp:=VI xs ys w z
 have hwz:w≠z:=λe=>hz (by simp [e])
 refine ⟨by simp,?_,?_,hp.nodup_iff.mpr ?_,λx y hxy=>?_⟩
 ·obtain ⟨ds,h1,h2,h3⟩:=h.cnt
  refine ⟨z::ds,bq.mpr ⟨λhm=>hz ((h2 z).mp hm),h1⟩,λx=>?_,?_⟩
  ·rw [ay,h2]
   simp
   constructor
   ·rintro (h|h|h|h)
    ·exact .inr (.inr (.inl h))
    ·exact .inl h
    ·exact .inr (.inl h)
    ·exact .inr (.inr (.inr (.inr h)))
   ·rintro (h|h|h|h|h)
    ·exact .inr (.inl h)
    ·exact .inr (.inr (.inl h))
    ·exact .inl h
    ·exact .inr (.inr (.inl h))
    ·exact .inr (.inr (.inr h))
  ·simp at h3 ⊢
   omega
 ·have:=E3 xs ys w z
  rw [this.1,this.2];exact h.ends
 ·refine bq.mpr ⟨λhm=>?_,bq.mpr ⟨λhm=>hz (iK hm).1,h.nd⟩⟩
  rcases ay.mp hm with e|hm
  ·exact hwz (by cases e;rfl)
  ·exact hz (iK hm).2
 ·refine hp.mem_iff.mpr ?_
  rcases ay.mp (hp.mem_iff.mp hxy) with e|hm
  ·cases e;simp
  ·rcases ay.mp hm with e|hm
   ·cases e;simp
   ·exact ah _ (ah _ (h.sym x y hm))
theorem uQ:∀ {ds r:List Int},ds.Nodup->(∀ x∈r,x∈ds)->(ds.map λd=>r.count d).sum=r.length
 | ds,[],h1,h2=>by
  have:(ds.map λd=>([]:List Int).count d)=ds.map λ_=>0:=by simp
  rw [this]
  clear this h1 h2
  induction ds with
  | nil=>rfl
  | cons d ds ih=>simpa using ih
 | ds,x::r,h1,h2=>by
  have ih:=uQ (ds:=ds) (r:=r) h1 λy hy=>h2 y (ah _ hy)
  have hx:=h2 x aw
  have key:∀ (ds:List Int),ds.Nodup->(ds.map λd=>(x::r).count d).sum=(ds.map λd=>r.count d).sum+if x∈ds then 1 else 0:=by
   intro ds
   induction ds with
   | nil=>intro _;simp
   | cons d ds ih2 =>
    intro hnd
    have:=ih2 (bq.mp hnd).2
    have hd:=(bq.mp hnd).1
    simp only [cn,Cu,ym] at this ⊢
    rw [this]
    by_cases e:x=d
    ·subst e
     simp [hd]
     omega
    ·have e':¬ d=x:=λz=>e z.symm
     simp [e]
     omega
  rw [key ds h1,ih,if_pos hx,cG]
theorem qi.leaf {r:List Int}(h:qi r) (h1:1<r.length):∃ xs w z ys,r=xs++w::z::w::ys/\z∉xs++w::ys:=by
 obtain ⟨ds,d1,d2,d3⟩:=h.cnt
 have hs:=uQ d1 λx hx=>(d2 x).mpr hx
 obtain ⟨z,hz,hc⟩:∃ z∈ds,r.count z<2:=by
  refine Classical.byContradiction λq=>?_
  have hall:∀ z∈ds,2<=r.count z:=λz hz=>by
   by_cases c:r.count z<2
   ·exact absurd ⟨z,hz,c⟩ q
   ·omega
  have:∀ (ds:List Int),(∀ z∈ds,2<=r.count z)->2*ds.length<=(ds.map λd=>r.count d).sum:=by
   intro ds
   induction ds with
   | nil=>intro _;simp
   | cons d ds ih =>
    intro h
    have a:=ih λz hz=>h z (ah _ hz)
    have b:=h d aw
    simp only [cn,Cu,cG]
    omega
  have:=this ds hall
  omega
 have hzr:=(d2 z).mp hz
 obtain ⟨A,B,e⟩:=pL hzr
 subst e
 have hc2:A.count z=0/\B.count z=0:=by
  rw [iV,ni] at hc
  omega
 have hA:z∉A:=gL.mp hc2.1
 have hB:z∉B:=gL.mp hc2.2
 obtain ⟨A',w,B',e1,e2⟩:=h.WV hA hB (λq=>by
  rw [xV] at q
  rw [q.1,q.2] at h1
  simp at h1)
 subst e1 e2
 exact ⟨A',w,z,B',by simp,λhm=>by
  simp at hm hA hB
  rcases hm with hm|hm|hm
  ·exact hA.1 hm
  ·exact hA.2 hm
  ·exact hB.2 hm⟩
end Rm
namespace Rm
theorem qi.YL {r r':List Int}(h:qi r) (hn:r'≠[]) (hm:∀ x,x∈r'↔x∈r) (hl:r'.length=r.length) (he:r'.head?=r'.getLast?) (hp:(al r').Perm (al r)):qi r' :=
 ⟨hn,let ⟨ds,a,b,c⟩:=h.cnt;⟨ds,a,λx=>by rw [b,hm],by rw [hl];exact c⟩,he,hp.nodup_iff.mpr h.nd,λx y z=>hp.mem_iff.mpr (h.sym x y (hp.mem_iff.mp z))⟩
theorem Jp {r:List Int}{a:Int}(h:a∈r):∃ xs ys,r=xs++a::ys/\xs.length=r.idxOf a/\a∉xs:=by
 induction r with
 | nil=>cases h
 | cons b r ih =>
  by_cases e:b=a
  ·subst e;exact ⟨[],r,rfl,by simp,by simp⟩
  ·have ha:a∈r:=(ay.mp h).resolve_left λq=>e q.symm
   obtain ⟨xs,ys,e1,e2,e3⟩:=ih ha
   have eb:(b == a)=false:=by simpa using e
   refine ⟨b::xs,ys,by rw [e1];rfl,by rw [List.idxOf_cons,eb];simp [e2],λhm=>?_⟩
   rcases ay.mp hm with q|q
   ·exact e q.symm
   ·exact e3 q
theorem qi.turn {r:List Int}{a:Int}(h:qi r) (ha:a∈r):qi (tn r (r.idxOf a))/\(al (tn r (r.idxOf a))).Perm (al r)/\(tn r (r.idxOf a)).head?=some a/\(∀ x,x∈tn r (r.idxOf a)↔x∈r)/\(tn r (r.idxOf a)).length=r.length:=by
 have hlen:(tn r (r.idxOf a)).length=r.length:=VH (O4 ha)
 obtain ⟨xs,ys,e,el,hx⟩:=Jp ha
 cases xs with
 | nil =>
  have e0:r.idxOf a=0:=by rw [← el];rfl
  rw [e0,Yp]
  exact ⟨h,pH _,by rw [e];rfl,λx=>Iff.rfl,rfl⟩
 | cons b xs =>
  have hba:b≠a:=λq=>hx (by simp [q])
  have he:=h.ends
  obtain ⟨ys',ey⟩:∃ ys',ys=ys'++[b]:=by
   rw [e] at he
   simp only [G4,List.head?_cons] at he
   rw [show b::(xs++a::ys)=(b::xs++[a])++ys by simp,di] at he
   rcases iq ys with q|⟨us,u,q⟩
   ·subst q
    rw [show b::xs++[a]=(b::xs)++[a] by rfl,di] at he
    simp at he
    exact absurd he hba
   ·rw [ir] at q
    subst q
    rw [di] at he
    simp at he
    subst he
    exact ⟨us,rfl⟩
  subst ey
  have et:tn r (r.idxOf a)=(a::ys')++b::(xs++[a]):=by
   unfold tn
   rw [← el,e]
   simp only [cG]
   have d1:((b::xs)++a::(ys'++[b])).drop (xs.length+1)=a::(ys'++[b]):=by simp
   have d2:(((b::xs)++a::(ys'++[b])).drop 1).take (xs.length+1)=xs++[a]:=by
    show (xs++a::(ys'++[b])).take (xs.length+1)=xs++[a]
    rw [ZZ,cQ (by omega)]
    simp
   rw [d1,d2];simp
  have hp:(al (tn r (r.idxOf a))).Perm (al r):=by
   rw [et,e,oM (a::ys') b (xs++[a]),oM (b::xs) a (ys'++[b])]
   exact mx
  have hm:∀ x,x∈tn r (r.idxOf a)↔x∈r:=λx=>by
   rw [et,e]
   simp
   constructor
   ·rintro (q|q|q|q|q)
    ·exact .inr (.inr (.inl q))
    ·exact .inr (.inr (.inr (.inl q)))
    ·exact .inl q
    ·exact .inr (.inl q)
    ·exact .inr (.inr (.inl q))
   ·rintro (q|q|q|q|q)
    ·exact .inr (.inr (.inl q))
    ·exact .inr (.inr (.inr (.inl q)))
    ·exact .inl q
    ·exact .inr (.inl q)
    ·exact .inr (.inr (.inl q))
  refine ⟨h.YL (by rw [et];simp) hm hlen (by rw [et];simp [di,pM]) hp,hp,by rw [et];rfl,hm,hlen⟩
theorem Kb {xs ys T:List Int}{a b:Int}(h1:T.head?=some b) (h2:T.getLast?=some b):(al (xs++a::(T++a::ys))).Perm ((a,b)::(b,a)::(al (xs++a::ys)++al T)):=by
 obtain ⟨T1,e1⟩:∃ T1,T=b::T1:=by
  cases T with
  | nil=>simp at h1
  | cons c T=>simp at h1;exact ⟨T,by rw [h1]⟩
 obtain ⟨T2,e2⟩:∃ T2,T=T2++[b]:=by
  rcases iq T with q|⟨us,u,q⟩
  ·subst q;simp at h2
  ·rw [ir] at q
   subst q
   simp at h2
   exact ⟨us,by rw [h2]⟩
 have e3:al (a::(T++a::ys))=(a,b)::(al T++(b,a)::al (a::ys)):=by
  have e4:al (T++a::ys)=al T++(b,a)::al (a::ys):=by
   conv=>lhs;rw [e2,fq,Uc,oM]
   rw [← e2];rfl
  have e5:al (a::(T++a::ys))=(a,b)::al (T++a::ys):=by rw [e1];rfl
  rw [e5,e4]
 rw [oM xs a (T++a::ys),oM xs a ys,e3]
 generalize al (xs++[a])=P
 generalize al (a::ys)=R
 generalize al T=U
 -- P++(ab::(U++ba::R)) ~ ab::ba::((P++R)++U)
 refine G0.trans (pI _ ?_)
 rw [← fq]
 refine G0.trans (pI _ ?_)
 rw [fq,fq]
 exact vT _ mx
theorem VJ (xs ys T:List Int) (a:Int):(xs++a::(T++a::ys)).head?=(xs++a::ys).head?/\(xs++a::(T++a::ys)).getLast?=(xs++a::ys).getLast?:=by
 constructor
 ·cases xs<;>simp
 ·cases ys with
  | nil=>simp [di,pM]
  | cons y ys=>simp [di,pM]
theorem qi.abd {xs ys T:List Int}{a b:Int}(h:qi (xs++a::ys)) (hT:qi T) (h1:T.head?=some b) (hd:∀ x∈T,x∉xs++a::ys):qi (xs++a::(T++a::ys)):=by
 have h2:T.getLast?=some b:=by rw [← hT.ends];exact h1
 have hp:=Kb (xs:=xs) (ys:=ys) (a:=a) h1 h2
 have hb:b∈T:=mB (by rw [h1];rfl)
 have ha:a∈xs++a::ys:=by simp
 have hab:a≠b:=λe=>hd b hb (e▸ha)
 have hb':=hd b hb
 have ha':a∉T:=λq=>hd a q ha
 refine ⟨by simp,?_,?_,hp.nodup_iff.mpr ?_,λx y hxy=>?_⟩
 ·obtain ⟨ds,d1,d2,d3⟩:=h.cnt
  obtain ⟨es,e1,e2,e3⟩:=hT.cnt
  refine ⟨ds++es,iW.mpr ⟨d1,e1,λx hx y hy q=>hd y ((e2 y).mp hy) (q▸(d2 x).mp hx)⟩,λx=>?_,?_⟩
  ·rw [a7,d2,e2]
   simp
   constructor
   ·rintro ((q|q|q)|q)
    ·exact .inl q
    ·exact .inr (.inl q)
    ·exact .inr (.inr (.inr (.inr q)))
    ·exact .inr (.inr (.inl q))
   ·rintro (q|q|q|q|q)
    ·exact .inl (.inl q)
    ·exact .inl (.inr (.inl q))
    ·exact .inr q
    ·exact .inl (.inr (.inl q))
    ·exact .inl (.inr (.inr q))
  ·simp at d3 ⊢
   omega
 ·have:=VJ xs ys T a
  rw [this.1,this.2];exact h.ends
 ·refine bq.mpr ⟨λhm=>?_,bq.mpr ⟨λhm=>?_,iW.mpr ⟨h.nd,hT.nd,?_⟩⟩⟩
  ·rcases ay.mp hm with q|hm
   ·exact hab (by cases q;rfl)
   ·rcases a7.mp hm with q|q
    ·exact hb' (iK q).2
    ·exact ha' (iK q).1
  ·rcases a7.mp hm with q|q
   ·exact hb' (iK q).1
   ·exact ha' (iK q).2
  ·rintro ⟨x,y⟩ hx t ht q
   subst q
   exact hd x (iK ht).1 (iK hx).1
 ·refine hp.mem_iff.mpr ?_
  rcases ay.mp (hp.mem_iff.mp hxy) with q|hm
  ·cases q;simp
  ·rcases ay.mp hm with q|hm
   ·cases q;simp
   ·refine ah _ (ah _ ?_)
    rcases a7.mp hm with q|q
    ·exact dh _ (h.sym x y q)
    ·exact bp _ (hT.sym x y q)
theorem qi.part:∀ (n:Nat) {p q inn:List Int}{x y:Int},(p++x::(inn++x::q)).length<=n->qi (p++x::(inn++x::q))->inn.head?=some y->inn.getLast?=some y ->
  qi inn/\qi (p++x::q)/\∀ c∈inn,c∉p++x::q
 | 0,p,q,inn,x,y,hn,h,h1,h2=>by simp at hn
 | n+1,p,q,inn,x,y,hn,h,h1,h2=>by
  have hl:1<(p++x::(inn++x::q)).length:=by simp;omega
  obtain ⟨X,w,z,Y,e,hz⟩:=h.leaf hl
  have hc:(p++x::(inn++x::q)).count z=1:=by
   rw [e]
   simp at hz
   have a1:X.count z=0:=gL.mpr hz.1
   have a2:Y.count z=0:=gL.mpr hz.2.2
   have a3:¬ w=z:=λq=>hz.2.1 q.symm
   simp [iV,ym,a1,a2,a3]
  have hzx:x≠z:=λq=>by
   subst q
   simp [iV,ym] at hc
   omega
  have hc2:p.count z+inn.count z+q.count z=1:=by
   simp [iV,ym,hzx] at hc
   omega
  -- a place that stands once,with what is around it
  have at_:∀ A B,p++x::(inn++x::q)=A++z::B->∃ A' w B',A=A'++[w]/\B=w::B':=λA B eA=>by
   rw [eA] at h hc hl
   have c0:A.count z=0/\B.count z=0:=by rw [iV,ni] at hc;omega
   refine h.WV (gL.mp c0.1) (gL.mp c0.2) λq=>?_
   rw [xV] at q
   rw [q.1,q.2] at hl
   simp at hl
  have nin:∀ {l:List Int},l.count z=0->z∉l:=λq=>gL.mp q
  by_cases z1:z∈inn
  ·have k1:0<inn.count z:=CZ.mpr z1
   have hp0:z∉p:=nin (by omega)
   have hq0:z∉q:=nin (by omega)
   obtain ⟨i1,i2,ei⟩:=pL z1
   have c12:i1.count z=0/\i2.count z=0:=by
    rw [ei,iV,ni] at hc2;omega
   have n1:=nin c12.1
   have n2:=nin c12.2
   by_cases hs:i1++i2=[]
   ·rw [xV] at hs
    rw [hs.1,hs.2] at ei
    subst ei
    have zo:z∉p++x::q:=λhm=>by
     rcases a7.mp hm with m|m
     ·exact hp0 m
     ·rcases ay.mp m with m|m
      ·exact hzx m.symm
      ·exact hq0 m
    refine ⟨qi.one z,qi.Tq (w:=x) (z:=z) (by simpa using h) zo,λc hc=>?_⟩
    have:c=z:=by simpa using hc
    subst this;exact zo
   ·obtain ⟨A',w',B',eA,eB⟩:=at_ (p++x::i1) (i2++x::q) (by rw [ei];simp)
    have i1n:i1≠[]:=λq0=>by
     subst q0
     rw [ei] at h1 h2
     simp at h1
     subst h1
     rcases iq i2 with q1|⟨us,u,q1⟩
     ·exact hs (by simp [q1])
     ·rw [ir] at q1
      subst q1
      simp [di,pM] at h2
      exact n2 (by simp [h2])
    have i2n:i2≠[]:=λq0=>by
     subst q0
     rw [ei] at h1 h2
     rw [di] at h2
     simp at h2
     subst h2
     cases i1 with
     | nil=>exact i1n rfl
     | cons a i1=>simp at h1;exact n1 (by simp [h1])
    obtain ⟨i1',u,ei1⟩:∃ i1' u,i1=i1'++[u]:=by
     rcases iq i1 with q0|⟨us,u,q0⟩
     ·exact absurd q0 i1n
     ·exact ⟨us,u,by rw [q0,ir]⟩
    cases i2 with
    | nil=>exact absurd rfl i2n
    | cons v i2' =>
     have ev:v=w':=by simp at eB;exact eB.1
     have eu:u=w':=by
      rw [ei1,← G4,← fq] at eA
      have:=xW eA rfl
      simpa using this
     subst ei1 ev eu
     have ei':inn=i1'++u::z::u::i2':=by rw [ei];simp
     subst ei'
     have zi:z∉i1'++u::i2':=λhm=>by
      simp at hm n1 n2
      rcases hm with m|m|m
      ·exact n1.1 m
      ·exact n1.2 m
      ·exact n2.2 m
     have eR:p++x::(i1'++u::z::u::i2'++x::q)=(p++x::i1')++u::z::u::(i2'++x::q):=by simp
     have eR':p++x::(i1'++u::i2'++x::q)=(p++x::i1')++u::(i2'++x::q):=by simp
     have zR:z∉(p++x::i1')++u::(i2'++x::q):=λhm=>by
      simp at hm zi
      rcases hm with m|m|m|m|m|m|m
      ·exact hp0 m
      ·exact hzx m.symm
      ·exact zi.1 m
      ·exact zi.2.1 m
      ·exact zi.2.2 m
      ·exact hzx m.symm
      ·exact hq0 m
     rw [eR] at h
     have hR':=h.Tq zR
     rw [← eR'] at hR'
     have en:=E3 i1' i2' u z
     obtain ⟨r1,r2,r3⟩:=qi.part n (by simp at hn ⊢;omega) hR' (by rw [← en.1];exact h1) (by rw [← en.2];exact h2)
     refine ⟨r1.put zi,r2,λc hc=>?_⟩
     simp at hc
     have hcz:c=z->c∉p++x::q:=λq0 hm=>by
      subst q0
      simp at hm
      rcases hm with m|m|m
      ·exact hp0 m
      ·exact hzx m.symm
      ·exact hq0 m
     rcases hc with m|m|m|m|m
     ·exact r3 c (by simp [m])
     ·exact r3 c (by simp [m])
     ·exact hcz m
     ·exact r3 c (by simp [m])
     ·exact r3 c (by simp [m])
  ·by_cases z2:z∈p
   ·have k1:0<p.count z:=CZ.mpr z2
    have hq0:z∉q:=nin (by omega)
    obtain ⟨p1,p2,ep⟩:=pL z2
    obtain ⟨A',w',B',eA,eB⟩:=at_ p1 (p2++x::(inn++x::q)) (by rw [ep];simp)
    have c12:p1.count z=0/\p2.count z=0:=by
     rw [ep,iV,ni] at hc2;omega
    have n1:=nin c12.1
    have n2:=nin c12.2
    subst eA
    cases p2 with
    | nil =>
     have ew:w'=x:=by simp at eB;exact eB.1.symm
     subst ew
     have ep':p=A'++[w',z]:=by rw [ep];simp
     subst ep'
     have zR:z∉A'++w'::(inn++w'::q):=λhm=>by
      simp at hm n1
      rcases hm with m|m|m|m|m
      ·exact n1.1 m
      ·exact n1.2 m
      ·exact z1 m
      ·exact n1.2 m
      ·exact hq0 m
     have hR':=qi.Tq (xs:=A') (w:=w') (z:=z) (ys:=inn++w'::q) (by simpa using h) zR
     obtain ⟨r1,r2,r3⟩:=qi.part n (by simp at hn ⊢;omega) hR' h1 h2
     have zo:z∉A'++w'::q:=λhm=>by
      simp at hm n1
      rcases hm with m|m|m
      ·exact n1.1 m
      ·exact n1.2 m
      ·exact hq0 m
     refine ⟨r1,by simpa using r2.put zo,λc hc hm=>?_⟩
     simp at hm
     rcases hm with m|m|m|m
     ·exact r3 c hc (by simp [m])
     ·exact r3 c hc (by simp [m])
     ·exact z1 (m▸hc)
     ·exact r3 c hc (by
       rcases m with m|m
       ·simp [m]
       ·simp [m])
    | cons v p2 =>
     have ew:v=w':=by simp at eB;exact eB.1
     subst ew
     have ep':p=A'++v::z::v::p2:=by rw [ep];simp
     subst ep'
     have zR:z∉A'++v::(p2++x::(inn++x::q)):=λhm=>by
      simp at hm n1 n2
      rcases hm with m|m|m|m|m|m|m
      ·exact n1.1 m
      ·exact n1.2 m
      ·exact n2.2 m
      ·exact hzx m.symm
      ·exact z1 m
      ·exact hzx m.symm
      ·exact hq0 m
     have hR':=qi.Tq (xs:=A') (w:=v) (z:=z) (ys:=p2++x::(inn++x::q)) (by simpa using h) zR
     obtain ⟨r1,r2,r3⟩:=qi.part n (p:=A'++v::p2) (q:=q) (inn:=inn) (x:=x) (by simp at hn ⊢;omega) (by simpa using hR') h1 h2
     have zo:z∉A'++v::(p2++x::q):=λhm=>by
      simp at hm n1 n2
      rcases hm with m|m|m|m|m
      ·exact n1.1 m
      ·exact n1.2 m
      ·exact n2.2 m
      ·exact hzx m.symm
      ·exact hq0 m
     refine ⟨r1,by simpa using qi.put (xs:=A') (w:=v) (z:=z) (ys:=p2++x::q) (by simpa using r2) zo,λc hc hm=>?_⟩
     simp at hm
     rcases hm with m|m|m|m|m|m|m
     ·exact r3 c hc (by simp [m])
     ·exact r3 c hc (by simp [m])
     ·exact z1 (m▸hc)
     ·exact r3 c hc (by simp [m])
     ·exact r3 c hc (by simp [m])
     ·exact r3 c hc (by simp [m])
     ·exact r3 c hc (by simp [m])
   ·have hq1:z∈q:=by
     have k1:0<q.count z:=by
      have a1:=gL.mpr z1
      have a2:=gL.mpr z2
      omega
     exact CZ.mp k1
    obtain ⟨q1,q2,eq⟩:=pL hq1
    obtain ⟨A',w',B',eA,eB⟩:=at_ (p++x::(inn++x::q1)) q2 (by rw [eq];simp)
    have c12:q1.count z=0/\q2.count z=0:=by
     rw [eq,iV,ni] at hc2;omega
    have n1:=nin c12.1
    have n2:=nin c12.2
    subst eB
    rcases iq q1 with e1|⟨q1',u,e1⟩
    ·subst e1
     have ew:x=w':=by
      rw [show p++x::(inn++[x])=(p++x::inn)++[x] by simp] at eA
      have:=xW eA rfl
      simpa using this
     subst ew
     have eq':q=z::x::B':=by rw [eq];rfl
     subst eq'
     have zR:z∉(p++x::inn)++x::B':=λhm=>by
      simp at hm n2
      rcases hm with m|m|m|m|m
      ·exact z2 m
      ·exact hzx m.symm
      ·exact z1 m
      ·exact hzx m.symm
      ·exact n2.2 m
     have hR':=qi.Tq (xs:=p++x::inn) (w:=x) (z:=z) (ys:=B') (by simpa using h) zR
     obtain ⟨r1,r2,r3⟩:=qi.part n (p:=p) (q:=B') (inn:=inn) (x:=x) (by simp at hn ⊢;omega) (by simpa using hR') h1 h2
     have zo:z∉p++x::B':=λhm=>by
      simp at hm n2
      rcases hm with m|m|m
      ·exact z2 m
      ·exact hzx m.symm
      ·exact n2.2 m
     refine ⟨r1,r2.put zo,λc hc hm=>?_⟩
     simp at hm
     rcases hm with m|m|m|m|m
     ·exact r3 c hc (by simp [m])
     ·exact r3 c hc (by simp [m])
     ·exact z1 (m▸hc)
     ·exact r3 c hc (by simp [m])
     ·exact r3 c hc (by simp [m])
    ·rw [ir] at e1
     subst e1
     have ew:u=w':=by
      rw [show p++x::(inn++x::(q1'++[u]))=(p++x::(inn++x::q1'))++[u] by simp] at eA
      have:=xW eA rfl
      simpa using this
     subst ew
     have eq':q=q1'++u::z::u::B':=by rw [eq];simp
     subst eq'
     have zR:z∉(p++x::(inn++x::q1'))++u::B':=λhm=>by
      simp at hm n1 n2
      rcases hm with m|m|m|m|m|m|m
      ·exact z2 m
      ·exact hzx m.symm
      ·exact z1 m
      ·exact hzx m.symm
      ·exact n1.1 m
      ·exact n1.2 m
      ·exact n2.2 m
     have hR':=qi.Tq (xs:=p++x::(inn++x::q1')) (w:=u) (z:=z) (ys:=B') (by simpa using h) zR
     obtain ⟨r1,r2,r3⟩:=qi.part n (p:=p) (q:=q1'++u::B') (inn:=inn) (x:=x) (by simp at hn ⊢;omega) (by simpa using hR') h1 h2
     have zo:z∉(p++x::q1')++u::B':=λhm=>by
      simp at hm n1 n2
      rcases hm with m|m|m|m|m
      ·exact z2 m
      ·exact hzx m.symm
      ·exact n1.1 m
      ·exact n1.2 m
      ·exact n2.2 m
     refine ⟨r1,by simpa using qi.put (xs:=p++x::q1') (w:=u) (z:=z) (ys:=B') (by simpa using r2) zo,λc hc hm=>?_⟩
     simp at hm
     rcases hm with m|m|m|m|m|m|m
     ·exact r3 c hc (by simp [m])
     ·exact r3 c hc (by simp [m])
     ·exact r3 c hc (by simp [m])
     ·exact r3 c hc (by simp [m])
     ·exact z1 (m▸hc)
     ·exact r3 c hc (by simp [m])
     ·exact r3 c hc (by simp [m])
end Rm
namespace Rm
theorem VL {r:List Int}{i:Nat}{x y:Int}:(al r)[i]?=some (x,y)↔r[i]?=some x/\r[i+1]?=some y:=by
 rw [O5,Oc,ue,Ud 1 i]
def wj (r:List Int) (i j:Nat):List Int:=(r.drop (i+1)).take (j-i)
def Br (r:List Int) (i j:Nat):List Int:=r.take (i+1)++r.drop (j+2)
def A7 (r:List Int) (a b:Int):List Int×List Int :=
 if (al r).idxOf (a,b)<(al r).idxOf (b,a) then (Br r ((al r).idxOf (a,b)) ((al r).idxOf (b,a)),wj r ((al r).idxOf (a,b)) ((al r).idxOf (b,a)))
 else (wj r ((al r).idxOf (b,a)) ((al r).idxOf (a,b)),Br r ((al r).idxOf (b,a)) ((al r).idxOf (a,b)))
theorem VM {r:List Int}{i j:Nat}{x y:Int}(hij:i<j) (h1:r[i]?=some x) (h2:r[i+1]?=some y) (h3:r[j]?=some y) (h4:r[j+1]?=some x) :
  r=r.take i++x::(wj r i j++x::r.drop (j+2))/\Br r i j=r.take i++x::r.drop (j+2)/\(wj r i j).head?=some y/\(wj r i j).getLast?=some y/\(wj r i j).length+(Br r i j).length+1=r.length:=by
 have l4:=(aC.mp h4).1
 have g1:r.drop i=x::r.drop (i+1):=by
  have hl:=aC.mp h1
  rw [oq hl.1,hl.2]
 have g2:r.drop (j+1)=x::r.drop (j+2):=by
  have hl:=aC.mp h4
  rw [oq hl.1,hl.2]
 have g3:r.drop (i+1)=wj r i j++r.drop (j+1):=by
  unfold wj
  have:=jA (j-i) (r.drop (i+1))
  rw [List.drop_drop,show i+1+(j-i)=j+1 by omega] at this
  exact this.symm
 have li:(wj r i j).length=j-i:=by unfold wj;rw [cf,dO];omega
 refine ⟨?_,?_,?_,?_,?_⟩
 ·rw [← g2,← g3,← g1,jA]
 ·unfold Br
  rw [jK,h1];simp
 ·rw [List.head?_eq_getElem?]
  unfold wj
  rw [pK,if_pos (by omega),ue];exact h2
 ·rw [List.getLast?_eq_getElem?,li]
  unfold wj
  rw [pK,if_pos (by omega),ue,show i+1+(j-i-1)=j by omega];exact h3
 ·rw [li]
  unfold Br
  rw [bN,cf,dO];omega
theorem Zu {r:List Int}{a b:Int}(h:(a,b)∈al r):r[(al r).idxOf (a,b)]?=some a/\r[(al r).idxOf (a,b)+1]?=some b:=by
 have hl:(al r).idxOf (a,b)<(al r).length:=iI.mpr h
 refine VL.mp ?_
 rw [aD hl,CY]
structure Qv (r X Y:List Int) (a b:Int):Prop where
 x:qi X
 y:qi Y
 ha:a∈X
 hb:b∈Y
 dis:∀ c∈Y,c∉X
 pm:(al r).Perm ((a,b)::(b,a)::(al X++al Y))
 len:X.length+Y.length+1=r.length
theorem qi.parted {r:List Int}{a b:Int}(h:qi r) (hm:(a,b)∈al r) (hab:a≠b):Qv r (A7 r a b).1 (A7 r a b).2 a b:=by
 obtain ⟨p1,p2⟩:=Zu hm
 obtain ⟨q1,q2⟩:=Zu (h.sym a b hm)
 unfold A7
 generalize (al r).idxOf (a,b)=i at p1 p2
 generalize (al r).idxOf (b,a)=j at q1 q2
 by_cases hij:i<j
 ·rw [if_pos hij]
  obtain ⟨e1,e2,e3,e4,e5⟩:=VM hij p1 p2 q1 q2
  have hR:=h
  rw [e1] at hR
  obtain ⟨r1,r2,r3⟩:=qi.part _ (ax _) hR e3 e4
  refine ⟨by rw [e2];exact r2,r1,by rw [e2];simp,mB (by rw [e3];rfl),λc hc=>by rw [e2];exact r3 c hc,?_,by simp only;omega⟩
  simp only
  rw [e2]
  have hp:=Kb (xs:=r.take i) (ys:=r.drop (j+2)) (a:=a) e3 e4
  rwa [← e1] at hp
 ·rw [if_neg hij]
  have hji:j<i:=by
   rcases Nat.lt_or_ge j i with q|q
   ·exact q
   ·have:i=j:=by omega
    subst this
    rw [p1] at q1
    exact absurd (aX q1) hab
  obtain ⟨e1,e2,e3,e4,e5⟩:=VM hji q1 q2 p1 p2
  have hR:=h
  rw [e1] at hR
  obtain ⟨r1,r2,r3⟩:=qi.part _ (ax _) hR e3 e4
  refine ⟨r1,by rw [e2];exact r2,mB (by rw [e3];rfl),by rw [e2];simp,λc hc hx=>by rw [e2] at hc;exact r3 c hx hc,?_,by simp only;omega⟩
  simp only
  rw [e2]
  have hp:=Kb (xs:=r.take j) (ys:=r.drop (i+2)) (a:=b) e3 e4
  rw [← e1] at hp
  refine hp.trans ((List.Perm.swap _ _ _).trans (pI _ (pI _ mx)))
end Rm
namespace Rm
theorem MU (x y:Int) (l:List Int):al (x::y::l)=(x,y)::al (y::l):=rfl
end Rm
namespace Rm
def E4 (r1 r2:List Int) (a b:Int):List Int:=r1.take (r1.idxOf a+1)++(tn r2 (r2.idxOf b)++r1.drop (r1.idxOf a))
structure Two (r1 r2:List Int) (a b:Int):Prop where
 h1:qi r1
 h2:qi r2
 ha:a∈r1
 hb:b∈r2
 dis:∀ x∈r2,x∉r1
theorem Two.facts {r1 r2:List Int}{a b:Int}(T:Two r1 r2 a b):qi (E4 r1 r2 a b)/\(al (E4 r1 r2 a b)).Perm ((a,b)::(b,a)::(al r1++al r2))/\(E4 r1 r2 a b).length=r1.length+r2.length+1:=by
 obtain ⟨t1,t2,t3,t4,t5⟩:=T.h2.turn T.hb
 obtain ⟨xs,ys,e,el,hx⟩:=Jp T.ha
 have es:E4 r1 r2 a b=xs++a::(tn r2 (r2.idxOf b)++a::ys):=by
  unfold E4
  rw [← el]
  conv=>lhs;rw [e]
  have d1:(xs++a::ys).take (xs.length+1)=xs++[a]:=by
   rw [ZZ,cQ (by omega)]
   simp
  have d2:(xs++a::ys).drop xs.length=a::ys:=by simp
  rw [d1,d2];simp
 have hR:qi (xs++a::ys):=by rw [← e];exact T.h1
 have hd:∀ x∈tn r2 (r2.idxOf b),x∉xs++a::ys:=λx hx=>by rw [← e];exact T.dis x ((t4 x).mp hx)
 refine ⟨by rw [es];exact hR.abd t1 t3 hd,?_,?_⟩
 ·rw [es,e]
  have t3':(tn r2 (r2.idxOf b)).getLast?=some b:=by rw [← t1.ends];exact t3
  exact (Kb t3 t3').trans (pI _ (pI _ (vT _ t2)))
 ·have hlt:(tn r2 (r2.idxOf b)).length=r2.length:=t5
  unfold E4
  have:=O4 T.ha
  rw [bN,bN,cf,dO,hlt]
  omega
theorem Two.mem {r1 r2:List Int}{a b:Int}(T:Two r1 r2 a b) (x:Int):x∈E4 r1 r2 a b↔x∈r1\/x∈r2:=by
 obtain ⟨t1,t2,t3,t4,t5⟩:=T.h2.turn T.hb
 unfold E4
 rw [a7,a7,t4]
 constructor
 ·rintro (h|h|h)
  ·exact .inl (List.mem_of_mem_take h)
  ·exact .inr h
  ·exact .inl (List.mem_of_mem_drop h)
 ·rintro (h|h)
  ·rw [← jA (r1.idxOf a) r1] at h
   rcases a7.mp h with h|h
   ·exact .inl (List.take_subset_take_left _ (gQ _) h)
   ·exact .inr (.inr h)
  ·exact .inr (.inl h)
theorem Qv.mem {r X Y:List Int}{a b:Int}(P:Qv r X Y a b) (hr:qi r) (x:Int):x∈r↔x∈X\/x∈Y:=by
 have key:∀ {l:List Int},qi l->∀ {x:Int},x∈l->(l=[x]\/∃ y,(x,y)∈al l):=λ{l} hl {x} hx=>by
  obtain ⟨i,hi⟩:=bU.mp hx
  have hlt:=(aC.mp hi).1
  by_cases h:i+1<l.length
  ·exact .inr ⟨_,bU.mpr ⟨i,VL.mpr ⟨hi,aD h⟩⟩⟩
  ·by_cases h1:l.length=1
   ·obtain ⟨c,rfl⟩:=List.length_eq_one_iff.mp h1
    have:i=0:=by simp at hlt;omega
    subst this
    simp at hi
    exact .inl (by rw [hi])
   ·have e1:l[i-1]?=some l[i-1]:=aD (by omega)
    exact .inr ⟨_,hl.sym _ _ (bU.mpr ⟨i-1,VL.mpr ⟨e1,by rw [show i-1+1=i by omega];exact hi⟩⟩)⟩
 constructor
 ·intro hx
  rcases key hr hx with e|⟨y,hy⟩
  ·have:=P.len;rw [e] at this
   have h1:=Xe.mpr P.x.ne
   have h2:=Xe.mpr P.y.ne
   rw [TQ] at this;omega
  ·rcases ay.mp (P.pm.mem_iff.mp hy) with e|hy
   ·cases e;exact .inl P.ha
   ·rcases ay.mp hy with e|hy
    ·cases e;exact .inr P.hb
    ·rcases a7.mp hy with hy|hy
     ·exact .inl (iK hy).1
     ·exact .inr (iK hy).1
 ·intro hx
  have Om:∀ {u v:Int},(u,v)∈(a,b)::(b,a)::(al X++al Y)->u∈r:=λh=>(iK (P.pm.mem_iff.mpr h)).1
  rcases hx with hx|hx
  ·rcases key P.x hx with e|⟨y,hy⟩
   ·have:=P.ha;rw [e] at this
    rw [← aF.mp this]
    exact Om (v:=b) aw
   ·exact Om (v:=y) (ah _ (ah _ (dh _ hy)))
  ·rcases key P.y hx with e|⟨y,hy⟩
   ·have:=P.hb;rw [e] at this
    rw [← aF.mp this]
    exact Om (v:=a) (ah _ aw)
   ·exact Om (v:=y) (ah _ (ah _ (bp _ hy)))
structure Wd (n:Nat) (R:Nat->List Int):Prop where
 r:∀ i,i<n->qi (R i)
 me:∀ i:Nat,i<n->(i:Int)∈R i
 Om:∀ i,i<n->∀ x∈R i,∃ j:Nat,j<n/\x=(j:Int)/\R j=R i
def Ed (n:Nat) (R:Nat->List Int) (x y:Int):Prop:=∃ i,i<n/\(x,y)∈al (R i)
theorem Wd.start (n:Nat):Wd n λi=>[(i:Int)] :=
 ⟨λi _=>qi.one _,λi _=>by simp,λi hi x hx=>⟨i,hi,by simpa using hx,rfl⟩⟩
theorem Wd.same {n:Nat}{R:Nat->List Int}(W:Wd n R) {i j:Nat}(hi:i<n) (hj:j<n) {x:Int}(h1:x∈R i) (h2:x∈R j):R i=R j:=by
 obtain ⟨k,hk,e1,e2⟩:=W.Om i hi x h1
 obtain ⟨k',hk',e3,e4⟩:=W.Om j hj x h2
 have:k=k':=by omega
 subst this
 rw [← e2,e4]
theorem Wd.head {n:Nat}{R:Nat->List Int}(W:Wd n R) {i j:Nat}(hi:i<n) (hj:j<n):((R i).head?=(R j).head?↔(j:Int)∈R i):=by
 constructor
 ·intro e
  obtain ⟨x,hx⟩:∃ x,(R i).head?=some x:=by
   cases h:R i with
   | nil=>exact absurd h (W.r i hi).ne
   | cons a l=>exact ⟨a,rfl⟩
  rw [W.same hi hj (mB hx) (mB (e▸hx))]
  exact W.me j hj
 ·intro h
  rw [W.same hi hj h (W.me j hj)]
theorem Ed.at {n:Nat}{R:Nat->List Int}(W:Wd n R) {x y:Int}(h:Ed n R x y) {i:Nat}(hi:i<n) (hx:x∈R i):(x,y)∈al (R i):=by
 obtain ⟨j,hj,hm⟩:=h
 rw [W.same hi hj hx (iK hm).1];exact hm
theorem Ed.symm {n:Nat}{R:Nat->List Int}(W:Wd n R) {x y:Int}(h:Ed n R x y):Ed n R y x:=let ⟨i,hi,hm⟩:=h;⟨i,hi,(W.r i hi).sym _ _ hm⟩
theorem Wd.link {n:Nat}{R:Nat->List Int}(W:Wd n R) {a b:Nat}(ha:a<n) (hb:b<n) (hn:(b:Int)∉R a) :
  Two (R a) (R b) a b/\Wd n (λi=>if (i:Int)∈E4 (R a) (R b) a b then E4 (R a) (R b) a b else R i) /\
   ∀ x y,Ed n (λi=>if (i:Int)∈E4 (R a) (R b) a b then E4 (R a) (R b) a b else R i) x y↔(Ed n R x y\/(x,y)=((a:Int),(b:Int))\/(x,y)=((b:Int),(a:Int))):=by
 have T:Two (R a) (R b) a b:=⟨W.r a ha,W.r b hb,W.me a ha,W.me b hb,λx h2 h1=>hn (by rw [W.same ha hb h1 h2];exact W.me b hb)⟩
 obtain ⟨f1,f2,f3⟩:=T.facts
 have fm:=T.mem
 generalize E4 (R a) (R b) a b=s at f1 f2 f3 fm
 have hs:∀ x∈s,∃ j:Nat,j<n/\x=(j:Int)/\(j:Int)∈s:=λx hx=>by
  rcases (fm x).mp hx with h|h
  ·obtain ⟨j,hj,e,_⟩:=W.Om a ha x h;exact ⟨j,hj,e,e▸hx⟩
  ·obtain ⟨j,hj,e,_⟩:=W.Om b hb x h;exact ⟨j,hj,e,e▸hx⟩
 have nos:∀ i,i<n->(i:Int)∉s->∀ x∈R i,x∉s:=λi hi h x hx hxs=>by
  rcases (fm x).mp hxs with q|q
  ·exact h ((fm i).mpr (.inl (W.same ha hi q hx▸W.me i hi)))
  ·exact h ((fm i).mpr (.inr (W.same hb hi q hx▸W.me i hi)))
 refine ⟨T,⟨λi hi=>?_,λi hi=>?_,λi hi x hx=>?_⟩,λx y=>⟨?_,?_⟩⟩
 ·by_cases c:(i:Int)∈s
  ·rw [if_pos c];exact f1
  ·rw [if_neg c];exact W.r i hi
 ·by_cases c:(i:Int)∈s
  ·rw [if_pos c];exact c
  ·rw [if_neg c];exact W.me i hi
 ·by_cases c:(i:Int)∈s
  ·simp only [if_pos c] at hx ⊢
   obtain ⟨j,hj,e,hjs⟩:=hs x hx
   exact ⟨j,hj,e,if_pos hjs⟩
  ·simp only [if_neg c] at hx ⊢
   obtain ⟨j,hj,e,er⟩:=W.Om i hi x hx
   exact ⟨j,hj,e,by rw [if_neg (λh=>nos i hi c x hx (e▸h))];exact er⟩
 ·rintro ⟨i,hi,hm⟩
  by_cases c:(i:Int)∈s
  ·simp only [if_pos c] at hm
   rcases ay.mp (f2.mem_iff.mp hm) with e|hm
   ·exact .inr (.inl e)
   ·rcases ay.mp hm with e|hm
    ·exact .inr (.inr e)
    ·rcases a7.mp hm with h|h
     ·exact .inl ⟨a,ha,h⟩
     ·exact .inl ⟨b,hb,h⟩
  ·simp only [if_neg c] at hm
   exact .inl ⟨i,hi,hm⟩
 ·have inS:∀ {u v:Int},(u,v)∈al s->Ed n (λi=>if (i:Int)∈s then s else R i) u v:=λh=>⟨a,ha,by simp only [if_pos ((fm a).mpr (.inl (W.me a ha)))];exact h⟩
  rintro (⟨i,hi,hm⟩|e|e)
  ·by_cases c:(i:Int)∈s
   ·refine inS (f2.mem_iff.mpr (ah _ (ah _ ?_)))
    rcases (fm i).mp c with h|h
    ·rw [← W.same ha hi h (W.me i hi)] at hm;exact dh _ hm
    ·rw [← W.same hb hi h (W.me i hi)] at hm;exact bp _ hm
   ·exact ⟨i,hi,by simp only [if_neg c];exact hm⟩
  ·obtain ⟨rfl,rfl⟩:=dz e;exact inS (f2.mem_iff.mpr aw)
  ·obtain ⟨rfl,rfl⟩:=dz e;exact inS (f2.mem_iff.mpr (ah _ aw))
theorem Wd.cut {n:Nat}{R:Nat->List Int}(W:Wd n R) {a b:Nat}(ha:a<n) (hb:b<n) (hab:a≠b) (hm:((a:Int),(b:Int))∈al (R a)) :
  Wd n (λi=>if (i:Int)∈(A7 (R a) a b).2 then (A7 (R a) a b).2 else if (i:Int)∈(A7 (R a) a b).1 then (A7 (R a) a b).1 else R i) /\
   ∀ x y,Ed n (λi=>if (i:Int)∈(A7 (R a) a b).2 then (A7 (R a) a b).2 else if (i:Int)∈(A7 (R a) a b).1 then (A7 (R a) a b).1 else R i) x y↔(Ed n R x y/\¬ (x,y)=((a:Int),(b:Int))/\¬ (x,y)=((b:Int),(a:Int))):=by
 have hR:=W.r a ha
 have P:=hR.parted hm (by omega:(a:Int)≠b)
 have PM:=P.mem hR
 generalize (A7 (R a) a b).1=X at P PM
 generalize (A7 (R a) a b).2=Y at P PM
 have nd:=P.pm.nodup_iff.mp hR.nd
 have nab:=(bq.mp nd).1
 have nba:=(bq.mp (bq.mp nd).2).1
 have inr:∀ x∈R a,∃ j:Nat,j<n/\x=(j:Int)/\R j=R a:=W.Om a ha
 have nos:∀ i,i<n->(i:Int)∉R a->∀ x∈R i,x∉R a:=λi hi h x hx hxs=>h (W.same ha hi hxs hx▸W.me i hi)
 have sw:∀ i:Nat,(i:Int)∈Y->(i:Int)∉X:=λi h=>P.dis _ h
 refine ⟨⟨λi hi=>?_,λi hi=>?_,λi hi x hx=>?_⟩,λx y=>⟨?_,?_⟩⟩
 ·by_cases c2:(i:Int)∈Y
  ·rw [if_pos c2];exact P.y
  ·by_cases c1:(i:Int)∈X
   ·rw [if_neg c2,if_pos c1];exact P.x
   ·rw [if_neg c2,if_neg c1];exact W.r i hi
 ·by_cases c2:(i:Int)∈Y
  ·rw [if_pos c2];exact c2
  ·by_cases c1:(i:Int)∈X
   ·rw [if_neg c2,if_pos c1];exact c1
   ·rw [if_neg c2,if_neg c1];exact W.me i hi
 ·by_cases c2:(i:Int)∈Y
  ·simp only [if_pos c2] at hx ⊢
   obtain ⟨j,hj,e,_⟩:=inr x ((PM x).mpr (.inr hx))
   exact ⟨j,hj,e,if_pos (e▸hx)⟩
  ·by_cases c1:(i:Int)∈X
   ·simp only [if_neg c2,if_pos c1] at hx ⊢
    obtain ⟨j,hj,e,_⟩:=inr x ((PM x).mpr (.inl hx))
    have hjX:(j:Int)∈X:=e▸hx
    exact ⟨j,hj,e,by rw [if_neg (λh=>sw j h hjX),if_pos hjX]⟩
   ·simp only [if_neg c2,if_neg c1] at hx ⊢
    obtain ⟨j,hj,e,er⟩:=W.Om i hi x hx
    have hni:(i:Int)∉R a:=λh=>((PM i).mp h).elim c1 c2
    have hnj:(j:Int)∉R a:=λh=>nos i hi hni x hx (e▸h)
    exact ⟨j,hj,e,by rw [if_neg (λh=>hnj ((PM j).mpr (.inr h))),if_neg (λh=>hnj ((PM j).mpr (.inl h)))];exact er⟩
 ·have old:∀ {u v:Int},(u,v)∈al X++al Y->Ed n R u v/\¬ (u,v)=((a:Int),(b:Int))/\¬ (u,v)=((b:Int),(a:Int)):=λ{u v} h =>
   ⟨⟨a,ha,P.pm.mem_iff.mpr (ah _ (ah _ h))⟩,λe=>nab (ah _ (e▸h)),λe=>nba (e▸h)⟩
  rintro ⟨i,hi,h⟩
  by_cases c2:(i:Int)∈Y
  ·simp only [if_pos c2] at h;exact old (bp _ h)
  ·by_cases c1:(i:Int)∈X
   ·simp only [if_neg c2,if_pos c1] at h;exact old (dh _ h)
   ·simp only [if_neg c2,if_neg c1] at h
    have hni:(i:Int)∉R a:=λh=>((PM i).mp h).elim c1 c2
    have hxa:x∉R a:=nos i hi hni x (iK h).1
    refine ⟨⟨i,hi,h⟩,λe=>hxa ?_,λe=>hxa ?_⟩
    ·rw [(dz e).1];exact W.me a ha
    ·rw [(dz e).1];exact (PM _).mpr (.inr P.hb)
 ·rintro ⟨h,e1,e2⟩
  by_cases hx:x∈R a
  ·have hm:=Ed.at W h ha hx
   rcases ay.mp (P.pm.mem_iff.mp hm) with e|hm
   ·exact absurd e e1
   ·rcases ay.mp hm with e|hm
    ·exact absurd e e2
    ·rcases a7.mp hm with q|q
     ·refine ⟨a,ha,?_⟩
      simp only [if_neg (λh=>sw a h P.ha),if_pos P.ha];exact q
     ·refine ⟨b,hb,?_⟩
      simp only [if_pos P.hb];exact q
  ·obtain ⟨i,hi,hm⟩:=h
   have hni:(i:Int)∉R a:=λh=>hx (W.same ha hi h (W.me i hi)▸(iK hm).1)
   refine ⟨i,hi,?_⟩
   simp only [if_neg (λh=>hni ((PM i).mpr (.inr h))),if_neg (λh=>hni ((PM i).mpr (.inl h)))]
   exact hm
theorem aaV {M:Int->Prop}:∀ {l:List Int},(∀ x y,(x,y)∈al l->(M x↔M y))->(∃ a∈l,M a)->∀ x∈l,M x
 | [],_,_,x,hx=>nomatch hx
 | [c],_,⟨a,ha,hM⟩,x,hx=>by
  rw [aF.mp hx,← aF.mp ha];exact hM
 | c::d::t,h,⟨a,ha,hM⟩,x,hx=>by
  have hcd:=h c d (by rw [MU];exact aw)
  have ih:=aaV (l:=d::t) λx y hm=>h x y (by rw [MU];exact ah _ hm)
  have hd:M d:=by
   rcases ay.mp ha with e|ha
   ·exact hcd.mp (e▸hM)
   ·exact ih ⟨a,ha,hM⟩ d aw
  rcases ay.mp hx with e|hx
  ·rw [e];exact hcd.mpr hd
  ·exact ih ⟨d,aw,hd⟩ x hx
theorem few {l:List Int}{n:Nat}(hn:l.Nodup) (h:∀ x∈l,∃ j:Nat,j<n/\x=(j:Int)):l.length<=n:=by
 have e:=uQ (ds:=(fM n).map λi:Nat=>(i:Int)) (r:=l) (by
  rw [L9,mU]
  exact List.Pairwise.imp (λh e=>h (by omega)) (L9.mp Z0)) λx hx=>by
   obtain ⟨j,hj,e⟩:=h x hx
   exact bX.mpr ⟨j,nc.mpr hj,e.symm⟩
 have le:∀ (ds:List Int),(ds.map λd=>l.count d).sum<=ds.length:=λds=>by
  induction ds with
  | nil=>simp
  | cons d ds ih =>
   have:l.count d<=1:=Uu.mp hn d
   simp only [cn,Cu,cG]
   omega
 have:=le ((fM n).map λi:Nat=>(i:Int))
 rw [e] at this
 simpa using this
theorem Wd.len {n:Nat}{R:Nat->List Int}(W:Wd n R) {i:Nat}(hi:i<n):(R i).length+1<=2*n:=by
 obtain ⟨ds,h1,h2,h3⟩:=(W.r i hi).cnt
 have:=few h1 λx hx=>let ⟨j,hj,e,_⟩:=W.Om i hi x ((h2 x).mp hx);⟨j,hj,e⟩
 omega
end Rm
namespace Rm
end Rm
namespace Rm
end Rm
namespace Rm
def lk (R:Nat->List Int) (a b:Nat):Nat->List Int:=λi=>if (i:Int)∈E4 (R a) (R b) a b then E4 (R a) (R b) a b else R i
def ct (R:Nat->List Int) (a b:Nat):Nat->List Int:=λi=>if (i:Int)∈(A7 (R a) a b).2 then (A7 (R a) a b).2 else if (i:Int)∈(A7 (R a) a b).1 then (A7 (R a) a b).1 else R i
theorem Rg {r s:List Int}(hr:qi r) (hs:qi s) (h:∀ x∈r,x∈s):r.length<=s.length:=by
 obtain ⟨d,d1,d2,d3⟩:=hr.cnt
 obtain ⟨e,e1,e2,e3⟩:=hs.cnt
 have q:=uQ (ds:=e) (r:=d) e1 λx hx=>(e2 x).mpr (h x ((d2 x).mp hx))
 have le:∀ (ds:List Int),(ds.map λc=>d.count c).sum<=ds.length:=λds=>by
  induction ds with
  | nil=>simp
  | cons c ds ih =>
   have:d.count c<=1:=Uu.mp d1 c
   simp only [cn,Cu,cG]
   omega
 have:=le e
 omega
section
variable {n:Nat}{R R':Nat->List Int}{x y z a b:Nat}
theorem Wd.sub (W:Wd n R) (W':Wd n R') (h:∀ x y,Ed n R x y->Ed n R' x y) (hx:x<n):∀ c∈R x,c∈R' x :=
 aaV (M:=λc=>c∈R' x) (λu v hm =>
  have e:=h u v ⟨x,hx,hm⟩
  ⟨λhu=>(iK (Ed.at W' e hx hu)).2,λhv=>(iK (Ed.at W' (Ed.symm W' e) hx hv)).2⟩) ⟨x,W.me x hx,W'.me x hx⟩
theorem Wd.sy (W:Wd n R) (hx:x<n) (hy:y<n) (h:(y:Int)∈R x):(x:Int)∈R y:=W.same hx hy h (W.me y hy)▸W.me x hx
theorem Wd.eq (W:Wd n R) (hx:x<n) (hy:y<n) (h:(y:Int)∈R x):R x=R y:=W.same hx hy h (W.me y hy)
theorem Wd.lk (W:Wd n R) (ha:a<n) (hb:b<n) (hn:(b:Int)∉R a):Wd n (lk R a b):=(W.link ha hb hn).2.1
theorem Wd.WT (W:Wd n R) (ha:a<n) (hb:b<n) (hn:(b:Int)∉R a) (x y:Int):Ed n (Rm.lk R a b) x y↔(Ed n R x y\/(x,y)=((a:Int),(b:Int))\/(x,y)=((b:Int),(a:Int))):=(W.link ha hb hn).2.2 x y
theorem Wd.Jz (W:Wd n R) (ha:a<n) (hb:b<n) (hn:(b:Int)∉R a) (h:(x:Int)∈R a\/(x:Int)∈R b):(∀ c,c∈Rm.lk R a b x↔c∈R a\/c∈R b)/\(Rm.lk R a b x).length=(R a).length+(R b).length+1:=by
 have T:=(W.link ha hb hn).1
 have e:Rm.lk R a b x=E4 (R a) (R b) a b:=if_pos ((T.mem x).mpr h)
 rw [e]
 exact ⟨T.mem,T.facts.2.2⟩
theorem Wd.WN (W:Wd n R) (ha:a<n) (hb:b<n) (hn:(b:Int)∉R a) (h1:(x:Int)∉R a) (h2:(x:Int)∉R b):Rm.lk R a b x=R x :=
 if_neg λh=>((((W.link ha hb hn).1).mem x).mp h).elim h1 h2
theorem Wd.ZC (W:Wd n R) (ha:a<n) (hb:b<n) (hn:(b:Int)∉R a) (hx:x<n):∀ c∈R x,c∈Rm.lk R a b x :=
 W.sub (W.lk ha hb hn) (λu v h=>(W.WT ha hb hn u v).mpr (.inl h)) hx
theorem Wd.ct (W:Wd n R) (ha:a<n) (hb:b<n) (hab:a≠b) (hm:Ed n R a b):Wd n (ct R a b):=(W.cut ha hb hab (Ed.at W hm ha (W.me a ha))).1
theorem Wd.WY (W:Wd n R) (ha:a<n) (hb:b<n) (hab:a≠b) (hm:Ed n R a b) (x y:Int):Ed n (Rm.ct R a b) x y↔(Ed n R x y/\¬ (x,y)=((a:Int),(b:Int))/\¬ (x,y)=((b:Int),(a:Int))):=(W.cut ha hb hab (Ed.at W hm ha (W.me a ha))).2 x y
theorem Wd.ZI (W:Wd n R) (ha:a<n) (hb:b<n) (hab:a≠b) (hm:Ed n R a b):(b:Int)∉Rm.ct R a b a/\(∀ c,c∈R a↔c∈Rm.ct R a b a\/c∈Rm.ct R a b b)/\(Rm.ct R a b a).length+(Rm.ct R a b b).length+1=(R a).length:=by
 have hR:=W.r a ha
 have P:=hR.parted (Ed.at W hm ha (W.me a ha)) (by omega:(a:Int)≠b)
 have PM:=P.mem hR
 have e1:Rm.ct R a b b=(A7 (R a) a b).2:=if_pos P.hb
 have e2:Rm.ct R a b a=(A7 (R a) a b).1:=by
  show (if _ then _ else if _ then _ else _)=_
  rw [if_neg λh=>P.dis _ h P.ha,if_pos P.ha]
 rw [e1,e2]
 exact ⟨P.dis _ P.hb,PM,P.len⟩
theorem Wd.abe (W:Wd n R) (ha:a<n) (hb:b<n) (hab:a≠b) (hm:Ed n R a b) (h:(x:Int)∉R a):Rm.ct R a b x=R x:=by
 have hR:=W.r a ha
 have PM:=(hR.parted (Ed.at W hm ha (W.me a ha)) (by omega:(a:Int)≠b)).mem hR
 show (if _ then _ else if _ then _ else _)=_
 rw [if_neg λq=>h ((PM _).mpr (.inr q)),if_neg λq=>h ((PM _).mpr (.inl q))]
end
structure Ti where
 x:Nat
 y:Nat
 dH:Nat
 wd:Bool
def Ti.key (t:Ti):Int×Int:=((t.x:Int),(t.y:Int))
def Ti.Is (t:Ti) (u v:Int):Prop:=(u,v)=((t.x:Int),(t.y:Int))\/(u,v)=((t.y:Int),(t.x:Int))
def Ti.up (t:Ti):Ti:={ t with dH:=t.dH+1 }
def Ti.zy (t:Ti):Ti:={ t with wd:=true }
theorem Ti.WU {t u:Ti}(h:t.key=u.key):t.x=u.x/\t.y=u.y:=by
 obtain ⟨h1,h2⟩:=dz h
 omega
theorem Ti.zl {t u:Ti}(ht:t.x<t.y) (hu:u.x<u.y) (h:t.Is u.x u.y):t.key=u.key:=by
 rcases h with h|h<;>obtain ⟨h1,h2⟩:=dz h
 ·exact Prod.ext h1.symm h2.symm
 ·omega
theorem Ti.RJ {t:Ti}{u v:Int}:t.Is u v->t.Is v u:=λh=>h.elim (λh=>.inr (by rw [LU] at h ⊢;exact ⟨h.2,h.1⟩)) (λh=>.inl (by rw [LU] at h ⊢;exact ⟨h.2,h.1⟩))
structure Lv (n T:Nat) (ts:List Ti) (R:Nat->Nat->List Int):Prop where
 wd:∀ i,i<=T->Wd n (R i)
 ed:∀ i,i<=T->∀ u v:Int,Ed n (R i) u v↔∃ t∈ts,t.wd=true/\i<=t.dH/\t.Is u v
 sz:∀ i,i<=T->∀ x,x<n->((R i x).length+1)*2^i<=2*n
 lt:∀ t∈ts,t.x<t.y/\t.y<n/\t.dH<=T
 nd:(ts.map Ti.key).Nodup
def Jn (ts:List Ti) (R:Nat->Nat->List Int):Prop:=∀ t∈ts,(t.y:Int)∈R t.dH t.x
theorem tQ {ts:List Ti}(h:(ts.map Ti.key).Nodup) {t u:Ti}(ht:t∈ts) (hu:u∈ts) (e:t.key=u.key):t=u:=by
 induction ts with
 | nil=>nomatch ht
 | cons s ts ih =>
  rw [cn,bq] at h
  rcases ay.mp ht with rfl|ht'<;>rcases ay.mp hu with rfl|hu'
  ·rfl
  ·exact absurd (e▸bR hu') h.1
  ·exact absurd (e▸bR ht') h.1
  ·exact ih h.2 ht' hu'
def jP (ts:List Ti) (k:Int×Int) (f:Ti->Ti):List Ti:=ts.map λt=>if t.key=k then f t else t
section
variable {n T:Nat}{ts:List Ti}{R:Nat->Nat->List Int}{t:Ti}{f:Ti->Ti}
theorem mE (hf:∀ t,(f t).key=t.key) (k:Int×Int):(jP ts k f).map Ti.key=ts.map Ti.key:=by
 unfold jP
 rw [cW]
 exact oF λu _=>by
  show Ti.key (if _ then _ else _)=_
  split
  ·exact hf u
  ·rfl
theorem oN (hnd:(ts.map Ti.key).Nodup) (ht:t∈ts) (u:Ti):u∈jP ts t.key f↔u=f t\/(u∈ts/\u.key≠t.key):=by
 unfold jP
 rw [bX]
 constructor
 ·rintro ⟨v,hv,e⟩
  by_cases c:v.key=t.key
  ·rw [if_pos c] at e
   rw [tQ hnd hv ht c] at e
   exact .inl e.symm
  ·rw [if_neg c] at e
   subst e
   exact .inr ⟨hv,c⟩
 ·rintro (e|⟨h,c⟩)
  ·exact ⟨t,ht,by rw [if_pos rfl,e]⟩
  ·exact ⟨u,h,if_neg c⟩
theorem Lv.mono (L:Lv n T ts R) {i j x:Nat}(hij:i<=j) (hj:j<=T) (hx:x<n):∀ c∈R j x,c∈R i x :=
 (L.wd j hj).sub (L.wd i (bE hij hj)) (λu v h=>by
  obtain ⟨t,h1,h2,h3,h4⟩:=(L.ed j hj u v).mp h
  exact (L.ed i (bE hij hj) u v).mpr ⟨t,h1,h2,bE hij h3,h4⟩) hx
theorem Lv.apart (L:Lv n T ts R) (ht:t∈ts) (hw:t.wd=true) {i:Nat}(hi:t.dH<i) (hT:i<=T):(t.y:Int)∉R i t.x:=by
 obtain ⟨h1,h2,h3⟩:=L.lt t ht
 have W:=L.wd t.dH h3
 have e:Ed n (R t.dH) t.x t.y:=(L.ed _ h3 _ _).mpr ⟨t,ht,hw,ax _,.inl rfl⟩
 have c:=W.ZI (a:=t.x) (b:=t.y) (by omega) h2 (by omega) e
 intro hin
 refine c.1 ((L.wd i hT).sub (W.ct (a:=t.x) (b:=t.y) (by omega) h2 (by omega) e) (λu v h=>?_) (by omega) _ hin)
 obtain ⟨s,s1,s2,s3,s4⟩:=(L.ed i hT u v).mp h
 have ne:¬ t.Is u v:=λq=>by
  have:s.key=t.key:=by
   obtain ⟨l1,l2,l3⟩:=L.lt s s1
   rcases q with q|q<;>obtain ⟨rfl,rfl⟩:=dz q
   ·exact Ti.zl l1 h1 s4
   ·exact Ti.zl l1 h1 (Ti.RJ s4)
  rw [tQ L.nd s1 ht this] at s3
  omega
 exact (W.WY (a:=t.x) (b:=t.y) (by omega) h2 (by omega) e u v).mpr ⟨(L.ed _ h3 u v).mpr ⟨s,s1,s2,by omega,s4⟩,λq=>ne (.inl q),λq=>ne (.inr q)⟩
def upR (R:Nat->Nat->List Int) (j x y:Nat):Nat->Nat->List Int:=λi=>if i=j then lk (R j) x y else R i
def Ol (R:Nat->Nat->List Int) (l x y:Nat):Nat->Nat->List Int:=λi=>if i<=l then lk (R i) x y else R i
def drR (R:Nat->Nat->List Int) (l x y:Nat):Nat->Nat->List Int:=λi=>if i<=l then ct (R i) x y else R i
theorem Lv.zl (L:Lv n T ts R) {s:Ti}(hs:s∈ts) (ht:t∈ts) {u v:Int}(h1:s.Is u v) (h2:t.Is u v):s=t:=by
 refine tQ L.nd hs ht ?_
 rcases h2 with q|q<;>obtain ⟨rfl,rfl⟩:=dz q
 ·exact Ti.zl (L.lt s hs).1 (L.lt t ht).1 h1
 ·exact Ti.zl (L.lt s hs).1 (L.lt t ht).1 (Ti.RJ h1)
structure Dn (n T:Nat) (ts:List Ti) (R:Nat->Nat->List Int) (a b k:Nat):Prop where
 lv:Lv n T ts R
 ha:a<n
 hb:b<n
 hk:k<=T+1
 ap:(b:Int)∉R 0 a
 s2:∀ i,i<k->((R i a).length+(R i b).length+2)*2^i<=2*n
 jn:∀ t∈ts,(t.y:Int)∈R t.dH t.x\/(t.dH<k/\((t.x:Int)∈R t.dH a/\(t.y:Int)∈R t.dH b\/(t.x:Int)∈R t.dH b/\(t.y:Int)∈R t.dH a))
variable {a b k l:Nat}
theorem Dn.swap (D:Dn n T ts R a b k):Dn n T ts R b a k :=
 ⟨D.lv,D.hb,D.ha,D.hk,λh=>D.ap ((D.lv.wd 0 (bG _)).sy D.hb D.ha h),λi hi=>by have:=D.s2 i hi;rwa [Ud (R i b).length],λt ht=>(D.jn t ht).imp_right λh=>⟨h.1,h.2.symm⟩⟩
theorem Dn.done (D:Dn n T ts R a b 0):Jn ts R:=λt ht=>(D.jn t ht).resolve_right λh=>by omega
theorem Dn.apart (D:Dn n T ts R a b k) {i:Nat}(hi:i<=T):(b:Int)∉R i a:=λh=>D.ap (D.lv.mono (bG _) hi D.ha _ h)
theorem Lv.drop (L:Lv n T ts R) (J:Jn ts R) (ht:t∈ts) (hw:t.wd=true):Dn n T (ts.filter λu=>decide (u.key≠t.key)) (drR R t.dH t.x t.y) t.x t.y (t.dH+1):=by
 obtain ⟨h1,h2,h3⟩:=L.lt t ht
 have hx:t.x<n:=by omega
 have hne:t.x≠t.y:=by omega
 have e:∀ i,i<=t.dH->Ed n (R i) t.x t.y:=λi hi=>(L.ed i (by omega) _ _).mpr ⟨t,ht,hw,hi,.inl rfl⟩
 have lo:∀ i,i<=t.dH->drR R t.dH t.x t.y i=ct (R i) t.x t.y:=λi hi=>if_pos hi
 have hi':∀ i,¬ i<=t.dH->drR R t.dH t.x t.y i=R i:=λi hi=>if_neg hi
 have mm:∀ u,u∈ts.filter (λu=>decide (u.key≠t.key))↔u∈ts/\u≠t:=λu=>by
  rw [fb,decide_eq_true_iff]
  exact and_congr_right λhu=>not_congr ⟨λq=>tQ L.nd hu ht q,λq=>q▸rfl⟩
 have C:=λi (hi:i<=t.dH)=>(L.wd i (by omega)).ZI hx h2 hne (e i hi)
 refine ⟨⟨λi hi=>?_,λi hi u v=>?_,λi hi x hx'=>?_,λu hu=>L.lt u ((mm u).mp hu).1,?_⟩,hx,h2,by omega,?_,λi hi=>?_,λu hu=>?_⟩
 ·by_cases c:i<=t.dH
  ·rw [lo i c];exact (L.wd i hi).ct hx h2 hne (e i c)
  ·rw [hi' i c];exact L.wd i hi
 ·by_cases c:i<=t.dH
  ·rw [lo i c,(L.wd i hi).WY hx h2 hne (e i c),L.ed i hi]
   constructor
   ·rintro ⟨⟨s,s1,s2,s3,s4⟩,n1,n2⟩
    exact ⟨s,(mm s).mpr ⟨s1,λq=>(q▸s4).elim n1 n2⟩,s2,s3,s4⟩
   ·rintro ⟨s,s1,s2,s3,s4⟩
    have s5:=(mm s).mp s1
    exact ⟨⟨s,s5.1,s2,s3,s4⟩,λq=>s5.2 (L.zl s5.1 ht s4 (.inl q)),λq=>s5.2 (L.zl s5.1 ht s4 (.inr q))⟩
  ·rw [hi' i c,L.ed i hi]
   constructor
   ·rintro ⟨s,s1,s2,s3,s4⟩
    exact ⟨s,(mm s).mpr ⟨s1,λq=>c (q▸s3)⟩,s2,s3,s4⟩
   ·rintro ⟨s,s1,s2⟩
    exact ⟨s,((mm s).mp s1).1,s2⟩
 ·refine bE (sI _ (oo ?_)) (L.sz i hi x hx')
  by_cases c:i<=t.dH
  ·rw [lo i c]
   have W':=(L.wd i hi).ct hx h2 hne (e i c)
   exact Rg (W'.r x hx') ((L.wd i hi).r x hx') (W'.sub (L.wd i hi) (λu v q=>(((L.wd i hi).WY hx h2 hne (e i c) u v).mp q).1) hx')
  ·rw [hi' i c];exact ax _
 ·exact (zF _ oG).nodup L.nd
 ·rw [lo 0 (bG _)];exact (C 0 (bG _)).1
 ·rw [lo i (by omega)]
  have:=(C i (by omega)).2.2
  have:=L.sz i (by omega) t.x hx
  have e:(ct (R i) t.x t.y t.x).length+(ct (R i) t.x t.y t.y).length+2=(R i t.x).length+1:=by omega
  rw [e];exact this
 ·obtain ⟨q1,q2⟩:=(mm u).mp hu
  have j:=J u q1
  obtain ⟨u1,u2,u3⟩:=L.lt u q1
  by_cases c:u.dH<=t.dH
  ·rw [lo _ c]
   have W:=L.wd _ u3
   have W':=W.ct hx h2 hne (e _ c)
   by_cases d:(u.x:Int)∈R u.dH t.x
   ·have d':(u.y:Int)∈R u.dH t.x:=by rw [W.eq hx (by omega) d];exact j
    rcases ((C _ c).2.1 _).mp d with p|p<;>rcases ((C _ c).2.1 _).mp d' with p'|p'
    ·exact .inl (by rw [← W'.eq hx (by omega) p];exact p')
    ·exact .inr ⟨by omega,.inl ⟨p,p'⟩⟩
    ·exact .inr ⟨by omega,.inr ⟨p,p'⟩⟩
    ·exact .inl (by rw [← W'.eq h2 (by omega) p];exact p')
   ·rw [W.abe hx h2 hne (e _ c) d];exact .inl j
  ·rw [hi' _ c];exact .inl j
theorem Dn.few (D:Dn n T ts R a b (l+1)) (hT:∀ j,2^(j+1)<=n->j<=T) (hs:((R l a).length+1)*2^(l+1)<=2*n) {x y:Nat}(hx:(x:Int)∈R l a) (hy:(y:Int)∈R l a) (hxy:x≠y):l+1<=T:=by
 have hl:l<=T:=by have:=D.hk;omega
 obtain ⟨d,d1,d2,d3⟩:=((D.lv.wd l hl).r a D.ha).cnt
 have:2<=d.length:=by
  have hx':=(d2 _).mpr hx
  have hy':=(d2 _).mpr hy
  match d,d1,hx',hy' with
  | [c],_,hx',hy' =>
   rw [aF] at hx' hy'
   omega
  | c::e::r,_,_,_=>simp
 refine hT _ ?_
 have h4:4*2^(l+1)<=((R l a).length+1)*2^(l+1):=sI _ (by omega)
 have:=Ue 2 (l+1)
 omega
theorem Dn.acL (D:Dn n T ts R a b (l+1)) (hT:∀ j,2^(j+1)<=n->j<=T) (hs:((R l a).length+1)*2^(l+1)<=2*n) (ht:t∈ts) (hw:t.wd=true) (hl:t.dH=l) (hx:(t.x:Int)∈R l a) (hy:(t.y:Int)∈R l a) :
  l+1<=T/\(t.y:Int)∉R (l+1) t.x/\Dn n T (jP ts t.key Ti.up) (upR R (l+1) t.x t.y) a b (l+1):=by
 have L:=D.lv
 obtain ⟨h1,h2,h3⟩:=L.lt t ht
 have hl1:l+1<=T:=D.few hT hs hx hy (by omega)
 have hap:=L.apart ht hw (i:=l+1) (by omega) hl1
 have hxn:t.x<n:=by omega
 have W:=L.wd _ hl1
 have hi':∀ i,i≠l+1->upR R (l+1) t.x t.y i=R i:=λi hi=>if_neg hi
 have at':upR R (l+1) t.x t.y (l+1)=lk (R (l+1)) t.x t.y:=if_pos rfl
 have mm:=oN (f:=Ti.up) L.nd ht
 have kk:∀ u,u∈ts->u≠t->u.key≠t.key:=λu hu hne q=>hne (tQ L.nd hu ht q)
 have lo:=L.wd l (by omega)
 refine ⟨hl1,hap,⟨λi hi=>?_,λi hi u v=>?_,λi hi x hx'=>?_,λu hu=>?_,?_⟩,D.ha,D.hb,D.hk,?_,λi hi=>?_,λu hu=>?_⟩
 ·by_cases c:i=l+1
  ·subst c;rw [at'];exact W.lk hxn h2 hap
  ·rw [hi' i c];exact L.wd i hi
 ·have:(∃ s∈jP ts t.key Ti.up,s.wd=true/\i<=s.dH/\s.Is u v)↔(i<=l+1/\t.Is u v)\/∃ s∈ts,s≠t/\s.wd=true/\i<=s.dH/\s.Is u v:=by
   constructor
   ·rintro ⟨s,s1,s2⟩
    rcases (mm s).mp s1 with rfl|⟨q1,q2⟩
    ·exact .inl ⟨by have:i<=t.dH+1:=s2.2.1;omega,s2.2.2⟩
    ·exact .inr ⟨s,q1,λq=>q2 (q▸rfl),s2⟩
   ·rintro (⟨q1,q2⟩|⟨s,s1,s2,s3⟩)
    ·exact ⟨t.up,(mm _).mpr (.inl rfl),hw,by show i<=t.dH+1;omega,q2⟩
    ·exact ⟨s,(mm _).mpr (.inr ⟨s1,kk s s1 s2⟩),s3⟩
  rw [this]
  have old:Ed n (R i) u v↔(i<=l/\t.Is u v)\/∃ s∈ts,s≠t/\s.wd=true/\i<=s.dH/\s.Is u v:=by
   rw [L.ed i hi]
   constructor
   ·rintro ⟨s,s1,s2,s3,s4⟩
    by_cases q:s=t
    ·subst q;exact .inl ⟨by omega,s4⟩
    ·exact .inr ⟨s,s1,q,s2,s3,s4⟩
   ·rintro (⟨q1,q2⟩|⟨s,s1,s2,s3⟩)
    ·exact ⟨t,ht,hw,by omega,q2⟩
    ·exact ⟨s,s1,s3⟩
  by_cases c:i=l+1
  ·subst c
   rw [at',W.WT hxn h2 hap,old]
   constructor
   ·rintro ((⟨q,_⟩|q)|q)
    ·omega
    ·exact .inr q
    ·exact .inl ⟨ax _,q⟩
   ·rintro (⟨_,q⟩|q)
    ·exact .inr q
    ·exact .inl (.inr q)
  ·rw [hi' i c,old]
   exact or_congr_left (and_congr_left λ_=>by omega)
 ·by_cases c:i=l+1
  ·subst c;rw [at']
   by_cases d:(x:Int)∈R (l+1) t.x\/(x:Int)∈R (l+1) t.y
   ·refine bE (sI _ (oo ?_)) hs
    refine Rg ((W.lk hxn h2 hap).r x hx') (lo.r a D.ha) λc hc=>?_
    rcases ((W.Jz hxn h2 hap d).1 c).mp hc with q|q
    ·rw [lo.eq D.ha hxn hx];exact L.mono (gQ l) hl1 hxn _ q
    ·rw [lo.eq D.ha h2 hy];exact L.mono (gQ l) hl1 h2 _ q
   ·rw [W.WN hxn h2 hap (λq=>d (.inl q)) (λq=>d (.inr q))];exact L.sz _ hi x hx'
  ·rw [hi' i c];exact L.sz i hi x hx'
 ·rcases (mm u).mp hu with rfl|⟨q,_⟩
  ·exact ⟨h1,h2,by show t.dH+1<=T;omega⟩
  ·exact L.lt u q
 ·exact (mE (f:=Ti.up) (λ_=>rfl) t.key).symm▸L.nd
 ·rw [hi' 0 (by omega)];exact D.ap
 ·rw [hi' i (by omega)];exact D.s2 i hi
 ·rcases (mm u).mp hu with rfl|⟨q,_⟩
  ·have:t.up.dH=l+1:=by show t.dH+1=l+1;omega
   rw [this,at']
   exact .inl (((W.Jz (x:=t.x) hxn h2 hap (.inl (W.me _ hxn))).1 _).mpr (.inr (W.me _ h2)))
  ·have j:=D.jn u q
   obtain ⟨u1,u2,u3⟩:=L.lt u q
   by_cases c:u.dH=l+1
   ·rw [c] at j ⊢
    rw [at']
    exact .inl (W.ZC hxn h2 hap (by omega) _ (j.resolve_right λq=>by omega))
   ·rw [hi' _ c];exact j
theorem Dn.full (D:Dn n T ts R a b (l+1)) (hno:∀ t∈ts,t.wd=true->t.dH=l->(t.x:Int)∈R l a->(t.y:Int)∈R l a->False) (hl:l+1<=T) {x y:Nat}(hx:x<n) (hy:y<n) (h1:(x:Int)∈R l a) (h2:(y:Int)∈R l a):(y:Int)∈R (l+1) x:=by
 have L:=D.lv
 have W:=L.wd l (by omega)
 have V:=L.wd (l+1) hl
 have e:=W.eq D.ha hx h1
 refine aaV (M:=λc=>c∈R (l+1) x) (l:=R l a) (λu v hm=>?_) ⟨x,h1,V.me x hx⟩ y h2
 obtain ⟨t,t1,t2,t3,t4⟩:=(L.ed l (by omega) u v).mp ⟨a,D.ha,hm⟩
 have m:=iK hm
 have ne:t.dH≠l:=λq=>by
  rcases t4 with p|p<;>obtain ⟨rfl,rfl⟩:=dz p
  ·exact hno t t1 t2 q m.1 m.2
  ·exact hno t t1 t2 q m.2 m.1
 have E:Ed n (R (l+1)) u v:=(L.ed _ hl u v).mpr ⟨t,t1,t2,by omega,t4⟩
 exact ⟨λhu=>(iK (Ed.at V E hx hu)).2,λhv=>(iK (Ed.at V (Ed.symm V E) hx hv)).2⟩
theorem Dn.acJ (D:Dn n T ts R a b (l+1)) (ht:t∈ts) (hw:t.wd=false) (hl:t.dH=l) (hl1:l+1<=T) (hj:(t.y:Int)∈R (l+1) t.x):Dn n T (jP ts t.key Ti.up) R a b (l+1):=by
 have L:=D.lv
 obtain ⟨h1,h2,h3⟩:=L.lt t ht
 have mm:=oN (f:=Ti.up) L.nd ht
 have kk:∀ u,u∈ts->u≠t->u.key≠t.key:=λu hu hne q=>hne (tQ L.nd hu ht q)
 refine ⟨⟨L.wd,λi hi u v=>?_,L.sz,λu hu=>?_,?_⟩,D.ha,D.hb,D.hk,D.ap,D.s2,λu hu=>?_⟩
 ·rw [L.ed i hi]
  constructor
  ·rintro ⟨s,s1,s2,s3⟩
   exact ⟨s,(mm s).mpr (.inr ⟨s1,kk s s1 λq=>by rw [q,hw] at s2;exact absurd s2 (by decide)⟩),s2,s3⟩
  ·rintro ⟨s,s1,s2,s3⟩
   rcases (mm s).mp s1 with rfl|⟨q,_⟩
   ·exact absurd (hw.symm.trans s2) (by decide)
   ·exact ⟨s,q,s2,s3⟩
 ·rcases (mm u).mp hu with rfl|⟨q,_⟩
  ·exact ⟨h1,h2,by show t.dH+1<=T;omega⟩
  ·exact L.lt u q
 ·exact (mE (f:=Ti.up) (λ_=>rfl) t.key).symm▸L.nd
 ·rcases (mm u).mp hu with rfl|⟨q,_⟩
  ·have:t.up.dH=l+1:=by show t.dH+1=l+1;omega
   rw [this];exact .inl hj
  ·exact D.jn u q
theorem Dn.next (D:Dn n T ts R a b (l+1)) (hno:∀ t∈ts,t.wd=false->t.dH=l->¬ ((t.x:Int)∈R l a/\(t.y:Int)∉R l a)/\¬ ((t.x:Int)∉R l a/\(t.y:Int)∈R l a)):Dn n T ts R a b l:=by
 have L:=D.lv
 have hl:l<=T:=by have:=D.hk;omega
 refine ⟨L,D.ha,D.hb,by omega,D.ap,λi hi=>D.s2 i (by omega),λt ht=>?_⟩
 obtain ⟨h1,h2,h3⟩:=L.lt t ht
 rcases D.jn t ht with j|⟨j1,j2⟩
 ·exact .inl j
 ·by_cases c:t.dH=l
  ·cases hw:t.wd with
   | true =>
    have E:Ed n (R t.dH) t.x t.y:=(L.ed _ h3 _ _).mpr ⟨t,ht,hw,ax _,.inl rfl⟩
    exact .inl (iK (Ed.at (L.wd _ h3) E (by omega) ((L.wd _ h3).me _ (by omega)))).2
   | false =>
    have q:=hno t ht hw c
    have W:=L.wd l hl
    have ap:∀ z:Int,z∈R l a->z∉R l b:=λz q1 q2=>D.apart hl (by rw [W.same D.ha D.hb q1 q2];exact W.me b D.hb)
    rw [c] at j2
    rcases j2 with ⟨p1,p2⟩|⟨p1,p2⟩
    ·exact absurd ⟨p1,λp=>ap _ p p2⟩ q.1
    ·exact absurd ⟨λp=>ap _ p p1,p2⟩ q.2
  ·exact .inr ⟨by omega,j2⟩
theorem Lv.adopt (L:Lv n T ts R) (ht:t∈ts) (hw:t.wd=false) (hap:∀ i,i<=t.dH->(t.y:Int)∉R i t.x) (hs:∀ i,i<=t.dH->((R i t.x).length+(R i t.y).length+2)*2^i<=2*n):Lv n T (jP ts t.key Ti.zy) (Ol R t.dH t.x t.y):=by
 obtain ⟨h1,h2,h3⟩:=L.lt t ht
 have hxn:t.x<n:=by omega
 have mm:=oN (f:=Ti.zy) L.nd ht
 have kk:∀ u,u∈ts->u≠t->u.key≠t.key:=λu hu hne q=>hne (tQ L.nd hu ht q)
 have lo:∀ i,i<=t.dH->Ol R t.dH t.x t.y i=lk (R i) t.x t.y:=λi hi=>if_pos hi
 have hi':∀ i,¬ i<=t.dH->Ol R t.dH t.x t.y i=R i:=λi hi=>if_neg hi
 refine ⟨λi hi=>?_,λi hi u v=>?_,λi hi x hx'=>?_,λu hu=>?_,?_⟩
 ·by_cases c:i<=t.dH
  ·rw [lo i c];exact (L.wd i hi).lk hxn h2 (hap i c)
  ·rw [hi' i c];exact L.wd i hi
 ·have:(∃ s∈jP ts t.key Ti.zy,s.wd=true/\i<=s.dH/\s.Is u v)↔(∃ s∈ts,s.wd=true/\i<=s.dH/\s.Is u v)\/(i<=t.dH/\t.Is u v):=by
   constructor
   ·rintro ⟨s,s1,s2⟩
    rcases (mm s).mp s1 with rfl|⟨q1,q2⟩
    ·exact .inr ⟨s2.2.1,s2.2.2⟩
    ·exact .inl ⟨s,q1,s2⟩
   ·rintro (⟨s,s1,s2,s3⟩|⟨q1,q2⟩)
    ·exact ⟨s,(mm _).mpr (.inr ⟨s1,kk s s1 λq=>by rw [q,hw] at s2;exact absurd s2 (by decide)⟩),s2,s3⟩
    ·exact ⟨t.zy,(mm _).mpr (.inl rfl),rfl,q1,q2⟩
  rw [this,← L.ed i hi]
  by_cases c:i<=t.dH
  ·rw [lo i c,(L.wd i hi).WT hxn h2 (hap i c)]
   exact or_congr_right ⟨λq=>⟨c,q⟩,λq=>q.2⟩
  ·rw [hi' i c]
   exact ⟨.inl,λq=>q.elim id λq=>absurd q.1 c⟩
 ·by_cases c:i<=t.dH
  ·rw [lo i c]
   by_cases d:(x:Int)∈R i t.x\/(x:Int)∈R i t.y
   ·rw [((L.wd i hi).Jz hxn h2 (hap i c) d).2];exact hs i c
   ·rw [(L.wd i hi).WN hxn h2 (hap i c) (λq=>d (.inl q)) (λq=>d (.inr q))];exact L.sz _ hi x hx'
  ·rw [hi' i c];exact L.sz i hi x hx'
 ·rcases (mm u).mp hu with rfl|⟨q,_⟩
  ·exact ⟨h1,h2,h3⟩
  ·exact L.lt u q
 ·exact (mE (f:=Ti.zy) (λ_=>rfl) t.key).symm▸L.nd
theorem Lv.NV (L:Lv n T ts R) (ht:t∈ts) (hap:∀ i,i<=t.dH->(t.y:Int)∉R i t.x) {i x:Nat}(hi:i<=T) (hx:x<n):∀ c∈R i x,c∈Ol R t.dH t.x t.y i x:=by
 obtain ⟨h1,h2,h3⟩:=L.lt t ht
 by_cases c:i<=t.dH
 ·have e:Ol R t.dH t.x t.y i=lk (R i) t.x t.y:=if_pos c
  rw [e];exact (L.wd i hi).ZC (by omega) h2 (hap i c) hx
 ·have e:Ol R t.dH t.x t.y i=R i:=if_neg c
  rw [e];exact λ_ h=>h
theorem Dn.adopt (D:Dn n T ts R a b (l+1)) (ht:t∈ts) (hw:t.wd=false) (hl:t.dH=l) (h:(t.x:Int)∈R l a/\(t.y:Int)∉R l a\/(t.x:Int)∉R l a/\(t.y:Int)∈R l a) :
  (∀ i,i<=t.dH->(t.y:Int)∉R i t.x)/\Lv n T (jP ts t.key Ti.zy) (Ol R t.dH t.x t.y)/\Jn (jP ts t.key Ti.zy) (Ol R t.dH t.x t.y):=by
 have L:=D.lv
 obtain ⟨h1,h2,h3⟩:=L.lt t ht
 have hxn:t.x<n:=by omega
 have W:=L.wd t.dH h3
 have j:(t.x:Int)∈R t.dH a/\(t.y:Int)∈R t.dH b\/(t.x:Int)∈R t.dH b/\(t.y:Int)∈R t.dH a:=by
  rcases D.jn t ht with j|j
  ·rw [← hl] at h
   rcases h with ⟨p1,p2⟩|⟨p1,p2⟩
   ·exact absurd (by rw [W.eq D.ha hxn p1];exact j) p2
   ·exact absurd (by rw [W.eq D.ha h2 p2];exact W.sy hxn h2 j) p1
  ·exact j.2
 -- at each lower level the one end is on the one side,the other on the other
 have j':∀ i,i<=t.dH->(R i t.x=R i a/\R i t.y=R i b)\/(R i t.x=R i b/\R i t.y=R i a):=λi hi=>by
  have V:=L.wd i (by omega)
  rcases j with ⟨p1,p2⟩|⟨p1,p2⟩
  ·exact .inl ⟨(V.eq D.ha hxn (L.mono hi h3 D.ha _ p1)).symm,(V.eq D.hb h2 (L.mono hi h3 D.hb _ p2)).symm⟩
  ·exact .inr ⟨(V.eq D.hb hxn (L.mono hi h3 D.hb _ p1)).symm,(V.eq D.ha h2 (L.mono hi h3 D.ha _ p2)).symm⟩
 have hap:∀ i,i<=t.dH->(t.y:Int)∉R i t.x:=λi hi q=>by
  have V:=L.wd i (by omega)
  have e:=V.eq hxn h2 q
  have n:=D.apart (i:=i) (by omega)
  rcases j' i hi with ⟨p1,p2⟩|⟨p1,p2⟩
  ·exact n (by rw [← p1,e,p2];exact V.me b D.hb)
  ·exact n (by rw [← p2,← e,p1];exact V.me b D.hb)
 have L':=L.adopt ht hw hap λi hi=>by
  have:=D.s2 i (by omega)
  rcases j' i hi with ⟨p1,p2⟩|⟨p1,p2⟩
  ·rw [p1,p2];exact this
  ·rw [p1,p2,Ud (R i b).length];exact this
 refine ⟨hap,L',λu hu=>?_⟩
 have lo:∀ i,i<=t.dH->∀ z:Nat,(z:Int)∈R i t.x\/(z:Int)∈R i t.y->∀ c,c∈Ol R t.dH t.x t.y i z↔c∈R i t.x\/c∈R i t.y:=λi hi z hz=>by
  have:Ol R t.dH t.x t.y i=lk (R i) t.x t.y:=if_pos hi
  rw [this]
  exact ((L.wd i (by omega)).Jz hxn h2 (hap i hi) hz).1
 rcases (oN (f:=Ti.zy) L.nd ht u).mp hu with rfl|⟨q,_⟩
 ·exact (lo t.dH (ax _) t.x (.inl (W.me _ hxn)) _).mpr (.inr (W.me _ h2))
 ·obtain ⟨u1,u2,u3⟩:=L.lt u q
  rcases D.jn u q with j|⟨k1,k2⟩
  ·exact L.NV ht hap u3 (by omega) _ j
  ·have V:=L.wd _ u3
   have c:u.dH<=t.dH:=by omega
   rcases j' _ c with ⟨p1,p2⟩|⟨p1,p2⟩<;>rcases k2 with ⟨k3,k4⟩|⟨k3,k4⟩<;>rw [← p1] at *<;>rw [← p2] at *
   ·exact (lo _ c _ (.inl k3) _).mpr (.inr k4)
   ·exact (lo _ c _ (.inr k3) _).mpr (.inl k4)
   ·exact (lo _ c _ (.inr k3) _).mpr (.inl k4)
   ·exact (lo _ c _ (.inl k3) _).mpr (.inr k4)
theorem Lv.acP (L:Lv n T ts R) (J:Jn ts R) (ht:t∈ts) (hw:t.wd=false):Lv n T (ts.filter λu=>decide (u.key≠t.key)) R/\Jn (ts.filter λu=>decide (u.key≠t.key)) R:=by
 have mm:∀ u,u∈ts.filter (λu=>decide (u.key≠t.key))↔u∈ts/\u≠t:=λu=>by
  rw [fb,decide_eq_true_iff]
  exact and_congr_right λhu=>not_congr ⟨λq=>tQ L.nd hu ht q,λq=>q▸rfl⟩
 refine ⟨⟨L.wd,λi hi u v=>?_,L.sz,λu hu=>L.lt u ((mm u).mp hu).1,(zF _ oG).nodup L.nd⟩,λu hu=>J u ((mm u).mp hu).1⟩
 rw [L.ed i hi]
 constructor
 ·rintro ⟨s,s1,s2,s3⟩
  exact ⟨s,(mm s).mpr ⟨s1,λq=>by rw [q,hw] at s2;exact absurd s2 (by decide)⟩,s2,s3⟩
 ·rintro ⟨s,s1,s2⟩
  exact ⟨s,((mm s).mp s1).1,s2⟩
theorem Lv.put (L:Lv n T ts R) {x y:Nat}(hxy:x<y) (hy:y<n) (hk:((x:Int),(y:Int))∉ts.map Ti.key):Lv n T (ts++[⟨x,y,0,false⟩]) R:=by
 refine ⟨L.wd,λi hi u v=>?_,L.sz,λu hu=>?_,?_⟩
 ·rw [L.ed i hi]
  constructor
  ·rintro ⟨s,s1,s2⟩
   exact ⟨s,dh _ s1,s2⟩
  ·rintro ⟨s,s1,s2,s3⟩
   rcases a7.mp s1 with q|q
   ·exact ⟨s,q,s2,s3⟩
   ·rw [aF.mp q] at s2;exact absurd s2 bM
 ·rcases a7.mp hu with q|q
  ·exact L.lt u q
  ·rw [aF.mp q];exact ⟨hxy,hy,bG _⟩
 ·rw [br,iW]
  exact ⟨L.nd,by simp,λp hp q hq e=>hk (by rw [C2,aF] at hq;have e2:p=((x:Int),(y:Int)):=e.trans hq;rw [← e2];exact hp)⟩
theorem Lv.start (n T:Nat) (hn:2^(T+1)<=n\/T=0):Lv n T [] (λ_ i=>[(i:Int)]) :=
 ⟨λi _=>Wd.start n,λi _ u v=>⟨λ⟨j,_,hm⟩=>by simp [al] at hm,λ⟨t,h,_⟩=>nomatch h⟩,λi hi x hx=>by
  show 2*2^i<=2*n
  refine Nat.mul_le_mul_left 2 ?_
  rcases hn with h|h
  ·exact bE (A6 (by decide) (by omega)) h
  ·have:i=0:=by omega
   subst this
   simp;omega,(λt h=>nomatch h),zC⟩
theorem O7 {α:Type} [DecidableEq α]:∀ {l m:List α},l.Nodup->(∀ x∈l,x∈m)->l.length<=m.length
 | [],m,_,_=>bG _
 | a::l,m,hn,h=>by
  obtain ⟨h1,h2⟩:=bq.mp hn
  have hm:=h a aw
  have:=O7 (l:=l) (m:=m.erase a) h2 λx hx=>(List.mem_erase_of_ne (λe:x=a=>h1 (e▸hx))).mpr (h x (ah _ hx))
  rw [vI hm] at this
  have:=xU hm
  simp only [cG]
  omega
structure Lo1 (n T lv s o:Nat) (ts:List Ti) (R:Nat->Nat->List Int) (ps:List (Int×Int)) (i:Nat) (ts1:List Ti) (R1:Nat->Nat->List Int):Prop where
 dn:Dn n T ts1 R1 s o (lv+1)
 rl:R1 lv=R lv
 ks:ts1.map Ti.key=ts.map Ti.key
 pend:∀ t∈ts1,t.wd=true->t.dH=lv->(t.x:Int)∈R lv s->(t.y:Int)∈R lv s->t.key∈ps.drop i
 rem:∀ p∈ps.drop i,∃ t∈ts1,t.key=p/\t.wd=true/\t.dH=lv/\(t.x:Int)∈R lv s/\(t.y:Int)∈R lv s
 all:∀ p∈ps,∃ t∈ts1,t.key=p/\t.wd=true
variable {s o lv i:Nat}{ps:List (Int×Int)}{p:Int×Int}{ts1:List Ti}{R1:Nat->Nat->List Int}
theorem Lo1.step (L:Lo1 n T lv s o ts R ps i ts1 R1) (hT:∀ j,2^(j+1)<=n->j<=T) (hs:((R lv s).length+1)*2^(lv+1)<=2*n) (hn:ps.Nodup) (hi:ps[i]?=some p) :
  ∃ t∈ts1,t.key=p/\t.wd=true/\t.dH+1<=T/\(t.y:Int)∉R1 (t.dH+1) t.x/\Lo1 n T lv s o ts R ps (i+1) (jP ts1 t.key Ti.up) (upR R1 (t.dH+1) t.x t.y):=by
 obtain ⟨hlt,he⟩:=aC.mp hi
 have ed:ps.drop i=p::ps.drop (i+1):=by rw [oq hlt,he]
 have hpn:p∉ps.drop (i+1):=by
  have:=(Y9 i ps).nodup hn
  rw [ed] at this
  exact (bq.mp this).1
 obtain ⟨t,t1,t2,t3,t4,t5,t6⟩:=L.rem p (by rw [ed];exact aw)
 have hnd:=L.dn.lv.nd
 have q:=L.dn.acL hT (by rw [L.rl];exact hs) t1 t3 t4 (by rw [L.rl];exact t5) (by rw [L.rl];exact t6)
 have mm:=oN (f:=Ti.up) hnd t1
 rw [← t4] at q
 refine ⟨t,t1,t2,t3,q.1,q.2.1,by rw [t4] at q ⊢;exact q.2.2,?_,?_,λu hu h1 h2 h3 h4=>?_,λp' hp'=>?_,λp' hp'=>?_⟩
 ·show (if _ then _ else _)=_
  rw [if_neg (by omega)];exact L.rl
 ·rw [mE (f:=Ti.up) (λ_=>rfl)];exact L.ks
 ·rcases (mm u).mp hu with rfl|⟨h5,h6⟩
  ·exact absurd h2 (by show ¬ t.dH+1=lv;omega)
  ·have:=L.pend u h5 h1 h2 h3 h4
   rw [ed] at this
   exact (ay.mp this).resolve_left λe=>h6 (e.trans t2.symm)
 ·obtain ⟨u,u1,u2,u3⟩:=L.rem p' (by rw [ed];exact ah _ hp')
  exact ⟨u,(mm u).mpr (.inr ⟨u1,λe=>hpn (by rw [← t2,← e,u2];exact hp')⟩),u2,u3⟩
 ·obtain ⟨u,u1,u2,u3⟩:=L.all p' hp'
  by_cases c:u.key=t.key
  ·exact ⟨t.up,(mm _).mpr (.inl rfl),by rw [← u2,c];rfl,t3⟩
  ·exact ⟨u,(mm u).mpr (.inr ⟨u1,c⟩),u2,u3⟩
structure Ts (n T lv s o:Nat) (ts:List Ti) (R:Nat->Nat->List Int) (ps:List (Int×Int)) (i:Nat) (ts1:List Ti):Prop where
 dn:Dn n T ts1 R s o (lv+1)
 ks:ts1.map Ti.key=ts.map Ti.key
 full:lv+1<=T->∀ x y,x<n->y<n->(x:Int)∈R lv s->(y:Int)∈R lv s->(y:Int)∈R (lv+1) x
 rem:∀ p∈ps.drop i,∃ t∈ts1,t.key=p/\t.wd=false/\t.dH=lv
 done:∀ t∈ts1,t.wd=false->t.dH=lv->t.key∈ps.drop i\/((t.x:Int)∉R lv s/\(t.y:Int)∉R lv s)
theorem Ts.at (L:Ts n T lv s o ts R ps i ts1) (hn:ps.Nodup) (hi:ps[i]?=some p):∃ t∈ts1,t.key=p/\t.wd=false/\t.dH=lv/\ps.drop i=p::ps.drop (i+1)/\p∉ps.drop (i+1):=by
 obtain ⟨hlt,he⟩:=aC.mp hi
 have ed:ps.drop i=p::ps.drop (i+1):=by rw [oq hlt,he]
 obtain ⟨t,t1,t2,t3,t4⟩:=L.rem p (by rw [ed];exact aw)
 refine ⟨t,t1,t2,t3,t4,ed,?_⟩
 have:=(Y9 i ps).nodup hn
 rw [ed] at this
 exact (bq.mp this).1
theorem Ts.zero (L:Ts n T lv s o ts R ps i ts1) (hn:ps.Nodup) (hi:ps[i]?=some p) (h1:p.1∉R lv s) (h2:p.2∉R lv s):Ts n T lv s o ts R ps (i+1) ts1:=by
 obtain ⟨t,t1,t2,t3,t4,ed,hp⟩:=L.at hn hi
 refine ⟨L.dn,L.ks,L.full,λq hq=>L.rem q (by rw [ed];exact ah _ hq),λu u1 u2 u3=>?_⟩
 rcases L.done u u1 u2 u3 with h|h
 ·rw [ed] at h
  rcases ay.mp h with e|h
  ·have e1:(u.x:Int)=p.1:=by rw [← e];rfl
   have e2:(u.y:Int)=p.2:=by rw [← e];rfl
   exact .inr (by rw [e1,e2];exact ⟨h1,h2⟩)
  ·exact .inl h
 ·exact .inr h
theorem Ts.two (L:Ts n T lv s o ts R ps i ts1) (hT:∀ j,2^(j+1)<=n->j<=T) (hs:((R lv s).length+1)*2^(lv+1)<=2*n) (hn:ps.Nodup) (hi:ps[i]?=some p) (h1:p.1∈R lv s) (h2:p.2∈R lv s):∃ t∈ts1,t.key=p/\t.wd=false/\Ts n T lv s o ts R ps (i+1) (jP ts1 t.key Ti.up):=by
 obtain ⟨t,t1,t2,t3,t4,ed,hp⟩:=L.at hn hi
 subst t2
 have hl:=L.dn.lv.lt t t1
 have hT1:=L.dn.few hT hs (x:=t.x) (y:=t.y) h1 h2 (by omega)
 have mm:=oN (f:=Ti.up) L.dn.lv.nd t1
 refine ⟨t,t1,rfl,t3,L.dn.acJ t1 t3 t4 hT1 (L.full hT1 _ _ (by omega) hl.2.1 h1 h2),?_,L.full,λq hq=>?_,λu hu h3 h4=>?_⟩
 ·rw [mE (f:=Ti.up) (λ_=>rfl)];exact L.ks
 ·obtain ⟨u,u1,u2,u3⟩:=L.rem q (by rw [ed];exact ah _ hq)
  exact ⟨u,(mm u).mpr (.inr ⟨u1,λe=>hp (by rw [← e,u2];exact hq)⟩),u2,u3⟩
 ·rcases (mm u).mp hu with rfl|⟨h5,h6⟩
  ·exact absurd h4 (by show ¬ t.dH+1=lv;omega)
  ·rcases L.done u h5 h3 h4 with h|h
   ·rw [ed] at h
    exact .inl ((ay.mp h).resolve_left h6)
   ·exact .inr h
theorem Ts.one (L:Ts n T lv s o ts R ps i ts1) (hn:ps.Nodup) (hi:ps[i]?=some p) (h:p.1∈R lv s/\p.2∉R lv s\/p.1∉R lv s/\p.2∈R lv s):∃ t∈ts1,t.key=p/\(∀ i,i<=t.dH->(t.y:Int)∉R i t.x)/\Lv n T (jP ts1 t.key Ti.zy) (Ol R t.dH t.x t.y)/\Jn (jP ts1 t.key Ti.zy) (Ol R t.dH t.x t.y):=by
 obtain ⟨t,t1,t2,t3,t4,ed,hp⟩:=L.at hn hi
 subst t2
 exact ⟨t,t1,rfl,L.dn.adopt t1 t3 t4 h⟩
theorem Ts.fin (L:Ts n T lv s o ts R ps i ts1) (hi:ps.length<=i):Dn n T ts1 R s o lv:=L.dn.next λt ht h1 h2=>by
 rcases L.done t ht h1 h2 with h|⟨h3,h4⟩
 ·rw [Uv.mpr hi] at h;cases h
 ·exact ⟨λq=>h3 q.1,λq=>h4 q.2⟩
end
end Rm
namespace L2
abbrev Ln (sp:Sp) (k:Nat):Prop:=∀ vs H Q E,sp vs H Q E->vs.length=k
abbrev Rn (sp:Sp) (rd:TS) (N:List aZ):Prop:=∀ vs H Q E,sp vs H Q E->rd { nx:=λ_ H'=>Q .non H',rt:=Q } (start N vs) H
abbrev Rx (sp:Sp) (rd:XK->TS) (N:List aZ):Prop:=∀ vs H Q E,sp vs H Q E->rd E { nx:=λ_ H'=>Q .non H',rt:=Q } (start N vs) H
theorem news {H H':Hp}{q:ag}{o:HO}(e:upd H q o=H') (h:H q=none):cB H H'/\H' q=some o:=e▸⟨cB.dG h,aM⟩
theorem k9.m {j k:Nat}{A:bZ}(r:k9 k A) (h:j<=k:=by decide):k9 j A:=r.mono h
theorem lW {K:aa}{ta:TE}{f:aZ}{Z:St}{H:Hp}{Q:VK}(h:ta Z H λx H1=>∃ a C dx fs v,x=.ref a/\H1 a=some (.ins C dx fs)/\GW K C/\fi K C f/\fs.lookup f=some v/\Q v H1):eJ K ta f Z H Q:=h
theorem tR {C:ag}{m:aZ}{sp:Sp}{dvs:List V}{E:XK}{ta:TE}{t:TA}{Z:St}{H:Hp}{Q:VK}(h:ta Z H λx H1=>∃ a dx fs,x=.ref a/\H1 a=some (.ins C dx fs)/\fs.lookup m=none/\t Z H1 λvs H2=>sp (x::(vs++dvs)) H2 Q E):eO C m sp dvs E ta t Z H Q:=h
section
variable {K:aa}{mg:aZ->Option ai}{x q:aZ}{C:ag}{st:dR}{ps:List aZ}{CX:Mj}{k:Nat}{sp:Sp}
def uJ.nz (d:uJ K mg x st ps) (P:a8) (w:bT) (base:cg) (h:dg P w K mg base CX k d.f d.d ps sp):nS P w K mg base CX k x ps sp:=⟨d.f,d.d,h,d.m,d.F.kp,d.b⟩
def uJ.caln (d:uJ K mg x st ps) (P:a8) (w:bT) (base:cg) (h:Jl P w K mg base k d.f d.d ps sp):aaT P w K mg base k x ps sp:=⟨d.f,d.d,h,d.m,d.F.kp,d.b⟩
def nB.nz (d:nB K C x q st ps) (P:a8) (w:bT) (base:cg) (h:dg P w K mg base CX k d.f d.d ps sp):jq P w K mg base CX k C x ps sp:=⟨d.f,d.d,h,⟨d.a,d.i,d.F.kp⟩,d.b⟩
def nB.YM (d:nB K C "__init__" q st ps) (P:a8) (w:bT) (base:cg) (mk:oE K C=true) (kc:eh K (.ref C)=true) (h:dg P w K mg base CX k d.f d.d ps sp):O0 P w K mg base CX k C ps sp:=⟨d.f,d.d,h,⟨mk,d.a,d.i,kc⟩,d.b⟩
end
end L2
local macro_rules | `(tactic| walk_at "s")=>`(tactic| exact ⟨rfl,rfl,rfl,by decide +kernel,rfl,by decide +kernel,by decide +kernel⟩)
local macro_rules | `(tactic| walk_at "m")=>`(tactic| (walk_at "x";refine L2.tR ?_;walk_at "x"))
local macro_rules | `(tactic| walk_at "f")=>`(tactic| (walk_at "x";refine L2.lW ?_;walk_at "x"))
local macro_rules | `(tactic| walk_at "l")=>`(tactic| (intro vs H Q E h;repeat' (first|(obtain ⟨e,_⟩:=h;exact e▸rfl)|(obtain ⟨_,h⟩:=h))))
namespace K32
open PySem PySem.Spec PyProof.Rows L2
abbrev gf:List aZ:=["self","a","b"]
abbrev oH:List aZ:=["self","tie"]
abbrev pO:List aZ:=["n","a","b"]
abbrev SL:List aZ:=["_law_keeper","_law_word","_law_one","_law_other","_law_due"]
abbrev O8:List aZ:=["_law_keeper","_law_word","_law_one","_law_other"]
abbrev aaW:List aZ:=["_law_script","_law_n","_law_keeper","_law_first","_law_a","_law_b","_law_k","_law_one","_law_other","_law_before"]
abbrev yV:List aZ:=["self","tie","weight"]
abbrev qb:List aZ:=["self","n"]
abbrev He:List aZ:=["level","side","risen","found"]
abbrev Hg:List aZ:=["n","standing","a","b","tie"]
abbrev kM:List aZ:=["self","a"]
abbrev vz:List aZ:=["n","standing","a","b"]
abbrev mV:List aZ:=["n","thing"]
abbrev VN:List aZ:=["_law_keeper","_law_n","_law_one","_law_other","_law_word","_law_thing_here"]
abbrev CG:List aZ:=["_law_n","_law_thing_here"]
abbrev VO:List aZ:=["_law_keeper","_law_word","_law_one","_law_other","_law_due","_law_e"]
abbrev VP:List aZ:=["row","a","b","along","there","back","k","m","inner","outer"]
abbrev z6:List aZ:=["_law_n","_law_cell"]
abbrev VQ:List aZ:=["_law_row","_law_cell","_law_size","_law_cut","_law_turned_row"]
abbrev Rh:List aZ:=["_law_keeper","_law_n","_law_one","_law_other"]
abbrev CI:List aZ:=["self","level","tie"]
abbrev VR:List aZ:=["_law_keeper","_law_a","_law_b","_law_tie","_law_known"]
abbrev VS:List aZ:=["_law_cells","_law_cell","_law_rest","_law_thing_here"]
abbrev E5:List aZ:=["_law_script","_law_k"]
abbrev VT:List aZ:=["self","level","tie","side","risen","other","ends"]
abbrev MV:List aZ:=["self","a","b","tie","trail"]
abbrev E6:List aZ:=["ties","weight_of"]
abbrev rA:List aZ:=["thing"]
abbrev pX:List aZ:=["self"]
abbrev Ri:List aZ:=["_law_keeper","_law_a","_law_b"]
abbrev Rj:List aZ:=["a","b","level","in_wood","n"]
abbrev CJ:List aZ:=["row","a","b"]
abbrev VU:List aZ:=["self","tie","level","looking","trail"]
abbrev sV:List aZ:=["trail"]
abbrev VV:List aZ:=["row","a","b","ahead","way","place"]
abbrev z7:List aZ:=["n","ties"]
abbrev VW:List aZ:=["_law_n","_law_cell","_law_rest"]
abbrev Rk:List aZ:=["self","level","wooden"]
abbrev E7:List aZ:=["tie","side"]
abbrev VX:List aZ:=["_law_n","_law_cell","_law_way"]
abbrev VY:List aZ:=["self","level","wooden","ties"]
abbrev Ro:List aZ:=["row","other","a","b"]
abbrev yp:List aZ:=["a","b"]
abbrev Rp:List aZ:=["_law_row","_law_cell"]
abbrev VZ:List aZ:=["self","tie","level","wood"]
abbrev V0:List aZ:=["self","level","tie","wood"]
abbrev V1:List aZ:=["row","other","a","b","k"]
abbrev V2:List aZ:=["_law_thing_here","_law_e"]
abbrev Rq:List aZ:=["_law_thing_here"]
abbrev MW:List aZ:=["_law_script"]
abbrev MX:List aZ:=["self","row"]
abbrev V3:List aZ:=["self","a","b","row"]
abbrev V4:List aZ:=["n","level","needed"]
abbrev V5:List aZ:=["self","row","place"]
abbrev E8:List aZ:=["_law_k"]
abbrev V7:List aZ:=["self","tie","wood"]
abbrev V8:List aZ:=["_law_e","_law_row"]
abbrev MY:List aZ:=["row","a"]
def oI (i:Nat):dR:=PySem.Challenge.pw_tiewood_k32_refusals_of_a_keeper.main.body.getD i (.Pass ⟨0,0,0,0⟩)
abbrev Bs:dR:=oI 2
abbrev Bt:dR:=oI 3
abbrev Bu:dR:=oI 4
abbrev stop:dR:=oI 5
abbrev Kc:dR:=oI 6
abbrev Kd:dR:=oI 8
abbrev O9:dR:=oI 9
abbrev Pa:dR:=oI 10
abbrev uR:dR:=oI 22
abbrev Ke:dR:=oI 23
abbrev E9:dR:=oI 24
abbrev Kg:dR:=oI 25
abbrev Kh:dR:=oI 26
abbrev mF:dR:=oI 28
abbrev lI:dR:=oI 29
abbrev nT:dR:=oI 30
abbrev Bv:dR:=oI 33
abbrev uS:dR:=oI 34
abbrev z8:dR:=oI 37
abbrev qp:dR:=oI 38
abbrev tS:dR:=oI 43
abbrev wk:dR:=oI 44
abbrev wm:dR:=oI 45
abbrev wq:dR:=oI 47
abbrev wu:dR:=oI 48
abbrev wx:dR:=oI 49
abbrev Bw:dR:=oI 50
abbrev tT:dR:=oI 51
abbrev sr:dR:=oI 52
abbrev uT:dR:=oI 53
abbrev wy:dR:=oI 54
abbrev uU:dR:=oI 55
abbrev aaX:dR:=oI 56
abbrev su:dR:=fF (oI 31) 0
abbrev yW:dR:=fF (oI 31) 1
abbrev yX:dR:=fF (oI 31) 2
abbrev Bx:dR:=fF (oI 31) 3
abbrev rL:dR:=fF (oI 31) 4
abbrev sW:dR:=fF (oI 31) 5
abbrev yY:dR:=fF (oI 31) 6
abbrev qc:dR:=fF (oI 35) 0
abbrev wz:dR:=fF (oI 35) 1
abbrev tU:dR:=fF (oI 35) 2
abbrev uV:dR:=fF (oI 35) 3
abbrev uW:dR:=fF (oI 35) 4
abbrev qd:dR:=fF (oI 35) 5
abbrev uX:dR:=fF (oI 35) 6
abbrev mZ:dR:=fF (oI 35) 7
abbrev uY:dR:=fF (oI 35) 8
abbrev uZ:dR:=fF (oI 35) 9
abbrev oO:dR:=fF (oI 39) 0
abbrev tV:dR:=fF (oI 39) 1
abbrev xB:dR:=fF (oI 39) 2
abbrev yZ:dR:=fF (oI 39) 6
abbrev tW:dR:=fF (oI 39) 7
abbrev sX:dR:=fF (oI 41) 0
abbrev By:dR:=fF (oI 31) 7
abbrev u6:dR:=fF (oI 39) 3
abbrev Bz:dR:=fF (oI 39) 4
abbrev y0:dR:=fF (oI 39) 5
theorem Pb:bC rA rA (aU Bs):=by walk_at "s"
theorem Pc:bC rA rA (aU Bt):=by walk_at "s"
theorem Pd:bC mV mV (aU Bu):=by walk_at "s"
theorem MZ:bC V4 ["n"] (aU stop):=by walk_at "s"
theorem V9:bC yp yp (aU Kc):=by walk_at "s"
theorem Wa:bC z7 z7 (aU Kd):=by walk_at "s"
theorem Yq:bC sV sV (aU O9):=by walk_at "s"
theorem Rr:bC ["trail","finds"] sV (aU Pa):=by walk_at "s"
theorem Hh:bC ["row"] ["row"] (aU uR):=by walk_at "s"
theorem M0:bC ["row","a","k"] MY (aU Ke):=by walk_at "s"
theorem Jq:bC V1 Ro (aU E9):=by walk_at "s"
theorem qS:bC VP CJ (aU Kg):=by walk_at "s"
theorem z9:bC VV CJ (aU Kh):=by walk_at "s"
theorem sY:bC mV mV (aU mF):=by walk_at "s"
theorem sv:bC pO pO (aU lI):=by walk_at "s"
theorem uq:bC pO pO (aU nT):=by walk_at "s"
theorem Pe:bC E6 E6 (aU Bv):=by walk_at "s"
theorem Hi:bC E7 E7 (aU uS):=by walk_at "s"
theorem xC:bC Hg vz (aU z8):=by walk_at "s"
theorem oP:bC Hg vz (aU qp):=by walk_at "s"
theorem Fb:bC E5 E5 (aU tS):=by walk_at "s"
theorem Aa:bC VX z6 (aU wk):=by walk_at "s"
theorem rM:bC VQ Rp (aU wm):=by walk_at "s"
theorem Ab:bC VW z6 (aU wq):=by walk_at "s"
theorem Ki:bC CG CG (aU wu):=by walk_at "s"
theorem Ac:bC V8 ["_law_e"] (aU wx):=by walk_at "s"
theorem Pg:bC O8 O8 (aU Bw):=by walk_at "s"
theorem wA:bC VO SL (aU tT):=by walk_at "s"
theorem vA:bC V2 Rq (aU sr):=by walk_at "s"
theorem tX:bC VN Rh (aU uT):=by walk_at "s"
theorem u7:bC VR Ri (aU wy):=by walk_at "s"
theorem qq:bC VS ["_law_cells"] (aU uU):=by walk_at "s"
theorem yq:bC aaW MW (aU aaX):=by walk_at "s"
theorem C4:bC qb qb (aU su):=by walk_at "s"
theorem CK:bC V5 MX (aU yW):=by walk_at "s"
theorem M1:bC gf gf (aU yX):=by walk_at "s"
theorem Fc:bC V3 gf (aU Bx):=by walk_at "s"
theorem yr:bC gf gf (aU rL):=by walk_at "s"
theorem Ad:bC kM kM (aU sW):=by walk_at "s"
theorem M3:bC kM kM (aU yY):=by walk_at "s"
theorem Ae:bC qb qb (aU qc):=by walk_at "s"
theorem Kj:bC yV yV (aU wz):=by walk_at "s"
theorem wB:bC V7 oH (aU tU):=by walk_at "s"
theorem Hj:bC oH oH (aU uV):=by walk_at "s"
theorem tY:bC VZ oH (aU uW):=by walk_at "s"
theorem sZ:bC VY Rk (aU qd):=by walk_at "s"
theorem Hk:bC oH oH (aU uX):=by walk_at "s"
theorem qT:bC V0 CI (aU mZ):=by walk_at "s"
theorem ll:bC VT CI (aU uY):=by walk_at "s"
theorem lp:bC VU oH (aU uZ):=by walk_at "s"
theorem vB:bC qb qb (aU oO):=by walk_at "s"
theorem Fd:bC yV yV (aU tV):=by walk_at "s"
theorem qe:bC MV gf (aU xB):=by walk_at "s"
theorem M4:bC pX pX (aU yZ):=by walk_at "s"
theorem Fe:bC pX pX (aU tW):=by walk_at "s"
theorem Ag:bC gf gf (aU sX):=by walk_at "s"
theorem Ph:bC gf gf (aU By):=by walk_at "s"
theorem Hl:bC gf gf (aU u6):=by walk_at "s"
theorem Pi:bC gf gf (aU Bz):=by walk_at "s"
theorem M5:bC kM kM (aU y0):=by walk_at "s"
structure CA where
  (bh Keeper:ag)
structure EC where
  (Alike CV xi gm dI CU kQ pD rm:ag)
structure lD (K:aa) (mg:aZ->Option ai) (C:ag) (A:CA) (X:EC):Prop where
 kF:GW K C
 YJ:mg "Wood"=some (.ref C)
 xg:fi K C "n"
 qX:fi K C "rows"
 gS:GW K A.bh
 Jy:mg "Levels"=some (.ref A.bh)
 jx:fi K A.bh "level_of"
 ja:fi K A.bh "weight_of"
 kY:fi K A.bh "wooden"
 ma:fi K A.bh "woods"
 fk:GW K A.Keeper
 Co:mg "Keeper"=some (.ref A.Keeper)
 nJ:fi K A.Keeper "came"
 kP:fi K A.Keeper "levels"
 kT:fi K A.Keeper "looked"
 nA:fi K A.Keeper "lost"
 sF:fi K A.Keeper "n"
 mn:fi K A.Keeper "risen"
 nG:fi K A.Keeper "wood"
 RG:mg "Alike"=some (.ref X.Alike)
 YG:mg "Fixed"=some (.ref X.CV)
 WZ:mg "Joined"=some (.ref X.xi)
 Jx:mg "NoCount"=some (.ref X.gm)
 Jw:mg "NoPlace"=some (.ref X.dI)
 YO:mg "NoRow"=some (.ref X.CU)
 RH:mg "NoTie"=some (.ref X.kQ)
 GO:mg "TieError"=some (.ref X.pD)
 WQ:mg "Tied"=some (.ref X.rm)
 uG:zX K X.Alike
 qj:zX K X.gm
 qk:zX K X.dI
 uD:zX K X.kQ
 xK:zX K X.rm
 xo:eD K (.ref X.Alike) (.ref X.pD)=some true
 sH:eD K (.ref X.gm) (.ref X.pD)=some true
 sE:eD K (.ref X.dI) (.ref X.pD)=some true
 xl:eD K (.ref X.kQ) (.ref X.pD)=some true
 AU:eD K (.ref X.rm) (.ref X.pD)=some true
 YH:Cn K X.Alike
 Tv:Cn K X.gm
 Tr:Cn K X.dI
 YN:Cn K X.kQ
 aa8:Cn K X.rm
 jU:ar K (.ref X.Alike) (.ref X.gm)=some false
 jV:ar K (.ref X.Alike) (.ref X.dI)=some false
 ml:ar K (.ref X.Alike) (.ref X.Alike)=some true
 kO:ar K (.ref X.Alike) (.ref X.xi)=some false
 nv:ar K (.ref X.Alike) (.ref X.rm)=some false
 mv:ar K (.ref X.Alike) (.ref X.kQ)=some false
 mr:ar K (.ref X.Alike) (.ref X.CU)=some false
 mh:ar K (.ref X.Alike) (.ref X.CV)=some false
 i9:ar K (.ref X.gm) (.ref X.gm)=some true
 jb:ar K (.ref X.gm) (.ref X.dI)=some false
 j6:ar K (.ref X.gm) (.ref X.Alike)=some false
 jz:ar K (.ref X.gm) (.ref X.xi)=some false
 kZ:ar K (.ref X.gm) (.ref X.rm)=some false
 jY:ar K (.ref X.gm) (.ref X.kQ)=some false
 jW:ar K (.ref X.gm) (.ref X.CU)=some false
 j5:ar K (.ref X.gm) (.ref X.CV)=some false
 i8:ar K (.ref X.dI) (.ref X.gm)=some false
 jc:ar K (.ref X.dI) (.ref X.dI)=some true
 j0:ar K (.ref X.dI) (.ref X.Alike)=some false
 jy:ar K (.ref X.dI) (.ref X.xi)=some false
 kU:ar K (.ref X.dI) (.ref X.rm)=some false
 jX:ar K (.ref X.dI) (.ref X.kQ)=some false
 j7:ar K (.ref X.dI) (.ref X.CU)=some false
 j4:ar K (.ref X.dI) (.ref X.CV)=some false
 j8:ar K (.ref X.kQ) (.ref X.gm)=some false
 j3:ar K (.ref X.kQ) (.ref X.dI)=some false
 mi:ar K (.ref X.kQ) (.ref X.Alike)=some false
 kR:ar K (.ref X.kQ) (.ref X.xi)=some false
 nF:ar K (.ref X.kQ) (.ref X.rm)=some false
 mq:ar K (.ref X.kQ) (.ref X.kQ)=some true
 mf:ar K (.ref X.kQ) (.ref X.CU)=some false
 md:ar K (.ref X.kQ) (.ref X.CV)=some false
 kX:ar K (.ref X.rm) (.ref X.gm)=some false
 kW:ar K (.ref X.rm) (.ref X.dI)=some false
 nC:ar K (.ref X.rm) (.ref X.Alike)=some false
 mj:ar K (.ref X.rm) (.ref X.xi)=some false
 pC:ar K (.ref X.rm) (.ref X.rm)=some true
 nE:ar K (.ref X.rm) (.ref X.kQ)=some false
 nH:ar K (.ref X.rm) (.ref X.CU)=some false
 nI:ar K (.ref X.rm) (.ref X.CV)=some false
 Qy:mg "bool"=none
 Zz:mg "int"=none
 ff:mg "isinstance"=none
 GN:mg "len"=none
 QB:mg "list"=none
 ZA:mg "max"=none
 RF:mg "min"=none
 tM:mg "range"=none
 Qw:mg "reversed"=none
 ZH:mg "set"=none
 uE:mg "sorted"=none
 ZJ:mg "sum"=none
 acK:mg "zip"=none
 IF:∃ t:Tok,mg "MOST_PLACES"=some (.int 200 t)
variable {P:a8}{w:bT}{K:aa}{mg:aZ->Option ai}{base:cg}{f:ag}{fd:fo}{sp:Sp}{C:ag}{A:CA}{X:EC}
def tj (K:aa) (C:ag):TS :=
 dY (yo (v5 (Mw K) (ak (ao 0) (ak (tC (.ty "int")) (aT)))) (QO (v5 (Mw K) (ak (ao 0) (ak (tC (.ty "bool")) (aT))))))
theorem M6 (Fu:jZ K "is_whole" "is_whole" Bs f fd) (T:lD K mg C A X)
 (len:Ln (sp) 1) (run:Rn (sp) (tj K C) rA):dg P w K mg base eT 1 f fd rA sp :=
 Fu.ok Pb len λgG A0 outer s H vs Q E hr h=>⟨tj K C,
 aH (bD (vX (c6 (uj) rfl T.ff BootT.gM (af (pv 0) (af (xv rfl T.Zz BootT.int rfl) (aA)))) (Be (Uz (c6 (uj) rfl T.ff BootT.gM (af (pv 0) (af (xv rfl T.Qy BootT.bool rfl) (aA)))))))),run vs H Q E h⟩
def tm (K:aa) (C:ag) (eY:Sp):TS :=
 dY (yo (cz eY [] E0 (ak (ao 0) (aT))) (JK (vv λi j=>.bl (decide (i<=j))) (vv λi j=>.bl (decide (i<=j))) (tC (.int 1)) (ao 0) (tC (.int 200))))
theorem M7 (Fu:jZ K "is_count" "is_count" Bt f fd) (T:lD K mg C A X) {eY:Sp}(lX:nS P w K mg base eT 1 "is_whole" rA eY)
 (len:Ln (sp) 1) (run:Rn (sp) (tm K C eY) rA):dg P w K mg base eT 2 f fd rA sp :=
 Fu.ok Pc len λgG A0 outer s H vs Q E hr h=>⟨tm K C eY,
 aH (bD (vX (lC lX hr.m rfl bF (af (pv 0) (aA))) (Be (Mh (Mg) (Mg) (aN) (pv 0) (rG rfl T.IF.choose_spec ⟨_,rfl⟩))))),run vs H Q E h⟩
def tq (K:aa) (C:ag) (eY:Sp):TS :=
 dY (yo (cz eY [] E0 (ak (ao 1) (aT))) (JK (vv λi j=>.bl (decide (i<=j))) (vv λi j=>.bl (decide (i<j))) (tC (.int 0)) (ao 1) (ao 0)))
theorem M8 (Fu:jZ K "is_place" "is_place" Bu f fd) (T:lD K mg C A X) {eY:Sp}(lX:nS P w K mg base eT 1 "is_whole" rA eY)
 (len:Ln (sp) 2) (run:Rn (sp) (tq K C eY) mV):dg P w K mg base eT 2 f fd mV sp :=
 Fu.ok Pd len λgG A0 outer s H vs Q E hr h=>⟨tq K C eY,
 aH (bD (vX (lC lX hr.m rfl bF (af (pv 1) (aA))) (Be (Mh (Mg) (Cw) (aN) (pv 1) (pv 0))))),run vs H Q E h⟩
def M9 (K:aa) (C:ag):TS :=
 JH (ft (cZ (vv λi j=>.bl (decide (i<=j))) (ao 2) (ao 0)))
 (bQ (UA 1 (tC (.int 1)) (vv λi j=>.int (i+j)))
 (UA 2 (tC (.int 2)) (rI Tw λi j=>.int (i*j))))
def Kk (K:aa) (C:ag):TS :=
 bQ (gY (tC (.int 0)) (b9 1))
 (bQ (gY (tC (.int 4)) (b9 2))
 (bQ (M9 K C)
 (dY (ao 1))))
theorem aaY (Fu:jZ K "top" "top" stop f fd) (T:lD K mg C A X)
 (len:Ln (sp) 1) (run:Rn (sp) (Kk K C) V4):dg P w K mg base eT 1 f fd ["n"] sp :=
 Fu.ok MZ len λgG A0 outer s H vs Q E hr h=>⟨Kk K C,
 aB (dD (i:=1) MZ.nd rfl (Or.inl rfl) (aN))
 (aB (dD (i:=2) MZ.nd rfl (Or.inl rfl) (aN))
 (aB (Md d8 (cJ (Mg) (pv 2) (pv 0) (dB _))
 (aB (OA (i:=1) MZ.nd rfl (Or.inl rfl) (aN) XG)
 (aH (OA (i:=2) MZ.nd rfl (Or.inl rfl) (aN) XI))))
 (aH (bD (pv 1))))),run vs H Q E h⟩
def xD (K:aa) (C:ag):TS :=
 dY (tIf (ft (cZ (vv λi j=>.bl (decide (i<j))) (ao 0) (ao 1))) (sj (ak (ao 0) (ak (ao 1) (aT)))) (sj (ak (ao 1) (ak (ao 0) (aT)))))
theorem SM (Fu:jZ K "tie_of" "tie_of" Kc f fd) (T:lD K mg C A X)
 (len:Ln (sp) 2) (run:Rn (sp) (xD K C) yp):dg P w K mg base eT 1 f fd yp sp :=
 Fu.ok V9 len λgG A0 outer s H vs Q E hr h=>⟨xD K C,
 aH (bD (vY (cJ (Cw) (pv 0) (pv 1) (dB _)) (jD (af (pv 0) (af (pv 1) (aA)))) (jD (af (pv 1) (af (pv 0) (aA)))))),run vs H Q E h⟩
def xE (K:aa) (C:ag) (m5:Sp):TS :=
 dY (v5 (VE K) (ak (ow 4 [0] (uk K (ao 1)) (RZ K 4 (rn (b9 0) (rn (b9 1) (rn (b9 2) (rn (b9 3) (RY)))))) (Bk) (cZ (vv λi j=>.int (i-j)) (cz m5 [] E0 (ak (ao 4) (aT))) (ao 2))) (aT)))
theorem SN (Fu:jZ K "credit" "credit" Kd f fd) (T:lD K mg C A X) {m5:Sp}(CL:nS P w K mg base eT 1 "top" ["n"] m5)
 (len:Ln (sp) 2) (run:Rn (sp) (xE K C m5) z7):dg P w K mg base eT 2 f fd z7 sp :=
 Fu.ok Wa len λgG A0 outer s H vs Q E hr h=>⟨xE K C m5,
 aH (bD (c6 (Jo rfl) rfl T.ZJ BootT.sum (af (nR ["a","b","level","in_wood"] (ys:=["n"]) [0] rfl (lB (pv 1)) ⟨rfl,.inl rfl,rfl,trivial⟩ (λ_ _ _=>JG rfl (jl (c8 (i:=0) (show (Rj:List aZ).Nodup by decide +kernel) rfl (Or.inl rfl)) (jl (c8 (i:=1) (show (Rj:List aZ).Nodup by decide +kernel) rfl (Or.inl rfl)) (jl (c8 (i:=2) (show (Rj:List aZ).Nodup by decide +kernel) rfl (Or.inl rfl)) (jl (c8 (i:=3) (show (Rj:List aZ).Nodup by decide +kernel) rfl (Or.inl rfl)) (D0)))))) (λ_ _ _=>qO) (λ_ _ _=>cD (yK) (lC CL hr.m rfl bF (af (pv 4) (aA))) (pv 2))) (aA)))),run vs H Q E h⟩
def Ah (K:aa) (C:ag):TS :=
 dY (v5 (VE K) (ak (ow 4 [] (uk K (ao 0)) (RZ K 4 (rn (b9 0) (rn (b9 1) (rn (b9 2) (rn (b9 3) (RY)))))) (Bk) (v5 (Ha K) (ak (ao 2) (aT)))) (aT)))
theorem Wb (Fu:jZ K "rises" "rises" O9 f fd) (T:lD K mg C A X)
 (len:Ln (sp) 1) (run:Rn (sp) (Ah K C) sV):dg P w K mg base eT 1 f fd sV sp :=
 Fu.ok Yq len λgG A0 outer s H vs Q E hr h=>⟨Ah K C,
 aH (bD (c6 (Jo rfl) rfl T.ZJ BootT.sum (af (nR He (ys:=[]) [] rfl (lB (pv 0)) trivial (λ_ _ _=>JG rfl (jl (c8 (i:=0) (show (He:List aZ).Nodup by decide +kernel) rfl (Or.inl rfl)) (jl (c8 (i:=1) (show (He:List aZ).Nodup by decide +kernel) rfl (Or.inl rfl)) (jl (c8 (i:=2) (show (He:List aZ).Nodup by decide +kernel) rfl (Or.inl rfl)) (jl (c8 (i:=3) (show (He:List aZ).Nodup by decide +kernel) rfl (Or.inl rfl)) (D0)))))) (λ_ _ _=>qO) (λ_ _ _=>c6 (qa) rfl T.GN BootT.len (af (pv 2) (aA)))) (aA)))),run vs H Q E h⟩
def Ai (K:aa) (C:ag) (fu:Sp):TS :=
 bQ (gY (ow 4 [] (uk K (ao 0)) (RZ K 4 (rn (b9 0) (rn (b9 1) (rn (b9 2) (rn (b9 3) (RY)))))) (tB (Uy (ao 3))) (ao 3)) (b9 1))
 (dY (tIf (kK K (ao 1)) (cZ (hZ) (cz fu [] E0 (ak (ao 0) (aT))) (tC (.int 1))) (cz fu [] E0 (ak (ao 0) (aT)))))
theorem Wc (Fu:jZ K "looks" "looks" Pa f fd) (T:lD K mg C A X) {fu:Sp}(nU:nS P w K mg base eT 1 "rises" sV fu)
 (len:Ln (sp) 1) (run:Rn (sp) (Ai K C fu) ["trail","finds"]):dg P w K mg base eT 2 f fd sV sp :=
 Fu.ok Rr len λgG A0 outer s H vs Q E hr h=>⟨Ai K C fu,
 aB (D6 (i:=1) He (ys:=[]) [] rfl Rr.nd rfl rfl (lB (pv 0)) trivial (λ_ _ _=>JG rfl (jl (c8 (i:=0) (show (He:List aZ).Nodup by decide +kernel) rfl (Or.inl rfl)) (jl (c8 (i:=1) (show (He:List aZ).Nodup by decide +kernel) rfl (Or.inl rfl)) (jl (c8 (i:=2) (show (He:List aZ).Nodup by decide +kernel) rfl (Or.inl rfl)) (jl (c8 (i:=3) (show (He:List aZ).Nodup by decide +kernel) rfl (Or.inl rfl)) (D0)))))) (λ_ _ _=>qP (Z9 (Xy (pv 3)))) (λ_ _ _=>pv 3))
 (aH (bD (vY (fS (pv 1) (λ_=>rfl)) (cD (eE) (lC nU hr.m rfl bF (af (pv 0) (aA))) (aN)) (lC nU hr.m rfl bF (af (pv 0) (aA)))))),run vs H Q E h⟩
def oQ (K:aa) (C:ag):TS :=
 dY (Vh K (ak (ao 0) (ak (Oj (uN K) (ao 0) (pV (tC (.int 1))) (lG)) (aT))))
theorem Fg (Fu:jZ K "steps_along" "steps_along" uR f fd) (T:lD K mg C A X)
 (len:Ln (sp) 1) (run:Rn (sp) (oQ K C) ["row"]):dg P w K mg base eT 1 f fd ["row"] sp :=
 Fu.ok Hh len λgG A0 outer s H vs Q E hr h=>⟨oQ K C,
 aH (bD (Yb rfl rfl T.QB rfl T.acK (af (pv 0) (af (jm lH (pv 0) (jI (aN)) (nN)) (aA))))),run vs H Q E h⟩
def xF (K:aa) (C:ag):TS :=
 bQ (gY (IX K "list" (sU K) (ao 0) (ak (ao 1) (aT))) (b9 2))
 (dY (cZ (hZ) (Oj (uN K) (ao 0) (pV (ao 2)) (lG)) (Oj (uN K) (ao 0) (pV (tC (.int 1))) (pV (cZ (hZ) (ao 2) (tC (.int 1)))))))
theorem SQ (Fu:jZ K "turned" "turned" Ke f fd) (T:lD K mg C A X)
 (len:Ln (sp) 2) (run:Rn (sp) (xF K C) ["row","a","k"]):dg P w K mg base eT 1 f fd MY sp :=
 Fu.ok M0 len λgG A0 outer s H vs Q E hr h=>⟨xF K C,
 aB (dD (i:=2) M0.nd rfl (Or.inl rfl) (qN bY gI ke (um hr.units) (pv 0) (af (pv 1) (aA))))
 (aH (bD (cD (eE) (jm lH (pv 0) (jI (pv 2)) (nN)) (jm lH (pv 0) (jI (aN)) (jI (cD (eE) (pv 2) (aN))))))),run vs H Q E h⟩
def u9 (K:aa) (C:ag) (fZ:Sp):TS :=
 bQ (gY (IX K "list" (sU K) (ao 0) (ak (ao 2) (aT))) (b9 4))
 (dY (cZ (hZ) (cZ (hZ) (Oj (uN K) (ao 0) (lG) (pV (cZ (hZ) (ao 4) (tC (.int 1))))) (cz fZ [] E0 (ak (ao 1) (ak (ao 3) (aT))))) (Oj (uN K) (ao 0) (pV (ao 4)) (lG))))
theorem Pj (Fu:jZ K "spliced" "spliced" E9 f fd) (T:lD K mg C A X) {fZ:Sp}(qU:nS P w K mg base eT 1 "turned" MY fZ)
 (len:Ln (sp) 4) (run:Rn (sp) (u9 K C fZ) V1):dg P w K mg base eT 2 f fd Ro sp :=
 Fu.ok Jq len λgG A0 outer s H vs Q E hr h=>⟨u9 K C fZ,
 aB (dD (i:=4) Jq.nd rfl (Or.inl rfl) (qN bY gI ke (um hr.units) (pv 0) (af (pv 2) (aA))))
 (aH (bD (cD (eE) (cD (eE) (jm lH (pv 0) (nN) (jI (cD (eE) (pv 4) (aN)))) (lC qU hr.m rfl bF (af (pv 1) (af (pv 3) (aA))))) (jm lH (pv 0) (jI (pv 4)) (nN))))),run vs H Q E h⟩
def xG (K:aa) (C:ag) (cH:Sp):TS :=
 bQ (gY (cz cH [] E0 (ak (ao 0) (aT))) (b9 3))
 (bQ (gY (IX K "list" (sU K) (ao 3) (ak (sj (ak (ao 1) (ak (ao 2) (aT)))) (aT))) (b9 4))
 (bQ (gY (IX K "list" (sU K) (ao 3) (ak (sj (ak (ao 2) (ak (ao 1) (aT)))) (aT))) (b9 5))
 (bQ (gY (v5 (Mx) (ak (ao 4) (ak (ao 5) (aT)))) (b9 6))
 (bQ (gY (v5 (UY) (ak (ao 4) (ak (ao 5) (aT)))) (b9 7))
 (bQ (gY (Oj (uN K) (ao 0) (pV (cZ (hZ) (ao 6) (tC (.int 1)))) (pV (cZ (hZ) (ao 7) (tC (.int 1))))) (b9 8))
 (bQ (gY (cZ (hZ) (Oj (uN K) (ao 0) (lG) (pV (cZ (hZ) (ao 6) (tC (.int 1))))) (Oj (uN K) (ao 0) (pV (cZ (hZ) (ao 7) (tC (.int 2)))) (lG))) (b9 9))
 (dY (tIf (ft (cZ (vv λi j=>.bl (decide (i<j))) (ao 4) (ao 5))) (sj (ak (ao 9) (ak (ao 8) (aT)))) (sj (ak (ao 8) (ak (ao 9) (aT))))))))))))
theorem SR (Fu:jZ K "parted" "parted" Kg f fd) (T:lD K mg C A X) {cH:Sp}(iY:nS P w K mg base eT 1 "steps_along" ["row"] cH)
 (len:Ln (sp) 3) (run:Rn (sp) (xG K C cH) VP):dg P w K mg base eT 2 f fd CJ sp :=
 Fu.ok qS len λgG A0 outer s H vs Q E hr h=>⟨xG K C cH,
 aB (dD (i:=3) qS.nd rfl (Or.inl rfl) (lC iY hr.m rfl bF (af (pv 0) (aA))))
 (aB (dD (i:=4) qS.nd rfl (Or.inl rfl) (qN bY gI ke (um hr.units) (pv 3) (af (jD (af (pv 1) (af (pv 2) (aA)))) (aA))))
 (aB (dD (i:=5) qS.nd rfl (Or.inl rfl) (qN bY gI ke (um hr.units) (pv 3) (af (jD (af (pv 2) (af (pv 1) (aA)))) (aA))))
 (aB (dD (i:=6) qS.nd rfl (Or.inl rfl) (c6 (xy rfl) rfl T.RF BootT.min (af (pv 4) (af (pv 5) (aA)))))
 (aB (dD (i:=7) qS.nd rfl (Or.inl rfl) (c6 (IR rfl) rfl T.ZA BootT.max (af (pv 4) (af (pv 5) (aA)))))
 (aB (dD (i:=8) qS.nd rfl (Or.inl rfl) (jm lH (pv 0) (jI (cD (eE) (pv 6) (aN))) (jI (cD (eE) (pv 7) (aN)))))
 (aB (dD (i:=9) qS.nd rfl (Or.inl rfl) (cD (eE) (jm lH (pv 0) (nN) (jI (cD (eE) (pv 6) (aN)))) (jm lH (pv 0) (jI (cD (eE) (pv 7) (aN))) (nN))))
 (aH (bD (vY (cJ (Cw) (pv 4) (pv 5) (dB _)) (jD (af (pv 9) (af (pv 8) (aA)))) (jD (af (pv 8) (af (pv 9) (aA))))))))))))),run vs H Q E h⟩
def Na (K:aa) (C:ag) (fZ:Sp):TS :=
 zH (uk K (Oj (uN K) (ao 3) (lG) (pV (cZ (hZ) (IX K "list" (sU K) (ao 3) (ak (ao 2) (aT))) (tC (.int 1)))))) (b9 5)
 (gX (G6 (ft (cZ (vv λi j=>.bl (decide (j<i))) (v5 (Ha K) (ak (ao 4) (aT))) (tC (.int 1)))) (ft (cZ (mD K) (cZ (gA K) (ao 4) (tUn (rU λi=>.int (-i)) (tC (.int 2)))) (ao 5))))
 (fV (tBM0 K "list" rPop (ao 4)))
 (fV (IX K "list" nO (ao 4) (ak (ao 5) (aT)))))
def BA (K:aa) (C:ag) (fZ:Sp):TS :=
 bQ (gY (cz fZ [] E0 (ak (ao 0) (ak (ao 1) (aT)))) (b9 3))
 (bQ (gY (tP (aT)) (b9 4))
 (bQ (Na K C fZ)
 (dY (ao 4))))
theorem SS (Fu:jZ K "way_in" "way_in" Kh f fd) (T:lD K mg C A X) {fZ:Sp}(qU:nS P w K mg base eT 1 "turned" MY fZ)
 (len:Ln (sp) 3) (run:Rn (sp) (BA K C fZ) VV):dg P w K mg base eT 2 f fd CJ sp :=
 Fu.ok z9 len λgG A0 outer s H vs Q E hr h=>⟨BA K C fZ,
 aB (dD (i:=3) z9.nd rfl (Or.inl rfl) (lC qU hr.m rfl bF (af (pv 0) (af (pv 1) (aA)))))
 (aB (dD (i:=4) z9.nd rfl (Or.inl rfl) (kr (aA)))
 (aB (rh d8 rfl (lB (jm lH (pv 3) (nN) (jI (cD (eE) (qN bY gI ke (um hr.units) (pv 3) (af (pv 2) (aA))) (aN))))) (c8 (i:=5) z9.nd rfl (Or.inl rfl))
 (aH (eN (PW.pt (Bd (cJ (Zc) (c6 (qa) rfl T.GN BootT.len (af (pv 4) (aA))) (aN) (dB _)) (zG (cJ (gZ hr.units) (dU (g9 hr.units) (pv 4) (QP JJ (aN)) (λ_ _=>rfl)) (pv 5) (dB _)))))
 (aH (cR (aah bY PySem.F.slot_list_pop PySem.F.type_list_pop aai (pv 4))))
 (aH (cR (qN bY dW dX lj (pv 4) (af (pv 5) (aA))))))))
 (aH (bD (pv 4))))),run vs H Q E h⟩
def ku (K:aa) (C:ag) (eZ:Sp):TS :=
 gX (uL (kK K (cz eZ [] E0 (ak (ao 0) (ak (ao 1) (aT))))))
 (vZ)
 (eM)
theorem y3 (Fu:jZ K "refuse_no_place" "refuse_no_place" mF f fd) (T:lD K mg C A X) {eZ:Sp}(lY:nS P w K mg base eT 2 "is_place" mV eZ)
 (len:Ln (sp) 2) (run:Rn (sp) (ku K C eZ) mV):dg P w K mg base eT 3 f fd mV sp :=
 Fu.ok sY len λgG A0 outer s H vs Q E hr h=>⟨ku K C eZ,
 aH (eN (lT (fS (lC lY hr.m rfl bF (af (pv 0) (af (pv 1) (aA)))) (λ_=>rfl)))
 (aH (si))
 (cu)),run vs H Q E h⟩
def jJ (K:aa) (C:ag) (bg:Sp):TS :=
 bQ (fV (cz bg [] E0 (ak (ao 0) (ak (ao 1) (aT)))))
 (fV (cz bg [] E0 (ak (ao 0) (ak (ao 2) (aT)))))
theorem xZ (Fu:jZ K "refuse_no_places" "refuse_no_places" lI f fd) (T:lD K mg C A X) {bg:Sp}(c9:nS P w K mg base eT 3 "refuse_no_place" mV bg)
 (len:Ln (sp) 3) (run:Rn (sp) (jJ K C bg) pO):dg P w K mg base eT 4 f fd pO sp :=
 Fu.ok sv len λgG A0 outer s H vs Q E hr h=>⟨jJ K C bg,
 aB (cR (lC c9 hr.m rfl bF (af (pv 0) (af (pv 1) (aA)))))
 (aH (cR (lC c9 hr.m rfl bF (af (pv 0) (af (pv 2) (aA)))))),run vs H Q E h⟩
def lJ (K:aa) (C:ag) (b0:Sp):TS :=
 bQ (fV (cz b0 [] E0 (ak (ao 0) (ak (ao 1) (ak (ao 2) (aT))))))
 (gX (ft (cZ (mD K) (ao 1) (ao 2)))
 (vZ)
 (eM))
theorem Aj (Fu:jZ K "refuse_no_pair" "refuse_no_pair" nT f fd) (T:lD K mg C A X) {b0:Sp}(fv:nS P w K mg base eT 4 "refuse_no_places" pO b0)
 (len:Ln (sp) 3) (run:Rn (sp) (lJ K C b0) pO):dg P w K mg base eT 5 f fd pO sp :=
 Fu.ok uq len λgG A0 outer s H vs Q E hr h=>⟨lJ K C b0,
 aB (cR (lC fv hr.m rfl bF (af (pv 0) (af (pv 1) (af (pv 2) (aA))))))
 (aH (eN (cJ (gZ hr.units) (pv 1) (pv 2) (dB _))
 (aH (si))
 (cu))),run vs H Q E h⟩
def tw (K:aa) (C:ag) (Pt:ag):TS :=
 dY (O3 Pt ⟨129,28,129,61⟩ ((("in_order":aZ)++".<locals>.")++"<lambda>") 1 (ak (ao 0) (aT)))
theorem Nb (Fu:jZ K "in_order" "in_order" Bv f fd) (T:lD K mg C A X) {c Pt:ag}(hcd:fd.code=.ref c) (CH:rY base c Pt) (B:base.BuiltinsAt mg Pt)
 (len:Ln (sp) 2) (run:Rn (sp) (tw K C Pt) E6):dg P w K mg base eT 1 f fd E6 sp :=
 Fu.okC hcd Pe len λA0 outer s H vs Q E hr h=>⟨tw K C Pt,
 aH (bD (VF rfl rfl CH B hr.depth hr.WO rfl T.uE (af (pv 0) (aA)) rfl rfl)),run vs H Q E h⟩
def oR (K:aa) (C:ag):TS :=
 dY (v5 (Ha K) (ak (ow 1 [1] (uk K (ao 0)) (b9 0) (ft (cZ (EF K false) (ao 0) (ao 1))) (ao 0)) (aT)))
theorem Fh (Fu:jZ K "ends_within" "ends_within" uS f fd) (T:lD K mg C A X)
 (len:Ln (sp) 2) (run:Rn (sp) (oR K C) E7):dg P w K mg base eT 1 f fd E7 sp :=
 Fu.ok Hi len λgG A0 outer s H vs Q E hr h=>⟨oR K C,
 aH (bD (c6 (qa) rfl T.GN BootT.len (af (nR ["place"] (ys:=["side"]) [1] rfl (lB (pv 0)) ⟨rfl,.inl rfl,rfl,trivial⟩ (λ_ _ _=>c8 (i:=0) (show (["place","side"]:List aZ).Nodup by decide +kernel) rfl (Or.inl rfl)) (λ_ _ _=>qP (cJ (JT hr.units) (pv 0) (pv 1) (by with_unfolding_all rfl))) (λ_ _ _=>pv 0)) (aA)))),run vs H Q E h⟩
def vc (K:aa) (C:ag) (aQ cP:Sp):TS :=
 bQ (fV (cz aQ [] E0 (ak (ao 0) (ak (ao 2) (ak (ao 3) (aT))))))
 (bQ (gY (cz cP [] E0 (ak (ao 2) (ak (ao 3) (aT)))) (b9 4))
 (bQ (gX (ft (cZ (EF K false) (ao 4) (ao 1)))
 (vZ)
 (eM))
 (dY (ao 4))))
theorem Pk (Fu:jZ K "new_tie" "new_tie" z8 f fd) (T:lD K mg C A X) {aQ:Sp}(cS:nS P w K mg base eT 5 "refuse_no_pair" pO aQ) {cP:Sp}(jt:nS P w K mg base eT 1 "tie_of" yp cP)
 (len:Ln (sp) 4) (run:Rn (sp) (vc K C aQ cP) Hg):dg P w K mg base eT 6 f fd vz sp :=
 Fu.ok xC len λgG A0 outer s H vs Q E hr h=>⟨vc K C aQ cP,
 aB (cR (lC cS hr.m rfl bF (af (pv 0) (af (pv 2) (af (pv 3) (aA))))))
 (aB (dD (i:=4) xC.nd rfl (Or.inl rfl) (lC jt hr.m rfl bF (af (pv 2) (af (pv 3) (aA)))))
 (aB (eN (cJ (JT hr.units) (pv 4) (pv 1) (by with_unfolding_all rfl))
 (aH (si))
 (cu))
 (aH (bD (pv 4))))),run vs H Q E h⟩
def nV (K:aa) (C:ag) (aQ cP:Sp):TS :=
 bQ (fV (cz aQ [] E0 (ak (ao 0) (ak (ao 2) (ak (ao 3) (aT))))))
 (bQ (gY (cz cP [] E0 (ak (ao 2) (ak (ao 3) (aT)))) (b9 4))
 (bQ (gX (ft (cZ (EF K true) (ao 4) (ao 1)))
 (vZ)
 (eM))
 (dY (ao 4))))
theorem C5 (Fu:jZ K "standing_tie" "standing_tie" qp f fd) (T:lD K mg C A X) {aQ:Sp}(cS:nS P w K mg base eT 5 "refuse_no_pair" pO aQ) {cP:Sp}(jt:nS P w K mg base eT 1 "tie_of" yp cP)
 (len:Ln (sp) 4) (run:Rn (sp) (nV K C aQ cP) Hg):dg P w K mg base eT 6 f fd vz sp :=
 Fu.ok oP len λgG A0 outer s H vs Q E hr h=>⟨nV K C aQ cP,
 aB (cR (lC cS hr.m rfl bF (af (pv 0) (af (pv 2) (af (pv 3) (aA))))))
 (aB (dD (i:=4) oP.nd rfl (Or.inl rfl) (lC jt hr.m rfl bF (af (pv 2) (af (pv 3) (aA)))))
 (aB (eN (cJ (Bl hr.units) (pv 4) (pv 1) (by with_unfolding_all rfl))
 (aH (si))
 (cu))
 (aH (bD (pv 4))))),run vs H Q E h⟩
def nW (K:aa) (C:ag):TS :=
 bQ (gX (ft (cZ (vv λi j=>.bl (decide (i<j))) (ao 1) (v5 (Ha K) (ak (ao 0) (aT)))))
 (dY (cZ (gA K) (ao 0) (ao 1)))
 (eM))
 (dY (tC (.int 0)))
theorem C6 (Fu:jZ K "_law_cell_at" "_law_cell_at" tS f fd) (T:lD K mg C A X)
 (len:Ln (sp) 2) (run:Rn (sp) (nW K C) E5):dg P w K mg base eT 1 f fd E5 sp :=
 Fu.ok Fb len λgG A0 outer s H vs Q E hr h=>⟨nW K C,
 aB (eN (cJ (Cw) (pv 1) (c6 (qa) rfl T.GN BootT.len (af (pv 0) (aA))) (dB _))
 (aH (bD (dU (g9 hr.units) (pv 0) (pv 1) (λ_ _=>rfl))))
 (cu))
 (aH (bD (aN))),run vs H Q E h⟩
def qr (K:aa) (C:ag):TS :=
 bQ (gY (cZ (rI (λ_ j=>0<j) λi j=>.int (i%j)) (ao 1) (tC (.int 6))) (b9 2))
 (bQ (gX (ft (cZ (mD K) (ao 2) (tC (.int 1))))
 (dY (ow 1 [] (Cv (ak (cZ (vv λi j=>.int (i-j)) (ao 0) (tC (.int 1))) (aT))) (b9 0) (Bk) (sj (ak (ao 0) (ak (cZ (hZ) (ao 0) (tC (.int 1))) (aT))))))
 (eM))
 (bQ (gX (G6 (ft (cZ (mD K) (ao 2) (tC (.int 2)))) (ft (cZ (vv λi j=>.bl (decide (j<i))) (ao 0) (tC (.int 2)))))
 (dY (cZ (hZ) (ow 1 [] (Cv (ak (cZ (vv λi j=>.int (i-j)) (ao 0) (tC (.int 1))) (aT))) (b9 0) (Bk) (sj (ak (ao 0) (ak (cZ (hZ) (ao 0) (tC (.int 1))) (aT))))) (tP (ak (sj (ak (tC (.int 0)) (ak (cZ (vv λi j=>.int (i-j)) (ao 0) (tC (.int 1))) (aT)))) (aT)))))
 (eM))
 (bQ (gX (ft (cZ (mD K) (ao 2) (tC (.int 3))))
 (dY (ow 1 [0] (UB (ak (tC (.int 8)) (ak (tC (.int 64)) (aT)))) (b9 0) (ft (cZ (vv λi j=>.bl (decide (i<j))) (cZ (hZ) (cZ (rI (λ_ j=>0<j) λi j=>.int (i%j)) (ao 0) (tC (.int 8))) (cZ (rI Bh λi j=>.int (i/j)) (ao 0) (tC (.int 8)))) (v5 (Mx) (ak (ao 1) (ak (tC (.int 8)) (aT)))))) (sj (ak (cZ (rI (λ_ j=>0<j) λi j=>.int (i%j)) (ao 0) (tC (.int 8))) (ak (cZ (hZ) (cZ (rI (λ_ j=>0<j) λi j=>.int (i%j)) (ao 0) (tC (.int 8))) (cZ (rI Bh λi j=>.int (i/j)) (ao 0) (tC (.int 8)))) (aT))))))
 (eM))
 (bQ (gX (ft (cZ (mD K) (ao 2) (tC (.int 4))))
 (dY (ow 1 [0,1] (Cv (ak (ao 0) (aT))) (b9 0) (ft (cZ (Mu K) (ao 0) (cZ (rI (λ_ j=>0<j) λi j=>.int (i%j)) (cZ (rI Bh λi j=>.int (i/j)) (ao 2) (tC (.int 6))) (ao 1)))) (sj (ak (cZ (rI (λ_ j=>0<j) λi j=>.int (i%j)) (cZ (rI Bh λi j=>.int (i/j)) (ao 2) (tC (.int 6))) (ao 1)) (ak (ao 0) (aT))))))
 (eM))
 (bQ (gX (ft (cZ (mD K) (ao 2) (tC (.int 5))))
 (dY (ow 1 [0] (Cv (ak (cZ (rI Tw λi j=>.int (i*j)) (tC (.int 2)) (ao 0)) (aT))) (b9 0) (ft (cZ (vv λi j=>.bl (decide (i<j))) (cZ (hZ) (cZ (hZ) (cZ (rI Bh λi j=>.int (i/j)) (ao 0) (tC (.int 2))) (tC (.int 1))) (cZ (rI (λ_ j=>0<j) λi j=>.int (i%j)) (ao 0) (tC (.int 2)))) (ao 1))) (sj (ak (cZ (rI Bh λi j=>.int (i/j)) (ao 0) (tC (.int 2))) (ak (cZ (hZ) (cZ (hZ) (cZ (rI Bh λi j=>.int (i/j)) (ao 0) (tC (.int 2))) (tC (.int 1))) (cZ (rI (λ_ j=>0<j) λi j=>.int (i%j)) (ao 0) (tC (.int 2)))) (aT))))))
 (eM))
 (dY (tP (aT))))))))
theorem Hm (Fu:jZ K "_law_shape" "_law_shape" wk f fd) (T:lD K mg C A X)
 (len:Ln (sp) 2) (run:Rn (sp) (qr K C) VX):dg P w K mg base eT 1 f fd z6 sp :=
 Fu.ok Aa len λgG A0 outer s H vs Q E hr h=>⟨qr K C,
 aB (dD (i:=2) Aa.nd rfl (Or.inl rfl) (cD (iu) (pv 1) (aN)))
 (aB (eN (cJ (gZ hr.units) (pv 2) (aN) (dB _))
 (aH (bD (nR E8 (ys:=[]) [] rfl (sf rfl T.tM (af (cD (yK) (pv 0) (aN)) (aA))) trivial (λ_ _ _=>c8 (i:=0) (show (E8:List aZ).Nodup by decide +kernel) rfl (Or.inl rfl)) (λ_ _ _=>qO) (λ_ _ _=>jD (af (pv 0) (af (cD (eE) (pv 0) (aN)) (aA)))))))
 (cu))
 (aB (eN (PW.pt (Bd (cJ (gZ hr.units) (pv 2) (aN) (dB _)) (zG (cJ (Zc) (pv 0) (aN) (dB _)))))
 (aH (bD (cD (eE) (nR E8 (ys:=[]) [] rfl (sf rfl T.tM (af (cD (yK) (pv 0) (aN)) (aA))) trivial (λ_ _ _=>c8 (i:=0) (show (E8:List aZ).Nodup by decide +kernel) rfl (Or.inl rfl)) (λ_ _ _=>qO) (λ_ _ _=>jD (af (pv 0) (af (cD (eE) (pv 0) (aN)) (aA))))) (kr (af (jD (af (aN) (af (cD (yK) (pv 0) (aN)) (aA)))) (aA))))))
 (cu))
 (aB (eN (cJ (gZ hr.units) (pv 2) (aN) (dB _))
 (aH (bD (nR E8 (ys:=["_law_n"]) [0] rfl (R5 rfl T.tM (af (aN) (af (aN) (aA)))) ⟨rfl,.inl rfl,rfl,trivial⟩ (λ_ _ _=>c8 (i:=0) (show (["_law_k","_law_n"]:List aZ).Nodup by decide +kernel) rfl (Or.inl rfl)) (λ_ _ _=>qP (cJ (Cw) (cD (eE) (cD (iu) (pv 0) (aN)) (cD (nM) (pv 0) (aN))) (c6 (xy rfl) rfl T.RF BootT.min (af (pv 1) (af (aN) (aA)))) (dB _))) (λ_ _ _=>jD (af (cD (iu) (pv 0) (aN)) (af (cD (eE) (cD (iu) (pv 0) (aN)) (cD (nM) (pv 0) (aN))) (aA)))))))
 (cu))
 (aB (eN (cJ (gZ hr.units) (pv 2) (aN) (dB _))
 (aH (bD (nR E8 (ys:=z6) [0,1] rfl (sf rfl T.tM (af (pv 0) (aA))) ⟨rfl,.inl rfl,rfl,⟨rfl,.inl rfl,rfl,trivial⟩⟩ (λ_ _ _=>c8 (i:=0) (show (["_law_k","_law_n","_law_cell"]:List aZ).Nodup by decide +kernel) rfl (Or.inl rfl)) (λ_ _ _=>qP (cJ (JS hr.units) (pv 0) (cD (iu) (cD (nM) (pv 2) (aN)) (pv 1)) (dB _))) (λ_ _ _=>jD (af (cD (iu) (cD (nM) (pv 2) (aN)) (pv 1)) (af (pv 0) (aA)))))))
 (cu))
 (aB (eN (cJ (gZ hr.units) (pv 2) (aN) (dB _))
 (aH (bD (nR E8 (ys:=["_law_n"]) [0] rfl (sf rfl T.tM (af (cD (aad) (aN) (pv 0)) (aA))) ⟨rfl,.inl rfl,rfl,trivial⟩ (λ_ _ _=>c8 (i:=0) (show (["_law_k","_law_n"]:List aZ).Nodup by decide +kernel) rfl (Or.inl rfl)) (λ_ _ _=>qP (cJ (Cw) (cD (eE) (cD (eE) (cD (nM) (pv 0) (aN)) (aN)) (cD (iu) (pv 0) (aN))) (pv 1) (dB _))) (λ_ _ _=>jD (af (cD (nM) (pv 0) (aN)) (af (cD (eE) (cD (eE) (cD (nM) (pv 0) (aN)) (aN)) (cD (iu) (pv 0) (aN))) (aA)))))))
 (cu))
 (aH (bD (kr (aA))))))))),run vs H Q E h⟩
def qt (K:aa) (C:ag):TS :=
 bQ (gY (v5 (Ha K) (ak (ao 0) (aT))) (b9 2))
 (bQ (gX (ft (cZ (mD K) (ao 2) (tC (.int 0))))
 (dY (tP (aT)))
 (eM))
 (bQ (gY (cZ (rI (λ_ j=>0<j) λi j=>.int (i%j)) (ao 1) (ao 2)) (b9 3))
 (bQ (gY (cZ (hZ) (Oj (uN K) (ao 0) (pV (ao 3)) (lG)) (Oj (uN K) (ao 0) (lG) (pV (ao 3)))) (b9 4))
 (bQ (gX (ft (cZ (mD K) (cZ (rI (λ_ j=>0<j) λi j=>.int (i%j)) (cZ (rI Bh λi j=>.int (i/j)) (ao 1) (tC (.int 7))) (tC (.int 2))) (tC (.int 1))))
 (dY (Vn K (ak (ao 4) (aT))))
 (eM))
 (dY (ao 4))))))
theorem Hn (Fu:jZ K "_law_mixed" "_law_mixed" wm f fd) (T:lD K mg C A X)
 (len:Ln (sp) 2) (run:Rn (sp) (qt K C) VQ):dg P w K mg base eT 1 f fd Rp sp :=
 Fu.ok rM len λgG A0 outer s H vs Q E hr h=>⟨qt K C,
 aB (dD (i:=2) rM.nd rfl (Or.inl rfl) (c6 (qa) rfl T.GN BootT.len (af (pv 0) (aA))))
 (aB (eN (cJ (gZ hr.units) (pv 2) (aN) (dB _))
 (aH (bD (kr (aA))))
 (cu))
 (aB (dD (i:=3) rM.nd rfl (Or.inl rfl) (cD (iu) (pv 1) (pv 2)))
 (aB (dD (i:=4) rM.nd rfl (Or.inl rfl) (cD (eE) (jm lH (pv 0) (jI (pv 3)) (nN)) (jm lH (pv 0) (nN) (jI (pv 3)))))
 (aB (eN (cJ (gZ hr.units) (cD (iu) (cD (nM) (pv 1) (aN)) (aN)) (aN) (dB _))
 (aH (bD (Ye rfl rfl T.QB rfl T.Qw (af (pv 4) (aA)))))
 (cu))
 (aH (bD (pv 4))))))),run vs H Q E h⟩
def qu (K:aa) (C:ag):TS :=
 bQ (gY (cZ (rI Bh λi j=>.int (i/j)) (ao 1) (tC (.int 12))) (b9 2))
 (bQ (gX (ft (cZ (vv λi j=>.bl (decide (i<j))) (cZ (rI (λ_ j=>0<j) λi j=>.int (i%j)) (ao 1) (tC (.int 12))) (tC (.int 7))))
 (dY (cZ (rI (λ_ j=>0<j) λi j=>.int (i%j)) (ao 2) (ao 0)))
 (eM))
 (bQ (gX (ft (cZ (mD K) (cZ (rI (λ_ j=>0<j) λi j=>.int (i%j)) (ao 1) (tC (.int 12))) (tC (.int 7))))
 (dY (cZ (hZ) (ao 0) (cZ (gA K) (tP (ak (tC (.int 0)) (ak (cZ (rI (λ_ j=>0<j) λi j=>.int (i%j)) (ao 2) (cZ (rI UD λi j=>.int (i^j.toNat)) (tC (.int 10)) (tC (.int 30)))) (aT)))) (cZ (rI (λ_ j=>0<j) λi j=>.int (i%j)) (ao 2) (tC (.int 2))))))
 (eM))
 (bQ (gX (ft (cZ (mD K) (cZ (rI (λ_ j=>0<j) λi j=>.int (i%j)) (ao 1) (tC (.int 12))) (tC (.int 8))))
 (dY (cZ (vv λi j=>.int (i-j)) (tUn (rU λi=>.int (-i)) (tC (.int 1))) (cZ (gA K) (tP (ak (tC (.int 0)) (ak (cZ (rI (λ_ j=>0<j) λi j=>.int (i%j)) (ao 2) (cZ (rI UD λi j=>.int (i^j.toNat)) (tC (.int 10)) (tC (.int 30)))) (aT)))) (cZ (rI (λ_ j=>0<j) λi j=>.int (i%j)) (ao 2) (tC (.int 2))))))
 (eM))
 (dY (cZ (gA K) (tP (ak (cZ (mD K) (cZ (rI (λ_ j=>0<j) λi j=>.int (i%j)) (ao 2) (tC (.int 2))) (tC (.int 0))) (ak (tC .non) (ak (tC (.str "0")) (aT))))) (cZ (rI (λ_ j=>0<j) λi j=>.int (i%j)) (ao 1) (tC (.int 3))))))))
theorem Ho (Fu:jZ K "_law_thing" "_law_thing" wq f fd) (T:lD K mg C A X)
 (len:Ln (sp) 2) (run:Rn (sp) (qu K C) VW):dg P w K mg base eT 1 f fd z6 sp :=
 Fu.ok Ab len λgG A0 outer s H vs Q E hr h=>⟨qu K C,
 aB (dD (i:=2) Ab.nd rfl (Or.inl rfl) (cD (nM) (pv 1) (aN)))
 (aB (eN (cJ (Cw) (cD (iu) (pv 1) (aN)) (aN) (dB _))
 (aH (bD (cD (iu) (pv 2) (pv 0))))
 (cu))
 (aB (eN (cJ (gZ hr.units) (cD (iu) (pv 1) (aN)) (aN) (dB _))
 (aH (bD (cD (eE) (pv 0) (dU (g9 hr.units) (kr (af (aN) (af (cD (iu) (pv 2) (cD (JI) (aN) (aN))) (aA)))) (cD (iu) (pv 2) (aN)) (λ_ _=>rfl)))))
 (cu))
 (aB (eN (cJ (gZ hr.units) (cD (iu) (pv 1) (aN)) (aN) (dB _))
 (aH (bD (cD (yK) (QP JJ (aN)) (dU (g9 hr.units) (kr (af (aN) (af (cD (iu) (pv 2) (cD (JI) (aN) (aN))) (aA)))) (cD (iu) (pv 2) (aN)) (λ_ _=>rfl)))))
 (cu))
 (aH (bD (dU (g9 hr.units) (kr (af (sR (gZ hr.units) (cD (iu) (pv 2) (aN)) (aN) (dB _)) (af (JF) (af (fR) (aA))))) (cD (iu) (pv 1) (aN)) (λ_ _=>rfl))))))),run vs H Q E h⟩
def qv (K:aa) (C:ag):TS :=
 dY (yo (v5 (Mw K) (ak (ao 1) (ak (tC (.ty "int")) (aT)))) (yo (QO (v5 (Mw K) (ak (ao 1) (ak (tC (.ty "bool")) (aT))))) (yo (cZ (vv λi j=>.bl (decide (j<=i))) (ao 1) (tC (.int 0))) (cZ (vv λi j=>.bl (decide (i<j))) (ao 1) (ao 0)))))
theorem Hq (Fu:jZ K "_law_place" "_law_place" wu f fd) (T:lD K mg C A X)
 (len:Ln (sp) 2) (run:Rn (sp) (qv K C) CG):dg P w K mg base eT 1 f fd CG sp :=
 Fu.ok Ki len λgG A0 outer s H vs Q E hr h=>⟨qv K C,
 aH (bD (vX (c6 (uj) rfl T.ff BootT.gM (af (pv 1) (af (xv rfl T.Zz BootT.int rfl) (aA)))) (vX (Uz (c6 (uj) rfl T.ff BootT.gM (af (pv 1) (af (xv rfl T.Qy BootT.bool rfl) (aA))))) (vX (sR (Zd) (pv 1) (aN) (dB _)) (Be (sR (Cw) (pv 1) (pv 0) (dB _))))))),run vs H Q E h⟩
def qw (K:aa) (C:ag) (X:EC):TS :=
 bQ (gY (tP (aT)) (b9 1))
 (bQ (gX (kK K (v5 (wc K) (ak (ao 0) (ak (tC (.ref X.dI)) (aT)))))
 (fV (IX K "list" nO (ao 1) (ak (tC (.str "place")) (aT))))
 (eM))
 (bQ (gX (kK K (v5 (wc K) (ak (ao 0) (ak (tC (.ref X.Alike)) (aT)))))
 (fV (IX K "list" nO (ao 1) (ak (tC (.str "alike")) (aT))))
 (eM))
 (bQ (gX (kK K (v5 (wc K) (ak (ao 0) (ak (tC (.ref X.rm)) (aT)))))
 (fV (IX K "list" nO (ao 1) (ak (tC (.str "tied")) (aT))))
 (eM))
 (bQ (gX (kK K (v5 (wc K) (ak (ao 0) (ak (tC (.ref X.kQ)) (aT)))))
 (fV (IX K "list" nO (ao 1) (ak (tC (.str "tie")) (aT))))
 (eM))
 (bQ (gX (kK K (v5 (wc K) (ak (ao 0) (ak (tC (.ref X.gm)) (aT)))))
 (fV (IX K "list" nO (ao 1) (ak (tC (.str "count")) (aT))))
 (eM))
 (bQ (gX (tOr (kK K (v5 (wc K) (ak (ao 0) (ak (tC (.ref X.xi)) (aT))))) (tOr (kK K (v5 (wc K) (ak (ao 0) (ak (tC (.ref X.CU)) (aT))))) (kK K (v5 (wc K) (ak (ao 0) (ak (tC (.ref X.CV)) (aT)))))))
 (fV (IX K "list" nO (ao 1) (ak (tC (.str "other")) (aT))))
 (eM))
 (dY (ao 1))))))))
theorem Hr (Fu:jZ K "_law_words" "_law_words" wx f fd) (T:lD K mg C A X)
 (len:Ln (sp) 1) (run:Rn (sp) (qw K C X) V8):Jl P w K mg base 1 f fd ["_law_e"] sp :=
 Fu.okN Ac len λgG A0 outer s H vs Q E hr h=>⟨qw K C X,
 aB (dD (i:=1) Ac.nd rfl (Or.inl rfl) (kr (aA)))
 (aB (eN (fS (c6 oA rfl T.ff BootT.gM (af (pv 0) (af (rG rfl T.Jw rfl) (aA)))) (λ_=>rfl))
 (aH (cR (qN bY dW dX lj (pv 1) (af (fR) (aA)))))
 (cu))
 (aB (eN (fS (c6 oA rfl T.ff BootT.gM (af (pv 0) (af (rG rfl T.RG rfl) (aA)))) (λ_=>rfl))
 (aH (cR (qN bY dW dX lj (pv 1) (af (fR) (aA)))))
 (cu))
 (aB (eN (fS (c6 oA rfl T.ff BootT.gM (af (pv 0) (af (rG rfl T.WQ rfl) (aA)))) (λ_=>rfl))
 (aH (cR (qN bY dW dX lj (pv 1) (af (fR) (aA)))))
 (cu))
 (aB (eN (fS (c6 oA rfl T.ff BootT.gM (af (pv 0) (af (rG rfl T.RH rfl) (aA)))) (λ_=>rfl))
 (aH (cR (qN bY dW dX lj (pv 1) (af (fR) (aA)))))
 (cu))
 (aB (eN (fS (c6 oA rfl T.ff BootT.gM (af (pv 0) (af (rG rfl T.Jx rfl) (aA)))) (λ_=>rfl))
 (aH (cR (qN bY dW dX lj (pv 1) (af (fR) (aA)))))
 (cu))
 (aB (eN (PW.pt (QN (fS (c6 oA rfl T.ff BootT.gM (af (pv 0) (af (rG rfl T.WZ rfl) (aA)))) (λ_=>rfl)) (QN (fS (c6 oA rfl T.ff BootT.gM (af (pv 0) (af (rG rfl T.YO rfl) (aA)))) (λ_=>rfl)) (Oy (fS (c6 oA rfl T.ff BootT.gM (af (pv 0) (af (rG rfl T.YG rfl) (aA)))) (λ_=>rfl))))))
 (aH (cR (qN bY dW dX lj (pv 1) (af (fR) (aA)))))
 (cu))
 (aH (bD (pv 1))))))))),run vs H Q E h⟩
def tD (K:aa) (C:ag) (A:CA) (E:XK) (gO gg h9 eX ia:Sp):TS :=
 bQ (gX (ft (cZ (mD K) (ao 1) (tC (.str "put"))))
 (dY (eO A.Keeper "put" gg [] E (ao 0) (ak (ao 2) (ak (ao 3) (aT)))))
 (eM))
 (bQ (gX (ft (cZ (mD K) (ao 1) (tC (.str "out"))))
 (dY (eO A.Keeper "out" h9 [] E (ao 0) (ak (ao 2) (ak (ao 3) (aT)))))
 (eM))
 (bQ (gX (ft (cZ (mD K) (ao 1) (tC (.str "joined"))))
 (dY (eO A.Keeper "joined" eX [] E (ao 0) (ak (ao 2) (ak (ao 3) (aT)))))
 (eM))
 (bQ (gX (ft (cZ (mD K) (ao 1) (tC (.str "way"))))
 (dY (eO A.Keeper "way" ia [] E (ao 0) (ak (ao 2) (ak (ao 3) (aT)))))
 (eM))
 (dY (eO A.Keeper "side" gO [] E (ao 0) (ak (ao 2) (aT)))))))
theorem Nc (Fu:jZ K "_law_ask" "_law_ask" Bw f fd) (T:lD K mg C A X) {gO:Sp}(tZ:jq P w K mg base (sN P w) 5 A.Keeper "side" kM gO) {gg:Sp}(sx:jq P w K mg base (sN P w) 10 A.Keeper "put" gf gg) {h9:Sp}(vd:jq P w K mg base (sN P w) 10 A.Keeper "out" gf h9) {eX:Sp}(rk:jq P w K mg base (sN P w) 6 A.Keeper "joined" gf eX) {ia:Sp}(ve:jq P w K mg base (sN P w) 7 A.Keeper "way" gf ia)
 (len:Ln (sp) 4) (run:Rx (sp) (λE=>tD K C A E gO gg h9 eX ia) O8):dg P w K mg base (sN P w) 11 f fd O8 sp :=
 Fu.Qz Pg len λgG A0 outer s H vs Q E hr h=>⟨tD K C A E gO gg h9 eX ia,
 aB (eN (cJ (gZ hr.units) (pv 1) (fR) (dB _))
 (aH (bD (uo sx T.fk hr.m (pv 0) pW (af (pv 2) (af (pv 3) (aA))))))
 (cu))
 (aB (eN (cJ (gZ hr.units) (pv 1) (fR) (dB _))
 (aH (bD (uo vd T.fk hr.m (pv 0) pW (af (pv 2) (af (pv 3) (aA))))))
 (cu))
 (aB (eN (cJ (gZ hr.units) (pv 1) (fR) (dB _))
 (aH (bD (uo rk T.fk hr.m (pv 0) pW (af (pv 2) (af (pv 3) (aA))))))
 (cu))
 (aB (eN (cJ (gZ hr.units) (pv 1) (fR) (dB _))
 (aH (bD (uo ve T.fk hr.m (pv 0) pW (af (pv 2) (af (pv 3) (aA))))))
 (cu))
 (aH (bD (uo tZ T.fk hr.m (pv 0) pW (af (pv 2) (aA)))))))),run vs H Q E h⟩
def nX (K:aa) (C:ag) (A:CA) (X:EC) (ju dv:Sp):TS :=
 bQ (aaQ K ju (ak (ao 0) (ak (ao 1) (ak (ao 2) (ak (ao 3) (aT))))) (.ref X.pD) 5
 (dY (cZ (mD K) (cz dv [] E0 (ak (ao 5) (aT))) (tP (ak (ao 4) (aT))))))
 (dY (tC (.bl false)))
theorem C7 (Fu:jZ K "_law_refused" "_law_refused" tT f fd) (T:lD K mg C A X) {ju:Sp}(lZ:nS P w K mg base (sN P w) 11 "_law_ask" O8 ju) {dv:Sp}(fc:aaT P w K mg base 1 "_law_words" ["_law_e"] dv)
 (len:Ln (sp) 5) (run:Rn (sp) (nX K C A X ju dv) VO):dg P w K mg base eT 12 f fd SL sp :=
 Fu.ok wA len λgG A0 outer s H vs Q E hr h=>⟨nX K C A X ju dv,
 aB (aaR (i:=5) lZ.G hr.m rfl lZ.m lZ.kp lZ.b (af (pv 0) (af (pv 1) (af (pv 2) (af (pv 3) (aA))))) rfl ⟨rfl,rfl⟩ rfl T.GO wA.nd rfl rfl (λ_=>aH (bD (sR (gZ hr.units) (MS fc.G ((hr.n.mark _).mono (by decide)) rfl fc.m fc.kp fc.b (af (pv 5) (aA))) (kr (af (pv 4) (aA))) (dB _)))))
 (aH (bD (pU))),run vs H Q E h⟩
def mG (K:aa) (C:ag) (A:CA) (X:EC) (eS dv:Sp):TS :=
 bQ (VG K A.Keeper eS (ak (ao 0) (aT)) (.ref X.pD) 1
 (dY (cZ (mD K) (cz dv [] E0 (ak (ao 1) (aT))) (tP (ak (tC (.str "count")) (aT))))))
 (dY (tC (.bl false)))
theorem BB (Fu:jZ K "_law_no_count" "_law_no_count" sr f fd) (T:lD K mg C A X) {eS:Sp}(jv:O0 P w K mg base (sN P w) 5 A.Keeper qb eS) {dv:Sp}(fc:aaT P w K mg base 1 "_law_words" ["_law_e"] dv)
 (len:Ln (sp) 1) (run:Rn (sp) (mG K C A X eS dv) V2):dg P w K mg base eT 7 f fd Rq sp :=
 Fu.ok vA len λgG A0 outer s H vs Q E hr h=>⟨mG K C A X eS dv,
 aB (Yo (i:=1) jv.m jv.G hr.m rfl T.Co jv.b (af (pv 0) (aA)) rfl ⟨rfl,rfl⟩ rfl T.GO vA.nd rfl rfl (λ_=>aH (bD (sR (gZ hr.units) (MS fc.G ((hr.n.mark _).mono (by decide)) rfl fc.m fc.kp fc.b (af (pv 1) (aA))) (kr (af (fR) (aA))) (dB _)))))
 (aH (bD (pU))),run vs H Q E h⟩
def ur (K:aa) (C:ag) (A:CA) (aR bB:Sp):TS :=
 zH (uk K (tP (ak (tC (.str "put")) (ak (tC (.str "out")) (ak (tC (.str "joined")) (ak (tC (.str "way")) (aT))))))) (b9 4)
 (gX (uL (kK K (cz aR [] E0 (ak (ao 0) (ak (ao 4) (ak (ao 2) (ak (ao 3) (ak (tC (.str "place")) (aT)))))))))
 (dY (tC (.bl false)))
 (eM))
def uu (K:aa) (C:ag) (A:CA) (aR bB:Sp):TS :=
 zH (uk K (tP (ak (ao 2) (ak (ao 3) (aT))))) (b9 5)
 (gX (G6 (uL (kK K (cz bB [] E0 (ak (ao 1) (ak (ao 5) (aT)))))) (uL (kK K (cz aR [] E0 (ak (ao 0) (ak (tC (.str "side")) (ak (ao 5) (ak (tC (.int 0)) (ak (tC (.str "place")) (aT))))))))))
 (dY (tC (.bl false)))
 (eM))
def oS (K:aa) (C:ag) (A:CA) (aR bB:Sp):TS :=
 bQ (ur K C A aR bB)
 (bQ (uu K C A aR bB)
 (dY (tC (.bl true))))
theorem Fi (Fu:jZ K "_law_places" "_law_places" uT f fd) (T:lD K mg C A X) {aR:Sp}(cX:nS P w K mg base eT 12 "_law_refused" SL aR) {bB:Sp}(gP:nS P w K mg base eT 1 "_law_place" CG bB)
 (len:Ln (sp) 4) (run:Rn (sp) (oS K C A aR bB) VN):dg P w K mg base eT 13 f fd Rh sp :=
 Fu.ok tX len λgG A0 outer s H vs Q E hr h=>⟨oS K C A aR bB,
 aB (rh d8 rfl (lB (kr (af (fR) (af (fR) (af (fR) (af (fR) (aA))))))) (c8 (i:=4) tX.nd rfl (Or.inl rfl))
 (aH (eN (lT (fS (lC cX hr.m rfl bF (af (pv 0) (af (pv 4) (af (pv 2) (af (pv 3) (af (fR) (aA))))))) (λ_=>rfl)))
 (aH (bD (pU)))
 (cu))))
 (aB (rh d8 rfl (lB (kr (af (pv 2) (af (pv 3) (aA))))) (c8 (i:=5) tX.nd rfl (Or.inl rfl))
 (aH (eN (PW.pt (Bd (lT (fS (lC gP hr.m rfl bF (af (pv 1) (af (pv 5) (aA)))) (λ_=>rfl))) (zG (lT (fS (lC cX hr.m rfl bF (af (pv 0) (af (fR) (af (pv 5) (af (aN) (af (fR) (aA))))))) (λ_=>rfl))))))
 (aH (bD (pU)))
 (cu))))
 (aH (bD (pU)))),run vs H Q E h⟩
def qx (K:aa) (C:ag) (A:CA) (cw iZ aR bo:Sp):TS :=
 bQ (gY (sj (ak (v5 (Mx) (ak (ao 1) (ak (ao 2) (aT)))) (ak (v5 (UY) (ak (ao 1) (ak (ao 2) (aT)))) (aT)))) (b9 3))
 (bQ (gY (ow 1 [] (uk K (eO A.Keeper "ties" bo [] E0 (ao 0) aT)) (b9 0) (Bk) (sj (ak (cZ (gA K) (ao 0) (tC (.int 0))) (ak (cZ (gA K) (ao 0) (tC (.int 1))) (aT))))) (b9 4))
 (bQ (gX (ft (cZ (EF K false) (ao 3) (ao 4)))
 (bQ (gX (uL (kK K (cz aR [] E0 (ak (ao 0) (ak (tC (.str "put")) (ak (ao 1) (ak (ao 2) (ak (tC (.str "tied")) (aT)))))))))
 (dY (tC (.bl false)))
 (eM))
 (bQ (fV (eO A.Keeper "out" iZ [] E0 (ao 0) (ak (ao 2) (ak (ao 1) (aT)))))
 (dY (yo (cz aR [] E0 (ak (ao 0) (ak (tC (.str "out")) (ak (ao 1) (ak (ao 2) (ak (tC (.str "tie")) (aT))))))) (v5 (Mw K) (ak (eO A.Keeper "put" cw [] E0 (ao 0) (ak (ao 1) (ak (ao 2) (aT)))) (ak (tC (.ty "bool")) (aT))))))))
 (eM))
 (bQ (gX (uL (kK K (cz aR [] E0 (ak (ao 0) (ak (tC (.str "out")) (ak (ao 1) (ak (ao 2) (ak (tC (.str "tie")) (aT)))))))))
 (dY (tC (.bl false)))
 (eM))
 (bQ (fV (eO A.Keeper "put" cw [] E0 (ao 0) (ak (ao 2) (ak (ao 1) (aT)))))
 (dY (yo (cz aR [] E0 (ak (ao 0) (ak (tC (.str "put")) (ak (ao 1) (ak (ao 2) (ak (tC (.str "tied")) (aT))))))) (v5 (Mw K) (ak (eO A.Keeper "out" iZ [] E0 (ao 0) (ak (ao 1) (ak (ao 2) (aT)))) (ak (tC (.ty "list")) (aT))))))))))
theorem Hs (Fu:jZ K "_law_tried" "_law_tried" wy f fd) (T:lD K mg C A X) {cw:Sp}(iS:jq P w K mg base eT 10 A.Keeper "put" gf cw) {iZ:Sp}(qf:jq P w K mg base eT 10 A.Keeper "out" gf iZ) {aR:Sp}(cX:nS P w K mg base eT 12 "_law_refused" SL aR) {bo:Sp}(fw:jq P w K mg base eT 2 A.Keeper "ties" pX bo)
 (len:Ln (sp) 3) (run:Rn (sp) (qx K C A cw iZ aR bo) VR):dg P w K mg base eT 13 f fd Ri sp :=
 Fu.ok u7 len λgG A0 outer s H vs Q E hr h=>⟨qx K C A cw iZ aR bo,
 aB (dD (i:=3) u7.nd rfl (Or.inl rfl) (jD (af (c6 (xy rfl) rfl T.RF BootT.min (af (pv 1) (af (pv 2) (aA)))) (af (c6 (IR rfl) rfl T.ZA BootT.max (af (pv 1) (af (pv 2) (aA)))) (aA)))))
 (aB (D6 (i:=4) ["_law_row"] (ys:=[]) [] rfl u7.nd rfl rfl (lB (O1 fw T.fk hr.m (pv 0) bF)) trivial (λ_ _ _=>c8 (i:=0) (show (["_law_row"]:List aZ).Nodup by decide +kernel) rfl (Or.inl rfl)) (λ_ _ _=>qO) (λ_ _ _=>jD (af (dU (g9 hr.units) (pv 0) (aN) (λ_ _=>rfl)) (af (dU (g9 hr.units) (pv 0) (aN) (λ_ _=>rfl)) (aA)))))
 (aB (eN (cJ (JT hr.units) (pv 3) (pv 4) (by with_unfolding_all rfl))
 (aB (eN (lT (fS (lC cX hr.m rfl bF (af (pv 0) (af (fR) (af (pv 1) (af (pv 2) (af (fR) (aA))))))) (λ_=>rfl)))
 (aH (bD (pU)))
 (cu))
 (aB (cR (uo qf T.fk hr.m (pv 0) bF (af (pv 2) (af (pv 1) (aA)))))
 (aH (bD (vX (lC cX hr.m rfl bF (af (pv 0) (af (fR) (af (pv 1) (af (pv 2) (af (fR) (aA))))))) (Be (c6 (uj) rfl T.ff BootT.gM (af (uo iS T.fk hr.m (pv 0) bF (af (pv 1) (af (pv 2) (aA)))) (af (xv rfl T.Qy BootT.bool rfl) (aA))))))))))
 (cu))
 (aB (eN (lT (fS (lC cX hr.m rfl bF (af (pv 0) (af (fR) (af (pv 1) (af (pv 2) (af (fR) (aA))))))) (λ_=>rfl)))
 (aH (bD (pU)))
 (cu))
 (aB (cR (uo iS T.fk hr.m (pv 0) bF (af (pv 2) (af (pv 1) (aA)))))
 (aH (bD (vX (lC cX hr.m rfl bF (af (pv 0) (af (fR) (af (pv 1) (af (pv 2) (af (fR) (aA))))))) (Be (c6 (uj) rfl T.ff BootT.gM (af (uo qf T.fk hr.m (pv 0) bF (af (pv 1) (af (pv 2) (aA)))) (af (xv rfl T.QB BootT.list rfl) (aA)))))))))))),run vs H Q E h⟩
def uv (K:aa) (C:ag) (A:CA) (d9 bo bJ:Sp):TS :=
 zH (uk K (ao 0)) (b9 1)
 (bQ (gY (cZ (rI Bh λi j=>.int (i/j)) (ao 1) (tC (.int 7))) (b9 2))
 (bQ (gY (cZ (gA K) (tP (ak (tC (.int 0)) (ak (tC (.int 201)) (ak (cZ (vv λi j=>.int (i-j)) (tUn (rU λi=>.int (-i)) (tC (.int 1))) (cZ (rI (λ_ j=>0<j) λi j=>.int (i%j)) (ao 2) (cZ (rI UD λi j=>.int (i^j.toNat)) (tC (.int 10)) (tC (.int 30))))) (ak (cZ (hZ) (tC (.int 201)) (cZ (rI (λ_ j=>0<j) λi j=>.int (i%j)) (ao 2) (cZ (rI UD λi j=>.int (i^j.toNat)) (tC (.int 10)) (tC (.int 30))))) (ak (cZ (mD K) (cZ (rI (λ_ j=>0<j) λi j=>.int (i%j)) (ao 2) (tC (.int 2))) (tC (.int 0))) (ak (tC .non) (ak (tC (.str "5")) (aT))))))))) (cZ (rI (λ_ j=>0<j) λi j=>.int (i%j)) (ao 1) (tC (.int 7)))) (b9 3))
 (gX (tOr (uL (kK K (cz d9 [] E0 (ak (ao 3) (aT))))) (ft (cZ (Mu K) (eO A.Keeper "ties" bo [] E0 (Ex A.Keeper bJ [] E0 (ak (cZ (hZ) (tC (.int 1)) (cZ (rI (λ_ j=>0<j) λi j=>.int (i%j)) (ao 2) (tC (.int 200)))) (aT))) aT) (tP (aT)))))
 (dY (tC (.bl false)))
 (eM))))
def oU (K:aa) (C:ag) (A:CA) (d9 bo bJ:Sp):TS :=
 bQ (uv K C A d9 bo bJ)
 (dY (tC (.bl true)))
theorem Fj (Fu:jZ K "_law_counts" "_law_counts" uU f fd) (T:lD K mg C A X) {d9:Sp}(kN:nS P w K mg base eT 7 "_law_no_count" Rq d9) {bo:Sp}(fw:jq P w K mg base eT 2 A.Keeper "ties" pX bo) {bJ:Sp}(d7:O0 P w K mg base eT 5 A.Keeper qb bJ)
 (len:Ln (sp) 1) (run:Rn (sp) (oU K C A d9 bo bJ) VS):dg P w K mg base eT 8 f fd ["_law_cells"] sp :=
 Fu.ok qq len λgG A0 outer s H vs Q E hr h=>⟨oU K C A d9 bo bJ,
 aB (rh d8 rfl (lB (pv 0)) (c8 (i:=1) qq.nd rfl (Or.inl rfl))
 (aB (dD (i:=2) qq.nd rfl (Or.inl rfl) (cD (nM) (pv 1) (aN)))
 (aB (dD (i:=3) qq.nd rfl (Or.inl rfl) (dU (g9 hr.units) (kr (af (aN) (af (aN) (af (cD (yK) (QP JJ (aN)) (cD (iu) (pv 2) (cD (JI) (aN) (aN)))) (af (cD (eE) (aN) (cD (iu) (pv 2) (cD (JI) (aN) (aN)))) (af (sR (gZ hr.units) (cD (iu) (pv 2) (aN)) (aN) (dB _)) (af (JF) (af (fR) (aA))))))))) (cD (iu) (pv 1) (aN)) (λ_ _=>rfl)))
 (aH (eN (PW.pt (QN (lT (fS (lC kN hr.m rfl bF (af (pv 3) (aA))) (λ_=>rfl))) (Oy (cJ (JS hr.units) (O1 fw T.fk hr.m (zJ d7.m d7.G hr.m rfl T.Co d7.b .nil bF (af (cD (eE) (aN) (cD (iu) (pv 2) (aN))) (aA))) bF) (kr (aA)) (dB _)))))
 (aH (bD (pU)))
 (cu))))))
 (aH (bD (pU))),run vs H Q E h⟩
def Fk (K:aa) (C:ag) (A:CA) (bJ de eF ee eG cw dQ bo cU bB dj eI aR:Sp):TS :=
 zH (uk K (cz eF [] E0 (ak (cz eG [] E0 (ak (ao 1) (ak (ao 3) (aT)))) (ak (cZ (rI Bh λi j=>.int (i/j)) (ao 3) (tC (.int 36))) (aT))))) (RZ K 2 (rn (b9 4) (rn (b9 5) (RY))))
 (fV (eO A.Keeper "put" cw [] E0 (ao 2) (ak (ao 4) (ak (ao 5) (aT)))))
def Fn (K:aa) (C:ag) (A:CA) (bJ de eF ee eG cw dQ bo cU bB dj eI aR:Sp):TS :=
 zH (Va (ak (tC (.int 2)) (ak (v5 (Mx) (ak (cZ (vv λi j=>.int (i-j)) (v5 (Ha K) (ak (ao 0) (aT))) (tC (.int 1))) (ak (tC (.int 26)) (aT)))) (ak (tC (.int 2)) (aT))))) (b9 6)
 (bQ (gY (cz dQ [] E0 (ak (ao 1) (ak (cZ (gA K) (ao 0) (ao 6)) (aT)))) (b9 7))
 (bQ (gY (cz dQ [] E0 (ak (ao 1) (ak (cZ (gA K) (ao 0) (cZ (hZ) (ao 6) (tC (.int 1)))) (aT)))) (b9 8))
 (bQ (gY (sj (ak (eO A.Keeper "ties" bo [] E0 (ao 2) aT) (ak (eO A.Keeper "account" cU [] E0 (ao 2) aT) (aT)))) (b9 9))
 (bQ (gX (tOr (uL (kK K (cz bB [] E0 (ak (ao 1) (ak (ao 7) (aT)))))) (uL (kK K (cz bB [] E0 (ak (ao 1) (ak (ao 8) (aT)))))))
 (gX (uL (kK K (cz dj [] E0 (ak (ao 2) (ak (ao 1) (ak (ao 7) (ak (ao 8) (aT))))))))
 (dY (tC (.bl false)))
 (eM))
 (gX (ft (cZ (mD K) (ao 7) (ao 8)))
 (bQ (gX (uL (kK K (cz aR [] E0 (ak (ao 2) (ak (tC (.str "put")) (ak (ao 7) (ak (ao 7) (ak (tC (.str "alike")) (aT)))))))))
 (dY (tC (.bl false)))
 (eM))
 (gX (uL (kK K (cz aR [] E0 (ak (ao 2) (ak (tC (.str "out")) (ak (ao 7) (ak (ao 7) (ak (tC (.str "alike")) (aT)))))))))
 (dY (tC (.bl false)))
 (eM)))
 (eM)))
 (gX (G6 (kK K (cz bB [] E0 (ak (ao 1) (ak (ao 7) (aT))))) (G6 (kK K (cz bB [] E0 (ak (ao 1) (ak (ao 8) (aT))))) (ft (cZ (Mu K) (ao 7) (ao 8)))))
 (gX (uL (kK K (cz eI [] E0 (ak (ao 2) (ak (ao 7) (ak (ao 8) (aT)))))))
 (dY (tC (.bl false)))
 (eM))
 (gX (ft (cZ (Mu K) (sj (ak (eO A.Keeper "ties" bo [] E0 (ao 2) aT) (ak (eO A.Keeper "account" cU [] E0 (ao 2) aT) (aT)))) (ao 9)))
 (dY (tC (.bl false)))
 (eM)))))))
def Kl (K:aa) (C:ag) (A:CA) (bJ de eF ee eG cw dQ bo cU bB dj eI aR:Sp):TS :=
 bQ (gY (cZ (hZ) (tC (.int 1)) (cZ (rI (λ_ j=>0<j) λi j=>.int (i%j)) (cz de [] E0 (ak (ao 0) (ak (tC (.int 0)) (aT)))) (tC (.int 24)))) (b9 1))
 (bQ (gY (Ex A.Keeper bJ [] E0 (ak (ao 1) (aT))) (b9 2))
 (bQ (gY (cz de [] E0 (ak (ao 0) (ak (tC (.int 1)) (aT)))) (b9 3))
 (bQ (Fk K C A bJ de eF ee eG cw dQ bo cU bB dj eI aR)
 (bQ (Fn K C A bJ de eF ee eG cw dQ bo cU bB dj eI aR)
 (dY (cz ee [] E0 (ak (cZ (hZ) (Oj (uN K) (ao 0) (lG) (pV (tC (.int 6)))) (tP (ak (ao 3) (aT)))) (aT))))))))
theorem aaZ (Fu:jZ K "law" "law" aaX f fd) (T:lD K mg C A X) {bJ:Sp}(d7:O0 P w K mg base eT 5 A.Keeper qb bJ) {de:Sp}(jQ:nS P w K mg base eT 1 "_law_cell_at" E5 de) {eF:Sp}(oV:nS P w K mg base eT 1 "_law_mixed" Rp eF) {ee:Sp}(nj:nS P w K mg base eT 8 "_law_counts" ["_law_cells"] ee) {eG:Sp}(oW:nS P w K mg base eT 1 "_law_shape" z6 eG) {cw:Sp}(iS:jq P w K mg base eT 10 A.Keeper "put" gf cw) {dQ:Sp}(mH:nS P w K mg base eT 1 "_law_thing" z6 dQ) {bo:Sp}(fw:jq P w K mg base eT 2 A.Keeper "ties" pX bo) {cU:Sp}(jR:jq P w K mg base eT 3 A.Keeper "account" pX cU) {bB:Sp}(gP:nS P w K mg base eT 1 "_law_place" CG bB) {dj:Sp}(nq:nS P w K mg base eT 13 "_law_places" Rh dj) {eI:Sp}(oX:nS P w K mg base eT 13 "_law_tried" Ri eI) {aR:Sp}(cX:nS P w K mg base eT 12 "_law_refused" SL aR)
 (len:Ln (sp) 1) (run:Rn (sp) (Kl K C A bJ de eF ee eG cw dQ bo cU bB dj eI aR) aaW):dg P w K mg base eT 14 f fd MW sp :=
 Fu.ok yq len λgG A0 outer s H vs Q E hr h=>⟨Kl K C A bJ de eF ee eG cw dQ bo cU bB dj eI aR,
 aB (dD (i:=1) yq.nd rfl (Or.inl rfl) (cD (eE) (aN) (cD (iu) (lC jQ hr.m rfl bF (af (pv 0) (af (aN) (aA)))) (aN))))
 (aB (dD (i:=2) yq.nd rfl (Or.inl rfl) (zJ d7.m d7.G hr.m rfl T.Co d7.b .nil bF (af (pv 1) (aA))))
 (aB (dD (i:=3) yq.nd rfl (Or.inl rfl) (lC jQ hr.m rfl bF (af (pv 0) (af (aN) (aA)))))
 (aB (rh d8 rfl (lB (lC oV hr.m rfl bF (af (lC oW hr.m rfl bF (af (pv 1) (af (pv 3) (aA)))) (af (cD (nM) (pv 3) (aN)) (aA))))) (JG rfl (jl (c8 (i:=4) yq.nd rfl (Or.inl rfl)) (jl (c8 (i:=5) yq.nd rfl (Or.inl rfl)) (D0))))
 (aH (cR (uo iS T.fk hr.m (pv 2) bF (af (pv 4) (af (pv 5) (aA)))))))
 (aB (rh d8 rfl (Sm rfl T.tM (af (aN) (af (c6 (xy rfl) rfl T.RF BootT.min (af (cD (yK) (c6 (qa) rfl T.GN BootT.len (af (pv 0) (aA))) (aN)) (af (aN) (aA)))) (af (aN) (aA))))) (c8 (i:=6) yq.nd rfl (Or.inl rfl))
 (aB (dD (i:=7) yq.nd rfl (Or.inl rfl) (lC mH hr.m rfl bF (af (pv 1) (af (dU (g9 hr.units) (pv 0) (pv 6) (λ_ _=>rfl)) (aA)))))
 (aB (dD (i:=8) yq.nd rfl (Or.inl rfl) (lC mH hr.m rfl bF (af (pv 1) (af (dU (g9 hr.units) (pv 0) (cD (eE) (pv 6) (aN)) (λ_ _=>rfl)) (aA)))))
 (aB (dD (i:=9) yq.nd rfl (Or.inl rfl) (jD (af (O1 fw T.fk hr.m (pv 2) bF) (af (O1 jR T.fk hr.m (pv 2) bF) (aA)))))
 (aB (eN (PW.pt (QN (lT (fS (lC gP hr.m rfl bF (af (pv 1) (af (pv 7) (aA)))) (λ_=>rfl))) (Oy (lT (fS (lC gP hr.m rfl bF (af (pv 1) (af (pv 8) (aA)))) (λ_=>rfl))))))
 (aH (eN (lT (fS (lC nq hr.m rfl bF (af (pv 2) (af (pv 1) (af (pv 7) (af (pv 8) (aA)))))) (λ_=>rfl)))
 (aH (bD (pU)))
 (cu)))
 (aH (eN (cJ (gZ hr.units) (pv 7) (pv 8) (dB _))
 (aB (eN (lT (fS (lC cX hr.m rfl bF (af (pv 2) (af (fR) (af (pv 7) (af (pv 7) (af (fR) (aA))))))) (λ_=>rfl)))
 (aH (bD (pU)))
 (cu))
 (aH (eN (lT (fS (lC cX hr.m rfl bF (af (pv 2) (af (fR) (af (pv 7) (af (pv 7) (af (fR) (aA))))))) (λ_=>rfl)))
 (aH (bD (pU)))
 (cu))))
 (cu))))
 (aH (eN (PW.pt (Bd (fS (lC gP hr.m rfl bF (af (pv 1) (af (pv 7) (aA)))) (λ_=>rfl)) (Bd (fS (lC gP hr.m rfl bF (af (pv 1) (af (pv 8) (aA)))) (λ_=>rfl)) (zG (cJ (JS hr.units) (pv 7) (pv 8) (dB _))))))
 (aH (eN (lT (fS (lC oX hr.m rfl bF (af (pv 2) (af (pv 7) (af (pv 8) (aA))))) (λ_=>rfl)))
 (aH (bD (pU)))
 (cu)))
 (aH (eN (cJ (JS hr.units) (jD (af (O1 fw T.fk hr.m (pv 2) bF) (af (O1 jR T.fk hr.m (pv 2) bF) (aA)))) (pv 9) (dB _))
 (aH (bD (pU)))
 (cu))))))))))
 (aH (bD (lC nj hr.m rfl bF (af (cD (eE) (jm lH (pv 0) (nN) (jI (aN))) (kr (af (pv 3) (aA)))) (aA))))))))),run vs H Q E h⟩
def mI (K:aa) (C:ag):TS :=
 bQ (sL K (ao 0) (ao 1) "n")
 (sL K (ao 0) (ow 1 [] (Cv (ak (ao 1) (aT))) (b9 0) (Bk) (tP (ak (ao 0) (aT)))) "rows")
theorem BC (Fu:jZ K "__init__" "Wood.__init__" su f fd) (T:lD K mg C A X)
 (len:Ln (sp) 2) (run:Rn (sp) (mI K C) qb):dg P w K mg base eT 1 f fd qb sp :=
 Fu.ok C4 len λgG A0 outer s H vs Q E hr h=>⟨mI K C,
 aB (jO (pv 0) (pv 1) rfl)
 (aH (jO (pv 0) (nR ["place"] (ys:=[]) [] rfl (sf rfl T.tM (af (pv 1) (aA))) trivial (λ_ _ _=>c8 (i:=0) (show (["place"]:List aZ).Nodup by decide +kernel) rfl (Or.inl rfl)) (λ_ _ _=>qO) (λ_ _ _=>kr (af (pv 0) (aA)))) rfl)),run vs H Q E h⟩
def wC (K:aa) (C:ag):TS :=
 zH (uk K (ao 1)) (b9 2)
 (gY (ao 1) (Oz (eJ K (ao 0) "rows") (ao 2) EG))
def rN (K:aa) (C:ag):TS :=
 wC K C
theorem Km (Fu:jZ K "keep" "Wood.keep" yW f fd) (T:lD K mg C A X)
 (len:Ln (sp) 2) (run:Rn (sp) (rN K C) V5):dg P w K mg base eT 1 f fd MX sp :=
 Fu.ok CK len λgG A0 outer s H vs Q E hr h=>⟨rN K C,
 aH (rh d8 rfl (lB (pv 1)) (c8 (i:=2) CK.nd rfl (Or.inl rfl))
 (aH (Ep (pv 1) (Eo (bK (pv 0) rfl) (pv 2) (Mv hr.units))))),run vs H Q E h⟩
def rO (K:aa) (C:ag) (aQ cY dr kx:Sp):TS :=
 bQ (fV (cz aQ [] E0 (ak (eJ K (ao 0) "n") (ak (ao 1) (ak (ao 2) (aT))))))
 (bQ (gX (kK K (eO C "joined" cY [] E0 (ao 0) (ak (ao 1) (ak (ao 2) (aT)))))
 (vZ)
 (eM))
 (fV (eO C "keep" dr [] E0 (ao 0) (ak (cz kx [] E0 (ak (cZ (gA K) (eJ K (ao 0) "rows") (ao 1)) (ak (cZ (gA K) (eJ K (ao 0) "rows") (ao 2)) (ak (ao 1) (ak (ao 2) (aT)))))) (aT)))))
theorem Kn (Fu:jZ K "link" "Wood.link" yX f fd) (T:lD K mg C A X) {aQ:Sp}(cS:nS P w K mg base eT 5 "refuse_no_pair" pO aQ) {cY:Sp}(i0:jq P w K mg base eT 5 C "joined" gf cY) {dr:Sp}(ki:jq P w K mg base eT 1 C "keep" MX dr) {kx:Sp}(uw:nS P w K mg base eT 2 "spliced" Ro kx)
 (len:Ln (sp) 3) (run:Rn (sp) (rO K C aQ cY dr kx) gf):dg P w K mg base eT 6 f fd gf sp :=
 Fu.ok M1 len λgG A0 outer s H vs Q E hr h=>⟨rO K C aQ cY dr kx,
 aB (cR (lC cS hr.m rfl bF (af (bK (pv 0) rfl) (af (pv 1) (af (pv 2) (aA))))))
 (aB (eN (fS (uo i0 T.kF hr.m (pv 0) bF (af (pv 1) (af (pv 2) (aA)))) (λ_=>rfl))
 (aH (si))
 (cu))
 (aH (cR (uo ki T.kF hr.m (pv 0) bF (af (lC uw hr.m rfl bF (af (dU (g9 hr.units) (bK (pv 0) rfl) (pv 1) (λ_ _=>rfl)) (af (dU (g9 hr.units) (bK (pv 0) rfl) (pv 2) (λ_ _=>rfl)) (af (pv 1) (af (pv 2) (aA)))))) (aA)))))),run vs H Q E h⟩
def yt (K:aa) (C:ag) (aQ jS cH dr:Sp):TS :=
 zH (uk K (cz jS [] E0 (ak (cZ (gA K) (eJ K (ao 0) "rows") (ao 1)) (ak (ao 1) (ak (ao 2) (aT)))))) (b9 3)
 (fV (eO C "keep" dr [] E0 (ao 0) (ak (ao 3) (aT))))
def tE (K:aa) (C:ag) (aQ jS cH dr:Sp):TS :=
 bQ (fV (cz aQ [] E0 (ak (eJ K (ao 0) "n") (ak (ao 1) (ak (ao 2) (aT))))))
 (bQ (gX (ft (cZ (EF K true) (sj (ak (ao 1) (ak (ao 2) (aT)))) (cz cH [] E0 (ak (cZ (gA K) (eJ K (ao 0) "rows") (ao 1)) (aT)))))
 (vZ)
 (eM))
 (yt K C aQ jS cH dr))
theorem Nd (Fu:jZ K "cut" "Wood.cut" Bx f fd) (T:lD K mg C A X) {aQ:Sp}(cS:nS P w K mg base eT 5 "refuse_no_pair" pO aQ) {jS:Sp}(wD:nS P w K mg base eT 2 "parted" CJ jS) {cH:Sp}(iY:nS P w K mg base eT 1 "steps_along" ["row"] cH) {dr:Sp}(ki:jq P w K mg base eT 1 C "keep" MX dr)
 (len:Ln (sp) 3) (run:Rn (sp) (tE K C aQ jS cH dr) V3):dg P w K mg base eT 6 f fd gf sp :=
 Fu.ok Fc len λgG A0 outer s H vs Q E hr h=>⟨tE K C aQ jS cH dr,
 aB (cR (lC cS hr.m rfl bF (af (bK (pv 0) rfl) (af (pv 1) (af (pv 2) (aA))))))
 (aB (eN (cJ (Bl hr.units) (jD (af (pv 1) (af (pv 2) (aA)))) (lC iY hr.m rfl bF (af (dU (g9 hr.units) (bK (pv 0) rfl) (pv 1) (λ_ _=>rfl)) (aA))) (by with_unfolding_all rfl))
 (aH (si))
 (cu))
 (aH (rh d8 rfl (lB (lC wD hr.m rfl bF (af (dU (g9 hr.units) (bK (pv 0) rfl) (pv 1) (λ_ _=>rfl)) (af (pv 1) (af (pv 2) (aA)))))) (c8 (i:=3) Fc.nd rfl (Or.inl rfl))
 (aH (cR (uo ki T.kF hr.m (pv 0) bF (af (pv 3) (aA)))))))),run vs H Q E h⟩
def oY (K:aa) (C:ag) (b0:Sp):TS :=
 bQ (fV (cz b0 [] E0 (ak (eJ K (ao 0) "n") (ak (ao 1) (ak (ao 2) (aT))))))
 (dY (cZ (mD K) (cZ (gA K) (cZ (gA K) (eJ K (ao 0) "rows") (ao 1)) (tC (.int 0))) (cZ (gA K) (cZ (gA K) (eJ K (ao 0) "rows") (ao 2)) (tC (.int 0)))))
theorem Fo (Fu:jZ K "joined" "Wood.joined" rL f fd) (T:lD K mg C A X) {b0:Sp}(fv:nS P w K mg base eT 4 "refuse_no_places" pO b0)
 (len:Ln (sp) 3) (run:Rn (sp) (oY K C b0) gf):dg P w K mg base eT 5 f fd gf sp :=
 Fu.ok yr len λgG A0 outer s H vs Q E hr h=>⟨oY K C b0,
 aB (cR (lC fv hr.m rfl bF (af (bK (pv 0) rfl) (af (pv 1) (af (pv 2) (aA))))))
 (aH (bD (sR (gZ hr.units) (dU (g9 hr.units) (dU (g9 hr.units) (bK (pv 0) rfl) (pv 1) (λ_ _=>rfl)) (aN) (λ_ _=>rfl)) (dU (g9 hr.units) (dU (g9 hr.units) (bK (pv 0) rfl) (pv 2) (λ_ _=>rfl)) (aN) (λ_ _=>rfl)) (dB _)))),run vs H Q E h⟩
def qy (K:aa) (C:ag) (bg:Sp):TS :=
 bQ (fV (cz bg [] E0 (ak (eJ K (ao 0) "n") (ak (ao 1) (aT)))))
 (dY (zW K (ak (cZ (gA K) (eJ K (ao 0) "rows") (ao 1)) (aT))))
theorem Ht (Fu:jZ K "group" "Wood.group" sW f fd) (T:lD K mg C A X) {bg:Sp}(c9:nS P w K mg base eT 3 "refuse_no_place" mV bg)
 (len:Ln (sp) 2) (run:Rn (sp) (qy K C bg) kM):dg P w K mg base eT 4 f fd kM sp :=
 Fu.ok Ad len λgG A0 outer s H vs Q E hr h=>⟨qy K C bg,
 aB (cR (lC c9 hr.m rfl bF (af (bK (pv 0) rfl) (af (pv 1) (aA)))))
 (aH (bD (EW rfl rfl T.uE rfl T.ZH (af (dU (g9 hr.units) (bK (pv 0) rfl) (pv 1) (λ_ _=>rfl)) (aA))))),run vs H Q E h⟩
def rP (K:aa) (C:ag) (bg:Sp):TS :=
 bQ (fV (cz bg [] E0 (ak (eJ K (ao 0) "n") (ak (ao 1) (aT)))))
 (dY (cZ (rI Bh λi j=>.int (i/j)) (cZ (hZ) (v5 (Ha K) (ak (cZ (gA K) (eJ K (ao 0) "rows") (ao 1)) (aT))) (tC (.int 1))) (tC (.int 2))))
theorem Ko (Fu:jZ K "size" "Wood.size" yY f fd) (T:lD K mg C A X) {bg:Sp}(c9:nS P w K mg base eT 3 "refuse_no_place" mV bg)
 (len:Ln (sp) 2) (run:Rn (sp) (rP K C bg) kM):dg P w K mg base eT 4 f fd kM sp :=
 Fu.ok M3 len λgG A0 outer s H vs Q E hr h=>⟨rP K C bg,
 aB (cR (lC c9 hr.m rfl bF (af (bK (pv 0) rfl) (af (pv 1) (aA)))))
 (aH (bD (cD (nM) (cD (eE) (c6 (qa) rfl T.GN BootT.len (af (dU (g9 hr.units) (bK (pv 0) rfl) (pv 1) (λ_ _=>rfl)) (aA))) (aN)) (aN)))),run vs H Q E h⟩
def kA (K:aa) (C:ag) (A:CA) (fH m5:Sp):TS :=
 bQ (sL K (ao 0) (ED) "level_of")
 (bQ (sL K (ao 0) (ED) "wooden")
 (bQ (sL K (ao 0) (ED) "weight_of")
 (sL K (ao 0) (ow 1 [1] (Cv (ak (cZ (hZ) (cz m5 [] E0 (ak (ao 1) (aT))) (tC (.int 1))) (aT))) (b9 0) (Bk) (Ex C fH [] E0 (ak (ao 1) (aT)))) "woods")))
theorem y4 (Fu:jZ K "__init__" "Levels.__init__" qc f fd) (T:lD K mg C A X) {fH:Sp}(iL:O0 P w K mg base eT 1 C qb fH) {m5:Sp}(CL:nS P w K mg base eT 1 "top" ["n"] m5)
 (len:Ln (sp) 2) (run:Rn (sp) (kA K C A fH m5) qb):dg P w K mg base eT 3 f fd qb sp :=
 Fu.ok Ae len λgG A0 outer s H vs Q E hr h=>⟨kA K C A fH m5,
 aB (jO (pv 0) (EE) rfl)
 (aB (jO (pv 0) (EE) rfl)
 (aB (jO (pv 0) (EE) rfl)
 (aH (jO (pv 0) (nR ["level"] (ys:=["n"]) [1] rfl (sf rfl T.tM (af (cD (eE) (lC CL hr.m rfl bF (af (pv 1) (aA))) (aN)) (aA))) ⟨rfl,.inl rfl,rfl,trivial⟩ (λ_ _ _=>c8 (i:=0) (show (["level","n"]:List aZ).Nodup by decide +kernel) rfl (Or.inl rfl)) (λ_ _ _=>qO) (λ_ _ _=>zJ iL.m iL.G hr.m rfl T.YJ iL.b .nil bF (af (pv 1) (aA)))) rfl)))),run vs H Q E h⟩
def qz (K:aa) (C:ag) (A:CA) (cY cj:Sp):TS :=
 bQ (gY (tC (.int 0)) (Oz (eJ K (ao 0) "level_of") (ao 1) EG))
 (bQ (gY (tC (.bl false)) (Oz (eJ K (ao 0) "wooden") (ao 1) EG))
 (bQ (gY (ao 2) (Oz (eJ K (ao 0) "weight_of") (ao 1) EG))
 (bQ (gX (uL (kK K (eO C "joined" cY [] E0 (cZ (gA K) (eJ K (ao 0) "woods") (tC (.int 0))) (ak (cZ (gA K) (ao 1) (tC (.int 0))) (ak (cZ (gA K) (ao 1) (tC (.int 1))) (aT))))))
 (fV (eO A.bh "adopt" cj [] E0 (ao 0) (ak (ao 1) (aT))))
 (eM))
 (dY (cZ (gA K) (eJ K (ao 0) "wooden") (ao 1))))))
theorem Hu (Fu:jZ K "add" "Levels.add" wz f fd) (T:lD K mg C A X) {cY:Sp}(i0:jq P w K mg base eT 5 C "joined" gf cY) {cj:Sp}(iw:jq P w K mg base eT 7 A.bh "adopt" oH cj)
 (len:Ln (sp) 3) (run:Rn (sp) (qz K C A cY cj) yV):dg P w K mg base eT 8 f fd yV sp :=
 Fu.ok Kj len λgG A0 outer s H vs Q E hr h=>⟨qz K C A cY cj,
 aB (Ep (aN) (Eo (bK (pv 0) rfl) (pv 1) (Mv hr.units)))
 (aB (Ep (pU) (Eo (bK (pv 0) rfl) (pv 1) (Mv hr.units)))
 (aB (Ep (pv 2) (Eo (bK (pv 0) rfl) (pv 1) (Mv hr.units)))
 (aB (eN (lT (fS (uo i0 T.kF hr.m (dU (g9 hr.units) (bK (pv 0) rfl) (aN) (λ_ _=>rfl)) bF (af (dU (g9 hr.units) (pv 1) (aN) (λ_ _=>rfl)) (af (dU (g9 hr.units) (pv 1) (aN) (λ_ _=>rfl)) (aA)))) (λ_=>rfl)))
 (aH (cR (uo iw T.gS hr.m (pv 0) bF (af (pv 1) (aA)))))
 (cu))
 (aH (bD (dU (g9 hr.units) (bK (pv 0) rfl) (pv 1) (λ_ _=>rfl))))))),run vs H Q E h⟩
def oZ (K:aa) (C:ag) (A:CA) (dt:Sp):TS :=
 zH (uk K (Oj (uN K) (eJ K (ao 0) "woods") (lG) (pV (cZ (hZ) (cZ (gA K) (eJ K (ao 0) "level_of") (ao 1)) (tC (.int 1)))))) (b9 2)
 (fV (eO C "link" dt [] E0 (ao 2) (ak (cZ (gA K) (ao 1) (tC (.int 0))) (ak (cZ (gA K) (ao 1) (tC (.int 1))) (aT)))))
def nY (K:aa) (C:ag) (A:CA) (dt:Sp):TS :=
 bQ (gY (tC (.bl true)) (Oz (eJ K (ao 0) "wooden") (ao 1) EG))
 (oZ K C A dt)
theorem C8 (Fu:jZ K "adopt" "Levels.adopt" tU f fd) (T:lD K mg C A X) {dt:Sp}(kj:jq P w K mg base eT 6 C "link" gf dt)
 (len:Ln (sp) 2) (run:Rn (sp) (nY K C A dt) V7):dg P w K mg base eT 7 f fd oH sp :=
 Fu.ok wB len λgG A0 outer s H vs Q E hr h=>⟨nY K C A dt,
 aB (Ep (pU) (Eo (bK (pv 0) rfl) (pv 1) (Mv hr.units)))
 (aH (rh d8 rfl (lB (jm lH (bK (pv 0) rfl) (nN) (jI (cD (eE) (dU (g9 hr.units) (bK (pv 0) rfl) (pv 1) (λ_ _=>rfl)) (aN))))) (c8 (i:=2) wB.nd rfl (Or.inl rfl))
 (aH (cR (uo kj T.kF hr.m (pv 2) bF (af (dU (g9 hr.units) (pv 1) (aN) (λ_ _=>rfl)) (af (dU (g9 hr.units) (pv 1) (aN) (λ_ _=>rfl)) (aA)))))))),run vs H Q E h⟩
def pb (K:aa) (C:ag) (A:CA) (dt:Sp):TS :=
 bQ (Zi (eJ K (ao 0) "level_of") (ao 1) (tC (.int 1)) JL)
 (gX (kK K (cZ (gA K) (eJ K (ao 0) "wooden") (ao 1)))
 (fV (eO C "link" dt [] E0 (cZ (gA K) (eJ K (ao 0) "woods") (cZ (gA K) (eJ K (ao 0) "level_of") (ao 1))) (ak (cZ (gA K) (ao 1) (tC (.int 0))) (ak (cZ (gA K) (ao 1) (tC (.int 1))) (aT)))))
 (eM))
theorem Fp (Fu:jZ K "lift" "Levels.lift" uV f fd) (T:lD K mg C A X) {dt:Sp}(kj:jq P w K mg base eT 6 C "link" gf dt)
 (len:Ln (sp) 2) (run:Rn (sp) (pb K C A dt) oH):dg P w K mg base eT 7 f fd oH sp :=
 Fu.ok Hj len λgG A0 outer s H vs Q E hr h=>⟨pb K C A dt,
 aB (XZ (bj (Ct (by decide) _) hr.units) (bK (pv 0) rfl) (pv 1) (aN) v3 (λ_ _ _=>rfl))
 (aH (eN (fS (dU (g9 hr.units) (bK (pv 0) rfl) (pv 1) (λ_ _=>rfl)) (λ_=>rfl))
 (aH (cR (uo kj T.kF hr.m (dU (g9 hr.units) (bK (pv 0) rfl) (dU (g9 hr.units) (bK (pv 0) rfl) (pv 1) (λ_ _=>rfl)) (λ_ _=>rfl)) bF (af (dU (g9 hr.units) (pv 1) (aN) (λ_ _=>rfl)) (af (dU (g9 hr.units) (pv 1) (aN) (λ_ _=>rfl)) (aA))))))
 (cu))),run vs H Q E h⟩
def ux (K:aa) (C:ag) (A:CA) (iz:Sp):TS :=
 zH (uk K (Oj (uN K) (eJ K (ao 0) "woods") (lG) (pV (cZ (hZ) (ao 2) (tC (.int 1)))))) (b9 3)
 (fV (eO C "cut" iz [] E0 (ao 3) (ak (cZ (gA K) (ao 1) (tC (.int 0))) (ak (cZ (gA K) (ao 1) (tC (.int 1))) (aT)))))
def pd (K:aa) (C:ag) (A:CA) (iz:Sp):TS :=
 bQ (fV (IX K "dict" Q4 (eJ K (ao 0) "weight_of") (ak (ao 1) (aT))))
 (bQ (gY (IX K "dict" Q4 (eJ K (ao 0) "level_of") (ak (ao 1) (aT))) (b9 2))
 (gX (kK K (IX K "dict" Q4 (eJ K (ao 0) "wooden") (ak (ao 1) (aT))))
 (ux K C A iz)
 (eM)))
theorem Fq (Fu:jZ K "drop" "Levels.drop" uW f fd) (T:lD K mg C A X) {iz:Sp}(sA:jq P w K mg base eT 6 C "cut" gf iz)
 (len:Ln (sp) 2) (run:Rn (sp) (pd K C A iz) VZ):dg P w K mg base eT 7 f fd oH sp :=
 Fu.ok tY len λgG A0 outer s H vs Q E hr h=>⟨pd K C A iz,
 aB (cR (qN vt xt xu (J3 hr.units) (bK (pv 0) rfl) (af (pv 1) (aA))))
 (aB (dD (i:=2) tY.nd rfl (Or.inl rfl) (qN vt xt xu (J3 hr.units) (bK (pv 0) rfl) (af (pv 1) (aA))))
 (aH (eN (fS (qN vt xt xu (J3 hr.units) (bK (pv 0) rfl) (af (pv 1) (aA))) (λ_=>rfl))
 (aH (rh d8 rfl (lB (jm lH (bK (pv 0) rfl) (nN) (jI (cD (eE) (pv 2) (aN))))) (c8 (i:=3) tY.nd rfl (Or.inl rfl))
 (aH (cR (uo sA T.kF hr.m (pv 3) bF (af (dU (g9 hr.units) (pv 1) (aN) (λ_ _=>rfl)) (af (dU (g9 hr.units) (pv 1) (aN) (λ_ _=>rfl)) (aA))))))))
 (cu)))),run vs H Q E h⟩
def kB (K:aa) (C:ag) (A:CA) (jw:Sp):TS :=
 bQ (gY (ow 1 [1,0] (iDT (eJ K (ao 0) "level_of")) (b9 0) (ft (cZ (mD K) (cZ (gA K) (eJ K (ao 2) "level_of") (ao 0)) (ao 1))) (ao 0)) (b9 3))
 (dY (cz jw [] E0 (ak (ow 1 [2,0] (uk K (ao 3)) (b9 0) (ft (cZ (mD K) (cZ (gA K) (eJ K (ao 2) "wooden") (ao 0)) (ao 1))) (ao 0)) (ak (eJ K (ao 0) "weight_of") (aT)))))
theorem y6 (Fu:jZ K "at_level" "Levels.at_level" qd f fd) (T:lD K mg C A X) {jw:Sp}(sC:nS P w K mg base eT 1 "in_order" E6 jw)
 (len:Ln (sp) 3) (run:Rn (sp) (kB K C A jw) VY):dg P w K mg base eT 2 f fd Rk sp :=
 Fu.ok sZ len λgG A0 outer s H vs Q E hr h=>⟨kB K C A jw,
 aB (D6 (i:=3) ["tie"] (ys:=["level","self"]) [1,0] rfl sZ.nd rfl rfl (Zr (bK (pv 0) rfl)) ⟨rfl,.inl rfl,rfl,⟨rfl,.inl rfl,rfl,trivial⟩⟩ (λ_ _ _=>c8 (i:=0) (show (["tie","level","self"]:List aZ).Nodup by decide +kernel) rfl (Or.inl rfl)) (λ_ _ _=>qP (cJ (gZ hr.units) (dU (g9 hr.units) (bK (pv 2) rfl) (pv 0) (λ_ _=>rfl)) (pv 1) (dB _))) (λ_ _ _=>pv 0))
 (aH (bD (lC sC hr.m rfl bF (af (nR ["tie"] (ys:=["wooden","self"]) [2,0] rfl (lB (pv 3)) ⟨rfl,.inl rfl,rfl,⟨rfl,.inl rfl,rfl,trivial⟩⟩ (λ_ _ _=>c8 (i:=0) (show (["tie","wooden","self"]:List aZ).Nodup by decide +kernel) rfl (Or.inl rfl)) (λ_ _ _=>qP (cJ (gZ hr.units) (dU (g9 hr.units) (bK (pv 2) rfl) (pv 0) (λ_ _=>rfl)) (pv 1) (dB _))) (λ_ _ _=>pv 0)) (af (bK (pv 0) rfl) (aA)))))),run vs H Q E h⟩
def pe (K:aa) (C:ag) (A:CA):TS :=
 dY (sj (ak (cZ (gA K) (ao 1) (tC (.int 0))) (ak (cZ (gA K) (ao 1) (tC (.int 1))) (ak (cZ (gA K) (eJ K (ao 0) "level_of") (ao 1)) (ak (cZ (gA K) (eJ K (ao 0) "wooden") (ao 1)) (aT))))))
theorem Fs (Fu:jZ K "told" "Levels.told" uX f fd) (T:lD K mg C A X)
 (len:Ln (sp) 2) (run:Rn (sp) (pe K C A) oH):dg P w K mg base eT 1 f fd oH sp :=
 Fu.ok Hk len λgG A0 outer s H vs Q E hr h=>⟨pe K C A,
 aH (bD (jD (af (dU (g9 hr.units) (pv 1) (aN) (λ_ _=>rfl)) (af (dU (g9 hr.units) (pv 1) (aN) (λ_ _=>rfl)) (af (dU (g9 hr.units) (bK (pv 0) rfl) (pv 1) (λ_ _=>rfl)) (af (dU (g9 hr.units) (bK (pv 0) rfl) (pv 1) (λ_ _=>rfl)) (aA))))))),run vs H Q E h⟩
def jd (K:aa) (C:ag) (A:CA) (ib ic:Sp):TS :=
 bQ (gY (cZ (gA K) (eJ K (ao 0) "woods") (ao 1)) (b9 3))
 (dY (eO C "group" ib [] E0 (ao 3) (ak (tIf (ft (cZ (vv λi j=>.bl (decide (i<=j))) (eO C "size" ic [] E0 (ao 3) (ak (cZ (gA K) (ao 2) (tC (.int 0))) (aT))) (eO C "size" ic [] E0 (ao 3) (ak (cZ (gA K) (ao 2) (tC (.int 1))) (aT))))) (cZ (gA K) (ao 2) (tC (.int 0))) (cZ (gA K) (ao 2) (tC (.int 1)))) (aT))))
theorem vJ (Fu:jZ K "lesser_side" "Levels.lesser_side" mZ f fd) (T:lD K mg C A X) {ib:Sp}(pf:jq P w K mg base eT 4 C "group" kM ib) {ic:Sp}(oB:jq P w K mg base eT 4 C "size" kM ic)
 (len:Ln (sp) 3) (run:Rn (sp) (jd K C A ib ic) V0):dg P w K mg base eT 5 f fd CI sp :=
 Fu.ok qT len λgG A0 outer s H vs Q E hr h=>⟨jd K C A ib ic,
 aB (dD (i:=3) qT.nd rfl (Or.inl rfl) (dU (g9 hr.units) (bK (pv 0) rfl) (pv 1) (λ_ _=>rfl)))
 (aH (bD (uo pf T.kF hr.m (pv 3) bF (af (vY (cJ (Mg) (uo oB T.kF hr.m (pv 3) bF (af (dU (g9 hr.units) (pv 2) (aN) (λ_ _=>rfl)) (aA))) (uo oB T.kF hr.m (pv 3) bF (af (dU (g9 hr.units) (pv 2) (aN) (λ_ _=>rfl)) (aA))) (dB _)) (dU (g9 hr.units) (pv 2) (aN) (λ_ _=>rfl)) (dU (g9 hr.units) (pv 2) (aN) (λ_ _=>rfl))) (aA))))),run vs H Q E h⟩
def uz (K:aa) (C:ag) (A:CA) (cq cK dE dF cj:Sp):TS :=
 zH (uk K (ao 4)) (b9 5)
 (fV (eO A.bh "lift" dE [] E0 (ao 0) (ak (ao 5) (aT))))
def uA (K:aa) (C:ag) (A:CA) (cq cK dE dF cj:Sp):TS :=
 zH (uk K (eO A.bh "at_level" cK [] E0 (ao 0) (ak (ao 1) (ak (tC (.bl false)) (aT))))) (b9 5)
 (bQ (gY (cz dF [] E0 (ak (ao 5) (ak (ao 3) (aT)))) (b9 6))
 (bQ (gX (ft (cZ (mD K) (ao 6) (tC (.int 1))))
 (bQ (fV (eO A.bh "adopt" cj [] E0 (ao 0) (ak (ao 5) (aT))))
 (dY (sj (ak (ao 1) (ak (ao 3) (ak (v5 (wg K) (ak (ao 4) (aT))) (ak (ao 5) (aT))))))))
 (eM))
 (gX (ft (cZ (mD K) (ao 6) (tC (.int 2))))
 (bQ (fV (eO A.bh "lift" dE [] E0 (ao 0) (ak (ao 5) (aT))))
 (fV (IX K "list" nO (ao 4) (ak (ao 5) (aT)))))
 (eM))))
def ph (K:aa) (C:ag) (A:CA) (cq cK dE dF cj:Sp):TS :=
 bQ (gY (eO A.bh "lesser_side" cq [] E0 (ao 0) (ak (ao 1) (ak (ao 2) (aT)))) (b9 3))
 (bQ (gY (ow 1 [3] (uk K (eO A.bh "at_level" cK [] E0 (ao 0) (ak (ao 1) (ak (tC (.bl true)) (aT))))) (b9 0) (ft (cZ (mD K) (cz dF [] E0 (ak (ao 0) (ak (ao 1) (aT)))) (tC (.int 2)))) (ao 0)) (b9 4))
 (bQ (uz K C A cq cK dE dF cj)
 (bQ (uA K C A cq cK dE dF cj)
 (dY (sj (ak (ao 1) (ak (ao 3) (ak (v5 (wg K) (ak (ao 4) (aT))) (ak (tC .non) (aT))))))))))
theorem Ft (Fu:jZ K "look" "Levels.look" uY f fd) (T:lD K mg C A X) {cq:Sp}(iA:jq P w K mg base eT 5 A.bh "lesser_side" CI cq) {cK:Sp}(iH:jq P w K mg base eT 2 A.bh "at_level" Rk cK) {dE:Sp}(lq:jq P w K mg base eT 7 A.bh "lift" oH dE) {dF:Sp}(lu:nS P w K mg base eT 1 "ends_within" E7 dF) {cj:Sp}(iw:jq P w K mg base eT 7 A.bh "adopt" oH cj)
 (len:Ln (sp) 3) (run:Rn (sp) (ph K C A cq cK dE dF cj) VT):dg P w K mg base eT 8 f fd CI sp :=
 Fu.ok ll len λgG A0 outer s H vs Q E hr h=>⟨ph K C A cq cK dE dF cj,
 aB (dD (i:=3) ll.nd rfl (Or.inr rfl) (uo iA T.gS hr.m (pv 0) bF (af (pv 1) (af (pv 2) (aA)))))
 (aB (D6 (i:=4) ["other"] (ys:=["side"]) [3] rfl ll.nd rfl rfl (lB (uo iH T.gS hr.m (pv 0) bF (af (pv 1) (af (pU) (aA))))) ⟨rfl,.inl rfl,rfl,trivial⟩ (λ_ _ _=>c8 (i:=0) (show (["other","side"]:List aZ).Nodup by decide +kernel) rfl (Or.inl rfl)) (λ_ _ _=>qP (cJ (gZ hr.units) (lC lu hr.m rfl bF (af (pv 0) (af (pv 1) (aA)))) (aN) (dB _))) (λ_ _ _=>pv 0))
 (aB (rh d8 rfl (lB (pv 4)) (c8 (i:=5) ll.nd rfl (Or.inl rfl))
 (aH (cR (uo lq T.gS hr.m (pv 0) bF (af (pv 5) (aA))))))
 (aB (rh d8 rfl (lB (uo iH T.gS hr.m (pv 0) bF (af (pv 1) (af (pU) (aA))))) (c8 (i:=5) ll.nd rfl (Or.inl rfl))
 (aB (dD (i:=6) ll.nd rfl (Or.inl rfl) (lC lu hr.m rfl bF (af (pv 5) (af (pv 3) (aA)))))
 (aB (eN (cJ (gZ hr.units) (pv 6) (aN) (dB _))
 (aB (cR (uo iw T.gS hr.m (pv 0) bF (af (pv 5) (aA))))
 (aH (bD (jD (af (pv 1) (af (pv 3) (af (c6 (uP) rfl T.uE BootT.EI (af (pv 4) (aA))) (af (pv 5) (aA)))))))))
 (cu))
 (aH (eN (cJ (gZ hr.units) (pv 6) (aN) (dB _))
 (aB (cR (uo lq T.gS hr.m (pv 0) bF (af (pv 5) (aA))))
 (aH (cR (qN bY dW dX lj (pv 4) (af (pv 5) (aA))))))
 (cu))))))
 (aH (bD (jD (af (pv 1) (af (pv 3) (af (c6 (uP) rfl T.uE BootT.EI (af (pv 4) (aA))) (af (JF) (aA))))))))))),run vs H Q E h⟩
def uB (K:aa) (C:ag) (A:CA) (fz fA:Sp):TS :=
 JH (G6 (kK K (ao 3)) (ft (cZ (vv λi j=>.bl (decide (j<=i))) (ao 2) (tC (.int 0)))))
 (bQ (fV (IX K "list" nO (ao 4) (ak (eO A.bh "look" fA [] E0 (ao 0) (ak (ao 2) (ak (ao 1) (aT)))) (aT))))
 (bQ (gY (Z6 (cZ (gA K) (cZ (gA K) (ao 4) (tUn (rU λi=>.int (-i)) (tC (.int 1)))) (tC (.int 3)))) (b9 3))
 (UA 2 (tC (.int 1)) (vv λi j=>.int (i-j)))))
def pj (K:aa) (C:ag) (A:CA) (fz fA:Sp):TS :=
 bQ (gY (cZ (gA K) (eJ K (ao 0) "level_of") (ao 1)) (b9 2))
 (bQ (gY (cZ (gA K) (eJ K (ao 0) "wooden") (ao 1)) (b9 3))
 (bQ (fV (eO A.bh "drop" fz [] E0 (ao 0) (ak (ao 1) (aT))))
 (bQ (gY (tP (aT)) (b9 4))
 (bQ (uB K C A fz fA)
 (dY (ao 4))))))
theorem Fv (Fu:jZ K "take" "Levels.take" uZ f fd) (T:lD K mg C A X) {fz:Sp}(nr:jq P w K mg base eT 7 A.bh "drop" oH fz) {fA:Sp}(nu:jq P w K mg base eT 8 A.bh "look" CI fA)
 (len:Ln (sp) 2) (run:Rn (sp) (pj K C A fz fA) VU):dg P w K mg base eT 9 f fd oH sp :=
 Fu.ok lp len λgG A0 outer s H vs Q E hr h=>⟨pj K C A fz fA,
 aB (dD (i:=2) lp.nd rfl (Or.inl rfl) (dU (g9 hr.units) (bK (pv 0) rfl) (pv 1) (λ_ _=>rfl)))
 (aB (dD (i:=3) lp.nd rfl (Or.inl rfl) (dU (g9 hr.units) (bK (pv 0) rfl) (pv 1) (λ_ _=>rfl)))
 (aB (cR (uo nr T.gS hr.m (pv 0) bF (af (pv 1) (aA))))
 (aB (dD (i:=4) lp.nd rfl (Or.inl rfl) (kr (aA)))
 (aB (Md d8 (PW.pt (Bd (fS (pv 3) (λ_=>rfl)) (zG (cJ (Zd) (pv 2) (aN) (dB _)))))
 (aB (cR (qN bY dW dX lj (pv 4) (af (uo nu T.gS hr.m (pv 0) bF (af (pv 2) (af (pv 1) (aA)))) (aA))))
 (aB (dD (i:=3) lp.nd rfl (Or.inl rfl) (Z8 (Z7 (dU (g9 hr.units) (dU (g9 hr.units) (pv 4) (QP JJ (aN)) (λ_ _=>rfl)) (aN) (λ_ _=>rfl)))))
 (aH (OA (i:=2) lp.nd rfl (Or.inl rfl) (aN) XH)))))
 (aH (bD (pv 4))))))),run vs H Q E h⟩
def mJ (K:aa) (C:ag) (A:CA) (ck e9:Sp):TS :=
 bQ (gX (uL (kK K (cz e9 [] E0 (ak (ao 1) (aT)))))
 (vZ)
 (eM))
 (bQ (sL K (ao 0) (ao 1) "n")
 (bQ (sL K (ao 0) (Ex A.bh ck [] E0 (ak (ao 1) (aT))) "levels")
 (bQ (sL K (ao 0) (cZ (gA K) (eJ K (eJ K (ao 0) "levels") "woods") (tC (.int 0))) "wood")
 (bQ (sL K (ao 0) (tC (.int 0)) "came")
 (bQ (sL K (ao 0) (tC (.int 0)) "looked")
 (bQ (sL K (ao 0) (tC (.int 0)) "risen")
 (sL K (ao 0) (tC (.int 0)) "lost")))))))
theorem BD (Fu:jZ K "__init__" "Kept.__init__" oO f fd) (T:lD K mg C A X) {ck:Sp}(df:O0 P w K mg base eT 3 A.bh qb ck) {e9:Sp}(l6:nS P w K mg base eT 2 "is_count" rA e9)
 (len:Ln (sp) 2) (run:Rn (sp) (mJ K C A ck e9) qb):dg P w K mg base eT 5 f fd qb sp :=
 Fu.ok vB len λgG A0 outer s H vs Q E hr h=>⟨mJ K C A ck e9,
 aB (eN (lT (fS (lC l6 hr.m rfl bF (af (pv 1) (aA))) (λ_=>rfl)))
 (aH (si))
 (cu))
 (aB (jO (pv 0) (pv 1) rfl)
 (aB (jO (pv 0) (zJ df.m df.G hr.m rfl T.Jy df.b .nil bF (af (pv 1) (aA))) rfl)
 (aB (jO (pv 0) (dU (g9 hr.units) (bK (bK (pv 0) rfl) rfl) (aN) (λ_ _=>rfl)) rfl)
 (aB (jO (pv 0) (aN) rfl)
 (aB (jO (pv 0) (aN) rfl)
 (aB (jO (pv 0) (aN) rfl)
 (aH (jO (pv 0) (aN) rfl)))))))),run vs H Q E h⟩
def nZ (K:aa) (C:ag) (A:CA) (ie:Sp):TS :=
 bQ (rH K (ao 0) (tC (.int 1)) JL "came")
 (dY (eO A.bh "add" ie [] E0 (eJ K (ao 0) "levels") (ak (ao 1) (ak (ao 2) (aT)))))
theorem C9 (Fu:jZ K "receive" "Kept.receive" tV f fd) (T:lD K mg C A X) {ie:Sp}(pq:jq P w K mg base eT 8 A.bh "add" yV ie)
 (len:Ln (sp) 3) (run:Rn (sp) (nZ K C A ie) yV):dg P w K mg base eT 9 f fd yV sp :=
 Fu.ok Fd len λgG A0 outer s H vs Q E hr h=>⟨nZ K C A ie,
 aB (pZ (pv 0) (aN) v3)
 (aH (bD (uo pq T.gS hr.m (bK (pv 0) rfl) bF (af (pv 1) (af (pv 2) (aA)))))),run vs H Q E h⟩
def tF (K:aa) (C:ag) (A:CA) (gh eQ dk i7 fu cb:Sp):TS :=
 bQ (gY (cz gh [] E0 (ak (eJ K (ao 0) "n") (ak (eJ K (eJ K (ao 0) "levels") "level_of") (ak (ao 1) (ak (ao 2) (aT)))))) (b9 3))
 (bQ (rH K (ao 0) (cz eQ [] E0 (ak (eJ K (ao 0) "n") (ak (tP (ak (eO A.bh "told" cb [] E0 (eJ K (ao 0) "levels") (ak (ao 3) (aT))) (aT))) (aT)))) JL "lost")
 (bQ (gY (eO A.bh "take" dk [] E0 (eJ K (ao 0) "levels") (ak (ao 3) (aT))) (b9 4))
 (bQ (rH K (ao 0) (cz i7 [] E0 (ak (ao 4) (aT))) JL "looked")
 (bQ (rH K (ao 0) (cz fu [] E0 (ak (ao 4) (aT))) JL "risen")
 (dY (ao 4))))))
theorem Ng (Fu:jZ K "out" "Kept.out" xB f fd) (T:lD K mg C A X) {gh:Sp}(l7:nS P w K mg base eT 6 "standing_tie" vz gh) {eQ:Sp}(l9:nS P w K mg base eT 2 "credit" z7 eQ) {dk:Sp}(i3:jq P w K mg base eT 9 A.bh "take" oH dk) {i7:Sp}(tG:nS P w K mg base eT 2 "looks" sV i7) {fu:Sp}(nU:nS P w K mg base eT 1 "rises" sV fu) {cb:Sp}(gb:jq P w K mg base eT 1 A.bh "told" oH cb)
 (len:Ln (sp) 3) (run:Rn (sp) (tF K C A gh eQ dk i7 fu cb) MV):dg P w K mg base eT 10 f fd gf sp :=
 Fu.ok qe len λgG A0 outer s H vs Q E hr h=>⟨tF K C A gh eQ dk i7 fu cb,
 aB (dD (i:=3) qe.nd rfl (Or.inl rfl) (lC l7 hr.m rfl bF (af (bK (pv 0) rfl) (af (bK (bK (pv 0) rfl) rfl) (af (pv 1) (af (pv 2) (aA)))))))
 (aB (pZ (pv 0) (lC l9 hr.m rfl bF (af (bK (pv 0) rfl) (af (kr (af (uo gb T.gS hr.m (bK (pv 0) rfl) bF (af (pv 3) (aA))) (aA))) (aA)))) v3)
 (aB (dD (i:=4) qe.nd rfl (Or.inl rfl) (uo i3 T.gS hr.m (bK (pv 0) rfl) bF (af (pv 3) (aA))))
 (aB (pZ (pv 0) (lC tG hr.m rfl bF (af (pv 4) (aA))) v3)
 (aB (pZ (pv 0) (lC nU hr.m rfl bF (af (pv 4) (aA))) v3)
 (aH (bD (pv 4))))))),run vs H Q E h⟩
def rQ (K:aa) (C:ag) (A:CA) (cb:Sp):TS :=
 dY (v5 (wg K) (ak (ow 1 [0] (iDT (eJ K (eJ K (ao 0) "levels") "level_of")) (b9 0) (Bk) (eO A.bh "told" cb [] E0 (eJ K (ao 1) "levels") (ak (ao 0) (aT)))) (aT)))
theorem Kq (Fu:jZ K "ties" "Kept.ties" yZ f fd) (T:lD K mg C A X) {cb:Sp}(gb:jq P w K mg base eT 1 A.bh "told" oH cb)
 (len:Ln (sp) 1) (run:Rn (sp) (rQ K C A cb) pX):dg P w K mg base eT 2 f fd pX sp :=
 Fu.ok M4 len λgG A0 outer s H vs Q E hr h=>⟨rQ K C A cb,
 aH (bD (c6 (uP) rfl T.uE BootT.EI (af (nR ["tie"] (ys:=pX) [0] rfl (Zr (bK (bK (pv 0) rfl) rfl)) ⟨rfl,.inl rfl,rfl,trivial⟩ (λ_ _ _=>c8 (i:=0) (show (["tie","self"]:List aZ).Nodup by decide +kernel) rfl (Or.inl rfl)) (λ_ _ _=>qO) (λ_ _ _=>uo gb T.gS hr.m (bK (pv 1) rfl) bF (af (pv 0) (aA)))) (aA)))),run vs H Q E h⟩
def n0 (K:aa) (C:ag) (A:CA) (eQ bo:Sp):TS :=
 dY (sj (ak (eJ K (ao 0) "came") (ak (eJ K (ao 0) "looked") (ak (eJ K (ao 0) "risen") (ak (eJ K (ao 0) "lost") (ak (cz eQ [] E0 (ak (eJ K (ao 0) "n") (ak (eO A.Keeper "ties" bo [] E0 (ao 0) aT) (aT)))) (aT)))))))
theorem Da (Fu:jZ K "account" "Kept.account" tW f fd) (T:lD K mg C A X) {eQ:Sp}(l9:nS P w K mg base eT 2 "credit" z7 eQ) {bo:Sp}(fw:jq P w K mg base eT 2 A.Keeper "ties" pX bo)
 (len:Ln (sp) 1) (run:Rn (sp) (n0 K C A eQ bo) pX):dg P w K mg base eT 3 f fd pX sp :=
 Fu.ok Fe len λgG A0 outer s H vs Q E hr h=>⟨n0 K C A eQ bo,
 aH (bD (jD (af (bK (pv 0) rfl) (af (bK (pv 0) rfl) (af (bK (pv 0) rfl) (af (bK (pv 0) rfl) (af (lC l9 hr.m rfl bF (af (bK (pv 0) rfl) (af (O1 fw T.fk hr.m (pv 0) bF) (aA)))) (aA)))))))),run vs H Q E h⟩
def qA (K:aa) (C:ag) (A:CA) (cN kC:Sp):TS :=
 dY (eO A.Keeper "receive" cN [] E0 (ao 0) (ak (cz kC [] E0 (ak (eJ K (ao 0) "n") (ak (eJ K (eJ K (ao 0) "levels") "level_of") (ak (ao 1) (ak (ao 2) (aT)))))) (ak (tC (.int 0)) (aT))))
theorem Hv (Fu:jZ K "put" "Keeper.put" sX f fd) (T:lD K mg C A X) {cN:Sp}(iB:jq P w K mg base eT 9 A.Keeper "receive" yV cN) {kC:Sp}(uC:nS P w K mg base eT 6 "new_tie" vz kC)
 (len:Ln (sp) 3) (run:Rn (sp) (qA K C A cN kC) gf):dg P w K mg base eT 10 f fd gf sp :=
 Fu.ok Ag len λgG A0 outer s H vs Q E hr h=>⟨qA K C A cN kC,
 aH (bD (uo iB T.fk hr.m (pv 0) bF (af (lC uC hr.m rfl bF (af (bK (pv 0) rfl) (af (bK (bK (pv 0) rfl) rfl) (af (pv 1) (af (pv 2) (aA)))))) (af (aN) (aA))))),run vs H Q E h⟩
def iC (K:aa) (C:ag) (X:EC) (E:XK) (eZ:Sp):TS :=
 gX (uL (kK K (cz eZ [] E0 (ak (ao 0) (ak (ao 1) (aT))))))
 (yS (.ref X.dI) E)
 (eM)
theorem wF (Fu:jZ K "refuse_no_place" "refuse_no_place" mF f fd) (T:lD K mg C A X) {eZ:Sp}(lY:nS P w K mg base eT 2 "is_place" mV eZ)
 (len:Ln (sp) 2) (run:Rx (sp) (λE=>iC K C X E eZ) mV):dg P w K mg base (sN P w) 3 f fd mV sp :=
 Fu.Qz sY len λgG A0 outer s H vs Q E hr h=>⟨iC K C X E eZ,
 aH (eN (lT (fS (lC lY hr.m rfl bF (af (pv 0) (af (pv 1) (aA)))) (λ_=>rfl)))
 (aH (wb rfl rfl ⟨T.Jw,T.qk⟩ qR))
 (cu)),run vs H Q E h⟩
def hU (K:aa) (C:ag) (E:XK) (bH:Sp):TS :=
 bQ (fV (cz bH [] E (ak (ao 0) (ak (ao 1) (aT)))))
 (fV (cz bH [] E (ak (ao 0) (ak (ao 2) (aT)))))
theorem vK (Fu:jZ K "refuse_no_places" "refuse_no_places" lI f fd) (T:lD K mg C A X) {bH:Sp}(fT:nS P w K mg base (sN P w) 3 "refuse_no_place" mV bH)
 (len:Ln (sp) 3) (run:Rx (sp) (λE=>hU K C E bH) pO):dg P w K mg base (sN P w) 4 f fd pO sp :=
 Fu.Qz sv len λgG A0 outer s H vs Q E hr h=>⟨hU K C E bH,
 aB (cR (lC fT hr.m rfl pW (af (pv 0) (af (pv 1) (aA)))))
 (aH (cR (lC fT hr.m rfl pW (af (pv 0) (af (pv 2) (aA)))))),run vs H Q E h⟩
def gR (K:aa) (C:ag) (X:EC) (E:XK) (bI:Sp):TS :=
 bQ (fV (cz bI [] E (ak (ao 0) (ak (ao 1) (ak (ao 2) (aT))))))
 (gX (ft (cZ (mD K) (ao 1) (ao 2)))
 (yS (.ref X.Alike) E)
 (eM))
theorem x3 (Fu:jZ K "refuse_no_pair" "refuse_no_pair" nT f fd) (T:lD K mg C A X) {bI:Sp}(gB:nS P w K mg base (sN P w) 4 "refuse_no_places" pO bI)
 (len:Ln (sp) 3) (run:Rx (sp) (λE=>gR K C X E bI) pO):dg P w K mg base (sN P w) 5 f fd pO sp :=
 Fu.Qz uq len λgG A0 outer s H vs Q E hr h=>⟨gR K C X E bI,
 aB (cR (lC gB hr.m rfl pW (af (pv 0) (af (pv 1) (af (pv 2) (aA))))))
 (aH (eN (cJ (gZ hr.units) (pv 1) (pv 2) (dB _))
 (aH (wb rfl rfl ⟨T.RG,T.uG⟩ qR))
 (cu))),run vs H Q E h⟩
def mK (K:aa) (C:ag) (E:XK) (bI:Sp):TS :=
 bQ (fV (cz bI [] E (ak (eJ K (ao 0) "n") (ak (ao 1) (ak (ao 2) (aT))))))
 (dY (cZ (mD K) (cZ (gA K) (cZ (gA K) (eJ K (ao 0) "rows") (ao 1)) (tC (.int 0))) (cZ (gA K) (cZ (gA K) (eJ K (ao 0) "rows") (ao 2)) (tC (.int 0)))))
theorem BE (Fu:jZ K "joined" "Wood.joined" rL f fd) (T:lD K mg C A X) {bI:Sp}(gB:nS P w K mg base (sN P w) 4 "refuse_no_places" pO bI)
 (len:Ln (sp) 3) (run:Rx (sp) (λE=>mK K C E bI) gf):dg P w K mg base (sN P w) 5 f fd gf sp :=
 Fu.Qz yr len λgG A0 outer s H vs Q E hr h=>⟨mK K C E bI,
 aB (cR (lC gB hr.m rfl pW (af (bK (pv 0) rfl) (af (pv 1) (af (pv 2) (aA))))))
 (aH (bD (sR (gZ hr.units) (dU (g9 hr.units) (dU (g9 hr.units) (bK (pv 0) rfl) (pv 1) (λ_ _=>rfl)) (aN) (λ_ _=>rfl)) (dU (g9 hr.units) (dU (g9 hr.units) (bK (pv 0) rfl) (pv 2) (λ_ _=>rfl)) (aN) (λ_ _=>rfl)) (dB _)))),run vs H Q E h⟩
def qB (K:aa) (C:ag) (E:XK) (cA mL:Sp):TS :=
 dY (tIf (kK K (eO C "joined" cA [] E (ao 0) (ak (ao 1) (ak (ao 2) (aT))))) (cz mL [] E0 (ak (cZ (gA K) (eJ K (ao 0) "rows") (ao 1)) (ak (ao 1) (ak (ao 2) (aT))))) (tC .non))
theorem Hw (Fu:jZ K "way" "Wood.way" By f fd) (T:lD K mg C A X) {cA:Sp}(jk:jq P w K mg base (sN P w) 5 C "joined" gf cA) {mL:Sp}(wG:nS P w K mg base eT 2 "way_in" CJ mL)
 (len:Ln (sp) 3) (run:Rx (sp) (λE=>qB K C E cA mL) gf):dg P w K mg base (sN P w) 6 f fd gf sp :=
 Fu.Qz Ph len λgG A0 outer s H vs Q E hr h=>⟨qB K C E cA mL,
 aH (bD (vY (fS (uo jk T.kF hr.m (pv 0) pW (af (pv 1) (af (pv 2) (aA)))) (λ_=>rfl)) (lC wG hr.m rfl bF (af (dU (g9 hr.units) (bK (pv 0) rfl) (pv 1) (λ_ _=>rfl)) (af (pv 1) (af (pv 2) (aA))))) (JF))),run vs H Q E h⟩
def n5 (K:aa) (C:ag) (E:XK) (bH:Sp):TS :=
 bQ (fV (cz bH [] E (ak (eJ K (ao 0) "n") (ak (ao 1) (aT)))))
 (dY (zW K (ak (cZ (gA K) (eJ K (ao 0) "rows") (ao 1)) (aT))))
theorem De (Fu:jZ K "group" "Wood.group" sW f fd) (T:lD K mg C A X) {bH:Sp}(fT:nS P w K mg base (sN P w) 3 "refuse_no_place" mV bH)
 (len:Ln (sp) 2) (run:Rx (sp) (λE=>n5 K C E bH) kM):dg P w K mg base (sN P w) 4 f fd kM sp :=
 Fu.Qz Ad len λgG A0 outer s H vs Q E hr h=>⟨n5 K C E bH,
 aB (cR (lC fT hr.m rfl pW (af (bK (pv 0) rfl) (af (pv 1) (aA)))))
 (aH (bD (EW rfl rfl T.uE rfl T.ZH (af (dU (g9 hr.units) (bK (pv 0) rfl) (pv 1) (λ_ _=>rfl)) (aA))))),run vs H Q E h⟩
def rR (K:aa) (C:ag) (X:EC) (E:XK) (b8 cP:Sp):TS :=
 bQ (fV (cz b8 [] E (ak (ao 0) (ak (ao 2) (ak (ao 3) (aT))))))
 (bQ (gY (cz cP [] E0 (ak (ao 2) (ak (ao 3) (aT)))) (b9 4))
 (bQ (gX (ft (cZ (EF K false) (ao 4) (ao 1)))
 (yS (.ref X.rm) E)
 (eM))
 (dY (ao 4))))
theorem Kr (Fu:jZ K "new_tie" "new_tie" z8 f fd) (T:lD K mg C A X) {b8:Sp}(hW:nS P w K mg base (sN P w) 5 "refuse_no_pair" pO b8) {cP:Sp}(jt:nS P w K mg base eT 1 "tie_of" yp cP)
 (len:Ln (sp) 4) (run:Rx (sp) (λE=>rR K C X E b8 cP) Hg):dg P w K mg base (sN P w) 6 f fd vz sp :=
 Fu.Qz xC len λgG A0 outer s H vs Q E hr h=>⟨rR K C X E b8 cP,
 aB (cR (lC hW hr.m rfl pW (af (pv 0) (af (pv 2) (af (pv 3) (aA))))))
 (aB (dD (i:=4) xC.nd rfl (Or.inl rfl) (lC jt hr.m rfl bF (af (pv 2) (af (pv 3) (aA)))))
 (aB (eN (cJ (JT hr.units) (pv 4) (pv 1) (by with_unfolding_all rfl))
 (aH (wb rfl rfl ⟨T.WQ,T.xK⟩ qR))
 (cu))
 (aH (bD (pv 4))))),run vs H Q E h⟩
def lK (K:aa) (C:ag) (X:EC) (E:XK) (b8 cP:Sp):TS :=
 bQ (fV (cz b8 [] E (ak (ao 0) (ak (ao 2) (ak (ao 3) (aT))))))
 (bQ (gY (cz cP [] E0 (ak (ao 2) (ak (ao 3) (aT)))) (b9 4))
 (bQ (gX (ft (cZ (EF K true) (ao 4) (ao 1)))
 (yS (.ref X.kQ) E)
 (eM))
 (dY (ao 4))))
theorem Ak (Fu:jZ K "standing_tie" "standing_tie" qp f fd) (T:lD K mg C A X) {b8:Sp}(hW:nS P w K mg base (sN P w) 5 "refuse_no_pair" pO b8) {cP:Sp}(jt:nS P w K mg base eT 1 "tie_of" yp cP)
 (len:Ln (sp) 4) (run:Rx (sp) (λE=>lK K C X E b8 cP) Hg):dg P w K mg base (sN P w) 6 f fd vz sp :=
 Fu.Qz oP len λgG A0 outer s H vs Q E hr h=>⟨lK K C X E b8 cP,
 aB (cR (lC hW hr.m rfl pW (af (pv 0) (af (pv 2) (af (pv 3) (aA))))))
 (aB (dD (i:=4) oP.nd rfl (Or.inl rfl) (lC jt hr.m rfl bF (af (pv 2) (af (pv 3) (aA)))))
 (aB (eN (cJ (Bl hr.units) (pv 4) (pv 1) (by with_unfolding_all rfl))
 (aH (wb rfl rfl ⟨T.RH,T.uD⟩ qR))
 (cu))
 (aH (bD (pv 4))))),run vs H Q E h⟩
def kD (K:aa) (C:ag) (A:CA) (X:EC) (E:XK) (ck e9:Sp):TS :=
 bQ (gX (uL (kK K (cz e9 [] E0 (ak (ao 1) (aT)))))
 (yS (.ref X.gm) E)
 (eM))
 (bQ (sL K (ao 0) (ao 1) "n")
 (bQ (sL K (ao 0) (Ex A.bh ck [] E0 (ak (ao 1) (aT))) "levels")
 (bQ (sL K (ao 0) (cZ (gA K) (eJ K (eJ K (ao 0) "levels") "woods") (tC (.int 0))) "wood")
 (bQ (sL K (ao 0) (tC (.int 0)) "came")
 (bQ (sL K (ao 0) (tC (.int 0)) "looked")
 (bQ (sL K (ao 0) (tC (.int 0)) "risen")
 (sL K (ao 0) (tC (.int 0)) "lost")))))))
theorem y8 (Fu:jZ K "__init__" "Kept.__init__" oO f fd) (T:lD K mg C A X) {ck:Sp}(df:O0 P w K mg base eT 3 A.bh qb ck) {e9:Sp}(l6:nS P w K mg base eT 2 "is_count" rA e9)
 (len:Ln (sp) 2) (run:Rx (sp) (λE=>kD K C A X E ck e9) qb):dg P w K mg base (sN P w) 5 f fd qb sp :=
 Fu.Qz vB len λgG A0 outer s H vs Q E hr h=>⟨kD K C A X E ck e9,
 aB (eN (lT (fS (lC l6 hr.m rfl bF (af (pv 1) (aA))) (λ_=>rfl)))
 (aH (wb rfl rfl ⟨T.Jx,T.qj⟩ qR))
 (cu))
 (aB (jO (pv 0) (pv 1) rfl)
 (aB (jO (pv 0) (zJ df.m df.G hr.m rfl T.Jy df.b .nil bF (af (pv 1) (aA))) rfl)
 (aB (jO (pv 0) (dU (g9 hr.units) (bK (bK (pv 0) rfl) rfl) (aN) (λ_ _=>rfl)) rfl)
 (aB (jO (pv 0) (aN) rfl)
 (aB (jO (pv 0) (aN) rfl)
 (aB (jO (pv 0) (aN) rfl)
 (aH (jO (pv 0) (aN) rfl)))))))),run vs H Q E h⟩
def qC (K:aa) (C:ag) (A:CA) (E:XK) (fe eQ dk i7 fu cb:Sp):TS :=
 bQ (gY (cz fe [] E (ak (eJ K (ao 0) "n") (ak (eJ K (eJ K (ao 0) "levels") "level_of") (ak (ao 1) (ak (ao 2) (aT)))))) (b9 3))
 (bQ (rH K (ao 0) (cz eQ [] E0 (ak (eJ K (ao 0) "n") (ak (tP (ak (eO A.bh "told" cb [] E0 (eJ K (ao 0) "levels") (ak (ao 3) (aT))) (aT))) (aT)))) JL "lost")
 (bQ (gY (eO A.bh "take" dk [] E0 (eJ K (ao 0) "levels") (ak (ao 3) (aT))) (b9 4))
 (bQ (rH K (ao 0) (cz i7 [] E0 (ak (ao 4) (aT))) JL "looked")
 (bQ (rH K (ao 0) (cz fu [] E0 (ak (ao 4) (aT))) JL "risen")
 (dY (ao 4))))))
theorem Hx (Fu:jZ K "out" "Kept.out" xB f fd) (T:lD K mg C A X) {fe:Sp}(qg:nS P w K mg base (sN P w) 6 "standing_tie" vz fe) {eQ:Sp}(l9:nS P w K mg base eT 2 "credit" z7 eQ) {dk:Sp}(i3:jq P w K mg base eT 9 A.bh "take" oH dk) {i7:Sp}(tG:nS P w K mg base eT 2 "looks" sV i7) {fu:Sp}(nU:nS P w K mg base eT 1 "rises" sV fu) {cb:Sp}(gb:jq P w K mg base eT 1 A.bh "told" oH cb)
 (len:Ln (sp) 3) (run:Rx (sp) (λE=>qC K C A E fe eQ dk i7 fu cb) MV):dg P w K mg base (sN P w) 10 f fd gf sp :=
 Fu.Qz qe len λgG A0 outer s H vs Q E hr h=>⟨qC K C A E fe eQ dk i7 fu cb,
 aB (dD (i:=3) qe.nd rfl (Or.inl rfl) (lC qg hr.m rfl pW (af (bK (pv 0) rfl) (af (bK (bK (pv 0) rfl) rfl) (af (pv 1) (af (pv 2) (aA)))))))
 (aB (pZ (pv 0) (lC l9 hr.m rfl bF (af (bK (pv 0) rfl) (af (kr (af (uo gb T.gS hr.m (bK (pv 0) rfl) bF (af (pv 3) (aA))) (aA))) (aA)))) v3)
 (aB (dD (i:=4) qe.nd rfl (Or.inl rfl) (uo i3 T.gS hr.m (bK (pv 0) rfl) bF (af (pv 3) (aA))))
 (aB (pZ (pv 0) (lC tG hr.m rfl bF (af (pv 4) (aA))) v3)
 (aB (pZ (pv 0) (lC nU hr.m rfl bF (af (pv 4) (aA))) v3)
 (aH (bD (pv 4))))))),run vs H Q E h⟩
def mM (K:aa) (C:ag) (A:CA) (E:XK) (cA:Sp):TS :=
 dY (eO C "joined" cA [] E (eJ K (ao 0) "wood") (ak (ao 1) (ak (ao 2) (aT))))
theorem BF (Fu:jZ K "joined" "Kept.joined" u6 f fd) (T:lD K mg C A X) {cA:Sp}(jk:jq P w K mg base (sN P w) 5 C "joined" gf cA)
 (len:Ln (sp) 3) (run:Rx (sp) (λE=>mM K C A E cA) gf):dg P w K mg base (sN P w) 6 f fd gf sp :=
 Fu.Qz Hl len λgG A0 outer s H vs Q E hr h=>⟨mM K C A E cA,
 aH (bD (uo jk T.kF hr.m (bK (pv 0) rfl) pW (af (pv 1) (af (pv 2) (aA))))),run vs H Q E h⟩
def qD (K:aa) (C:ag) (A:CA) (E:XK) (ig:Sp):TS :=
 dY (eO C "way" ig [] E (eJ K (ao 0) "wood") (ak (ao 1) (ak (ao 2) (aT))))
theorem Hy (Fu:jZ K "way" "Kept.way" Bz f fd) (T:lD K mg C A X) {ig:Sp}(vf:jq P w K mg base (sN P w) 6 C "way" gf ig)
 (len:Ln (sp) 3) (run:Rx (sp) (λE=>qD K C A E ig) gf):dg P w K mg base (sN P w) 7 f fd gf sp :=
 Fu.Qz Pi len λgG A0 outer s H vs Q E hr h=>⟨qD K C A E ig,
 aH (bD (uo vf T.kF hr.m (bK (pv 0) rfl) pW (af (pv 1) (af (pv 2) (aA))))),run vs H Q E h⟩
def pA (K:aa) (C:ag) (A:CA) (E:XK) (gj:Sp):TS :=
 dY (eO C "group" gj [] E (eJ K (ao 0) "wood") (ak (ao 1) (aT)))
theorem Fw (Fu:jZ K "side" "Kept.side" y0 f fd) (T:lD K mg C A X) {gj:Sp}(sD:jq P w K mg base (sN P w) 4 C "group" kM gj)
 (len:Ln (sp) 2) (run:Rx (sp) (λE=>pA K C A E gj) kM):dg P w K mg base (sN P w) 5 f fd kM sp :=
 Fu.Qz M5 len λgG A0 outer s H vs Q E hr h=>⟨pA K C A E gj,
 aH (bD (uo sD T.kF hr.m (bK (pv 0) rfl) pW (af (pv 1) (aA)))),run vs H Q E h⟩
def n6 (K:aa) (C:ag) (A:CA) (E:XK) (cN iT:Sp):TS :=
 dY (eO A.Keeper "receive" cN [] E0 (ao 0) (ak (cz iT [] E (ak (eJ K (ao 0) "n") (ak (eJ K (eJ K (ao 0) "levels") "level_of") (ak (ao 1) (ak (ao 2) (aT)))))) (ak (tC (.int 0)) (aT))))
theorem Dg (Fu:jZ K "put" "Keeper.put" sX f fd) (T:lD K mg C A X) {cN:Sp}(iB:jq P w K mg base eT 9 A.Keeper "receive" yV cN) {iT:Sp}(wH:nS P w K mg base (sN P w) 6 "new_tie" vz iT)
 (len:Ln (sp) 3) (run:Rx (sp) (λE=>n6 K C A E cN iT) gf):dg P w K mg base (sN P w) 10 f fd gf sp :=
 Fu.Qz Ag len λgG A0 outer s H vs Q E hr h=>⟨n6 K C A E cN iT,
 aH (bD (uo iB T.fk hr.m (pv 0) bF (af (lC wH hr.m rfl pW (af (bK (pv 0) rfl) (af (bK (bK (pv 0) rfl) rfl) (af (pv 1) (af (pv 2) (aA)))))) (af (aN) (aA))))),run vs H Q E h⟩
end K32
section
open PySem PySem.Spec PyProof.Rows L2
local macro_rules | `(tactic| walk_at "c")=>`(tactic| first|(show (0:Int)<_;omega)|exact ⟨by omega,by omega⟩|exact Or.inl ⟨by omega,by omega⟩|exact Or.inr ⟨by omega,by omega⟩|exact ⟨by omega,by omega,by omega⟩)
local macro_rules | `(tactic| walk_at "x1")=>`(tactic| first|with_reducible refine zQ ?_|with_reducible refine ab9 ?_|with_reducible refine X3 ?_|with_reducible refine aar ?_|((with_reducible refine' CC ?hv ?_);(case hv=>exact rfl))|with_reducible refine x_c ?_|with_reducible refine x_op ?_|with_reducible refine acb ?_|with_reducible refine aas ?_|with_reducible refine aat ?_|with_reducible refine UU ?_|with_reducible refine x_if ?_|with_reducible refine UV ?_|with_reducible refine x_tB ?_|with_reducible refine acm ?_|with_reducible refine aaB ?_|with_reducible refine UW ?_|with_reducible refine x_or ?_|with_reducible refine acd ?_|with_reducible refine aau ?_|with_reducible refine x_orV ?_|with_reducible refine aav ?_|with_reducible refine QY ?_|with_reducible refine ace ?_|with_reducible refine QX ?_|with_reducible refine yO ?_|with_reducible refine acf ?_|with_reducible refine acg ?_|with_reducible refine OM ?_|with_reducible refine x_cb ?_|with_reducible refine x_bm ?_|with_reducible refine x_sl ?_|with_reducible refine UX ?_|with_reducible refine aaw ?_|with_reducible refine aci ?_|((with_reducible refine x_rI ?hc ?_);(case hc=>walk_at "c"))|with_reducible refine aax ?_|with_reducible refine x_addHI ?_|with_reducible refine acj ?_|with_reducible refine Zk ?_|with_reducible refine aaC ?_|with_reducible refine acn ?_|with_reducible refine aaD ?_|with_reducible refine aaA ?_|with_reducible refine acp ?_|with_reducible refine acq ?_|with_reducible refine x_un ?_|with_reducible refine x_rU ?_|with_reducible refine X4 ?_|with_reducible refine ack ?_|with_reducible refine x_rev ?_|with_reducible refine x_dnew ?_|with_reducible refine X5 ?_|with_reducible refine aaE ?_|((with_reducible refine' aco ?hv ?_);(case hv=>exact rfl))|with_reducible refine ⟨_,rfl,?_⟩)
local macro_rules | `(tactic| walk_at "x")=>`(tactic| (walk_at "x1";repeat walk_at "x1"))
namespace K32
open Rm
variable {K:aa}{C:ag}{A:CA}{X:EC}{Pt:ag}
def GV (t:Int×Int):PyData:=.tuple [.int t.1,.int t.2]
theorem Jr {K:aa}{H:Hp}:∀ {zs:List Zt},(∀ z∈zs,jh H z)->gn K H ((zs.map zP).map GV) (zs.map mY)
 | [],_=>.nil
 | z::zs,h=>.cons (.tup (.of (h z aw)) (.cons (.int _) (.cons (.int _) .nil))) (Jr λy hy=>h y (ah _ hy))
theorem Pl {K:aa}{H:Hp}{l:ag}{zs:List Zt}(hl:H l=some (.lst (zs.map mY))) (h:∀ z∈zs,jh H z):Rep K H (.list ((zs.map zP).map GV)) (.ref l):=.lst (fg.of hl) (Jr h)
theorem Al:∀ L:List (Int×Int),lV (L.map GV)=true
 | []=>rfl
 | t::ts=>by simp only [cn,lV,dP];exact ⟨by simp [GV,sk,lV],Al ts⟩
theorem Fx {H H':Hp}{zs:List Zt}(h:∀ z∈zs,jh H z) (S:cB H H'):∀ z∈zs,jh H' z:=λz hz=>S _ _ (h z hz)
theorem Fy (t u:Int×Int):fh (GV t) (GV u)=decide (t=u):=by
 obtain ⟨a,b⟩:=t
 obtain ⟨c,d⟩:=u
 rw [jH]
 simp [GV,fh,PyData.eqvAll,LU]
theorem Ks (t:Int×Int):zO (GV t):=⟨Je _ (by simp [GV,sk,lV]),by simp [GV,pY,fJ]⟩
theorem Pn {K:aa}{H:Hp}{p:ag}{a b:Int}(h:H p=some (.tup [.int a,.int b])):Rep K H (GV (a,b)) (.ref p):=.tup (.of h) (.cons (.int _) (.cons (.int _) .nil))
theorem aa0 {L:List (Int×Int)}{t u:Int×Int}:∀ {m:Nat},m<L.idxOf t->L[m]?=some u->u≠t:=by
 induction L with
 | nil=>intro m h e;simp at e
 | cons v L ih =>
  intro m h e
  by_cases q:v=t
  ·subst q;simp at h
  ·have hv:(v == t)=false:=by simpa using q
   rw [List.idxOf_cons,hv] at h
   cases m with
   | zero=>simp at e;subst e;exact q
   | succ m=>exact ih (m:=m) (by simpa using h) (by simpa using e)
theorem Nh {K:aa}{H:Hp}{Q:VK}{l p:ag}{zs:List Zt}{a b:Int}(hl:H l=some (.lst (zs.map mY))) (hz:∀ z∈zs,jh H z) (hlen:zs.length<=100000) (hp:H p=some (.tup [.int a,.int b])) (hm:(a,b)∈zs.map zP)
  (k:Q (.int ((zs.map zP).idxOf (a,b):Nat)) H):sU K (.ref l) [.ref p] H Q:=by
 have hi:(zs.map zP).idxOf (a,b)<(zs.map zP).length:=iI.mpr hm
 refine .inr ⟨l,.ref p,(zs.map zP).map GV,GV (a,b),(zs.map zP).idxOf (a,b),GV (a,b),rfl,rfl,Pl hl hz,Pn hp,Ks _,jo _ (Al _),by rw [aj,aj];exact bA hlen,?_,by rw [Fy];simp,λm e hm' em=>?_,k⟩
 ·rw [aG,aD hi,CY];rfl
 ·rw [aG] at em
  obtain ⟨u,e1,e2⟩:=bV.mp em
  subst e2
  rw [Fy,decide_eq_false (aa0 hm' e1)]
def cH (K:aa) (C:ag):Sp:=λvs H Q _=>∃ (p:ag) (r:List Int),vs=[.ref p]/\fg K H p (r.map V.int)/\r.length<=1000/\∀ l H' (zs:List Zt),cB H H'->H l=none->H' l=some (.lst (zs.map mY))->(∀ z∈zs,jh H' z)->zs.map zP=al r->Q (.ref l) H'
theorem Dh:Ln (cH K C) 1:=by walk_at "l"
theorem Di:Rn (cH K C) (oQ K C) ["row"]:=by
 rintro vs H Q E ⟨p,r,rfl,hp,hl,k⟩
 unfold oQ
 walk_at "x"
 refine aaL ?_
 walk_at "x"
 refine zS (j:=1) hp rfl λq hq=>?_
 generalize eu_:upd H q (.lst ((r.drop 1).map V.int))=H1
 obtain ⟨S1,g1⟩:=news eu_ hq
 walk_at "x"
 exact ⟨p,q,r,r.drop 1,rfl,S1.seq hp,fg.of g1,by omega,λl zs H2 S2 hl2 gl hz e=>k l H2 zs (S1.trans S2) (S1.free hl2) gl hz (by rw [e,O5])⟩
def jS (K:aa) (C:ag):Sp:=λvs H Q _=>∃ (p:ag) (r:List Int) (a b:Int),vs=[.ref p,.int a,.int b]/\fg K H p (r.map V.int)/\r.length<=1000/\(a,b)∈al r/\(b,a)∈al r /\
 ∀ (t x y:ag) (H':Hp),cB H H'->H t=none->H x=none->H y=none->x≠y->H' t=some (.tup [.ref x,.ref y])->H' x=some (.lst ((A7 r a b).1.map V.int))->H' y=some (.lst ((A7 r a b).2.map V.int))->Q (.ref t) H'
theorem Po:Ln (jS K C) 3:=by walk_at "l"
theorem Pp:Rn (jS K C) (xG K C (cH K C)) VP:=by
 rintro vs H Q E ⟨p,r,a,b,rfl,hp,hl,hab,hba,k⟩
 have hi:(al r).idxOf (a,b)<(al r).length:=iI.mpr hab
 have hj:(al r).idxOf (b,a)<(al r).length:=iI.mpr hba
 rw [O6] at hi hj
 unfold xG
 walk_at "x"
 refine ⟨p,r,rfl,hp,hl,λw H1 zs S1 hw gw hz ez=>?_⟩
 have hzl:zs.length<=1000:=by
  have:=congrArg fN ez
  rw [aj,O6] at this
  omega
 walk_at "x"
 refine ⟨.inl ⟨rfl,_,fg.of gw⟩,?_⟩
 walk_at "x"
 refine ⟨bA (m:=2) (ax 2),λt1 ht1=>?_⟩
 generalize eu_:upd H1 t1 (.tup [.int a,.int b])=H2
 obtain ⟨S2,g2⟩:=news eu_ ht1
 walk_at "x"
 refine Nh (S2 _ _ gw) (Fx hz S2) (by omega) g2 (by rw [ez];exact hab) ?_
 rw [ez]
 walk_at "x"
 refine ⟨.inl ⟨rfl,_,fg.of (S2 _ _ gw)⟩,?_⟩
 walk_at "x"
 refine ⟨bA (m:=2) (ax 2),λt2 ht2=>?_⟩
 generalize eu_:upd H2 t2 (.tup [.int b,.int a])=H3
 obtain ⟨S3,g3⟩:=news eu_ ht2
 have S13:=S2.trans S3
 walk_at "x"
 refine Nh (S13 _ _ gw) (Fx hz S13) (by omega) g3 (by rw [ez];exact hba) ?_
 rw [ez]
 have hpr:A7 r a b=if (al r).idxOf (a,b)<(al r).idxOf (b,a) then (Br r ((al r).idxOf (a,b)) ((al r).idxOf (b,a)),wj r ((al r).idxOf (a,b)) ((al r).idxOf (b,a))) else (wj r ((al r).idxOf (b,a)) ((al r).idxOf (a,b)),Br r ((al r).idxOf (b,a)) ((al r).idxOf (a,b))):=rfl
 generalize (al r).idxOf (a,b)=i at hi hpr
 generalize (al r).idxOf (b,a)=j at hj hpr
 walk_at "x"
 obtain ⟨u,v,eu,ev,huv⟩:∃ u v:Nat,(if (j:Int)<(i:Int) then (j:Int) else (i:Int))=(u:Int)/\(if (j:Int)>(i:Int) then (j:Int) else (i:Int))=(v:Int)/\((i<j/\u=i/\v=j)\/(¬ i<j/\u=j/\v=i)):=by
  by_cases c:i<j
  ·exact ⟨i,j,by rw [if_neg (by omega)],by rw [if_pos (by omega)],.inl ⟨c,rfl,rfl⟩⟩
  ·by_cases c2:j<i
   ·exact ⟨j,i,by rw [if_pos (by omega)],by rw [if_neg (by omega)],.inr ⟨c,rfl,rfl⟩⟩
   ·have:i=j:=by omega
    subst this
    exact ⟨i,i,by rw [if_neg (by omega)],by rw [if_neg (by omega)],.inr ⟨c,rfl,rfl⟩⟩
 rw [eu,ev]
 have hS:=S1.trans S13
 refine Q1 (j:=u+1) (j':=v+1) (hS.seq hp) (by omega) (by omega) λy hy=>?_
 have hin:(r.drop (u+1)).take (v+1-(u+1))=wj r u v:=by unfold wj;rw [show v+1-(u+1)=v-u by omega]
 rw [hin]
 generalize eu_:upd H3 y (.lst ((wj r u v).map V.int))=H4
 obtain ⟨S4,g4⟩:=news eu_ hy
 walk_at "x"
 refine OP (j:=u+1) ((hS.trans S4).seq hp) (by omega) λq1 hq1=>?_
 generalize eu_:upd H4 q1 (.lst ((r.take (u+1)).map V.int))=H5
 obtain ⟨S5,g5⟩:=news eu_ hq1
 walk_at "x"
 refine zS (j:=v+2) ((hS.trans (S4.trans S5)).seq hp) (by omega) λq2 hq2=>?_
 generalize eu_:upd H5 q2 (.lst ((r.drop (v+2)).map V.int))=H6
 obtain ⟨S6,g6⟩:=news eu_ hq2
 refine EN (S6 _ _ g5) g6 (by rw [cf,dO];omega) λx hx=>?_
 have S7:=cB.dG (o:=.lst ((Br r u v).map V.int)) hx
 have g7:(upd H6 x (.lst ((Br r u v).map V.int))) x=some (.lst ((Br r u v).map V.int)):=aM
 show b9 9 (.ref x) _ (upd H6 x (.lst ((Br r u v).map V.int))) _
 generalize upd H6 x (.lst ((Br r u v).map V.int))=H7 at S7 g7
 have S37:=S4.trans (S5.trans (S6.trans S7))
 have S47:=S5.trans (S6.trans S7)
 have nxy:x≠y:=Ne.symm (aP (S6 _ _ (S5 _ _ g4)) hx)
 have hHx:H x=none:=(hS.trans (S4.trans (S5.trans S6))).free hx
 have hHy:H y=none:=hS.free hy
 walk_at "x"
 rcases huv with ⟨c,rfl,rfl⟩|⟨c,rfl,rfl⟩
 ·rw [if_pos c] at hpr
  refine vw (λ_=>?_) λz=>absurd (by omega) z
  walk_at "x"
  refine ⟨bA (m:=2) (ax 2),λt ht=>?_⟩
  have S8:=cB.dG (o:=.tup [.ref x,.ref y]) ht
  exact k t x y _ ((hS.trans S37).trans S8) ((hS.trans S37).free ht) hHx hHy nxy aM (by rw [hpr];exact S8 _ _ g7) (by rw [hpr];exact S8 _ _ (S47 _ _ g4))
 ·rw [if_neg c] at hpr
  refine vw (λz=>absurd (by omega) c) λ_=>?_
  walk_at "x"
  refine ⟨bA (m:=2) (ax 2),λt ht=>?_⟩
  have S8:=cB.dG (o:=.tup [.ref y,.ref x]) ht
  exact k t y x _ ((hS.trans S37).trans S8) ((hS.trans S37).free ht) hHy hHx (Ne.symm nxy) aM (by rw [hpr];exact S8 _ _ (S47 _ _ g4)) (by rw [hpr];exact S8 _ _ g7)
def fZ (K:aa) (C:ag):Sp:=λvs H Q _=>∃ (p:ag) (r:List Int) (a:Int),vs=[.ref p,.int a]/\fg K H p (r.map V.int)/\a∈r/\r.length<=1000 /\
 ∀ l H',cB H H'->H l=none->H' l=some (.lst ((tn r (r.idxOf a)).map V.int))->Q (.ref l) H'
theorem Pq:Ln (fZ K C) 2:=by walk_at "l"
theorem Pr:Rn (fZ K C) (xF K C) ["row","a","k"]:=by
 rintro vs H Q E ⟨p,r,a,rfl,hp,ha,hl,q⟩
 unfold xF
 walk_at "x"
 refine ⟨.inl ⟨rfl,_,hp⟩,?_⟩
 walk_at "x"
 refine Q0 hp ha ?_
 walk_at "x"
 refine zS hp rfl λp1 h1=>?_
 have S1:=cB.dG (o:=.lst ((r.drop (r.idxOf a)).map V.int)) h1
 walk_at "x"
 refine Q1 (j:=1) (j':=r.idxOf a+1) (S1.seq hp) rfl (by omega) λp2 h2=>?_
 have S2:=cB.dG (o:=.lst (((r.drop 1).take (r.idxOf a+1-1)).map V.int)) h2
 refine EN (S2 _ _ aM) aM ?_ λp3 h3=>?_
 ·rw [dO,cf,dO];omega
 ·have S3:=cB.dG (o:=.lst (((r.drop (r.idxOf a))++((r.drop 1).take (r.idxOf a+1-1))).map V.int)) h3
  have S:=(S1.trans S2).trans S3
  exact q p3 _ S ((S1.trans S2).free h3) aM
def kx (K:aa) (C:ag):Sp:=λvs H Q _=>∃ (p q:ag) (r1 r2:List Int) (a b:Int),vs=[.ref p,.ref q,.int a,.int b]/\fg K H p (r1.map V.int)/\fg K H q (r2.map V.int)/\a∈r1/\b∈r2/\r1.length<=1000/\r2.length<=1000 /\
 ∀ l H',cB H H'->H l=none->H' l=some (.lst ((E4 r1 r2 a b).map V.int))->Q (.ref l) H'
theorem Ni:Ln (kx K C) 4:=by walk_at "l"
theorem Nj:Rn (kx K C) (u9 K C (fZ K C)) V1:=by
 rintro vs H Q E ⟨p,q,r1,r2,a,b,rfl,hp,hq,ha,hb,hl1,hl2,k⟩
 unfold u9
 walk_at "x"
 refine ⟨.inl ⟨rfl,_,hp⟩,?_⟩
 walk_at "x"
 refine Q0 hp ha ?_
 walk_at "x"
 refine OP (j:=r1.idxOf a+1) hp (by omega) λp1 h1=>?_
 generalize eu_:upd H p1 (.lst ((r1.take (r1.idxOf a+1)).map V.int))=H1
 obtain ⟨S1,g1⟩:=news eu_ h1
 walk_at "x"
 refine ⟨q,r2,b,rfl,S1.seq hq,hb,hl2,λt H2 S2 ht gt=>?_⟩
 have hlt:(tn r2 (r2.idxOf b)).length=r2.length:=VH (O4 hb)
 refine EN (S2 _ _ g1) gt (by rw [cf];omega) λp3 h3=>?_
 generalize eu_:upd H2 p3 (.lst ((r1.take (r1.idxOf a+1)++tn r2 (r2.idxOf b)).map V.int))=H3
 obtain ⟨S3,g3⟩:=news eu_ h3
 walk_at "x"
 have S13:=S1.trans (S2.trans S3)
 refine zS (j:=r1.idxOf a) (S13.seq hp) rfl λp4 h4=>?_
 generalize eu_:upd H3 p4 (.lst ((r1.drop (r1.idxOf a)).map V.int))=H4
 obtain ⟨S4,g4⟩:=news eu_ h4
 refine EN (S4 _ _ g3) g4 (by rw [bN,cf,dO];omega) λp5 h5=>?_
 have S5:=cB.dG (o:=.lst ((r1.take (r1.idxOf a+1)++tn r2 (r2.idxOf b)++r1.drop (r1.idxOf a)).map V.int)) h5
 refine k p5 _ ((S13.trans S4).trans S5) ((S13.trans S4).free h5) ?_
 unfold E4
 rw [← fq]
 exact aM
def mL (K:aa) (C:ag):Sp:=λ_ _ _ _=>False
theorem Pu:Ln (mL K C) 3:=λ_ _ _ _ z=>z.elim
theorem Pw:Rn (mL K C) (BA K C (fZ K C)) VV:=λ_ _ _ _ z=>z.elim
inductive Th:V->Prop
 | int (i:Int):Th (.int i)
 | bl (b:Bool):Th (.bl b)
 | non:Th .non
 | str (x:aZ):Th (.str x)
def isW:V->Bool
 | .int _=>true
 | _=>false
def jT (n:Nat):V->Bool
 | .int i=>decide (0<=i) && decide (i<n)
 | _=>false
theorem Nk {n i:Nat}(h:i<n):jT n (.int i)=true:=by
 unfold jT
 rw [dP,decide_eq_true_iff,decide_eq_true_iff];omega
theorem vg {n:Nat}{v:V}(h:jT n v=true):∃ i:Nat,i<n/\v=.int i:=by
 cases v with
 | int i =>
  unfold jT at h
  rw [dP,decide_eq_true_iff,decide_eq_true_iff] at h
  exact ⟨i.toNat,by omega,by rw [Int.toNat_of_nonneg h.1]⟩
 | _=>cases h
def eY (K:aa) (C:ag):Sp:=λvs H Q _=>∃ v:V,vs=[v]/\Th v/\Q (.bl (isW v)) H
theorem Kt:Ln (eY K C) 1:=by walk_at "l"
theorem Ku:Rn (eY K C) (tj K C) rA:=by
 rintro vs H Q E ⟨v,rfl,hv,k⟩
 unfold tj
 walk_at "x"
 cases hv with
 | int i =>
  refine sT (.int i) U2 ?_
  walk_at "x"
  refine mX ?_
  walk_at "x"
  refine sT (.int i) U3 ?_
  walk_at "x"
  exact k
 | bl b =>
  refine sT (.bl b) U4 ?_
  walk_at "x"
  refine mX ?_
  walk_at "x"
  refine sT (.bl b) ON ?_
  walk_at "x"
  exact k
 | non =>
  refine sT .non U5 ?_
  walk_at "x"
  refine jf ?_
  exact k
 | str x =>
  refine sT (.str x) U6 ?_
  walk_at "x"
  refine jf ?_
  exact k
def eZ (K:aa) (C:ag):Sp:=λvs H Q _=>∃ (n:Nat) (v:V),vs=[.int n,v]/\Th v/\Q (.bl (jT n v)) H
theorem Kv:Ln (eZ K C) 2:=by walk_at "l"
theorem Kw:Rn (eZ K C) (tq K C (eY K C)) mV:=by
 rintro vs H Q E ⟨n,v,rfl,hv,k⟩
 unfold tq
 walk_at "x"
 refine ⟨v,rfl,hv,?_⟩
 refine ⟨isW v,rfl,?_⟩
 cases hv with
 | int i =>
  refine mX ?_
  walk_at "x"
  refine vw (λh=>?_) λh=>?_
  ·walk_at "x"
   have:jT n (.int i)=decide (i<n):=by show (decide (0<=i) && decide (i<n))=_;rw [decide_eq_true h,se]
   rw [← this];exact k
  ·have:jT n (.int i)=false:=by show (decide (0<=i) && decide (i<n))=_;rw [decide_eq_false h,kJ]
   rw [← this];exact k
 | bl b=>refine jf ?_;exact k
 | non=>refine jf ?_;exact k
 | str x=>refine jf ?_;exact k
def bg (K:aa) (C:ag):Sp:=λvs H Q _=>∃ (n i:Nat),vs=[.int n,.int i]/\i<n/\Q .non H
theorem x4:Ln (bg K C) 2:=by walk_at "l"
theorem x5:Rn (bg K C) (ku K C (eZ K C)) mV:=by
 rintro vs H Q E ⟨n,i,rfl,hi,k⟩
 unfold ku
 walk_at "x"
 refine ⟨n,.int i,rfl,.int _,?_⟩
 rw [Nk hi]
 refine ⟨true,rfl,?_⟩
 refine jf ?_
 walk_at "x"
 exact k
def b0 (K:aa) (C:ag):Sp:=λvs H Q _=>∃ (n i j:Nat),vs=[.int n,.int i,.int j]/\i<n/\j<n/\Q .non H
theorem wI:Ln (b0 K C) 3:=by walk_at "l"
theorem wJ:Rn (b0 K C) (jJ K C (bg K C)) pO:=by
 rintro vs H Q E ⟨n,i,j,rfl,hi,hj,k⟩
 unfold jJ
 walk_at "x"
 refine ⟨n,i,rfl,hi,?_⟩
 walk_at "x"
 refine ⟨n,j,rfl,hj,?_⟩
 exact k
def aQ (K:aa) (C:ag):Sp:=λvs H Q _=>∃ (n i j:Nat),vs=[.int n,.int i,.int j]/\i<n/\j<n/\i≠j/\Q .non H
theorem y9:Ln (aQ K C) 3:=by walk_at "l"
theorem za:Rn (aQ K C) (lJ K C (b0 K C)) pO:=by
 rintro vs H Q E ⟨n,i,j,rfl,hi,hj,hij,k⟩
 unfold lJ
 walk_at "x"
 refine ⟨n,i,j,rfl,hi,hj,?_⟩
 walk_at "x"
 refine vw (λz=>absurd (lU.mp z) (by omega)) λ_=>?_
 walk_at "x"
 exact k
theorem qh {K:aa}{ta tv:TE}{f:aZ}{D:ug}{Z:L2.St}{H:Hp}(h:tv Z H λy H1=>ta Z H1 λx H2=>∃ a C dx fs,x=.ref a/\H2 a=some (.ins C dx fs)/\GW K C/\fi K C f/\fs.length<1000/\D.nx Z (upd H2 a (.ins C dx (fE f y fs)))):sL K ta tv f D Z H:=h
theorem kn:¬ (("n":aZ)="rows"):=by decide +kernel
def Kx (n:Nat) (l:ag):List (aZ×V):=fE "rows" (.ref l) (fE "n" (.int n) [])
theorem lz (n:Nat) (l:ag):(Kx n l).lookup ("rows":aZ)=some (.ref l):=by unfold Kx;rw [gU,if_pos rfl]
theorem wK (n:Nat) (l:ag):(Kx n l).lookup ("n":aZ)=some (.int n):=by unfold Kx;rw [gU,if_neg kn,gU,if_pos rfl]
theorem lL (n:Nat) (l:ag) {m:aZ}(h1:¬ m="rows":=by decide +kernel) (h2:¬ m="n":=by decide +kernel):(Kx n l).lookup m=none:=by
 unfold Kx;rw [gU,if_neg h1,gU,if_neg h2];rfl
structure CT (K:aa) (C:ag):Prop where
 cl:GW K C
 n:fi K C "n"
 rows:fi K C "rows"
structure WA (C:ag) (H:Hp) (p dx l:ag) (n:Nat) (as:List ag) (R:Nat->List Int):Prop where
 ob:H p=some (.ins C dx (Kx n l))
 rl:H l=some (.lst (as.map V.ref))
 len:as.length=n
 at_:∀ i a,as[i]?=some a->H a=some (.lst ((R i).map V.int))
 ne:∀ a∈as,a≠l
theorem WA.get {C:ag}{H:Hp}{p dx l:ag}{n:Nat}{as:List ag}{R:Nat->List Int}(W:WA C H p dx l n as R) {i:Nat}(hi:i<n):∃ a,as[i]?=some a/\H a=some (.lst ((R i).map V.int))/\a≠l:=by
 have h:i<as.length:=by rw [W.len];exact hi
 exact ⟨as[i],aD h,W.at_ i _ (aD h),W.ne _ (iG h)⟩
theorem WA.same {C:ag}{H H':Hp}{p dx l:ag}{n:Nat}{as:List ag}{R:Nat->List Int}(W:WA C H p dx l n as R) (S:cB H H'):WA C H' p dx l n as R :=
 ⟨S _ _ W.ob,S _ _ W.rl,W.len,λi a h=>S _ _ (W.at_ i a h),W.ne⟩
def fH (K:aa) (C:ag):Sp:=λvs H Q _=>∃ (p dx:ag) (n:Nat),vs=[.ref p,.int n]/\H p=some (.ins C dx [])/\CT K C/\n<=1000/\∀ (l:ag) (as:List ag) (H':Hp),WA C H' p dx l n as (λi=>[(i:Int)])->H l=none->bS p H H'->Q .non H'
theorem Am:Ln (fH K C) 2:=by walk_at "l"
theorem An:Rn (fH K C) (mI K C) qb:=by
 rintro vs H Q E ⟨p,dx,n,rfl,hp,ct,hn,k⟩
 unfold mI
 walk_at "x1"
 refine qh ?_
 walk_at "x"
 refine ⟨p,C,dx,[],rfl,hp,ct.cl,ct.n,by decide,?_⟩
 dsimp only
 refine qh ?_
 walk_at "x"
 refine ⟨by omega,by omega,λacc hacc=>?_⟩
 have e0:((n:Int)).toNat=n:=by omega
 rw [e0]
 have hap:acc≠p:=λe=>by rw [e,aM] at hacc;cases hacc
 have hacc0:H acc=none:=by rw [aJ hap] at hacc;exact hacc
 have g0:(upd H p (.ins C dx (fE "n" (.int n) []))) p=some (.ins C dx (fE "n" (.int n) [])):=aM
 have B0:bS p H (upd H p (.ins C dx (fE "n" (.int n) []))):=bS.upd
 generalize upd H p (.ins C dx (fE "n" (.int n) []))=H0 at hacc g0 B0
 refine rJ (n:=n) (λt ys H1=>∃ as:List ag,ys=as.map V.ref/\as.length=t/\H1 acc=some (.lst ys)/\cB H0 H1/\∀ (i:Nat) a,as[i]?=some a->a≠acc/\H1 a=some (.lst ([(i:Int)].map V.int))) (λZ=>∃ o,Z=[o]) ⟨[],rfl,rfl,aM,cB.dG hacc,λi a h=>by simp at h⟩ ⟨_,rfl⟩ ?_ ?_ ?_ ?_
 ·rintro t ys H1 ⟨_,_,_,h,_⟩;exact h
 ·rintro ys H1 ⟨as,rfl,hl,g1,S1,hA⟩
  refine ⟨ax n,?_⟩
  walk_at "x"
  refine ⟨p,C,dx,_,rfl,S1 _ _ g0,ct.cl,ct.rows,by show 1<1000;decide,?_⟩
  have hb:bS p H1 (upd H1 p (.ins C dx (Kx n acc))):=bS.upd
  have nl:∀ {b:ag}{xs:List V},H1 b=some (.lst xs)->b≠p:=λe z=>by rw [z,S1 _ _ g0] at e;cases e
  refine k acc as _ ⟨aM,hb _ _ g1 hap,hl,λi a ha=>hb _ _ (hA i a ha).2 (nl (hA i a ha).2),λa ha=>?_⟩ hacc0 λb o e hne=>hb _ _ (S1 _ _ (B0 _ _ e hne)) hne
  obtain ⟨i,hi⟩:=bU.mp ha
  exact (hA i a hi).1
 ·rintro t ys H1 ht _;exact ht
 ·rintro t ys σ' H1 x H2 ht ⟨as,rfl,hl,g1,S1,hA⟩ ⟨o,rfl⟩ ⟨eH,ex⟩
  subst eH ex
  walk_at "x"
  refine mX ?_
  walk_at "x"
  refine ⟨bA (m:=1) (ax 1),λq hq=>?_⟩
  have T:=cB.dG (o:=.lst [.int (0+(t:Int))]) hq
  have u:(upd H2 q (.lst [.int (0+(t:Int))])) q=some (.lst ([(t:Int)].map V.int)):=by rw [aM];simp
  generalize upd H2 q (.lst [.int (0+(t:Int))])=H3 at T u
  have hqa:q≠acc:=Ne.symm (aP g1 hq)
  refine ⟨T _ _ g1,iP (m:=10000) (by rw [aj];omega),oC.mk' ht ⟨_,rfl⟩ ⟨as++[q],by simp,by simp [hl],aM,λb o e=>by rw [aJ (aP e hacc)];exact T _ _ (S1 _ _ e),λi a ha=>?_⟩⟩
  by_cases hi:i<as.length
  ·rw [ij hi] at ha
   obtain ⟨h1,h2⟩:=hA i a ha
   exact ⟨h1,by rw [aJ h1];exact T _ _ h2⟩
  ·rw [fO (by omega)] at ha
   have:i=as.length:=by
    have:=(aC.mp ha).1
    simp at this;omega
   subst this
   simp at ha
   subst ha
   rw [hl]
   exact ⟨hqa,by rw [aJ hqa];exact u⟩
def dr (K:aa) (C:ag):Sp:=λvs H Q _=>∃ (p dx l q:ag) (n:Nat) (as:List ag) (s:List Int),vs=[.ref p,.ref q]/\CT K C/\H p=some (.ins C dx (Kx n l))/\H l=some (.lst (as.map V.ref))/\as.length=n/\H q=some (.lst (s.map V.int))/\q≠l/\(∀ x∈s,∃ j:Nat,j<n/\x=(j:Int)) /\
 ∀ (as':List ag) H',as'.length=n->(∀ (i:Nat) (a:ag),as[i]?=some a->as'[i]?=some (if (i:Int)∈s then q else a))->H' l=some (.lst (as'.map V.ref))->bS l H H'->Q .non H'
theorem Hz:Ln (dr K C) 2:=by walk_at "l"
theorem HA:Rn (dr K C) (rN K C) V5:=by
 rintro vs H Q E ⟨p,dx,l,q,n,as,s,rfl,ct,hp,hl,hn,hq,hql,hs,k⟩
 have hpl:p≠l:=jG hp hl
 unfold rN wC
 walk_at "x"
 refine .inl ⟨⟨_,fg.of hq⟩,oK (K:=K) (a:=q) (xs:=s.map V.int) (λi Z H1=>∃ (as':List ag) (o:Option V),Z=[some (.ref p),some (.ref q),o]/\as'.length=n/\(∀ (j:Nat) (a:ag),as[j]?=some a->as'[j]?=some (if (j:Int)∈s.take i then q else a))/\H1 l=some (.lst (as'.map V.ref))/\bS l H H1)
  ⟨as,_,rfl,hn,λj a h=>by simpa using h,hl,bS.refl _ _⟩ ?_ ?_ ?_⟩
 ·rintro i Z H1 _ ⟨as',o,_,_,_,_,B⟩;exact fg.of (B _ _ hq hql)
 ·rintro i x Z H1 hi ⟨as',o,rfl,hn',hA,g1,B⟩
  rw [aG] at hi
  obtain ⟨c,hc,ex⟩:=bV.mp hi
  have ex:x=V.int c:=ex.symm
  subst ex
  obtain ⟨j,hj,rfl⟩:=hs c (a9 hc)
  walk_at "f"
  refine ⟨p,C,dx,_,_,rfl,B _ _ hp hpl,ct.cl,ct.rows,lz _ _,?_⟩
  walk_at "x"
  refine aay g1 (aaG (j:=j) rfl (by rw [aj];omega)) ?_
  refine ⟨as'.set j q,_,rfl,by simpa using hn',λk' a ha=>?_,?_,λb o' e hb=>by rw [aJ hb];exact B _ _ e hb⟩
  ·have e1:s.take (i+1)=s.take i++[(j:Int)]:=by rw [List.take_succ,hc];rfl
   rw [e1]
   by_cases hk:k'=j
   ·subst hk
    rw [lN (by rw [hn',← hn];exact (aC.mp ha).1),if_pos (by simp)]
   ·rw [sg (Ne.symm hk),hA k' a ha]
    have:((k':Int)∈s.take i++[(j:Int)])↔(k':Int)∈s.take i:=by
     simp only [a7,aF]
     exact ⟨λh=>h.elim id λe=>absurd (by omega) hk,.inl⟩
    by_cases c1:(k':Int)∈s.take i
    ·rw [if_pos c1,if_pos (this.mpr c1)]
    ·rw [if_neg c1,if_neg (λh=>c1 (this.mp h))]
  ·rw [aM,List.map_set]
 ·rintro Z H1 ⟨as',o,rfl,hn',hA,g1,B⟩
  rw [aj,ZW] at hA
  exact k as' H1 hn' hA g1 B
def cY (K:aa) (C:ag):Sp:=λvs H Q _=>∃ (p dx l:ag) (n a b:Nat) (as:List ag) (R:Nat->List Int),vs=[.ref p,.int a,.int b]/\CT K C/\WA C H p dx l n as R/\Wd n R/\a<n/\b<n/\Q (.bl (decide ((b:Int)∈R a))) H
theorem Dj:Ln (cY K C) 3:=by walk_at "l"
theorem Dk:Rn (cY K C) (oY K C (b0 K C)) gf:=by
 rintro vs H Q E ⟨p,dx,l,n,a,b,as,R,rfl,ct,W,D,ha,hb,k⟩
 obtain ⟨ra,e1,e2,_⟩:=W.get ha
 obtain ⟨rb,f1,f2,_⟩:=W.get hb
 have hd:∀ i,i<n->∃ x,(R i)[0]?=some x/\(R i).head?=some x:=λi hi=>by
  cases h:R i with
  | nil=>exact absurd h (D.r i hi).ne
  | cons x t=>exact ⟨x,rfl,rfl⟩
 obtain ⟨x,hx,hx'⟩:=hd a ha
 obtain ⟨y,hy,hy'⟩:=hd b hb
 have hj:=D.head ha hb
 rw [hx',hy'] at hj
 unfold oY
 walk_at "f"
 refine ⟨p,C,dx,_,_,rfl,W.ob,ct.cl,ct.n,wK _ _,?_⟩
 walk_at "x"
 refine ⟨n,a,b,rfl,ha,hb,?_⟩
 walk_at "f"
 refine ⟨p,C,dx,_,_,rfl,W.ob,ct.cl,ct.rows,lz _ _,?_⟩
 walk_at "x"
 refine oz (fg.of W.rl) (fG (j:=a) rfl (by rw [aG,e1];rfl)) ?_
 walk_at "x"
 refine MC (fg.of e2) (j:=0) rfl hx ?_
 walk_at "f"
 refine ⟨p,C,dx,_,_,rfl,W.ob,ct.cl,ct.rows,lz _ _,?_⟩
 walk_at "x"
 refine oz (fg.of W.rl) (fG (j:=b) rfl (by rw [aG,f1];rfl)) ?_
 walk_at "x"
 refine MC (fg.of f2) (j:=0) rfl hy ?_
 walk_at "x"
 have e:decide (V.int x=V.int y)=decide ((b:Int)∈R a):=by
  rw [jH,decide_eq_true_iff,decide_eq_true_iff,lU,← hj]
  exact ⟨λh=>by rw [h],λh=>aX h⟩
 rw [e]
 exact k
def dt (K:aa) (C:ag):Sp:=λvs H Q _=>∃ (p dx l:ag) (n a b:Nat) (as:List ag) (R:Nat->List Int),vs=[.ref p,.int a,.int b]/\CT K C/\WA C H p dx l n as R/\Wd n R/\n<=200/\a<n/\b<n/\(b:Int)∉R a /\
 ∀ (as':List ag) H',WA C H' p dx l n as' (lk R a b)->bS l H H'->Q .non H'
theorem HB:Ln (dt K C) 3:=by walk_at "l"
theorem HC:Rn (dt K C) (rO K C (aQ K C) (cY K C) (dr K C) (kx K C)) gf:=by
 rintro vs H Q E ⟨p,dx,l,n,a,b,as,R,rfl,ct,W,D,hn,ha,hb,hm,k⟩
 obtain ⟨ra,e1,e2,_⟩:=W.get ha
 obtain ⟨rb,f1,f2,_⟩:=W.get hb
 have hla:=D.len ha
 have hlb:=D.len hb
 have hab:a≠b:=λe=>hm (e▸D.me a ha)
 obtain ⟨T2,D2,E2⟩:=D.link ha hb hm
 unfold rO
 walk_at "f"
 refine ⟨p,C,dx,_,_,rfl,W.ob,ct.cl,ct.n,wK _ _,?_⟩
 walk_at "x"
 refine ⟨n,a,b,rfl,ha,hb,hab,?_⟩
 walk_at "m"
 refine ⟨p,dx,_,rfl,W.ob,lL _ _,?_⟩
 walk_at "x"
 refine ⟨p,dx,l,n,a,b,as,R,rfl,ct,W,D,ha,hb,?_⟩
 refine ⟨_,rfl,?_⟩
 refine vw (λz=>absurd z hm) λ_=>?_
 walk_at "m"
 refine ⟨p,dx,_,rfl,W.ob,lL _ _,?_⟩
 walk_at "f"
 refine ⟨p,C,dx,_,_,rfl,W.ob,ct.cl,ct.rows,lz _ _,?_⟩
 walk_at "x"
 refine oz (fg.of W.rl) (fG (j:=a) rfl (by rw [aG,e1];rfl)) ?_
 walk_at "f"
 refine ⟨p,C,dx,_,_,rfl,W.ob,ct.cl,ct.rows,lz _ _,?_⟩
 walk_at "x"
 refine oz (fg.of W.rl) (fG (j:=b) rfl (by rw [aG,f1];rfl)) ?_
 walk_at "x"
 refine ⟨ra,rb,R a,R b,a,b,rfl,fg.of e2,fg.of f2,D.me a ha,D.me b hb,by omega,by omega,λq H1 S1 hq gq=>?_⟩
 walk_at "x"
 have W1:=W.same S1
 have hql:q≠l:=Ne.symm (aP W.rl hq)
 refine ⟨p,dx,l,q,n,as,_,rfl,ct,W1.ob,W1.rl,W.len,gq,hql,λx hx=>?_,λas' H2 hl2 hA g2 B2=>?_⟩
 ·rcases (T2.mem x).mp hx with h|h
  ·obtain ⟨j,hj,e,_⟩:=D.Om a ha x h;exact ⟨j,hj,e⟩
  ·obtain ⟨j,hj,e,_⟩:=D.Om b hb x h;exact ⟨j,hj,e⟩
 ·have hpl:p≠l:=jG W.ob W.rl
  have hAt:∀ (i:Nat) (c:ag),as'[i]?=some c->∃ c0,as[i]?=some c0/\c=if (i:Int)∈E4 (R a) (R b) a b then q else c0:=λi c hc=>by
   have hi:i<as.length:=by rw [W.len,← hl2];exact (aC.mp hc).1
   have:=hA i _ (aD hi)
   rw [hc] at this
   exact ⟨_,aD hi,aX this⟩
  refine k as' H2 ⟨B2 _ _ W1.ob hpl,g2,hl2,λi c hc=>?_,λc hc=>?_⟩ (λb' o e hne=>B2 _ _ (S1 _ _ e) hne)
  ·obtain ⟨c0,h0,ec⟩:=hAt i c hc
   show H2 c=some (.lst ((if (i:Int)∈E4 (R a) (R b) a b then E4 (R a) (R b) a b else R i).map V.int))
   by_cases ci:(i:Int)∈E4 (R a) (R b) a b
   ·rw [if_pos ci] at ec ⊢
    rw [ec];exact B2 _ _ gq hql
   ·rw [if_neg ci] at ec ⊢
    rw [ec];exact B2 _ _ (W1.at_ i c0 h0) (W.ne _ (a9 h0))
  ·obtain ⟨i,hi⟩:=bU.mp hc
   obtain ⟨c0,h0,ec⟩:=hAt i c hi
   by_cases ci:(i:Int)∈E4 (R a) (R b) a b
   ·rw [if_pos ci] at ec;rw [ec];exact hql
   ·rw [if_neg ci] at ec;rw [ec];exact W.ne _ (a9 h0)
def iz (K:aa) (C:ag):Sp:=λvs H Q _=>∃ (p dx l:ag) (n a b:Nat) (as:List ag) (R:Nat->List Int),vs=[.ref p,.int a,.int b]/\CT K C/\WA C H p dx l n as R/\Wd n R/\n<=200/\a<n/\b<n/\a≠b/\Ed n R a b /\
 ∀ (as':List ag) H',WA C H' p dx l n as' (Rm.ct R a b)->bS l H H'->Q .non H'
theorem Kz:Ln (iz K C) 3:=by walk_at "l"
theorem KA:Rn (iz K C) (tE K C (aQ K C) (jS K C) (cH K C) (dr K C)) V3:=by
 rintro vs H Q E ⟨p,dx,l,n,a,b,as,R,rfl,ct,W,D,hn,ha,hb,hab,hE,k⟩
 obtain ⟨ra,e1,e2,_⟩:=W.get ha
 have hla:=D.len ha
 have hm:=Ed.at D hE ha (D.me a ha)
 have hm':=(D.r a ha).sym _ _ hm
 have P:=(D.r a ha).parted hm (by omega:(a:Int)≠b)
 have PM:=P.mem (D.r a ha)
 have hpl:p≠l:=jG W.ob W.rl
 unfold tE
 walk_at "f"
 refine ⟨p,C,dx,_,_,rfl,W.ob,ct.cl,ct.n,wK _ _,?_⟩
 walk_at "x"
 refine ⟨n,a,b,rfl,ha,hb,hab,?_⟩
 walk_at "x"
 refine ⟨bA (m:=2) (ax 2),λt ht=>?_⟩
 generalize eu_:upd H t (.tup [.int (a:Int),.int (b:Int)])=H1
 obtain ⟨S1,g1⟩:=news eu_ ht
 have W1:=W.same S1
 walk_at "f"
 refine ⟨p,C,dx,_,_,rfl,W1.ob,ct.cl,ct.rows,lz _ _,?_⟩
 walk_at "x"
 refine oz (fg.of W1.rl) (fG (j:=a) rfl (by rw [aG,e1];rfl)) ?_
 walk_at "x"
 refine ⟨ra,R a,rfl,fg.of (S1 _ _ e2),by omega,λz H2 zs S2 hz gz pz ez=>?_⟩
 refine U1 (Pn (S2 _ _ g1)) (Pl gz pz) (Ks _) (jo _ (Al _)) ?_
 have hin:(((zs.map zP).map GV).any λe=>fh e (GV ((a:Int),(b:Int))))=true:=by
  rw [ez,RU,G5]
  exact ⟨_,hm,by simp [Fy]⟩
 rw [hin]
 walk_at "x"
 refine jf ?_
 have S12:=S1.trans S2
 have W2:=W.same S12
 walk_at "x"
 unfold yt
 walk_at "f"
 refine ⟨p,C,dx,_,_,rfl,W2.ob,ct.cl,ct.rows,lz _ _,?_⟩
 walk_at "x"
 refine oz (fg.of W2.rl) (fG (j:=a) rfl (by rw [aG,e1];rfl)) ?_
 walk_at "x"
 refine ⟨ra,R a,a,b,rfl,fg.of (S12 _ _ e2),by omega,hm,hm',λu x y H3 S3 hu hx hy hxy gu gx gy=>?_⟩
 have S13:=S12.trans S3
 have W3:=W.same S13
 have hxl:x≠l:=Ne.symm (aP W2.rl hx)
 have hyl:y≠l:=Ne.symm (aP W2.rl hy)
 have hul:u≠l:=Ne.symm (aP W2.rl hu)
 have jin:∀ z,z∈R a->∃ j:Nat,j<n/\z=(j:Int):=λz hz=>let ⟨j,hj,e,_⟩:=D.Om a ha z hz;⟨j,hj,e⟩
 have ectR:∀ i:Nat,Rm.ct R a b i=if (i:Int)∈(A7 (R a) a b).2 then (A7 (R a) a b).2 else if (i:Int)∈(A7 (R a) a b).1 then (A7 (R a) a b).1 else R i:=λ_=>rfl
 generalize (A7 (R a) a b).1=X at P PM gx ectR
 generalize (A7 (R a) a b).2=Y at P PM gy ectR
 walk_at "x"
 refine .inr (.inl ⟨⟨_,sG.of gu⟩,XD (K:=K) (a:=u) (xs:=[.ref x,.ref y]) (λi Z H4=>∃ (as1:List ag) (o:Option V),Z=[some (.ref p),some (.int (a:Int)),some (.int (b:Int)),o]/\as1.length=n/\H4 l=some (.lst (as1.map V.ref))/\bS l H3 H4 /\
  ∀ (j:Nat) (c:ag),as[j]?=some c->as1[j]?=some (if 2<=i/\(j:Int)∈Y then y else if 1<=i/\(j:Int)∈X then x else c)) ⟨as,_,rfl,W.len,W3.rl,bS.refl _ _,λj c h=>by rw [if_neg (λz=>by omega),if_neg (λz=>by omega)];exact h⟩ ?_ ?_ ?_⟩)
 ·rintro i Z H4 _ ⟨_,_,_,_,_,B,_⟩;exact sG.of (B _ _ gu hul)
 ·rintro i v Z H4 hi ⟨as1,o,rfl,hl1,g4,B,hA⟩
  obtain ⟨q,s,hql,gq,hs,ev,hif⟩:∃ (q:ag) (s:List Int),q≠l/\H3 q=some (.lst (s.map V.int))/\(∀ z∈s,∃ j:Nat,j<n/\z=(j:Int))/\v=.ref q/\(∀ (j:Nat) (c:ag),(if (j:Int)∈s then q else if 2<=i/\(j:Int)∈Y then y else if 1<=i/\(j:Int)∈X then x else c)=if 2<=i+1/\(j:Int)∈Y then y else if 1<=i+1/\(j:Int)∈X then x else c):=by
   rcases (show i=0\/i=1 by have:=(aC.mp hi).1;simp at this;omega) with rfl|rfl
   ·refine ⟨x,X,hxl,gx,λz hz=>jin z ((PM z).mpr (.inl hz)),by simpa using hi.symm,λj c=>?_⟩
    by_cases c1:(j:Int)∈X<;>simp [c1]
   ·refine ⟨y,Y,hyl,gy,λz hz=>jin z ((PM z).mpr (.inr hz)),by simpa using hi.symm,λj c=>?_⟩
    by_cases c2:(j:Int)∈Y<;>by_cases c1:(j:Int)∈X<;>simp [c1,c2]
  subst ev
  walk_at "m"
  refine ⟨p,dx,_,rfl,B _ _ W3.ob hpl,lL _ _,?_⟩
  walk_at "x"
  refine ⟨p,dx,l,q,n,as1,s,rfl,ct,B _ _ W3.ob hpl,g4,hl1,B _ _ gq hql,hql,hs,λas2 H5 hl2 hA2 g5 B5=>?_⟩
  refine ⟨as2,_,rfl,hl2,g5,λb' o' e hne=>B5 _ _ (B _ _ e hne) hne,λj c hc=>?_⟩
  rw [hA2 j _ (hA j c hc),hif j c]
 ·rintro Z H4 ⟨as2,o,rfl,hl2,g4,B,hA⟩
  have hAt:∀ (i:Nat) (c:ag),as2[i]?=some c->∃ c0,as[i]?=some c0/\c=if (i:Int)∈Y then y else if (i:Int)∈X then x else c0:=λi c hc=>by
   have hi:i<as.length:=by rw [W.len,← hl2];exact (aC.mp hc).1
   have:=hA i _ (aD hi)
   rw [hc] at this
   refine ⟨_,aD hi,(aX this).trans ?_⟩
   show (if 2<=2/\(i:Int)∈Y then y else if 1<=2/\(i:Int)∈X then x else as[i])=_
   simp
  refine k as2 H4 ⟨B _ _ W3.ob hpl,g4,hl2,λi c hc=>?_,λc hc=>?_⟩ (λb' o' e hne=>B _ _ (S13 _ _ e) hne)
  ·obtain ⟨c0,h0,ec⟩:=hAt i c hc
   rw [ectR]
   by_cases c2:(i:Int)∈Y
   ·rw [if_pos c2] at ec ⊢
    rw [ec];exact B _ _ gy hyl
   ·rw [if_neg c2] at ec ⊢
    by_cases c1:(i:Int)∈X
    ·rw [if_pos c1] at ec ⊢
     rw [ec];exact B _ _ gx hxl
    ·rw [if_neg c1] at ec ⊢
     rw [ec];exact B _ _ (W3.at_ i c0 h0) (W.ne _ (a9 h0))
  ·obtain ⟨i,hi⟩:=bU.mp hc
   obtain ⟨c0,h0,ec⟩:=hAt i c hi
   by_cases c2:(i:Int)∈Y
   ·rw [if_pos c2] at ec;rw [ec];exact hyl
   ·rw [if_neg c2] at ec
    by_cases c1:(i:Int)∈X
    ·rw [if_pos c1] at ec;rw [ec];exact hxl
    ·rw [if_neg c1] at ec;rw [ec];exact W.ne _ (a9 h0)
def ib (K:aa) (C:ag):Sp:=λvs H Q _=>∃ (p dx l:ag) (n a:Nat) (as:List ag) (R:Nat->List Int),vs=[.ref p,.int a]/\CT K C/\WA C H p dx l n as R/\Wd n R/\(R a).length<=125/\a<n /\
 ∀ q (ks:List Int),H q=none->ks.Pairwise (· < ·)->(∀ x,x∈ks↔x∈R a)->Q (.ref q) (upd H q (.lst (ks.map V.int)))
theorem Fz:Ln (ib K C) 2:=by walk_at "l"
theorem FA:Rn (ib K C) (qy K C (bg K C)) kM:=by
 rintro vs H Q E ⟨p,dx,l,n,a,as,R,rfl,ct,W,D,hn,ha,k⟩
 obtain ⟨ra,e1,e2,_⟩:=W.get ha
 unfold qy
 walk_at "f"
 refine ⟨p,C,dx,_,_,rfl,W.ob,ct.cl,ct.n,wK _ _,?_⟩
 walk_at "x"
 refine ⟨n,a,rfl,ha,?_⟩
 walk_at "x"
 refine Sv ?_
 walk_at "f"
 refine ⟨p,C,dx,_,_,rfl,W.ob,ct.cl,ct.rows,lz _ _,?_⟩
 walk_at "x"
 refine oz (fg.of W.rl) (fG (j:=a) rfl (by rw [aG,e1];rfl)) ?_
 walk_at "x"
 refine ⟨ra,R a,rfl,fg.of e2,by omega,?_,λq ks hq h1 h2=>k q ks hq h1 h2⟩
 obtain ⟨ds,d1,d2,d3⟩:=(D.r a ha).cnt
 exact ⟨ds,by omega,λx hx=>(d2 x).mpr hx⟩
def ic (K:aa) (C:ag):Sp:=λvs H Q _=>∃ (p dx l:ag) (n a:Nat) (as:List ag) (R:Nat->List Int),vs=[.ref p,.int a]/\CT K C/\WA C H p dx l n as R/\Wd n R/\a<n/\Q (.int ((((R a).length:Int)+1)/2)) H
theorem HD:Ln (ic K C) 2:=by walk_at "l"
theorem HE:Rn (ic K C) (rP K C (bg K C)) kM:=by
 rintro vs H Q E ⟨p,dx,l,n,a,as,R,rfl,ct,W,D,ha,k⟩
 obtain ⟨ra,e1,e2,_⟩:=W.get ha
 unfold rP
 walk_at "f"
 refine ⟨p,C,dx,_,_,rfl,W.ob,ct.cl,ct.n,wK _ _,?_⟩
 walk_at "x"
 refine ⟨n,a,rfl,ha,?_⟩
 walk_at "f"
 refine ⟨p,C,dx,_,_,rfl,W.ob,ct.cl,ct.rows,lz _ _,?_⟩
 walk_at "x"
 refine oz (fg.of W.rl) (fG (j:=a) rfl (by rw [aG,e1];rfl)) ?_
 walk_at "x"
 refine OQ (fg.of e2) ?_
 walk_at "x"
 exact k
end K32
namespace K32
open Rm
variable {K:aa}{C:ag}{A:CA}{X:EC}{Pt:ag}
def Nl:V->Bool
 | .int i=>decide (1<=i) && decide (i<=200)
 | _=>false
theorem We {n:Nat}(h1:1<=n) (h2:n<=200):Nl (.int n)=true:=by
 unfold Nl
 rw [dP,decide_eq_true_iff,decide_eq_true_iff];omega
def e9 (K:aa) (C:ag):Sp:=λvs H Q _=>∃ v:V,vs=[v]/\Th v/\Q (.bl (Nl v)) H
theorem KB:Ln (e9 K C) 1:=by walk_at "l"
theorem KC:Rn (e9 K C) (tm K C (eY K C)) rA:=by
 rintro vs H Q E ⟨v,rfl,hv,k⟩
 unfold tm
 walk_at "x"
 refine ⟨v,rfl,hv,?_⟩
 refine ⟨isW v,rfl,?_⟩
 cases hv with
 | int i =>
  refine mX ?_
  walk_at "x"
  refine vw (λh=>?_) λh=>?_
  ·walk_at "x"
   have:Nl (.int i)=decide (i<=200):=by show (decide (1<=i) && decide (i<=200))=_;rw [decide_eq_true h,se]
   rw [← this];exact k
  ·have:Nl (.int i)=false:=by show (decide (1<=i) && decide (i<=200))=_;rw [decide_eq_false h,kJ]
   rw [← this];exact k
 | bl b=>refine jf ?_;exact k
 | non=>refine jf ?_;exact k
 | str x=>refine jf ?_;exact k
def Top (n:Int) (j:Nat):Prop:=(j=0\/2*(2:Int)^j<=n)/\n<4*(2:Int)^j
def m5 (K:aa) (C:ag):Sp:=λvs H Q _=>∃ n:Int,vs=[.int n]/\∀ j:Nat,Top n j->Q (.int j) H
theorem Yr:Ln (m5 K C) 1:=by walk_at "l"
theorem Nm (j:Nat):(0:Int)<2^j:=Int.pow_pos (by decide)
theorem Ys:Rn (m5 K C) (Kk K C) V4:=by
 rintro vs H Q E ⟨n,rfl,k⟩
 unfold Kk
 walk_at "x"
 unfold M9
 refine My (λZ H'=>H'=H/\∃ j:Nat,Z=[some (.int n),some (.int j),some (.int (4*2^j))]/\(j=0\/2*(2:Int)^j<=n)) (λZ _=>match Z with|[_,_,some (.int p)]=>(n+1-p).toNat|_=>0) ⟨rfl,0,rfl,.inl rfl⟩ ?_
 rintro Z H' ⟨rfl,j,rfl,hj⟩
 have hp:=Nm j
 walk_at "x"
 refine vw (λh=>⟨_,Zm,?_⟩) λh=>?_
 ·walk_at "x"
  refine ⟨⟨rfl,j+1,?_,.inr ?_⟩,?_⟩
  ·have e:(4*2^j*2:Int)=4*2^(j+1):=by rw [yn];omega
   show [some (V.int n),some (V.int ((j:Int)+1)),some (V.int (4*2^j*2))]=_
   rw [e];rfl
  ·rw [yn];omega
  ·show (n+1-4*2^j*2).toNat<(n+1-4*2^j).toNat
   omega
 ·walk_at "x"
  exact k j ⟨hj,by omega⟩
def cP (K:aa) (C:ag):Sp:=λvs H Q _=>∃ a b:Nat,vs=[.int a,.int b]/\∀ p,H p=none->Q (.ref p) (upd H p (.tup [.int (min a b:Nat),.int (max a b:Nat)]))
theorem Px:Ln (cP K C) 2:=by walk_at "l"
theorem Py:Rn (cP K C) (xD K C) yp:=by
 rintro vs H Q E ⟨a,b,rfl,k⟩
 unfold xD
 walk_at "x"
 refine vw (λh=>?_) λh=>?_
 ·rw [show min a b=a by omega,show max a b=b by omega] at k
  walk_at "x"
  exact ⟨bA (m:=2) (ax 2),k⟩
 ·rw [show min a b=b by omega,show max a b=a by omega] at k
  walk_at "x"
  exact ⟨bA (m:=2) (ax 2),k⟩
abbrev pk (x y:Nat):List kg:=[gH (x:Int),gH (y:Int)]
def kC (K:aa) (C:ag):Sp:=λvs H Q _=>∃ (n a b:Nat) (d:ag) (kvs:List (List kg×V)),vs=[.int n,.ref d,.int a,.int b]/\a<n/\b<n/\a≠b/\H d=some (.dT kvs)/\mC kvs (pk (min a b) (max a b))=none /\
 ∀ p,H p=none->Q (.ref p) (upd H p (.tup [.int (min a b:Nat),.int (max a b:Nat)]))
theorem Nn:Ln (kC K C) 4:=by walk_at "l"
theorem Np:Rn (kC K C) (vc K C (aQ K C) (cP K C)) Hg:=by
 rintro vs H Q E ⟨n,a,b,d,kvs,rfl,ha,hb,hab,hd,hk,k⟩
 unfold vc
 walk_at "x"
 refine ⟨n,a,b,rfl,ha,hb,hab,?_⟩
 walk_at "x"
 refine ⟨a,b,rfl,λp hp=>?_⟩
 walk_at "x"
 have gd:(upd H p (.tup [.int (min a b:Nat),.int (max a b:Nat)])) d=some (.dT kvs):=by rw [aJ (aP hd hp)];exact hd
 refine .inr ⟨d,_,rfl,Cp.t (k:=pk (min a b) (max a b)) gd aM,?_⟩
 rw [hk]
 walk_at "x"
 rw [if_neg (by simp)]
 walk_at "x"
 exact k p hp
def gh (K:aa) (C:ag):Sp:=λvs H Q _=>∃ (n a b:Nat) (d:ag) (kvs:List (List kg×V)),vs=[.int n,.ref d,.int a,.int b]/\a<n/\b<n/\a≠b/\H d=some (.dT kvs)/\(mC kvs (pk (min a b) (max a b))).isSome=true /\
 ∀ p,H p=none->Q (.ref p) (upd H p (.tup [.int (min a b:Nat),.int (max a b:Nat)]))
theorem BG:Ln (gh K C) 4:=by walk_at "l"
theorem BH:Rn (gh K C) (nV K C (aQ K C) (cP K C)) Hg:=by
 rintro vs H Q E ⟨n,a,b,d,kvs,rfl,ha,hb,hab,hd,hk,k⟩
 unfold nV
 walk_at "x"
 refine ⟨n,a,b,rfl,ha,hb,hab,?_⟩
 walk_at "x"
 refine ⟨a,b,rfl,λp hp=>?_⟩
 walk_at "x"
 have gd:(upd H p (.tup [.int (min a b:Nat),.int (max a b:Nat)])) d=some (.dT kvs):=by rw [aJ (aP hd hp)];exact hd
 refine .inr ⟨d,_,rfl,Cp.t (k:=pk (min a b) (max a b)) gd aM,?_⟩
 rw [hk]
 walk_at "x"
 refine jf ?_
 walk_at "x"
 exact k p hp
def kf (f:Ti->V) (ts:List Ti):List (List kg×V):=ts.map λt=>(pk t.x t.y,f t)
abbrev kl:List Ti->List (List kg×V):=kf λt=>.int t.dH
abbrev kw:List Ti->List (List kg×V):=kf λt=>.bl t.wd
abbrev kv:List Ti->List (List kg×V):=kf λ_=>.int 0
theorem FB {x y u v:Nat}:pk x y=pk u v↔((x:Int),(y:Int))=((u:Int),(v:Int)):=by
 constructor
 ·intro h
  obtain ⟨h1,h2⟩:=qL h
  rw [QF h1,QF (qL h2).1]
 ·intro h
  obtain ⟨h1,h2⟩:=dz h
  show [gH (x:Int),gH (y:Int)]=_
  rw [h1,h2]
section
variable {f:Ti->V}{g:Ti->Ti}{ts:List Ti}{t:Ti}
theorem jE (hn:(ts.map Ti.key).Nodup) (ht:t∈ts):mC (kf f ts) (pk t.x t.y)=some (f t):=by
 induction ts with
 | nil=>nomatch ht
 | cons s ts ih =>
  rw [cn,bq] at hn
  by_cases e:pk s.x s.y=pk t.x t.y
  ·have:s=t:=by
    rcases ay.mp ht with q|q
    ·exact q.symm
    ·have e':t.key=s.key:=(FB.mp e).symm
     exact absurd (e'▸bR q) hn.1
   subst this
   exact v7 (p:=(pk s.x s.y,f s)) rfl
  ·refine (ui (p:=(pk s.x s.y,f s)) e).trans (ih hn.2 ?_)
   exact (ay.mp ht).resolve_left λq=>e (q▸rfl)
theorem KD {x y:Nat}(h:((x:Int),(y:Int))∉ts.map Ti.key):mC (kf f ts) (pk x y)=none:=by
 induction ts with
 | nil=>rfl
 | cons s ts ih =>
  rw [cn,ay] at h
  exact (ui (p:=(pk s.x s.y,f s)) λe=>h (.inl (FB.mp e).symm)).trans (ih λq=>h (.inr q))
theorem Wg (hn:(ts.map Ti.key).Nodup) (ht:t∈ts) (hg:∀ t,(g t).key=t.key):xX (kf f ts) (pk t.x t.y) (f (g t))=kf f (jP ts t.key g):=by
 unfold xX
 have hm:((kf f ts).any λkv=>decide (kv.1=pk t.x t.y))=true:=by rw [zK,jE hn ht];rfl
 rw [if_pos hm]
 unfold kf jP
 rw [cW,cW]
 refine oF λu hu=>?_
 show (if pk u.x u.y=pk t.x t.y then (pk u.x u.y,f (g t)) else (pk u.x u.y,f u))=(pk (if u.key=t.key then g u else u).x (if u.key=t.key then g u else u).y,f (if u.key=t.key then g u else u))
 by_cases c:u.key=t.key
 ·rw [if_pos c,if_pos (FB.mpr c),tQ hn hu ht c]
  obtain ⟨e1,e2⟩:=Ti.WU (hg t)
  rw [e1,e2]
 ·rw [if_neg c,if_neg λe=>c (FB.mp e)]
theorem D8 (hg:∀ t,(g t).key=t.key) (hf:∀ t,f (g t)=f t) (k:Int×Int):kf f (jP ts k g)=kf f ts:=by
 unfold kf jP
 rw [cW]
 refine oF λu hu=>?_
 show (pk (if u.key=k then g u else u).x (if u.key=k then g u else u).y,f (if u.key=k then g u else u))=_
 by_cases c:u.key=k
 ·obtain ⟨e1,e2⟩:=Ti.WU (hg u)
  rw [if_pos c,e1,e2,hf]
 ·rw [if_neg c]
theorem KE:uh (kf f ts) (pk t.x t.y)=kf f (ts.filter λu=>decide (u.key≠t.key)):=by
 unfold uh kf
 rw [JE]
 congr 1
 refine Za λu _=>?_
 exact decide_eq_decide.mpr (not_congr FB)
theorem vh:(kf f ts).length=ts.length:=aj _
end
abbrev ud (Pt:ag) (H:Hp):Prop:=QD Pt ⟨129,28,129,61⟩ ((("in_order":aZ)++".<locals>.")++"<lambda>") H
def jw (K:aa) (C:ag) (Pt:ag):Sp:=λvs H Q _=>∃ (p d:ag) (zs:List Zn) (Uk:List (List kg×V)),vs=[.ref p,.ref d]/\H p=some (.lst (zs.map we))/\H d=some (.dT Uk)/\(∀ z∈zs,∃ w x y:Int,z.1=[w,x,y]/\H z.2=some (.tup [.int x,.int y])/\mC Uk [gH x,gH y]=some (.int w))/\zs.length<64/\ud Pt H /\
  ∀ (l:ag) (zs':List Zn) (H2:Hp),H2 l=none->Mz Pt H H2->ud Pt H2->zs'.Perm zs->Q (.ref l) (upd H2 l (.lst (zs'.map we)))
theorem KF {K:aa}{C Pt:ag}:Ln (jw K C Pt) 2:=by walk_at "l"
theorem KG {K:aa}{C Pt:ag}:Rn (jw K C Pt) (tw K C Pt) E6:=by
 rintro vs H Q E ⟨p,d,zs,Uk,rfl,hp,hd,hkv,hl,hT,k⟩
 unfold tw
 walk_at "x"
 unfold O3
 walk_at "x"
 exact ⟨p,d,zs,Uk,rfl,hp,rfl,hd,hkv,hl,hT,λl zs' H2 h1 h2 h3 h4 _=>k l zs' H2 h1 h2 h3 h4⟩
def ew (x y:Int) (S:List Int):Nat:=(if x∈S then 1 else 0)+(if y∈S then 1 else 0)
theorem any_ints (S:List Int) (x:Int):((S.map Uo).any λe=>fh e (.int x))=decide (x∈S):=by
 rw [RU,jH,G5,decide_eq_true_iff]
 constructor
 ·rintro ⟨y,hy,e⟩
  have:y=x:=by simpa [fh] using e
  exact this▸hy
 ·intro h
  exact ⟨x,h,by simp [fh]⟩
def dF (K:aa) (C:ag):Sp:=λvs H Q _=>∃ (t s:ag) (x y:Int) (S:List Int),vs=[.ref t,.ref s]/\H t=some (.tup [.int x,.int y])/\H s=some (.lst (S.map V.int))/\∀ H',cB H H'->Q (.int (ew x y S)) H'
theorem Dl:Ln (dF K C) 2:=by walk_at "l"
theorem Dm:Rn (dF K C) (oR K C) E7:=by
 rintro vs H Q E ⟨t,s,x,y,S,rfl,ht,hs,k⟩
 unfold oR
 walk_at "x"
 refine .inr (.inl ⟨⟨_,sG.of ht⟩,λacc hacc=>?_⟩)
 refine rJ (n:=2) (λi ys H'=>ys=(([x,y].take i).filter λz=>decide (z∈S)).map V.int/\H' acc=some (.lst ys)/\cB H H') (λZ=>∃ o,Z=[o,some (.ref s)]) ⟨by simp,aM,cB.dG hacc⟩ ⟨_,rfl⟩ ?_ ?_ ?_ ?_
 ·rintro i ys H' ⟨_,h,_⟩;exact h
 ·rintro ys H' ⟨rfl,h,S'⟩
  refine ⟨⟨_,S'.aba (sG.of ht),ax _⟩,?_⟩
  walk_at "x"
  refine JU (fg.of h) ?_
  have e:((([x,y].take 2).filter λz=>decide (z∈S)).map V.int).length=ew x y S:=by
   unfold ew
   by_cases c1:x∈S<;>by_cases c2:y∈S<;>simp [c1,c2]
  rw [e]
  exact k H' S'
 ·rintro i ys H' hi ⟨e,h,S'⟩
  exact ⟨_,_,S'.aba (sG.of ht),aD hi⟩
 ·rintro i ys σ' H' v H2 hi ⟨rfl,h,S'⟩ ⟨o,rfl⟩ ⟨e2,hx⟩
  subst e2
  have hxi:=hx _ (S'.aba (sG.of ht))
  obtain ⟨a,ha⟩:∃ a,[x,y][i]?=some a:=⟨_,aD (by simpa using hi)⟩
  have et:[x,y].take (i+1)=[x,y].take i++[a]:=by rw [jK,ha];rfl
  have ev:v=.int a:=by
   have:([x,y].map V.int)[i]?=some v:=hxi
   rw [aG,ha] at this
   exact (aX this).symm
  subst ev
  walk_at "x"
  refine Zp (Rep.int a) (EL (fg.of (S' _ _ hs))) ⟨rfl,by simp [pY]⟩ (jo _ (yP S)) ?_
  rw [any_ints]
  walk_at "x"
  refine vw (λc=>?_) λc=>?_
  ·walk_at "x"
   refine ⟨h,iP (m:=10) (by rw [aj];exact bj (eC _ _) (by rw [cf];omega)),oC.mk' hi ⟨_,rfl⟩ ⟨?_,aM,λb o q=>by rw [aJ (aP q hacc)];exact S' _ _ q⟩⟩
   rw [et,fP,br]
   simp [c]
  ·refine oC.mk' hi ⟨_,rfl⟩ ⟨?_,h,S'⟩
   rw [et,fP,br]
   simp [c]
theorem Top.one {n:Int}{i j:Nat}(h:Top n i) (h':Top n j):i=j:=by
 have key:∀ {i j:Nat},Top n i->Top n j->¬ i<j:=λ{i j} h h' c=>by
  rcases h'.1 with z|z
  ·omega
  ·have p:(2:Int)^(i+1)<=2^j:=by
    have:=A6 (n:=2) (by decide) (show i+1<=j from c)
    exact_mod_cast this
   have:=h.2
   rw [yn] at p
   omega
 have:=key h h'
 have:=key h' h
 omega
theorem Yt {ys:List V}{P:Nat->Int->Prop}(h:∀ i y,ys[i]?=some y->∃ c,y=.int c/\P i c):∃ cs:List Int,ys=cs.map V.int/\∀ i c,cs[i]?=some c->P i c:=by
 induction ys generalizing P with
 | nil=>exact ⟨[],rfl,λi c e=>by simp at e⟩
 | cons y ys ih =>
  obtain ⟨c,rfl,hc⟩:=h 0 y rfl
  obtain ⟨cs,rfl,hcs⟩:=ih (P:=λi c=>P (i+1) c) λi y e=>h (i+1) y (by simpa using e)
  refine ⟨c::cs,rfl,λi d e=>?_⟩
  cases i with
  | zero=>cases e;exact hc
  | succ i=>exact hcs i d (by simpa using e)
def eQ (K:aa) (C:ag):Sp:=λvs H Q _=>∃ (n:Int) (p:ag) (zs:List (Int×ag)),vs=[.int n,.ref p]/\H p=some (.lst (zs.map λz=>.ref z.2))/\(∀ z∈zs,∃ (x y:Int) (b:Bool),H z.2=some (.tup [.int x,.int y,.int z.1,.bl b]))/\zs.length<=1000/\∀ (c:Int) H',(∀ j,Top n j->c=(zs.map λz=>(j:Int)-z.1).sum)->cB H H'->Q (.int c) H'
theorem Pz:Ln (eQ K C) 2:=by walk_at "l"
theorem PB:Rn (eQ K C) (xE K C (m5 K C)) z7:=by
 rintro vs H Q E ⟨n,p,zs,rfl,hp,hz,hl,k⟩
 unfold xE
 walk_at "x"
 refine .inl ⟨⟨_,fg.of hp⟩,λacc hacc=>?_⟩
 refine MD (λi y _=>∃ c:Int,y=.int c/\∃ (j:Nat) (z:Int×ag),Top n j/\zs[i]?=some z/\c=j-z.1) (λZ=>∃ o o1 o2 o3,Z=[o,o1,o2,o3,some (.int n)]) (fg.of hp) hacc ⟨_,_,_,_,rfl⟩ (by rw [aj];omega) (λi y H2 H3 ws _ _ e=>e) (λi v σ' H2 G hi hx S2 hS done=>?_) λys H2 hly gy S2 hE=>?_
 ·obtain ⟨o,o1,o2,o3,rfl⟩:=hS
  rw [aG] at hx
  obtain ⟨z,hzi,rfl⟩:=bV.mp hx
  obtain ⟨x,y,b,hq⟩:=hz z (a9 hzi)
  refine JV (.of (S2 _ _ hq)) rfl ?_
  walk_at "x"
  refine ⟨n,rfl,λj hj=>?_⟩
  walk_at "x"
  exact done _ _ _ ⟨_,_,_,_,rfl⟩ (λ_ _ e=>e) ⟨_,rfl,j,z,hj,hzi,rfl⟩
 ·obtain ⟨cs,rfl,hcs⟩:=Yt hE
  rw [aj,aj] at hly
  walk_at "x"
  refine ⟨acc,cs,rfl,fg.of gy,k _ H2 (λj hj=>?_) S2⟩
  congr 1
  refine jL λi=>?_
  rw [aG]
  cases hc:cs[i]? with
  | none =>
   rw [uK,hly] at hc
   rw [cM hc];rfl
  | some c =>
   obtain ⟨j',z,hj',hzi,rfl⟩:=hcs i c hc
   rw [hzi,hj.one hj'];rfl
structure Tt where
 (p s q:ag) (lv:Int) (xs:List V) (f:V)
def vL (t:Tt):V:=.ref t.p
def IH (H:Hp) (t:Tt):Prop:=H t.p=some (.tup [.int t.lv,.ref t.s,.ref t.q,t.f])/\H t.q=some (.lst t.xs)
theorem IH.same {H H':Hp}{t:Tt}(h:IH H t) (S:cB H H'):IH H' t:=⟨S _ _ h.1,S _ _ h.2⟩
def fu (K:aa) (C:ag):Sp:=λvs H Q _=>∃ (a:ag) (ts:List Tt),vs=[.ref a]/\H a=some (.lst (ts.map vL))/\(∀ t∈ts,IH H t)/\ts.length<=1000/\∀ (c:Int) H',cB H H'->Q (.int c) H'
theorem SU:Ln (fu K C) 1:=by walk_at "l"
theorem SV:Rn (fu K C) (Ah K C) sV:=by
 rintro vs H Q E ⟨a,ts,rfl,ha,hR,hl,q⟩
 unfold Ah
 walk_at "x"
 refine .inl ⟨⟨_,fg.of ha⟩,λacc hacc=>?_⟩
 refine JW (K:=K) (z:=a) (xs:=ts.map vL) ts (λ_=>true) (λt=>.int (t.xs.length:Int)) (λZ=>∃ o o1 o2 o3,Z=[o,o1,o2,o3]) (by simp) (fg.of ha) hacc ⟨_,_,_,_,rfl⟩ (by rw [aj];omega) ?_ ?_
 ·rintro i t x σ' H' G G' ht hx S' ⟨o,o1,o2,o3,rfl⟩ g1 g2
  have ex:x=vL t:=by rw [aG,ht] at hx;exact (aX hx).symm
  subst ex
  have ok:=(hR t (a9 ht)).same S'
  refine JV (.of ok.1) rfl ?_
  walk_at "x"
  refine mX ?_
  walk_at "x"
  refine JU (fg.of ok.2) ?_
  exact g1 rfl _ ⟨_,_,_,_,rfl⟩
 ·rintro H' S' hH
  walk_at "x"
  have e:(ts.filter λ_=>true).map (λt=>V.int (t.xs.length:Int))=(ts.map λt=>(t.xs.length:Int)).map V.int:=by rw [cW,Bc.mpr (λ_ _=>rfl)];rfl
  rw [e] at hH
  exact ⟨acc,_,rfl,fg.of hH,q _ H' S'⟩
def i7 (K:aa) (C:ag):Sp:=λvs H Q _=>∃ (a:ag) (ts:List Tt),vs=[.ref a]/\H a=some (.lst (ts.map vL))/\(∀ t∈ts,IH H t)/\ts.length<=1000/\∀ (c:Int) H',cB H H'->Q (.int c) H'
theorem SW:Ln (i7 K C) 1:=by walk_at "l"
theorem SX:Rn (i7 K C) (Ai K C (fu K C)) ["trail","finds"]:=by
 rintro vs H Q E ⟨a,ts,rfl,ha,hR,hl,q⟩
 unfold Ai
 walk_at "x"
 refine .inl ⟨⟨_,fg.of ha⟩,λacc hacc=>?_⟩
 refine JW (K:=K) (z:=a) (xs:=ts.map vL) ts (λt=>!decide (t.f=.non)) (λt=>t.f) (λZ=>∃ o o1 o2 o3,Z=[o,o1,o2,o3]) (by simp) (fg.of ha) hacc ⟨_,_,_,_,rfl⟩ (by rw [aj];omega) ?_ ?_
 ·rintro i t x σ' H' G G' ht hx S' ⟨o,o1,o2,o3,rfl⟩ g1 g2
  have ex:x=vL t:=by rw [aG,ht] at hx;exact (aX hx).symm
  subst ex
  have ok:=(hR t (a9 ht)).same S'
  refine JV (.of ok.1) rfl ?_
  walk_at "x"
  cases hf:(!decide (t.f=V.non)) with
  | true =>
   refine mX ?_
   walk_at "x"
   exact g1 hf _ ⟨_,_,_,_,rfl⟩
  | false =>
   refine jf ?_
   exact g2 hf _ ⟨_,_,_,_,rfl⟩
 ·rintro H' S' hH
  walk_at "x"
  refine ⟨_,.inl ⟨_,fg.of hH,rfl⟩,?_⟩
  generalize (!((ts.filter λt=>!decide (t.f=V.non)).map λt=>t.f).isEmpty)=bb
  cases bb with
  | true =>
   refine mX ?_
   walk_at "x"
   refine ⟨a,ts,rfl,S' _ _ ha,λt ht=>(hR t ht).same S',hl,λc H2 S2=>?_⟩
   walk_at "x"
   exact q _ _ (S'.trans S2)
  | false =>
   refine jf ?_
   walk_at "x"
   exact ⟨a,ts,rfl,S' _ _ ha,λt ht=>(hR t ht).same S',hl,λc H2 S2=>q _ _ (S'.trans S2)⟩
end K32
namespace K32
open Rm
variable {K:aa}{C:ag}{A:CA}{X:EC}{Pt:ag}
theorem fW {f g:aZ}{v x:V}{r:List (aZ×V)}(h:¬ g=f):fE f v ((g,x)::r)=(g,x)::fE f v r:=by show (if g=f then _ else _)=_;rw [if_neg h]
theorem Ao {f:aZ}{v x:V}{r:List (aZ×V)}:fE f v ((f,x)::r)=(f,v)::r:=by show (if f=f then _ else _)=_;rw [if_pos rfl]
theorem wL {f:aZ}{x:V}{r:List (aZ×V)}:dS f ((f,x)::r)=some x:=by rw [dm,beq_self_eq_true]
theorem gW {f g:aZ}{x:V}{r:List (aZ×V)}(h:¬ g=f):dS g ((f,x)::r)=dS g r:=by
 rw [dm]
 have:(g == f)=false:=by simpa using h
 rw [this]
structure zb (K:aa) (C:ag) (A:CA):Prop where
 w:CT K C
 lc:GW K A.bh
 l1:fi K A.bh "level_of"
 l2:fi K A.bh "wooden"
 l3:fi K A.bh "weight_of"
 l4:fi K A.bh "woods"
 kc:GW K A.Keeper
 k1:fi K A.Keeper "n"
 k2:fi K A.Keeper "levels"
 k3:fi K A.Keeper "wood"
 k4:fi K A.Keeper "came"
 k5:fi K A.Keeper "looked"
 k6:fi K A.Keeper "risen"
 k7:fi K A.Keeper "lost"
def fL (d1 d2 d3 L:ag):List (aZ×V):=[("level_of",.ref d1),("wooden",.ref d2),("weight_of",.ref d3),("woods",.ref L)]
theorem Rt {d1 d2 d3 L:ag}:(fL d1 d2 d3 L).lookup ("level_of":aZ)=some (.ref d1):=wL
theorem Yu {d1 d2 d3 L:ag}:(fL d1 d2 d3 L).lookup ("wooden":aZ)=some (.ref d2):=by unfold fL;rw [gW (by decide +kernel)];exact wL
theorem fL3 {d1 d2 d3 L:ag}:(fL d1 d2 d3 L).lookup ("weight_of":aZ)=some (.ref d3):=by unfold fL;rw [gW (by decide +kernel),gW (by decide +kernel)];exact wL
theorem fL4 {d1 d2 d3 L:ag}:(fL d1 d2 d3 L).lookup ("woods":aZ)=some (.ref L):=by unfold fL;rw [gW (by decide +kernel),gW (by decide +kernel),gW (by decide +kernel)];exact wL
theorem Zv {d1 d2 d3 L:ag}{m:aZ}(h1:¬ m="level_of":=by decide +kernel) (h2:¬ m="wooden":=by decide +kernel) (h3:¬ m="weight_of":=by decide +kernel) (h4:¬ m="woods":=by decide +kernel):(fL d1 d2 d3 L).lookup m=none:=by unfold fL;rw [gW h1,gW h2,gW h3,gW h4];rfl
structure AL where
 (q dq d1 d2 d3 L:ag) (ws:List (ag×ag×ag))
def fp (a:AL):List ag:=a.d1::a.d2::a.d3::a.ws.map (·.2.2)
def Fm (X:List ag) (H H':Hp):Prop:=∀ b o,b∉X->H b=some o->H' b=some o
theorem Fm.refl {X:List ag}{H:Hp}:Fm X H H:=λ_ _ _ e=>e
theorem Fm.trans {X:List ag}{H H1 H2:Hp}(x:Fm X H H1) (y:Fm X H1 H2):Fm X H H2:=λb o h e=>y b o h (x b o h e)
theorem Fm.of {X:List ag}{H H':Hp}(S:cB H H'):Fm X H H':=λb o _ e=>S b o e
theorem Fm.but {X:List ag}{c:ag}{H H':Hp}(hc:c∈X) (S:bS c H H'):Fm X H H':=λb o h e=>S b o e λz=>h (z▸hc)
theorem Fm.upd {X:List ag}{c:ag}{o:HO}{H:Hp}(hc:c∈X):Fm X H (upd H c o):=Fm.but hc bS.upd
theorem Fm.mono {X Y:List ag}{H H':Hp}(S:Fm X H H') (h:∀ b∈X,b∈Y):Fm Y H H':=λb o hb e=>S b o (λz=>hb (h b z)) e
theorem Fm.tail {X:List ag}{c:ag}{H H':Hp}(S:Fm X H H'):Fm (c::X) H H':=S.mono λ_=>ah _
theorem Fm.free {X:List ag}{H H':Hp}(S:Fm X H H') {b:ag}(h:b∉X) (e:H' b=none):H b=none:=by
 cases z:H b with
 | none=>rfl
 | some o=>rw [S b o h z] at e;cases e
structure LV (C:ag) (A:CA) (H:Hp) (a:AL) (n T:Nat) (ts:List Ti) (as:Nat->List ag) (R:Nat->Nat->List Int):Prop where
 ob:H a.q=some (.ins A.bh a.dq (fL a.d1 a.d2 a.d3 a.L))
 e1:H a.d1=some (.dT (kl ts))
 e2:H a.d2=some (.dT (kw ts))
 e3:H a.d3=some (.dT (kv ts))
 ls:H a.L=some (.lst (a.ws.map λw=>.ref w.1))
 len:a.ws.length=T+1
 wa:∀ (i:Nat) w,a.ws[i]?=some w->WA C H w.1 w.2.1 w.2.2 n (as i) (R i)
 wd:∀ i,i<=T->Wd n (R i)
 n1:1<=n
 Tj:a.d1≠a.d2
 WW:a.d1≠a.d3
 Xi:a.d2≠a.d3
 nl:(a.ws.map (·.2.2)).Nodup
 nL:∀ w∈a.ws,a.L≠w.2.2
section
variable {C:ag}{A:CA}{H H':Hp}{a:AL}{n T:Nat}{ts ts':List Ti}{as:Nat->List ag}{R:Nat->Nat->List Int}
theorem LV.at (h:LV C A H a n T ts as R) {w:ag×ag×ag}(hw:w∈a.ws):∃ i,i<=T/\a.ws[i]?=some w:=by
 obtain ⟨i,hi⟩:=bU.mp hw
 have:=(aC.mp hi).1
 rw [h.len] at this
 exact ⟨i,by omega,hi⟩
theorem LV.get (h:LV C A H a n T ts as R) {i:Nat}(hi:i<=T):∃ w,a.ws[i]?=some w/\w∈a.ws:=by
 have hl:i<a.ws.length:=by rw [h.len];omega
 exact ⟨_,aD hl,iG hl⟩
theorem LV.rows (h:LV C A H a n T ts as R) {w:ag×ag×ag}(hw:w∈a.ws):∃ bs:List ag,bs.length=n/\H w.2.2=some (.lst (bs.map V.ref)):=by
 obtain ⟨i,_,hi⟩:=h.at hw
 exact ⟨_,(h.wa i w hi).len,(h.wa i w hi).rl⟩
theorem LV.kind (h:LV C A H a n T ts as R) {b:ag}(hb:b∈fp a):(∃ ks,H b=some (.dT ks))\/∃ bs:List ag,bs.length=n/\H b=some (.lst (bs.map V.ref)):=by
 unfold fp at hb
 simp only [ay,bX] at hb
 rcases hb with rfl|rfl|rfl|⟨w,hw,rfl⟩
 ·exact .inl ⟨_,h.e1⟩
 ·exact .inl ⟨_,h.e2⟩
 ·exact .inl ⟨_,h.e3⟩
 ·exact .inr (h.rows hw)
theorem LV.out (h:LV C A H a n T ts as R) {b:ag}{o:HO}(e:H b=some o) (h1:∀ ks,o≠.dT ks) (h2:∀ bs:List ag,bs.length=n->o≠.lst (bs.map V.ref)):b∉fp a:=λhb=>by
 rcases h.kind hb with ⟨ks,q⟩|⟨bs,hl,q⟩
 ·rw [e] at q;exact h1 ks (aX q)
 ·rw [e] at q;exact h2 bs hl (aX q)
theorem LV.AW (h:LV C A H a n T ts as R) {b:ag}{xs:List V}(e:H b=some (.tup xs)):b∉fp a:=h.out e (λ_ z=>nomatch z) (λ_ _ z=>nomatch z)
theorem LV.outI (h:LV C A H a n T ts as R) {b x y:ag}{fs:List (aZ×V)}(e:H b=some (.ins x y fs)):b∉fp a:=h.out e (λ_ z=>nomatch z) (λ_ _ z=>nomatch z)
theorem LV.YF (h:LV C A H a n T ts as R) {b:ag}{r:List Int}(e:H b=some (.lst (r.map V.int))):b∉fp a:=h.out e (λ_ z=>nomatch z) λbs hl z=>by
 have n1:=h.n1
 injection z with z
 match r,bs,hl with
 | [],c::bs,_=>cases z
 | x::r,c::bs,_=>cases (qL z).1
 | x::r,[],_=>cases z
 | [],[],hl=>rw [← hl] at n1;cases n1
theorem LV.LB (h:LV C A H a n T ts as R) {b:ag}(e:H b=none):b∉fp a:=λhb=>by
 rcases h.kind hb with ⟨ks,q⟩|⟨bs,hl,q⟩<;>rw [e] at q<;>cases q
theorem LV.keep (h:LV C A H a n T ts as R) {X:List ag}(S:Fm X H H') (hq:∀ x fs,H x=some fs->(∃ c d f,fs=.ins c d f/\f≠[])->(x=a.q\/∃ w∈a.ws,x=w.1)->x∉X) (hd:∀ b∈fp a,b∉X) (hL:a.L∉X) (hr:∀ (b:ag) (r:List Int),r≠[]->H b=some (.lst (r.map V.int))->b∉X):LV C A H' a n T ts as R:=by
 have m1:a.d1∈fp a:=aw
 have m2:a.d2∈fp a:=ah _ aw
 have m3:a.d3∈fp a:=ah _ (ah _ aw)
 refine ⟨S _ _ (hq _ _ h.ob ⟨_,_,_,rfl,by simp [fL]⟩ (.inl rfl)) h.ob,S _ _ (hd _ m1) h.e1,S _ _ (hd _ m2) h.e2,S _ _ (hd _ m3) h.e3,S _ _ hL h.ls,h.len,λi w hw=>?_,h.wd,h.n1,h.Tj,h.WW,h.Xi,h.nl,h.nL⟩
 have hm:=a9 hw
 have W:=h.wa i w hw
 have hi:i<=T:=by have:=(aC.mp hw).1;rw [h.len] at this;omega
 refine ⟨S _ _ (hq _ _ W.ob ⟨_,_,_,rfl,?_⟩ (.inr ⟨w,hm,rfl⟩)) W.ob,S _ _ (hd _ ?_) W.rl,W.len,λj c hc=>?_,W.ne⟩
 ·intro z
  have:=wK n w.2.2
  rw [z] at this
  cases this
 ·exact ah _ (ah _ (ah _ (bR hm)))
 ·have hj:j<n:=by rw [← W.len];exact (aC.mp hc).1
  exact S _ _ (hr _ _ ((h.wd i hi).r j hj).ne (W.at_ j c hc)) (W.at_ j c hc)
theorem LV.same (h:LV C A H a n T ts as R) (S:cB H H'):LV C A H' a n T ts as R:=h.keep (X:=[]) (λb o _ e=>S b o e) (λ_ _ _ _ _=>eL) (λ_ _=>eL) eL λ_ _ _ _=>eL
theorem LV.sets (h:LV C A H a n T ts as R) (B:Fm [a.d1,a.d2,a.d3] H H') (e1:H' a.d1=some (.dT (kl ts'))) (e2:H' a.d2=some (.dT (kw ts'))) (e3:H' a.d3=some (.dT (kv ts'))):LV C A H' a n T ts' as R:=by
 have ne:∀ {b:ag}{o:HO},H b=some o->(∀ ks,o≠.dT ks)->H' b=some o:=λ{b o} e q=>B _ _ (λhb=>by
  simp only [ay,eL,or_false] at hb
  rcases hb with rfl|rfl|rfl
  ·rw [h.e1] at e;cases e;exact q _ rfl
  ·rw [h.e2] at e;cases e;exact q _ rfl
  ·rw [h.e3] at e;cases e;exact q _ rfl) e
 exact ⟨ne h.ob (λ_ z=>nomatch z),e1,e2,e3,ne h.ls (λ_ z=>nomatch z),h.len,λi w hw=>⟨ne (h.wa i w hw).ob (λ_ z=>nomatch z),ne (h.wa i w hw).rl (λ_ z=>nomatch z),(h.wa i w hw).len,λj c hc=>ne ((h.wa i w hw).at_ j c hc) (λ_ z=>nomatch z),(h.wa i w hw).ne⟩,h.wd,h.n1,h.Tj,h.WW,h.Xi,h.nl,h.nL⟩
theorem LV.set1 (h:LV C A H a n T ts as R) (e2:kw ts'=kw ts) (e3:kv ts'=kv ts):LV C A (upd H a.d1 (.dT (kl ts'))) a n T ts' as R :=
 h.sets (Fm.upd aw) aM (by rw [aJ h.Tj.symm,e2];exact h.e2) (by rw [aJ h.WW.symm,e3];exact h.e3)
theorem LV.set2 (h:LV C A H a n T ts as R) (e1:kl ts'=kl ts) (e3:kv ts'=kv ts):LV C A (upd H a.d2 (.dT (kw ts'))) a n T ts' as R :=
 h.sets (Fm.upd (ah _ aw)) (by rw [aJ h.Tj,e1];exact h.e1) aM (by rw [aJ h.Xi.symm,e3];exact h.e3)
theorem LV.wood (h:LV C A H a n T ts as R) {i:Nat}{w:ag×ag×ag}{bs:List ag}{R1:Nat->List Int}(hw:a.ws[i]?=some w) (W:WA C H' w.1 w.2.1 w.2.2 n bs R1) (D:Wd n R1) (B:bS w.2.2 H H') :
  LV C A H' a n T ts (λj=>if j=i then bs else as j) (λj=>if j=i then R1 else R j):=by
 have hm:=a9 hw
 obtain ⟨cs,hcl,hcs⟩:=h.rows hm
 have nt:∀ {b:ag}{o:HO},H b=some o->(∀ xs,o≠.lst xs)->H' b=some o:=λ{b o} e q=>B _ _ e λz=>by rw [z,hcs] at e;cases e;exact q _ rfl
 refine ⟨nt h.ob (λ_ z=>nomatch z),nt h.e1 (λ_ z=>nomatch z),nt h.e2 (λ_ z=>nomatch z),nt h.e3 (λ_ z=>nomatch z),B _ _ h.ls (h.nL w hm),h.len,λj v hv=>?_,λj hj=>?_,h.n1,h.Tj,h.WW,h.Xi,h.nl,h.nL⟩
 ·by_cases c:j=i
  ·subst c
   rw [hw] at hv
   cases hv
   simp only [if_pos]
   exact W
  ·simp only [if_neg c]
   have V:=h.wa j v hv
   have hjT:j<=T:=by have:=(aC.mp hv).1;rw [h.len] at this;omega
   have nvl:v.2.2≠w.2.2:=λe=>c ((List.getElem?_inj (by rw [aj];exact (aC.mp hv).1) h.nl).mp (by rw [aG,aG,hv,hw];simp [e]))
   refine ⟨nt V.ob (λ_ z=>nomatch z),B _ _ V.rl nvl,V.len,λx b hb=>B _ _ (V.at_ x b hb) λz=>?_,V.ne⟩
   have hx:x<n:=by rw [← V.len];exact (aC.mp hb).1
   have e:=V.at_ x b hb
   rw [z] at e
   exact h.YF e (ah _ (ah _ (ah _ (bR hm))))
 ·by_cases c:j=i
  ·simp only [if_pos c];exact D
  ·simp only [if_neg c];exact h.wd j hj
end
def cb (K:aa) (C:ag) (A:CA):Sp:=λvs H Q _=>∃ (q dq d1 d2 d3 L t:ag) (kl kw:List (List kg×V)) (x y:Int) (v1 v2:V),vs=[.ref q,.ref t]/\zb K C A/\H q=some (.ins A.bh dq (fL d1 d2 d3 L))/\Rd H d1 (.dT kl)/\Rd H d2 (.dT kw)/\H t=some (.tup [.int x,.int y]) /\
 mC kl [gH x,gH y]=some v1/\mC kw [gH x,gH y]=some v2/\∀ p,H p=none->Q (.ref p) (upd H p (.tup [.int x,.int y,v1,v2]))
theorem Do:Ln (cb K C A) 2:=by walk_at "l"
theorem Dp:Rn (cb K C A) (pe K C A) oH:=by
 rintro vs H Q E ⟨q,dq,d1,d2,d3,L,t,kl,kw,x,y,v1,v2,rfl,ct,hq,r1,r2,ht,h1,h2,k⟩
 unfold pe
 walk_at "x"
 refine qQ (sG.of ht) (fG (j:=0) rfl rfl) ?_
 walk_at "x"
 refine qQ (sG.of ht) (fG (j:=1) rfl rfl) ?_
 walk_at "f"
 refine ⟨q,A.bh,dq,_,_,rfl,hq,ct.lc,ct.l1,Rt,?_⟩
 walk_at "x"
 refine .inr ⟨d1,v1,rfl,.inr ⟨kl,[gH x,gH y],t,r1,rfl,ht,h1.symm⟩,?_⟩
 walk_at "f"
 refine ⟨q,A.bh,dq,_,_,rfl,hq,ct.lc,ct.l2,Yu,?_⟩
 walk_at "x"
 refine .inr ⟨d2,v2,rfl,.inr ⟨kw,[gH x,gH y],t,r2,rfl,ht,h2.symm⟩,?_⟩
 walk_at "x"
 exact ⟨bA (m:=4) (ax 4),k⟩
end K32
namespace K32
open Rm
variable {K:aa}{C:ag}{A:CA}{X:EC}{Pt:ag}
theorem fp1 {a:AL}:a.d1∈fp a:=aw
theorem fp2 {a:AL}:a.d2∈fp a:=ah _ aw
theorem fp3 {a:AL}:a.d3∈fp a:=ah _ (ah _ aw)
theorem fpw {a:AL}{w:ag×ag×ag}(h:w∈a.ws):w.2.2∈fp a:=ah _ (ah _ (ah _ (bR h)))
theorem Wh {ts:List Ti}{k:Int×Int}:kl (jP ts k Ti.zy)=kl ts:=D8 (g:=Ti.zy) (λ_=>rfl) (λ_=>rfl) k
theorem aa2 {ts:List Ti}{k:Int×Int}:kv (jP ts k Ti.zy)=kv ts:=D8 (g:=Ti.zy) (λ_=>rfl) (λ_=>rfl) k
theorem Zw {ts:List Ti}{k:Int×Int}:kw (jP ts k Ti.up)=kw ts:=D8 (g:=Ti.up) (λ_=>rfl) (λ_=>rfl) k
theorem acy {ts:List Ti}{k:Int×Int}:kv (jP ts k Ti.up)=kv ts:=D8 (g:=Ti.up) (λ_=>rfl) (λ_=>rfl) k
theorem LV.cast {C:ag}{A:CA}{H:Hp}{a:AL}{n T:Nat}{ts:List Ti}{as:Nat->List ag}{R R':Nat->Nat->List Int}(h:LV C A H a n T ts as R) (e:∀ j,R j=R' j):LV C A H a n T ts as R':=(funext e:R=R')▸h
structure Up (C:ag) (A:CA) (a:AL) (n T:Nat) (ts:List Ti) (R:Nat->Nat->List Int) (f:(Nat->List Int)->Nat->List Int) (H:Hp) (i:Nat) (H1:Hp):Prop where
 ex:∃ as R',LV C A H1 a n T ts as R'/\∀ j,R' j=if j<i then f (R j) else R j
 fm:Fm (fp a) H H1
theorem Up.step {C:ag}{A:CA}{a:AL}{n T:Nat}{ts:List Ti}{R R':Nat->Nat->List Int}{f:(Nat->List Int)->Nat->List Int}{H H1 H2:Hp}{i:Nat}{w:ag×ag×ag}{as:Nat->List ag}{bs:List ag}(L:LV C A H1 a n T ts as R') (e:∀ j,R' j=if j<i then f (R j) else R j) (F:Fm (fp a) H H1)
  (hw:a.ws[i]?=some w) (W:WA C H2 w.1 w.2.1 w.2.2 n bs (f (R' i))) (D:Wd n (f (R' i))) (B:bS w.2.2 H1 H2):Up C A a n T ts R f H (i+1) H2:=by
 refine ⟨⟨_,_,L.wood hw W D B,λj=>?_⟩,F.trans (Fm.but (fpw (a9 hw)) B)⟩
 have ei:R' i=R i:=by rw [e,if_neg (gE i)]
 by_cases c:j=i
 ·subst c;rw [if_pos rfl,if_pos (ji j),ei]
 ·rw [if_neg c,e]
  by_cases d:j<i
  ·rw [if_pos d,if_pos (by omega)]
  ·rw [if_neg d,if_neg (by omega)]
def cj (K:aa) (C:ag) (A:CA):Sp:=λvs H Q _=>∃ (a:AL) (n T:Nat) (ts:List Ti) (as:Nat->List ag) (R:Nat->Nat->List Int) (t:ag) (u:Ti),vs=[.ref a.q,.ref t]/\zb K C A/\LV C A H a n T ts as R/\n<=200/\u∈ts/\(ts.map Ti.key).Nodup/\u.x<n/\u.y<n/\u.dH<=T/\(∀ i,i<=u.dH->(u.y:Int)∉R i u.x) /\
 H t=some (.tup [.int u.x,.int u.y])/\ts.length<100/\∀ as' H',LV C A H' a n T (jP ts u.key Ti.zy) as' (Ol R u.dH u.x u.y)->Fm (fp a) H H'->Q .non H'
theorem BI:Ln (cj K C A) 2:=by walk_at "l"
theorem BJ:Rn (cj K C A) (nY K C A (dt K C)) V7:=by
 rintro vs H Q E ⟨a,n,T,ts,as,R,t,u,rfl,ct,h,hn,hu,hnd,hx,hy,hl,hap,ht,hlen,k⟩
 unfold nY
 walk_at "f"
 refine ⟨a.q,A.bh,a.dq,_,_,rfl,h.ob,ct.lc,ct.l2,Yu,?_⟩
 walk_at "x"
 refine .inr ⟨a.d2,_,rfl,IG.t (k:=pk u.x u.y) h.e2 ht (iP (m:=100) (by rw [vh];exact hlen)),?_⟩
 have e:=Wg (f:=λt=>V.bl t.wd) (g:=Ti.zy) hnd hu (λ_=>rfl)
 rw [show (V.bl true)=(λt:Ti=>V.bl t.wd) u.zy from rfl,e]
 have h1:=h.set2 (ts':=jP ts u.key Ti.zy) Wh aa2
 have ht1:(upd H a.d2 (.dT (kw (jP ts u.key Ti.zy)))) t=some (.tup [.int u.x,.int u.y]):=by rw [aJ (jG ht h.e2)];exact ht
 have S1:Fm (fp a) H (upd H a.d2 (.dT (kw (jP ts u.key Ti.zy)))):=Fm.upd fp2
 have hl1:mC (kl (jP ts u.key Ti.zy)) (pk u.x u.y)=some (.int u.dH):=by rw [Wh];exact jE hnd hu
 change (oZ K C A _) _ _ (upd H a.d2 (.dT (kw (jP ts u.key Ti.zy))))
 generalize upd H a.d2 (.dT (kw (jP ts u.key Ti.zy)))=H1 at h1 ht1 S1
 generalize jP ts u.key Ti.zy=ts1 at h1 hl1 k
 unfold oZ
 walk_at "f"
 refine ⟨a.q,A.bh,a.dq,_,_,rfl,h1.ob,ct.lc,ct.l4,fL4,?_⟩
 walk_at "f"
 refine ⟨a.q,A.bh,a.dq,_,_,rfl,h1.ob,ct.lc,ct.l1,Rt,?_⟩
 walk_at "x"
 refine .inr ⟨a.d1,.int u.dH,rfl,.inr ⟨_,pk u.x u.y,t,.inl h1.e1,rfl,ht1,hl1.symm⟩,?_⟩
 walk_at "x"
 refine EJ (fg.of h1.ls) λs hs=>?_
 rw [JY (j:=u.dH+1) (by omega),← vG]
 have S2:=cB.dG (o:=.lst ((a.ws.take (u.dH+1)).map λw=>V.ref w.1)) hs
 have gs:(upd H1 s (.lst ((a.ws.take (u.dH+1)).map λw=>V.ref w.1))) s=some (.lst ((a.ws.take (u.dH+1)).map λw=>V.ref w.1)):=aM
 have nsf:=h1.LB hs
 generalize upd H1 s (.lst ((a.ws.take (u.dH+1)).map λw=>V.ref w.1))=H2 at S2 gs
 have h2:=h1.same S2
 have ht2:=S2 _ _ ht1
 have hlt:(a.ws.take (u.dH+1)).length=u.dH+1:=by rw [cf,h.len];omega
 refine ⟨s,rfl,?_⟩
 refine .inl ⟨⟨_,fg.of gs⟩,oK (K:=K) (a:=s) (xs:=(a.ws.take (u.dH+1)).map λw=>V.ref w.1)
  (λi Z H3=>Up C A a n T ts1 R (λr=>lk r u.x u.y) H2 i H3/\∃ o,Z=[some (.ref a.q),some (.ref t),o])
  ⟨⟨⟨as,R,h2,λj=>by rw [if_neg (by omega)]⟩,Fm.refl⟩,_,rfl⟩ ?_ ?_ ?_⟩
 ·rintro i Z H3 _ ⟨U,_⟩;exact fg.of (U.fm _ _ nsf gs)
 ·rintro i z Z H3 hi ⟨U,o,rfl⟩
  rw [aG] at hi
  obtain ⟨w,hw,rfl⟩:=bV.mp hi
  have hi:i<u.dH+1:=by rw [← hlt];exact (aC.mp hw).1
  rw [pK,if_pos hi] at hw
  obtain ⟨as1,R1,L1,e1⟩:=U.ex
  have W1:=L1.wa i w hw
  have ht3:=U.fm _ _ (h2.AW ht2) ht2
  walk_at "m"
  refine ⟨w.1,w.2.1,_,rfl,W1.ob,lL _ _,?_⟩
  walk_at "x"
  refine qQ (sG.of ht3) (fG (j:=0) rfl rfl) ?_
  walk_at "x"
  refine qQ (sG.of ht3) (fG (j:=1) rfl rfl) ?_
  walk_at "x"
  have ei:R1 i=R i:=by rw [e1,if_neg (gE i)]
  have D1:=L1.wd i (by omega)
  have hap1:(u.y:Int)∉R1 i u.x:=by rw [ei];exact hap i (by omega)
  refine ⟨w.1,w.2.1,w.2.2,n,u.x,u.y,as1 i,R1 i,rfl,ct.w,W1,D1,hn,hx,hy,hap1,λbs H4 W' B'=>?_⟩
  exact ⟨Up.step (f:=λr=>lk r u.x u.y) L1 e1 U.fm hw W' (D1.lk hx hy hap1) B',_,rfl⟩
 ·rintro Z H3 ⟨U,o,rfl⟩
  rw [aj,hlt] at U
  obtain ⟨as1,R1,L1,e1⟩:=U.ex
  refine k as1 H3 (L1.cast λj=>?_) ((S1.trans (Fm.of S2)).trans U.fm)
  rw [e1]
  show _=if j<=u.dH then _ else _
  by_cases c:j<=u.dH
  ·rw [if_pos c,if_pos (by omega)]
  ·rw [if_neg c,if_neg (by omega)]
def dE (K:aa) (C:ag) (A:CA):Sp:=λvs H Q _=>∃ (a:AL) (n T:Nat) (ts:List Ti) (as:Nat->List ag) (R:Nat->Nat->List Int) (t:ag) (u:Ti),vs=[.ref a.q,.ref t]/\zb K C A/\LV C A H a n T ts as R/\n<=200/\u∈ts/\(ts.map Ti.key).Nodup/\u.x<n/\u.y<n/\(u.wd=true->u.dH+1<=T/\(u.y:Int)∉R (u.dH+1) u.x) /\
 H t=some (.tup [.int u.x,.int u.y])/\ts.length<100/\∀ as' R' H',LV C A H' a n T (jP ts u.key Ti.up) as' R'->(R'=if u.wd=true then upR R (u.dH+1) u.x u.y else R)->Fm (fp a) H H'->Q .non H'
theorem Dq:Ln (dE K C A) 2:=by walk_at "l"
theorem Ds:Rn (dE K C A) (pb K C A (dt K C)) oH:=by
 rintro vs H Q E ⟨a,n,T,ts,as,R,t,u,rfl,ct,h,hn,hu,hnd,hx,hy,hap,ht,hlen,k⟩
 unfold pb
 walk_at "f"
 refine ⟨a.q,A.bh,a.dq,_,_,rfl,h.ob,ct.lc,ct.l1,Rt,?_⟩
 walk_at "x"
 refine ⟨a.d1,.int u.dH,rfl,.inr ⟨_,pk u.x u.y,t,.inl h.e1,rfl,ht,(jE (f:=λt=>V.int t.dH) hnd hu).symm⟩,?_⟩
 walk_at "x"
 refine ⟨u.dH,1,rfl,rfl,_,IG.t (k:=pk u.x u.y) h.e1 ht (iP (m:=100) (by rw [vh];exact hlen)),?_⟩
 have e:=Wg (f:=λt=>V.int t.dH) (g:=Ti.up) hnd hu (λ_=>rfl)
 rw [show (V.int ((u.dH:Int)+1))=(λt:Ti=>V.int t.dH) u.up from rfl,e]
 have h1:=h.set1 (ts':=jP ts u.key Ti.up) Zw acy
 have ht1:(upd H a.d1 (.dT (kl (jP ts u.key Ti.up)))) t=some (.tup [.int u.x,.int u.y]):=by rw [aJ (jG ht h.e1)];exact ht
 have S1:Fm (fp a) H (upd H a.d1 (.dT (kl (jP ts u.key Ti.up)))):=Fm.upd fp1
 have hw1:mC (kw (jP ts u.key Ti.up)) (pk u.x u.y)=some (.bl u.wd):=by rw [Zw];exact jE hnd hu
 have hl1:mC (kl (jP ts u.key Ti.up)) (pk u.x u.y)=some (.int ((u.dH+1:Nat):Int)):=by
  have:=jE (f:=λt=>V.int t.dH) (by rw [mE (f:=Ti.up) (λ_=>rfl)];exact hnd) ((oN (f:=Ti.up) hnd hu u.up).mpr (.inl rfl))
  exact this
 dsimp only
 change (gX _ _ _) _ _ (upd H a.d1 (.dT (kl (jP ts u.key Ti.up))))
 generalize upd H a.d1 (.dT (kl (jP ts u.key Ti.up)))=H1 at h1 ht1 S1
 generalize jP ts u.key Ti.up=ts1 at h1 hl1 hw1 k
 walk_at "f"
 refine ⟨a.q,A.bh,a.dq,_,_,rfl,h1.ob,ct.lc,ct.l2,Yu,?_⟩
 walk_at "x"
 refine .inr ⟨a.d2,.bl u.wd,rfl,.inr ⟨_,pk u.x u.y,t,.inl h1.e2,rfl,ht1,hw1.symm⟩,?_⟩
 refine ⟨_,rfl,?_⟩
 cases hw:u.wd with
 | false =>
  rw [hw] at k
  refine jf ?_
  walk_at "x"
  exact k as R H1 h1 rfl S1
 | true =>
  rw [hw] at k
  obtain ⟨hT,hap⟩:=hap hw
  obtain ⟨w,hw1,hwm⟩:=h1.get hT
  have W1:=h1.wa _ w hw1
  have D1:=h1.wd _ hT
  refine mX ?_
  walk_at "m"
  refine lW ?_
  walk_at "x"
  refine ⟨a.q,A.bh,a.dq,_,_,rfl,h1.ob,ct.lc,ct.l4,fL4,?_⟩
  walk_at "f"
  refine ⟨a.q,A.bh,a.dq,_,_,rfl,h1.ob,ct.lc,ct.l1,Rt,?_⟩
  walk_at "x"
  refine .inr ⟨a.d1,.int ((u.dH+1:Nat):Int),rfl,.inr ⟨_,pk u.x u.y,t,.inl h1.e1,rfl,ht1,hl1.symm⟩,?_⟩
  refine oz (fg.of h1.ls) (fG (j:=u.dH+1) rfl (by rw [aG,hw1];rfl)) ?_
  refine ⟨w.1,w.2.1,_,rfl,W1.ob,lL _ _,?_⟩
  walk_at "x"
  refine qQ (sG.of ht1) (fG (j:=0) rfl rfl) ?_
  walk_at "x"
  refine qQ (sG.of ht1) (fG (j:=1) rfl rfl) ?_
  walk_at "x"
  refine ⟨w.1,w.2.1,w.2.2,n,u.x,u.y,as (u.dH+1),R (u.dH+1),rfl,ct.w,W1,D1,hn,hx,hy,hap,λbs H4 W' B'=>?_⟩
  exact k _ _ H4 (h1.wood hw1 W' (D1.lk hx hy hap) B') rfl (S1.trans (Fm.but (fpw hwm) B'))
def fz (K:aa) (C:ag) (A:CA):Sp:=λvs H Q _=>∃ (a:AL) (n T:Nat) (ts:List Ti) (as:Nat->List ag) (R:Nat->Nat->List Int) (t:ag) (u:Ti),vs=[.ref a.q,.ref t]/\zb K C A/\LV C A H a n T ts as R/\n<=200/\u∈ts/\(ts.map Ti.key).Nodup/\u.x<n/\u.y<n/\u.x≠u.y/\u.dH<=T/\(u.wd=true->∀ i,i<=u.dH->Ed n (R i) u.x u.y) /\
 H t=some (.tup [.int u.x,.int u.y])/\∀ as' R' H',LV C A H' a n T (ts.filter λv=>decide (v.key≠u.key)) as' R'->(R'=if u.wd=true then drR R u.dH u.x u.y else R)->Fm (fp a) H H'->Q .non H'
theorem Dt:Ln (fz K C A) 2:=by walk_at "l"
theorem Du:Rn (fz K C A) (pd K C A (iz K C)) VZ:=by
 rintro vs H Q E ⟨a,n,T,ts,as,R,t,u,rfl,ct,h,hn,hu,hnd,hx,hy,hxy,hl,hed,ht,k⟩
 have td:∀ {H:Hp}{d:ag}{ks ks':List (List kg×V)},H t=some (.tup [.int u.x,.int u.y])->H d=some (.dT ks)->upd H d (.dT ks') t=some (.tup [.int u.x,.int u.y]):=λe1 e2=>by rw [aJ (jG e1 e2)];exact e1
 unfold pd
 walk_at "f"
 refine ⟨a.q,A.bh,a.dq,_,_,rfl,h.ob,ct.lc,ct.l3,fL3,?_⟩
 refine ⟨.inr (.inr (.inl ⟨rfl,.inr ⟨_,h.e3⟩⟩)),?_⟩
 walk_at "x"
 refine ⟨a.d3,_,pk u.x u.y,t,.int 0,rfl,rfl,h.e3,ht,jE (f:=λ_=>V.int 0) hnd hu,?_⟩
 rw [KE]
 have ht1:=td (ks':=kv (ts.filter λv=>decide (v.key≠u.key))) ht h.e3
 have ne3:∀ {b:ag}{o:HO},b≠a.d3->H b=some o->(upd H a.d3 (.dT (kv (ts.filter λv=>decide (v.key≠u.key))))) b=some o:=λhb e=>by rw [aJ hb];exact e
 have q3:(upd H a.d3 (.dT (kv (ts.filter λv=>decide (v.key≠u.key))))) a.d3=_:=aM
 have F1:Fm [a.d1,a.d2,a.d3] H (upd H a.d3 (.dT (kv (ts.filter λv=>decide (v.key≠u.key))))):=Fm.upd (ah _ (ah _ aw))
 have o1:=ne3 (jG h.ob h.e3) h.ob
 have p1:=ne3 h.WW h.e1
 have p2:=ne3 h.Xi h.e2
 generalize upd H a.d3 (.dT (kv (ts.filter λv=>decide (v.key≠u.key))))=H1 at ht1 q3 F1 o1 p1 p2
 dsimp only
 walk_at "f"
 refine ⟨a.q,A.bh,a.dq,_,_,rfl,o1,ct.lc,ct.l1,Rt,?_⟩
 refine ⟨.inr (.inr (.inl ⟨rfl,.inr ⟨_,p1⟩⟩)),?_⟩
 walk_at "x"
 refine ⟨a.d1,_,pk u.x u.y,t,.int u.dH,rfl,rfl,p1,ht1,jE (f:=λt=>V.int t.dH) hnd hu,?_⟩
 rw [KE]
 have ht2:=td (ks':=kl (ts.filter λv=>decide (v.key≠u.key))) ht1 p1
 have o2:(upd H1 a.d1 (.dT (kl (ts.filter λv=>decide (v.key≠u.key))))) a.q=_:=(aJ (jG o1 p1)).trans o1
 have r1:(upd H1 a.d1 (.dT (kl (ts.filter λv=>decide (v.key≠u.key))))) a.d1=_:=aM
 have r2:(upd H1 a.d1 (.dT (kl (ts.filter λv=>decide (v.key≠u.key))))) a.d2=_:=(aJ h.Tj.symm).trans p2
 have r3:(upd H1 a.d1 (.dT (kl (ts.filter λv=>decide (v.key≠u.key))))) a.d3=_:=(aJ h.WW.symm).trans q3
 have F2:Fm [a.d1,a.d2,a.d3] H (upd H1 a.d1 (.dT (kl (ts.filter λv=>decide (v.key≠u.key))))):=F1.trans (Fm.upd aw)
 generalize upd H1 a.d1 (.dT (kl (ts.filter λv=>decide (v.key≠u.key))))=H2 at ht2 o2 r1 r2 r3 F2
 dsimp only
 walk_at "f"
 refine ⟨a.q,A.bh,a.dq,_,_,rfl,o2,ct.lc,ct.l2,Yu,?_⟩
 refine ⟨.inr (.inr (.inl ⟨rfl,.inr ⟨_,r2⟩⟩)),?_⟩
 walk_at "x"
 refine ⟨a.d2,_,pk u.x u.y,t,.bl u.wd,rfl,rfl,r2,ht2,jE (f:=λt=>V.bl t.wd) hnd hu,?_⟩
 rw [KE]
 have ht3:=td (ks':=kw (ts.filter λv=>decide (v.key≠u.key))) ht2 r2
 have F3:Fm [a.d1,a.d2,a.d3] H (upd H2 a.d2 (.dT (kw (ts.filter λv=>decide (v.key≠u.key))))):=F2.trans (Fm.upd (ah _ aw))
 have h3:LV C A (upd H2 a.d2 (.dT (kw (ts.filter λv=>decide (v.key≠u.key))))) a n T (ts.filter λv=>decide (v.key≠u.key)) as R:=h.sets F3 ((aJ h.Tj).trans r1) aM ((aJ h.Xi.symm).trans r3)
 have G3:Fm (fp a) H (upd H2 a.d2 (.dT (kw (ts.filter λv=>decide (v.key≠u.key))))):=F3.mono λb hb=>by
  simp only [ay,eL,or_false] at hb
  rcases hb with rfl|rfl|rfl
  ·exact fp1
  ·exact fp2
  ·exact fp3
 generalize upd H2 a.d2 (.dT (kw (ts.filter λv=>decide (v.key≠u.key))))=H3 at ht3 h3 G3
 refine ⟨_,rfl,?_⟩
 cases hw:u.wd with
 | false =>
  rw [hw] at k
  refine jf ?_
  walk_at "x"
  exact k as R H3 h3 rfl G3
 | true =>
  rw [hw] at k
  have hed:=hed hw
  refine mX ?_
  unfold ux
  walk_at "f"
  refine ⟨a.q,A.bh,a.dq,_,_,rfl,h3.ob,ct.lc,ct.l4,fL4,?_⟩
  walk_at "x"
  refine EJ (fg.of h3.ls) λs hs=>?_
  rw [JY (j:=u.dH+1) (by omega),← vG]
  have S2:=cB.dG (o:=.lst ((a.ws.take (u.dH+1)).map λw=>V.ref w.1)) hs
  have gs:(upd H3 s (.lst ((a.ws.take (u.dH+1)).map λw=>V.ref w.1))) s=some (.lst ((a.ws.take (u.dH+1)).map λw=>V.ref w.1)):=aM
  have nsf:=h3.LB hs
  generalize upd H3 s (.lst ((a.ws.take (u.dH+1)).map λw=>V.ref w.1))=H4 at S2 gs
  have h4:=h3.same S2
  have ht4:=S2 _ _ ht3
  have hlt:(a.ws.take (u.dH+1)).length=u.dH+1:=by rw [cf,h.len];omega
  refine ⟨s,rfl,?_⟩
  refine .inl ⟨⟨_,fg.of gs⟩,oK (K:=K) (a:=s) (xs:=(a.ws.take (u.dH+1)).map λw=>V.ref w.1)
   (λi Z H5=>Up C A a n T (ts.filter λv=>decide (v.key≠u.key)) R (λr=>Rm.ct r u.x u.y) H4 i H5/\∃ o,Z=[some (.ref a.q),some (.ref t),some (.int u.dH),o])
   ⟨⟨⟨as,R,h4,λj=>by rw [if_neg (by omega)]⟩,Fm.refl⟩,_,rfl⟩ ?_ ?_ ?_⟩
  ·rintro i Z H5 _ ⟨U,_⟩;exact fg.of (U.fm _ _ nsf gs)
  ·rintro i z Z H5 hi ⟨U,o,rfl⟩
   rw [aG] at hi
   obtain ⟨w,hw,rfl⟩:=bV.mp hi
   have hi:i<u.dH+1:=by rw [← hlt];exact (aC.mp hw).1
   rw [pK,if_pos hi] at hw
   obtain ⟨as1,R1,L1,e1⟩:=U.ex
   have W1:=L1.wa i w hw
   have ht5:=U.fm _ _ (h4.AW ht4) ht4
   walk_at "m"
   refine ⟨w.1,w.2.1,_,rfl,W1.ob,lL _ _,?_⟩
   walk_at "x"
   refine qQ (sG.of ht5) (fG (j:=0) rfl rfl) ?_
   walk_at "x"
   refine qQ (sG.of ht5) (fG (j:=1) rfl rfl) ?_
   walk_at "x"
   have ei:R1 i=R i:=by rw [e1,if_neg (gE i)]
   have D1:=L1.wd i (by omega)
   have hE:Ed n (R1 i) u.x u.y:=by rw [ei];exact hed i (by omega)
   refine ⟨w.1,w.2.1,w.2.2,n,u.x,u.y,as1 i,R1 i,rfl,ct.w,W1,D1,hn,hx,hy,hxy,hE,λbs H6 W' B'=>?_⟩
   exact ⟨Up.step (f:=λr=>Rm.ct r u.x u.y) L1 e1 U.fm hw W' (D1.ct hx hy hxy hE) B',_,rfl⟩
  ·rintro Z H5 ⟨U,o,rfl⟩
   rw [aj,hlt] at U
   obtain ⟨as1,R1,L1,e1⟩:=U.ex
   refine k as1 _ H5 (L1.cast λj=>?_) rfl ((G3.trans (Fm.of S2)).trans U.fm)
   rw [e1]
   show _=if j<=u.dH then _ else _
   by_cases c:j<=u.dH
   ·rw [if_pos c,if_pos (by omega)]
   ·rw [if_neg c,if_neg (by omega)]
end K32
namespace K32
open Rm
variable {K:aa}{C:ag}{A:CA}{X:EC}{Pt:ag}
def ie (K:aa) (C:ag) (A:CA):Sp:=λvs H Q _=>∃ (a:AL) (n T:Nat) (ts:List Ti) (as:Nat->List ag) (R:Nat->Nat->List Int) (t:ag) (x y:Nat),vs=[.ref a.q,.ref t,.int 0]/\zb K C A/\LV C A H a n T ts as R/\n<=200/\x<n/\y<n/\H t=some (.tup [.int x,.int y])/\(ts.map Ti.key).Nodup/\((x:Int),(y:Int))∉ts.map Ti.key/\ts.length<99 /\
 ∀ b ts' as' R' H',LV C A H' a n T ts' as' R'->(((y:Int)∈R 0 x/\ts'=ts++[⟨x,y,0,false⟩]/\R'=R)\/((y:Int)∉R 0 x/\ts'=jP (ts++[⟨x,y,0,false⟩]) ((x:Int),(y:Int)) Ti.zy/\R'=Ol R 0 x y))->Fm (fp a) H H'->Q (.bl b) H'
theorem FC:Ln (ie K C A) 3:=by walk_at "l"
theorem FD:Rn (ie K C A) (qz K C A (cY K C) (cj K C A)) yV:=by
 rintro vs H Q E ⟨a,n,T,ts,as,R,t,x,y,rfl,ct,h,hn,hx,hy,ht,hnd,hk,hlen,k⟩
 have td:∀ {H:Hp}{d:ag}{ks ks':List (List kg×V)},H t=some (.tup [.int x,.int y])->H d=some (.dT ks)->upd H d (.dT ks') t=some (.tup [.int x,.int y]):=λe1 e2=>by rw [aJ (jG e1 e2)];exact e1
 have kn:∀ (f:Ti->V) (v:V),f ⟨x,y,0,false⟩=v->xX (kf f ts) (pk x y) v=kf f (ts++[⟨x,y,0,false⟩]):=λf v e=>by rw [UQ _ (KD hk),← e];unfold kf;rw [br];rfl
 have hnd':((ts++[(⟨x,y,0,false⟩:Ti)]).map Ti.key).Nodup:=by
  rw [br,iW]
  exact ⟨hnd,by simp,λp hp q hq e=>hk (by rw [C2,aF] at hq;have e2:p=((x:Int),(y:Int)):=e.trans hq;rw [← e2];exact hp)⟩
 have hu:(⟨x,y,0,false⟩:Ti)∈ts++[⟨x,y,0,false⟩]:=bp _ aw
 unfold qz
 walk_at "f"
 refine ⟨a.q,A.bh,a.dq,_,_,rfl,h.ob,ct.lc,ct.l1,Rt,?_⟩
 walk_at "x"
 refine .inr ⟨a.d1,_,rfl,IG.t (k:=pk x y) h.e1 ht (iP (m:=100) (by rw [vh];omega)),?_⟩
 rw [kn (λt=>V.int t.dH) (.int 0) rfl]
 have ht1:=td (ks':=kl (ts++[⟨x,y,0,false⟩])) ht h.e1
 have o1:(upd H a.d1 (.dT (kl (ts++[⟨x,y,0,false⟩])))) a.q=_:=(aJ (jG h.ob h.e1)).trans h.ob
 have p1:(upd H a.d1 (.dT (kl (ts++[⟨x,y,0,false⟩])))) a.d1=_:=aM
 have p2:(upd H a.d1 (.dT (kl (ts++[⟨x,y,0,false⟩])))) a.d2=_:=(aJ h.Tj.symm).trans h.e2
 have p3:(upd H a.d1 (.dT (kl (ts++[⟨x,y,0,false⟩])))) a.d3=_:=(aJ h.WW.symm).trans h.e3
 have F1:Fm [a.d1,a.d2,a.d3] H (upd H a.d1 (.dT (kl (ts++[⟨x,y,0,false⟩])))):=Fm.upd aw
 generalize upd H a.d1 (.dT (kl (ts++[⟨x,y,0,false⟩])))=H1 at ht1 o1 p1 p2 p3 F1
 walk_at "f"
 refine ⟨a.q,A.bh,a.dq,_,_,rfl,o1,ct.lc,ct.l2,Yu,?_⟩
 walk_at "x"
 refine .inr ⟨a.d2,_,rfl,IG.t (k:=pk x y) p2 ht1 (iP (m:=100) (by rw [vh];omega)),?_⟩
 rw [kn (λt=>V.bl t.wd) (.bl false) rfl]
 have ht2:=td (ks':=kw (ts++[⟨x,y,0,false⟩])) ht1 p2
 have o2:(upd H1 a.d2 (.dT (kw (ts++[⟨x,y,0,false⟩])))) a.q=_:=(aJ (jG o1 p2)).trans o1
 have q1:(upd H1 a.d2 (.dT (kw (ts++[⟨x,y,0,false⟩])))) a.d1=_:=(aJ h.Tj).trans p1
 have q2:(upd H1 a.d2 (.dT (kw (ts++[⟨x,y,0,false⟩])))) a.d2=_:=aM
 have q3:(upd H1 a.d2 (.dT (kw (ts++[⟨x,y,0,false⟩])))) a.d3=_:=(aJ h.Xi.symm).trans p3
 have F2:Fm [a.d1,a.d2,a.d3] H (upd H1 a.d2 (.dT (kw (ts++[⟨x,y,0,false⟩])))):=F1.trans (Fm.upd (ah _ aw))
 generalize upd H1 a.d2 (.dT (kw (ts++[⟨x,y,0,false⟩])))=H2 at ht2 o2 q1 q2 q3 F2
 walk_at "f"
 refine ⟨a.q,A.bh,a.dq,_,_,rfl,o2,ct.lc,ct.l3,fL3,?_⟩
 walk_at "x"
 refine .inr ⟨a.d3,_,rfl,IG.t (k:=pk x y) q3 ht2 (iP (m:=100) (by rw [vh];omega)),?_⟩
 rw [kn (λ_=>V.int 0) (.int 0) rfl]
 have ht3:=td (ks':=kv (ts++[⟨x,y,0,false⟩])) ht2 q3
 have F3:Fm [a.d1,a.d2,a.d3] H (upd H2 a.d3 (.dT (kv (ts++[⟨x,y,0,false⟩])))):=F2.trans (Fm.upd (ah _ (ah _ aw)))
 have h3:LV C A (upd H2 a.d3 (.dT (kv (ts++[⟨x,y,0,false⟩])))) a n T (ts++[⟨x,y,0,false⟩]) as R:=h.sets F3 ((aJ h.WW).trans q1) ((aJ h.Xi).trans q2) aM
 have S3:Fm (fp a) H (upd H2 a.d3 (.dT (kv (ts++[⟨x,y,0,false⟩])))):=F3.mono λb hb=>by
  simp only [ay,eL,or_false] at hb
  rcases hb with rfl|rfl|rfl
  ·exact fp1
  ·exact fp2
  ·exact fp3
 generalize upd H2 a.d3 (.dT (kv (ts++[⟨x,y,0,false⟩])))=H3 at ht3 h3 S3
 obtain ⟨w,hw,hwm⟩:=h3.get (bG _)
 have W3:=h3.wa 0 w hw
 have D3:=h3.wd 0 (bG _)
 walk_at "m"
 refine lW ?_
 walk_at "x"
 refine ⟨a.q,A.bh,a.dq,_,_,rfl,h3.ob,ct.lc,ct.l4,fL4,?_⟩
 walk_at "x"
 refine oz (fg.of h3.ls) (fG (j:=0) rfl (by rw [aG,hw];rfl)) ?_
 refine ⟨w.1,w.2.1,_,rfl,W3.ob,lL _ _,?_⟩
 walk_at "x"
 refine qQ (sG.of ht3) (fG (j:=0) rfl rfl) ?_
 walk_at "x"
 refine qQ (sG.of ht3) (fG (j:=1) rfl rfl) ?_
 walk_at "x"
 refine ⟨w.1,w.2.1,w.2.2,n,x,y,as 0,R 0,rfl,ct.w,W3,D3,hx,hy,?_⟩
 refine ⟨_,rfl,?_⟩
 by_cases hj:(y:Int)∈R 0 x
 ·rw [decide_eq_true hj]
  rw [if_neg (by simp)]
  walk_at "f"
  refine ⟨a.q,A.bh,a.dq,_,_,rfl,h3.ob,ct.lc,ct.l2,Yu,?_⟩
  walk_at "x"
  refine .inr ⟨a.d2,.bl false,rfl,.inr ⟨_,pk x y,t,.inl h3.e2,rfl,ht3,(jE (f:=λt=>V.bl t.wd) hnd' hu).symm⟩,?_⟩
  exact k _ _ as R H3 h3 (.inl ⟨hj,rfl,rfl⟩) S3
 ·rw [decide_eq_false hj]
  rw [if_pos (by simp)]
  walk_at "m"
  refine ⟨a.q,a.dq,_,rfl,h3.ob,Zv,?_⟩
  walk_at "x"
  refine ⟨a,n,T,_,as,R,t,⟨x,y,0,false⟩,rfl,ct,h3,hn,hu,hnd',hx,hy,bG _,λi hi=>by rw [Xg.mp hi];exact hj,ht3,by simp;omega,λas' H4 h4 S4=>?_⟩
  have ht4:H4 t=some (.tup [.int x,.int y]):=S4 _ _ (h3.AW ht3) ht3
  walk_at "f"
  refine ⟨a.q,A.bh,a.dq,_,_,rfl,h4.ob,ct.lc,ct.l2,Yu,?_⟩
  walk_at "x"
  refine .inr ⟨a.d2,.bl true,rfl,.inr ⟨_,pk x y,t,.inl h4.e2,rfl,ht4,(jE (f:=λt=>V.bl t.wd) (t:=⟨x,y,0,true⟩) (by rw [mE (f:=Ti.zy) (λ_=>rfl)];exact hnd') ((oN (f:=Ti.zy) hnd' hu _).mpr (.inl rfl))).symm⟩,?_⟩
  exact k _ _ as' _ H4 h4 (.inr ⟨hj,rfl,rfl⟩) (S3.trans S4)
def cq (K:aa) (C:ag) (A:CA):Sp:=λvs H Q _=>∃ (a:AL) (n T:Nat) (ts:List Ti) (as:Nat->List ag) (R:Nat->Nat->List Int) (lv:Nat) (t:ag) (x y:Nat),vs=[.ref a.q,.int lv,.ref t]/\zb K C A/\LV C A H a n T ts as R/\n<=60/\lv<=T/\x<n/\y<n/\H t=some (.tup [.int x,.int y]) /\
 ∀ q (ks:List Int) (s o:Nat),(s=x/\o=y\/s=y/\o=x)->(R lv s).length<=(R lv o).length->H q=none->(∀ z,z∈ks↔z∈R lv s)->Q (.ref q) (upd H q (.lst (ks.map V.int)))
theorem vi:Ln (cq K C A) 3:=by walk_at "l"
theorem vj:Rn (cq K C A) (jd K C A (ib K C) (ic K C)) V0:=by
 rintro vs H Q E ⟨a,n,T,ts,as,R,lv,t,x,y,rfl,ct,h,hn,hl,hx,hy,ht,k⟩
 obtain ⟨w,hw,hwm⟩:=h.get hl
 have W:=h.wa lv w hw
 have D:=h.wd lv hl
 have lx:=D.len hx
 have ly:=D.len hy
 obtain ⟨dx,_,_,cx⟩:=(D.r x hx).cnt
 obtain ⟨dy,_,_,cy⟩:=(D.r y hy).cnt
 unfold jd
 walk_at "f"
 refine ⟨a.q,A.bh,a.dq,_,_,rfl,h.ob,ct.lc,ct.l4,fL4,?_⟩
 walk_at "x"
 refine oz (fg.of h.ls) (fG (j:=lv) rfl (by rw [aG,hw];rfl)) ?_
 walk_at "m"
 refine ⟨w.1,w.2.1,_,rfl,W.ob,lL _ _,?_⟩
 walk_at "m"
 refine ⟨w.1,w.2.1,_,rfl,W.ob,lL _ _,?_⟩
 walk_at "x"
 refine qQ (sG.of ht) (fG (j:=0) rfl rfl) ?_
 walk_at "x"
 refine ⟨w.1,w.2.1,w.2.2,n,x,as lv,R lv,rfl,ct.w,W,D,hx,?_⟩
 refine tR ?_
 walk_at "x"
 refine ⟨w.1,w.2.1,_,rfl,W.ob,lL _ _,?_⟩
 walk_at "x"
 refine qQ (sG.of ht) (fG (j:=1) rfl rfl) ?_
 walk_at "x"
 refine ⟨w.1,w.2.1,w.2.2,n,y,as lv,R lv,rfl,ct.w,W,D,hy,?_⟩
 walk_at "x"
 refine vw (λc=>?_) λc=>?_
 ·walk_at "x"
  refine qQ (sG.of ht) (fG (j:=0) rfl rfl) ?_
  walk_at "x"
  exact ⟨w.1,w.2.1,w.2.2,n,x,as lv,R lv,rfl,ct.w,W,D,by omega,hx,λq ks hq _ hm=>k q ks x y (.inl ⟨rfl,rfl⟩) (by omega) hq hm⟩
 ·walk_at "x"
  refine qQ (sG.of ht) (fG (j:=1) rfl rfl) ?_
  walk_at "x"
  exact ⟨w.1,w.2.1,w.2.2,n,y,as lv,R lv,rfl,ct.w,W,D,by omega,hy,λq ks hq _ hm=>k q ks y x (.inr ⟨rfl,rfl⟩) (by omega) hq hm⟩
end K32
namespace K32
open Rm
variable {K:aa}{C:ag}{A:CA}{X:EC}{Pt:ag}
theorem ud.keep {Pt:ag}{H H':Hp}(h:ud Pt H) (S:∀ b o,(∀ ks,o≠.dT ks)->(∀ xs,o≠.lst xs)->(∀ x y z,o≠.ins x y z)->(∀ o' ks,o≠.frz o' (.dT ks))->H b=some o->H' b=some o):ud Pt H':=by
 rcases h with h|⟨c',oc,vs,t,h1,h2,h3⟩
 ·exact .inl (S _ _ (λ_ z=>nomatch z) (λ_ z=>nomatch z) (λ_ _ _ z=>nomatch z) (λ_ _ z=>nomatch z) h)
 ·exact .inr ⟨c',oc,vs,t,S _ _ (λ_ z=>nomatch z) (λ_ z=>nomatch z) (λ_ _ _ z=>nomatch z) (λ_ _ z=>nomatch z) h1,S _ _ (λ_ z=>nomatch z) (λ_ z=>nomatch z) (λ_ _ _ z=>nomatch z) (λ_ _ z=>nomatch z) h2,h3⟩
theorem ud.same {Pt:ag}{H H':Hp}(h:ud Pt H) (S:cB H H'):ud Pt H':=h.keep λb o _ _ _ _ e=>S b o e
theorem ud.fm {C:ag}{A:CA}{Pt:ag}{H H':Hp}{a:AL}{n T:Nat}{ts:List Ti}{as:Nat->List ag}{R:Nat->Nat->List Int}(h:ud Pt H) (L:LV C A H a n T ts as R) (S:Fm (fp a) H H'):ud Pt H' :=
 h.keep λb o h1 h2 _ _ e=>S b o (L.out e h1 λ_ _=>h2 _) e
theorem ud.ne {Pt:ag}{H:Hp}(h:ud Pt H) {b:ag}{o:HO}(e:H b=some o) (hn:∀ ps,o≠.tbl ps):b≠Pt:=λz=>by
 obtain ⟨ps,q⟩:=h.tbl
 rw [z,q] at e
 exact hn ps (aX e).symm
def AtL (ts:List Ti) (lv:Nat) (w:Bool) (zs:List Zt):Prop:=(zs.map zP).Nodup/\∀ k,k∈zs.map zP↔∃ t∈ts,t.dH=lv/\t.wd=w/\t.key=k
def m6 (K:aa) (C:ag) (A:CA) (Pt:ag):Sp:=λvs H Q _=>∃ (a:AL) (n T:Nat) (ts:List Ti) (as:Nat->List ag) (R:Nat->Nat->List Int) (lv:Nat) (w:Bool),vs=[.ref a.q,.int lv,.bl w]/\zb K C A/\LV C A H a n T ts as R/\(ts.map Ti.key).Nodup/\ts.length<64/\ud Pt H /\
 ∀ (q:ag) (zs:List Zt) (o:gC) H',H q=none->H' q=some (.lst (zs.map mY))->(∀ z∈zs,jh H' z)->AtL ts lv w zs->H' a.d1=some (.frz o (.dT (kl ts)))->ud Pt H'->Fm [Pt,a.d1] H H'->Q (.ref q) H'
def cK (K:aa) (C:ag) (A:CA) (Pt:ag):Sp:=λvs H Q _=>∃ (a:AL) (n T:Nat) (ts:List Ti) (as:Nat->List ag) (R:Nat->Nat->List Int) (lv:Nat) (w:Bool),vs=[.ref a.q,.int lv,.bl w]/\zb K C A/\LV C A H a n T ts as R/\(ts.map Ti.key).Nodup/\ts.length<64/\ud Pt H /\
 ∀ (q:ag) (zs:List Zt) H',H q=none->H' q=some (.lst (zs.map mY))->(∀ z∈zs,jh H' z)->AtL ts lv w zs->ud Pt H'->Mz Pt H H'->Q (.ref q) H'
theorem wM:Ln (m6 K C A Pt) 3:=by walk_at "l"
theorem wO:∀ vs H Q E,cK K C A Pt vs H Q E->m6 K C A Pt vs H (Yd H Q) E:=by
 rintro vs H Q E ⟨a,n,T,ts,as,R,lv,w,rfl,ct,h,hnd,hlen,hT,k⟩
 refine ⟨a,n,T,ts,as,R,lv,w,rfl,ct,h,hnd,hlen,hT,λq zs o H' hq gq pz hz gd hT' B=>.inr ⟨a.d1,o,kl ts,(λo' u' e=>by rw [h.e1] at e;cases e),gd,?_⟩⟩
 have hqd:q≠a.d1:=Ne.symm (aP h.e1 hq)
 have ne:∀ {b:ag}{u:HO},H' b=some u->(∀ o' ks,u≠.frz o' (.dT ks))->(upd H' a.d1 (.dT (kl ts))) b=some u:=λ{b u} e q=>by rw [aJ];exact e;rintro rfl;rw [gd] at e;cases e;exact q _ _ rfl
 refine k q zs _ hq (by rw [aJ hqd];exact gq) (λz hz'=>ne (pz z hz') (λ_ _ z=>nomatch z)) hz (hT'.keep λb u _ _ _ h4 e=>ne e h4) λb u hb e=>?_
 by_cases c:b=a.d1
 ·subst c;rw [aM,← h.e1,e]
 ·rw [aJ c];exact B _ _ (by simp [hb,c]) e
theorem wQ:Rn (m6 K C A Pt) (kB K C A (jw K C Pt)) VY:=by
 rintro vs H Q E ⟨a,n,T,ts,as,R,lv,w,rfl,ct,h,hnd,hlen,hT,k⟩
 unfold kB
 walk_at "x"
 refine Zq ?_
 refine lW ?_
 walk_at "x"
 refine ⟨a.q,A.bh,a.dq,_,_,rfl,h.ob,ct.lc,ct.l1,Rt,?_⟩
 refine ⟨a.d1,kl ts,rfl,.inl ⟨h.e1,λo=>?_⟩⟩
 have g1:(upd H a.d1 (.frz o (.dT (kl ts)))) a.d1=some (.frz o (.dT (kl ts))):=aM
 have B1:bS a.d1 H (upd H a.d1 (.frz o (.dT (kl ts)))):=bS.upd
 generalize upd H a.d1 (.frz o (.dT (kl ts)))=H1 at g1 B1
 have q1:=B1 _ _ h.ob (jG h.ob h.e1)
 have w1:=B1 _ _ h.e2 (Ne.symm h.Tj)
 have v1:=B1 _ _ h.e3 (Ne.symm h.WW)
 have T1:ud Pt H1:=hT.keep λb u h1 _ _ _ e=>B1 _ _ e λz=>by rw [z,h.e1] at e;cases e;exact h1 _ rfl
 intro acc hacc
 refine rJ (n:=ts.length) (λt ys H4=>H4 acc=some (.lst ys)/\cB H1 H4/\∃ us:List (Ti×ag),ys=us.map (λu=>V.ref u.2)/\us.map (·.1)=(ts.take t).filter (λu=>decide (u.dH=lv))/\∀ u∈us,H4 u.2=some (.tup [.int u.1.x,.int u.1.y])) (λZ=>∃ o,Z=[o,some (.int lv),some (.ref a.q)]) ⟨aM,cB.dG hacc,[],rfl,rfl,λz hz=>nomatch hz⟩ ⟨_,rfl⟩ ?_ ?_ ?_ ?_
 ·rintro t ys H4 ⟨e,_⟩;exact e
 ·rintro ys H4 ⟨g4,S4,us,rfl,hu,fl⟩
  refine ⟨⟨by rw [vh];exact ax _,S4 _ _ g1⟩,?_⟩
  rw [cQ (ax _)] at hu
  have hul:us.length<=ts.length:=by have:=congrArg fN hu;rw [aj] at this;rw [this];exact eC _ _
  walk_at "x"
  refine .inl ⟨⟨_,fg.of g4⟩,λacc2 hacc2=>?_⟩
  refine JW (K:=K) (z:=acc) (xs:=us.map λu=>V.ref u.2) us (λu=>decide (u.1.wd=w)) (λu=>V.ref u.2) (λZ=>∃ o,Z=[o,some (.bl w),some (.ref a.q)]) (by simp) (fg.of g4) hacc2 ⟨_,rfl⟩ (by rw [aj];omega) ?_ ?_
  ·rintro i u x σ' H' G G' hi hx S' ⟨o',rfl⟩ k1 k2
   have ex:x=.ref u.2:=by rw [aG,hi] at hx;exact (aX hx).symm
   subst ex
   have hum:=a9 hi
   have hut:u.1∈ts:=by
    have:u.1∈us.map (·.1):=bR hum
    rw [hu] at this
    exact (fb.mp this).1
   walk_at "f"
   refine ⟨a.q,A.bh,a.dq,_,_,rfl,S' _ _ (S4 _ _ q1),ct.lc,ct.l2,Yu,?_⟩
   walk_at "x"
   refine .inr ⟨a.d2,.bl u.1.wd,rfl,.inr ⟨kw ts,pk u.1.x u.1.y,u.2,.inl (S' _ _ (S4 _ _ w1)),rfl,S' _ _ (fl u hum),(jE (f:=λt=>V.bl t.wd) hnd hut).symm⟩,?_⟩
   walk_at "x"
   have e:decide (V.bl u.1.wd=V.bl w)=decide (u.1.wd=w):=decide_eq_decide.mpr ⟨λq=>by injection q,λq=>by rw [q]⟩
   rw [e]
   cases c:decide (u.1.wd=w) with
   | true =>
    refine mX ?_
    walk_at "x"
    exact k1 c _ ⟨_,rfl⟩
   | false=>exact jf (k2 c _ ⟨_,rfl⟩)
  ·intro H' S' hacc'
   have S5:=S4.trans S'
   generalize eu:us.filter (λu=>decide (u.1.wd=w))=us2 at hacc'
   have hu2:us2.map (·.1)=(ts.filter λu=>decide (u.dH=lv)).filter λu=>decide (u.wd=w):=by rw [← hu,← eu,JE];rfl
   have fl2:∀ u∈us2,H' u.2=some (.tup [.int u.1.x,.int u.1.y]):=λu hu=>S' _ _ (fl u (by rw [← eu] at hu;exact (fb.mp hu).1))
   have hm2:∀ u,u∈us2.map (·.1)↔u∈ts/\u.dH=lv/\u.wd=w:=λu=>by
    rw [hu2,fb,fb,decide_eq_true_iff,decide_eq_true_iff,and_assoc]
   have hl2:us2.length<=ts.length:=by rw [← eu];exact bE (eC _ _) hul
   walk_at "f"
   refine ⟨a.q,A.bh,a.dq,_,_,rfl,S5 _ _ q1,ct.lc,ct.l3,fL3,?_⟩
   walk_at "x"
   refine ⟨acc2,a.d3,us2.map (λu=>([0,(u.1.x:Int),(u.1.y:Int)],u.2)),kv ts,rfl,by rw [hacc',cW];rfl,S5 _ _ v1,λz hz=>?_,by rw [aj];omega,T1.same S5,λl zs' H2 hl S6 T6 hp=>?_⟩
   ·obtain ⟨u,hum,rfl⟩:=bX.mp hz
    exact ⟨0,u.1.x,u.1.y,rfl,fl2 u hum,jE (f:=λ_=>V.int 0) hnd ((hm2 u.1).mp (bR hum)).1⟩
   ·have T5:=T1.same S5
    have hlP:l≠Pt:=λz=>by
     obtain ⟨ps,e⟩:=T6.tbl
     rw [z,e] at hl;cases hl
    have F6:Fm [Pt,a.d1] H H2:=λb u hb e=>by
     simp only [ay,eL,or_false,not_or] at hb
     exact S6 _ _ hb.1 (S5 _ _ (B1 _ _ e hb.2))
    have d6:H2 a.d1=some (.frz o (.dT (kl ts))):=S6 _ _ (T5.ne (S5 _ _ g1) (λ_ z=>nomatch z)) (S5 _ _ g1)
    have hld:a.d1≠l:=aP d6 hl
    have U:∀ {b:ag}{u:HO},H2 b=some u->(upd H2 l (.lst (zs'.map we))) b=some u:=λe=>by rw [aJ (aP e hl)];exact e
    have hzP:(zs'.map λz=>(z.1.getD 1 0,z.1.getD 2 0,z.2)).map zP=zs'.map λz=>(z.1.getD 1 0,z.1.getD 2 0):=by rw [cW];rfl
    have hperm:(zs'.map λz=>((z.1.getD 1 0,z.1.getD 2 0):Int×Int)).Perm ((us2.map (·.1)).map Ti.key):=by
     have:=hp.map λz:Zn=>((z.1.getD 1 0,z.1.getD 2 0):Int×Int)
     rw [cW] at this
     rw [cW]
     exact this
    refine k l (zs'.map λz=>(z.1.getD 1 0,z.1.getD 2 0,z.2)) o _ (F6.free (by simp [hlP,hld.symm]) hl) (by rw [aM,cW];rfl) (λz hz=>?_) ⟨?_,λkey=>?_⟩ (U d6) (T6.keep λb u _ _ _ _ e=>U e) (F6.trans λb u _ e=>U e)
    ·obtain ⟨z',hz',rfl⟩:=bX.mp hz
     obtain ⟨u,hum,rfl⟩:=bX.mp (hp.mem_iff.mp hz')
     exact U (S6 _ _ (T5.ne (fl2 u hum) (λ_ z=>nomatch z)) (fl2 u hum))
    ·rw [hzP,hperm.nodup_iff,hu2]
     exact ((oG.trans oG).map _).nodup hnd
    ·rw [hzP,hperm.mem_iff,bX]
     exact ⟨λ⟨u,h1,h2⟩=>⟨u,((hm2 u).mp h1).1,((hm2 u).mp h1).2.1,((hm2 u).mp h1).2.2,h2⟩,λ⟨u,h1,h2,h3,h4⟩=>⟨u,(hm2 u).mpr ⟨h1,h2,h3⟩,h4⟩⟩
 ·rintro t ys H4 ht ⟨_,S4,_⟩;exact ⟨by rw [vh];exact ht,S4 _ _ g1⟩
 ·rintro t ys σ' H4 x H5 ht ⟨g4,S4,us,rfl,hu,fl⟩ ⟨o',rfl⟩ ⟨eH,key,v,b,hk,ex,hb⟩
  subst eH ex
  obtain ⟨u,hu',eu⟩:∃ u,ts[t]?=some u/\(pk u.x u.y,V.int u.dH)=(key,v):=by
   have hk:(ts.map λt=>(pk t.x t.y,V.int t.dH))[t]?=some (key,v):=hk
   rw [aG] at hk
   exact bV.mp hk
  cases eu
  have hum:=a9 hu'
  have hb:H5 b=some (.tup [.int u.x,.int u.y]):=hb
  walk_at "f"
  refine ⟨a.q,A.bh,a.dq,_,_,rfl,S4 _ _ q1,ct.lc,ct.l1,Rt,?_⟩
  walk_at "x"
  refine .inr ⟨a.d1,.int u.dH,rfl,.inr ⟨kl ts,pk u.x u.y,b,.inr ⟨o,S4 _ _ g1⟩,rfl,hb,(jE (f:=λt=>V.int t.dH) hnd hum).symm⟩,?_⟩
  have etk:ts.take (t+1)=ts.take t++[u]:=by rw [jK,hu'];rfl
  have hul:us.length<=ts.length:=by have:=congrArg fN hu;rw [aj] at this;rw [this];exact bE (eC _ _) (by rw [cf];omega)
  walk_at "x"
  refine vw (λc=>?_) λc=>?_
  ·have c:u.dH=lv:=by have:=lU.mp c;omega
   walk_at "x"
   refine ⟨g4,iP (m:=100) (by rw [aj];omega),oC.mk' ht ⟨_,rfl⟩ ⟨aM,λb' ob e=>by rw [aJ (aP e hacc)];exact S4 _ _ e,us++[(u,b)],by simp,?_,λz hz=>?_⟩⟩
   ·rw [br,hu,etk,fP]
    simp [c]
   ·rcases a7.mp hz with hz|hz
    ·rw [aJ (jG (fl z hz) g4)];exact fl z hz
    ·rw [aF.mp hz,aJ (jG hb g4)];exact hb
  ·have c:¬ u.dH=lv:=λe=>c (by rw [e])
   refine oC.mk' ht ⟨_,rfl⟩ ⟨g4,S4,us,rfl,?_,fl⟩
   rw [hu,etk,fP]
   simp [c]
end K32
namespace K32
open Rm
variable {K:aa}{C:ag}{A:CA}{X:EC}{Pt:ag}
theorem Fm.skip {X:List ag}{c:ag}{H H1 H2:Hp}(S:Fm X H H1) (S2:Fm (c::X) H1 H2) (hc:H c=none):Fm X H H2:=λb o hb e=>S2 b o (λz=>by
 rcases ay.mp z with z|z
 ·rw [z,hc] at e;cases e
 ·exact hb z) (S b o hb e)
theorem ew2 {x y:Int}{S:List Int}:ew x y S=2↔x∈S/\y∈S:=by
 unfold ew;by_cases c1:x∈S<;>by_cases c2:y∈S<;>simp [c1,c2]
theorem ew1 {x y:Int}{S:List Int}:ew x y S=1↔(x∈S/\y∉S\/x∉S/\y∈S):=by
 unfold ew;by_cases c1:x∈S<;>by_cases c2:y∈S<;>simp [c1,c2]
section
variable {C:ag}{A:CA}{H H':Hp}{a:AL}{n T:Nat}{ts:List Ti}{as:Nat->List ag}{R:Nat->Nat->List Int}
theorem LV.ZG {Pt:ag}(h:LV C A H a n T ts as R) (hP:ud Pt H) (S:Mz Pt H H'):LV C A H' a n T ts as R :=
 h.keep (X:=[Pt]) (λb o hb e=>S b o (λz=>hb (aF.mpr z)) e) (λx fs e hf _ hx=>hP.ne e (by obtain ⟨c,d,f,rfl,_⟩:=hf;exact λ_ z=>nomatch z) (aF.mp hx)) (λb hb hx=>by
  rcases h.kind hb with ⟨ks,q⟩|⟨bs,_,q⟩
  ·exact hP.ne q (λ_ z=>nomatch z) (aF.mp hx)
  ·exact hP.ne q (λ_ z=>nomatch z) (aF.mp hx)) (λhx=>hP.ne h.ls (λ_ z=>nomatch z) (aF.mp hx)) λb r _ e hx=>hP.ne e (λ_ z=>nomatch z) (aF.mp hx)
theorem LV.app {c:ag}{ys xs:List V}(h:LV C A H a n T ts as R) (hc:H c=some (.lst ys)) (hi:∀ i r,ys≠V.int i::r) (n1:c∉fp a) (n2:a.L≠c):LV C A (upd H c (.lst xs)) a n T ts as R :=
 h.keep (X:=[c]) (Fm.upd aw) (λx fs e hf _ hx=>by
  rw [aF.mp hx,hc] at e
  obtain ⟨c,d,f,rfl,_⟩:=hf
  cases e) (λb hb hx=>n1 (aF.mp hx▸hb)) (λhx=>n2 (aF.mp hx)) λb r hr e hx=>by
  rw [aF.mp hx,hc] at e
  injection e with e
  injection e with e
  match r,hr with
  | x::r,_=>exact hi _ _ e
end
def fA (K:aa) (C:ag) (A:CA) (Pt:ag):Sp:=λvs H Q _=>∃ (a:AL) (n T:Nat) (ts:List Ti) (as:Nat->List ag) (R:Nat->Nat->List Int) (lv:Nat) (t:ag) (x y:Nat),vs=[.ref a.q,.int lv,.ref t]/\zb K C A/\LV C A H a n T ts as R/\n<=60/\(∀ j,2^(j+1)<=n->j<=T)/\Dn n T ts R x y (lv+1)/\H t=some (.tup [.int x,.int y])/\ts.length<64/\ud Pt H /\
 ∀ ts' as' R' H' (u:Tt),H u.p=none->H u.q=none->IH H' u->LV C A H' a n T ts' as' R'->ud Pt H'->Fm (Pt::fp a) H H'->ts'.map Ti.key=ts.map Ti.key->(u.f=.non/\Dn n T ts' R' x y lv\/u.f≠.non/\Lv n T ts' R'/\Jn ts' R')->Q (.ref u.p) H'
theorem Dv:Ln (fA K C A Pt) 3:=by walk_at "l"
theorem Dw:Rn (fA K C A Pt) (ph K C A (cq K C A) (cK K C A Pt) (dE K C A) (dF K C) (cj K C A)) VT:=by
 rintro vs H Q E ⟨a,n,T,ts,as,R,lv,t,x,y,rfl,ct,h,hn,hT,D,ht,hlen,hP,k⟩
 have hlv:lv<=T:=by have:=D.hk;omega
 have hnd:=D.lv.nd
 have f0:∀ {m:aZ},¬ m="level_of"->¬ m="wooden"->¬ m="weight_of"->¬ m="woods"->(fL a.d1 a.d2 a.d3 a.L).lookup m=none:=λh1 h2 h3 h4=>Zv h1 h2 h3 h4
 unfold ph
 walk_at "m"
 refine ⟨a.q,a.dq,_,rfl,h.ob,f0 (by decide +kernel) (by decide +kernel) (by decide +kernel) (by decide +kernel),?_⟩
 walk_at "x"
 refine ⟨a,n,T,ts,as,R,lv,t,x,y,rfl,ct,h,hn,hlv,D.ha,D.hb,ht,λq ks s o hso hle hq hks=>?_⟩
 have D':Dn n T ts R s o (lv+1):=by
  rcases hso with ⟨rfl,rfl⟩|⟨rfl,rfl⟩
  ·exact D
  ·exact D.swap
 have back:∀ {ts' R'},Dn n T ts' R' s o lv->Dn n T ts' R' x y lv:=λd=>by
  rcases hso with ⟨rfl,rfl⟩|⟨rfl,rfl⟩
  ·exact d
  ·exact d.swap
 have hs:((R lv s).length+1)*2^(lv+1)<=2*n:=by
  refine bE ?_ (D'.s2 lv (ji _))
  rw [Ue,Nat.mul_comm (2^lv) 2,← Nat.mul_assoc]
  exact sI _ (by omega)
 generalize eu_:upd H q (.lst (ks.map V.int))=H1
 obtain ⟨S1,g1⟩:=news eu_ hq
 have h1:=h.same S1
 walk_at "m"
 refine ⟨a.q,a.dq,_,rfl,h1.ob,f0 (by decide +kernel) (by decide +kernel) (by decide +kernel) (by decide +kernel),?_⟩
 walk_at "x"
 refine ⟨a,n,T,ts,as,R,lv,true,rfl,ct,h1,hnd,hlen,hP.same S1,λz0 zs H2 hz0 gz pz az P2 S2=>?_⟩
 have h2:=h1.ZG (hP.same S1) S2
 have g2:H2 q=some (.lst (ks.map V.int)):=S2 _ _ ((hP.same S1).ne g1 (λ_ z=>nomatch z)) g1
 have hzl:zs.length<=ts.length:=by
  have:=O7 (l:=zs.map zP) (m:=ts.map Ti.key) az.1 λp hp=>by
   obtain ⟨t,t1,_,_,t4⟩:=(az.2 p).mp hp
   exact t4▸bR t1
  simpa using this
 refine ⟨z0,rfl,.inl ⟨⟨_,fg.of gz⟩,λacc hacc=>?_⟩⟩
 have nacc:=h2.LB hacc
 have nLacc:a.L≠acc:=aP h2.ls hacc
 refine rJ (n:=zs.length) (λi ys H4=>ys=((zs.take i).filter λz=>decide (ew z.1 z.2.1 ks=2)).map mY/\H4 acc=some (.lst ys)/\cB H2 H4) (λZ=>∃ o,Z=[o,some (.ref q)]) ⟨by simp,aM,cB.dG hacc⟩ ⟨_,rfl⟩ ?_ ?_ ?_ ?_
 ·rintro i ys H' ⟨_,h,_⟩;exact h
 ·rintro ys H3 ⟨rfl,g3,S3⟩
  refine ⟨⟨_,fg.of (S3 _ _ gz),by rw [aj];exact ax _⟩,?_⟩
  rw [cQ (ax _)] at g3
  generalize ew':zs.filter (λz=>decide (ew z.1 z.2.1 ks=2))=ws at g3
  have hws:∀ z,z∈ws↔z∈zs/\z.1∈ks/\z.2.1∈ks:=λz=>by rw [← ew',fb,decide_eq_true_iff,ew2]
  have wnd:(ws.map zP).Nodup:=by rw [← ew'];exact (oG.map _).nodup az.1
  have h3:=h2.same S3
  have P3:=P2.same S3
  have q3:=S3 _ _ g2
  have pw:∀ z∈ws,jh H3 z:=λz hz=>S3 _ _ (pz z ((hws z).mp hz).1)
  have st:∀ z∈ws,∃ t∈ts,t.key=zP z/\t.wd=true/\t.dH=lv/\(t.x:Int)∈R lv s/\(t.y:Int)∈R lv s:=λz hz=>by
   obtain ⟨m1,m2,m3⟩:=(hws z).mp hz
   obtain ⟨t,t1,t2,t3,t4⟩:=(az.2 (zP z)).mp (bR m1)
   obtain ⟨e1,e2⟩:=dz t4
   exact ⟨t,t1,t4,t3,t2,by rw [e1];exact (hks _).mp m2,by rw [e2];exact (hks _).mp m3⟩
  walk_at "x"
  unfold uz
  walk_at "x"
  refine .inl ⟨⟨_,fg.of g3⟩,oK (K:=K) (a:=acc) (xs:=ws.map mY) (λi Z H4=>∃ ts1 as1 R1 o5 o6,Z=[some (.ref a.q),some (.int lv),some (.ref t),some (.ref q),some (.ref acc),o5,o6]/\LV C A H4 a n T ts1 as1 R1/\Lo1 n T lv s o ts R (ws.map zP) i ts1 R1/\Fm (fp a) H3 H4)
   ⟨ts,as,R,_,_,rfl,h3,⟨D',rfl,rfl,λt ht h1 h2 h3 h4=>?_,λp hp=>?_,λp hp=>?_⟩,Fm.refl⟩ ?_ ?_ ?_⟩
  ·obtain ⟨z,hz,e⟩:=bX.mp ((az.2 t.key).mpr ⟨t,ht,h2,h1,rfl⟩)
   obtain ⟨e1,e2⟩:=dz e
   exact bX.mpr ⟨z,(hws z).mpr ⟨hz,by rw [e1];exact (hks _).mpr h3,by rw [e2];exact (hks _).mpr h4⟩,e⟩
  ·obtain ⟨z,hz,rfl⟩:=bX.mp hp
   exact st z hz
  ·obtain ⟨z,hz,rfl⟩:=bX.mp hp
   obtain ⟨t,h1,h2,h3,_⟩:=st z hz
   exact ⟨t,h1,h2,h3⟩
  ·rintro i Z H4 _ ⟨_,_,_,_,_,_,_,_,F⟩;exact fg.of (F _ _ nacc g3)
  ·rintro i v Z H4 hi ⟨ts1,as1,R1,o5,o6,rfl,L4,M,F⟩
   rw [aG] at hi
   obtain ⟨z,hz,rfl⟩:=bV.mp hi
   obtain ⟨u,u1,u2,u3,u4,u5,M'⟩:=M.step hT hs wnd (p:=zP z) (by rw [aG,hz];rfl)
   have hpz:=pw z (a9 hz)
   have hpz4:H4 z.2.2=some (.tup [.int u.x,.int u.y]):=by
    obtain ⟨e1,e2⟩:=dz u2
    rw [e1,e2];exact F _ _ (h3.AW hpz) hpz
   obtain ⟨l1,l2,_⟩:=M.dn.lv.lt u u1
   have hl1:ts1.length=ts.length:=by have:=congrArg fN M.ks;simpa using this
   walk_at "m"
   refine ⟨a.q,a.dq,_,rfl,L4.ob,f0 (by decide +kernel) (by decide +kernel) (by decide +kernel) (by decide +kernel),?_⟩
   walk_at "x"
   refine ⟨a,n,T,ts1,as1,R1,z.2.2,u,rfl,ct,L4,by omega,u1,M.dn.lv.nd,by omega,l2,λ_=>⟨u4,u5⟩,hpz4,by omega,λas' R' H5 L5 eR F5=>?_⟩
   rw [u3,if_pos rfl] at eR
   subst eR
   exact ⟨_,as',_,_,_,rfl,L5,M',F.trans F5⟩
  ·rintro Z H4 ⟨ts1,as1,R1,o5,o6,rfl,L4,M,F⟩
   rw [aj] at M
   have P4:=P3.fm h3 F
   have a4:=F _ _ nacc g3
   have q4:=F _ _ (h3.YF q3) q3
   have ed:(ws.map zP).drop ws.length=[]:=Uv.mpr (by rw [aj];exact ax _)
   have hno:∀ t∈ts1,t.wd=true->t.dH=lv->(t.x:Int)∈R1 lv s->(t.y:Int)∈R1 lv s->False:=λt h1 h2 h3 h4 h5=>by
    rw [M.rl] at h4 h5
    have:=M.pend t h1 h2 h3 h4 h5
    rw [ed] at this
    cases this
   have hl1:ts1.length=ts.length:=by have:=congrArg fN M.ks;simpa using this
   have hs1:((R1 lv s).length+1)*2^(lv+1)<=2*n:=by rw [M.rl];exact hs
   have hks1:∀ z,z∈ks↔z∈R1 lv s:=by rw [M.rl];exact hks
   walk_at "x"
   unfold uA
   walk_at "m"
   refine ⟨a.q,a.dq,_,rfl,L4.ob,f0 (by decide +kernel) (by decide +kernel) (by decide +kernel) (by decide +kernel),?_⟩
   walk_at "x"
   refine ⟨a,n,T,ts1,as1,R1,lv,false,rfl,ct,L4,M.dn.lv.nd,by omega,P4,λz5 zs3 H5 hz5 gz5 pz5 az5 P5 S5=>?_⟩
   have L5:=L4.ZG P4 S5
   have a5:H5 acc=some (.lst (ws.map mY)):=S5 _ _ (P4.ne a4 (λ_ z=>nomatch z)) a4
   have q5:H5 q=some (.lst (ks.map V.int)):=S5 _ _ (P4.ne q4 (λ_ z=>nomatch z)) q4
   have nqa:q≠acc:=aP g2 hacc
   have n5a:z5≠acc:=Ne.symm (aP a4 hz5)
   have n5f:=L4.LB hz5
   have n3:(zs3.map zP).Nodup:=az5.1
   have hcnt:ws.length+zs3.length<=ts.length:=by
    have:=O7 (l:=ws.map zP++zs3.map zP) (m:=ts1.map Ti.key) (iW.mpr ⟨wnd,n3,λp hp p' hp' e=>by
     subst e
     obtain ⟨t,t1,t2,t3⟩:=M.all p hp
     obtain ⟨t',s1,_,s3,s4⟩:=(az5.2 p).mp hp'
     rw [tQ M.dn.lv.nd t1 s1 (t2.trans s4.symm),s3] at t3
     cases t3⟩) λp hp=>by
      rcases a7.mp hp with hp|hp
      ·obtain ⟨t,t1,t2,_⟩:=M.all p hp
       exact t2▸bR t1
      ·obtain ⟨t,t1,_,_,t4⟩:=(az5.2 p).mp hp
       exact t4▸bR t1
    simp at this
    omega
   -- from the beginning to here
   have F5:Fm (Pt::fp a) H H5:=λb o hb e=>by
    rw [ay,not_or] at hb
    exact S5 _ _ hb.1 (F _ _ hb.2 (S3 _ _ (S2 _ _ hb.1 (S1 _ _ e))))
   have fr:∀ {b:ag},H5 b=none->H b=none:=λ{b} e=>F5.free (λz=>by
    rcases ay.mp z with z|z
    ·obtain ⟨ps,q⟩:=P5.tbl
     rw [z,q] at e;cases e
    ·exact L5.LB e z) e
   have hacc0:H acc=none:=by
    cases z:H acc with
    | none=>rfl
    | some u =>
     have:H1 acc=some u:=S1 _ _ z
     by_cases c:acc=Pt
     ·obtain ⟨ps,q⟩:=P2.tbl
      rw [← c,hacc] at q;cases q
     ·rw [S2 _ _ c this] at hacc;cases hacc
   have Lf:∀ {H6},Fm (acc::fp a) H5 H6->H6 q=some (.lst (ks.map V.int)):=λF=>F _ _ (λz=>(ay.mp z).elim nqa (L5.YF q5)) q5
   -- the step told
   have told:∀ {ts2 as2 R2 H6} {rs:List Zt}(f:V),LV C A H6 a n T ts2 as2 R2->ud Pt H6->Fm (acc::fp a) H5 H6->H6 acc=some (.lst (rs.map mY))->(∀ z∈rs,jh H6 z)->rs.length<64->ts2.map Ti.key=ts.map Ti.key->(f=.non/\Dn n T ts2 R2 x y lv\/f≠.non/\Lv n T ts2 R2/\Jn ts2 R2) ->
     ∀ G:VK,(∀ v H7,(∀ p,H7 p=none->Q (.ref p) (upd H7 p (.tup [.int lv,.ref q,v,f])))->G v H7)->wg K [.ref acc] H6 G:=λ{ts2 as2 R2 H6 rs} f L6 P6 F6 g6 p6 hl6 hk hf G kG=>by
    have fr6:∀ {b:ag},H6 b=none->H b=none:=λ{b} e=>fr (F6.free (λz=>by
     rcases ay.mp z with z|z
     ·rw [z,g6] at e;cases e
     ·exact L6.LB e z) e)
    refine ⟨acc,rs.map (λz=>([z.1,z.2.1],z.2.2)),[false],rfl,by rw [cW];exact fg.of g6,λz hz=>let ⟨u,hu,e⟩:=bX.mp hz;e▸⟨_,p6 u hu,.int _ (.int _ .nil)⟩,by rw [aj];exact hl6,λl rs' hl _ _=>kG _ _ λp hp=>?_⟩
    have S7:=cB.dG (o:=.lst (rs'.map we)) hl
    have g7:(upd H6 l (.lst (rs'.map we))) l=some (.lst (rs'.map we)):=aM
    generalize upd H6 l (.lst (rs'.map we))=H7 at S7 g7 hp
    have S8:=cB.dG (o:=.tup [.int lv,.ref q,.ref l,f]) hp
    have S78:=S7.trans S8
    exact k ts2 as2 R2 _ ⟨p,q,l,lv,rs'.map we,f⟩ (fr6 (S7.free hp)) (fr6 hl) ⟨aM,S8 _ _ g7⟩ (L6.same S78) (P6.same S78) (F5.skip ((F6.mono λb hb=>(ay.mp hb).elim (λz=>z▸aw) λz=>ah _ (ah _ z)).trans (Fm.of S78)) hacc0) hk hf
   refine ⟨z5,rfl,.inl ⟨⟨_,fg.of gz5⟩,oK (K:=K) (a:=z5) (xs:=zs3.map mY) (λi Z H6=>∃ ts2 as2 rs o5 o6,Z=[some (.ref a.q),some (.int lv),some (.ref t),some (.ref q),some (.ref acc),o5,o6]/\LV C A H6 a n T ts2 as2 R1/\ud Pt H6/\Ts n T lv s o ts R1 (zs3.map zP) i ts2/\H6 acc=some (.lst (rs.map mY))/\(∀ z∈rs,jh H6 z)/\rs.length<=ws.length+i/\Fm (acc::fp a) H5 H6)
    ⟨ts1,as1,ws,_,_,rfl,L5,P5,⟨M.dn,M.ks,λh x y hx hy h1 h2=>M.dn.full hno h hx hy h1 h2,λp hp=>?_,λt h1 h2 h3=>.inl ?_⟩,a5,λz hz=>S5 _ _ (P4.ne (F _ _ (h3.AW (pw z hz)) (pw z hz)) (λ_ z=>nomatch z)) (F _ _ (h3.AW (pw z hz)) (pw z hz)),ax _,Fm.refl⟩ ?_ ?_ ?_⟩⟩
   ·obtain ⟨t,t1,t2,t3,t4⟩:=(az5.2 p).mp hp
    exact ⟨t,t1,t4,t3,t2⟩
   ·exact (az5.2 t.key).mpr ⟨t,h1,h3,h2,rfl⟩
   ·rintro i Z H6 _ ⟨_,_,_,_,_,_,_,_,_,_,_,_,F6⟩;exact fg.of (F6 _ _ (λz=>(ay.mp z).elim n5a n5f) gz5)
   ·rintro i v Z H6 hi ⟨ts2,as2,rs,o5,o6,rfl,L6,P6,N,g6,p6,hl6,F6⟩
    rw [aG] at hi
    obtain ⟨z,hz,rfl⟩:=bV.mp hi
    have hilt:i<zs3.length:=(aC.mp hz).1
    have hpi:(zs3.map zP)[i]?=some (zP z):=by rw [aG,hz];rfl
    have hz5:=pz5 z (a9 hz)
    have hz6:H6 z.2.2=some (.tup [.int z.1,.int z.2.1]):=F6 _ _ (λe=>(ay.mp e).elim (jG hz5 a5) (L5.AW hz5)) hz5
    have hl2:ts2.length=ts.length:=by have:=congrArg fN N.ks;simpa using this
    walk_at "x"
    refine ⟨z.2.2,q,z.1,z.2.1,ks,rfl,hz6,Lf F6,λH7 S7=>?_⟩
    have L7:=L6.same S7
    have P7:=P6.same S7
    have F7:=F6.trans (Fm.of S7)
    have g7:=S7 _ _ g6
    have hz7:=S7 _ _ hz6
    have p7:∀ z∈rs,jh H7 z:=λz hz=>S7 _ _ (p6 z hz)
    walk_at "x"
    refine vw (λc=>?_) λc=>?_
    ·have c:ew z.1 z.2.1 ks=1:=by have:=lU.mp c;omega
     have c:=ew1.mp c
     rw [hks1,hks1] at c
     obtain ⟨u,u1,u2,u3,u4,u5⟩:=N.one n3 hpi c
     obtain ⟨l1,l2,l3⟩:=N.dn.lv.lt u u1
     obtain ⟨e1,e2⟩:=dz u2
     walk_at "m"
     refine ⟨a.q,a.dq,_,rfl,L7.ob,f0 (by decide +kernel) (by decide +kernel) (by decide +kernel) (by decide +kernel),?_⟩
     walk_at "x"
     refine ⟨a,n,T,ts2,as2,R1,z.2.2,u,rfl,ct,L7,by omega,u1,N.dn.lv.nd,by omega,l2,l3,u3,by rw [e1,e2];exact hz7,by omega,λas' H8 L8 F8=>?_⟩
     walk_at "x"
     refine told (rs:=rs) (.ref z.2.2) L8 (P7.fm L7 F8) (F7.trans F8.tail) (F8 _ _ nacc g7) (λz hz=>F8 _ _ (L7.AW (p7 z hz)) (p7 z hz)) (by omega) (by rw [mE (f:=Ti.zy) (λ_=>rfl)];exact N.ks) (.inr ⟨(λz=>nomatch z),u4,u5⟩) _ λv H9 kk=>?_
     walk_at "x"
     exact ⟨bA (m:=4) (ax 4),kk⟩
    ·walk_at "x"
     have c1:¬ ew z.1 z.2.1 ks=1:=λe=>c (by rw [e];rfl)
     refine vw (λc=>?_) λc=>?_
     ·have c:ew z.1 z.2.1 ks=2:=by have:=lU.mp c;omega
      have c:=ew2.mp c
      rw [hks1,hks1] at c
      obtain ⟨u,u1,u2,u3,N'⟩:=N.two hT hs1 n3 hpi c.1 c.2
      obtain ⟨l1,l2,l3⟩:=N.dn.lv.lt u u1
      obtain ⟨e1,e2⟩:=dz u2
      walk_at "m"
      refine ⟨a.q,a.dq,_,rfl,L7.ob,f0 (by decide +kernel) (by decide +kernel) (by decide +kernel) (by decide +kernel),?_⟩
      walk_at "x"
      refine ⟨a,n,T,ts2,as2,R1,z.2.2,u,rfl,ct,L7,by omega,u1,N.dn.lv.nd,by omega,l2,(λe=>by rw [u3] at e;cases e),by rw [e1,e2];exact hz7,by omega,λas' R' H8 L8 eR F8=>?_⟩
      rw [u3,if_neg (by decide)] at eR
      subst eR
      have g8:=F8 _ _ nacc g7
      have hz8:=F8 _ _ (L7.AW hz7) hz7
      walk_at "x"
      refine ⟨.inl ⟨rfl,_,fg.of g8⟩,?_⟩
      walk_at "x"
      refine EH g8 (iP (m:=100) (by rw [aj];omega)) ?_
      have ne:∀ {b:ag}{o:HO},H8 b=some o->(∀ xs,o≠.lst xs)->(upd H8 acc (.lst (rs.map mY++[.ref z.2.2]))) b=some o:=λ{b o} e hno=>by rw [aJ];exact e;rintro rfl;rw [g8] at e;cases e;exact hno _ rfl
      refine ⟨_,as',rs++[z],_,_,rfl,L8.app g8 (by intro i r e;cases rs<;>cases e) nacc nLacc,(P7.fm L7 F8).keep λb o _ h2 _ _ e=>ne e h2,N',by rw [aM,br];rfl,λz' hz'=>ne ?_ (λ_ z=>nomatch z),by rw [bN];simp;omega,(F7.trans F8.tail).trans (Fm.upd aw)⟩
      rcases a7.mp hz' with hz'|hz'
      ·exact F8 _ _ (L7.AW (p7 z' hz')) (p7 z' hz')
      ·rw [aF.mp hz'];exact hz8
     ·have c2:¬ ew z.1 z.2.1 ks=2:=λe=>c (by rw [e];rfl)
      walk_at "x"
      have c3:z.1∉R1 lv s/\z.2.1∉R1 lv s:=by
       rw [← hks1,← hks1]
       rw [ew1] at c1
       rw [ew2] at c2
       by_cases d1:z.1∈ks<;>by_cases d2:z.2.1∈ks<;>simp_all
      exact ⟨ts2,as2,rs,_,_,rfl,L7,P7,N.zero n3 hpi c3.1 c3.2,g7,p7,by omega,F7⟩
   ·rintro Z H6 ⟨ts2,as2,rs,o5,o6,rfl,L6,P6,N,g6,p6,hl6,F6⟩
    rw [aj] at N hl6
    walk_at "x"
    refine told (rs:=rs) .non L6 P6 F6 g6 p6 (by omega) N.ks (.inl ⟨rfl,back (N.fin (by rw [aj];exact ax _))⟩) _ λv H9 kk=>?_
    walk_at "x"
    exact ⟨bA (m:=4) (ax 4),kk⟩
 ·rintro i ys H' hi ⟨e,h,S'⟩
  exact ⟨_,_,fg.of (S' _ _ gz),by rw [aG,aD hi];rfl⟩
 ·rintro i ys σ' H' v H3 hi ⟨rfl,hl,S'⟩ ⟨o',rfl⟩ ⟨e2,hx⟩
  subst e2
  have hxi:=hx _ (fg.of (S' _ _ gz))
  rw [aG,aD hi] at hxi
  have hv:=(aX hxi).symm
  subst hv
  have et:zs.take (i+1)=zs.take i++[zs[i]]:=by rw [jK,aD hi];rfl
  walk_at "x"
  refine ⟨zs[i].2.2,q,zs[i].1,zs[i].2.1,ks,rfl,S' _ _ (pz _ (iG hi)),S' _ _ g2,λH4 S4=>?_⟩
  walk_at "x"
  refine vw (λc=>?_) λc=>?_
  ·have c:ew zs[i].1 zs[i].2.1 ks=2:=by have:=lU.mp c;omega
   walk_at "x"
   refine ⟨S4 _ _ hl,iP (m:=1000) (by rw [aj];exact bj (eC _ _) (by rw [cf];omega)),oC.mk' hi ⟨_,rfl⟩ ⟨?_,aM,λb o e=>by rw [aJ (aP e hacc)];exact S4 _ _ (S' _ _ e)⟩⟩
   rw [et,fP,br]
   simp [c]
  ·have c:¬ ew zs[i].1 zs[i].2.1 ks=2:=λe=>c (by rw [e];rfl)
   refine oC.mk' hi ⟨_,rfl⟩ ⟨?_,S4 _ _ hl,S'.trans S4⟩
   rw [et,fP,br]
   simp [c]
end K32
namespace K32
open Rm
variable {K:aa}{C:ag}{A:CA}{X:EC}{Pt:ag}
def dk (K:aa) (C:ag) (A:CA) (Pt:ag):Sp:=λvs H Q _=>∃ (a:AL) (n T:Nat) (ts:List Ti) (as:Nat->List ag) (R:Nat->Nat->List Int) (t:ag) (u:Ti),vs=[.ref a.q,.ref t]/\zb K C A/\LV C A H a n T ts as R/\n<=60/\T<=10/\(∀ j,2^(j+1)<=n->j<=T)/\Lv n T ts R/\Jn ts R/\u∈ts/\H t=some (.tup [.int u.x,.int u.y])/\ts.length<64/\ud Pt H /\
 ∀ (q:ag) (us:List Tt) (ts':List Ti) (as':Nat->List ag) (R':Nat->Nat->List Int) (H':Hp),H q=none->H' q=some (.lst (us.map vL))->(∀ v∈us,IH H' v)->us.length<=1000->LV C A H' a n T ts' as' R'->Lv n T ts' R'->Jn ts' R'->ts'.map Ti.key=(ts.filter λv=>decide (v.key≠u.key)).map Ti.key->ud Pt H'->Fm (Pt::fp a) H H'->Q (.ref q) H'
theorem Dx:Ln (dk K C A Pt) 2:=by walk_at "l"
theorem Dy:Rn (dk K C A Pt) (pj K C A (fz K C A) (fA K C A Pt)) VU:=by
 rintro vs H Q E ⟨a,n,T,ts,as,R,t,u,rfl,ct,h,hn,hT10,hT,L,J,hu,ht,hlen,hP,k⟩
 obtain ⟨l1,l2,l3⟩:=L.lt u hu
 unfold pj
 walk_at "f"
 refine ⟨a.q,A.bh,a.dq,_,_,rfl,h.ob,ct.lc,ct.l1,Rt,?_⟩
 walk_at "x"
 refine .inr ⟨a.d1,.int u.dH,rfl,.inr ⟨_,pk u.x u.y,t,.inl h.e1,rfl,ht,(jE (f:=λt=>V.int t.dH) L.nd hu).symm⟩,?_⟩
 walk_at "f"
 refine ⟨a.q,A.bh,a.dq,_,_,rfl,h.ob,ct.lc,ct.l2,Yu,?_⟩
 walk_at "x"
 refine .inr ⟨a.d2,.bl u.wd,rfl,.inr ⟨_,pk u.x u.y,t,.inl h.e2,rfl,ht,(jE (f:=λt=>V.bl t.wd) L.nd hu).symm⟩,?_⟩
 walk_at "m"
 refine ⟨a.q,a.dq,_,rfl,h.ob,Zv,?_⟩
 walk_at "x"
 refine ⟨a,n,T,ts,as,R,t,u,rfl,ct,h,by omega,hu,L.nd,by omega,l2,by omega,l3,λhw i hi=>(L.ed i (by omega) _ _).mpr ⟨u,hu,hw,hi,.inl rfl⟩,ht,λas1 R1 H1 h1 eR F1=>?_⟩
 have P1:=hP.fm h F1
 have ht1:=F1 _ _ (h.AW ht) ht
 walk_at "x"
 refine ⟨bA (m:=0) (ax 0),λtr htr=>?_⟩
 have S2:=cB.dG (o:=.lst []) htr
 have g2:(upd H1 tr (.lst [])) tr=some (.lst []):=aM
 have ntf:=h1.LB htr
 have ntP:tr≠Pt:=λz=>by
  obtain ⟨ps,q⟩:=P1.tbl
  rw [z,q] at htr;cases htr
 have ntL:a.L≠tr:=aP h1.ls htr
 have htr0:H tr=none:=F1.free ntf htr
 generalize upd H1 tr (.lst [])=H2 at S2 g2
 have h2:=h1.same S2
 have P2:=P1.same S2
 have ht2:=S2 _ _ ht1
 have F2:Fm (Pt::fp a) H H2:=(F1.trans (Fm.of S2)).tail
 generalize ef:(ts.filter λv=>decide (v.key≠u.key))=tf at h1 h2 k
 have hlf:tf.length<=ts.length:=by rw [← ef];exact eC _ _
 walk_at "x"
 unfold uB
 refine My (λZ H3=>∃ (ts1:List Ti) (as1:Nat->List ag) (R1:Nat->Nat->List Int) (us:List Tt) (lv:Int) (b:Bool),Z=[some (.ref a.q),some (.ref t),some (.int lv),some (.bl b),some (.ref tr)]/\LV C A H3 a n T ts1 as1 R1/\ud Pt H3/\H3 tr=some (.lst (us.map vL))/\(∀ v∈us,IH H3 v/\v.q∉tr::Pt::fp a)/\Fm (tr::Pt::fp a) H2 H3/\ts1.map Ti.key=tf.map Ti.key /\
  ((b=true/\∃ kk:Nat,lv=(kk:Int)-1/\Dn n T ts1 R1 u.x u.y kk/\us.length+kk<=T+1)\/b=false/\Lv n T ts1 R1/\Jn ts1 R1/\us.length<=T+1)) (λZ _=>match Z with|[_,_,some (.int lv),_,_]=>(lv+1).toNat|_=>0) ?_ ?_
 ·refine ⟨tf,as1,R1,[],u.dH,u.wd,rfl,h2,P2,g2,(λv hv=>nomatch hv),Fm.refl,rfl,?_⟩
  cases hw:u.wd with
  | true =>
   rw [hw,if_pos rfl] at eR
   subst eR
   exact .inl ⟨rfl,u.dH+1,by omega,ef▸L.drop J hu hw,by simp;omega⟩
  | false =>
   rw [hw,if_neg (by decide)] at eR
   subst eR
   obtain ⟨L',J'⟩:=L.acP J hu hw
   exact .inr ⟨rfl,ef▸L',ef▸J',by simp⟩
 ·rintro Z H3 ⟨ts1,as1,R1,us,lv,b,rfl,h3,P3,g3,u3,F3,hk,hc⟩
  have fin:Lv n T ts1 R1->Jn ts1 R1->us.length<=T+1->Q (.ref tr) H3:=λL' J' hl=>k tr us ts1 as1 R1 H3 htr0 g3 (λv hv=>(u3 v hv).1) (by omega) h3 L' J' hk P3 (F2.skip F3 htr0)
  walk_at "x"
  refine ⟨_,rfl,?_⟩
  cases b with
  | false =>
   refine jf (jf ?_)
   walk_at "x"
   rcases hc with ⟨z,_⟩|⟨_,L',J',hl⟩
   ·cases z
   ·exact fin L' J' hl
  | true =>
   refine mX ?_
   walk_at "x"
   obtain ⟨kk,rfl,D,hl⟩:∃ kk:Nat,lv=(kk:Int)-1/\Dn n T ts1 R1 u.x u.y kk/\us.length+kk<=T+1:=by
    rcases hc with ⟨_,h⟩|⟨z,_⟩
    ·exact h
    ·cases z
   refine vw (λc=>⟨_,Zm,?_⟩) λc=>?_
   ·obtain ⟨m,rfl⟩:∃ m,kk=m+1:=⟨kk-1,by omega⟩
    rw [show ((m+1:Nat):Int)-1=(m:Int) by omega]
    have hl1:ts1.length=tf.length:=by have:=congrArg fN hk;simpa using this
    walk_at "x"
    refine ⟨.inl ⟨rfl,_,fg.of g3⟩,?_⟩
    walk_at "m"
    refine ⟨a.q,a.dq,_,rfl,h3.ob,Zv,?_⟩
    walk_at "x"
    have nt3:t∉tr::Pt::fp a:=by
     simp only [ay,not_or]
     exact ⟨jG ht2 g2,P2.ne ht2 (λ_ z=>nomatch z),h2.AW ht2⟩
    refine ⟨a,n,T,ts1,as1,R1,m,t,u.x,u.y,rfl,ct,h3,hn,hT,D,F3 _ _ nt3 ht2,by omega,P3,λts4 as4 R4 H4 v hp hq ok h4 P4 F4 hk4 hD=>?_⟩
    have g4:H4 tr=some (.lst (us.map vL)):=F4 _ _ (by simp only [ay,not_or];exact ⟨ntP,ntf⟩) g3
    have nvq:v.q∉tr::Pt::fp a:=by
     simp only [ay,not_or]
     refine ⟨Ne.symm (aP g3 hq),λz=>?_,h3.LB hq⟩
     obtain ⟨ps,q⟩:=P3.tbl
     rw [z,q] at hq;cases hq
    walk_at "x"
    refine EH g4 (iP (m:=100) (by rw [aj];omega)) ?_
    have ne:∀ {b:ag}{o:HO},H4 b=some o->(∀ xs,o≠.lst xs)->(upd H4 tr (.lst (us.map vL++[.ref v.p]))) b=some o:=λ{b o} e hno=>by rw [aJ];exact e;rintro rfl;rw [g4] at e;cases e;exact hno _ rfl
    have g5:(upd H4 tr (.lst (us.map vL++[.ref v.p]))) tr=some (.lst ((us++[v]).map vL)):=by rw [aM,br];rfl
    have h5:LV C A (upd H4 tr (.lst (us.map vL++[.ref v.p]))) a n T ts4 as4 R4:=h4.app g4 (by intro i r e;cases us<;>cases e) ntf ntL
    have P5:ud Pt (upd H4 tr (.lst (us.map vL++[.ref v.p]))):=P4.keep λb o _ h2 _ _ e=>ne e h2
    have ok5:IH (upd H4 tr (.lst (us.map vL++[.ref v.p]))) v:=⟨ne ok.1 (λ_ z=>nomatch z),by rw [aJ λz=>nvq (by rw [z];exact aw)];exact ok.2⟩
    have u5:∀ w∈us,IH (upd H4 tr (.lst (us.map vL++[.ref v.p]))) w:=λw hw=>by
     obtain ⟨⟨o1,o2⟩,o3⟩:=u3 w hw
     have n1:w.p∉Pt::fp a:=by simp only [ay,not_or];exact ⟨P3.ne o1 (λ_ z=>nomatch z),h3.AW o1⟩
     refine ⟨ne (F4 _ _ n1 o1) (λ_ z=>nomatch z),?_⟩
     rw [aJ λz=>o3 (by rw [z];exact aw)]
     exact F4 _ _ (λz=>o3 (ah _ z)) o2
    have F5:Fm (tr::Pt::fp a) H2 (upd H4 tr (.lst (us.map vL++[.ref v.p]))):=(F3.trans F4.tail).trans (Fm.upd aw)
    generalize upd H4 tr (.lst (us.map vL++[.ref v.p]))=H5 at g5 h5 P5 ok5 u5 F5 ne
    walk_at "x"
    refine oz (fg.of g5) (v:=.ref v.p) ?_ ?_
    ·rw [br];exact UN _ _
    refine qQ (sG.of ok5.1) (fG (j:=3) rfl rfl) ?_
    walk_at "x"
    refine ⟨⟨ts4,as4,R4,us++[v],(m:Int)-1,decide (v.f=.non),rfl,h5,P5,g5,λw hw=>?_,F5,hk4.trans hk,?_⟩,?_⟩
    ·rcases a7.mp hw with hw|hw
     ·exact ⟨u5 w hw,(u3 w hw).2⟩
     ·rw [aF.mp hw];exact ⟨ok5,nvq⟩
    ·rcases hD with ⟨e,D4⟩|⟨e,L4,J4⟩
     ·exact .inl ⟨decide_eq_true e,m,rfl,D4,by simp;omega⟩
     ·exact .inr ⟨decide_eq_false e,L4,J4,by simp;omega⟩
    ·show ((m:Int)-1+1).toNat<((m:Int)+1).toNat
     omega
   ·walk_at "x"
    have:kk=0:=by omega
    subst this
    exact fin D.lv D.done (by omega)
end K32
namespace K32
open Rm
variable {K:aa}{C:ag}{A:CA}{X:EC}{Pt:ag}
theorem KH {C:ag}{sp:Sp}{dvs:List V}{E:XK}{t:TA}{Z:L2.St}{H:Hp}{Q:VK}(h:t Z H λvs H1=>∀ x dx,H1 x=none->H1 dx=none->dx≠x->sp (.ref x::(vs++dvs)) (upd (upd H1 dx (.own x)) x (.ins C dx [])) (λv H2=>v=.non/\Q (.ref x) H2) E):Ex C sp dvs E t Z H Q:=h
theorem KI {Z:L2.St}{H:Hp}{Q:VK}(h:∀ p,H p=none->Q (.ref p) (upd H p (.dT []))):ED Z H Q:=h
theorem Top.small {n:Int}{j:Nat}(h:Top n j) (hn:n<=200):j<8:=by
 rcases h.1 with z|z
 ·omega
 ·by_cases c:j<8
  ·exact c
  ·have:(2:Int)^8<=2^j:=by
    have e:(2:Int)^j=2^(j-8)*2^8:=by rw [← Int.pow_add];congr 1;omega
    have h1:(1:Int)<=2^(j-8):=Nm (j-8)
    rw [e]
    have:=Int.mul_le_mul_of_nonneg_right h1 (show (0:Int)<=2^8 by decide)
    omega
   have e8:(2:Int)^8=256:=by decide
   omega
theorem WA.out {C:ag}{H:Hp}{p dx l c:ag}{n:Nat}{as:List ag}{R:Nat->List Int}{o:HO}(W:WA C H p dx l n as R) (h1:p≠c) (h2:l≠c) (h3:∀ a∈as,a≠c):WA C (upd H c o) p dx l n as R :=
 ⟨by rw [aJ h1];exact W.ob,by rw [aJ h2];exact W.rl,W.len,λi a h=>by rw [aJ (h3 a (a9 h))];exact W.at_ i a h,W.ne⟩
def ck (K:aa) (C:ag) (A:CA):Sp:=λvs H Q _=>∃ (q dq:ag) (n:Nat),vs=[.ref q,.int n]/\H q=some (.ins A.bh dq [])/\zb K C A/\1<=n/\n<=200 /\
 ∀ (a:AL) (T:Nat) (as:Nat->List ag) (H':Hp),a.q=q->a.dq=dq->LV C A H' a n T [] as (λ_ i=>[(i:Int)])->Top n T->bS q H H'->(∀ b∈a.L::fp a,H b=none)->Q .non H'
theorem x6:Ln (ck K C A) 2:=by walk_at "l"
theorem x8:Rn (ck K C A) (kA K C A (fH K C) (m5 K C)) qb:=by
 rintro vs H Q E ⟨q,dq,n,rfl,hq,ct,hn1,hn2,k⟩
 unfold kA
 walk_at "x1"
 refine qh (KI λd1 hd1=>?_)
 walk_at "x"
 have nq1:q≠d1:=aP hq hd1
 refine ⟨q,A.bh,dq,[],rfl,by rw [aJ nq1];exact hq,ct.lc,ct.l1,by decide,?_⟩
 have g1:(upd (upd H d1 (.dT [])) q (.ins A.bh dq (fE "level_of" (.ref d1) []))) q=some (.ins A.bh dq [("level_of",.ref d1)]):=aM
 have e1:(upd (upd H d1 (.dT [])) q (.ins A.bh dq (fE "level_of" (.ref d1) []))) d1=some (.dT []):=by rw [aJ (Ne.symm nq1)];exact aM
 have B1:bS q H (upd (upd H d1 (.dT [])) q (.ins A.bh dq (fE "level_of" (.ref d1) []))):=λb o e hb=>by rw [aJ hb,aJ (aP e hd1)];exact e
 generalize upd (upd H d1 (.dT [])) q (.ins A.bh dq (fE "level_of" (.ref d1) []))=H1 at g1 e1 B1
 dsimp only
 walk_at "x1"
 refine qh (KI λd2 hd2=>?_)
 walk_at "x"
 have nq2:q≠d2:=aP g1 hd2
 refine ⟨q,A.bh,dq,_,rfl,by rw [aJ nq2];exact g1,ct.lc,ct.l2,by show 1<1000;decide,?_⟩
 rw [fW (by decide +kernel)]
 have g2:(upd (upd H1 d2 (.dT [])) q (.ins A.bh dq (("level_of",.ref d1)::fE "wooden" (.ref d2) []))) q=some (.ins A.bh dq [("level_of",.ref d1),("wooden",.ref d2)]):=aM
 have e2:(upd (upd H1 d2 (.dT [])) q (.ins A.bh dq (("level_of",.ref d1)::fE "wooden" (.ref d2) []))) d2=some (.dT []):=by rw [aJ (Ne.symm nq2)];exact aM
 have B2:bS q H1 (upd (upd H1 d2 (.dT [])) q (.ins A.bh dq (("level_of",.ref d1)::fE "wooden" (.ref d2) []))):=λb o e hb=>by rw [aJ hb,aJ (aP e hd2)];exact e
 have Tj:d1≠d2:=aP e1 hd2
 generalize upd (upd H1 d2 (.dT [])) q (.ins A.bh dq (("level_of",.ref d1)::fE "wooden" (.ref d2) []))=H2 at g2 e2 B2
 dsimp only
 walk_at "x1"
 refine qh (KI λd3 hd3=>?_)
 walk_at "x"
 have nq3:q≠d3:=aP g2 hd3
 refine ⟨q,A.bh,dq,_,rfl,by rw [aJ nq3];exact g2,ct.lc,ct.l3,by show 2<1000;decide,?_⟩
 rw [fW (by decide +kernel),fW (by decide +kernel)]
 have g3:(upd (upd H2 d3 (.dT [])) q (.ins A.bh dq (("level_of",.ref d1)::("wooden",.ref d2)::fE "weight_of" (.ref d3) []))) q=some (.ins A.bh dq [("level_of",.ref d1),("wooden",.ref d2),("weight_of",.ref d3)]):=aM
 have e3:(upd (upd H2 d3 (.dT [])) q (.ins A.bh dq (("level_of",.ref d1)::("wooden",.ref d2)::fE "weight_of" (.ref d3) []))) d3=some (.dT []):=by rw [aJ (Ne.symm nq3)];exact aM
 have B3:bS q H2 (upd (upd H2 d3 (.dT [])) q (.ins A.bh dq (("level_of",.ref d1)::("wooden",.ref d2)::fE "weight_of" (.ref d3) []))):=λb o e hb=>by rw [aJ hb,aJ (aP e hd3)];exact e
 have Xi:d2≠d3:=aP e2 hd3
 have WW:d1≠d3:=aP (B2 _ _ e1 (Ne.symm nq1)) hd3
 generalize upd (upd H2 d3 (.dT [])) q (.ins A.bh dq (("level_of",.ref d1)::("wooden",.ref d2)::fE "weight_of" (.ref d3) []))=H3 at g3 e3 B3
 have B:=(B1.trans B2).trans B3
 have f1:=B3 _ _ (B2 _ _ e1 (Ne.symm nq1)) (Ne.symm nq1)
 have f2:=B3 _ _ e2 (Ne.symm nq2)
 have fr:∀ {b:ag},b≠q->H3 b=none->H b=none:=λ{b} hb e=>by
  cases z:H b with
  | none=>rfl
  | some o=>rw [B _ _ z hb] at e;cases e
 have fr2:∀ {b:ag},b≠q->H2 b=none->H b=none:=λ{b} hb e=>by
  cases z:H b with
  | none=>rfl
  | some o=>rw [(B1.trans B2) _ _ z hb] at e;cases e
 have fr1:∀ {b:ag},b≠q->H1 b=none->H b=none:=λ{b} hb e=>by
  cases z:H b with
  | none=>rfl
  | some o=>rw [B1 _ _ z hb] at e;cases e
 dsimp only
 refine qh ?_
 walk_at "x"
 refine ⟨n,rfl,λj hj=>?_⟩
 have hj8:=hj.small (by omega)
 walk_at "x"
 refine ⟨by omega,by omega,λacc hacc=>?_⟩
 have e0:(((j:Int)+1)).toNat=j+1:=by omega
 rw [e0]
 refine rJ (n:=j+1) (λt ys H4=>H4 acc=some (.lst ys)/\cB H3 H4/\∃ (ws:List (ag×ag×ag)) (as:Nat->List ag),ys=ws.map (λw=>V.ref w.1)/\ws.length=t/\(ws.map (·.2.2)).Nodup/\∀ (i:Nat) w,ws[i]?=some w->WA C H4 w.1 w.2.1 w.2.2 n (as i) (λi=>[(i:Int)])/\H3 w.2.2=none/\w.1≠acc/\w.2.2≠acc/\∀ b∈as i,b≠acc) (λZ=>∃ o,Z=[o,some (.int n)]) ⟨aM,cB.dG hacc,[],λ_=>[],rfl,rfl,zC,λi w hw=>nomatch hw⟩ ⟨_,rfl⟩ ?_ ?_ ?_ ?_
 ·rintro t ys H4 ⟨h,_⟩;exact h
 ·rintro ys H4 ⟨g4,S4,ws,as,rfl,hl,nd,hw⟩
  refine ⟨ax _,?_⟩
  walk_at "x"
  refine ⟨q,A.bh,dq,_,rfl,S4 _ _ g3,ct.lc,ct.l4,by show 3<1000;decide,?_⟩
  rw [fW (by decide +kernel),fW (by decide +kernel),fW (by decide +kernel)]
  have naq:acc≠q:=λz=>by rw [z,g3] at hacc;cases hacc
  have hb:bS q H4 (upd H4 q (.ins A.bh dq (("level_of",.ref d1)::("wooden",.ref d2)::("weight_of",.ref d3)::fE "woods" (.ref acc) []))):=bS.upd
  have nl:∀ {b:ag}{o:HO},H4 b=some o->(∀ x y z,o≠.ins x y z)->b≠q:=λ{b o} e hno z=>by rw [z,S4 _ _ g3] at e;cases e;exact hno _ _ _ rfl
  refine k ⟨q,dq,d1,d2,d3,acc,ws⟩ j as _ rfl rfl ⟨aM,hb _ _ (S4 _ _ f1) (Ne.symm nq1),hb _ _ (S4 _ _ f2) (Ne.symm nq2),hb _ _ (S4 _ _ e3) (Ne.symm nq3),hb _ _ g4 naq,hl,λi w hi=>?_,λ_ _=>Wd.start n,hn1,Tj,WW,Xi,nd,λw hm=>?_⟩ hj (λb o e hne=>hb _ _ (S4 _ _ (B _ _ e hne)) hne) λb hb=>?_
  ·obtain ⟨W,_⟩:=hw i w hi
   refine W.out (λz=>?_) (nl W.rl (λ_ _ _ z=>nomatch z)) λa ha=>?_
   ·have:=W.ob
    rw [z,S4 _ _ g3] at this
    cases this
   ·obtain ⟨i,hi⟩:=bU.mp ha
    exact nl (W.at_ i a hi) (λ_ _ _ z=>nomatch z)
  ·obtain ⟨i,hi⟩:=bU.mp hm
   exact Ne.symm (hw i w hi).2.2.2.1
  ·simp only [fp,ay,bX] at hb
   rcases hb with rfl|rfl|rfl|rfl|⟨w,hm,rfl⟩
   ·exact fr naq hacc
   ·exact hd1
   ·exact fr1 (Ne.symm nq2) hd2
   ·exact fr2 (Ne.symm nq3) hd3
   ·obtain ⟨i,hi⟩:=bU.mp hm
    obtain ⟨W,h3,_⟩:=hw i w hi
    exact fr (nl W.rl (λ_ _ _ z=>nomatch z)) h3
 ·rintro t ys H4 ht _;exact ht
 ·rintro t ys σ' H4 x H5 ht ⟨g4,S4,ws,as,rfl,hl,nd,hw⟩ ⟨o,rfl⟩ ⟨eH,ex⟩
  subst eH ex
  walk_at "x"
  refine mX ?_
  refine KH ?_
  walk_at "x"
  intro xw dxw hx hdx hne
  have T0:cB H5 (upd (upd H5 dxw (.own xw)) xw (.ins C dxw [])):=λb o e=>by rw [aJ (aP e hx),aJ (aP e hdx)];exact e
  refine ⟨xw,dxw,n,rfl,aM,ct.w,by omega,λl bs H6 W hl6 B6=>⟨rfl,?_⟩⟩
  have T:cB H5 H6:=λb o e=>B6 _ _ (T0 _ _ e) (aP e hx)
  have hl5:=T0.free hl6
  have nxa:xw≠acc:=Ne.symm (aP g4 hx)
  have nla:l≠acc:=Ne.symm (aP g4 hl5)
  have naa:∀ a∈bs,a≠acc:=λa ha z=>by
   obtain ⟨i,hi⟩:=bU.mp ha
   have h1:=W.at_ i a hi
   rw [z,T _ _ g4] at h1
   cases ws<;>cases h1
  have SA:cB H3 (upd H6 acc (.lst (ws.map (λw=>V.ref w.1)++[.ref xw]))):=λb o e=>by rw [aJ (aP e hacc)];exact T _ _ (S4 _ _ e)
  refine ⟨T _ _ g4,iP (m:=100) (by rw [aj];omega),oC.mk' ht ⟨_,rfl⟩ ⟨aM,SA,ws++[(xw,dxw,l)],(λi=>if i=t then bs else as i),by rw [br];rfl,by rw [bN,hl];rfl,?_,λi w hi=>?_⟩⟩
  ·rw [br,iW]
   refine ⟨nd,by simp,λp hp q hq e=>?_⟩
   obtain ⟨w,hm,rfl⟩:=bX.mp hp
   obtain ⟨i,hi⟩:=bU.mp hm
   have:=(hw i w hi).1.rl
   rw [C2,aF] at hq
   rw [e.trans hq,hl5] at this
   cases this
  ·by_cases c:i=t
   ·subst c
    rw [← hl,fO (ax _),Nat.sub_self] at hi
    cases hi
    dsimp only
    rw [if_pos rfl]
    exact ⟨W.out nxa nla naa,S4.free hl5,nxa,nla,naa⟩
   ·have hi':i<t:=by
     have:=(aC.mp hi).1
     rw [bN,hl] at this
     simp at this
     omega
    rw [ij (by omega)] at hi
    dsimp only
    rw [if_neg c]
    obtain ⟨W',m1,m2,m3,m4⟩:=hw i w hi
    exact ⟨(W'.same T).out m2 m3 m4,m1,m2,m3,m4⟩
end K32
namespace K32
open Rm
variable {K:aa}{C:ag}{A:CA}{X:EC}{Pt:ag}
theorem Ap {K:aa}{ta tv:TE}{rd:V->V->Hp->VK->Prop}{f:aZ}{D:ug}{Z:L2.St}{H:Hp}(h:ta Z H λx H1=>∃ a C dx fs v,x=.ref a/\H1 a=some (.ins C dx fs)/\GW K C/\fi K C f/\fs.lookup f=some v /\
 tv Z H1 λy H2=>rd v y H2 λz H3=>∃ dx' fs',H3 a=some (.ins C dx' fs')/\fs'.length<1000/\D.nx Z (upd H3 a (.ins C dx' (fE f z fs')))):rH K ta tv rd f D Z H:=h
def fK (n:Nat) (q w:ag) (c1 c2 c3 c4:Int):List (aZ×V):=fE "lost" (.int c4) (fE "risen" (.int c3) (fE "looked" (.int c2) (fE "came" (.int c1) (fE "wood" (.ref w) (fE "levels" (.ref q) (fE "n" (.int n) []))))))
section
variable {n:Nat}{q w:ag}{c1 c2 c3 c4 c:Int}
theorem Wi {f:aZ}{v:V}:fE f v []=[(f,v)]:=rfl
theorem qV:fK n q w c1 c2 c3 c4=([("n",.int n),("levels",.ref q),("wood",.ref w),("came",.int c1),("looked",.int c2),("risen",.int c3),("lost",.int c4)]:List (aZ×V)):=by
 unfold fK
 repeat (first|rw [Wi]|rw [fW (by decide +kernel)])
theorem fK1:(fK n q w c1 c2 c3 c4).lookup ("n":aZ)=some (.int n):=by rw [qV];exact wL
theorem Yv:(fK n q w c1 c2 c3 c4).lookup ("levels":aZ)=some (.ref q):=by rw [qV,gW (by decide +kernel)];exact wL
theorem fK3:(fK n q w c1 c2 c3 c4).lookup ("wood":aZ)=some (.ref w):=by rw [qV,gW (by decide +kernel),gW (by decide +kernel)];exact wL
theorem fK4:(fK n q w c1 c2 c3 c4).lookup ("came":aZ)=some (.int c1):=by rw [qV,gW (by decide +kernel),gW (by decide +kernel),gW (by decide +kernel)];exact wL
theorem fK5:(fK n q w c1 c2 c3 c4).lookup ("looked":aZ)=some (.int c2):=by rw [qV,gW (by decide +kernel),gW (by decide +kernel),gW (by decide +kernel),gW (by decide +kernel)];exact wL
theorem fK6:(fK n q w c1 c2 c3 c4).lookup ("risen":aZ)=some (.int c3):=by rw [qV,gW (by decide +kernel),gW (by decide +kernel),gW (by decide +kernel),gW (by decide +kernel),gW (by decide +kernel)];exact wL
theorem fK7:(fK n q w c1 c2 c3 c4).lookup ("lost":aZ)=some (.int c4):=by rw [qV,gW (by decide +kernel),gW (by decide +kernel),gW (by decide +kernel),gW (by decide +kernel),gW (by decide +kernel),gW (by decide +kernel)];exact wL
theorem BK {m:aZ}(h1:¬ m="n":=by decide +kernel) (h2:¬ m="levels":=by decide +kernel) (h3:¬ m="wood":=by decide +kernel) (h4:¬ m="came":=by decide +kernel) (h5:¬ m="looked":=by decide +kernel) (h6:¬ m="risen":=by decide +kernel) (h7:¬ m="lost":=by decide +kernel):(fK n q w c1 c2 c3 c4).lookup m=none:=by rw [qV,gW h1,gW h2,gW h3,gW h4,gW h5,gW h6,gW h7];rfl
theorem fKl:(fK n q w c1 c2 c3 c4).length<1000:=by rw [qV];show 7<1000;decide
theorem fKp4:fE "came" (.int c) (fK n q w c1 c2 c3 c4)=fK n q w c c2 c3 c4:=by rw [qV,qV,fW (by decide +kernel),fW (by decide +kernel),fW (by decide +kernel),Ao]
theorem fKp5:fE "looked" (.int c) (fK n q w c1 c2 c3 c4)=fK n q w c1 c c3 c4:=by rw [qV,qV,fW (by decide +kernel),fW (by decide +kernel),fW (by decide +kernel),fW (by decide +kernel),Ao]
theorem fKp6:fE "risen" (.int c) (fK n q w c1 c2 c3 c4)=fK n q w c1 c2 c c4:=by rw [qV,qV,fW (by decide +kernel),fW (by decide +kernel),fW (by decide +kernel),fW (by decide +kernel),fW (by decide +kernel),Ao]
theorem fKp7:fE "lost" (.int c) (fK n q w c1 c2 c3 c4)=fK n q w c1 c2 c3 c:=by rw [qV,qV,fW (by decide +kernel),fW (by decide +kernel),fW (by decide +kernel),fW (by decide +kernel),fW (by decide +kernel),fW (by decide +kernel),Ao]
end
theorem Top.lo {n T:Nat}(h:Top n T):2^(T+1)<=n\/T=0:=by
 rcases h.1 with z|z
 ·exact .inr z
 ·left
  have:((2^(T+1):Nat):Int)=2*(2:Int)^T:=by rw [Ue,Int.natCast_mul,Int.natCast_pow];exact Int.mul_comm _ _
  omega
theorem Top.hi {n T:Nat}(h:Top n T):∀ j,2^(j+1)<=n->j<=T:=λj hj=>by
 have h2:=h.2
 by_cases c:j<=T
 ·exact c
 ·have h3:2^(T+2)<=2^(j+1):=A6 (by decide) (by omega)
  have:((2^(T+2):Nat):Int)=4*(2:Int)^T:=by push_cast;rw [yn,yn];omega
  omega
section
variable {C:ag}{A:CA}{H H':Hp}{a:AL}{n T:Nat}{ts:List Ti}{as:Nat->List ag}{R:Nat->Nat->List Int}{p dx:ag}
theorem LV.inst {c d:ag}{fs:List (aZ×V)}{o:HO}(h:LV C A H a n T ts as R) (hp:H p=some (.ins c d fs)) (h1:fs.lookup ("rows":aZ)=none) (h2:fs.lookup ("woods":aZ)=none):LV C A (upd H p o) a n T ts as R :=
 h.keep (X:=[p]) (Fm.upd aw) (λx f e _ hx hm=>by
  rw [aF.mp hm] at e hx
  rcases hx with z|⟨w,hw,z⟩
  ·have:=h.ob
   rw [← z,hp] at this
   cases this
   rw [fL4] at h2;cases h2
  ·obtain ⟨i,_,hi⟩:=h.at hw
   have:=(h.wa i w hi).ob
   rw [← z,hp] at this
   cases this
   rw [lz] at h1;cases h1) (λb hb hm=>h.outI hp (aF.mp hm▸hb)) (λhm=>by
   have:=h.ls
   rw [aF.mp hm,hp] at this;cases this) λb r _ e hm=>by rw [aF.mp hm,hp] at e;cases e
structure KP (C:ag) (A:CA) (H:Hp) (p dx:ag) (a:AL) (n T:Nat) (ts:List Ti) (as:Nat->List ag) (R:Nat->Nat->List Int):Prop where
 ob:∃ (w:ag×ag×ag) (c1 c2 c3 c4:Int),a.ws[0]?=some w/\H p=some (.ins A.Keeper dx (fK n a.q w.1 c1 c2 c3 c4))
 lv:LV C A H a n T ts as R
 iv:Lv n T ts R
 jn:Jn ts R
 tp:Top n T
theorem KP.same (h:KP C A H p dx a n T ts as R) (S:cB H H'):KP C A H' p dx a n T ts as R:=by
 obtain ⟨w,c1,c2,c3,c4,hw,hp⟩:=h.ob
 exact ⟨⟨w,c1,c2,c3,c4,hw,S _ _ hp⟩,h.lv.same S,h.iv,h.jn,h.tp⟩
structure KS (C:ag) (A:CA) (a:AL) (n T:Nat) (as:Nat->List ag) (p dx:ag) (H0:Hp) (m:Nat) (fs:List (aZ×V)) (H:Hp):Prop where
 g:H p=some (.ins A.Keeper dx fs)
 lv:LV C A H a n T [] as (λ_ i=>[(i:Int)])
 r:fs.lookup ("rows":aZ)=none
 w:fs.lookup ("woods":aZ)=none
 len:fs.length<=m
 b:bS p H0 H
theorem FE (f:aZ) (v:V):∀ fs:List (aZ×V),(fE f v fs).length<=fs.length+1
 | []=>ax _
 | (g,x)::r=>by
  by_cases c:g=f
  ·subst c;rw [Ao];exact gQ _
  ·rw [fW c];exact oo (FE f v r)
theorem KS.put {H0:Hp}{m:Nat}{fs:List (aZ×V)}(s:KS C A a n T as p dx H0 m fs H) (f:aZ) (v:V) (h1:¬ ("rows":aZ)=f:=by decide +kernel) (h2:¬ ("woods":aZ)=f:=by decide +kernel):KS C A a n T as p dx H0 (m+1) (fE f v fs) (upd H p (.ins A.Keeper dx (fE f v fs))) :=
 ⟨aM,s.lv.inst s.g s.r s.w,by rw [gU,if_neg h1];exact s.r,by rw [gU,if_neg h2];exact s.w,bE (FE f v fs) (oo s.len),s.b.trans bS.upd⟩
end
def bJ (K:aa) (C:ag) (A:CA):Sp:=λvs H Q _=>∃ (p dx:ag) (n:Nat),vs=[.ref p,.int n]/\H p=some (.ins A.Keeper dx [])/\zb K C A/\1<=n/\n<=200 /\
 ∀ (a:AL) (T:Nat) (as:Nat->List ag) (H':Hp),KP C A H' p dx a n T [] as (λ_ i=>[(i:Int)])->bS p H H'->(∀ b∈a.L::fp a,H b=none)->Q .non H'
theorem Aq:Ln (bJ K C A) 2:=by walk_at "l"
theorem Ar:Rn (bJ K C A) (mJ K C A (ck K C A) (e9 K C)) qb:=by
 rintro vs H Q E ⟨p,dx,n,rfl,hp,ct,hn1,hn2,k⟩
 unfold mJ
 walk_at "x"
 refine ⟨.int n,rfl,.int _,?_⟩
 rw [We hn1 hn2]
 refine ⟨_,rfl,?_⟩
 rw [if_neg (by simp)]
 walk_at "x"
 refine qh ?_
 walk_at "x"
 refine ⟨p,A.Keeper,dx,[],rfl,hp,ct.kc,ct.k1,by decide,?_⟩
 have g1:(upd H p (.ins A.Keeper dx (fE "n" (.int n) []))) p=some (.ins A.Keeper dx (fE "n" (.int n) [])):=aM
 have B1:bS p H (upd H p (.ins A.Keeper dx (fE "n" (.int n) []))):=bS.upd
 generalize upd H p (.ins A.Keeper dx (fE "n" (.int n) []))=H1 at g1 B1
 dsimp only
 walk_at "x1"
 refine qh (KH ?_)
 walk_at "x"
 intro q dq hq hdq hne
 have T0:cB H1 (upd (upd H1 dq (.own q)) q (.ins A.bh dq [])):=λb o e=>by rw [aJ (aP e hq),aJ (aP e hdq)];exact e
 refine ⟨q,dq,n,rfl,aM,ct,hn1,hn2,λa T as H2 ea ed L tp B2 fr=>⟨rfl,?_⟩⟩
 subst ea ed
 have T1:cB H1 H2:=λb o e=>B2 _ _ (T0 _ _ e) (aP e hq)
 have g2:=T1 _ _ g1
 have s2:KS C A a n T as p dx H 1 (fE "n" (.int n) []) H2:=⟨g2,L,by rw [gU,if_neg (by decide +kernel)];rfl,by rw [gU,if_neg (by decide +kernel)];rfl,FE _ _ _,λb o e hb=>T1 _ _ (B1 _ _ e hb)⟩
 have frH:∀ b∈a.L::fp a,H b=none:=λb hb=>by
  have:=fr b hb
  cases z:H b with
  | none=>rfl
  | some o =>
   by_cases c:b=p
   ·have e:=T0 _ _ g1
    rw [← c,this] at e;cases e
   ·rw [T0 _ _ (B1 _ _ z c)] at this;cases this
 obtain ⟨w,hw,hwm⟩:=L.get (bG _)
 walk_at "x"
 refine ⟨p,A.Keeper,dx,_,rfl,s2.g,ct.kc,ct.k2,bj s2.len (by decide),?_⟩
 have s3:=s2.put "levels" (.ref a.q)
 generalize upd H2 p (.ins A.Keeper dx (fE "levels" (.ref a.q) (fE "n" (.int n) [])))=H3 at s3
 dsimp only
 walk_at "x1"
 refine qh ?_
 walk_at "x"
 refine lW ?_
 refine lW ?_
 walk_at "x"
 refine ⟨p,A.Keeper,dx,_,_,rfl,s3.g,ct.kc,ct.k2,by rw [gU,if_pos rfl],?_⟩
 refine ⟨a.q,A.bh,a.dq,_,_,rfl,s3.lv.ob,ct.lc,ct.l4,fL4,?_⟩
 walk_at "x"
 refine oz (fg.of s3.lv.ls) (fG (j:=0) rfl (by rw [aG,hw];rfl)) ?_
 walk_at "x"
 refine ⟨p,A.Keeper,dx,_,rfl,s3.g,ct.kc,ct.k3,bj s3.len (by decide),?_⟩
 have s4:=s3.put "wood" (.ref w.1)
 generalize e4:fE ("wood":aZ) (V.ref w.1) (fE "levels" (.ref a.q) (fE "n" (.int n) []))=f4 at s4
 generalize upd H3 p (.ins A.Keeper dx f4)=H4 at s4
 dsimp only
 walk_at "x1"
 refine qh ?_
 walk_at "x"
 refine ⟨p,A.Keeper,dx,_,rfl,s4.g,ct.kc,ct.k4,bj s4.len (by decide),?_⟩
 have s5:=s4.put "came" (.int 0)
 generalize e5:fE ("came":aZ) (V.int 0) f4=f5 at s5
 generalize upd H4 p (.ins A.Keeper dx f5)=H5 at s5
 dsimp only
 walk_at "x1"
 refine qh ?_
 walk_at "x"
 refine ⟨p,A.Keeper,dx,_,rfl,s5.g,ct.kc,ct.k5,bj s5.len (by decide),?_⟩
 have s6:=s5.put "looked" (.int 0)
 generalize e6:fE ("looked":aZ) (V.int 0) f5=f6 at s6
 generalize upd H5 p (.ins A.Keeper dx f6)=H6 at s6
 dsimp only
 walk_at "x1"
 refine qh ?_
 walk_at "x"
 refine ⟨p,A.Keeper,dx,_,rfl,s6.g,ct.kc,ct.k6,bj s6.len (by decide),?_⟩
 have s7:=s6.put "risen" (.int 0)
 generalize e7:fE ("risen":aZ) (V.int 0) f6=f7 at s7
 generalize upd H6 p (.ins A.Keeper dx f7)=H7 at s7
 dsimp only
 refine qh ?_
 walk_at "x"
 refine ⟨p,A.Keeper,dx,_,rfl,s7.g,ct.kc,ct.k7,bj s7.len (by decide),?_⟩
 have s8:=s7.put "lost" (.int 0)
 subst e4 e5 e6 e7
 exact k a T as _ ⟨⟨w,0,0,0,0,hw,s8.g⟩,s8.lv,Lv.start n T tp.lo,(λt ht=>nomatch ht),tp⟩ s8.b frH
end K32
namespace K32
open Rm
variable {K:aa}{C:ag}{A:CA}{X:EC}{Pt:ag}
theorem KP.p0 {C:ag}{A:CA}{H:Hp}{p dx:ag}{a:AL}{n T:Nat}{ts:List Ti}{as:Nat->List ag}{R:Nat->Nat->List Int}(h:KP C A H p dx a n T ts as R):∃ fs,H p=some (.ins A.Keeper dx fs):=let ⟨w,c1,c2,c3,c4,_,hp⟩:=h.ob;⟨_,hp⟩
def cN (K:aa) (C:ag) (A:CA):Sp:=λvs H Q _=>∃ (p dx:ag) (a:AL) (n T:Nat) (ts:List Ti) (as:Nat->List ag) (R:Nat->Nat->List Int) (t:ag) (x y:Nat),vs=[.ref p,.ref t,.int 0]/\zb K C A/\KP C A H p dx a n T ts as R/\n<=200/\x<y/\y<n/\H t=some (.tup [.int x,.int y])/\((x:Int),(y:Int))∉ts.map Ti.key/\ts.length<99 /\
 ∀ b ts' as' R' H',KP C A H' p dx a n T ts' as' R'->ts'.map Ti.key=ts.map Ti.key++[((x:Int),(y:Int))]->Fm (p::fp a) H H'->Q (.bl b) H'
theorem BL:Ln (cN K C A) 3:=by walk_at "l"
theorem BM:Rn (cN K C A) (nZ K C A (ie K C A)) yV:=by
 rintro vs H Q E ⟨p,dx,a,n,T,ts,as,R,t,x,y,rfl,ct,h,hn,hxy,hy,ht,hk,hl,k⟩
 obtain ⟨w,c1,c2,c3,c4,hw,hp⟩:=h.ob
 unfold nZ
 walk_at "x"
 refine Ap ?_
 walk_at "x"
 refine ⟨p,A.Keeper,dx,_,_,rfl,hp,ct.kc,ct.k4,fK4,?_⟩
 walk_at "x"
 refine ⟨c1,1,rfl,rfl,dx,_,hp,fKl,?_⟩
 rw [fKp4]
 have L1:=h.lv.inst (o:=.ins A.Keeper dx (fK n a.q w.1 (c1+1) c2 c3 c4)) hp BK BK
 have p1:(upd H p (.ins A.Keeper dx (fK n a.q w.1 (c1+1) c2 c3 c4))) p=_:=aM
 have ht1:(upd H p (.ins A.Keeper dx (fK n a.q w.1 (c1+1) c2 c3 c4))) t=_:=(aJ (jG ht hp)).trans ht
 have F1:Fm (p::fp a) H (upd H p (.ins A.Keeper dx (fK n a.q w.1 (c1+1) c2 c3 c4))):=Fm.upd aw
 generalize upd H p (.ins A.Keeper dx (fK n a.q w.1 (c1+1) c2 c3 c4))=H1 at L1 p1 ht1 F1
 dsimp only
 walk_at "x"
 refine tR ?_
 refine lW ?_
 walk_at "x"
 refine ⟨p,A.Keeper,dx,_,_,rfl,p1,ct.kc,ct.k2,Yv,?_⟩
 refine ⟨a.q,a.dq,_,rfl,L1.ob,Zv,?_⟩
 walk_at "x"
 refine ⟨a,n,T,ts,as,R,t,x,y,rfl,ct,L1,hn,by omega,hy,ht1,h.iv.nd,hk,hl,λb ts' as' R' H2 L2 hc F2=>?_⟩
 have hkk:(ts++[(⟨x,y,0,false⟩:Ti)]).map Ti.key=ts.map Ti.key++[((x:Int),(y:Int))]:=by rw [br];rfl
 have V:=h.iv.put hxy hy hk
 have hu:(⟨x,y,0,false⟩:Ti)∈ts++[⟨x,y,0,false⟩]:=bp _ aw
 have ob:∃ (w:ag×ag×ag) (c1 c2 c3 c4:Int),a.ws[0]?=some w/\H2 p=some (.ins A.Keeper dx (fK n a.q w.1 c1 c2 c3 c4)):=⟨w,_,_,_,_,hw,F2 _ _ (L1.outI p1) p1⟩
 rcases hc with ⟨hj,rfl,rfl⟩|⟨hj,rfl,rfl⟩
 ·refine k b _ as' _ H2 ⟨ob,L2,V,λu hu=>?_,h.tp⟩ hkk (F1.trans F2.tail)
  rcases a7.mp hu with q|q
  ·exact h.jn u q
  ·rw [aF.mp q];exact hj
 ·have hap:∀ i,i<=(⟨x,y,0,false⟩:Ti).dH->(((⟨x,y,0,false⟩:Ti).y:Nat):Int)∉R i (⟨x,y,0,false⟩:Ti).x:=λi hi=>by rw [Xg.mp hi];exact hj
  have W0:=h.iv.wd 0 (bG _)
  have V':=V.adopt hu rfl hap λi hi=>by
   have e:=Xg.mp hi
   subst e
   have l:=((W0.lk (a:=x) (b:=y) (by omega) hy hj).len (i:=x) (by omega))
   rw [(W0.Jz (x:=x) (by omega) hy hj (.inl (W0.me x (by omega)))).2] at l
   show ((R 0 x).length+(R 0 y).length+2)*2^0<=2*n
   omega
  refine k b _ as' _ H2 ⟨ob,L2,V',λu hu'=>?_,h.tp⟩ ((mE (f:=Ti.zy) (λ_=>rfl) _).trans hkk) (F1.trans F2.tail)
  rcases (oN (f:=Ti.zy) V.nd hu u).mp hu' with rfl|⟨q,_⟩
  ·have e:Ol R 0 x y 0=lk (R 0) x y:=if_pos (ax _)
   show (y:Int)∈Ol R 0 x y 0 x
   rw [e]
   exact ((W0.Jz (x:=x) (by omega) hy hj (.inl (W0.me x (by omega)))).1 _).mpr (.inr (W0.me y hy))
  ·rcases a7.mp q with q|q
   ·obtain ⟨q1,q2,q3⟩:=h.iv.lt u q
    exact V.NV hu hap q3 (by omega) _ (h.jn u q)
   ·rename_i hne
    exact absurd (by rw [aF.mp q]) hne
def cw (K:aa) (C:ag) (A:CA):Sp:=λvs H Q _=>∃ (p dx:ag) (a:AL) (n T:Nat) (ts:List Ti) (as:Nat->List ag) (R:Nat->Nat->List Int) (x y:Nat),vs=[.ref p,.int x,.int y]/\zb K C A/\KP C A H p dx a n T ts as R/\n<=200/\x<n/\y<n/\x≠y/\(((min x y:Nat):Int),((max x y:Nat):Int))∉ts.map Ti.key/\ts.length<99 /\
 ∀ b ts' as' R' H',KP C A H' p dx a n T ts' as' R'->ts'.map Ti.key=ts.map Ti.key++[(((min x y:Nat):Int),((max x y:Nat):Int))]->Fm (p::fp a) H H'->Q (.bl b) H'
theorem FF:Ln (cw K C A) 3:=by walk_at "l"
theorem FG:Rn (cw K C A) (qA K C A (cN K C A) (kC K C)) gf:=by
 rintro vs H Q E ⟨p,dx,a,n,T,ts,as,R,x,y,rfl,ct,h,hn,hx,hy,hxy,hk,hl,k⟩
 obtain ⟨w,c1,c2,c3,c4,hw,hp⟩:=h.ob
 unfold qA
 walk_at "m"
 refine ⟨p,dx,_,rfl,hp,BK,?_⟩
 walk_at "f"
 refine ⟨p,A.Keeper,dx,_,_,rfl,hp,ct.kc,ct.k1,fK1,?_⟩
 walk_at "x"
 refine lW ?_
 refine lW ?_
 walk_at "x"
 refine ⟨p,A.Keeper,dx,_,_,rfl,hp,ct.kc,ct.k2,Yv,?_⟩
 refine ⟨a.q,A.bh,a.dq,_,_,rfl,h.lv.ob,ct.lc,ct.l1,Rt,?_⟩
 walk_at "x"
 refine ⟨n,x,y,a.d1,kl ts,rfl,hx,hy,hxy,h.lv.e1,KD hk,λt ht=>?_⟩
 generalize eu_:upd H t (.tup [.int (min x y:Nat),.int (max x y:Nat)])=H1
 obtain ⟨S1,g1⟩:=news eu_ ht
 walk_at "x"
 exact ⟨p,dx,a,n,T,ts,as,R,t,min x y,max x y,rfl,ct,h.same S1,hn,by omega,by omega,g1,hk,hl,λb ts' as' R' H' h' hk' F'=>k b ts' as' R' H' h' hk' ((Fm.of S1).trans F')⟩
def iZ (K:aa) (C:ag) (A:CA) (Pt:ag):Sp:=λvs H Q _=>∃ (p dx:ag) (a:AL) (n T:Nat) (ts:List Ti) (as:Nat->List ag) (R:Nat->Nat->List Int) (x y:Nat),vs=[.ref p,.int x,.int y]/\zb K C A/\KP C A H p dx a n T ts as R/\n<=60/\x<n/\y<n/\x≠y/\(((min x y:Nat):Int),((max x y:Nat):Int))∈ts.map Ti.key/\ts.length<64/\ud Pt H /\
 ∀ (q:ag) (xs:List V) ts' as' R' H',H' q=some (.lst xs)->KP C A H' p dx a n T ts' as' R'->ts'.map Ti.key=(ts.map Ti.key).filter (λk=>decide (k≠(((min x y:Nat):Int),((max x y:Nat):Int))))->ud Pt H'->Fm (p::Pt::fp a) H H'->Q (.ref q) H'
theorem KJ:Ln (iZ K C A Pt) 3:=by walk_at "l"
theorem KL:Rn (iZ K C A Pt) (tF K C A (gh K C) (eQ K C) (dk K C A Pt) (i7 K C) (fu K C) (cb K C A)) MV:=by
 rintro vs H Q E ⟨p,dx,a,n,T,ts,as,R,x,y,rfl,ct,h,hn,hx,hy,hxy,hk,hl,hP,k⟩
 obtain ⟨w,c1,c2,c3,c4,hw,hp⟩:=h.ob
 obtain ⟨u,hu,eu⟩:=bX.mp hk
 obtain ⟨eu1,eu2⟩:=dz eu
 have eu1:u.x=min x y:=by omega
 have eu2:u.y=max x y:=by omega
 have nPp:p≠Pt:=hP.ne hp (λ_ z=>nomatch z)
 unfold tF
 walk_at "f"
 refine ⟨p,A.Keeper,dx,_,_,rfl,hp,ct.kc,ct.k1,fK1,?_⟩
 walk_at "x"
 refine lW ?_
 refine lW ?_
 walk_at "x"
 refine ⟨p,A.Keeper,dx,_,_,rfl,hp,ct.kc,ct.k2,Yv,?_⟩
 refine ⟨a.q,A.bh,a.dq,_,_,rfl,h.lv.ob,ct.lc,ct.l1,Rt,?_⟩
 walk_at "x"
 refine ⟨n,x,y,a.d1,kl ts,rfl,hx,hy,hxy,h.lv.e1,by rw [← eu1,← eu2,jE h.iv.nd hu];rfl,λt ht=>?_⟩
 rw [← eu1,← eu2]
 generalize eu_:upd H t (.tup [.int (u.x:Nat),.int (u.y:Nat)])=H1
 obtain ⟨S1,g1⟩:=news eu_ ht
 have L1:=h.lv.same S1
 have p1:=S1 _ _ hp
 walk_at "x"
 refine Ap ?_
 walk_at "x"
 refine ⟨p,A.Keeper,dx,_,_,rfl,p1,ct.kc,ct.k7,fK7,?_⟩
 walk_at "f"
 refine ⟨p,A.Keeper,dx,_,_,rfl,p1,ct.kc,ct.k1,fK1,?_⟩
 walk_at "x"
 refine tR ?_
 refine lW ?_
 walk_at "x"
 refine ⟨p,A.Keeper,dx,_,_,rfl,p1,ct.kc,ct.k2,Yv,?_⟩
 refine ⟨a.q,a.dq,_,rfl,L1.ob,Zv,?_⟩
 walk_at "x"
 refine ⟨a.q,a.dq,a.d1,a.d2,a.d3,a.L,t,kl ts,kw ts,u.x,u.y,_,_,rfl,ct,L1.ob,.inl L1.e1,.inl L1.e2,g1,jE (f:=λt=>V.int t.dH) h.iv.nd hu,jE (f:=λt=>V.bl t.wd) h.iv.nd hu,λr hr=>?_⟩
 generalize eu_:upd H1 r (.tup [.int u.x,.int u.y,.int u.dH,.bl u.wd])=H2
 obtain ⟨S2,g2⟩:=news eu_ hr
 walk_at "x"
 refine ⟨bA (m:=1) (ax 1),λl hl3=>?_⟩
 generalize eu_:upd H2 l (.lst [.ref r])=H3
 obtain ⟨S3,g3⟩:=news eu_ hl3
 walk_at "x"
 refine ⟨n,l,[((u.dH:Int),r)],rfl,g3,λz hz=>by rw [aF.mp hz];exact ⟨_,_,_,S3 _ _ g2⟩,by simp,λc H4 _ S4=>?_⟩
 have S14:cB H H4:=((S1.trans S2).trans S3).trans S4
 have p4:=S14 _ _ hp
 have L4:=h.lv.same S14
 have t4:=S4 _ _ (S3 _ _ (S2 _ _ g1))
 refine ⟨c4,c,rfl,rfl,dx,_,p4,fKl,?_⟩
 rw [fKp7]
 have L5:=L4.inst (o:=.ins A.Keeper dx (fK n a.q w.1 c1 c2 c3 (c4+c))) p4 BK BK
 have p5:(upd H4 p (.ins A.Keeper dx (fK n a.q w.1 c1 c2 c3 (c4+c)))) p=_:=aM
 have t5:(upd H4 p (.ins A.Keeper dx (fK n a.q w.1 c1 c2 c3 (c4+c)))) t=_:=(aJ (jG t4 p4)).trans t4
 have P5:ud Pt (upd H4 p (.ins A.Keeper dx (fK n a.q w.1 c1 c2 c3 (c4+c)))):=(hP.same S14).keep λb o _ _ h3 _ e=>by rw [aJ];exact e;rintro rfl;rw [p4] at e;cases e;exact h3 _ _ _ rfl
 have F5:Fm (p::Pt::fp a) H (upd H4 p (.ins A.Keeper dx (fK n a.q w.1 c1 c2 c3 (c4+c)))):=(Fm.of S14).trans (Fm.upd aw)
 generalize upd H4 p (.ins A.Keeper dx (fK n a.q w.1 c1 c2 c3 (c4+c)))=H5 at L5 p5 t5 P5 F5
 dsimp only
 walk_at "x"
 refine tR ?_
 refine lW ?_
 walk_at "x"
 refine ⟨p,A.Keeper,dx,_,_,rfl,p5,ct.kc,ct.k2,Yv,?_⟩
 refine ⟨a.q,a.dq,_,rfl,L5.ob,Zv,?_⟩
 walk_at "x"
 have hT8:=h.tp.small (by omega)
 refine ⟨a,n,T,ts,as,R,t,u,rfl,ct,L5,hn,by omega,h.tp.hi,h.iv,h.jn,hu,t5,hl,P5,λq us ts' as' R' H6 hq gq oks hlu L6 V6 J6 hk6 P6 F6=>?_⟩
 have p6:=F6 _ _ (λz=>(ay.mp z).elim nPp (L5.outI p5)) p5
 walk_at "x"
 refine Ap ?_
 walk_at "x"
 refine ⟨p,A.Keeper,dx,_,_,rfl,p6,ct.kc,ct.k5,fK5,?_⟩
 walk_at "x"
 refine ⟨q,us,rfl,gq,oks,hlu,λc' H7 S7=>?_⟩
 have p7:=S7 _ _ p6
 refine ⟨c2,c',rfl,rfl,dx,_,p7,fKl,?_⟩
 rw [fKp5]
 have L8:=(L6.same S7).inst (o:=.ins A.Keeper dx (fK n a.q w.1 c1 (c2+c') c3 (c4+c))) p7 BK BK
 have p8:(upd H7 p (.ins A.Keeper dx (fK n a.q w.1 c1 (c2+c') c3 (c4+c)))) p=_:=aM
 have n8:∀ {b:ag}{o:HO},H7 b=some o->(∀ x y z,o≠.ins x y z)->(upd H7 p (.ins A.Keeper dx (fK n a.q w.1 c1 (c2+c') c3 (c4+c)))) b=some o:=λ{b o} e hno=>by rw [aJ];exact e;rintro rfl;rw [p7] at e;cases e;exact hno _ _ _ rfl
 have F8:Fm (p::Pt::fp a) H (upd H7 p (.ins A.Keeper dx (fK n a.q w.1 c1 (c2+c') c3 (c4+c)))):=((F5.trans F6.tail).trans (Fm.of S7)).trans (Fm.upd aw)
 generalize upd H7 p (.ins A.Keeper dx (fK n a.q w.1 c1 (c2+c') c3 (c4+c)))=H8 at L8 p8 n8 F8
 dsimp only
 walk_at "x"
 refine Ap ?_
 walk_at "x"
 refine ⟨p,A.Keeper,dx,_,_,rfl,p8,ct.kc,ct.k6,fK6,?_⟩
 walk_at "x"
 refine ⟨q,us,rfl,n8 (S7 _ _ gq) (λ_ _ _ z=>nomatch z),λv hv=>⟨n8 (S7 _ _ (oks v hv).1) (λ_ _ _ z=>nomatch z),n8 (S7 _ _ (oks v hv).2) (λ_ _ _ z=>nomatch z)⟩,hlu,λc'' H9 S9=>?_⟩
 have p9:=S9 _ _ p8
 refine ⟨c3,c'',rfl,rfl,dx,_,p9,fKl,?_⟩
 rw [fKp6]
 dsimp only
 walk_at "x"
 have q9:=S9 _ _ (n8 (S7 _ _ gq) (λ_ _ _ z=>nomatch z))
 refine k q _ ts' as' R' _ ((aJ (jG q9 p9)).trans q9) ⟨⟨w,_,_,_,_,hw,aM⟩,(L8.same S9).inst p9 BK BK,V6,J6,h.tp⟩ ?_ ?_ ((F8.trans (Fm.of S9)).trans (Fm.upd aw))
 ·rw [hk6,← eu1,← eu2,JE];rfl
 ·refine ((P6.same S7).keep λb o _ _ h3 _ e=>S9 _ _ (n8 e h3)).keep λb o _ _ h3 _ e=>?_
  rw [aJ];exact e;rintro rfl;rw [p9] at e;cases e;exact h3 _ _ _ rfl
end K32
namespace K32
open Rm
variable {K:aa}{C:ag}{A:CA}{X:EC}{Pt:ag}
def bH (K:aa) (C:ag) (X:EC):Sp:=λvs H Q E=>(∃ (n i:Nat),vs=[.int n,.int i]/\i<n/\Q .non H)\/∃ (n:Nat) (v:V),vs=[.int n,v]/\Th v/\jT n v=false/\E (.ref X.dI) none H
theorem vM:Ln (bH K C X) 2:=by
 rintro vs H Q E (⟨n,i,rfl,_⟩|⟨n,i,rfl,_⟩)<;>rfl
theorem vN:Rx (bH K C X) (λE=>iC K C X E (eZ K C)) mV:=by
 rintro vs H Q E (⟨n,i,rfl,hi,k⟩|⟨n,v,rfl,hv,hp,k⟩)
 ·unfold iC
  walk_at "x"
  refine ⟨n,.int i,rfl,.int _,?_⟩
  rw [Nk hi]
  refine ⟨true,rfl,?_⟩
  refine jf ?_
  walk_at "x"
  exact k
 ·unfold iC
  walk_at "x"
  refine ⟨n,v,rfl,hv,?_⟩
  rw [hp]
  refine ⟨false,rfl,?_⟩
  refine mX ?_
  exact k
def bI (K:aa) (C:ag) (X:EC):Sp:=λvs H Q E=>(∃ (n i j:Nat),vs=[.int n,.int i,.int j]/\i<n/\j<n/\Q .non H)\/∃ (n:Nat) (v u:V),vs=[.int n,v,u]/\Th v/\Th u/\(jT n v && jT n u)=false/\E (.ref X.dI) none H
theorem vk:Ln (bI K C X) 3:=by
 rintro vs H Q E (⟨n,i,j,rfl,_⟩|⟨n,i,j,rfl,_⟩)<;>rfl
theorem vm:Rx (bI K C X) (λE=>hU K C E (bH K C X)) pO:=by
 rintro vs H Q E (⟨n,i,j,rfl,hi,hj,k⟩|⟨n,v,u,rfl,hv,hu,hp,k⟩)
 ·unfold hU
  walk_at "x"
  refine .inl ⟨n,i,rfl,hi,?_⟩
  walk_at "x"
  refine .inl ⟨n,j,rfl,hj,?_⟩
  exact k
 ·unfold hU
  walk_at "x"
  cases h1:jT n v with
  | false=>exact .inr ⟨n,v,rfl,hv,h1,k⟩
  | true =>
   obtain ⟨i,hi,rfl⟩:=vg h1
   refine .inl ⟨n,i,rfl,hi,?_⟩
   walk_at "x"
   rw [h1,se] at hp
   exact .inr ⟨n,u,rfl,hu,hp,k⟩
def b8 (K:aa) (C:ag) (X:EC):Sp:=λvs H Q E=>(∃ (n i j:Nat),vs=[.int n,.int i,.int j]/\i<n/\j<n/\i≠j/\Q .non H)\/(∃ (n:Nat) (v u:V),vs=[.int n,v,u]/\Th v/\Th u/\(jT n v && jT n u)=false/\E (.ref X.dI) none H) \/
 ∃ (n i:Nat),vs=[.int n,.int i,.int i]/\i<n/\E (.ref X.Alike) none H
theorem wR:Ln (b8 K C X) 3:=by
 rintro vs H Q E (⟨n,i,j,rfl,_⟩|⟨n,i,j,rfl,_⟩|⟨n,i,rfl,_⟩)<;>rfl
theorem wU:Rx (b8 K C X) (λE=>gR K C X E (bI K C X)) pO:=by
 rintro vs H Q E (⟨n,i,j,rfl,hi,hj,hij,k⟩|⟨n,v,u,rfl,hv,hu,hp,k⟩|⟨n,i,rfl,hi,k⟩)
 ·unfold gR
  walk_at "x"
  refine .inl ⟨n,i,j,rfl,hi,hj,?_⟩
  walk_at "x"
  refine vw (λz=>absurd (lU.mp z) (by omega)) λ_=>?_
  walk_at "x"
  exact k
 ·unfold gR
  walk_at "x"
  exact .inr ⟨n,v,u,rfl,hv,hu,hp,k⟩
 ·unfold gR
  walk_at "x"
  refine .inl ⟨n,i,i,rfl,hi,hi,?_⟩
  walk_at "x"
  refine vw (λ_=>?_) λz=>absurd rfl z
  exact k
def SY (X:EC) (n:Nat) (kvs:List (List kg×V)) (v u:V) (put:Bool) (D:ag):Prop :=
 (D=X.dI/\Th v/\Th u/\(jT n v && jT n u)=false)\/(D=X.Alike/\∃ i:Nat,i<n/\v=.int i/\u=.int i) \/
 ∃ x y:Nat,v=.int x/\u=.int y/\x<n/\y<n/\x≠y/\(mC kvs (pk (min x y) (max x y))).isSome=put/\D=if put then X.rm else X.kQ
def iT (K:aa) (C:ag) (X:EC):Sp:=λvs H _ E=>∃ (n:Nat) (d D:ag) (kvs:List (List kg×V)) (v u:V),vs=[.int n,.ref d,v,u]/\H d=some (.dT kvs)/\SY X n kvs v u true D/\∀ H',cB H H'->E (.ref D) none H'
theorem HF:Ln (iT K C X) 4:=by walk_at "l"
theorem HG:Rx (iT K C X) (λE=>rR K C X E (b8 K C X) (cP K C)) Hg:=by
 rintro vs H Q E ⟨n,d,D,kvs,v,u,rfl,hd,due,k⟩
 have k0:=k H λ_ _ e=>e
 unfold rR
 walk_at "x"
 rcases due with ⟨rfl,hv,hu,hp⟩|⟨rfl,i,hi,rfl,rfl⟩|⟨x,y,rfl,rfl,hx,hy,hxy,hk,rfl⟩
 ·exact .inr (.inl ⟨n,v,u,rfl,hv,hu,hp,k0⟩)
 ·exact .inr (.inr ⟨n,i,rfl,hi,k0⟩)
 ·refine .inl ⟨n,x,y,rfl,hx,hy,hxy,?_⟩
  walk_at "x"
  refine ⟨x,y,rfl,λp hp=>?_⟩
  walk_at "x"
  have S:=cB.dG (o:=.tup [.int (min x y:Nat),.int (max x y:Nat)]) hp
  refine .inr ⟨d,_,rfl,Cp.t (k:=pk (min x y) (max x y)) (S _ _ hd) aM,?_⟩
  refine ⟨_,rfl,?_⟩
  rw [show (if false=true then !(mC kvs (pk (min x y) (max x y))).isSome else (mC kvs (pk (min x y) (max x y))).isSome)=true from hk]
  exact mX (J9 (k _ S))
def fe (K:aa) (C:ag) (X:EC):Sp:=λvs H _ E=>∃ (n:Nat) (d D:ag) (kvs:List (List kg×V)) (v u:V),vs=[.int n,.ref d,v,u]/\H d=some (.dT kvs)/\SY X n kvs v u false D/\∀ H',cB H H'->E (.ref D) none H'
theorem zc:Ln (fe K C X) 4:=by walk_at "l"
theorem zd:Rx (fe K C X) (λE=>lK K C X E (b8 K C X) (cP K C)) Hg:=by
 rintro vs H Q E ⟨n,d,D,kvs,v,u,rfl,hd,due,k⟩
 have k0:=k H λ_ _ e=>e
 unfold lK
 walk_at "x"
 rcases due with ⟨rfl,hv,hu,hp⟩|⟨rfl,i,hi,rfl,rfl⟩|⟨x,y,rfl,rfl,hx,hy,hxy,hk,rfl⟩
 ·exact .inr (.inl ⟨n,v,u,rfl,hv,hu,hp,k0⟩)
 ·exact .inr (.inr ⟨n,i,rfl,hi,k0⟩)
 ·refine .inl ⟨n,x,y,rfl,hx,hy,hxy,?_⟩
  walk_at "x"
  refine ⟨x,y,rfl,λp hp=>?_⟩
  walk_at "x"
  have S:=cB.dG (o:=.tup [.int (min x y:Nat),.int (max x y:Nat)]) hp
  refine .inr ⟨d,_,rfl,Cp.t (k:=pk (min x y) (max x y)) (S _ _ hd) aM,?_⟩
  refine ⟨_,rfl,?_⟩
  rw [show (if true=true then !(mC kvs (pk (min x y) (max x y))).isSome else (mC kvs (pk (min x y) (max x y))).isSome)=true from by rw [hk];rfl]
  exact mX (J9 (k _ S))
def cA (K:aa) (C:ag) (X:EC):Sp:=λvs H _ E=>∃ (p dx l:ag) (n:Nat) (as:List ag) (R:Nat->List Int) (v u:V),vs=[.ref p,v,u]/\CT K C/\WA C H p dx l n as R/\Th v/\Th u/\(jT n v && jT n u)=false/\E (.ref X.dI) none H
theorem tH:Ln (cA K C X) 3:=by walk_at "l"
theorem As:Rx (cA K C X) (λE=>mK K C E (bI K C X)) gf:=by
 rintro vs H Q E ⟨p,dx,l,n,as,R,v,u,rfl,ct,W,hv,hu,hp,k⟩
 unfold mK
 walk_at "f"
 refine ⟨p,C,dx,_,_,rfl,W.ob,ct.cl,ct.n,wK _ _,?_⟩
 walk_at "x"
 exact .inr ⟨n,v,u,rfl,hv,hu,hp,k⟩
def ig (K:aa) (C:ag) (X:EC):Sp:=cA K C X
theorem FH:Ln (ig K C X) 3:=tH
theorem FI:Rx (ig K C X) (λE=>qB K C E (cA K C X) (mL K C)) gf:=by
 rintro vs H Q E ⟨p,dx,l,n,as,R,v,u,rfl,ct,W,hv,hu,hp,k⟩
 unfold qB
 walk_at "m"
 refine ⟨p,dx,_,rfl,W.ob,lL _ _,?_⟩
 walk_at "x"
 exact ⟨p,dx,l,n,as,R,v,u,rfl,ct,W,hv,hu,hp,k⟩
def gj (K:aa) (C:ag) (X:EC):Sp:=λvs H _ E=>∃ (p dx l:ag) (n:Nat) (as:List ag) (R:Nat->List Int) (v:V),vs=[.ref p,v]/\CT K C/\WA C H p dx l n as R/\Th v/\jT n v=false/\E (.ref X.dI) none H
theorem BN:Ln (gj K C X) 2:=by walk_at "l"
theorem BO:Rx (gj K C X) (λE=>n5 K C E (bH K C X)) kM:=by
 rintro vs H Q E ⟨p,dx,l,n,as,R,v,rfl,ct,W,hv,hp,k⟩
 unfold n5
 walk_at "f"
 refine ⟨p,C,dx,_,_,rfl,W.ob,ct.cl,ct.n,wK _ _,?_⟩
 walk_at "x"
 exact .inr ⟨n,v,rfl,hv,hp,k⟩
def eS (K:aa) (C:ag) (A:CA) (X:EC):Sp:=λvs H _ E=>∃ (p:ag) (v:V),vs=[.ref p,v]/\Th v/\Nl v=false/\E (.ref X.gm) none H
theorem x9:Ln (eS K C A X) 2:=by walk_at "l"
theorem ya:Rx (eS K C A X) (λE=>kD K C A X E (ck K C A) (e9 K C)) qb:=by
 rintro vs H Q E ⟨p,v,rfl,hv,hc,k⟩
 unfold kD
 walk_at "x"
 refine ⟨v,rfl,hv,?_⟩
 rw [hc]
 exact ⟨_,rfl,mX (J9 k)⟩
section
variable {K:aa}{C:ag}{A:CA}{X:EC}
def gg (K:aa) (C:ag) (A:CA) (X:EC):Sp:=λvs H _ E=>∃ (p dx:ag) (a:AL) (n T:Nat) (ts:List Ti) (as:Nat->List ag) (R:Nat->Nat->List Int) (v u:V) (D:ag),vs=[.ref p,v,u]/\zb K C A/\KP C A H p dx a n T ts as R/\SY X n (kl ts) v u true D/\∀ H',cB H H'->E (.ref D) none H'
theorem BP:Ln (gg K C A X) 3:=by walk_at "l"
theorem BQ:Rx (gg K C A X) (λE=>n6 K C A E (cN K C A) (iT K C X)) gf:=by
 rintro vs H Q E ⟨p,dx,a,n,T,ts,as,R,v,u,D,rfl,ct,h,due,k⟩
 obtain ⟨w,c1,c2,c3,c4,hw,hp⟩:=h.ob
 unfold n6
 walk_at "m"
 refine ⟨p,dx,_,rfl,hp,BK,?_⟩
 walk_at "f"
 refine ⟨p,A.Keeper,dx,_,_,rfl,hp,ct.kc,ct.k1,fK1,?_⟩
 walk_at "x"
 refine lW ?_
 refine lW ?_
 walk_at "x"
 refine ⟨p,A.Keeper,dx,_,_,rfl,hp,ct.kc,ct.k2,Yv,?_⟩
 refine ⟨a.q,A.bh,a.dq,_,_,rfl,h.lv.ob,ct.lc,ct.l1,Rt,?_⟩
 walk_at "x"
 exact ⟨n,a.d1,D,kl ts,v,u,rfl,h.lv.e1,due,k⟩
def h9 (K:aa) (C:ag) (A:CA) (X:EC):Sp:=λvs H _ E=>∃ (p dx:ag) (a:AL) (n T:Nat) (ts:List Ti) (as:Nat->List ag) (R:Nat->Nat->List Int) (v u:V) (D:ag),vs=[.ref p,v,u]/\zb K C A/\KP C A H p dx a n T ts as R/\SY X n (kl ts) v u false D/\∀ H',cB H H'->E (.ref D) none H'
theorem FJ:Ln (h9 K C A X) 3:=by walk_at "l"
theorem FK {s1 s2 s3 s4 s5:Sp}:Rx (h9 K C A X) (λE=>qC K C A E (fe K C X) s1 s2 s3 s4 s5) MV:=by
 rintro vs H Q E ⟨p,dx,a,n,T,ts,as,R,v,u,D,rfl,ct,h,due,k⟩
 obtain ⟨w,c1,c2,c3,c4,hw,hp⟩:=h.ob
 unfold qC
 walk_at "f"
 refine ⟨p,A.Keeper,dx,_,_,rfl,hp,ct.kc,ct.k1,fK1,?_⟩
 walk_at "x"
 refine lW ?_
 refine lW ?_
 walk_at "x"
 refine ⟨p,A.Keeper,dx,_,_,rfl,hp,ct.kc,ct.k2,Yv,?_⟩
 refine ⟨a.q,A.bh,a.dq,_,_,rfl,h.lv.ob,ct.lc,ct.l1,Rt,?_⟩
 walk_at "x"
 exact ⟨n,a.d1,D,kl ts,v,u,rfl,h.lv.e1,due,k⟩
def eX (K:aa) (C:ag) (A:CA) (X:EC):Sp:=λvs H _ E=>∃ (p dx:ag) (a:AL) (n T:Nat) (ts:List Ti) (as:Nat->List ag) (R:Nat->Nat->List Int) (v u:V),vs=[.ref p,v,u]/\zb K C A/\KP C A H p dx a n T ts as R/\Th v/\Th u/\(jT n v && jT n u)=false/\E (.ref X.dI) none H
theorem tI:Ln (eX K C A X) 3:=by walk_at "l"
theorem Au:Rx (eX K C A X) (λE=>mM K C A E (cA K C X)) gf:=by
 rintro vs H Q E ⟨p,dx,a,n,T,ts,as,R,v,u,rfl,ct,h,hv,hu,hpl,k⟩
 obtain ⟨w,c1,c2,c3,c4,hw,hp⟩:=h.ob
 have W:=h.lv.wa 0 w hw
 unfold mM
 walk_at "x"
 refine tR ?_
 refine lW ?_
 walk_at "x"
 refine ⟨p,A.Keeper,dx,_,_,rfl,hp,ct.kc,ct.k3,fK3,?_⟩
 refine ⟨w.1,w.2.1,_,rfl,W.ob,lL _ _,?_⟩
 walk_at "x"
 exact ⟨w.1,w.2.1,w.2.2,n,as 0,R 0,v,u,rfl,ct.w,W,hv,hu,hpl,k⟩
def ia (K:aa) (C:ag) (A:CA) (X:EC):Sp:=eX K C A X
theorem FL:Ln (ia K C A X) 3:=tI
theorem FM:Rx (ia K C A X) (λE=>qD K C A E (ig K C X)) gf:=by
 rintro vs H Q E ⟨p,dx,a,n,T,ts,as,R,v,u,rfl,ct,h,hv,hu,hpl,k⟩
 obtain ⟨w,c1,c2,c3,c4,hw,hp⟩:=h.ob
 have W:=h.lv.wa 0 w hw
 unfold qD
 walk_at "x"
 refine tR ?_
 refine lW ?_
 walk_at "x"
 refine ⟨p,A.Keeper,dx,_,_,rfl,hp,ct.kc,ct.k3,fK3,?_⟩
 refine ⟨w.1,w.2.1,_,rfl,W.ob,lL _ _,?_⟩
 walk_at "x"
 exact ⟨w.1,w.2.1,w.2.2,n,as 0,R 0,v,u,rfl,ct.w,W,hv,hu,hpl,k⟩
def gO (K:aa) (C:ag) (A:CA) (X:EC):Sp:=λvs H _ E=>∃ (p dx:ag) (a:AL) (n T:Nat) (ts:List Ti) (as:Nat->List ag) (R:Nat->Nat->List Int) (v:V),vs=[.ref p,v]/\zb K C A/\KP C A H p dx a n T ts as R/\Th v/\jT n v=false/\E (.ref X.dI) none H
theorem Dz:Ln (gO K C A X) 2:=by walk_at "l"
theorem DA:Rx (gO K C A X) (λE=>pA K C A E (gj K C X)) kM:=by
 rintro vs H Q E ⟨p,dx,a,n,T,ts,as,R,v,rfl,ct,h,hv,hpl,k⟩
 obtain ⟨w,c1,c2,c3,c4,hw,hp⟩:=h.ob
 have W:=h.lv.wa 0 w hw
 unfold pA
 walk_at "x"
 refine tR ?_
 refine lW ?_
 walk_at "x"
 refine ⟨p,A.Keeper,dx,_,_,rfl,hp,ct.kc,ct.k3,fK3,?_⟩
 refine ⟨w.1,w.2.1,_,rfl,W.ob,lL _ _,?_⟩
 walk_at "x"
 exact ⟨w.1,w.2.1,w.2.2,n,as 0,R 0,v,rfl,ct.w,W,hv,hpl,k⟩
end
end K32
namespace K32
open Rm
variable {K:aa}{C:ag}{A:CA}{X:EC}{Pt:ag}
theorem Ru {K:aa}{H:Hp}{Q:VK}{i j:aZ}(h:Q (.bl (decide (V.str i=V.str j))) H):mD K (.str i) (.str j) H Q:=.inl ⟨rfl,h⟩
def II (X:EC) (D:ag) (w:aZ):Prop:=(D=X.dI/\w="place")\/(D=X.Alike/\w="alike")\/(D=X.rm/\w="tied")\/(D=X.kQ/\w="tie")\/(D=X.gm/\w="count")
section
variable {K:aa}{C:ag}{A:CA}{X:EC}{mg:aZ->Option ai}
theorem Av {a l D Zzq:ag}{b:Bool}{xs:List V}{w:aZ}{H:Hp}{Dn:ug}(i:Cn K D) (kk:ar K (.ref D) (.ref Zzq)=some b) (ha:H a=some (Ra a (.ref D))) (hl:H l=some (.lst xs)) (hx:xs.length<100)
  (k:∀ H',H' a=some (Ra a (.ref D))->H' l=some (.lst (xs++if b then [.str w] else []))->bS l H H'->Dn.nx [some (.ref a),some (.ref l)] H') :
  gX (kK K (v5 (wc K) (ak (ao 0) (ak (tC (.ref Zzq)) aT)))) (fV (IX K "list" nO (ao 1) (ak (tC (.str w)) aT))) eM Dn [some (.ref a),some (.ref l)] H:=by
 refine UU (QY (x_cb (yO (CC rfl (yO (x_c (QX (Ka ha i kk ⟨b,rfl,?_⟩))))))))
 cases b with
 | false=>exact jf (k H ha (by rw [hl];simp) λ_ _ e _=>e)
 | true =>
  refine mX ?_
  walk_at "x"
  refine ⟨.inl ⟨rfl,_,fg.of hl⟩,?_⟩
  walk_at "x"
  exact EH hl (iP (m:=100) hx) (k _ ((aJ (jG ha hl)).trans ha) aM bS.upd)
def dv (K:aa) (C:ag) (X:EC):Sp:=λvs H Q _=>∃ (a D:ag) (w:aZ),vs=[.ref a]/\H a=some (Ra a (.ref D))/\II X D w/\∀ q H',cB H H'->H q=none->H' q=some (.lst [.str w])->Q (.ref q) H'
theorem FN:Ln (dv K C X) 1:=by walk_at "l"
theorem FO (T:lD K mg C A X):Rn (dv K C X) (qw K C X) V8:=by
 rintro vs H Q E ⟨a,D,w,rfl,ha,hD,k⟩
 obtain ⟨b1,b2,b3,b4,b5,i,k1,k2,k3,k4,k5,k6,k7,k8,e⟩:∃ b1 b2 b3 b4 b5:Bool,Cn K D/\ar K (.ref D) (.ref X.dI)=some b1/\ar K (.ref D) (.ref X.Alike)=some b2/\ar K (.ref D) (.ref X.rm)=some b3/\ar K (.ref D) (.ref X.kQ)=some b4/\ar K (.ref D) (.ref X.gm)=some b5/\ar K (.ref D) (.ref X.xi)=some false/\ar K (.ref D) (.ref X.CU)=some false/\ar K (.ref D) (.ref X.CV)=some false /\
   (((((([]:List V)++if b1 then [.str "place"] else [])++if b2 then [.str "alike"] else [])++if b3 then [.str "tied"] else [])++if b4 then [.str "tie"] else [])++if b5 then [.str "count"] else [])=[.str w]:=by
  rcases hD with ⟨rfl,rfl⟩|⟨rfl,rfl⟩|⟨rfl,rfl⟩|⟨rfl,rfl⟩|⟨rfl,rfl⟩
  ·exact ⟨true,false,false,false,false,T.Tr,T.jc,T.j0,T.kU,T.jX,T.i8,T.jy,T.j7,T.j4,rfl⟩
  ·exact ⟨false,true,false,false,false,T.YH,T.jV,T.ml,T.nv,T.mv,T.jU,T.kO,T.mr,T.mh,rfl⟩
  ·exact ⟨false,false,true,false,false,T.aa8,T.kW,T.nC,T.pC,T.nE,T.kX,T.mj,T.nH,T.nI,rfl⟩
  ·exact ⟨false,false,false,true,false,T.YN,T.j3,T.mi,T.nF,T.mq,T.j8,T.kR,T.mf,T.md,rfl⟩
  ·exact ⟨false,false,false,false,true,T.Tv,T.jb,T.j6,T.kZ,T.jY,T.i9,T.jz,T.jW,T.j5,rfl⟩
 have sh:∀ {xs:List V}{b:Bool}{w:aZ}{m:Nat},xs.length<=m->(xs++if b then [V.str w] else []).length<=m+1:=λ{xs b w m} h=>by
  cases b with
  | false=>rw [if_neg (by decide),yf];exact GT h
  | true=>rw [if_pos rfl,bN];exact oo h
 unfold qw
 walk_at "x"
 refine ⟨bA (m:=0) (ax 0),λl hl=>?_⟩
 generalize eu_:upd H l (.lst [])=H0
 obtain ⟨S0,g0⟩:=news eu_ hl
 walk_at "x1"
 have l1:=sh (xs:=[]) (b:=b1) (w:="place") (ax 0)
 have l2:=sh (b:=b2) (w:="alike") l1
 have l3:=sh (b:=b3) (w:="tied") l2
 have l4:=sh (b:=b4) (w:="tie") l3
 with_reducible refine zQ ?_
 refine Av i k1 (S0 _ _ ha) g0 (by decide) λH1 a1 g1 B1=>?_
 with_reducible refine zQ ?_
 refine Av i k2 a1 g1 (bj l1 (by decide)) λH2 a2 g2 B2=>?_
 with_reducible refine zQ ?_
 refine Av i k3 a2 g2 (bj l2 (by decide)) λH3 a3 g3 B3=>?_
 with_reducible refine zQ ?_
 refine Av i k4 a3 g3 (bj l3 (by decide)) λH4 a4 g4 B4=>?_
 with_reducible refine zQ ?_
 refine Av i k5 a4 g4 (bj l4 (by decide)) λH5 a5 g5 B5=>?_
 rw [e] at g5
 walk_at "x"
 refine Ka a5 i k6 ⟨false,rfl,jf ?_⟩
 walk_at "x"
 refine Ka a5 i k7 ⟨false,rfl,jf ?_⟩
 walk_at "x"
 refine Ka a5 i k8 ⟨false,rfl,jf ?_⟩
 walk_at "x"
 exact k l H5 (λb o e=>by
  have hb:=aP e hl
  exact B5 _ _ (B4 _ _ (B3 _ _ (B2 _ _ (B1 _ _ (S0 _ _ e) hb) hb) hb) hb) hb) hl g5
inductive Due (X:EC) (n:Nat) (kvs:List (List kg×V)):aZ->V->V->ag->Prop
 | put {v u:V}{D:ag}(h:SY X n kvs v u true D):Due X n kvs "put" v u D
 | out {v u:V}{D:ag}(h:SY X n kvs v u false D):Due X n kvs "out" v u D
 | two {w:aZ}{v u:V}(hw:w="joined"\/w="way") (hv:Th v) (hu:Th u) (h:(jT n v && jT n u)=false):Due X n kvs w v u X.dI
 | one {v u:V}(hv:Th v) (h:jT n v=false):Due X n kvs "side" v u X.dI
def ju (K:aa) (C:ag) (A:CA) (X:EC):Sp:=λvs H _ E=>∃ (p dx:ag) (a:AL) (n T:Nat) (ts:List Ti) (as:Nat->List ag) (R:Nat->Nat->List Int) (w:aZ) (v u:V) (D:ag),vs=[.ref p,.str w,v,u]/\zb K C A/\KP C A H p dx a n T ts as R/\Due X n (kl ts) w v u D/\∀ H',cB H H'->E (.ref D) none H'
theorem KM:Ln (ju K C A X) 4:=by walk_at "l"
theorem KN:Rx (ju K C A X) (λE=>tD K C A E (gO K C A X) (gg K C A X) (h9 K C A X) (eX K C A X) (ia K C A X)) O8:=by
 rintro vs H Q E ⟨p,dx,a,n,T,ts,as,R,w,v,u,D,rfl,ct,h,due,k⟩
 obtain ⟨wd,c1,c2,c3,c4,hw,hp⟩:=h.ob
 have k0:=k H λ_ _ e=>e
 unfold tD
 walk_at "x"
 refine Ru ⟨_,rfl,vw (λz=>?_) λz1=>?_⟩
 ·cases V.str.inj z
  walk_at "m"
  refine ⟨p,dx,_,rfl,hp,BK,?_⟩
  walk_at "x"
  cases due with
  | put d=>exact ⟨p,dx,a,n,T,ts,as,R,v,u,D,rfl,ct,h,d,k⟩
  | two hw=>rcases hw with z|z<;>exact absurd z (by decide +kernel)
 walk_at "x"
 refine Ru ⟨_,rfl,vw (λz=>?_) λz2=>?_⟩
 ·cases V.str.inj z
  walk_at "m"
  refine ⟨p,dx,_,rfl,hp,BK,?_⟩
  walk_at "x"
  cases due with
  | out d=>exact ⟨p,dx,a,n,T,ts,as,R,v,u,D,rfl,ct,h,d,k⟩
  | two hw=>rcases hw with z|z<;>exact absurd z (by decide +kernel)
 walk_at "x"
 refine Ru ⟨_,rfl,vw (λz=>?_) λz3=>?_⟩
 ·cases V.str.inj z
  walk_at "m"
  refine ⟨p,dx,_,rfl,hp,BK,?_⟩
  walk_at "x"
  cases due with
  | two _ hv hu d=>exact ⟨p,dx,a,n,T,ts,as,R,v,u,rfl,ct,h,hv,hu,d,k0⟩
 walk_at "x"
 refine Ru ⟨_,rfl,vw (λz=>?_) λz4=>?_⟩
 ·cases V.str.inj z
  walk_at "m"
  refine ⟨p,dx,_,rfl,hp,BK,?_⟩
  walk_at "x"
  cases due with
  | two _ hv hu d=>exact ⟨p,dx,a,n,T,ts,as,R,v,u,rfl,ct,h,hv,hu,d,k0⟩
 walk_at "m"
 refine ⟨p,dx,_,rfl,hp,BK,?_⟩
 walk_at "x"
 cases due with
 | put=>exact absurd rfl z1
 | out=>exact absurd rfl z2
 | two hw=>rcases hw with z|z<;>subst z;exact absurd rfl z3;exact absurd rfl z4
 | one hv d=>exact ⟨p,dx,a,n,T,ts,as,R,v,rfl,ct,h,hv,d,k0⟩
theorem FP {x:aZ}(h:Ox x=true):zO (.list [.str x]):=⟨by simp [mW,eP,h],by simp [pY,fJ]⟩
theorem II.ok {D:ag}{w:aZ}(h:II X D w):Ox w=true:=by
 rcases h with ⟨_,rfl⟩|⟨_,rfl⟩|⟨_,rfl⟩|⟨_,rfl⟩|⟨_,rfl⟩<;>decide +kernel
theorem II.em (T:lD K mg C A X) {D:ag}{w:aZ}(h:II X D w):eD K (.ref D) (.ref X.pD)=some true:=by
 rcases h with ⟨rfl,_⟩|⟨rfl,_⟩|⟨rfl,_⟩|⟨rfl,_⟩|⟨rfl,_⟩
 ·exact T.sE
 ·exact T.xo
 ·exact T.AU
 ·exact T.xl
 ·exact T.sH
theorem Nq {H H4:Hp}{q:ag}{d:aZ}{Q:VK}(ok:Ox d=true) (g4:H4 q=some (.lst [.str d])) (k:∀ H',cB H4 H'->Q (.bl true) H'):∀ r,H4 r=none->mD K (.ref q) (.ref r) (upd H4 r (.lst [.str d])) Q:=λr hr=>by
 generalize eu_:upd H4 r (.lst [.str d])=H5
 obtain ⟨S5,g5⟩:=news eu_ hr
 have rp:∀ {b:ag},H5 b=some (.lst [.str d])->Rep K H5 (.list [.str d]) (.ref b):=λ{b} e=>by
  simp only [Rep]
  refine ⟨b,_,rfl,fg.of e,?_⟩
  simp only [gn,Rep]
  exact ⟨_,_,rfl,rfl,rfl⟩
 refine acr (rp (S5 _ _ g4)) (rp g5) (FP ok) (FP ok) ?_
 rw [LW _ (FP ok).lay]
 exact k _ S5
def aR (K:aa) (C:ag) (A:CA) (X:EC):Sp:=λvs H Q _=>∃ (p dx:ag) (a:AL) (n T:Nat) (ts:List Ti) (as:Nat->List ag) (R:Nat->Nat->List Int) (w d:aZ) (v u:V) (D:ag),vs=[.ref p,.str w,v,u,.str d]/\zb K C A/\KP C A H p dx a n T ts as R/\Due X n (kl ts) w v u D/\II X D d/\∀ H',cB H H'->Q (.bl true) H'
theorem BR:Ln (aR K C A X) 5:=by walk_at "l"
theorem BS (T:lD K mg C A X):Rn (aR K C A X) (nX K C A X (ju K C A X) (dv K C X)) VO:=by
 rintro vs H Q E ⟨p,dx,a,n,Tp,ts,as,R,w,d,v,u,D,rfl,ct,h,due,hdw,k⟩
 unfold nX
 refine zQ ?_
 refine acw ?_
 walk_at "x"
 refine ⟨λcls _ H2=>cls=.ref D/\cB H H2,⟨p,dx,a,n,Tp,ts,as,R,w,v,u,D,rfl,ct,h,due,λH' S=>⟨rfl,S⟩⟩,?_⟩
 rintro cls H2 ⟨rfl,S2⟩
 refine ⟨D,rfl,hdw.em T,λb hb=>?_⟩
 generalize eu_:upd H2 b (Ra b (.ref D))=H3
 obtain ⟨S3,g3⟩:=news eu_ hb
 walk_at "x"
 refine ⟨b,D,d,rfl,g3,hdw,λq H4 S4 hq g4=>?_⟩
 walk_at "x"
 exact ⟨bA (m:=1) (ax 1),Nq (H:=H) hdw.ok g4 λH5 S5=>k _ (((S2.trans S3).trans S4).trans S5)⟩
theorem aa3 {C':ag}{sp:Sp}{t:TA}{cT:ai}{i:Nat}{th:TS}{D:ug}{Z:L2.St}{H:Hp}(h:t Z H λvs H1=>∃ E:XK,(∀ x dx,H1 x=none->H1 dx=none->dx≠x->sp (.ref x::(vs++[])) (upd (upd H1 dx (.own x)) x (.ins C' dx [])) (λ_ _=>False) E) /\
 ∀ cls H2,E cls none H2->∃ Dc:ag,cls=.ref Dc/\eD K cls cT=some true/\∀ a,H2 a=none->th { nx:=λ_ _=>False,rt:=D.rt } (Z.set i (some (.ref a))) (upd H2 a (Ra a cls))):VG K C' sp t cT i th D Z H:=h
def d9 (K:aa) (C:ag) (A:CA) (X:EC):Sp:=λvs H Q _=>∃ v:V,vs=[v]/\Th v/\Nl v=false/\∀ H',cB H H'->Q (.bl true) H'
theorem Aw:Ln (d9 K C A X) 1:=by walk_at "l"
theorem Ax (T:lD K mg C A X):Rn (d9 K C A X) (mG K C A X (eS K C A X) (dv K C X)) V2:=by
 rintro vs H Q E ⟨v,rfl,hv,hc,k⟩
 have hdw:II X X.gm "count":=.inr (.inr (.inr (.inr ⟨rfl,rfl⟩)))
 unfold mG
 refine zQ ?_
 refine aa3 ?_
 walk_at "x"
 refine ⟨λcls _ H2=>cls=.ref X.gm/\cB H H2,λx dx hx hdx hne=>⟨x,v,rfl,hv,hc,rfl,λb o e=>by rw [aJ (aP e hx),aJ (aP e hdx)];exact e⟩,?_⟩
 rintro cls H2 ⟨rfl,S2⟩
 refine ⟨_,rfl,hdw.em T,λb hb=>?_⟩
 generalize eu_:upd H2 b (Ra b (.ref X.gm))=H3
 obtain ⟨S3,g3⟩:=news eu_ hb
 walk_at "x"
 refine ⟨b,_,"count",rfl,g3,hdw,λq H4 S4 hq g4=>?_⟩
 walk_at "x"
 exact ⟨bA (m:=1) (ax 1),Nq (H:=H) hdw.ok g4 λH5 S5=>k _ (((S2.trans S3).trans S4).trans S5)⟩
end
end K32
namespace K32
open Rm
variable {K:aa}{C:ag}{A:CA}{X:EC}{Pt:ag}
theorem Wj {α β:Type} {f:α->β}{m l:List β}(h:m.Perm l):∀ us:List α,m=us.map f->∃ us':List α,us'.Perm us/\l=us'.map f:=by
 induction h with
 | nil=>exact λus e=>⟨us,.refl _,e⟩
 | cons x _ ih =>
  intro us e
  match us,e with
  | u::us,e =>
   obtain ⟨e1,e2⟩:=qL e
   obtain ⟨us',h1,h2⟩:=ih us e2
   exact ⟨u::us',h1.cons u,by rw [e1,h2];rfl⟩
 | swap x y l =>
  intro us e
  match us,e with
  | u::v::us,e =>
   obtain ⟨e1,e2⟩:=qL e
   obtain ⟨e2,e3⟩:=qL e2
   exact ⟨v::u::us,.swap _ _ _,by rw [e1,e2,e3];rfl⟩
 | trans _ _ ih1 ih2 =>
  intro us e
  obtain ⟨us1,h1,e1⟩:=ih1 us e
  obtain ⟨us2,h2,e2⟩:=ih2 us1 e1
  exact ⟨us2,h2.trans h1,e2⟩
theorem Wk {L M:List (List Int)}(p:L.Perm M) (h1:L.Pairwise (λz w=>jr w z=false)) (h2:M.Pairwise (λz w=>jr w z=false)):L=M:=by
 refine p.eq_of_pairwise (λa b _ _ q1 q2=>?_) h1 h2
 rcases yT q1 with z|z
 ·rw [z] at q2;cases q2
 ·exact z.symm
def SZ (t:Ti):List Int:=[(t.x:Int),(t.y:Int),(t.dH:Int),b2i t.wd]
theorem Wl {t u:Ti}(h:SZ t=SZ u):t=u:=by
 obtain ⟨x,y,l,w⟩:=t
 obtain ⟨x',y',l',w'⟩:=u
 simp only [SZ,List.cons.injEq,and_true] at h
 obtain ⟨h1,h2,h3,h4⟩:=h
 have e4:w=w':=by cases w<;>cases w'<;>simp [b2i] at h4<;>rfl
 rw [show x=x' by omega,show y=y' by omega,show l=l' by omega,e4]
def Srt (L:List Ti):Prop:=L.Pairwise λt u=>jr (SZ u) (SZ t)=false
theorem Srt.one {L M:List Ti}(p:L.Perm M) (h1:Srt L) (h2:Srt M):L=M:=by
 have e:=Wk (p.map SZ) (mU.mpr h1) (mU.mpr h2)
 exact List.map_inj_right (λ_ _=>Wl) |>.mp e
theorem Wm {l m:List Int}(h:l.Perm m):l.sum=m.sum:=by
 induction h with
 | nil=>rfl
 | cons x _ ih=>simp [ih]
 | swap x y l=>simp;omega
 | trans _ _ h1 h2=>rw [h1,h2]
def CM (H:Hp) (u:Ti×ag):Prop:=H u.2=some (.tup [.int u.1.x,.int u.1.y,.int u.1.dH,.bl u.1.wd])
def PD (u:Ti×ag):V:=.ref u.2
def t7 (K:aa) (C:ag) (A:CA):Sp:=λvs H Q _=>∃ (p dx:ag) (a:AL) (n T:Nat) (ts:List Ti) (as:Nat->List ag) (R:Nat->Nat->List Int),vs=[.ref p]/\zb K C A/\KP C A H p dx a n T ts as R/\ts.length<64 /\
 ∀ (q:ag) (us:List (Ti×ag)) (o:gC) (H':Hp),H q=none->H' q=some (.lst (us.map PD))->(∀ u∈us,CM H' u)->(us.map (·.1)).Perm ts->Srt (us.map (·.1))->H' a.d1=some (.frz o (.dT (kl ts)))->bS a.d1 H H'->Q (.ref q) H'
def bo (K:aa) (C:ag) (A:CA):Sp:=λvs H Q _=>∃ (p dx:ag) (a:AL) (n T:Nat) (ts:List Ti) (as:Nat->List ag) (R:Nat->Nat->List Int),vs=[.ref p]/\zb K C A/\KP C A H p dx a n T ts as R/\ts.length<64 /\
 ∀ (q:ag) (us:List (Ti×ag)) (H':Hp),H q=none->H' q=some (.lst (us.map PD))->(∀ u∈us,CM H' u)->(us.map (·.1)).Perm ts->Srt (us.map (·.1))->cB H H'->Q (.ref q) H'
theorem FQ:Ln (t7 K C A) 1:=by walk_at "l"
theorem FR:∀ vs H Q E,bo K C A vs H Q E->t7 K C A vs H (Yd H Q) E:=by
 rintro vs H Q E ⟨p,dx,a,n,T,ts,as,R,rfl,ct,h,hl,k⟩
 refine ⟨p,dx,a,n,T,ts,as,R,rfl,ct,h,hl,λq us o H' hq gq fl pm so gd B=>.inr ⟨a.d1,o,kl ts,(λo' u' e=>by rw [h.lv.e1] at e;cases e),gd,?_⟩⟩
 have hqd:q≠a.d1:=Ne.symm (aP h.lv.e1 hq)
 refine k q us _ hq (by rw [aJ hqd];exact gq) (λu hu=>(aJ (jG (fl u hu) gd)).trans (fl u hu)) pm so λb ob e=>?_
 by_cases hb:b=a.d1
 ·subst hb;rw [aM,← h.lv.e1,e]
 ·rw [aJ hb];exact B _ _ e hb
theorem FS:Rn (t7 K C A) (rQ K C A (cb K C A)) pX:=by
 rintro vs H Q E ⟨p,dx,a,n,T,ts,as,R,rfl,ct,h,hl,k⟩
 obtain ⟨w,c1,c2,c3,c4,hw,hp⟩:=h.ob
 have hnd:=h.iv.nd
 unfold rQ
 walk_at "x"
 refine Zq ?_
 refine lW ?_
 refine lW ?_
 walk_at "x"
 refine ⟨p,A.Keeper,dx,_,_,rfl,hp,ct.kc,ct.k2,Yv,?_⟩
 refine ⟨a.q,A.bh,a.dq,_,_,rfl,h.lv.ob,ct.lc,ct.l1,Rt,?_⟩
 refine ⟨a.d1,kl ts,rfl,.inl ⟨h.lv.e1,λo=>?_⟩⟩
 have g1:(upd H a.d1 (.frz o (.dT (kl ts)))) a.d1=some (.frz o (.dT (kl ts))):=aM
 have B1:bS a.d1 H (upd H a.d1 (.frz o (.dT (kl ts)))):=bS.upd
 generalize upd H a.d1 (.frz o (.dT (kl ts)))=H1 at g1 B1
 have p1:=B1 _ _ hp (jG hp h.lv.e1)
 have q1:=B1 _ _ h.lv.ob (jG h.lv.ob h.lv.e1)
 have w1:=B1 _ _ h.lv.e2 (Ne.symm h.lv.Tj)
 intro acc hacc
 refine rJ (n:=ts.length) (λt ys H4=>H4 acc=some (.lst ys)/\cB H1 H4/\∃ us:List (Ti×ag),ys=us.map PD/\us.map (·.1)=ts.take t/\∀ u∈us,CM H4 u) (λZ=>∃ o,Z=[o,some (.ref p)]) ⟨aM,cB.dG hacc,[],rfl,rfl,λz hz=>nomatch hz⟩ ⟨_,rfl⟩ ?_ ?_ ?_ ?_
 ·rintro t ys H4 ⟨e,_⟩;exact e
 ·rintro ys H4 ⟨g4,S4,us,rfl,hu,fl⟩
  refine ⟨⟨by rw [vh];exact ax _,S4 _ _ g1⟩,?_⟩
  rw [cQ (ax _)] at hu
  have hul:us.length=ts.length:=by have:=congrArg fN hu;simpa using this
  walk_at "x"
  refine ⟨acc,us.map (λu=>([(u.1.x:Int),(u.1.y:Int),(u.1.dH:Int),b2i u.1.wd],u.2)),[false,false,true],rfl,by rw [cW];exact fg.of g4,λz hz=>?_,by rw [aj];omega,λl zs' hl4 hperm so=>?_⟩
  ·obtain ⟨u,hum,rfl⟩:=bX.mp hz
   exact ⟨_,fl u hum,.int _ (.int _ (.int _ (.bl _ .nil)))⟩
  obtain ⟨us',hp',rfl⟩:=Wj hperm.symm us rfl
  have hlf:H l=none:=by
   cases z:H l with
   | none=>rfl
   | some ob =>
    by_cases hb:l=a.d1
    ·rw [hb,S4 _ _ g1] at hl4;cases hl4
    ·rw [S4 _ _ (B1 _ _ z hb)] at hl4;cases hl4
  have U:∀ {b:ag}{u:HO}{xs:List V},H4 b=some u->(upd H4 l (.lst xs)) b=some u:=λe=>by rw [aJ (aP e hl4)];exact e
  refine k l us' o _ hlf (by rw [aM,cW];rfl) (λu hum=>U (fl u (hp'.mem_iff.mp hum))) (by rw [← hu];exact hp'.map _) (mU.mpr (mU.mp so)) (U (S4 _ _ g1)) λb ob e hb=>U (S4 _ _ (B1 _ _ e hb))
 ·rintro t ys H4 ht ⟨_,S4,_⟩;exact ⟨by rw [vh];exact ht,S4 _ _ g1⟩
 ·rintro t ys σ' H4 x H5 ht ⟨g4,S4,us,rfl,hu,fl⟩ ⟨o',rfl⟩ ⟨eH,key,v,b,hk,ex,hb⟩
  subst eH ex
  obtain ⟨u,hu',eu⟩:∃ u,ts[t]?=some u/\(pk u.x u.y,V.int u.dH)=(key,v):=by
   have hk:(ts.map λt=>(pk t.x t.y,V.int t.dH))[t]?=some (key,v):=hk
   rw [aG] at hk
   exact bV.mp hk
  cases eu
  have hum:=a9 hu'
  walk_at "x"
  refine mX ?_
  refine tR ?_
  refine lW ?_
  walk_at "x"
  refine ⟨p,A.Keeper,dx,_,_,rfl,S4 _ _ p1,ct.kc,ct.k2,Yv,?_⟩
  refine ⟨a.q,a.dq,_,rfl,S4 _ _ q1,Zv,?_⟩
  walk_at "x"
  refine ⟨a.q,a.dq,a.d1,a.d2,a.d3,a.L,b,kl ts,kw ts,u.x,u.y,_,_,rfl,ct,S4 _ _ q1,.inr ⟨o,S4 _ _ g1⟩,.inl (S4 _ _ w1),hb,jE (f:=λt=>V.int t.dH) hnd hum,jE (f:=λt=>V.bl t.wd) hnd hum,λr hr=>?_⟩
  generalize eu_:upd H5 r (.tup [.int u.x,.int u.y,.int u.dH,.bl u.wd])=H6
  obtain ⟨T,gr⟩:=news eu_ hr
  have hul:us.length=t:=by
   have:=congrArg fN hu
   rw [aj,cf] at this
   omega
  refine ⟨T _ _ g4,iP (m:=100) (by rw [aj];omega),oC.mk' ht ⟨_,rfl⟩ ⟨aM,λb' ob e=>by rw [aJ (aP e hacc)];exact T _ _ (S4 _ _ e),us++[(u,r)],by simp [PD],?_,λz hz'=>?_⟩⟩
  ·rw [br,hu,jK,hu'];rfl
  ·have tn:∀ {z:Ti×ag},CM H6 z->CM (upd H6 acc (.lst (us.map PD++[.ref r]))) z:=λ{z} e=>(aJ (jG e (T _ _ g4))).trans e
   rcases a7.mp hz' with hz'|hz'
   ·exact tn (T _ _ (fl z hz'))
   ·rw [aF.mp hz'];exact tn gr
def cU (K:aa) (C:ag) (A:CA):Sp:=λvs H Q _=>∃ (p dx:ag) (a:AL) (n T:Nat) (ts:List Ti) (as:Nat->List ag) (R:Nat->Nat->List Int) (w:ag) (c1 c2 c3 c4:Int),vs=[.ref p]/\zb K C A/\KP C A H p dx a n T ts as R/\H p=some (.ins A.Keeper dx (fK n a.q w c1 c2 c3 c4))/\ts.length<64 /\
 ∀ (q:ag) (H':Hp),H q=none->H' q=some (.tup [.int c1,.int c2,.int c3,.int c4,.int (ts.map λt=>(T:Int)-t.dH).sum])->cB H H'->Q (.ref q) H'
theorem BU:Ln (cU K C A) 1:=by walk_at "l"
theorem BV:Rn (cU K C A) (n0 K C A (eQ K C) (bo K C A)) pX:=by
 rintro vs H Q E ⟨p,dx,a,n,T,ts,as,R,w,c1,c2,c3,c4,rfl,ct,h,hp,hl,k⟩
 unfold n0
 walk_at "f"
 refine ⟨p,A.Keeper,dx,_,_,rfl,hp,ct.kc,ct.k4,fK4,?_⟩
 walk_at "f"
 refine ⟨p,A.Keeper,dx,_,_,rfl,hp,ct.kc,ct.k5,fK5,?_⟩
 walk_at "f"
 refine ⟨p,A.Keeper,dx,_,_,rfl,hp,ct.kc,ct.k6,fK6,?_⟩
 walk_at "f"
 refine ⟨p,A.Keeper,dx,_,_,rfl,hp,ct.kc,ct.k7,fK7,?_⟩
 walk_at "f"
 refine ⟨p,A.Keeper,dx,_,_,rfl,hp,ct.kc,ct.k1,fK1,?_⟩
 walk_at "m"
 refine ⟨p,dx,_,rfl,hp,BK,?_⟩
 walk_at "x"
 refine ⟨p,dx,a,n,T,ts,as,R,rfl,ct,h,hl,λq us H1 hq gq fl pm so S1=>?_⟩
 walk_at "x"
 have hul:us.length=ts.length:=by have:=pm.length_eq;rwa [aj] at this
 refine ⟨n,q,us.map (λu=>((u.1.dH:Int),u.2)),rfl,by rw [cW];exact gq,λz hz=>let ⟨u,hu,e⟩:=bX.mp hz;e▸⟨_,_,_,fl u hu⟩,by rw [aj];omega,λc H2 hc S2=>?_⟩
 have ec:=hc T h.tp
 rw [cW] at ec
 have es:c=(ts.map λt=>(T:Int)-t.dH).sum:=by
  rw [ec,← Wm (pm.map _),cW];rfl
 rw [es]
 walk_at "x"
 refine ⟨bA (m:=5) (ax 5),λr hr=>?_⟩
 have S12:=S1.trans S2
 exact k r _ (S12.free hr) aM (S12.trans (cB.dG hr))
end K32
namespace K32
variable {K:aa}{C:ag}{A:CA}{X:EC}{Pt:ag}
def de (K:aa) (C:ag):Sp:=λvs H Q _=>∃ (a:ag) (ns:List Int) (k:Nat),vs=[.ref a,.int k]/\fg K H a (ns.map V.int)/\∀ z:Int,Q (.int z) H
theorem BW:Ln (de K C) 2:=by walk_at "l"
theorem BX:Rn (de K C) (nW K C) E5:=by
 rintro vs H Q E ⟨a,ns,k,rfl,hS,q⟩
 unfold nW
 walk_at "x"
 refine OQ hS ?_
 walk_at "x"
 refine vw (λh=>?_) λh=>?_
 ·walk_at "x"
  have hk:k<ns.length:=by omega
  refine MC hS rfl (aD hk) ?_
  exact q _
 ·walk_at "x"
  exact q _
end K32
namespace K32
open Rm
variable {K:aa}{C:ag}{A:CA}{X:EC}{Pt:ag}
theorem em {n:Nat}(hn:0<n) (x:Int):∃ j:Nat,x%(n:Int)=(j:Int)/\j<n:=by
 have h1:=Int.emod_nonneg x (show (n:Int)≠0 by omega)
 have h2:=Int.emod_lt_of_pos x (show (0:Int)<n by omega)
 exact ⟨(x%(n:Int)).toNat,by omega,by omega⟩
def bB (K:aa) (C:ag):Sp:=λvs H Q _=>∃ (n:Nat) (v:V),vs=[.int n,v]/\Th v/\Q (.bl (jT n v)) H
theorem FT:Ln (bB K C) 2:=by walk_at "l"
theorem FU:Rn (bB K C) (qv K C) CG:=by
 rintro vs H Q E ⟨n,v,rfl,hv,k⟩
 unfold qv
 walk_at "x"
 cases hv with
 | int i =>
  refine sT (.int i) U2 ?_
  walk_at "x"
  refine mX ?_
  walk_at "x"
  refine sT (.int i) U3 ?_
  walk_at "x"
  refine mX ?_
  walk_at "x"
  refine vw (λh=>?_) λh=>?_
  ·walk_at "x"
   have:jT n (.int i)=decide (i<n):=by show (decide (0<=i) && decide (i<n))=_;rw [decide_eq_true h,se]
   rw [← this];exact k
  ·have:jT n (.int i)=false:=by show (decide (0<=i) && decide (i<n))=_;rw [decide_eq_false h,kJ]
   rw [← this];exact k
 | bl b =>
  refine sT (.bl b) U4 ?_
  walk_at "x"
  refine mX ?_
  walk_at "x"
  refine sT (.bl b) ON ?_
  walk_at "x"
  refine jf ?_
  exact k
 | non =>
  refine sT .non U5 ?_
  walk_at "x"
  refine jf ?_
  exact k
 | str x =>
  refine sT (.str x) U6 ?_
  walk_at "x"
  refine jf ?_
  exact k
def dQ (K:aa) (C:ag):Sp:=λvs H Q _=>∃ (n:Nat) (c:Int),vs=[.int n,.int c]/\1<=n/\∀ v H',Th v->cB H H'->Q v H'
theorem FV:Ln (dQ K C) 2:=by walk_at "l"
theorem FW:Rn (dQ K C) (qu K C) VW:=by
 rintro vs H Q E ⟨n,c,rfl,hn,k⟩
 have p30:(0:Int)<10^(30:Int).toNat:=by decide
 unfold qu
 walk_at "x"
 refine vw (λ_=>?_) λ_=>?_
 ·walk_at "x"
  exact k _ _ (.int _) (cB.refl _)
 walk_at "x"
 have two:∀ {p:ag}{H1:Hp}{z:Int}{Q':VK},H1 p=some (.lst [.int 0,.int z])->(∀ y,Q' (.int y) H1)->gA K (.ref p) (.int (c/12%2)) H1 Q':=λ{p H1 z Q'} g q=>by
  obtain ⟨j,ej,hj⟩:=em (n:=2) (by omega) (c/12)
  have ej:c/12%2=(j:Int):=ej
  rw [ej]
  rcases (show j=0\/j=1 by omega) with rfl|rfl
  ·exact oz (fg.of g) (fG (j:=0) rfl rfl) (q _)
  ·exact oz (fg.of g) (fG (j:=1) rfl rfl) (q _)
 refine vw (λ_=>?_) λ_=>?_
 ·walk_at "x"
  refine ⟨bA (m:=2) (ax 2),λp hp=>?_⟩
  generalize eu_:upd H p (.lst [.int 0,.int (c/12%10^Int.toNat 30)])=H1
  obtain ⟨S1,g1⟩:=news eu_ hp
  walk_at "x"
  refine two g1 λy=>?_
  walk_at "x"
  exact k _ _ (.int _) S1
 walk_at "x"
 refine vw (λ_=>?_) λ_=>?_
 ·walk_at "x"
  refine ⟨bA (m:=2) (ax 2),λp hp=>?_⟩
  generalize eu_:upd H p (.lst [.int 0,.int (c/12%10^Int.toNat 30)])=H1
  obtain ⟨S1,g1⟩:=news eu_ hp
  walk_at "x"
  refine two g1 λy=>?_
  walk_at "x"
  exact k _ _ (.int _) S1
 walk_at "x"
 refine ⟨bA (m:=3) (ax 3),λp hp=>?_⟩
 generalize eu_:upd H p (.lst [.bl (decide (V.int (c/12%2)=V.int 0)),.non,.str "0"])=H1
 obtain ⟨S1,g1⟩:=news eu_ hp
 walk_at "x"
 obtain ⟨j,ej,hj⟩:=em (n:=3) (by omega) c
 have ej:c%3=(j:Int):=ej
 rw [ej]
 rcases (show j=0\/j=1\/j=2 by omega) with rfl|rfl|rfl
 ·exact oz (fg.of g1) (fG (j:=0) rfl rfl) (k _ _ (.bl _) S1)
 ·exact oz (fg.of g1) (fG (j:=1) rfl rfl) (k _ _ .non S1)
 ·exact oz (fg.of g1) (fG (j:=2) rfl rfl) (k _ _ (.str _) S1)
end K32
namespace K32
theorem Wn {t u:TS}{D:ug}{Z:L2.St}{H:Hp}(P:L2.St->Hp->Prop) (rest:∀ σ' H',P σ' H'->u D σ' H') (h:(∀ σ' H',P σ' H'->u D σ' H')->t { D with nx:=u D } Z H):bQ t u D Z H:=h rest
end K32
namespace K32
open Rm
variable {K:aa}{C:ag}{A:CA}{X:EC}{Pt:ag}
theorem aa4 {ta:TA}{Z:L2.St}{H:Hp}{R:It->Hp->Prop}(h:ta Z H λvs H1=>∃ i j:Int,vs=[.int i,.int j]/\(-(2^62)<=i/\i<2^62/\-(2^62)<=j/\j<2^62)/\R (XC i (j-i).toNat) H1):UB ta Z H R:=h
def ky (p:Int×Int):Int×Int:=(min p.1 p.2,max p.1 p.2)
structure Shp (n:Nat) (ps:List (Int×Int)):Prop where
 b:∀ p∈ps,0<=p.1/\p.1<n/\0<=p.2/\p.2<n/\p.1≠p.2
 nd:(ps.map ky).Nodup
 l:ps.length<=56
theorem Shp.perm {n:Nat}{ps qs:List (Int×Int)}(h:Shp n ps) (p:qs.Perm ps):Shp n qs:=⟨λq hq=>h.b q (p.mem_iff.mp hq),(p.map ky).nodup_iff.mpr h.nd,by rw [p.length_eq];exact h.l⟩
theorem Zx {p q:Int×Int}(h:ky p=ky q):(p.1=q.1/\p.2=q.2)\/(p.1=q.2/\p.2=q.1):=by
 unfold ky at h
 obtain ⟨h1,h2⟩:=dz h
 omega
theorem FX {n m:Nat}{p:Nat->Bool}{f:Nat->Int×Int}(hm:m<=56) (hb:∀ i,i<m->p i=true->0<=(f i).1/\(f i).1<n/\0<=(f i).2/\(f i).2<n/\(f i).1≠(f i).2)
  (hi:∀ i j,i<m->j<m->p i=true->p j=true->(((f i).1=(f j).1/\(f i).2=(f j).2)\/((f i).1=(f j).2/\(f i).2=(f j).1))->i=j):Shp n (((fM m).filter p).map f):=by
 refine ⟨λq hq=>?_,?_,?_⟩
 ·obtain ⟨i,h,rfl⟩:=bX.mp hq
  obtain ⟨h1,h2⟩:=fb.mp h
  exact hb i (nc.mp h1) h2
 ·rw [cW]
  refine mU.mpr (List.Pairwise.imp_of_mem (λ{i j} a b c e=>?_) ((Z0 (n:=m)).filter p))
  obtain ⟨a1,a2⟩:=fb.mp a
  obtain ⟨b1,b2⟩:=fb.mp b
  exact c (hi i j (nc.mp a1) (nc.mp b1) a2 b2 (Zx e))
 ·rw [aj]
  exact bE (eC _ _) (by rw [jN];exact hm)
section
variable {H:Hp}
theorem wV {σ0:L2.St}{g:TG}{tt:TT}{te:TE}{acc:ag}{R:Hp->Prop}{lo:Int}{m:Nat}(p:Nat->Bool) (f:Nat->Int×Int) (S:L2.St->Prop) (ha:H acc=none) (s0:S σ0) (hm:m<=1000)
  (turn:∀ (i:Nat) (σ':L2.St) (H':Hp) (G:V->L2.St->Hp->Prop) (G':L2.St->Hp->Prop),i<m->S σ'->(p i=true->∀ σ2 c,S σ2->H' c=none->G (.ref c) σ2 (upd H' c (.tup [.int (f i).1,.int (f i).2])))->(p i=false->∀ σ2,S σ2->G' σ2 H') ->
   g (.int (lo+i)) σ' H' λσ2 H3=>tt σ2 H3 λb H4=>if b=true then te σ2 H4 λy H5=>G y σ2 H5 else G' σ2 H4)
  (fin:∀ (zs:List Zt) H',cB H H'->H' acc=some (.lst (zs.map mY))->(∀ z∈zs,jh H' z)->zs.map zP=((fM m).filter p).map f->R H') :
  ∃ W:Nat->Nat->List V->L2.St->Hp->Prop,(∃ m,W 0 m [] σ0 (upd H acc (.lst [])))/\∀ i m' ys σ' H',W i m' ys σ' H'->H' acc=some (.lst ys) /\
  (((XC lo m).stop i H'/\R H')\/((XC lo m).go i H'/\∀ x H2,(XC lo m).QE i H' x H2->g x σ' H2 λσ2 H3=>tt σ2 H3 λb H4 =>
   if b=true then te σ2 H4 λy H5=>H5 acc=some (.lst ys)/\ys.length<bf/\∃ m'',m''<m'/\W (i+1) m'' (ys++[y]) σ2 (upd H5 acc (.lst (ys++[y]))) else ∃ m'',m''<m'/\W (i+1) m'' ys σ2 H4)):=by
 refine rJ (n:=m) (λi ys H'=>H' acc=some (.lst ys)/\cB H H'/\∃ zs:List Zt,ys=zs.map mY/\zs.map zP=((fM i).filter p).map f/\∀ z∈zs,jh H' z) S ⟨aM,cB.dG ha,[],rfl,rfl,λz hz=>nomatch hz⟩ s0 ?_ ?_ ?_ ?_
 ·rintro i ys H' ⟨e,_⟩;exact e
 ·rintro ys H' ⟨e,S',zs,rfl,hz,pz⟩
  exact ⟨ax _,fin zs H' S' e pz hz⟩
 ·rintro i ys H' hi _;exact hi
 ·rintro i ys σ' H' x H2 hi ⟨e,S',zs,rfl,hz,pz⟩ hσ ⟨rfl,rfl⟩
  have er:fM (i+1)=fM i++[i]:=List.range_succ
  have hzl:zs.length<=i:=by
   have:=congrArg fN hz
   rw [aj,aj] at this
   rw [this];exact bE (eC _ _) (by rw [jN];exact ax _)
  refine turn i σ' H2 _ _ hi hσ (λhp σ2 c h2 hc=>?_) λhp σ2 h2=>?_
  ·have S6:=cB.dG (o:=.tup [.int (f i).1,.int (f i).2]) hc
   have g6:(upd H2 c (.tup [.int (f i).1,.int (f i).2])) c=some (.tup [.int (f i).1,.int (f i).2]):=aM
   generalize upd H2 c (.tup [.int (f i).1,.int (f i).2])=H6 at S6 g6 ⊢
   have a6:=S6 _ _ e
   have tn:∀ {z:Zt}{ys:List V},jh H6 z->jh (upd H6 acc (.lst ys)) z:=λ{z ys} e=>(aJ (jG e a6)).trans e
   refine ⟨a6,iP (m:=1000) (by rw [aj];omega),oC.mk' hi h2 ⟨aM,λb' o' q=>by rw [aJ (aP q ha)];exact S6 _ _ (S' _ _ q),zs++[((f i).1,(f i).2,c)],by rw [br];rfl,?_,λz hz'=>?_⟩⟩
   ·rw [er,fP,br,br,hz];simp [hp];rfl
   ·rcases a7.mp hz' with hz'|hz'
    ·exact tn (S6 _ _ (pz z hz'))
    ·rw [aF.mp hz'];exact tn (z:=((f i).1,(f i).2,c)) g6
  ·refine oC.mk' hi h2 ⟨e,S',zs,rfl,?_,pz⟩
   rw [er,fP,br,hz];simp [hp]
end
def eG (K:aa) (C:ag):Sp:=λvs H Q _=>∃ (n:Nat) (c:Int),vs=[.int n,.int c]/\1<=n/\n<=24 /\
 ∀ (l:ag) (zs:List Zt) (H':Hp),cB H H'->H' l=some (.lst (zs.map mY))->(∀ z∈zs,jh H' z)->Shp n (zs.map zP)->Q (.ref l) H'
theorem FY:Ln (eG K C) 2:=by walk_at "l"
theorem FZ:Rn (eG K C) (qr K C) VX:=by
 rintro vs H Q E ⟨n,c,rfl,hn1,hn2,k⟩
 unfold qr
 walk_at "x"
 refine vw (λ_=>?_) λ_=>?_
 ·walk_at "x"
  refine ⟨by omega,by omega,λacc hacc=>?_⟩
  refine wV (λ_=>true) (λi=>((i:Int),(i:Int)+1)) (λZ=>∃ o,Z=[o]) hacc ⟨_,rfl⟩ (by omega) ?_ ?_
  ·rintro i σ' H' G G' hi ⟨o,rfl⟩ g1 g2
   walk_at "x"
   refine mX ?_
   walk_at "x"
   refine ⟨bA (m:=2) (ax 2),λq hq=>?_⟩
   rw [show (0:Int)+(i:Int)=i by omega]
   exact g1 rfl _ q ⟨_,rfl⟩ hq
  ·intro zs H' S' gl pz ez
   refine k acc zs H' S' gl pz ?_
   rw [ez]
   exact FX (by omega) (λi hi _=>by simp only;omega) λi j _ _ _ _ e=>by simp only at e;omega
 walk_at "x1"
 with_reducible refine Wn (λZ H1=>H1=H/\Z=[some (.int n),some (.int c),some (.int (c%6))]) ?_ λgo=>?_
 rotate_left
 ·walk_at "x"
  refine vw (λ_=>?_) λ_=>jf (go _ _ ⟨rfl,rfl⟩)
  walk_at "x"
  refine vw (λhn=>?_) λ_=>go _ _ ⟨rfl,rfl⟩
  walk_at "x"
  refine ⟨by omega,by omega,λacc hacc=>?_⟩
  refine wV (λ_=>true) (λi=>((i:Int),(i:Int)+1)) (λZ=>∃ o,Z=[o]) hacc ⟨_,rfl⟩ (by omega) ?_ ?_
  ·rintro i σ' H' G G' hi ⟨o,rfl⟩ g1 g2
   walk_at "x"
   refine mX ?_
   walk_at "x"
   refine ⟨bA (m:=2) (ax 2),λq hq=>?_⟩
   rw [show (0:Int)+(i:Int)=i by omega]
   exact g1 rfl _ q ⟨_,rfl⟩ hq
  ·intro zs H' S' gl pz ez
   walk_at "x"
   refine ⟨bA (m:=2) (ax 2),λq hq=>?_⟩
   generalize eu_:upd H' q (.tup [.int 0,.int ((n:Int)-1)])=H2
   obtain ⟨S2,g2⟩:=news eu_ hq
   walk_at "x"
   refine ⟨bA (m:=1) (ax 1),λr hr=>?_⟩
   generalize eu_:upd H2 r (.lst [.ref q])=H3
   obtain ⟨S3,g3⟩:=news eu_ hr
   have hzl:zs.length=n-1:=by
    have:=congrArg fN ez
    rw [aj,aj,Bc.mpr (λ_ _=>rfl),jN] at this
    omega
   refine U0 (S3 _ _ (S2 _ _ gl)) g3 (bA (m:=100) (by rw [aj];simp;omega)) λs hs=>?_
   have S4:=cB.dG (o:=.lst (zs.map mY++[.ref q])) hs
   refine k s (zs++[(0,(n:Int)-1,q)]) _ (((S'.trans S2).trans S3).trans S4) (by rw [aM,br];rfl) (λz hz=>?_) ?_
   ·rcases a7.mp hz with hz|hz
    ·exact S4 _ _ (S3 _ _ (S2 _ _ (pz z hz)))
    ·rw [aF.mp hz];exact S4 _ _ (S3 _ _ g2)
   ·have h0:Shp n (((fM ((n:Int)-1).toNat).filter λ_=>true).map λi:Nat=>((i:Int),(i:Int)+1)):=FX (by omega) (λi hi _=>by simp only;omega) λi j _ _ _ _ e=>by simp only at e;omega
    rw [br,ez]
    refine ⟨λp hp=>?_,?_,?_⟩
    ·rcases a7.mp hp with hp|hp
     ·exact h0.b p hp
     ·rw [aF.mp hp];show (0:Int)<=0/\(0:Int)<n/\0<=(n:Int)-1/\(n:Int)-1<n/\(0:Int)≠(n:Int)-1;omega
    ·rw [br,iW]
     refine ⟨h0.nd,by simp,λx hx y hy e=>?_⟩
     subst e
     rw [aF.mp hy] at hx
     obtain ⟨p,hp,e⟩:=bX.mp hx
     obtain ⟨i,hi,rfl⟩:=bX.mp hp
     have e:=Zx e
     have:i<((n:Int)-1).toNat:=nc.mp (fb.mp hi).1
     simp only [zP] at e
     omega
    ·rw [bN]
     have:=h0.l
     rw [aj,Bc.mpr (λ_ _=>rfl),jN] at this ⊢
     simp;omega
 rintro Z H1 ⟨rfl,rfl⟩
 walk_at "x"
 refine vw (λ_=>?_) λ_=>?_
 ·walk_at "x1"
  walk_at "x1"
  refine aa4 ?_
  walk_at "x"
  refine ⟨8,64,rfl,⟨by omega,by omega,by omega,by omega⟩,λacc hacc=>?_⟩
  refine wV (m:=56) (λi=>decide ((8+(i:Int))%8+(8+(i:Int))/8<if (8:Int)<(n:Int) then (8:Int) else (n:Int))) (λi=>((8+(i:Int))%8,(8+(i:Int))%8+(8+(i:Int))/8)) (λZ=>∃ o,Z=[o,some (.int n)]) hacc ⟨_,rfl⟩ (by omega) ?_ ?_
  ·rintro i σ' H' G G' hi ⟨o,rfl⟩ g1 g2
   walk_at "x"
   refine vw (λh=>?_) λh=>g2 (decide_eq_false h) _ ⟨_,rfl⟩
   walk_at "x"
   exact ⟨bA (m:=2) (ax 2),λq hq=>g1 (decide_eq_true h) _ q ⟨_,rfl⟩ hq⟩
  ·intro zs H' S' gl pz ez
   refine k acc zs H' S' gl pz ?_
   rw [ez]
   refine FX (by omega) (λi hi h=>?_) λi j _ _ h1 h2 e=>?_
   ·have h:=of_decide_eq_true h
    simp only
    split at h<;>omega
   ·simp only at e
    omega
 walk_at "x"
 refine vw (λ_=>?_) λ_=>?_
 ·obtain ⟨d,ed,hd⟩:=em (n:=n) hn1 (c/6)
  walk_at "x"
  refine ⟨by omega,by omega,λacc hacc=>?_⟩
  refine wV (λi=>!decide (V.int i=V.int d)) (λi=>((d:Int),(i:Int))) (λZ=>∃ o,Z=[o,some (.int n),some (.int c)]) hacc ⟨_,rfl⟩ (by omega) ?_ ?_
  ·rintro i σ' H' G G' hi ⟨o,rfl⟩ g1 g2
   walk_at "x"
   rw [ed,show (0:Int)+(i:Int)=i by omega]
   refine ifnd (λh=>?_) λh=>g2 (by rw [decide_eq_true h];rfl) _ ⟨_,rfl⟩
   walk_at "x"
   rw [ed]
   exact ⟨bA (m:=2) (ax 2),λq hq=>g1 (by rw [decide_eq_false h];rfl) _ q ⟨_,rfl⟩ hq⟩
  ·intro zs H' S' gl pz ez
   refine k acc zs H' S' gl pz ?_
   rw [ez]
   refine FX (by omega) (λi hi h=>?_) λi j _ _ h1 h2 e=>?_
   ·have h:¬ (V.int i=V.int d):=by simpa using h
    have:(i:Int)≠d:=λz=>h (by rw [z])
    simp only;omega
   ·simp only at e;omega
 walk_at "x"
 refine vw (λ_=>?_) λ_=>?_
 ·walk_at "x"
  refine ⟨by omega,by omega,λacc hacc=>?_⟩
  refine wV (λi=>decide ((i:Int)/2+1+(i:Int)%2<n)) (λi=>((i:Int)/2,(i:Int)/2+1+(i:Int)%2)) (λZ=>∃ o,Z=[o,some (.int n)]) hacc ⟨_,rfl⟩ (by omega) ?_ ?_
  ·rintro i σ' H' G G' hi ⟨o,rfl⟩ g1 g2
   walk_at "x"
   rw [show (0:Int)+(i:Int)=i by omega]
   refine vw (λh=>?_) λh=>g2 (decide_eq_false h) _ ⟨_,rfl⟩
   walk_at "x"
   exact ⟨bA (m:=2) (ax 2),λq hq=>g1 (decide_eq_true h) _ q ⟨_,rfl⟩ hq⟩
  ·intro zs H' S' gl pz ez
   refine k acc zs H' S' gl pz ?_
   rw [ez]
   refine FX (by omega) (λi hi h=>?_) λi j _ _ h1 h2 e=>?_
   ·have h:=of_decide_eq_true h
    simp only;omega
   ·simp only at e;omega
 walk_at "x"
 refine ⟨bA (m:=0) (ax 0),λl hl=>?_⟩
 exact k l [] _ (cB.dG hl) aM (λz hz=>nomatch hz) ⟨(λp hp=>nomatch hp),.nil,by decide⟩
def eF (K:aa) (C:ag):Sp:=λvs H Q _=>∃ (l:ag) (c:Int) (zs:List Zt),vs=[.ref l,.int c]/\H l=some (.lst (zs.map mY))/\zs.length<=100 /\
 ∀ (q:ag) (zs':List Zt) (H':Hp),cB H H'->H q=none->H' q=some (.lst (zs'.map mY))->zs'.Perm zs->Q (.ref q) H'
theorem F0:Ln (eF K C) 2:=by walk_at "l"
theorem F9:Rn (eF K C) (qt K C) VQ:=by
 rintro vs H Q E ⟨l,c,zs,rfl,hl,hz,k⟩
 unfold qt
 walk_at "x"
 refine JU (fg.of hl) ?_
 rw [aj]
 walk_at "x"
 refine vw (λh=>?_) λh=>?_
 ·walk_at "x"
  refine ⟨bA (m:=0) (ax 0),λq hq=>?_⟩
  have e:zs=[]:=iN (by have:=lU.mp h;omega)
  subst e
  exact k q [] _ (cB.dG hq) hq aM (.refl _)
 have hz0:0<zs.length:=Y6 λz=>h (by rw [z];rfl)
 obtain ⟨j,ej,hj⟩:=em hz0 c
 walk_at "x"
 rw [ej]
 refine EJ (fg.of hl) λq hq=>?_
 rw [MB rfl,← Ot]
 generalize eu_:upd H q (.lst ((zs.drop j).map mY))=H1
 obtain ⟨S1,g1⟩:=news eu_ hq
 walk_at "x"
 refine EJ (fg.of (S1 _ _ hl)) λr hr=>?_
 rw [JY rfl,← vG]
 generalize eu_:upd H1 r (.lst ((zs.take j).map mY))=H2
 obtain ⟨S2,g2⟩:=news eu_ hr
 refine U0 (S2 _ _ g1) g2 (bA (m:=1000) (by rw [aj,aj,dO,cf];omega)) λs hs=>?_
 rw [← br]
 have pm:(zs.drop j++zs.take j).Perm zs:=mx.trans (.of_eq (jA j zs))
 generalize eu_:upd H2 s (.lst ((zs.drop j++zs.take j).map mY))=H3
 obtain ⟨S3,g3⟩:=news eu_ hs
 have S03:=(S1.trans S2).trans S3
 walk_at "x"
 refine vw (λ_=>?_) λ_=>?_
 ·walk_at "x"
  refine aaM ?_
  walk_at "x"
  refine ⟨s,_,rfl,fg.of g3,λt ht=>?_⟩
  rw [← List.map_reverse]
  exact k t _ _ (S03.trans (cB.dG ht)) (S03.free ht) aM ((List.reverse_perm _).trans pm)
 ·walk_at "x"
  exact k s _ _ S03 ((S1.trans S2).free hs) g3 pm
end K32
namespace K32
open Rm
variable {K:aa}{C:ag}{A:CA}{X:EC}{Pt:ag}
section
variable {K:aa}{C:ag}{A:CA}{X:EC}{mg:aZ->Option ai}
def dj (K:aa) (C:ag) (A:CA) (X:EC):Sp:=λvs H Q _=>∃ (p dx:ag) (a:AL) (n T:Nat) (ts:List Ti) (as:Nat->List ag) (R:Nat->Nat->List Int) (v u:V),vs=[.ref p,.int n,v,u]/\zb K C A/\KP C A H p dx a n T ts as R/\Th v/\Th u/\(jT n v && jT n u)=false/\∀ H',cB H H'->Q (.bl true) H'
theorem DB:Ln (dj K C A X) 4:=by walk_at "l"
theorem DC:Rn (dj K C A X) (oS K C A (aR K C A X) (bB K C)) VN:=by
 rintro vs H Q E ⟨p,dx,a,n,T,ts,as,R,v,u,rfl,ct,h,hv,hu,hpl,k⟩
 have dw:II X X.dI "place":=.inl ⟨rfl,rfl⟩
 unfold oS
 walk_at "x1"
 unfold ur
 walk_at "x"
 refine ⟨bA (m:=4) (ax 4),λl hl=>?_⟩
 generalize eu_:upd H l (.lst [.str "put",.str "out",.str "joined",.str "way"])=H1
 obtain ⟨S1,g1⟩:=news eu_ hl
 have due:∀ (i:Nat) (x:V),([.str "put",.str "out",.str "joined",.str "way"]:List V)[i]?=some x->∃ w:aZ,x=V.str w/\Due X n (kl ts) w v u X.dI:=λi x e=>by
  match i,e with
  | 0,e=>exact ⟨_,(aX e).symm,.put (.inl ⟨rfl,hv,hu,hpl⟩)⟩
  | 1,e=>exact ⟨_,(aX e).symm,.out (.inl ⟨rfl,hv,hu,hpl⟩)⟩
  | 2,e=>exact ⟨_,(aX e).symm,.two (.inl rfl) hv hu hpl⟩
  | 3,e=>exact ⟨_,(aX e).symm,.two (.inr rfl) hv hu hpl⟩
 refine ⟨l,rfl,.inl ⟨⟨_,fg.of g1⟩,oK (K:=K) (a:=l) (xs:=[.str "put",.str "out",.str "joined",.str "way"]) (λi Z H2=>cB H1 H2/\∃ o,Z=[some (.ref p),some (.int n),some v,some u,o,none]) ⟨λ_ _ e=>e,_,rfl⟩ ?_ ?_ ?_⟩⟩
 ·rintro i Z H2 _ ⟨S2,_⟩;exact fg.of (S2 _ _ g1)
 ·rintro i x Z H2 hx ⟨S2,o,rfl⟩
  obtain ⟨w,rfl,d⟩:=due i x hx
  walk_at "x"
  refine ⟨p,dx,a,n,T,ts,as,R,w,"place",v,u,X.dI,rfl,ct,h.same (S1.trans S2),d,dw,λH3 S3=>⟨true,rfl,jf ?_⟩⟩
  walk_at "x"
  exact ⟨S2.trans S3,_,rfl⟩
 rintro Z H2 ⟨S2,o,rfl⟩
 have S02:=S1.trans S2
 walk_at "x1"
 unfold uu
 walk_at "x"
 refine ⟨bA (m:=2) (ax 2),λr hr=>?_⟩
 generalize eu_:upd H2 r (.lst [v,u])=H3
 obtain ⟨S3,g3⟩:=news eu_ hr
 have S03:=S02.trans S3
 refine ⟨r,rfl,.inl ⟨⟨_,fg.of g3⟩,oK (K:=K) (a:=r) (xs:=[v,u]) (λi Z H4=>cB H3 H4/\∃ o',Z=[some (.ref p),some (.int n),some v,some u,o,o']) ⟨λ_ _ e=>e,_,rfl⟩ ?_ ?_ ?_⟩⟩
 ·rintro i Z H4 _ ⟨S4,_⟩;exact fg.of (S4 _ _ g3)
 ·rintro i x Z H4 hx ⟨S4,o',rfl⟩
  have tx:Th x:=by
   match i,hx with
   | 0,e=>cases e;exact hv
   | 1,e=>cases e;exact hu
  walk_at "x"
  refine ⟨n,x,rfl,tx,?_⟩
  refine ⟨jT n x,rfl,?_⟩
  cases hpx:jT n x with
  | true =>
   refine jf (jf ?_)
   walk_at "x"
   exact ⟨S4,_,rfl⟩
  | false =>
   refine mX ?_
   walk_at "x"
   refine ⟨p,dx,a,n,T,ts,as,R,"side","place",x,.int 0,X.dI,rfl,ct,h.same (S03.trans S4),.one tx hpx,dw,λH5 S5=>⟨true,rfl,jf ?_⟩⟩
   walk_at "x"
   exact ⟨S4.trans S5,_,rfl⟩
 rintro Z H4 ⟨S4,o',rfl⟩
 walk_at "x"
 exact k _ (S03.trans S4)
theorem Js {L:List (Int×Int)}{k:Int×Int}(nd:L.Nodup) (hk:k∈L):(L.filter λq=>decide (q≠k)).length+1=L.length:=by
 have e:L.erase k=L.filter λq=>decide (q≠k):=by
  rw [nd.erase_eq_filter]
  exact Za λq _=>by by_cases c:q=k<;>simp [c]
 rw [← e,vI hk]
 have:=xU hk
 omega
theorem Wo {H:Hp}:∀ {us:List (Ti×ag)}{ys:List V},ys.length=us.length->(∀ (i:Nat) (y:V),ys[i]?=some y->∃ (c:ag) (u:Ti×ag),us[i]?=some u/\y=V.ref c/\H c=some (.tup [.int u.1.x,.int u.1.y]))->∃ zs:List Zt,ys=zs.map mY/\zs.map zP=us.map (λu=>u.1.key)/\∀ z∈zs,jh H z
 | [],[],_,_=>⟨[],rfl,rfl,λz hz=>nomatch hz⟩
 | u::us,y::ys,hl,h=>by
  obtain ⟨c,u',e,rfl,hc⟩:=h 0 y rfl
  cases e
  obtain ⟨zs,rfl,e2,pz⟩:=Wo (us:=us) (ys:=ys) (by simpa using hl) λi y e=>h (i+1) y (by simpa using e)
  refine ⟨((u.1.x:Int),(u.1.y:Int),c)::zs,rfl,by rw [cn,cn,e2];rfl,λz hz=>?_⟩
  rcases ay.mp hz with rfl|hz
  ·exact hc
  ·exact pz z hz
 | [],_::_,hl,_=>nomatch hl
 | _::_,[],hl,_=>nomatch hl
end
end K32
namespace K32
open Rm
variable {K:aa}{C:ag}{A:CA}{X:EC}{Pt:ag}
section
variable {K:aa}{C:ag}{A:CA}{X:EC}{H H':Hp}{a:AL}{n T:Nat}{ts:List Ti}{as:Nat->List ag}{R:Nat->Nat->List Int}{p dx Pt:ag}
theorem KP.lt1 (h:KP C A H p dx a n T ts as R) (hP:ud Pt H) (F:Fm (p::fp a) H H'):ud Pt H' :=
 hP.keep λb o h1 h2 h3 _ e=>F b o (λz=>by
  rcases ay.mp z with rfl|z
  ·obtain ⟨fs,hp⟩:=h.p0
   rw [hp] at e;cases e;exact h3 _ _ _ rfl
  ·exact h.lv.out e h1 (λ_ _=>h2 _) z) e
theorem KP.seq (h:KP C A H p dx a n T ts as R) (hP:ud Pt H) {s:ag}{ns:List Int}(hS:fg K H s (ns.map V.int)) (F:Fm (p::Pt::fp a) H H'):fg K H' s (ns.map V.int):=by
 obtain ⟨fs,hp⟩:=h.p0
 have key:∀ {o:HO},H s=some o->(∀ x y z,o≠.ins x y z)->(∀ ps,o≠.tbl ps)->s∉fp a->H' s=some o:=λ{o} e h1 h2 h3=>F _ _ (λz=>by
  rcases ay.mp z with rfl|z
  ·rw [hp] at e;cases e;exact h1 _ _ _ rfl
  ·rcases ay.mp z with z|z
   ·exact hP.ne e h2 z
   ·exact h3 z) e
 rcases hS with (e|⟨o,e⟩)|e
 ·exact .inl (.inl (key e (λ_ _ _ z=>nomatch z) (λ_ z=>nomatch z) (h.lv.YF e)))
 ·exact .inl (.inr ⟨o,key e (λ_ _ _ z=>nomatch z) (λ_ z=>nomatch z) (h.lv.out e (λ_ z=>nomatch z) (λ_ _ z=>nomatch z))⟩)
 ·exact .inr e
theorem D9 {H H':Hp}(F:Fm (p::fp a) H H'):Fm (p::Pt::fp a) H H':=F.mono λb hb=>by
 rcases ay.mp hb with q|q
 ·exact q▸aw
 ·exact ah _ (ah _ q)
theorem aa5 (L:List (Int×Int)) (q:Int×Int):((L.map GV).any λe=>fh e (GV q))=decide (q∈L):=by
 rw [RU,jH,G5,decide_eq_true_iff]
 constructor
 ·rintro ⟨t,ht,e⟩
  have e:fh (GV t) (GV q)=true:=e
  rw [Fy,decide_eq_true_iff] at e
  exact e▸ht
 ·exact λh=>⟨q,h,by show fh (GV q) (GV q)=true;rw [Fy];simp⟩
theorem Rw {x y:Nat}(nd:(ts.map Ti.key).Nodup) (hk:((x:Int),(y:Int))∈ts.map Ti.key):(mC (kl ts) (pk x y)).isSome=true:=by
 obtain ⟨u,hu,eu⟩:=bX.mp hk
 obtain ⟨e1,e2⟩:=dz eu
 rw [show x=u.x by omega,show y=u.y by omega,jE (f:=λt=>V.int t.dH) nd hu];rfl
theorem Ry {x y:Nat}(hk:((x:Int),(y:Int))∉ts.map Ti.key):(mC (kl ts) (pk x y)).isSome=false:=by
 rw [KD (f:=λt=>V.int t.dH) hk];rfl
end
section
variable {K:aa}{C:ag}{A:CA}{X:EC}{Pt:ag}
def eI (K:aa) (C:ag) (A:CA) (X:EC) (Pt:ag):Sp:=λvs H Q _=>∃ (p dx:ag) (a:AL) (n T:Nat) (ts:List Ti) (as:Nat->List ag) (R:Nat->Nat->List Int) (x y:Nat),vs=[.ref p,.int x,.int y]/\zb K C A/\KP C A H p dx a n T ts as R/\n<=24/\x<n/\y<n/\x≠y/\ts.length<63/\ud Pt H /\
 ∀ ts' as' R' H',KP C A H' p dx a n T ts' as' R'->ts'.length=ts.length->ud Pt H'->Fm (p::Pt::fp a) H H'->Q (.bl true) H'
theorem Ga:Ln (eI K C A X Pt) 3:=by walk_at "l"
theorem Gb:Rn (eI K C A X Pt) (qx K C A (cw K C A) (iZ K C A Pt) (aR K C A X) (bo K C A)) VR:=by
 rintro vs H Q E ⟨p,dx,a,n,T,ts,as,R,x,y,rfl,ct,h,hn,hx,hy,hxy,hl,hP,k⟩
 have dT:II X X.rm "tied":=.inr (.inr (.inl ⟨rfl,rfl⟩))
 have dN:II X X.kQ "tie":=.inr (.inr (.inr (.inl ⟨rfl,rfl⟩)))
 have cm:(((min y x:Nat):Int),((max y x:Nat):Int))=(((min x y:Nat):Int),((max x y:Nat):Int)):=by rw [Nat.min_comm,Nat.max_comm]
 unfold qx
 walk_at "x"
 rw [show (if (y:Int)<x then (y:Int) else x)=((min x y:Nat):Int) by split<;>omega,show (if (y:Int)>x then (y:Int) else x)=((max x y:Nat):Int) by split<;>omega]
 refine ⟨bA (m:=2) (ax 2),λt ht=>?_⟩
 generalize eu_:upd H t (.tup [.int (min x y:Nat),.int (max x y:Nat)])=H1
 obtain ⟨S1,g1⟩:=news eu_ ht
 walk_at "m"
 obtain ⟨w,c1,c2,c3,c4,hw,hp⟩:=h.ob
 refine ⟨p,dx,_,rfl,S1 _ _ hp,BK,?_⟩
 walk_at "x"
 refine ⟨p,dx,a,n,T,ts,as,R,rfl,ct,h.same S1,by omega,λq us H2 hq gq fl pm so S2=>?_⟩
 refine ⟨_,rfl,.inl ⟨⟨_,fg.of gq⟩,?_⟩⟩
 intro acc hacc
 have hul:us.length=ts.length:=by have:=pm.length_eq;rwa [aj] at this
 refine MD (λi v H'=>∃ (c:ag) (u:Ti×ag),us[i]?=some u/\v=V.ref c/\H' c=some (.tup [.int u.1.x,.int u.1.y])) (λZ=>∃ o,Z=[o]) (fg.of gq) hacc ⟨_,rfl⟩ (by rw [aj];omega) ?_ ?_ ?_
 ·rintro i v G1 G2 ws ga B ⟨c,u,e1,e2,e3⟩
  exact ⟨c,u,e1,e2,B _ _ e3 (jG e3 ga)⟩
 ·rintro i v σ' G1 G hi hv SG ⟨o,rfl⟩ done
  rw [aG] at hv
  obtain ⟨u,hu,rfl⟩:=bV.mp hv
  have r4:=SG _ _ (fl u (a9 hu))
  walk_at "x"
  refine qQ (sG.of r4) (v:=.int u.1.x) rfl ?_
  walk_at "x"
  refine qQ (sG.of r4) (v:=.int u.1.y) rfl ?_
  walk_at "x"
  exact ⟨bA (m:=2) (ax 2),λc hc=>done _ _ _ ⟨_,rfl⟩ (cB.dG hc) ⟨c,u,hu,rfl,aM⟩⟩
 intro ys H3 hly g3 S3 hE
 obtain ⟨zs,rfl,ez,pz⟩:=Wo (by rw [hly,aj]) hE
 have S03:=(S1.trans S2).trans S3
 have mem:(((min x y:Nat):Int),((max x y:Nat):Int))∈zs.map zP↔(((min x y:Nat):Int),((max x y:Nat):Int))∈ts.map Ti.key:=by
  rw [ez,show (us.map λu=>u.1.key)=(us.map (·.1)).map Ti.key by rw [cW];rfl]
  exact (pm.map Ti.key).mem_iff
 have nd:=h.iv.nd
 walk_at "x"
 refine Zp (Pn (S3 _ _ (S2 _ _ g1))) (Pl g3 pz) (Ks _) (jo _ (Al _)) ?_
 rw [aa5]
 refine ⟨_,rfl,vw (λhk=>?_) λhk=>?_⟩
 ·have hk:=mem.mp hk
  walk_at "x"
  refine ⟨p,dx,a,n,T,ts,as,R,"put","tied",.int x,.int y,X.rm,rfl,ct,h.same S03,.put (.inr (.inr ⟨x,y,rfl,rfl,hx,hy,hxy,Rw nd hk,rfl⟩)),dT,λH4 S4=>⟨true,rfl,jf ?_⟩⟩
  have S04:=S03.trans S4
  walk_at "m"
  refine ⟨p,dx,_,rfl,S04 _ _ hp,BK,?_⟩
  walk_at "x"
  refine ⟨p,dx,a,n,T,ts,as,R,y,x,rfl,ct,h.same S04,by omega,hy,hx,Ne.symm hxy,by rw [cm];exact hk,by omega,hP.same S04,λq2 xs ts2 as2 R2 H5 gq2 k5 e5 P5 F5=>?_⟩
  rw [cm] at e5
  have nk:(((min x y:Nat):Int),((max x y:Nat):Int))∉ts2.map Ti.key:=by rw [e5];exact λz=>by simp at z
  have l5:ts2.length+1=ts.length:=by
   have:=Js nd hk
   rw [← e5,aj,aj] at this;exact this
  walk_at "x"
  refine ⟨p,dx,a,n,T,ts2,as2,R2,"out","tie",.int x,.int y,X.kQ,rfl,ct,k5,.out (.inr (.inr ⟨x,y,rfl,rfl,hx,hy,hxy,Ry nk,rfl⟩)),dN,λH6 S6=>⟨true,rfl,mX ?_⟩⟩
  walk_at "m"
  have k6:=k5.same S6
  obtain ⟨w6,c61,c62,c63,c64,_,hp6⟩:=k6.ob
  refine ⟨p,dx,_,rfl,hp6,BK,?_⟩
  walk_at "x"
  refine ⟨p,dx,a,n,T,ts2,as2,R2,x,y,rfl,ct,k6,by omega,hx,hy,hxy,nk,by omega,λb ts3 as3 R3 H7 k7 e7 F7=>?_⟩
  walk_at "x"
  refine sT (.bl b) ON ?_
  refine k ts3 as3 R3 H7 k7 ?_ (k6.lt1 (P5.same S6) F7) ((((Fm.of S04).trans F5).trans (Fm.of S6)).trans (D9 F7))
  have:=congrArg fN e7
  rw [aj,bN,aj] at this
  simp at this;omega
 ·have hk:=λz=>hk (mem.mpr z)
  walk_at "x"
  refine ⟨p,dx,a,n,T,ts,as,R,"out","tie",.int x,.int y,X.kQ,rfl,ct,h.same S03,.out (.inr (.inr ⟨x,y,rfl,rfl,hx,hy,hxy,Ry hk,rfl⟩)),dN,λH4 S4=>⟨true,rfl,jf ?_⟩⟩
  have S04:=S03.trans S4
  walk_at "m"
  refine ⟨p,dx,_,rfl,S04 _ _ hp,BK,?_⟩
  walk_at "x"
  refine ⟨p,dx,a,n,T,ts,as,R,y,x,rfl,ct,h.same S04,by omega,hy,hx,Ne.symm hxy,by rw [cm];exact hk,by omega,λb ts2 as2 R2 H5 k5 e5 F5=>?_⟩
  rw [cm] at e5
  have ik:(((min x y:Nat):Int),((max x y:Nat):Int))∈ts2.map Ti.key:=by rw [e5];exact bp _ aw
  have l5:ts2.length=ts.length+1:=by
   have:=congrArg fN e5
   rw [aj,bN,aj] at this;exact this
  have P5:=(h.same S04).lt1 (hP.same S04) F5
  walk_at "x"
  refine ⟨p,dx,a,n,T,ts2,as2,R2,"put","tied",.int x,.int y,X.rm,rfl,ct,k5,.put (.inr (.inr ⟨x,y,rfl,rfl,hx,hy,hxy,Rw k5.iv.nd ik,rfl⟩)),dT,λH6 S6=>⟨true,rfl,mX ?_⟩⟩
  walk_at "m"
  have k6:=k5.same S6
  obtain ⟨w6,c61,c62,c63,c64,_,hp6⟩:=k6.ob
  refine ⟨p,dx,_,rfl,hp6,BK,?_⟩
  walk_at "x"
  refine ⟨p,dx,a,n,T,ts2,as2,R2,x,y,rfl,ct,k6,by omega,hx,hy,hxy,ik,by omega,P5.same S6,λq2 xs ts3 as3 R3 H7 gq2 k7 e7 P7 F7=>?_⟩
  walk_at "x"
  refine sT (.lst gq2) aaF ?_
  refine k ts3 as3 R3 H7 k7 ?_ P7 ((((Fm.of S04).trans (D9 F5)).trans (Fm.of S6)).trans F7)
  have:=Js k5.iv.nd ik
  rw [← e7,aj,aj] at this
  omega
end
end K32
namespace K32
open Rm
variable {K:aa}{C:ag}{A:CA}{X:EC}{Pt:ag}
theorem KO (S:List Int):zO (.list (S.map Uo)):=⟨by simp only [mW];exact jo _ (yP S),by have:=EK S;simp only [pY];omega⟩
section
variable {K:aa}{C:ag}{A:CA}{X:EC}{Pt:ag}{mg:aZ->Option ai}
def ee (K:aa) (C:ag) (A:CA) (X:EC):Sp:=λvs H Q _=>∃ (l:ag) (ns:List Int),vs=[.ref l]/\H l=some (.lst (ns.map V.int))/\zb K C A/\∀ H',Q (.bl true) H'
theorem DD:Ln (ee K C A X) 1:=by walk_at "l"
theorem DE:Rn (ee K C A X) (oU K C A (d9 K C A X) (bo K C A) (bJ K C A)) VS:=by
 rintro vs H Q E ⟨l,ns,rfl,hl,ct,k⟩
 have p30:(0:Int)<10^(30:Int).toNat:=by decide
 unfold oU
 walk_at "x1"
 unfold uv
 walk_at "x"
 refine .inl ⟨⟨_,fg.of hl⟩,oK (K:=K) (a:=l) (xs:=ns.map V.int) (λi Z H1=>cB H H1/\∃ o1 o2 o3,Z=[some (.ref l),o1,o2,o3]) ⟨λ_ _ e=>e,_,_,_,rfl⟩ ?_ ?_ ?_⟩
 ·rintro i Z H1 _ ⟨S1,_⟩;exact fg.of (S1 _ _ hl)
 ·rintro i v Z H1 hv ⟨S1,o1,o2,o3,rfl⟩
  rw [aG] at hv
  obtain ⟨c,hc,rfl⟩:=bV.mp hv
  walk_at "x"
  have r30:=Int.emod_nonneg (c/7) (b:=10^(30:Int).toNat) (by omega)
  refine ⟨bA (m:=7) (ax 7),λq hq=>?_⟩
  generalize hL:([.int 0,.int 201,.int (-1-c/7%10^(30:Int).toNat),.int (201+c/7%10^(30:Int).toNat),.bl (decide (V.int (c/7%2)=V.int 0)),.non,.str "5"]:List V)=L
  generalize eu_:upd H1 q (.lst L)=H2
  obtain ⟨S2,g2⟩:=news eu_ hq
  obtain ⟨j,ej,hj⟩:=em (n:=7) (by omega) c
  have ej:c%7=(j:Int):=ej
  obtain ⟨x,hx,tx,nx⟩:∃ x,L[j]?=some x/\Th x/\Nl x=false:=by
   subst hL
   rcases (show j=0\/j=1\/j=2\/j=3\/j=4\/j=5\/j=6 by omega) with rfl|rfl|rfl|rfl|rfl|rfl|rfl
   ·exact ⟨_,rfl,.int _,rfl⟩
   ·exact ⟨_,rfl,.int _,rfl⟩
   ·refine ⟨_,rfl,.int _,?_⟩
    show (decide (1<=_) && decide (_<=200))=false
    rw [decide_eq_false (by omega),kJ]
   ·refine ⟨_,rfl,.int _,?_⟩
    show (decide (1<=_) && decide (_<=200))=false
    rw [Bool.and_eq_false_iff];right
    exact decide_eq_false (by omega)
   ·exact ⟨_,rfl,.bl _,rfl⟩
   ·exact ⟨_,rfl,.non,rfl⟩
   ·exact ⟨_,rfl,.str _,rfl⟩
  walk_at "x"
  refine oz (fg.of g2) (fG (j:=j) ej hx) ?_
  walk_at "x"
  refine ⟨x,rfl,tx,nx,λH3 S3=>⟨true,rfl,jf ?_⟩⟩
  obtain ⟨m,em',hm⟩:=em (n:=200) (by omega) (c/7)
  have em':c/7%200=(m:Int):=em'
  walk_at "x"
  refine tR ?_
  refine KH ?_
  walk_at "x"
  rw [em',show (1:Int)+(m:Int)=((m+1:Nat):Int) by omega]
  intro p dx hp hdx _
  have T0:cB H3 (upd (upd H3 dx (.own p)) p (.ins A.Keeper dx [])):=λb o e=>by rw [aJ (aP e hp),aJ (aP e hdx)];exact e
  refine ⟨p,dx,m+1,rfl,aM,ct,by omega,by omega,λa T as H4 k4 B4 fr4=>⟨rfl,?_⟩⟩
  have S4:cB H3 H4:=λb o e=>B4 _ _ (T0 _ _ e) (aP e hp)
  obtain ⟨w,c1,c2,c3,c4,_,hp4⟩:=k4.ob
  refine ⟨p,dx,_,rfl,hp4,BK,?_⟩
  walk_at "x"
  refine ⟨p,dx,a,_,T,[],as,_,rfl,ct,k4,by decide,λr us H5 hr gr fl pm so S5=>?_⟩
  have eu:us=[]:=by
   have:=pm.length_eq
   rw [aj] at this
   exact iN this
  subst eu
  walk_at "x"
  refine ⟨bA (m:=0) (ax 0),λz hz=>?_⟩
  have S6:=cB.dG (o:=.lst []) hz
  have g6:(upd H5 z (.lst [])) z=some (.lst (([]:List Int).map V.int)):=aM
  generalize upd H5 z (.lst [])=H6 at S6 g6
  have gr6:H6 r=some (.lst (([]:List Int).map V.int)):=S6 _ _ gr
  refine Zo (EL (fg.of gr6)) (EL (fg.of g6)) (KO _) (KO _) ?_
  rw [LW _ (KO []).lay]
  refine ⟨_,rfl,jf ?_⟩
  walk_at "x"
  exact ⟨((((S1.trans S2).trans S3).trans S4).trans S5).trans S6,_,_,_,rfl⟩
 rintro Z H1 ⟨_,o1,o2,o3,rfl⟩
 walk_at "x"
 exact k _
end
end K32
namespace K32
open Rm
def PF (t:Ti):PyData:=.tuple [.int t.x,.int t.y,.int t.dH,.bool t.wd]
theorem Rz {K:aa}{H:Hp}:∀ {us:List (Ti×ag)},(∀ u∈us,CM H u)->gn K H ((us.map (·.1)).map PF) (us.map PD)
 | [],_=>.nil
 | u::us,h=>.cons (.tup (.of (h u aw)) (.cons (.int _) (.cons (.int _) (.cons (.int _) (.cons (by simp only [Rep]) .nil))))) (Rz λy hy=>h y (ah _ hy))
theorem Jt:∀ L:List Ti,eP (L.map PF)=true
 | []=>rfl
 | t::ts=>by simp only [cn,eP,dP];exact ⟨by simp [PF,mW,eP],Jt ts⟩
theorem Ju:∀ L:List Ti,fJ (L.map PF)<=2
 | []=>by simp [fJ]
 | t::ts=>by
  have:=Ju ts
  simp only [cn,fJ]
  have e:(PF t).depth<=2:=by simp [PF,pY,fJ]
  omega
def Yw (L:List Ti) (c1 c2 c3 c4 c5:Int):PyData:=.tuple [.list (L.map PF),.tuple [.int c1,.int c2,.int c3,.int c4,.int c5]]
theorem Gc (L:List Ti) (c1 c2 c3 c4 c5:Int):zO (Yw L c1 c2 c3 c4 c5):=⟨by simp [Yw,mW,eP,Jt],by have:=Ju L;simp only [Yw,pY,fJ];omega⟩
theorem RA {K:aa}{H:Hp}{t q r:ag}{us:List (Ti×ag)}{c1 c2 c3 c4 c5:Int}(ht:H t=some (.tup [.ref q,.ref r])) (hq:H q=some (.lst (us.map PD))) (fl:∀ u∈us,CM H u) (hr:H r=some (.tup [.int c1,.int c2,.int c3,.int c4,.int c5])):Rep K H (Yw (us.map (·.1)) c1 c2 c3 c4 c5) (.ref t) :=
 .tup (.of ht) (.cons (.lst (fg.of hq) (Rz fl)) (.cons (.tup (.of hr) (.cons (.int _) (.cons (.int _) (.cons (.int _) (.cons (.int _) (.cons (.int _) .nil)))))) .nil))
section
variable {K:aa}{C:ag}{A:CA}{X:EC}{H H':Hp}{a:AL}{n T:Nat}{ts:List Ti}{as:Nat->List ag}{R:Nat->Nat->List Int}{p dx Pt:ag}
theorem KP.tup (h:KP C A H p dx a n T ts as R) (hP:ud Pt H) {b:ag}{xs:List V}(e:H b=some (.tup xs)) (F:Fm (p::Pt::fp a) H H'):H' b=some (.tup xs):=F _ _ (λz=>by
 rcases ay.mp z with rfl|z
 ·obtain ⟨fs,hp⟩:=h.p0
  rw [hp] at e;cases e
 ·rcases ay.mp z with z|z
  ·exact hP.ne e (λ_ z=>nomatch z) z
  ·exact h.lv.AW e z) e
end
end K32
namespace K32
open Rm
section
variable {K:aa}{C:ag}{A:CA}{X:EC}{Pt:ag}
theorem acz {s1 s2 s4 s7 s8 s9 s10 s11 s12 s13:Sp}{D:ug}{H:Hp}{S p dx:ag}{a:AL}{n T:Nat}{as:Nat->List ag}{R:Nat->Nat->List Int}{ns:List Int}{z:Int}(ct:zb K C A) (hn1:1<=n) (hn:n<=24) (h:KP C A H p dx a n T [] as R) (hP:ud Pt H) (hS:fg K H S (ns.map V.int))
  (fin:∀ ts as R H' o4 o5,KP C A H' p dx a n T ts as R->ts.length<=56->ud Pt H'->fg K H' S (ns.map V.int)->D.nx [some (.ref S),some (.int n),some (.ref p),some (.int z),o4,o5,none,none,none,none] H') :
  Fk K C A s1 s2 (eF K C) s4 (eG K C) (cw K C A) s7 s8 s9 s10 s11 s12 s13 D [some (.ref S),some (.int n),some (.ref p),some (.int z),none,none,none,none,none,none] H:=by
 unfold Fk
 walk_at "x"
 refine ⟨n,z,rfl,hn1,hn,λl0 zs0 H1 S1 g1 pz1 shp=>?_⟩
 walk_at "x"
 refine ⟨l0,z/36,zs0,rfl,g1,by have:=shp.l;rw [aj] at this;omega,λl zs H2 S2 hl0 g2 pm=>?_⟩
 have shp2:Shp n (zs.map zP):=shp.perm (pm.map zP)
 have S02:=S1.trans S2
 have nl:l∉fp a:=(h.same S1).lv.LB hl0
 refine ⟨l,rfl,.inl ⟨⟨_,fg.of g2⟩,oK (K:=K) (a:=l) (xs:=zs.map mY) (λi Z H3=>∃ ts as R o4 o5,Z=[some (.ref S),some (.int n),some (.ref p),some (.int z),o4,o5,none,none,none,none]/\KP C A H3 p dx a n T ts as R/\ts.map Ti.key=((zs.map zP).take i).map ky/\ud Pt H3/\fg K H3 S (ns.map V.int)/\H3 l=some (.lst (zs.map mY))/\∀ z∈zs,jh H3 z) ⟨[],as,R,_,_,rfl,h.same S02,rfl,hP.same S02,S02.seq hS,g2,λz hz=>S2 _ _ (pz1 z (pm.mem_iff.mp hz))⟩ ?_ ?_ ?_⟩⟩
 ·rintro i Z H3 _ ⟨ts,as,R,o4,o5,_,_,_,_,_,l3,_⟩;exact fg.of l3
 ·rintro i v Z H3 hi ⟨ts,as,R,o4,o5,rfl,k3,ek,P3,q3,l3,z3⟩
  rw [aG] at hi
  obtain ⟨w,hwi,rfl⟩:=bV.mp hi
  have hwm:=a9 hwi
  obtain ⟨b1,b2,b3,b4,b5⟩:=shp2.b (zP w) (bR hwm)
  obtain ⟨w1,w2,wa⟩:=w
  simp only [zP] at b1 b2 b3 b4 b5
  obtain ⟨x,rfl⟩:∃ x:Nat,w1=x:=⟨w1.toNat,by omega⟩
  obtain ⟨y,rfl⟩:∃ y:Nat,w2=y:=⟨w2.toNat,by omega⟩
  have eky:ky (zP ((x:Int),(y:Int),wa))=(((min x y:Nat):Int),((max x y:Nat):Int)):=Prod.ext (by show min (x:Int) y=_;omega) (by show max (x:Int) y=_;omega)
  have gi:(zs.map zP)[i]?=some (zP ((x:Int),(y:Int),wa)):=by rw [aG,hwi];rfl
  have hil:=(aC.mp gi).1
  have tl:ts.length=i:=by
   have:=congrArg fN ek
   rw [aj,aj,cf] at this;omega
  have hi56:i<56:=by have:=shp2.l;omega
  have et:(zs.map zP).take (i+1)=(zs.map zP).take i++[zP ((x:Int),(y:Int),wa)]:=by rw [jK,gi];rfl
  have nk:(((min x y:Nat):Int),((max x y:Nat):Int))∉ts.map Ti.key:=by
   rw [ek,← eky]
   have nd:=shp2.nd.sublist ((YU (i+1) (zs.map zP)).map ky)
   rw [et,br,iW] at nd
   exact λm=>nd.2.2 _ m _ aw rfl
  obtain ⟨wo,c1,c2,c3,c4,_,hp⟩:=k3.ob
  refine JV (.of (z3 _ hwm)) rfl ?_
  walk_at "m"
  refine ⟨p,dx,_,rfl,hp,BK,?_⟩
  walk_at "x"
  refine ⟨p,dx,a,n,T,ts,as,R,x,y,rfl,ct,k3,by omega,by omega,by omega,by omega,nk,by omega,λb ts4 as4 R4 H4 k4 e4 F4=>?_⟩
  refine ⟨ts4,as4,R4,_,_,rfl,k4,by rw [e4,ek,et,br,← eky];rfl,k3.lt1 P3 F4,k3.seq P3 q3 (D9 F4),F4 _ _ (λm=>?_) l3,λv hv=>k3.tup P3 (z3 v hv) (D9 F4)⟩
  rcases ay.mp m with m|m
  ·rw [← m,l3] at hp;cases hp
  ·exact nl m
 ·rintro Z H3 ⟨ts,as,R,o4,o5,rfl,k3,ek,P3,q3,_,_⟩
  refine fin ts as R H3 o4 o5 k3 ?_ P3 q3
  have:=congrArg fN ek
  rw [aj,aj,cf] at this
  have:=shp2.l
  omega
theorem tst {Z:L2.St}{H:Hp}{QT:Bool->Hp->Prop}{n:Nat}{v u:V}(h1:Z[1]?=some (some (.int n))) (h7:Z[7]?=some (some v)) (h8:Z[8]?=some (some u)) (tv:Th v) (tu:Th u) (k:QT (jT n v && (jT n u && !decide (v=u))) H) :
  G6 (kK K (cz (bB K C) [] E0 (ak (ao 1) (ak (ao 7) aT)))) (G6 (kK K (cz (bB K C) [] E0 (ak (ao 1) (ak (ao 8) aT)))) (ft (cZ (Mu K) (ao 7) (ao 8)))) Z H QT:=by
 refine UW (QY (OM (yO (CC h1 (yO (CC h7 (QX ⟨n,v,rfl,tv,⟨_,rfl,?_⟩⟩)))))))
 cases b1:jT n v with
 | false=>rw [b1,kJ] at k;exact jf k
 | true =>
  refine mX (UW (QY (OM (yO (CC h1 (yO (CC h8 (QX ⟨n,u,rfl,tu,⟨_,rfl,?_⟩⟩))))))))
  rw [b1,se] at k
  cases b2:jT n u with
  | false=>rw [b2,kJ] at k;exact jf k
  | true =>
   rw [b2,se] at k
   obtain ⟨x,_,rfl⟩:=vg b1
   obtain ⟨y,_,rfl⟩:=vg b2
   exact mX (UV (x_op (CC h7 (CC h8 (Zk ⟨_,rfl,k⟩)))))
theorem acA {s1 s2 s3 s4 s5 s6:Sp}{D:ug}{H:Hp}{S p dx:ag}{a:AL}{n T:Nat}{ts:List Ti}{as:Nat->List ag}{R:Nat->Nat->List Int}{ns:List Int}{z:Int}{o4 o5:Option V}(ct:zb K C A) (hn1:1<=n) (hn:n<=24) (h:KP C A H p dx a n T ts as R) (hl:ts.length<=56) (hP:ud Pt H) (hS:fg K H S (ns.map V.int)) (hns:ns.length<=63)
  (fin:∀ H' o6 o7 o8 o9,fg K H' S (ns.map V.int)->D.nx [some (.ref S),some (.int n),some (.ref p),some (.int z),o4,o5,o6,o7,o8,o9] H') :
  Fn K C A s1 s2 s3 s4 s5 s6 (dQ K C) (bo K C A) (cU K C A) (bB K C) (dj K C A X) (eI K C A X Pt) (aR K C A X) D [some (.ref S),some (.int n),some (.ref p),some (.int z),o4,o5,none,none,none,none] H:=by
 unfold Fn
 walk_at "x1"
 refine X6 ?_
 walk_at "x"
 refine OQ hS ?_
 walk_at "x"
 generalize hM:(if (26:Int)<(ns.length:Int)-1 then (26:Int) else (ns.length:Int)-1)=M
 have hM2:M<=26/\M+1<=ns.length/\-1<=M:=by
  subst hM
  split<;>omega
 refine ⟨2,M,2,rfl,by omega,OO (λi Z H1=>∃ ts as R o6 o7 o8 o9,Z=[some (.ref S),some (.int n),some (.ref p),some (.int z),o4,o5,o6,o7,o8,o9]/\KP C A H1 p dx a n T ts as R/\ts.length<=56/\ud Pt H1/\fg K H1 S (ns.map V.int)) ⟨ts,as,R,_,_,_,_,rfl,h,hl,hP,hS⟩ ?_ ?_⟩
 ·rintro i Z H1 hi ⟨ts,as,R,o6,o7,o8,o9,rfl,k1,l1,P1,q1⟩
  have hb:2+2*i+1<ns.length:=by
   unfold Hb at hi
   split at hi<;>omega
  have g0:=aD (show 2+2*i<ns.length by omega)
  have g1:=aD hb
  walk_at "x"
  refine MC q1 (j:=2+2*i) (by omega) g0 ?_
  walk_at "x"
  refine ⟨n,_,rfl,hn1,λv H2 tv S2=>?_⟩
  walk_at "x"
  refine MC (S2.seq q1) (j:=2+2*i+1) (by omega) g1 ?_
  walk_at "x"
  refine ⟨n,_,rfl,hn1,λu H3 tu S3=>?_⟩
  obtain ⟨wo,c1,c2,c3,c4,hwo,hp⟩:=k1.ob
  have S13:=S2.trans S3
  walk_at "m"
  refine ⟨p,dx,_,rfl,S13 _ _ hp,BK,?_⟩
  walk_at "x"
  refine ⟨p,dx,a,n,T,ts,as,R,rfl,ct,k1.same S13,by omega,λq us H4 hq gq fl pm so S4=>?_⟩
  have S14:=S13.trans S4
  walk_at "m"
  refine ⟨p,dx,_,rfl,S14 _ _ hp,BK,?_⟩
  walk_at "x"
  refine ⟨p,dx,a,n,T,ts,as,R,wo.1,c1,c2,c3,c4,rfl,ct,k1.same S14,S14 _ _ hp,by omega,λr H5 hr gr S5=>?_⟩
  walk_at "x"
  refine ⟨bA (m:=2) (ax 2),λt ht=>?_⟩
  generalize eu_:upd H5 t (.tup [.ref q,.ref r])=H6
  obtain ⟨S6,gt⟩:=news eu_ ht
  have S16:=(S14.trans S5).trans S6
  have k6:=k1.same S16
  have gq6:=S6 _ _ (S5 _ _ gq)
  have fl6:∀ u∈us,CM H6 u:=λu hu=>S6 _ _ (S5 _ _ (fl u hu))
  have gr6:=S6 _ _ gr
  walk_at "x1"
  with_reducible refine Wn (λZ H7=>cB H6 H7/\Z=[some (.ref S),some (.int n),some (.ref p),some (.int z),o4,o5,some (.int (2+(i:Int)*2)),some v,some u,some (.ref t)]) ?_ λgo=>?_
  rotate_left
  ·walk_at "x"
   refine ⟨n,v,rfl,tv,⟨_,rfl,?_⟩⟩
   have plc:∀ {G:VK},(jT n v && jT n u)=false->(∀ H7,cB H6 H7->G (.bl true) H7)->dj K C A X [.ref p,.int n,v,u] H6 G E0:=λhf g=>⟨p,dx,a,n,T,ts,as,R,v,u,rfl,ct,k6,tv,tu,hf,g⟩
   cases b1:jT n v with
   | false =>
    refine mX (mX ?_)
    walk_at "x"
    exact plc (by rw [b1,kJ]) λH7 S7=>⟨true,rfl,jf (go _ _ ⟨S7,rfl⟩)⟩
   | true =>
    refine jf ?_
    walk_at "x"
    refine ⟨n,u,rfl,tu,⟨_,rfl,?_⟩⟩
    cases b2:jT n u with
    | false =>
     refine mX ?_
     walk_at "x"
     exact plc (by rw [b1,b2];rfl) λH7 S7=>⟨true,rfl,jf (go _ _ ⟨S7,rfl⟩)⟩
    | true =>
     refine jf ?_
     obtain ⟨x,hx,rfl⟩:=vg b1
     obtain ⟨y,hy,rfl⟩:=vg b2
     walk_at "x"
     refine vw (λe=>?_) λ_=>go _ _ ⟨λ_ _ e=>e,rfl⟩
     cases e
     walk_at "x"
     refine ⟨p,dx,a,n,T,ts,as,R,"put","alike",.int x,.int x,X.Alike,rfl,ct,k6,.put (.inr (.inl ⟨rfl,x,hx,rfl,rfl⟩)),.inr (.inl ⟨rfl,rfl⟩),λH7 S7=>⟨true,rfl,jf ?_⟩⟩
     walk_at "x"
     exact ⟨p,dx,a,n,T,ts,as,R,"out","alike",.int x,.int x,X.Alike,rfl,ct,k6.same S7,.out (.inr (.inl ⟨rfl,x,hx,rfl,rfl⟩)),.inr (.inl ⟨rfl,rfl⟩),λH8 S8=>⟨true,rfl,jf (go _ _ ⟨S7.trans S8,rfl⟩)⟩⟩
  rintro Z H7 ⟨S7,rfl⟩
  have S17:=S16.trans S7
  have k7:=k1.same S17
  refine UU (tst rfl rfl rfl tv tu ?_)
  cases hc:(jT n v && (jT n u && !decide (v=u))) with
  | true =>
   rw [dP,dP] at hc
   obtain ⟨b1,b2,b3⟩:=hc
   obtain ⟨x,hx,rfl⟩:=vg b1
   obtain ⟨y,hy,rfl⟩:=vg b2
   have hxy:x≠y:=λe=>by rw [e] at b3;simp at b3
   refine mX ?_
   walk_at "x"
   refine ⟨p,dx,a,n,T,ts,as,R,x,y,rfl,ct,k7,hn,hx,hy,hxy,by omega,P1.same S17,λts8 as8 R8 H8 k8 l8 P8 F8=>⟨true,rfl,jf ?_⟩⟩
   exact ⟨ts8,as8,R8,_,_,_,_,rfl,k8,by omega,P8,k7.seq (P1.same S17) (S17.seq q1) F8⟩
  | false =>
   refine jf ?_
   walk_at "m"
   refine ⟨p,dx,_,rfl,S17 _ _ hp,BK,?_⟩
   walk_at "x"
   refine ⟨p,dx,a,n,T,ts,as,R,rfl,ct,k7,by omega,λq' us' H8 hq' gq' fl' pm' so' S8=>?_⟩
   have S18:=S17.trans S8
   walk_at "m"
   refine ⟨p,dx,_,rfl,S18 _ _ hp,BK,?_⟩
   walk_at "x"
   refine ⟨p,dx,a,n,T,ts,as,R,wo.1,c1,c2,c3,c4,rfl,ct,k1.same S18,S18 _ _ hp,by omega,λr' H9 hr' gr' S9=>?_⟩
   walk_at "x"
   refine ⟨bA (m:=2) (ax 2),λt' ht'=>?_⟩
   have S10:=cB.dG (o:=.tup [.ref q',.ref r']) ht'
   have gt':(upd H9 t' (.tup [.ref q',.ref r'])) t'=some (.tup [.ref q',.ref r']):=aM
   generalize upd H9 t' (.tup [.ref q',.ref r'])=H10 at S10 gt'
   have S710:=(S7.trans S8).trans (S9.trans S10)
   have e:us'.map (·.1)=us.map (·.1):=Srt.one (pm'.trans pm.symm) so' so
   walk_at "x"
   refine Zo (RA gt' (S10 _ _ (S9 _ _ gq')) (λu hu=>S10 _ _ (S9 _ _ (fl' u hu))) (S10 _ _ gr')) (RA (S710 _ _ gt) (S710 _ _ gq6) (λu hu=>S710 _ _ (fl6 u hu)) (S710 _ _ gr6)) (Gc _ _ _ _ _ _) (Gc _ _ _ _ _ _) ?_
   rw [e,LW _ (Gc _ _ _ _ _ _).lay]
   refine ⟨_,rfl,jf ?_⟩
   have S110:=S18.trans (S9.trans S10)
   exact ⟨ts,as,R,_,_,_,_,rfl,k1.same S110,l1,P1.same S110,S110.seq q1⟩
 ·rintro Z H1 ⟨ts,as,R,o6,o7,o8,o9,rfl,_,_,_,q1⟩
  exact fin _ _ _ _ _ q1
end
def Gd (K:aa) (Pt1:ag):Sp:=λvs H Q _=>∃ (a:ag) (ns:List Int),vs=[.ref a]/\fg K H a (ns.map V.int)/\ns.length<=63/\ud Pt1 H/\∀ H',Q (.bl true) H'
theorem Yx {K:aa}{Pt1:ag}:Ln (Gd K Pt1) 1:=by walk_at "l"
theorem Yy {K:aa}{C:ag}{A:CA}{X:EC}{Pt1:ag}(ct:zb K C A):Rn (Gd K Pt1) (Kl K C A (bJ K C A) (de K C) (eF K C) (ee K C A X) (eG K C) (cw K C A) (dQ K C) (bo K C A) (cU K C A) (bB K C) (dj K C A X) (eI K C A X Pt1) (aR K C A X)) aaW:=by
 rintro vs H Q E ⟨s,ns,rfl,hS,hlen,hP,k⟩
 unfold Kl
 walk_at "x"
 refine ⟨s,ns,0,rfl,hS,λz=>?_⟩
 obtain ⟨m,em',hm⟩:=em (n:=24) (by omega) z
 have em':z%24=(m:Int):=em'
 walk_at "x"
 rw [em',show (1:Int)+(m:Int)=((m+1:Nat):Int) by omega]
 refine KH ?_
 walk_at "x"
 intro p dx hp hdx _
 have T0:cB H (upd (upd H dx (.own p)) p (.ins A.Keeper dx [])):=λb o e=>by rw [aJ (aP e hp),aJ (aP e hdx)];exact e
 refine ⟨p,dx,m+1,rfl,aM,ct,by omega,by omega,λa T as H1 k1 B1 fr1=>⟨rfl,?_⟩⟩
 have S1:cB H H1:=λb o e=>B1 _ _ (T0 _ _ e) (aP e hp)
 walk_at "x"
 refine ⟨s,ns,1,rfl,S1.seq hS,λf=>?_⟩
 walk_at "x1"
 walk_at "x1"
 refine acz (Pt:=Pt1) ct (by omega) (by omega) k1 (hP.same S1) (S1.seq hS) λts as R H2 o4 o5 k2 l2 P2 q2=>?_
 with_reducible refine zQ ?_
 refine acA (X:=X) (Pt:=Pt1) ct (by omega) (by omega) k2 l2 P2 q2 hlen λH3 o6 o7 o8 o9 q3=>?_
 walk_at "x"
 refine OP q3 (j:=6) rfl λq hq=>?_
 generalize eu_:upd H3 q (.lst ((ns.take 6).map V.int))=H4
 obtain ⟨S4,g4⟩:=news eu_ hq
 walk_at "x"
 refine ⟨bA (m:=1) (ax 1),λr hr=>?_⟩
 have S5:=cB.dG (o:=.lst [.int f]) hr
 have g5:(upd H4 r (.lst [.int f])) r=some (.lst (([f]:List Int).map V.int)):=aM
 generalize upd H4 r (.lst [.int f])=H5 at S5 g5
 refine EN (S5 _ _ g4) g5 (by rw [cf];simp;omega) λt ht=>?_
 walk_at "x"
 exact ⟨t,_,rfl,aM,ct,k⟩
end K32
namespace K32
theorem aa6 {l:vF}{w:bT}{K:aa}{h:cg}{mg:aZ->Option ai}{fa:ag}(X:K.In h) (G:h.Ns bx mg) (hfa:mg "law"=some (.ref fa)) {c1 Pt1:ag}{C A_Levels A_Keeper:ag}
  (KQ:bO K bx "Wood"=some (some (.ref C))) (KR:kb K C RK=true) (KU:lR K C=true) (KW:pP K C=true) (KY:aO K (.ref C) "__setattr__"=some (some (.builtin "object.__setattr__"))) (KZ:oE K C=true) (K0:eh K (.ref C)=true)
  (xg:aO K (.ref C) "n"=some none)
  (qX:aO K (.ref C) "rows"=some none)
  (BY:bO K bx "Levels"=some (some (.ref A_Levels))) (BZ:kb K A_Levels RK=true) (B7:lR K A_Levels=true) (B8:pP K A_Levels=true) (B9:aO K (.ref A_Levels) "__setattr__"=some (some (.builtin "object.__setattr__"))) (Ca:oE K A_Levels=true) (Cb:eh K (.ref A_Levels)=true)
  (jx:aO K (.ref A_Levels) "level_of"=some none)
  (ja:aO K (.ref A_Levels) "weight_of"=some none)
  (kY:aO K (.ref A_Levels) "wooden"=some none)
  (ma:aO K (.ref A_Levels) "woods"=some none)
  (Cc:bO K bx "Keeper"=some (some (.ref A_Keeper))) (Cd:kb K A_Keeper RK=true) (Ce:lR K A_Keeper=true) (Cg:pP K A_Keeper=true) (Ci:aO K (.ref A_Keeper) "__setattr__"=some (some (.builtin "object.__setattr__"))) (xH:oE K A_Keeper=true) (xI:eh K (.ref A_Keeper)=true)
  (nJ:aO K (.ref A_Keeper) "came"=some none)
  (kP:aO K (.ref A_Keeper) "levels"=some none)
  (kT:aO K (.ref A_Keeper) "looked"=some none)
  (nA:aO K (.ref A_Keeper) "lost"=some none)
  (sF:aO K (.ref A_Keeper) "n"=some none)
  (mn:aO K (.ref A_Keeper) "risen"=some none)
  (nG:aO K (.ref A_Keeper) "wood"=some none)
  {X_Alike:ag}(ax_Alike:bO K bx "Alike"=some (some (.ref X_Alike)))
  {X_Fixed:ag}(ax_Fixed:bO K bx "Fixed"=some (some (.ref X_Fixed)))
  {X_Joined:ag}(ax_Joined:bO K bx "Joined"=some (some (.ref X_Joined)))
  {X_NoCount:ag}(ax_NoCount:bO K bx "NoCount"=some (some (.ref X_NoCount)))
  {X_NoPlace:ag}(ax_NoPlace:bO K bx "NoPlace"=some (some (.ref X_NoPlace)))
  {X_NoRow:ag}(ax_NoRow:bO K bx "NoRow"=some (some (.ref X_NoRow)))
  {X_NoTie:ag}(ax_NoTie:bO K bx "NoTie"=some (some (.ref X_NoTie)))
  {X_TieError:ag}(ax_TieError:bO K bx "TieError"=some (some (.ref X_TieError)))
  {X_Tied:ag}(ax_Tied:bO K bx "Tied"=some (some (.ref X_Tied)))
  (uG:zX K X_Alike)
  (xo:eD K (.ref X_Alike) (.ref X_TieError)=some true)
  (ga_Alike:aO K (.ref X_Alike) "__getattribute__"=some (some (.builtin "BaseException.__getattribute__"))) (gt_Alike:aO K (.ref X_Alike) "__getattr__"=some none) (it_Alike:mT K (.ref X_Alike) (.ref X_Alike)=some true) (ha_Alike:aO K (.ref X_Alike) "__class__"=some (some (.builtin "object.__class__"))) (hm_Alike:oj K X_Alike (.type "object")=some true)
  (jU:ar K (.ref X_Alike) (.ref X_NoCount)=some false)
  (jV:ar K (.ref X_Alike) (.ref X_NoPlace)=some false)
  (ml:ar K (.ref X_Alike) (.ref X_Alike)=some true)
  (kO:ar K (.ref X_Alike) (.ref X_Joined)=some false)
  (nv:ar K (.ref X_Alike) (.ref X_Tied)=some false)
  (mv:ar K (.ref X_Alike) (.ref X_NoTie)=some false)
  (mr:ar K (.ref X_Alike) (.ref X_NoRow)=some false)
  (mh:ar K (.ref X_Alike) (.ref X_Fixed)=some false)
  (qj:zX K X_NoCount)
  (sH:eD K (.ref X_NoCount) (.ref X_TieError)=some true)
  (ga_NoCount:aO K (.ref X_NoCount) "__getattribute__"=some (some (.builtin "BaseException.__getattribute__"))) (gt_NoCount:aO K (.ref X_NoCount) "__getattr__"=some none) (it_NoCount:mT K (.ref X_NoCount) (.ref X_NoCount)=some true) (ha_NoCount:aO K (.ref X_NoCount) "__class__"=some (some (.builtin "object.__class__"))) (hm_NoCount:oj K X_NoCount (.type "object")=some true)
  (i9:ar K (.ref X_NoCount) (.ref X_NoCount)=some true)
  (jb:ar K (.ref X_NoCount) (.ref X_NoPlace)=some false)
  (j6:ar K (.ref X_NoCount) (.ref X_Alike)=some false)
  (jz:ar K (.ref X_NoCount) (.ref X_Joined)=some false)
  (kZ:ar K (.ref X_NoCount) (.ref X_Tied)=some false)
  (jY:ar K (.ref X_NoCount) (.ref X_NoTie)=some false)
  (jW:ar K (.ref X_NoCount) (.ref X_NoRow)=some false)
  (j5:ar K (.ref X_NoCount) (.ref X_Fixed)=some false)
  (qk:zX K X_NoPlace)
  (sE:eD K (.ref X_NoPlace) (.ref X_TieError)=some true)
  (ga_NoPlace:aO K (.ref X_NoPlace) "__getattribute__"=some (some (.builtin "BaseException.__getattribute__"))) (gt_NoPlace:aO K (.ref X_NoPlace) "__getattr__"=some none) (it_NoPlace:mT K (.ref X_NoPlace) (.ref X_NoPlace)=some true) (ha_NoPlace:aO K (.ref X_NoPlace) "__class__"=some (some (.builtin "object.__class__"))) (hm_NoPlace:oj K X_NoPlace (.type "object")=some true)
  (i8:ar K (.ref X_NoPlace) (.ref X_NoCount)=some false)
  (jc:ar K (.ref X_NoPlace) (.ref X_NoPlace)=some true)
  (j0:ar K (.ref X_NoPlace) (.ref X_Alike)=some false)
  (jy:ar K (.ref X_NoPlace) (.ref X_Joined)=some false)
  (kU:ar K (.ref X_NoPlace) (.ref X_Tied)=some false)
  (jX:ar K (.ref X_NoPlace) (.ref X_NoTie)=some false)
  (j7:ar K (.ref X_NoPlace) (.ref X_NoRow)=some false)
  (j4:ar K (.ref X_NoPlace) (.ref X_Fixed)=some false)
  (uD:zX K X_NoTie)
  (xl:eD K (.ref X_NoTie) (.ref X_TieError)=some true)
  (ga_NoTie:aO K (.ref X_NoTie) "__getattribute__"=some (some (.builtin "BaseException.__getattribute__"))) (gt_NoTie:aO K (.ref X_NoTie) "__getattr__"=some none) (it_NoTie:mT K (.ref X_NoTie) (.ref X_NoTie)=some true) (ha_NoTie:aO K (.ref X_NoTie) "__class__"=some (some (.builtin "object.__class__"))) (hm_NoTie:oj K X_NoTie (.type "object")=some true)
  (j8:ar K (.ref X_NoTie) (.ref X_NoCount)=some false)
  (j3:ar K (.ref X_NoTie) (.ref X_NoPlace)=some false)
  (mi:ar K (.ref X_NoTie) (.ref X_Alike)=some false)
  (kR:ar K (.ref X_NoTie) (.ref X_Joined)=some false)
  (nF:ar K (.ref X_NoTie) (.ref X_Tied)=some false)
  (mq:ar K (.ref X_NoTie) (.ref X_NoTie)=some true)
  (mf:ar K (.ref X_NoTie) (.ref X_NoRow)=some false)
  (md:ar K (.ref X_NoTie) (.ref X_Fixed)=some false)
  (xK:zX K X_Tied)
  (AU:eD K (.ref X_Tied) (.ref X_TieError)=some true)
  (ga_Tied:aO K (.ref X_Tied) "__getattribute__"=some (some (.builtin "BaseException.__getattribute__"))) (gt_Tied:aO K (.ref X_Tied) "__getattr__"=some none) (it_Tied:mT K (.ref X_Tied) (.ref X_Tied)=some true) (ha_Tied:aO K (.ref X_Tied) "__class__"=some (some (.builtin "object.__class__"))) (hm_Tied:oj K X_Tied (.type "object")=some true)
  (kX:ar K (.ref X_Tied) (.ref X_NoCount)=some false)
  (kW:ar K (.ref X_Tied) (.ref X_NoPlace)=some false)
  (nC:ar K (.ref X_Tied) (.ref X_Alike)=some false)
  (mj:ar K (.ref X_Tied) (.ref X_Joined)=some false)
  (pC:ar K (.ref X_Tied) (.ref X_Tied)=some true)
  (nE:ar K (.ref X_Tied) (.ref X_NoTie)=some false)
  (nH:ar K (.ref X_Tied) (.ref X_NoRow)=some false)
  (nI:ar K (.ref X_Tied) (.ref X_Fixed)=some false)
  (xhn:Cs K (.builtin "object.__class__") "__get__"=some (some (.builtin "getset_descriptor.__get__"))) (xhtk:GS K (.builtin "object.__class__")=some true)
  (Ge:uJ K mg "is_whole" Bs rA)
  (Gg:uJ K mg "is_count" Bt rA)
  (Gh:uJ K mg "is_place" Bu mV)
  (Zy:uJ K mg "top" stop ["n"])
  (Nr:uJ K mg "tie_of" Kc yp)
  (Nt:uJ K mg "credit" Kd z7)
  (RB:uJ K mg "rises" O9 sV)
  (RC:uJ K mg "looks" Pa sV)
  (yu:uJ K mg "steps_along" uR ["row"])
  (Nu:uJ K mg "turned" Ke MY)
  (Jv:uJ K mg "spliced" E9 Ro)
  (Nv:uJ K mg "parted" Kg CJ)
  (Nw:uJ K mg "way_in" Kh CJ)
  (lM:uJ K mg "refuse_no_place" mF mV)
  (kE:uJ K mg "refuse_no_places" lI pO)
  (mO:uJ K mg "refuse_no_pair" nT pO)
  (ze:uJ K mg "in_order" Bv E6)
  (yw:uJ K mg "ends_within" uS E7)
  (xJ:uJ K mg "new_tie" z8 vz)
  (pB:uJ K mg "standing_tie" qp vz)
  (wW:uJ K mg "_law_cell_at" tS E5)
  (Ay:uJ K mg "_law_shape" wk z6)
  (Az:uJ K mg "_law_mixed" wm Rp)
  (AA:uJ K mg "_law_thing" wq z6)
  (AB:uJ K mg "_law_place" wu CG)
  (AC:uJ K mg "_law_words" wx ["_law_e"])
  (Gi:uJ K mg "_law_ask" Bw O8)
  (wX:uJ K mg "_law_refused" tT SL)
  (vC:uJ K mg "_law_no_count" sr Rq)
  (yx:uJ K mg "_law_places" uT Rh)
  (AD:uJ K mg "_law_tried" wy Ri)
  (yz:uJ K mg "_law_counts" uU ["_law_cells"])
  (RD:uJ K mg "law" aaX MW)
  (vD:nB K C "__init__" "Wood.__init__" su qb)
  (CN:nB K C "keep" "Wood.keep" yW MX)
  (CO:nB K C "link" "Wood.link" yX gf)
  (Gj:nB K C "cut" "Wood.cut" Bx gf)
  (qF:nB K C "joined" "Wood.joined" rL gf)
  (rS:nB K C "group" "Wood.group" sW kM)
  (CP:nB K C "size" "Wood.size" yY kM)
  (tJ:nB K A_Levels "__init__" "Levels.__init__" qc qb)
  (AE:nB K A_Levels "add" "Levels.add" wz yV)
  (wY:nB K A_Levels "adopt" "Levels.adopt" tU oH)
  (yA:nB K A_Levels "lift" "Levels.lift" uV oH)
  (yB:nB K A_Levels "drop" "Levels.drop" uW oH)
  (tK:nB K A_Levels "at_level" "Levels.at_level" qd Rk)
  (yC:nB K A_Levels "told" "Levels.told" uX oH)
  (qW:nB K A_Levels "lesser_side" "Levels.lesser_side" mZ CI)
  (yD:nB K A_Levels "look" "Levels.look" uY CI)
  (yE:nB K A_Levels "take" "Levels.take" uZ oH)
  (n9:nB K A_Keeper "__init__" "Kept.__init__" oO qb)
  (wZ:nB K A_Keeper "receive" "Kept.receive" tV yV)
  (vn:nB K A_Keeper "out" "Kept.out" xB gf)
  (CQ:nB K A_Keeper "ties" "Kept.ties" yZ pX)
  (w8:nB K A_Keeper "account" "Kept.account" tW pX)
  (rT:nB K A_Keeper "put" "Keeper.put" sX gf)
  (Gk:nB K C "way" "Wood.way" By gf)
  (yF:nB K A_Keeper "joined" "Kept.joined" u6 gf)
  (Gm:nB K A_Keeper "way" "Kept.way" Bz gf)
  (CS:nB K A_Keeper "side" "Kept.side" y0 kM)
  (zf:ze.d.code=.ref c1)
  (PH:bO K bx "bool"=some none)
  (Wp:bO K bx "int"=some none)
  (vo:bO K bx "isinstance"=some none)
  (Wq:bO K bx "len"=some none)
  (PJ:bO K bx "list"=some none)
  (Wr:bO K bx "max"=some none)
  (Ws:bO K bx "min"=some none)
  (K1:bO K bx "range"=some none)
  (zg:bO K bx "reversed"=some none)
  (Wt:bO K bx "set"=some none)
  (Gn:bO K bx "sorted"=some none)
  (Wu:bO K bx "sum"=some none)
  (Wv:bO K bx "zip"=some none)
  {HH:Tok}(t8:bO K bx "MOST_PLACES"=some (some (.int 200 HH)))
  : ∃ fd:fo,(∀ (s:aq) (v:ai),Eh s fd ⟨[v],[]⟩ [("_law_script",v)])/\∀ base:cg,K.In base->base.Ns bx mg->rY base c1 Pt1->base.BuiltinsAt mg Pt1->dg l.prog w K mg base eT 14 fa fd MW (Gd K Pt1):=by
 have e:=RD.law hfa
 subst e
 have T:lD K mg C (⟨A_Levels,A_Keeper⟩:CA) (⟨X_Alike,X_Fixed,X_Joined,X_NoCount,X_NoPlace,X_NoRow,X_NoTie,X_TieError,X_Tied⟩:EC):=⟨⟨KR,KU,KW,KY⟩,fD X G KQ,xg,qX,⟨BZ,B7,B8,B9⟩,fD X G BY,jx,ja,kY,ma,⟨Cd,Ce,Cg,Ci⟩,fD X G Cc,nJ,kP,kT,nA,sF,mn,nG,fD X G ax_Alike,fD X G ax_Fixed,fD X G ax_Joined,fD X G ax_NoCount,fD X G ax_NoPlace,fD X G ax_NoRow,fD X G ax_NoTie,fD X G ax_TieError,fD X G ax_Tied,uG,qj,qk,uD,xK,xo,sH,sE,xl,AU,⟨uG,it_Alike,ga_Alike,gt_Alike,ha_Alike,xhn,xhtk,hm_Alike⟩,⟨qj,it_NoCount,ga_NoCount,gt_NoCount,ha_NoCount,xhn,xhtk,hm_NoCount⟩,⟨qk,it_NoPlace,ga_NoPlace,gt_NoPlace,ha_NoPlace,xhn,xhtk,hm_NoPlace⟩,⟨uD,it_NoTie,ga_NoTie,gt_NoTie,ha_NoTie,xhn,xhtk,hm_NoTie⟩,⟨xK,it_Tied,ga_Tied,gt_Tied,ha_Tied,xhn,xhtk,hm_Tied⟩,jU,jV,ml,kO,nv,mv,mr,mh,i9,jb,j6,jz,kZ,jY,jW,j5,i8,jc,j0,jy,kU,jX,j7,j4,j8,j3,mi,kR,nF,mq,mf,md,kX,kW,nC,mj,pC,nE,nH,nI,du X G PH,du X G Wp,du X G vo,du X G Wq,du X G PJ,du X G Wr,du X G Ws,du X G K1,du X G zg,du X G Wt,du X G Gn,du X G Wu,du X G Wv,⟨_,fD X G t8⟩⟩
 have ct:zb K C (⟨A_Levels,A_Keeper⟩:CA):=⟨⟨T.kF,T.xg,T.qX⟩,T.gS,T.jx,T.kY,T.ja,T.ma,T.fk,T.sF,T.kP,T.nG,T.nJ,T.kT,T.mn,T.nA⟩
 refine ⟨RD.d,λs v=>RD.bt s [v] rfl,λbase _ _ CH1 B1=>?_⟩
 have lX:=Ge.nz l.prog w base (M6 Ge.F T Kt Ku)
 have CL:=Zy.nz l.prog w base (aaY Zy.F T Yr Ys)
 have jt:=Nr.nz l.prog w base (SM Nr.F T Px Py)
 have nU:=RB.nz l.prog w base (Wb RB.F T SU SV)
 have iY:=yu.nz l.prog w base (Fg yu.F T Dh Di)
 have qU:=Nu.nz l.prog w base (SQ Nu.F T Pq Pr)
 have sC:=ze.nz l.prog w base (Nb ze.F T zf CH1 B1 KF KG)
 have lu:=yw.nz l.prog w base (Fh yw.F T Dl Dm)
 have jQ:=wW.nz l.prog w base (C6 wW.F T BW BX)
 have oW:=Ay.nz l.prog w base (Hm Ay.F T FY FZ)
 have oV:=Az.nz l.prog w base (Hn Az.F T F0 F9)
 have mH:=AA.nz l.prog w base (Ho AA.F T FV FW)
 have gP:=AB.nz l.prog w base (Hq AB.F T FT FU)
 have fc:=AC.caln l.prog w base (Hr AC.F T FN (FO T))
 have iL:=vD.YM l.prog w base KZ K0 (BC vD.F T Am An)
 have ki:=CN.nz l.prog w base (Km CN.F T Hz HA)
 have gb:=yC.nz l.prog w base (Fs yC.F T Do Dp)
 have l6:=Gg.nz l.prog w base (M7 Gg.F T lX KB KC)
 have lY:=Gh.nz l.prog w base (M8 Gh.F T lX Kv Kw)
 have l9:=Nt.nz l.prog w base (SN Nt.F T CL Pz PB)
 have tG:=RC.nz l.prog w base (Wc RC.F T nU SW SX)
 have uw:=Jv.nz l.prog w base (Pj Jv.F T qU Ni Nj)
 have wD:=Nv.nz l.prog w base (SR Nv.F T iY Po Pp)
 have wG:=Nw.nz l.prog w base (SS Nw.F T qU Pu Pw)
 have iH:=tK.nz l.prog w base (dg.Tu (y6 tK.F T sC wM wQ) wO)
 have fw:=CQ.nz l.prog w base (dg.Tu (Kq CQ.F T gb FQ FS) FR)
 have c9:=lM.nz l.prog w base (y3 lM.F T lY x4 x5)
 have df:=tJ.YM l.prog w base Ca Cb (y4 tJ.F T iL CL x6 x8)
 have jR:=w8.nz l.prog w base (Da w8.F T l9 fw BU BV)
 have fT:=lM.nz l.prog w base (wF lM.F T lY vM vN)
 have fv:=kE.nz l.prog w base (xZ kE.F T c9 wI wJ)
 have pf:=rS.nz l.prog w base (Ht rS.F T c9 Fz FA)
 have oB:=CP.nz l.prog w base (Ko CP.F T c9 HD HE)
 have gB:=kE.nz l.prog w base (vK kE.F T fT vk vm)
 have sD:=rS.nz l.prog w base (De rS.F T fT BN BO)
 have cS:=mO.nz l.prog w base (Aj mO.F T fv y9 za)
 have i0:=qF.nz l.prog w base (Fo qF.F T fv Dj Dk)
 have iA:=qW.nz l.prog w base (vJ qW.F T pf oB vi vj)
 have d7:=n9.YM l.prog w base xH xI (BD n9.F T df l6 Aq Ar)
 have hW:=mO.nz l.prog w base (x3 mO.F T gB wR wU)
 have jk:=qF.nz l.prog w base (BE qF.F T gB tH As)
 have jv:=n9.YM l.prog w base xH xI (y8 n9.F T df l6 x9 ya)
 have tZ:=CS.nz l.prog w base (Fw CS.F T sD Dz DA)
 have uC:=xJ.nz l.prog w base (Pk xJ.F T cS jt Nn Np)
 have l7:=pB.nz l.prog w base (C5 pB.F T cS jt BG BH)
 have kj:=CO.nz l.prog w base (Kn CO.F T cS i0 ki uw HB HC)
 have sA:=Gj.nz l.prog w base (Nd Gj.F T cS wD iY ki Kz KA)
 have vf:=Gk.nz l.prog w base (Hw Gk.F T jk wG FH FI)
 have wH:=xJ.nz l.prog w base (Kr xJ.F T hW jt HF HG)
 have qg:=pB.nz l.prog w base (Ak pB.F T hW jt zc zd)
 have rk:=yF.nz l.prog w base (BF yF.F T jk tI Au)
 have kN:=vC.nz l.prog w base (BB vC.F T jv fc Aw (Ax T))
 have iw:=wY.nz l.prog w base (C8 wY.F T kj BI BJ)
 have lq:=yA.nz l.prog w base (Fp yA.F T kj Dq Ds)
 have nr:=yB.nz l.prog w base (Fq yB.F T sA Dt Du)
 have ve:=Gm.nz l.prog w base (Hy Gm.F T vf FL FM)
 have nj:=yz.nz l.prog w base (Fj yz.F T kN fw d7 DD DE)
 have pq:=AE.nz l.prog w base (Hu AE.F T i0 iw FC FD)
 have nu:=yD.nz l.prog w base (Ft yD.F T iA iH lq lu iw Dv Dw)
 have i3:=yE.nz l.prog w base (Fv yE.F T nr nu Dx Dy)
 have iB:=wZ.nz l.prog w base (C9 wZ.F T pq BL BM)
 have qf:=vn.nz l.prog w base (Ng vn.F T l7 l9 i3 tG nU gb KJ KL)
 have iS:=rT.nz l.prog w base (Hv rT.F T iB uC FF FG)
 have vd:=vn.nz l.prog w base (Hx vn.F T qg l9 i3 tG nU gb FJ FK)
 have sx:=rT.nz l.prog w base (Dg rT.F T iB wH BP BQ)
 have lZ:=Gi.nz l.prog w base (Nc Gi.F T tZ sx vd rk ve KM KN)
 have cX:=wX.nz l.prog w base (C7 wX.F T lZ fc BR (BS T))
 have nq:=yx.nz l.prog w base (Fi yx.F T cX gP DB DC)
 have oX:=AD.nz l.prog w base (Hs AD.F T iS qf cX fw Ga Gb)
 exact aaZ RD.F T d7 jQ oV nj oW iS mH fw jR gP nq oX cX Yx (Yy ct)
theorem walk {l:vF}{q:a8}{loose:List aZ}{XP:(aZ->Option ai)->cg->Prop}{YP:bT->cg->Prop}{d dy1:DefRec}{K:Params->aa}{c1 Pt1:ag}(hn:l.most=some 63) (hdf:d.params.defaults=[])
  (hY:∀ (w:bT) (h:cg),YP w h->(K w.params).In h)
  (hrec1:(recsOf q).find? (λe=>e.name == ("in_order":aZ))=some dy1) (htab1:∀ w:bT,PySem.W.tabIn (K w.params) "in_order"=some (c1,Pt1))
  (hnt:∀ w:bT,PySem.W.noTabs (K w.params)=true)
  (F:∀ (w:bT) (mg:aZ->Option ai) (fa:ag) (h:cg),(K w.params).In h->h.Ns bx mg->mg d.name=some (.ref fa) ->
   ∃ fd:fo,(∀ (s:aq) (u:ai),Eh s fd ⟨[u],[]⟩ [("_law_script",u)])/\∀ base:cg,(K w.params).In base->base.Ns bx mg->rY base c1 Pt1->base.BuiltinsAt mg Pt1->dg l.prog w (K w.params) mg base eT 14 fa fd MW (Gd (K w.params) Pt1)) :
  W7 q loose XP YP l.row.toRowW d [] (λf vs=>W8 f vs):=by
 have m1:(c1,Pt1)∈[(c1,Pt1)]:=aw
 refine L2.VD (n:=63) (k:=14) (x:="_law_script") (Ps:=[(c1,Pt1)]) (sp:=λw=>Gd (K w.params) Pt1) hn (by decide) hdf ⟨rfl,by decide,by decide⟩ hY (λp hp=>?_) hnt (λw mg fa h a b c=>?_) (λ_ _ a ns hl hT hS=>⟨a,ns,rfl,hS,hl,.inl (hT _ m1),λ_=>rfl⟩) λ_ _ _ _ z=>z
 ·rw [aF.mp hp];exact ⟨_,dy1,hrec1,htab1⟩
 ·obtain ⟨fd,q1,q2⟩:=F w mg fa h a b c
  exact ⟨fd,q1,λbase i1 i2 hP=>q2 base i1 i2 (hP _ m1).1 (hP _ m1).2⟩
end K32
end
end
local macro_rules | `(tactic| walk_at "b1")=>`(tactic| exact λ_ _ _ _ _ _ us hl=>match us,hl with|[_],_=>rfl)
local macro_rules | `(tactic| walk_at "b2")=>`(tactic| exact λ_ _ _ _ _ _ us hl=>match us,hl with|[_,_],_=>rfl)
local macro_rules | `(tactic| walk_at "b3")=>`(tactic| exact λ_ _ _ _ _ _ us hl=>match us,hl with|[_,_,_],_=>rfl)
local macro_rules | `(tactic| walk_at "b4")=>`(tactic| exact λ_ _ _ _ _ _ us hl=>match us,hl with|[_,_,_,_],_=>rfl)
local macro_rules | `(tactic| walk_at "b5")=>`(tactic| exact λ_ _ _ _ _ _ us hl=>match us,hl with|[_,_,_,_,_],_=>rfl)
structure PySem.W.Fast:Prop where(tw16770864351944317557 tw3469669975784638023 tw5245459589463689105 tw3630461218656210037 tw7163203500564017109 tw2490597613760366111 tw12245973488883001848 tw12770766004249789194 tw12331193585450235104 tw6441045064950061178 tw12440362670036918320 tw18228383343093619740 tw10896386969696138596 tw15208648196097775063 tw15068516602947223501 tw18218004954887436089 tw4916387910741940 tw7676126306816874257 tw12742020883366664068 tw16509344168044355635 tw13408893742615742553 tw17137625742149741282 tw10713690572320767354 tw9757679843921038837 tw14264132641744549314 tw9851257536359333829 tw9753297697076419624 tw2497674860926137723 tw3220305575323086633 tw8641976176276848570 tw9781891676690246467 tw16593565360652937496 tw7534780071626527485 tw3031371160606119956 tw15645221860039589835 tw18385472047014359627 tw16149251051547609907 tw4772570032692775929 tw1308294536199106890 tw5498986799939648676 tw17656296744324030268 tw14037413077006290860 tw13875753670180953658 tw11830740579632174715 tw11514372297247774123 tw14130326071015060909 tw13416753877911250364 tw18439195351660106501 tw11870702405796404030 tw18003745749911847085 tw18431366218396878418 tw2514449567101476809 tw17362118862338952098 tw2344788669471197517 tw3834843812998801207 tw1333661966553072362 tw17356645672447188925 tw10802084403502474939 tw5798306679244596974 tw2345021921519722669 tw14455767368352083763 tw8393198668841914079 tw13672068505705698842 tw9893672029904861314 tw2916133541335822049 tw12104647120050400773 tw6132114324108881126 tw6844245650986187900 tw10286805573012042378 tw97927280091242774 tw8308883575889200796 tw14436225753731966960 tw14993844834920745793 tw11200416902483188645 tw4584373160659697805 tw2503108015189739209 tw17730243949032342497 tw16509081871706659005 tw17464248761356306794 tw15076034505825152998 tw11098251229820698137 tw13652236855373613770 tw6938657297659960441 tw9668056045432024332 tw12689844331038409808 tw11149680180372650325 tw7461580645961305676 tw14216091088094162479 tw6132840890875435195 tw16481278200893515225 tw1935665302832869320 tw9092045715860978018 tw11922057654341889575 tw7893884686650463780 tw17047129507042466227 tw6946890734292375743 tw2194624595384137405 tw1105084665625964378 tw11240126777199956350 tw1996861784400084427 tw15260640473836387847 tw7958236051104944928 tw9233558258806072801 tw469997014536363339 tw2234809618234169452 tw17438706366532930383 tw17672961409529587428 tw17289185340867613087 tw15631079800883241081 tw15478571495492069217 tw15281157787244012619 tw6477753380801692597 tw16140617340700755822 tw8324047594763793123 tw6094382549119466173 tw2386291544100694576 tw10957158602385696478 tw15051508737315143720 tw5255186800863531534 tw5231772518419844129 tw6089109482689653081 tw10184071919489115665 tw15327102170102568129 tw9281225685567205841 tw11566962759279839806 tw12116629223475024153 tw11939074452561736549 tw15028448436093871193 tw16970126623551148069 tw4692319063319872105 tw191341206401373523 tw17954075455708018098 tw15370948776158518171 tw434245866780613690 tw11513487747495768216 tw16330767370715573526 tw348508670840259165 tw8531262046211588785 tw17898739946866882430 tw7101212802891668334 tw17040492317271863780 tw15843250452651822241 tw12976368350868067082 tw9309365929819874363 tw5304104623329692562 tw5592535333006353867 tw18199898351238388364 tw1657101914666179749 tw12539398418330121908 tw5682083190919605133 tw12072881359866957333 tw14276546324715228032 tw929345793156047984 tw11304529153446940792 tw7435803958425296844 tw13878054126088876294 tw4163731270145551498 tw10843940959610354056 tw16970289199269772956 tw16810233950294251048 tw16025355178235141706 tw6306490730080683869 tw16832467666249453671 tw4586596108512999240 tw444212196453178368 tw2269732671118853228 tw224423796957068219 tw13600743656533756158 tw4001903819912343749 tw7821709803873471307 tw12185206515145263679 tw2509603203407447986 tw3277741681270377192 tw6418578163778831618 tw3417806191864552180 tw4156936293492736782 tw16955883340158466864 tw10710734476262853869 tw12281931857809595430 tw16652406550217778137 tw10217525749922172937 tw18078672844114504537 tw15386454203892365375 tw8198383304763500317 tw11723914756003532273 tw14299911894323321383 tw6486865788652988891 tw3191281238052050857 tw12685853865810979493 tw5542774269988140678 tw12615902765818408282 tw17181853982971959371 tw14938432672017754889 tw7095935419014497263 tw13134783370618558259 tw6381314823071083729 tw11306868039585083466 tw3610475128280642192 tw7979200010902358971 tw8594035260859677828 tw8196362651612901797 tw4284633676438615901 tw3124042669979637479 tw18252727584374104223 tw3817570080927227530 tw17463326428755876218 tw16311890713969534466 tw16718378519229751524 tw6196775195313343849 tw4419248159198561207 tw15908000879938211351 tw12089963239581448298 tw1367761554641247263 tw12046581429693145605 tw7053262579997071907 tw6659381053155321843 tw11249426103777167278 tw1490698296850445911 tw17776572700335369498 tw3299304586321946353 tw13136960856236300215 tw10645065361899296671 tw16454079852860313330 tw11453013857026684993 tw18168411877912846781 tw11018572230580429002 tw14384150127989084767 tw17820120145701926347 tw10497927578006531555 tw6202744553802069502 tw17145843924526401698 tw11101864873390895710 tw13054979686016051748 tw9658584149353969049 tw16292164843633839612 tw2880126034578923881 tw4568678434093166323 tw12668562834830332117 tw3017987238958271757 tw14453152493252926959 tw15861844844050944300 tw16411034424388170948 tw4218671776098798926 tw15942376410242247752 tw17142076677641049397 tw4486063856125501311 tw3590756653481510547 tw8254164253290343984 tw17091918160564424606 tw13536427591869000045 tw629755584641774201 tw8791494577419089881 tw1818183054812171566 tw713887395365141889 tw5197867866986518163 tw11372130965910565881 tw17101067046924676338 tw17886735816248809711 tw14550190108440040129 tw7485370200106057155 tw197663337342713974 tw2277989031635898868 tw9996209973657088966 tw944630437860774983 tw5719705034111558053 tw9617813044315691599 tw16158702500405701608 tw12989315328779605969 tw14218568287441456487 tw1297749099005258912 tw17760689426524844730 tw7092688725339000730 tw11559729178107422438 tw12077666621651755024 tw3992659163396435101 tw16503230151940546826 tw1751560366018903522 tw15463341327000303679 tw743549584652098472 tw1642299664712827115 tw4116418297866871516 tw18364999937317782936 tw18027690253826079785 tw4791315745309453848 tw15088180367893962161 tw8123001585774811211 tw4958346064723000356 tw9720406104939417098 tw3726638127082630667 tw11258871475213393001 tw12555090147025081690 tw11621720905784278986 tw9617395941102572494 tw8974782457671568335 tw16854323539212996991 tw15655525310878774483 tw17507476595637966152 tw16244974398471531573 tw14920159329503761080 tw1333502100452963733 tw1490368839189858844 tw7408958512338427103 tw13935008797267468619 tw735769823896506543 tw4024528164322197334 tw14709134665887723254 tw15458490753082913888 tw14779754593827732383 tw16937367043687311165 tw6313205813100474806 tw15532868486036306570 tw6266198875041565109 tw3810528441706901817 tw927749956853933415 tw5546212567653400837 tw16369366260361690396 tw5206797469548394930 tw10505009757854675893 tw9128410493738262853 tw9666866483465098499 tw10475652439291950681 tw15288620706312578719 tw5069824300707706994 tw18050034173510040854 tw5888738246958837847 tw1095112828047327280 tw3595523857874665156 tw10544973192376630980 tw806304834785889503 tw139288388617563280 tw7214716608044579881 tw5689468685451502844 tw12094393270845796759 tw3091718815026686064 tw2014290471988759943 tw17734146817180345630 tw11553822395247398808 tw12137441636017782597 tw7315293265695911577 tw13600704851875709104 tw1254091703649679503 tw13580442057405465545 tw10202024572246048835 tw9625753779993202948 tw12105232625304151096 tw4724992022006041523 tw14326073201067523336 tw9753650487063196681 tw3130183337481675348 tw7201226511045789673 tw6231216359628607044 tw1809659120568788977 tw12072881996529024573 tw18006485242537311978 tw15812178434034655711 tw6112044188606905238 tw15491785075011844482 tw11394777940052866490 tw517019062575064076 tw15476009109096024011 tw11436880851737271883 tw1143192482753913927 tw11906172259781326684 tw12601382082663948583 tw13537152314759700178 tw1015266275727153859 tw6928915751128959852 tw17411352939059771046 tw8095961226972116122 tw3635652474061012256 tw13510338402299395941 tw5934311168049762578 tw12543670072944794397 tw14490729279349470702 tw8147198291336637969 tw1930832612554549046 tw16318435796041437400 tw12761484900423548656 tw9450540485509663079 tw10975380856477951240 tw14388216154414826373 tw12931430586632238893 tw14900425232590276713 tw2163750158600407629 tw4820730045759046071 tw204543469294962910 tw6448906145163069778 tw5667458649516626916 tw16055096490164628682 tw8113123113680228454 tw13283484558448803815 tw8198468536900158443 tw9861335509504495525 tw5930371223696855748 tw1588907155552632942 tw15455485767804286402 tw14576763709669738052 tw12199624406199580341 tw11786618739487020053 tw5319269652709869283 tw2789343610086018168 tw10047315362032461913 tw11821458787191870965 tw2623094653464277332 tw806800481428785288 tw7539579060120737532 tw2202542965501716874 tw14529644498848853404 tw8469833232171510392 tw12375986296989599472 tw17828180864671520166 tw6221199376509183803 tw3286471351530447408 tw15548823208856766685 tw15350362212230110782 tw3500722048032237650 tw9636758529606031286 tw212157688200995937 tw7558044973619135812 tw15014992003195099989 tw2609919792866009495 tw3728488960052055962 tw800120586019176724 tw1911371647451216737 tw7357990672525943410 tw15139976466298292454 tw15448666683380621574 tw1654303496242628469 tw14949635735337078615 tw5539058723082751600 tw15272909582221215438 tw8958211284687693267 tw7714931514161075641 tw6980265625945411366 tw302772001443037638 tw16085834475931482779 tw6882325205515480204 tw12536604092643885397 tw10033545141095417313 tw8260271029749324204 tw16548293692603141710 tw10737258606183136692 tw1543322997985197167 tw11862466581255072303 tw4595913133000175264 tw2687718961402090068 tw5045282191679962081 tw15125830503844387119 tw12541855237656568191 tw5022618294676824873 tw8303019713621968185 tw701215900150680215 tw15951209106006189837 tw1976963584804334234 tw10681517838412022220 tw3413887890143088584 tw10352534967496557299 tw5259306137066343059 tw7413954998016027317 tw13996353679922509929 tw490725564802609435 tw4708403663586594064 tw17448936875522826127 tw9924893771107913955 tw13049194920797766670 tw9767950097002820407 tw17168723801581674221 tw6372285072602397402 tw17299749202584339784 tw11856442796113755083 tw8521154525508834008 tw15183396356860830377 tw9640469998434248347 tw11224403337311771557 tw6480992155408276380 tw9339899665545905761 tw13847514259058006925 tw13579993451764017131 tw1472838591951744545 tw13342190481618827942 tw9394420106189472123 tw2774892726813879958 tw5572808091594427296 tw4007688062653986630 tw9363163021631628764 tw16582019591857261796 tw3743906557014674027 tw3763328004018019399 tw16941134190201814746 tw4584433622751695116 tw13221283146881185126 tw6511785284274674608 tw15299074617895263824 tw8743646829422438790 tw4618879673929519926 tw16944933352540389385 tw11778726686950085213 tw17380810835178750914 tw17617849417205344484 tw9467093974695190222 tw18184154120111124359 tw2471736932457184497 tw12154910570491560309 tw15793193141340188785 tw14834683785233538057 tw17817493971409129260 tw9339520413687710884 tw13155074551846881623 tw1135651946634409632 tw9947577713585207574 tw18187241515717125523 tw6780857486559076645 tw17328636541443310726 tw15471976270940378469 tw8413277988455629775 tw7201378601508732069 tw7709290961354338035 tw13065253937523201103 tw17374984460740599341 tw12644864429064739309 tw774444568608486050 tw11805003509313498414 tw3891483602850837819 tw6192947548125273253 tw12067121184199165369 tw381571899090186068 tw17316906846406331836 tw9268636627728411476 tw3164707247830182740 tw17553632509913981619 tw11834297182655052151 tw4789691255613452440 tw17629597819988970703 tw11574409209895616795 tw10504379581037019044 tw15072850894787530489 tw2381598054015541799 tw10702474233667083023 tw3923468244985109060 tw11645215170580547761 tw7990775432730005385 tw2145401483697767535 tw7055531060215619562 tw3373802260076142401 tw15128505159279161602 tw363229618744045957 tw14937198129777885712 tw1244324124354554227 tw2059484791591738180 tw11961231757527154047 tw7070879427786329299 tw16228241356074826514 tw12758697753446180409 tw11911926128695000191 tw10964397435874502476 tw5595408433935637046 tw8238225186828745195 tw11520498318755177319 tw8210216548954126483 tw4732029471119114557 tw2569629454669663408 tw6298985871354139245 tw15246348189594346584 tw12871674586780531387 tw14899557706389055602 tw1659036257105774041:True)
open PySem PySem.W PyProof.Rows
set_option maxRecDepth 100000 in
set_option maxHeartbeats 0 in
theorem PySem.Challenge.cw_tiewood_k32_refusals_of_a_keeper_holds : PySem.Challenge.rw_tiewood_k32_refusals_of_a_keeper.Holds := by
  w_on;o_law;k_head;(case hw=>w_witness2)
  k_fill
  refine' K32.walk (l:=PySem.Challenge.rw_tiewood_k32_refusals_of_a_keeper) rfl rfl (λw h Y=>PySem.W.km_in_of Y) ?hrec1 ?htab1 ?hnt ?F
  case hrec1=>exact rfl
  case htab1=>intro w;exact rfl
  case hnt=>intro w;exact rfl
  case F =>
    intro w mg fa h KX G hmg
    refine' K32.aa6 KX G hmg ?KQ ?KR ?KU ?KW ?KY ?KZ ?K0 ?xg ?qX ?BY ?BZ ?B7 ?B8 ?B9 ?Ca ?Cb ?jx ?ja ?kY ?ma ?Cc ?Cd ?Ce ?Cg ?Ci ?xH ?xI ?nJ ?kP ?kT ?nA ?sF ?mn ?nG ?ax_Alike ?ax_Fixed ?ax_Joined ?ax_NoCount ?ax_NoPlace ?ax_NoRow ?ax_NoTie ?ax_TieError ?ax_Tied ?uG ?xo ?ga_Alike ?gt_Alike ?it_Alike ?ha_Alike ?hm_Alike ?jU ?jV ?ml ?kO ?nv ?mv ?mr ?mh ?qj ?sH ?ga_NoCount ?gt_NoCount ?it_NoCount ?ha_NoCount ?hm_NoCount ?i9 ?jb ?j6 ?jz ?kZ ?jY ?jW ?j5 ?qk ?sE ?ga_NoPlace ?gt_NoPlace ?it_NoPlace ?ha_NoPlace ?hm_NoPlace ?i8 ?jc ?j0 ?jy ?kU ?jX ?j7 ?j4 ?uD ?xl ?ga_NoTie ?gt_NoTie ?it_NoTie ?ha_NoTie ?hm_NoTie ?j8 ?j3 ?mi ?kR ?nF ?mq ?mf ?md ?xK ?AU ?ga_Tied ?gt_Tied ?it_Tied ?ha_Tied ?hm_Tied ?kX ?kW ?nC ?mj ?pC ?nE ?nH ?nI ?xhn ?xhtk (L2.xY KX G ?PK ?PL ?lX ?PN (by walk_at "b1")) (L2.xY KX G ?PP ?PQ ?l6 ?PR (by walk_at "b1")) (L2.xY KX G ?PU ?PV ?lY ?PX (by walk_at "b2")) (L2.xY KX G ?acB ?acC ?CL ?acD (by walk_at "b1")) (L2.xY KX G ?Ww ?Wx ?jt ?Wy (by walk_at "b2")) (L2.xY KX G ?Wz ?WB ?l9 ?WC (by walk_at "b2")) (L2.xY KX G ?Yz ?YA ?nU ?YB (by walk_at "b1")) (L2.xY KX G ?YC ?YD ?tG ?YE (by walk_at "b1")) (L2.xY KX G ?HI ?HJ ?iY ?HK (by walk_at "b1")) (L2.xY KX G ?WD ?WE ?qU ?WG (by walk_at "b2")) (L2.xY KX G ?Ta ?Tb ?uw ?Tc (by walk_at "b4")) (L2.xY KX G ?WH ?WI ?wD ?WJ (by walk_at "b3")) (L2.xY KX G ?WK ?WL ?wG ?WM (by walk_at "b3")) (L2.xY KX G ?AF ?AG ?c9 ?AH (by walk_at "b2")) (L2.xY KX G ?zh ?zj ?fv ?zk (by walk_at "b3")) (L2.xY KX G ?Cj ?Ck ?cS ?Cm (by walk_at "b3")) (L2.xY KX G ?PY ?PZ ?sC ?P0 (by walk_at "b2")) (L2.xY KX G ?HL ?HM ?lu ?HN (by walk_at "b2")) (L2.xY KX G ?Td ?Te ?uC ?Tg (by walk_at "b4")) (L2.xY KX G ?Gp ?Gq ?l7 ?Gr (by walk_at "b4")) (L2.xY KX G ?Gs ?Gu ?jQ ?Gv (by walk_at "b2")) (L2.xY KX G ?K2 ?K3 ?oW ?K4 (by walk_at "b2")) (L2.xY KX G ?K5 ?K6 ?oV ?K7 (by walk_at "b2")) (L2.xY KX G ?K8 ?K9 ?mH ?La (by walk_at "b2")) (L2.xY KX G ?Lb ?Lc ?gP ?Ld (by walk_at "b2")) (L2.xY KX G ?Le ?Lg ?fc ?Lh (by walk_at "b1")) (L2.xY KX G ?P9 ?Qa ?lZ ?Qb (by walk_at "b4")) (L2.xY KX G ?Gw ?Gx ?cX ?Gy (by walk_at "b5")) (L2.xY KX G ?DF ?DG ?kN ?DH (by walk_at "b1")) (L2.xY KX G ?HP ?HQ ?nq ?HR (by walk_at "b4")) (L2.xY KX G ?Li ?Lj ?oX ?Lk (by walk_at "b3")) (L2.xY KX G ?HS ?HU ?nj ?HV (by walk_at "b1")) (L2.xY KX G ?acE ?acF ?acG ?acH (by walk_at "b1")) (L2.Bq ?DI ?DJ ?DK ?iL ?DL (by walk_at "b2")) (L2.Bq ?Nx ?Ny ?Nz ?ki ?NA (by walk_at "b2")) (L2.Bq ?NB ?NC ?ND ?kj ?NF (by walk_at "b3")) (L2.Bq ?Qc ?Qd ?Qe ?sA ?Qg (by walk_at "b3")) (L2.Bq ?HW ?HX ?HY ?i0 ?HZ (by walk_at "b3")) (L2.Bq ?Ll ?Lm ?Lo ?pf ?Lp (by walk_at "b2")) (L2.Bq ?NG ?NH ?NI ?oB ?NJ (by walk_at "b2")) (L2.Bq ?AI ?AJ ?AK ?df ?AM (by walk_at "b2")) (L2.Bq ?Lq ?Lr ?Ls ?pq ?Lu (by walk_at "b3")) (L2.Bq ?Gz ?GA ?GB ?iw ?GC (by walk_at "b2")) (L2.Bq ?Ia ?Ib ?Ic ?lq ?Ie (by walk_at "b2")) (L2.Bq ?Ig ?Ih ?Ii ?nr ?Ij (by walk_at "b2")) (L2.Bq ?AN ?AO ?AQ ?iH ?AR (by walk_at "b3")) (L2.Bq ?Ik ?Il ?Im ?gb ?Io (by walk_at "b2")) (L2.Bq ?xa ?xb ?xc ?iA ?xf (by walk_at "b3")) (L2.Bq ?Ip ?Iq ?Ir ?nu ?Iu (by walk_at "b3")) (L2.Bq ?Iv ?Iw ?Iy ?i3 ?Iz (by walk_at "b2")) (L2.Bq ?DM ?DN ?DO ?d7 ?DP (by walk_at "b2")) (L2.Bq ?GD ?GE ?GF ?iB ?GG (by walk_at "b3")) (L2.Bq ?Qh ?Qi ?Qj ?qf ?Qk (by walk_at "b3")) (L2.Bq ?NK ?NL ?NM ?fw ?NN (by walk_at "b1")) (L2.Bq ?GH ?GI ?GJ ?jR ?GK (by walk_at "b1")) (L2.Bq ?Lw ?Lx ?Ly ?iS ?Lz (by walk_at "b3")) (L2.Bq ?Ql ?Qm ?Qn ?Qo ?Qp (by walk_at "b3")) (L2.Bq ?IA ?IB ?IC ?ID ?IE (by walk_at "b3")) (L2.Bq ?Qq ?Qr ?Qs ?Qt ?Qu (by walk_at "b3")) (L2.Bq ?NO ?NP ?NQ ?NR ?NS (by walk_at "b2")) ?zf ?PH ?Wp ?vo ?Wq ?PJ ?Wr ?Ws ?K1 ?zg ?Wt ?Gn ?Wu ?Wv ?t8
    case KQ|KR|KU|KW|KY|KZ|K0|xg|qX|BY|BZ|B7|B8|B9|Ca|Cb|jx|ja|kY|ma|Cc|Cd|Ce|Cg|Ci|xH|xI|nJ|kP|kT|nA|sF|mn|nG|ax_Alike|ax_Fixed|ax_Joined|ax_NoCount|ax_NoPlace|ax_NoRow|ax_NoTie|ax_TieError|ax_Tied|ga_Alike|gt_Alike|ha_Alike|hm_Alike|ga_NoCount|gt_NoCount|ha_NoCount|hm_NoCount|ga_NoPlace|gt_NoPlace|ha_NoPlace|hm_NoPlace|ga_NoTie|gt_NoTie|ha_NoTie|hm_NoTie|ga_Tied|gt_Tied|ha_Tied|hm_Tied|xhn|xhtk|PK|PL|lX|PN|PP|PQ|l6|PR|PU|PV|lY|PX|acB|acC|CL|acD|Ww|Wx|jt|Wy|Wz|WB|l9|WC|Yz|YA|nU|YB|YC|YD|tG|YE|HI|HJ|iY|HK|WD|WE|qU|WG|Ta|Tb|uw|Tc|WH|WI|wD|WJ|WK|WL|wG|WM|AF|AG|c9|AH|zh|zj|fv|zk|Cj|Ck|cS|Cm|PY|PZ|sC|P0|HL|HM|lu|HN|Td|Te|uC|Tg|Gp|Gq|l7|Gr|Gs|Gu|jQ|Gv|K2|K3|oW|K4|K5|K6|oV|K7|K8|K9|mH|La|Lb|Lc|gP|Ld|Le|Lg|fc|Lh|P9|Qa|lZ|Qb|Gw|Gx|cX|Gy|DF|DG|kN|DH|HP|HQ|nq|HR|Li|Lj|oX|Lk|HS|HU|nj|HV|acE|acF|acG|acH|DI|DJ|DK|iL|DL|Nx|Ny|Nz|ki|NA|NB|NC|ND|kj|NF|Qc|Qd|Qe|sA|Qg|HW|HX|HY|i0|HZ|Ll|Lm|Lo|pf|Lp|NG|NH|NI|oB|NJ|AI|AJ|AK|df|AM|Lq|Lr|Ls|pq|Lu|Gz|GA|GB|iw|GC|Ia|Ib|Ic|lq|Ie|Ig|Ih|Ii|nr|Ij|AN|AO|AQ|iH|AR|Ik|Il|Im|gb|Io|xa|xb|xc|iA|xf|Ip|Iq|Ir|nu|Iu|Iv|Iw|Iy|i3|Iz|DM|DN|DO|d7|DP|GD|GE|GF|iB|GG|Qh|Qi|Qj|qf|Qk|NK|NL|NM|fw|NN|GH|GI|GJ|jR|GK|Lw|Lx|Ly|iS|Lz|Ql|Qm|Qn|Qo|Qp|IA|IB|IC|ID|IE|Qq|Qr|Qs|Qt|Qu|NO|NP|NQ|NR|NS=>k_is
    case xo|it_Alike|jU|jV|ml|kO|nv|mv|mr|mh|sH|it_NoCount|i9|jb|j6|jz|kZ|jY|jW|j5|sE|it_NoPlace|i8|jc|j0|jy|kU|jX|j7|j4|xl|it_NoTie|j8|j3|mi|kR|nF|mq|mf|md|AU|it_Tied|kX|kW|nC|mj|pC|nE|nH|nI=>exact rfl
    case uG|qj|qk|uD|xK=>exact L2.exK rfl rfl (L2.nsq rfl rfl rfl rfl rfl rfl) (L2.nsq rfl rfl rfl rfl rfl rfl)
    case zf=>exact rfl
    case PH|Wp|vo|Wq|PJ|Wr|Ws|K1|zg|Wt|Gn|Wu|Wv|t8=>k_is
