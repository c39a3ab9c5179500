import PyProof.Rows.All
import Wide.All
import OpenK.AllK
import Wide.FinOn
import Lean
import PyProof.EqAt
import PyProof.EqKinds
import PyProof.TupleCall
import KE.KMinKey
import KE.KLam
import PyProof.Rows.CallKwBuiltin
import PyProof.Rows.Range3
import PyProof.Rows.SeqMore2
import PyProof.SeqI3
import KE.KSortTup
import PyProof.ZipIter
import KE.KItemsList
import KE.KDictList
import KE.KRevIter
import PyProof.Rows.SetFrom
import PyProof.EnumMake
import PyProof.EnumStmt
import PyProof.EnumFor
import KE.KTryMore
import KE.KTryOn
import KE.KSortKey
import PyProof.ListRange
import PyProof.Rows.SumAny
import KE.KSortTup
import PySem.Challenge.RW_tiewood_k37_whole_halves
set_option Elab.async false
set_option linter.all false
set_option maxRecDepth 100000
set_option maxHeartbeats 4000000
open PySem.W renaming Frag->aa,findIn->bD,mg_none_of->cP,nsIn->de,keepIn->eD,kia_one->eG,emptyDict->e9,CodeHd->ig,instObj->ij,fnOf->iq,plainGet->iL,kitOne->iM,hasDictIn->jt,makesIn->kH,plainOver->ll,codeIn->nz,mg_of->pG,OpenLaw->qx,isFn->qI,lookIn->tI,plainGet_of->vi,callWith_K->xn,kla_obj->xp,methodObj->yE,takerIn->CG,kat_cons->Hc,kat_yes->He,cellsFrom_some->JI,tabObj->JL,methodCall_KW->JU,kitx_list->N8,kitx_dict->N9,handedIn->Q2,WalkO->Q3,tabIn->Q9
open PySem renaming wpAny_bind->ae,Addr->af,Value->ai,Shared->ak,wpAny_pure->ao,wpAny->aG,model->aM,sizeLine->aT,Program->aY,Str->bh,starEach->bF,World->bH,Around->bN,mainGlobals->bR,Heap->cb,wpAny_holding->cq,wpAny_newObj_type->cz,rawInt->cA,wpAny_call_entry->cI,wpAny_callSpecial?_slot->cX,compareOp->df,Stmt->dk,bootBuiltins->dC,wpAny_mono->dH,FuncData->eI,eval->eN,wpAny_Call_Name_kw->fc,Obj->ft,codeAny_builtin->fU,backTo->gm,SetTable->gH,cLine->gO,sysModules->gR,Builtin->ie,wpAny_attempt->ik,wpAny_askSetting->ir,tupleKind_room_in1->iB,wpAny_setState_of->iT,pyNext->i9,plainId_quiet->jd,wpAny_rule->jf,wpAny_setField->jm,Scope->jB,wpAny_typeNameOfWhole_keyiter->jD,wpAny_passesOwn->jP,NameKind->jQ,wpAny_ite_split->jR,tupleKind->jS,behindInMarks->jU,wpAny_truthy_bool->ki,holding->kj,codeAny->km,wpAny_dictEntries->kq,mem_of_lookup->kA,wpAny_loadName_local->kK,wpAny_field->kL,Pos->kM,wpAny_setEntries_of->lp,wpAny_typeNameOf_keyiter->lM,Arguments->l8,intKind->mC,codeAny_mono->mD,wpAny_fieldsOf->mH,firstArgMember->mI,builtinLookup_eq_fast->nq,assignEach->nv,wpAny_isInstance->nA,attributeBase->nU,wpAny_newList->nV,sizeLine_eq->oi,keywordEach->om,sliceBounds->oo,wpAny_pyIter_keyiter->oq,wpAny_updateSeq->pE,wpAny_Name->qG,binaryOp->qH,recursionLimit->qJ,standAt->sR,foldedSetIterable->sS,wpAny_standAt->tH,IsPair->tO,relayAll->vj,scanBound->vk,wpAny_nextOf_list_item->xq,wpAny_execs_nil->xv,letOwnedTupleGo->xA,typeLookup_type->xB,Operator->Ac,bindArgs->Ad,backToKw->Ae,ZipApart->Ag,wpAny_newTuple->Ah,isSubtype_stop->Ai,layNew->Ak,swapsWith->Av,inplaceOp->Aw,getMethod->Ax,pickOrder->AB,seqItems?->AC,wpAny_Tuple_spliced->CI,Env->Ek,wpAny_load->El,rule->Em,setsByText->Eo,BindsTo->GZ,Keyword->G0,wpAny_typeOf->G1,valueAt->G2,atKey->G4,callerA->G5,wpAny_pyIter_slot->G8,collect->G9,fits_of_scanBound->Ha,assign->JG,Result->JH,IsPart->JJ,updateSeq->JM,Fin->JW,wpAny_letGo->JX,wpAny_of_eq->JY,Within->Lq,wpAny_specialOf->Lu,wpAny_dictEpoch->Lx,getItem->MF,setNext->MI,pyIter->NM,wpAny_call->NN,wpAny_runValue->NS,isSubtype_type->NV,slotArgs->NW,setEntries->NX,checkCount->NZ,call->Q4,wpAny_handled->Q6,CmpOp->Rh,bindL->Rj,bindC->Rk,DictEntry->Rp,Tok->SU,Sem->SV,newExc->SX,wpAny_isTrue_Compare1->UF,wpAny_nextOf_list_end->UK,wpAny_notOrdered_dict->UM,wpAny_isOneOf_keyiter->UN,GenState->Wv,callWith->Ww,seqIndex_of->Wx,wpAny_newFunctionEnv->Wz,wpAny_throw->WC,intItems->WK,wpAny_loadName_cell->WY,wpAny_loadName_free->WZ
open List renaming length_map->ag,mem_cons_of_mem->aj,mem_cons->av,mem_cons_self->aw,getElem?_map->ax,getElem?_eq_getElem->ay,mem_singleton->aA,getElem?_eq_some_iff->aC,mem_of_getElem?->aL,mem_append->aN,size_toArray->aO,map_append->aU,mem_map->a6,nodup_cons->bp,mem_map_of_mem->bq,length_append->bu,mem_iff_getElem?->bx,length_take->bB,mem_append_right->bG,map_map->bK,length_cons->bT,map_cons->bU,take_of_length_le->bX,mem_filter->cw,lookup_cons->cG,getLast?_append->cL,length_drop->cN,length_filter_le->cT,getElem?_eq_none->cU,range->c6,not_mem_nil->dg,append_assoc->di,pairwise_map->dj,filter_append->dv,lookup->dF,take_add_one->dI,mem_append_left->dQ,length->dR,getElem?_append_right->dS,take_append_drop->eJ,count_eq_zero->eU,getElem?_append_left->fE,drop_eq_getElem_cons->fG,perm_append_comm->fH,eq_nil_or_concat->fI,concat_eq_append->fJ,idxOf_lt_length_iff->fW,pairwise_append->gf,count_append->gB,nodup_append->gC,map_take->gU,getElem_mem->gZ,pairwise_iff_getElem->iA,length_range->iD,filter_sublist->iV,getElem?_cons_zero->iX,getElem?_set_self->ji,zip_cons_cons->jk,mem_of_mem_head?->jE,ext_getElem?->jK,mem_range->jT,count_cons_self->jV,getElem?_range->kI,map_congr_left->kJ,length_nil->kW,find?_cons->kX,getElem?_take->k8,append_of_mem->k9,getLast?_cons->lg,drop_of_length_le->lQ,getElem?_set_ne->mQ,eq_nil_of_length_eq_zero->mT,mem_filterMap->ou,replicate->ow,nodup_nil->oz,getElem?_drop->oA,map_singleton->oB,getElem?_zip_eq_some->pI,pairwise_singleton->qK,take_length->qM,length_pos_of_mem->sW,append_eq_nil_iff->sX,append_inj_right'->sY,append_nil->tJ,of_mem_zip->tK,forIn_cons->tN,length_zip->tP,count_cons->tR,filter_map->tS,length_replicate->uI,getElem?_zipWith->uJ,filterMap_cons->xu,filter_eq_self->xE,map_drop->yI,sum_cons->yJ,getElem_idxOf->zC,count_pos_iff->zD,map_nil->Az,reverse_perm->AD,cons_append->CP,perm_middle->CS,any_eq_true->CV,drop_zero->Hq,forIn_nil->Hr,nodup_iff_pairwise_ne->Ht,mem_of_find?_eq_some->JN,any_cons->JV,length_erase_of_mem->J1,getElem?_replicate->Lr,getElem?_cons_succ->Ly,eraseIdx_cons_succ->Lz,pairwise_lt_range->MG,map_set->MK,length_singleton->NQ,countP_mono_left->NR,getElem?_toArray->NY,singleton_append->N0,length_eraseIdx->Oc,mem_iff_getElem->Od,map->Oe,mem_of_mem_take->Og,nodup_iff_count->Oh,drop_eq_nil_iff->Oi,length_pos_iff->Ra,find?_eq_none->Ro,take_sublist->SW,drop_sublist->Tj,getElem?_set->Tn,filter_cons->UH,all_eq_true->UI,countP_cons->UJ,map_snd_zip->UP,take_append->UQ,nodup_range->UR,mem_flatMap->UT,length_set->Wy,find?_some->WB,head?_cons->WO,idxOf_cons->WQ,take_succ->W6,drop_drop->W7
open Nat renaming le_refl->ar,zero_le->aQ,ne_of_lt->a9,le_trans->bf,lt_of_lt_of_le->br,lt_of_le_of_lt->bw,ne_of_gt->dN,lt_irrefl->eL,le_succ->gW,le_add_right->hW,lt_succ_self->ja,mul_le_mul_right->ke,le_of_lt->kx,le_of_eq->ky,min_eq_left->kZ,le_of_not_lt->mF,min_eq_right->mG,succ_le_succ->mO,lt_succ_of_lt->qy,lt_trans->tM,add_le_add_left->yH,pow_succ->CK,le_total->CL,strongRecOn->Hk,add_zero->NT,add_comm->N2,pow_le_pow_right->Rb,le_zero->Rc,add_lt_add_left->Rv,le_succ_of_le->UL,max_eq_right->WR,min_le_left->W5,max_eq_left->Xa,two_pow_pos->Xb
open PySem.Heap renaming get?_push_of_some->au,get?_push_size->aI,lt_size->aJ,get?_update_other->bz,get?_update_self->bQ,SameBut->gN,size_push->iW,size_update->qL,get?_none_of_le->N7,ExtBut->Ob
open PySem.Value renaming ref->aD,none->eQ,type->eS,int->fj,str->qF,bool->sG,float->NL,isStrOf->WX
open Array renaming length_toList->aK,getElem?_eq_getElem->b9,getElem?_eq_some_iff->cC,getElem?_toList->dG,perm_iff_toList_perm->fh,toList_append->gI,getElem?_eq_none->gM,size_push->iw,toList_inj->ka,toList_map->mf,reverse_append->mN,size_append->pJ,append_assoc->yF,toList_push->Aj,toList_zip->CJ,getElem?_reverse->LA,reverse_reverse->MJ,forIn_toList->Q5,getD->Q7
open PyProof.Rows renaming wpS_bind->aR,Keyed->aS,wpS_pure->bg,seqObj->bY,pendingOf->cK,SortSt->dD,IntsAre->eO,wpS_forRange->fF,callWith_type1->f9,slot_tuple_getitem->gX,wpS_modify->iC,failedOf->iU,SortKind->jo,listUpdate_at->lL,get?_update_seq->lR,elem'->l9,arrOf->mK,wpS_mono->mM,IsTup->pH,wpS_get->qe,minRun'->sV,envOfC->tL,reverseSlice'_eq->vm,callWith_builtin1->vn,wpS->vp,AllBare->xm,subscriptTail_builtinR->xo,entry_list_sort->xD,slot_list_sort->Al,reverseSlice'->CU,listItems_at->G7,wpS_lift->Hg,plain_sorted->Hh,entry_sorted->Hi,seqEpoch_at->JZ,kind_sorted->J0,Subscript_->NO,Constant_none->Q1,lt_int->Ri,tuples'->Td,minRun'_succ->Te,call_function_entry_kw->Th,iadd_int->UG,mirror_size->WL,binarySort'->WM,mergeAt'->WN,getElem?_mirror_all->W8,wpAny_call_entry_kw->W9
open Option.some renaming inj->aV,injEq->eW
open Option renaming map_eq_some_iff->aW,map_some->jh,map->xC,isSome_map->zB,getD_none->AA,isSome_iff_exists->Hn,bind_eq_some_iff->JO,bind_eq_bind->NU,isNone_some->Oa,getD_some->Ru,pure_def->Ta
open PyProof.Rows.SortSt renaming mk'->aZ
open Bool renaming false_ne_true->bA,false_eq_true->bV,and_eq_true->gY,eq_iff_iff->jr,false_and->W4
open PySem.NameKind renaming free->bJ,cell->gG
open PySem.Obj renaming mapSeq->bO,data_mapFields->c8,isFreed_of_fields->jL,mapFields->mS,cls_mapFields->qz,putSet->tQ,data_mapDictKeys->xr,isFreed_of_dict->Rq
open Sum renaming inl->cu,inr->CF
open Prod.mk renaming inj->cB,injEq->Hj
open PySem.F renaming plainAttrs_list->cR,plain_extend_loop->dW,slot_list_append->fR,type_list_append->fS,slot_list_index->gb,plainAttrs_dict->iN,type_list_index->kN,slot_dict_pop->lS,type_dict_pop->lT,slot_dict_get->sH,slot_dict_getitem->Fg,args_list_index_2->Fj,entry_extend_loop->Fk,entry_list_index->G6,args_dict_get_3->Ho,entry_dict_get->JK
open Int renaming le_trans->cY,le_of_lt->fZ,toNat_natCast->gF,zero_add->jq,not_lt->mL,le_refl->nh,emod_lt_of_pos->Am,pow_succ->CM,emod_eq_of_lt->US,emod_nonneg->Xc
open PySem.Heap.SameBut renaming update->cZ
open PySem.PassesOwn renaming never->du
open PySem.SetTable renaming below->dw,grown->iK,has->Hs,orStandIn->MH,relaid->Q8,fresh->Rr,slot->SY,laid->SZ,fits->Tc
open PySem.Around renaming under_plainId->dO,under->JT
open PySem.PyData renaming eqv->dY,canLayAll0->iu,depthAll->jl,depth->qN,canLay0->Fi
open PySem.Calls renaming spliced_cons->eT,spliced_nil->jC,call_function_entry->pF,Name_function_global->GY,callWith_builtin->Ls,evalArgs_plain->NP
open PySem.Str renaming ofString->fq,empty->MD
open PySem.Builtin.SmallTypes renaming ownedTupleIsFree->fQ,nextOf->jc
open PySem.Builtin.List renaming listExtendWith->gg,listUpdate->iz,listLengthHint->je,listSameRef->jM,listItems->CQ
open False renaming elim->hV
open True renaming intro->iJ
open PySem.SeqAt.EqAt renaming int_int->iP
open ForInStep renaming yield->jb
open PySem.Builtin.Slice renaming slicePlaces->ju,sliceAdjust->mE,sliceApplied->yG
open PySem.Builtin.Tuple renaming tupleExact->jJ
open List.cons renaming inj->kb
open List.Perm renaming cons->kY,append_left->lA,refl->sI
open PySem.SetTable.below renaming go->mJ
open List.Pairwise renaming nil->mR
open PySem.Builtin.Dict_items renaming ownsTuple->sT
open PySem.SetTable.probe renaming go->sU
open Int.ofNat renaming inj->uK
open List.Sublist renaming map->vo
open PySem.Paired renaming length->xk
open Sum.inl renaming inj->Au
open Prod renaming ext->Ay
open PySem.Builtin.Dict renaming showsAll->En
open PySem.pickOrder renaming go->Hb
open PySem.Code renaming isFrame->ME
open PyProof.Rows.IntsAre renaming int_at->Rt
open StateT renaming run_pure->Tg
open PySem.SetTable.Met.empty renaming injEq->UO
open PySem.Builtin.Frozenset renaming newClass->WD,updateFrom->WE,slot0->WG,addrOf->WH,sizeOf->WI
open PySem.W.KatTups renaming cons->WJ
section
open PySem PySem.Spec PyProof.Rows
namespace L2
abbrev fT:=Sum Int bh
def vq:fT->ai->Bool
 | .inl k,v=>Value.isInt k v
 | .inr x,v=>WX x v
def ZM (w:bH):fT->Int
 | .inl k=>hashInt k
 | .inr x=>hashStr w x
theorem fM:∀ {k:fT}{v:ai},vq k v=true->(∃ i t,k=cu i/\v=fj i t)\/(∃ x t,k=CF x/\v=qF x t)
 | .inl i,v,h=>by
  obtain ⟨t,e⟩:=Value.isInt_shape (k:=i) (v:=v) h
  exact .inl ⟨i,t,rfl,e⟩
 | .inr x,v,h=>by
  obtain ⟨t,e⟩:=Value.isStrOf_shape (x:=x) (v:=v) h;exact .inr ⟨x,t,rfl,e⟩
def ML (i:Int) (t:SU):vq (.inl i) (.int i t)=true:=by simp [vq,Value.isInt]
def MM (x:bh) (t:SU):vq (.inr x) (.str x t)=true:=by simp [vq,WX]
def UU (a b:Int):decide ((cu a:fT)=cu b)=(a == b):=by
 by_cases e:a=b
 ·subst e;simp
 ·have h:¬ (cu a:fT)=cu b:=λq=>e (Au q);rw [decide_eq_false h];exact (beq_eq_false_iff_ne.mpr e).symm
def UV (a b:bh):decide ((CF a:fT)=CF b)=decide (a=b):=by
 by_cases e:a=b
 ·subst e;simp
 ·have h:¬ (CF a:fT)=CF b:=λq=>e (Sum.inr.inj q);rw [decide_eq_false h,decide_eq_false e]
def UW (a:Int) (b:bh):decide ((cu a:fT)=CF b)=false:=decide_eq_false (λq=>nomatch q)
def UX (a:bh) (b:Int):decide ((CF a:fT)=cu b)=false:=decide_eq_false (λq=>nomatch q)
def ee (prog:aY) (w:bH):PySem.KeyKind prog w fT where
 is:=vq
 hash:=ZM w
 inj:=λv a b ha hb=>by
  rcases fM ha with ⟨i,t,rfl,rfl⟩|⟨x,t,rfl,rfl⟩
  ·rcases fM hb with ⟨j,u,rfl,e⟩|⟨y,u,rfl,e⟩
   ·injection e with e1 _;rw [e1]
   ·exact nomatch e
  ·rcases fM hb with ⟨j,u,rfl,e⟩|⟨y,u,rfl,e⟩
   ·exact nomatch e
   ·injection e with e1 _;rw [e1]
 byValue:=λk v h=>by
  rcases fM h with ⟨i,t,rfl,rfl⟩|⟨x,t,rfl,rfl⟩<;>rfl
 pyHash:=λhv h=>by
  rcases fM hv with ⟨i,t,rfl,rfl⟩|⟨x,t,rfl,rfl⟩
  ·exact wpAny_pyHash_int h
  ·exact wpAny_pyHash_str h
 eqBool:=λhu hv h=>by
  rcases fM hu with ⟨i,t,rfl,rfl⟩|⟨x,t,rfl,rfl⟩
  ·rcases fM hv with ⟨j,u,rfl,rfl⟩|⟨y,u,rfl,rfl⟩
   ·rw [UU] at h;exact wpAny_eqBool_int h
   ·rw [UW] at h;exact SeqAt.EqAt.int_str i t y u _ _ _ _ h
  ·rcases fM hv with ⟨j,u,rfl,rfl⟩|⟨y,u,rfl,rfl⟩
   ·rw [UX] at h;exact SeqAt.EqAt.str_int x t j u _ _ _ _ h
   ·rw [UV] at h;exact wpAny_eqBool_str h
 «strs»:=λk x t v h=>by
  rcases fM h with ⟨i,u,rfl,e⟩|⟨y,u,rfl,e⟩
  ·exact nomatch e
  ·injection e with e1 _
   subst e1;cases v<;>rfl
def Hu (prog:aY) (w:bH) (i:Int) (t:SU):(ee prog w).is (.inl i) (.int i t)=true:=ML i t
def Hv (prog:aY) (w:bH) (x:bh) (t:SU):(ee prog w).is (.inr x) (.str x t)=true:=MM x t
end L2
namespace L2
inductive V where
 | non|bl (b:Bool)|int (i:Int)|str (x:bh)|byt (b:Array UInt8)|flt (b:UInt64)|ref (a:af)|ty (n:String)
 deriving DecidableEq
def RelV:V->ai->Prop
 | .non,u=>u=eQ
 | .bl b,u=>u=sG b
 | .int i,u=>∃ t,u=fj i t
 | .str x,u=>∃ t,u=qF x t
 | .byt b,u=>∃ t,u=Value.bytes b t
 | .flt b,u=>∃ t,u=NL b t
 | .ref a,u=>u=aD a
 | .ty n,u=>u=eS n
abbrev Vals:List V->List ai->Prop:=Paired RelV
def Vals.length {xs:List V}{us:List ai}(r:Vals xs us):xs.length=us.length:=xk r
theorem Vals.get:∀ {xs:List V}{us:List ai}{i:Nat}{x:V},Vals xs us->xs[i]?=some x->∃ u,us[i]?=some u/\RelV x u
 | _,_,_,_,.nil,e=>by simp at e
 | _,_,0,_,.cons r _,e=>by simp at e;subst e;exact ⟨_,rfl,r⟩
 | _,_,i+1,x,.cons _ t,e=>by
  obtain ⟨u,h1,h2⟩:=Vals.get (i:=i) (x:=x) t (by simpa using e);exact ⟨u,by simpa using h1,h2⟩
theorem Vals.set {x:V}{u:ai}(r:RelV x u):∀ {xs:List V}{us:List ai}(i:Nat),Vals xs us->Vals (xs.set i x) (us.set i u)
 | _,_,_,.nil=>.nil
 | _,_,0,.cons _ t=>.cons r t
 | _,_,i+1,.cons q t=>.cons q (Vals.set r i t)
theorem Vals.append:∀ {xs ys:List V}{us ws:List ai},Vals xs us->Vals ys ws->Vals (xs++ys) (us++ws)
 | _,_,_,_,.nil,s=>s
 | _,_,_,_,.cons r t,s=>.cons r (Vals.append t s)
theorem Vals.take:∀ {xs:List V}{us:List ai}(n:Nat),Vals xs us->Vals (xs.take n) (us.take n)
 | _,_,0,_=>.nil
 | _,_,_+1,.nil=>.nil
 | _,_,n+1,.cons r t=>.cons r (Vals.take n t)
theorem Vals.drop:∀ {xs:List V}{us:List ai}(n:Nat),Vals xs us->Vals (xs.drop n) (us.drop n)
 | _,_,0,r=>r
 | _,_,_+1,.nil=>.nil
 | _,_,n+1,.cons _ t=>Vals.drop n t
def qb:Option V->Option ai->Prop
 | some v,some u=>RelV v u
 | none,none=>True
 | _,_=>False
def KV {κ:Type}:List (κ×V)->List (κ×ai)->Prop:=Paired λ(p:κ×V) (q:κ×ai)=>p.1=q.1/\RelV p.2 q.2
def kV:fT->V
 | .inl i=>.int i
 | .inr x=>.str x
inductive HO where
  | lst (xs:List V)
  | tup (xs:List V)
  | dK (kvs:List (fT×V))|dT (kvs:List (List fT×V))
  | set (S:Int->Bool) (n:Nat)
  | ins (C dx:af) (fs:List (bh×V))
  | own (x:af)
  | xd (fs:List (bh×V))
  | met (f x:af)
  | rng (lo hi:Int)
  | frz (o:ft) (u:HO)
  | tbl (ps:Array ai)
  | ext (φ:cb->Prop)
abbrev Hp:=af->Option HO
def upd (H:Hp) (a:af) (o:HO):Hp:=λb=>if b=a then some o else H b
def aE {H:Hp}{a:af}{o:HO}:upd H a o a=some o:=by unfold upd;rw [if_pos rfl]
def aH {H:Hp}{a b:af}{o:HO}(h:b≠a):upd H a o b=H b:=by unfold upd;rw [if_neg h]
def gh {H:Hp}{a b:af}{o u:HO}(h:H a=some o) (h':H b=some u) (d:o≠u:=by intro z;cases z):a≠b:=by
 intro e;subst e;rw [h] at h';exact d (aV h')
def aP {H:Hp}{a b:af}{o:HO}(h:H a=some o) (h':H b=none):a≠b:=by
 intro e;subst e;rw [h] at h';cases h'
section
variable (P:aY) (w:bH)
def d9 (H:Hp) (h:cb) (a:af):HO->Prop
 | .lst xs=>xs.length<=aT/\∃ (its:List ai) (n:Nat),Vals xs its/\h.get? a=some { cls:=.type "list",data:=.seq its.toArray n }
 | .tup xs=>xs.length<=aT/\∃ its:List ai,Vals xs its/\pH h a its.toArray
 | .dK kvs=>kvs.length<=aT/\(a == gR)=false/\∃ vs,KV kvs vs/\h.DictOf (ee P w) a vs
 | .dT kvs=>kvs.length<=aT/\(a == gR)=false/\∃ xs:List (List fT×af×ai),
   Paired (λ(p:List fT×V) (q:List fT×af×ai)=>p.1=q.1/\H q.2.1=some (.tup (p.1.map kV))/\RelV p.2 q.2.2) kvs xs /\
   ∃ o es ep,h.get? a=some o/\o.ExactDict/\o.data=.dict es ep/\es.toList=xs.map (entryOfKey (jS (ee P w)))/\(xs.map (·.1)).Nodup
 | .set S n=>h.SetOf (mC P w) a S n
 | .ins C dx fs=>H dx=some (.own a)/\fs.length<=1000/\dx≠a/\h.get? a=some (ij C dx) /\
   ∃ mA,h.Ns1 dx mA/\(∀ f,qb (fs.lookup f) (mA f))/\Lq mA (fs.map (·.1))
 | .own _=>∃ o,h.get? a=some o
 | .xd fs=>∃ mA,h.Ns1 a mA/\∀ f,qb (fs.lookup f) (mA f)
 | .rng lo hi=>∃ t u v,h.get? a=some { cls:=.type "range",data:=.fields #[.int lo t,.int hi u,.int 1 v] }
 | .frz o u=>h.get? a=some o/\d9 H h a u
 | .tbl ps=>h.get? a=some { cls:=.none,data:=.fields ps }
 | .met f x=>h.get? a=some (yE (.ref f) (.ref x))
 | .ext φ=>φ h/\(∃ o,h.get? a=some o)/\∀ h1 h2:cb,φ h1->(∀ o,h1.get? a=some o->h2.get? a=some o)->φ h2
def qv (H:Hp) (h:cb):Prop:=∀ a o,H a=some o->d9 P w H h a o
end
section
variable {P:aY}{w:bH}{H H':Hp}{h h':cb}{a:af}{o:HO}
def d9.lt (x:d9 P w H h a o):a<h.objs.size:=by
 cases o with
 | lst xs=>obtain ⟨_,_,_,_,e⟩:=x;exact aJ e
 | tup xs=>obtain ⟨_,_,_,p⟩:=x;exact p.lt
 | dK kvs=>obtain ⟨_,_,_,_,o,_,_,e,_⟩:=x;exact aJ e
 | dT kvs=>obtain ⟨_,_,_,_,o,_,_,e,_⟩:=x;exact aJ e
 | set S n=>obtain ⟨o,_,_,_,e,_⟩:=x;exact aJ e
 | ins C dx fs=>obtain ⟨_,_,_,e,_⟩:=x;exact aJ e
 | own y=>obtain ⟨_,e⟩:=x;exact aJ e
 | xd fs=>obtain ⟨_,⟨_,_,_,e,_⟩,_⟩:=x;exact aJ e
 | rng lo hi=>obtain ⟨_,_,_,e⟩:=x;exact aJ e
 | frz ob u=>obtain ⟨e,_⟩:=x;exact aJ e
 | tbl ps=>exact aJ (show h.get? a=some _ from x)
 | met f y=>exact aJ (show h.get? a=some _ from x)
 | ext φ=>obtain ⟨_,⟨_,e⟩,_⟩:=x;exact aJ e
theorem Paired.NF {α β:Type} {F G:α->β->Prop}:∀ {l₁:List α} {l₂:List β},Paired F l₁ l₂->(∀ a b,F a b->G a b)->Paired G l₁ l₂
 | _,_,.nil,_=>.nil
 | _,_,.cons r t,f=>.cons (f _ _ r) (Paired.NF t f)
def d9.yB (x:d9 P w H h a o) (k:∀ b u,(b=a\/H b=some (.own a))->h.get? b=some u->h'.get? b=some u)
  (ho:∀ b,H b=some (.own a)->H' b=some (.own a)) (ht:∀ b xs,H b=some (.tup xs)->H' b=some (.tup xs)):d9 P w H' h' a o:=by
 induction o with
 | lst xs=>obtain ⟨z,its,n,r,e⟩:=x;exact ⟨z,its,n,r,k _ _ (.inl rfl) e⟩
 | tup xs=>obtain ⟨z,its,r,ob,e,c⟩:=x;exact ⟨z,its,r,ob,k _ _ (.inl rfl) e,c⟩
 | dK kvs=>obtain ⟨z,y,vs,r,ob,es,ep,e,c⟩:=x;exact ⟨z,y,vs,r,ob,es,ep,k _ _ (.inl rfl) e,c⟩
 | dT kvs =>
  obtain ⟨z,y,xs,r,ob,es,ep,e,c⟩:=x
  exact ⟨z,y,xs,Paired.NF r λp q z=>⟨z.1,ht _ _ z.2.1,z.2.2⟩,ob,es,ep,k _ _ (.inl rfl) e,c⟩
 | set S n=>obtain ⟨ob,es,ep,t,e,c⟩:=x;exact ⟨ob,es,ep,t,k _ _ (.inl rfl) e,c⟩
 | ins C dx fs =>
  obtain ⟨d,z,ne,e,mA,⟨od,es,ep,e2,c⟩,r⟩:=x
  exact ⟨ho _ d,z,ne,k _ _ (.inl rfl) e,mA,⟨od,es,ep,k _ _ (.inr d) e2,c⟩,r⟩
 | own y=>obtain ⟨ob,e⟩:=x;exact ⟨ob,k _ _ (.inl rfl) e⟩
 | xd fs=>obtain ⟨mA,⟨od,es,ep,e,c⟩,r⟩:=x;exact ⟨mA,⟨od,es,ep,k _ _ (.inl rfl) e,c⟩,r⟩
 | rng lo hi=>obtain ⟨t,u,v,e⟩:=x;exact ⟨t,u,v,k _ _ (.inl rfl) e⟩
 | frz ob u ih=>obtain ⟨e,q⟩:=x;exact ⟨k _ _ (.inl rfl) e,ih q⟩
 | tbl ps =>
  have e:h.get? a=some { cls:=.none,data:=.fields ps }:=x
  show h'.get? a=some { cls:=.none,data:=.fields ps }
  exact k a _ (.inl rfl) e
 | met f y =>
  have e:h.get? a=some (yE (.ref f) (.ref y)):=x
  show h'.get? a=some (yE (.ref f) (.ref y))
  exact k a _ (.inl rfl) e
 | ext φ=>obtain ⟨p,⟨o,e⟩,st⟩:=x;exact ⟨st _ _ p λo q=>k _ _ (.inl rfl) q,⟨o,k _ _ (.inl rfl) e⟩,st⟩
def qv.lt (x:qv P w H h) (e:H a=some o):a<h.objs.size:=(x a o e).lt
def qv.fresh (x:qv P w H h) (e:h.objs.size<=a):H a=none:=by
 cases q:H a with
 | none=>rfl
 | some u=>exact absurd (br (x.lt q) e) (eL _)
def qv.kept (x:qv P w H h) (k:∀ b u,h.get? b=some u->h'.get? b=some u):qv P w H h':=λa o e =>
 (x a o e).yB (λb u _ q=>k b u q) (λ_ q=>q) λ_ _ q=>q
def qv.laid (x:qv P w H h) (k:∀ b u,h.get? b=some u->h'.get? b=some u) (hp:h.objs.size<=a) (new:d9 P w (upd H a o) h' a o):qv P w (upd H a o) h':=λb u e=>by
 have hn:=x.fresh hp
 by_cases hb:b=a
 ·subst hb;rw [aE] at e;cases e;exact new
 ·rw [aH hb] at e
  exact (x b u e).yB (λc v _ q=>k c v q) (λc q=>by rw [aH (aP q hn)];exact q) λc xs q=>by rw [aH (aP q hn)];exact q
end
def Rd (H:Hp) (a:af) (u:HO):Prop:=H a=some u\/∃ o,H a=some (.frz o u)
def Rd.ok {P:aY}{w:bH}{H:Hp}{h:cb}{a:af}{u:HO}(r:Rd H a u) (x:qv P w H h):d9 P w H h a u:=by
 rcases r with r|⟨o,r⟩
 ·exact x a u r
 ·obtain ⟨_,q⟩:=x a _ r;exact q
def Xd:Option HO->Prop
 | some (.lst _)=>True
 | some (.dK _)=>True
 | some (.dT _)=>True
 | some (.set _ _)=>True
 | some (.ins _ _ _)=>True
 | some (.ext _)=>True
 | _=>False
section
variable {P:aY}{w:bH}{H:Hp}{h h':cb}{x e:af}{o':HO}
def qv.write (ok:qv P w H h) (mu:Xd (H x)) (he:e=x\/H e=some (.own x)) (k:∀ b u,b≠e->h.get? b=some u->h'.get? b=some u) (heo:∃ u,h'.get? e=some u)
  (new:d9 P w (upd H x o') h' x o'):qv P w (upd H x o') h':=λb u q=>by
 have nown:∀ c y,H c=some (.own y)->c≠x:=λc y r z=>by subst z;rw [r] at mu;exact mu
 have ntup:∀ c xs,H c=some (.tup xs)->c≠x:=λc xs r z=>by subst z;rw [r] at mu;exact mu
 by_cases hb:b=x
 ·subst hb;rw [aE] at q;cases q;exact new
 ·rw [aH hb] at q
  by_cases hbe:b=e
  ·have q':H b=some (.own x):=by
    rcases he with z|z
    ·exact absurd (hbe.trans z) hb
    ·rw [hbe];exact z
   rw [q] at q';cases q';obtain ⟨v,hv⟩:=heo;exact ⟨v,by rw [hbe];exact hv⟩
  ·refine (ok b u q).yB (λc v hc r=>k c v ?_ r) (λc r=>by rw [aH (nown c b r)];exact r) λc xs r=>by rw [aH (ntup c xs r)];exact r
   rcases hc with rfl|hc
   ·exact hbe
   ·rintro rfl
    rcases he with z|z
    ·exact nown c b hc z
    ·rw [hc] at z;cases z;exact hb rfl
end
structure Un (fs ex:List af) (H H':Hp) (h h':cb):Prop where
 keep:∀ b o,h.get? b=some o->H b=none->b∉fs->b∉ex->h'.get? b=some o
 slot:∀ b o,h.get? b=some o->H b=none->b∈fs->b∉ex->∃ sl,h'.get? b=some { o with slots:=sl }
 free:∀ b o,h.get? b=some o->H b=none->b∉ex->H' b=none
 there:∀ b o,h.get? b=some o->b∉ex->∃ o',h'.get? b=some o'
 Ej:∀ b xs,H b=some (.tup xs)->H' b=some (.tup xs)
 CB:∀ b o u,H b=some (.frz o u)->H' b=some (.frz o u)
 CD:∀ b ps,H b=some (.tbl ps)->∃ more,H' b=some (.tbl (ps++more))
section
variable {fs fs' ex ex':List af}{H H1 H2:Hp}{h h1 h2 h':cb}{a x e:af}{o:HO}
def Un.any (u:Un fs ex H H1 h h1) {b:af}{ob:ft}(q:h.get? b=some ob) (n:H b=none) (hx:b∉ex):∃ sl,h1.get? b=some { ob with slots:=sl }:=by
 by_cases hb:b∈fs
 ·exact u.slot b ob q n hb hx
 ·exact ⟨ob.slots,u.keep b ob q n hb hx⟩
def Un.kept (k:∀ b u,h.get? b=some u->h'.get? b=some u):Un fs ex H H h h' :=
 ⟨λb ob q _ _ _=>k b ob q,λb ob q _ _ _=>⟨ob.slots,k b ob q⟩,λ_ _ _ n _=>n,λb ob q _=>⟨ob,k b ob q⟩,λ_ _ q=>q,λ_ _ _ q=>q,λ_ ps q=>⟨#[],by rw [q];simp⟩⟩
def Un.refl:Un fs ex H H h h:=Un.kept λ_ _ q=>q
def Un.laid (k:∀ b u,h.get? b=some u->h'.get? b=some u) (hp:h.objs.size<=a) (hn:H a=none):Un fs ex H (upd H a o) h h' where
 keep:=λb u q _ _ _=>k b u q
 slot:=λb u q _ _ _=>⟨u.slots,k b u q⟩
 free:=λb u q n _=>by rw [aH (a9 (br (aJ q) hp))];exact n
 there:=λb u q _=>⟨u,k b u q⟩
 Ej:=λb xs q=>by rw [aH (aP q hn)];exact q
 CB:=λb u xs q=>by rw [aH (aP q hn)];exact q
 CD:=λb ps q=>⟨#[],by rw [aH (aP q hn),q];simp⟩
def Un.write (mu:Xd (H x)) (he:e=x\/H e=some (.own x)) (k:∀ b u,b≠e->h.get? b=some u->h'.get? b=some u) (heo:∃ u,h'.get? e=some u):Un fs ex H (upd H x o) h h':=by
 have hx:∀ b,H b=none->b≠x:=λb n z=>by subst z;rw [n] at mu;exact mu
 have hb:∀ b,H b=none->b≠e:=λb n z=>by
  subst z
  rcases he with r|r
  ·exact hx b n r
  ·rw [n] at r;cases r
 have hm:∀ b u,H b=some u->¬ Xd (some u)->b≠x:=λb u q nm z=>by subst z;rw [q] at mu;exact nm mu
 refine ⟨λb u q n _ _=>k b u (hb b n) q,λb u q n _ _=>⟨u.slots,k b u (hb b n) q⟩,λb u q n _=>by rw [aH (hx b n)];exact n,λb u q _=>?_,
  λb xs q=>by rw [aH (hm b _ q λz=>z)];exact q,λb u xs q=>by rw [aH (hm b _ q λz=>z)];exact q,λb ps q=>⟨#[],by rw [aH (hm b _ q λz=>z),q];simp⟩⟩
 by_cases hbe:b=e
 ·subst hbe;exact heo
 ·exact ⟨u,k b u hbe q⟩
end
def Y8 (h:cb) (H:Hp):List af:=(c6 h.objs.size).filter λa=>(H a).isSome
def AE (h:cb) (H:Hp):cb:=PySem.W.hideAll h (Y8 h H)
def MN (h:cb) (H:Hp):(AE h H).objs.size=h.objs.size:=PySem.W.hideAll_size _ _
def Oj {h:cb}{H:Hp}{b:af}{o:ft}(e:h.get? b=some o) (n:H b=none):(AE h H).get? b=some o :=
 PySem.W.hideAll_get _ e λhm=>by
  have q:(H b).isSome=true:=(cw.mp hm).2;rw [n] at q;simp at q
def Rw {h:cb}{H:Hp}{b:af}{o:ft}(e:(AE h H).get? b=some o):h.get? b=some o/\H b=none:=by
 have e':h.get? b=some o:=PySem.W.of_hideAll (Y8 h H) e;refine ⟨e',?_⟩
 cases q:H b with
 | none=>rfl
 | some x =>
  have hm:b∈Y8 h H:=cw.mpr ⟨jT.mpr (aJ e'),by simp [q]⟩;have z:(AE h H).get? b=none:=PySem.W.hideAll_none (Y8 h H) hm;rw [z] at e;cases e
def sJ (g h:cb) (L:af):List (af×ft):=(c6 h.objs.size).filterMap λa=>if a=L\/(g.get? a).isSome=true then none else (h.get? a).map λo=>(a,o)
def yK {g h:cb}{L a:af}{o:ft}(h1:a≠L) (h2:g.get? a=none) (h3:h.get? a=some o):(a,o)∈sJ g h L :=
 ou.mpr ⟨a,jT.mpr (aJ h3),by simp [h1,h2,h3]⟩
def AF {g h:cb}{L:af}{p:af×ft}(hp:p∈sJ g h L):p.1≠L/\g.get? p.1=none/\h.get? p.1=some p.2:=by
 obtain ⟨b,_,e⟩:=ou.mp hp
 split at e
 ·cases e
 ·rename_i hn
  cases q:h.get? b with
  | none=>rw [q] at e;simp at e
  | some u =>
   rw [q] at e;simp only [jh,eW] at e;subst e;refine ⟨λz=>hn (.inl z),?_,q⟩
   show g.get? b=none
   cases r:g.get? b with
   | none=>rfl
   | some v=>exact (hn (.inr (by simp [r]))).elim
def Ol {g h:cb}{L:af}:News g L h (sJ g h L):=λp hp=>let ⟨a,b,c⟩:=AF hp;⟨c,a,b⟩
end L2
namespace L2
structure Mod (K:aa) (mg:bh->Option ai) (base:cb):Prop where
 YE:K.In base
 glob:base.Ns bR mg
 blt:∃ mb,base.Ns builtinsNs mb/\∀ x:bh,x≠"__name__"->mb x=dC x
 nolimit:base.NoLimit
structure Cx where
 prog:aY
 w:bH
 K:aa
 mg:bh->Option ai
 base:cb
 A:bN
 N:List bh
 s₀:ak
 H₀:Hp
 env:Ek
 outer:List Ek
 stack:List Ek
 ex:List af
 fn:bh->Bool
 calm:Bool
 pn:List (af×ft)
 xe:ai->ak->Prop
def NK (l:List Ek):List af:=l.filterMap (·.frame)
abbrev Cx.fs (X:Cx):List af:=NK X.outer
def Y9 (sc:jB) (x:bh):Prop:=sc.names.lookup x=some .local\/sc.names.lookup x=some .cell\/sc.names.lookup x=some .free
def Loc (sc:jB) (x:bh):Prop:=sc.names.lookup x=some .local\/sc.names.lookup x=some .cell
def Look (env:Ek) (h:cb) (m:bh->Option ai) (x:bh) (u:ai):Prop :=
 (env.kindOf x=some .local/\m x=some u)\/((env.kindOf x=some .cell\/env.kindOf x=some .free)/\∃ c,env.cells.lookup x=some c/\h.IsCell c (some u))
structure Cx.Ok (X:Cx):Prop where
 mod:Mod X.K X.mg X.base
 kind:X.env.scope.kind=.function
 glob:X.env.globals=bR
 blt:X.env.builtins=builtinsNs
 above:X.s₀.heap.objs.size<=X.env.locals
 inj:∀ x y c,X.env.cells.lookup x=some c->X.env.cells.lookup y=some c->x=y
 has:∀ x,(X.env.kindOf x=some .cell\/X.env.kindOf x=some .free)->∃ c,X.env.cells.lookup x=some c
 WV:∀ x c,X.fn x=true->X.env.cells.lookup x=some c->X.s₀.heap.objs.size<=c
 hd:X.calm=true->X.A.handled=none
 frames:X.A.frames=some X.stack
 YF:X.stack=X.outer\/(X.stack=X.env::X.outer/\X.env.frame=some X.env.locals)
 Zo:∀ b∈X.ex,b≠X.env.locals/\∀ x c,X.env.cells.lookup x=some c->c≠b
 bs:∀ b o,X.base.get? b=some o->X.s₀.heap.get? b=some o/\X.H₀ b=none
 QR:X.base.objs.size<=X.s₀.heap.objs.size
 NJ:∀ b o,X.base.get? b=some o->b∉X.ex
 NC:∀ b∈X.ex,b∉X.fs
 yD:X.s₀.heap.FunFrames X.base X.outer
 Uu:∀ b∈X.fs,X.H₀ b=none
structure Inv (X:Cx) (pins:List (af×ft)) (Z:List (Option V)) (H:Hp) (s:ak):Prop where
 ok:X.Ok
 os:s.os=X.s₀.os
 bare:xm s.gens
 base:Un X.fs X.ex X.H₀ H X.s₀.heap s.heap
 loc:∃ m,s.heap.Ns X.env.locals m/\∀ (i:Nat) (x:bh) (v:V),X.N[i]?=some x->Z[i]?=some (some v)->Y9 X.env.scope x->∃ u,RelV v u/\Look X.env s.heap m x u
 cell:∀ x c,X.env.cells.lookup x=some c->∃ v,s.heap.IsCell c v
 free:H X.env.locals=none
 sE:∀ x c,X.env.cells.lookup x=some c->H c=none
 pin:∀ p∈X.pn++pins,s.heap.get? p.1=some p.2/\H p.1=none/\p.1≠X.env.locals/\p.1∉X.fs/\∀ v,p.2.data≠.cell v
 eC:qv X.prog X.w H s.heap
 len:Z.length=X.N.length
section
variable {X:Cx}{pins:List (af×ft)}{Z:List (Option V)}{H H':Hp}{s:ak}{h':cb}
def Cx.Ok.nofr (ok:X.Ok) {b:af}{o:ft}(e:X.base.get? b=some o):b∉X.fs:=λhb=>by
 have:=(ok.yD.mem hb).1;rw [e] at this;cases this
def Inv.bs (I:Inv X pins Z H s):∀ b o,X.base.get? b=some o->s.heap.get? b=some o/\H b=none:=λb o e =>
 ⟨I.base.keep b o (I.ok.bs b o e).1 (I.ok.bs b o e).2 (I.ok.nofr e) (I.ok.NJ b o e),I.base.free b o (I.ok.bs b o e).1 (I.ok.bs b o e).2 (I.ok.NJ b o e)⟩
def Inv.bk (I:Inv X pins Z H s):∀ b o,X.base.get? b=some o->s.heap.get? b=some o:=λb o e=>(I.bs b o e).1
def Inv.mod (I:Inv X pins Z H s):Mod X.K X.mg X.base:=I.ok.mod
def Inv.Ab (I:Inv X pins Z H s):X.K.In s.heap:=I.ok.mod.YE.keeps I.bk
def Inv.fr (I:Inv X pins Z H s):∃ m,Fr X.base X.env.locals s.heap m :=
 let ⟨m,hn,_⟩:=I.loc
 ⟨m,hn,I.bk,bf I.ok.QR I.ok.above⟩
def Inv.lt (I:Inv X pins Z H s):X.env.locals<s.heap.objs.size:=let ⟨_,hn,_⟩:=I.loc;hn.lt
def Inv.sz (I:Inv X pins Z H s):X.s₀.heap.objs.size<=s.heap.objs.size:=bf I.ok.above (kx I.lt)
def Inv.nofs (I:Inv X pins Z H s) {a:af}(h:s.heap.objs.size<=a):a∉X.fs:=λhb=>by
 obtain ⟨_,o,ho,_⟩:=I.ok.yD.mem hb;exact absurd (br (aJ ho) (bf I.sz h)) (eL _)
def Inv.Wj (I:Inv X pins Z H s):∀ x c,X.env.cells.lookup x=some c->c≠X.env.locals:=λx c e z=>by
 obtain ⟨v,o,ho,hd⟩:=I.cell x c e;obtain ⟨m,⟨o',es,ep,ho',hd',_⟩,_⟩:=I.loc;rw [z,ho'] at ho;cases ho;rw [hd'] at hd;cases hd
def Inv.yD (I:Inv X pins Z H s):s.heap.FunFrames X.base X.outer:=by
 have all:∀ (l:List Ek),(∀ b∈NK l,b∈X.fs)->X.s₀.heap.FunFrames X.base l->s.heap.FunFrames X.base l:=by
  intro l
  induction l with
  | nil=>intro _ _;trivial
  | cons env r ih =>
   intro hs hl;obtain ⟨hk,⟨L,o,hf,hn,ho,hd⟩,hr⟩:=hl;have hL:L∈X.fs:=hs L (by unfold NK;rw [xu,hf];exact aw);obtain ⟨sl,e⟩:=I.base.slot L o ho (I.ok.Uu L hL) hL λz=>I.ok.NC L z hL;exact ⟨hk,⟨L,_,hf,hn,e,hd⟩,ih (λb hb=>hs b (by unfold NK;rw [xu,hf];exact aj _ hb)) hr⟩
 exact all X.outer (λ_ hb=>hb) I.ok.yD
def Inv.stack (I:Inv X pins Z H s):s.heap.FunFrames X.base X.stack:=by
 rcases I.ok.YF with e|⟨e,hf⟩
 ·rw [e];exact I.yD
 ·rw [e];obtain ⟨m,hn,_⟩:=I.loc;refine .cons (by rw [I.ok.kind];decide) hf hn ?_ I.yD;exact N7 (bf I.ok.QR I.ok.above)
def Inv.Lm (I:Inv X pins Z H s):∀ b∈NK X.stack,b∈X.env.locals::X.fs:=λb hb=>by
 rcases I.ok.YF with e|⟨e,hf⟩
 ·rw [e] at hb;exact aj _ hb
 ·rw [e] at hb;unfold NK at hb;rw [xu,hf] at hb;exact hb
def Inv.Mz (I:Inv X pins Z H s):∀ b∈NK X.stack,H b=none:=λb hb=>by
 rcases av.mp (I.Lm b hb) with e|hb
 ·rw [e];exact I.free
 ·obtain ⟨_,o,ho,_⟩:=I.ok.yD.mem hb;exact I.base.free b o ho (I.ok.Uu b hb) λz=>I.ok.NC b z hb
def Inv.step {g':Array Wv}{t':Nat}{d':Drawn}{ch:List af}(I:Inv X pins Z H s)
  (hch:∀ b∈ch,(b∈X.ex\/X.s₀.heap.objs.size<=b)/\b≠X.env.locals/\(∀ x c,X.env.cells.lookup x=some c->c≠b)/\∀ p∈X.pn++pins,p.1≠b)
  (keep:∀ b o,b≠X.env.locals->b∉X.fs->b∉ch->s.heap.get? b=some o->H b=none->h'.get? b=some o)
  (slot:∀ b o,b≠X.env.locals->b∈X.fs->b∉ch->s.heap.get? b=some o->H b=none->∃ sl,h'.get? b=some { o with slots:=sl }) (free:∀ b o,b∉ch->s.heap.get? b=some o->H b=none->H' b=none)
  (there:∀ b o,b∉ch->s.heap.get? b=some o->∃ o',h'.get? b=some o')
  (Ej:∀ b xs,H b=some (.tup xs)->H' b=some (.tup xs)) (CB:∀ b o u,H b=some (.frz o u)->H' b=some (.frz o u)) (CD:∀ b ps,H b=some (.tbl ps)->∃ more,H' b=some (.tbl (ps++more)))
  (ns:∀ m,s.heap.Ns X.env.locals m->h'.Ns X.env.locals m) (eC:qv X.prog X.w H' h') (hg:xm g') :
  Inv X pins Z H' { s with heap:=h',gens:=g',drawn:=d',toks:=t' }:=by
 have neL:∀ b o,X.s₀.heap.get? b=some o->b≠X.env.locals:=λb o e=>a9 (br (aJ e) I.ok.above)
 have neC:∀ b o,X.s₀.heap.get? b=some o->b∉X.ex->b∉ch:=λb o e hx hb=>by
  rcases (hch b hb).1 with z|z
  ·exact hx z
  ·exact absurd (br (aJ e) z) (eL _)
 have cellK:∀ x c,X.env.cells.lookup x=some c->∀ v,s.heap.IsCell c v->h'.IsCell c v:=λx c e v ⟨o,ho,hd⟩=>by
  have nch:c∉ch:=λz=>(hch c z).2.2.1 x c e rfl
  by_cases hc:c∈X.fs
  ·obtain ⟨sl,q⟩:=slot c o (I.Wj x c e) hc nch ho (I.sE x c e);exact ⟨_,q,hd⟩
  ·exact ⟨o,keep c o (I.Wj x c e) hc nch ho (I.sE x c e),hd⟩
 refine ⟨I.ok,I.os,hg,⟨λb o e n hb hx=>?_,λb o e n hb hx=>?_,λb o e n hx=>?_,λb o e hx=>?_,λb xs e=>Ej b xs (I.base.Ej b xs e),λb o xs e=>CB b o xs (I.base.CB b o xs e),λb ps e=>?_⟩,?_,λx c e=>?_,?_,λx c e=>?_,λp hp=>?_,eC,I.len⟩
 ·exact keep b o (neL b o e) hb (neC b o e hx) (I.base.keep b o e n hb hx) (I.base.free b o e n hx)
 ·obtain ⟨sl,e1⟩:=I.base.slot b o e n hb hx;obtain ⟨sl',e2⟩:=slot b _ (neL b o e) hb (neC b o e hx) e1 (I.base.free b o e n hx);exact ⟨sl',e2⟩
 ·obtain ⟨o',e1⟩:=I.base.there b o e hx;exact free b o' (neC b o e hx) e1 (I.base.free b o e n hx)
 ·obtain ⟨o',e1⟩:=I.base.there b o e hx;exact there b o' (neC b o e hx) e1
 ·obtain ⟨m1,e1⟩:=I.base.CD b ps e;obtain ⟨m2,e2⟩:=CD b _ e1;exact ⟨m1++m2,by rw [e2,yF]⟩
 ·obtain ⟨m,hn,hl⟩:=I.loc;refine ⟨m,ns m hn,λi x v e1 e2 e3=>?_⟩;obtain ⟨u,r,l⟩:=hl i x v e1 e2 e3;refine ⟨u,r,?_⟩
  rcases l with l|⟨k,c,e,z⟩
  ·exact .inl l
  ·exact .inr ⟨k,c,e,cellK x c e _ z⟩
 ·obtain ⟨v,z⟩:=I.cell x c e;exact ⟨v,cellK x c e v z⟩
 ·obtain ⟨m,⟨o,_,_,ho,_⟩,_⟩:=I.loc;exact free _ o (λz=>(hch _ z).2.1 rfl) ho I.free
 ·obtain ⟨v,o,ho,hd⟩:=I.cell x c e;exact free c o (λz=>(hch c z).2.2.1 x c e rfl) ho (I.sE x c e)
 ·obtain ⟨e,n,ne,nf,d⟩:=I.pin p hp;have nch:p.1∉ch:=λz=>(hch p.1 z).2.2.2 p hp rfl;exact ⟨keep p.1 p.2 ne nf nch e n,free p.1 p.2 nch e n,ne,nf,d⟩
def Inv.un {t':Nat}(I:Inv X pins Z H s) (u:Un X.fs [] H H' s.heap h') (eC:qv X.prog X.w H' h'):Inv X pins Z H' { s with heap:=h',toks:=t' }:=by
 obtain ⟨m,⟨o,es,ep,ho,r⟩,_⟩:=id I.loc;obtain ⟨sl,hL⟩:=u.any ho I.free (by simp)
 exact I.step (g':=s.gens) (d':=s.drawn) (ch:=[]) (λ_ z=>nomatch z) (λb o _ hb _ e n=>u.keep b o e n hb (by simp)) (λb o _ hb _ e n=>u.slot b o e n hb (by simp)) (λb o _ e n=>u.free b o e n (by simp)) (λb o _ e=>u.there b o e (by simp)) u.Ej u.CB u.CD (λm' hm=>by
  obtain ⟨o',es',ep',ho',r'⟩:=hm;rw [ho] at ho';cases ho'
  exact ⟨_,es',ep',hL,r'⟩) eC I.bare
def Inv.call {g':Array Wv}{t':Nat}{d':Drawn}{ch:List af}(I:Inv X pins Z H s) (u:Un (NK X.stack) ch H H' s.heap h') (eC:qv X.prog X.w H' h') (hg:xm g')
  (hch:∀ b∈ch,(b∈X.ex\/X.s₀.heap.objs.size<=b)/\b≠X.env.locals/\(∀ x c,X.env.cells.lookup x=some c->c≠b)/\∀ p∈X.pn++pins,p.1≠b) :
  Inv X pins Z H' { s with heap:=h',gens:=g',drawn:=d',toks:=t' }:=by
 obtain ⟨m,⟨o,es,ep,ho,r⟩,_⟩:=id I.loc;obtain ⟨sl,hL⟩:=u.any ho I.free λz=>(hch _ z).2.1 rfl
 exact I.step (ch:=ch) hch (λb o hL hb hc e n=>u.keep b o e n (λz=>(av.mp (I.Lm b z)).elim hL hb) hc) (λb o _ _ hc e n=>u.any e n hc) (λb o hc e n=>u.free b o e n hc) (λb o hc e=>u.there b o e hc) u.Ej u.CB u.CD (λm' hm=>by
  obtain ⟨o',es',ep',ho',r'⟩:=hm;rw [ho] at ho';cases ho'
  exact ⟨_,es',ep',hL,r'⟩) eC hg
def Inv.turned {t':Nat}{it:af}(I:Inv X pins Z H s) (k:∀ b o,b≠it->s.heap.get? b=some o->h'.get? b=some o) (hn:H it=none) (hL:it≠X.env.locals)
  (h1:it∈X.ex\/X.s₀.heap.objs.size<=it) (h2:∀ x c,X.env.cells.lookup x=some c->c≠it) (h3:∀ p∈X.pn++pins,p.1≠it):Inv X pins Z H { s with heap:=h',toks:=t' }:=by
 have nit:∀ b u,H b=some u->b≠it:=λb u e z=>by rw [z,hn] at e;cases e
 refine I.step (g':=s.gens) (d':=s.drawn) (ch:=[it]) (λb hb=>?_) (λb o _ _ hc e _=>k b o (λz=>hc (by simp [z])) e) (λb o _ _ hc e _=>⟨o.slots,k b o (λz=>hc (by simp [z])) e⟩) (λ_ _ _ _ n=>n)
  (λb o hc e=>⟨o,k b o (λz=>hc (by simp [z])) e⟩) (λ_ _ e=>e) (λ_ _ _ e=>e) (λb ps e=>⟨#[],by rw [e];simp⟩) (λm hm=>?_) (λb u e=>?_) I.bare
 ·have e:b=it:=by simpa using hb
  subst e;exact ⟨h1,hL,h2,h3⟩
 ·obtain ⟨o,es,ep,ho,r⟩:=hm;exact ⟨o,es,ep,k _ o (Ne.symm hL) ho,r⟩
 ·refine (I.eC b u e).yB (λc v hc q=>k c v ?_ q) (λ_ q=>q) λ_ _ q=>q
  rcases hc with z|z
  ·rw [z];exact nit b u e
  ·exact nit c _ z
def Inv.tok (I:Inv X pins Z H s) (t:Nat):Inv X pins Z H { s with toks:=t }:=I.un (h':=s.heap) (t':=t) Un.refl I.eC
def Inv.kept {t':Nat}(I:Inv X pins Z H s) (k:∀ b u,s.heap.get? b=some u->h'.get? b=some u):Inv X pins Z H { s with heap:=h',toks:=t' }:=I.un (Un.kept k) (I.eC.kept k)
def Inv.laid {a:af}{o:HO}{t':Nat}(I:Inv X pins Z H s) (k:∀ b u,s.heap.get? b=some u->h'.get? b=some u) (hp:s.heap.objs.size<=a) (new:d9 X.prog X.w (upd H a o) h' a o) :
  Inv X pins Z (upd H a o) { s with heap:=h',toks:=t' }:=I.un (Un.laid k hp (I.eC.fresh hp)) (I.eC.laid k hp new)
def Inv.write {x e:af}{o:HO}{t':Nat}(I:Inv X pins Z H s) (mu:Xd (H x)) (he:e=x\/H e=some (.own x)) (k:∀ b u,b≠e->s.heap.get? b=some u->h'.get? b=some u) (heo:∃ u,h'.get? e=some u)
  (new:d9 X.prog X.w (upd H x o) h' x o):Inv X pins Z (upd H x o) { s with heap:=h',toks:=t' }:=I.un (Un.write mu he k heo) (I.eC.write mu he k heo new)
def Inv.MC {pins':List (af×ft)}(I:Inv X pins Z H s) (h:∀ p∈pins',s.heap.get? p.1=some p.2/\H p.1=none/\p.1≠X.env.locals/\p.1∉X.fs/\∀ v,p.2.data≠.cell v):Inv X pins' Z H s :=
 ⟨I.ok,I.os,I.bare,I.base,I.loc,I.cell,I.free,I.sE,λp hp=>(aN.mp hp).elim (λz=>I.pin p (dQ _ z)) (h p),I.eC,I.len⟩
def Hw {N:List bh}(hN:N.Nodup) {i j:Nat}{x:bh}(a:N[i]?=some x) (b:N[j]?=some x):i=j:=by
 obtain ⟨h1,e1⟩:=aC.mp a;obtain ⟨h2,e2⟩:=aC.mp b;exact (List.getElem_inj hN).mp (e1.trans e2.symm)
def Ep {M:Model}{A:bN}{E:ai->ak->Prop}{i:Nat}{x:bh}{v:V}{u:ai}{Q:Unit->ak->Prop}(I:Inv X pins Z H s) (hN:X.N.Nodup) (hi:X.N[i]?=some x) (hx:Loc X.env.scope x) (r:RelV v u)
  (h:∀ s',Inv X pins (Z.set i (some v)) H s'->(∃ a,gN a s.heap s'.heap/\(a=X.env.locals\/X.env.cells.lookup x=some a))->Q () s') (hf:X.fn x=true\/X.env.scope.names.lookup x=some .local:=by first|exact .inl rfl|exact .inr rfl|assumption):aG M A (storeName X.env x u) Q E s:=by
 obtain ⟨m,hn,hl⟩:=id I.loc
 have hcls:(X.env.scope.kind == .class || (X.env.scope.kind == .module && X.env.locals != X.env.globals))=false:=by rw [I.ok.kind];rfl
 have hiσ:i<Z.length:=by rw [I.len];exact (aC.mp hi).1
 have Wj:=I.Wj
 have tracked:∀ {a:af}{h':cb},(∃ o,s.heap.get? a=some o/\H a=none)->gN a s.heap h'->qv X.prog X.w H h':=λ{a h'} ha hs b ob e=>by
  obtain ⟨_,_,hfree⟩:=ha;refine (I.eC b ob e).yB (λc w' hc q=>(hs.2 c ?_).trans q) (λ_ q=>q) λ_ _ q=>q;rintro rfl
  rcases hc with rfl|hc
  ·rw [hfree] at e;cases e
  ·rw [hfree] at hc;cases hc
 rcases hx with hk|hk
 ·refine wpAny_storeName_local hk hn (λh' hn' hs=>?_) hcls;obtain ⟨oL,_,_,hoL,_⟩:=id hn;refine h _ ⟨I.ok,I.os,I.bare,⟨λb o e n hb hx=>?_,λb o e n hb hx=>?_,I.base.free,λb o e hx=>?_,I.base.Ej,I.base.CB,I.base.CD⟩,⟨_,hn',λj y v' e1 e2 e3=>?_⟩,λy c e=>?_,I.free,I.sE,λp hp=>?_,tracked ⟨oL,hoL,I.free⟩ hs,by simpa using I.len⟩ ⟨_,hs,.inl rfl⟩
  ·exact (hs.2 b (a9 (br (aJ e) I.ok.above))).trans (I.base.keep b o e n hb hx)
  ·obtain ⟨sl,e1⟩:=I.base.slot b o e n hb hx;exact ⟨sl,(hs.2 b (a9 (br (aJ e) I.ok.above))).trans e1⟩
  ·obtain ⟨o',e1⟩:=I.base.there b o e hx;exact ⟨o',(hs.2 b (a9 (br (aJ e) I.ok.above))).trans e1⟩
  ·by_cases hj:j=i
   ·subst hj;rw [hi] at e1;cases e1;rw [ji hiσ] at e2;cases e2;exact ⟨u,r,.inl ⟨hk,by simp⟩⟩
   ·rw [mQ (Ne.symm hj)] at e2;obtain ⟨u',r',q⟩:=hl j y v' e1 e2 e3;refine ⟨u',r',?_⟩
    rcases q with ⟨k,e⟩|⟨k,c,e,z⟩
    ·refine .inl ⟨k,?_⟩;have:y≠x:=λe=>hj (Hw hN e1 (e▸hi));simp [this,e]
    ·exact .inr ⟨k,c,e,z.sameBut hs (Wj y c e)⟩
  ·obtain ⟨w',z⟩:=I.cell y c e;exact ⟨w',z.sameBut hs (Wj y c e)⟩
  ·obtain ⟨e,n,ne,nf,d⟩:=I.pin p hp;exact ⟨(hs.2 p.1 ne).trans e,n,ne,nf,d⟩
 ·have hfn:X.fn x=true:=by
   rcases hf with z|z
   ·exact z
   ·rw [z] at hk;cases hk
  obtain ⟨c,hc⟩:=I.ok.has x (.inl hk);obtain ⟨w',z⟩:=I.cell x c hc;refine wpAny_storeName_cell I.ok.kind hk hc z (λh' hc' hs=>?_);obtain ⟨oc,hoc,hocd⟩:=id z;refine h { s with heap:=h' } ⟨I.ok,I.os,I.bare,⟨λb o e n hb hx=>?_,λb o e n hb hx=>?_,I.base.free,λb o e hx=>?_,I.base.Ej,I.base.CB,I.base.CD⟩,⟨m,hn.sameBut hs (Ne.symm (Wj x c hc)),λj y v' e1 e2 e3=>?_⟩,λy c' e=>?_,I.free,I.sE,λp hp=>?_,tracked ⟨oc,hoc,I.sE x c hc⟩ hs,by simpa using I.len⟩ ⟨c,hs,.inr hc⟩
  ·exact (hs.2 b (a9 (br (aJ e) (I.ok.WV x c hfn hc)))).trans (I.base.keep b o e n hb hx)
  ·obtain ⟨sl,e1⟩:=I.base.slot b o e n hb hx;exact ⟨sl,(hs.2 b (a9 (br (aJ e) (I.ok.WV x c hfn hc)))).trans e1⟩
  ·obtain ⟨o',e1⟩:=I.base.there b o e hx;exact ⟨o',(hs.2 b (a9 (br (aJ e) (I.ok.WV x c hfn hc)))).trans e1⟩
  ·by_cases hj:j=i
   ·subst hj;rw [hi] at e1;cases e1;rw [ji hiσ] at e2;cases e2;exact ⟨u,r,.inr ⟨.inl hk,c,hc,hc'⟩⟩
   ·rw [mQ (Ne.symm hj)] at e2;obtain ⟨u',r',q⟩:=hl j y v' e1 e2 e3;refine ⟨u',r',?_⟩
    rcases q with q|⟨k,c',e,z'⟩
    ·exact .inl q
    ·refine .inr ⟨k,c',e,z'.sameBut hs ?_⟩;rintro rfl;exact hj (Hw hN e1 (I.ok.inj _ _ _ e hc▸hi))
  ·by_cases hcc:c'=c
   ·subst hcc;exact ⟨_,hc'⟩
   ·obtain ⟨w2,z2⟩:=I.cell y c' e;exact ⟨w2,z2.sameBut hs hcc⟩
  ·obtain ⟨e,n,ne,nf,d⟩:=I.pin p hp;refine ⟨(hs.2 p.1 ?_).trans e,n,ne,nf,d⟩;intro q;rw [q,hoc] at e;have q':oc=p.2:=aV e;exact d w' (by rw [← q'];exact hocd)
def AG {M:Model}{A:bN}{E:ai->ak->Prop}{i:Nat}{x:bh}{v:V}{u:ai}{Q:Unit->ak->Prop}(I:Inv X pins Z H s) (hN:X.N.Nodup) (hi:X.N[i]?=some x) (hx:Loc X.env.scope x) (r:RelV v u)
  (h:∀ s',Inv X pins (Z.set i (some v)) H s'->Q () s') (hf:X.fn x=true\/X.env.scope.names.lookup x=some .local:=by first|exact .inl rfl|exact .inr rfl|assumption):aG M A (storeName X.env x u) Q E s :=
 Ep I hN hi hx r (λs' I' _=>h s' I') hf
def Inv.YA {s':ak}{ch:List af}(I:Inv X pins Z H s) (ho:s'.os=s.os) (u:Un (NK X.stack) ch H H' s.heap s'.heap) (eC:qv X.prog X.w H' s'.heap) (hg:xm s'.gens)
  (hch:∀ b∈ch,(b∈X.ex\/X.s₀.heap.objs.size<=b)/\b≠X.env.locals/\(∀ x c,X.env.cells.lookup x=some c->c≠b)/\∀ p∈X.pn++pins,p.1≠b):Inv X pins Z H' s':=by
 obtain ⟨h',g',d',t',o'⟩:=s';have e:o'=s.os:=ho;subst e;exact I.call (g':=g') (t':=t') (d':=d') u eC hg hch
end
abbrev XK:=ai->Option af->Hp->Prop
abbrev St:=List (Option V)
abbrev VK:=V->Hp->Prop
abbrev TE:=St->Hp->VK->Prop
abbrev TT:=St->Hp->(Bool->Hp->Prop)->Prop
abbrev TA:=St->Hp->(List V->Hp->Prop)->Prop
structure qO where
 nx:St->Hp->Prop
 rt:VK
 bk:St->Hp->Prop:=λ_ _=>False
 ct:St->Hp->Prop:=λ_ _=>False
abbrev TS:=qO->St->Hp->Prop
def EP (X:Cx) (pins:List (af×ft)) (Z:St) (Q:VK) (u:ai) (s':ak):Prop:=∃ v H',Inv X pins Z H' s'/\RelV v u/\Q v H'
def TP (X:Cx) (pins:List (af×ft)) (Z:St) (Q:Bool->Hp->Prop) (b:Bool) (s':ak):Prop:=∃ H',Inv X pins Z H' s'/\Q b H'
def AP (X:Cx) (pins:List (af×ft)) (Z:St) (Q:List V->Hp->Prop) (us:List ai) (s':ak):Prop:=∃ vs H',Inv X pins Z H' s'/\Vals vs us/\Q vs H'
def SP (X:Cx) (pins:List (af×ft)) (D:qO) (f:Flow) (s':ak):Prop :=
 match f with
 | .next=>∃ σ' H',Inv X pins σ' H' s'/\D.nx σ' H'
 | .brk=>∃ σ' H',Inv X pins σ' H' s'/\D.bk σ' H'
 | .cont=>∃ σ' H',Inv X pins σ' H' s'/\D.ct σ' H'
 | .ret u=>∃ v σ' H',Inv X pins σ' H' s'/\RelV v u/\D.rt v H'
def PE (X:Cx) (e:Expr) (t:TE):Prop :=
 ∀ (pins:List (af×ft)) (s:ak) (Z:St) (H:Hp) (Q:VK),Inv X pins Z H s->t Z H Q->aG (aM X.prog X.w) X.A (eN e X.env) (EP X pins Z Q) X.xe s
def PT (X:Cx) (e:Expr) (t:TT):Prop :=
 ∀ (pins:List (af×ft)) (s:ak) (Z:St) (H:Hp) (Q:Bool->Hp->Prop),Inv X pins Z H s->t Z H Q->aG (aM X.prog X.w) X.A (isTrue e X.env (eN e X.env)) (TP X pins Z Q) X.xe s
def PW (X:Cx) (e:Expr) (t:TT):Prop :=
 ∀ (whole:SV ai) (pins:List (af×ft)) (s:ak) (Z:St) (H:Hp) (Q:Bool->Hp->Prop),Inv X pins Z H s->t Z H Q->aG (aM X.prog X.w) X.A (isTrue e X.env whole) (TP X pins Z Q) X.xe s
def PW.pt {X:Cx}{e:Expr}{t:TT}(h:PW X e t):PT X e t:=h _
def PA (X:Cx) (es:List Expr) (t:TA):Prop :=
 ∀ (pos:kM) (pins:List (af×ft)) (s:ak) (Z:St) (H:Hp) (Q:List V->Hp->Prop),Inv X pins Z H s->t Z H Q->aG (aM X.prog X.w) X.A (spliced (gm pos (bF es X.env))) (AP X pins Z Q) X.xe s
def PS (X:Cx) (st:dk) (t:TS):Prop :=
 ∀ (pins:List (af×ft)) (s:ak) (Z:St) (H:Hp) (D:qO),Inv X pins Z H s->t D Z H->aG (aM X.prog X.w) X.A (exec st X.env) (SP X pins D) X.xe s
def JS (X:Cx) (st:List dk) (t:TS):Prop :=
 ∀ (pins:List (af×ft)) (s:ak) (Z:St) (H:Hp) (D:qO),Inv X pins Z H s->t D Z H->aG (aM X.prog X.w) X.A (execs st X.env) (SP X pins D) X.xe s
def gP {α:Type} {t:SV α}{Q Q':α->ak->Prop}{M:Model}{A:bN}{E:ai->ak->Prop}{s:ak}(h:aG M A t Q E s) (hQ:∀ a s,Q a s->Q' a s):aG M A t Q' E s:=dH h hQ λ_ _ x=>x
end L2
namespace L2
section
variable {X:Cx}
def aq (i:Nat):TE:=λZ H Q=>∃ v,Z[i]?=some (some v)/\Q v H
def tC (v:V):TE:=λ_ H Q=>Q v H
def UY {i:Nat}{x:bh}{pos:kM}(hN:X.N[i]?=some x) (hv:Y9 X.env.scope x) (hd:(x == ("__debug__":bh))=false:=by decide) (hcd:(x == ("__classdict__":bh))=false:=by decide):PE X (.Name x pos) (aq i):=by
 intro pins s Z H Q I h;obtain ⟨v,e,h⟩:=h;obtain ⟨m,hn,hl⟩:=I.loc;obtain ⟨u,r,l⟩:=hl i x v hN e hv
 have fin:EP X pins Z Q u s:=⟨v,H,I,r,h⟩
 rcases l with ⟨hk,hm⟩|⟨hk,c,hc,hcell⟩
 ·exact qG (kK I.ok.kind hk hn hm fin) hd
 ·rcases hk with hk|hk
  ·exact qG (WY I.ok.kind hk hc hcell fin) hd
  ·exact qG (WZ I.ok.kind hk hc hcell fin hcd) hd
def cH {i j pos}:PE X (.Constant (.int i) j pos) (tC (.int i)):=λ_ _ _ H _ I h=>wpAny_Constant_int ⟨.int i,H,I.tok _,⟨_,rfl⟩,h⟩
def Xe {b j pos}:PE X (.Constant (.bool b) j pos) (tC (.bl b)):=λ_ _ _ H _ I h=>Constant_bool ⟨.bl b,H,I,rfl,h⟩
def UZ {j pos}:PE X (.Constant .none j pos) (tC .non):=λ_ _ _ H _ I h=>Q1 ⟨.non,H,I,rfl,h⟩
def Gl (X:Cx) (x:bh):Prop:=X.env.kindOf x=some .globalImplicit
def Fl {E:ai->ak->Prop}{pins:List (af×ft)}{s:ak}{Z:St}{H:Hp}{x:bh}{u:ai}{pos:kM}{Q:ai->ak->Prop}(I:Inv X pins Z H s) (hg:Gl X x) (hm:X.mg x=some u) (h:Q u s)
  (hd:(x == ("__debug__":bh))=false:=by decide):aG (aM X.prog X.w) X.A (eN (.Name x pos) X.env) Q E s :=
 GY I.ok.kind hg (Calls.loadGlobal_global (by rw [I.ok.glob];exact I.mod.glob.keeps I.bk) hm h) hd
def nW {E:ai->ak->Prop}{pins:List (af×ft)}{s:ak}{Z:St}{H:Hp}{x:bh}{u:ai}{pos:kM}{Q:ai->ak->Prop}(I:Inv X pins Z H s) (hg:Gl X x) (hm:X.mg x=none) (hv:dC x=some u) (h:Q u s)
  (hn:x≠"__name__":=by decide) (hd:(x == ("__debug__":bh))=false:=by decide):aG (aM X.prog X.w) X.A (eN (.Name x pos) X.env) Q E s:=by
 obtain ⟨mb,h1,h2⟩:=I.mod.blt;exact GY I.ok.kind hg (Calls.loadGlobal_builtin (by rw [I.ok.glob];exact I.mod.glob.keeps I.bk) hm (by rw [I.ok.blt];exact h1.keeps I.bk) ((h2 x hn).trans hv) h) hd
def Ry {x:bh}{v:V}{u:ai}{pos:kM}(hg:Gl X x) (hm:X.mg x=some u) (r:RelV v u) (hd:(x == ("__debug__":bh))=false:=by decide):PE X (.Name x pos) (tC v) :=
 λ_ _ _ H _ I h=>Fl I hg hm ⟨v,H,I,r,h⟩ hd
def Fn {x:bh}{v:V}{u:ai}{pos:kM}(hg:Gl X x) (hm:X.mg x=none) (hv:dC x=some u) (r:RelV v u) (hn:x≠"__name__":=by decide) (hd:(x == ("__debug__":bh))=false:=by decide):PE X (.Name x pos) (tC v) :=
 λ_ _ _ H _ I h=>nW I hg hm hv ⟨v,H,I,r,h⟩ hn hd
variable {a b:Expr}{ta tb:TE}{pos:kM}
def PC (X:Cx) (op:Rh) (a b:Expr) (t:TE):Prop :=
 ∀ (pins:List (af×ft)) (s:ak) (Z:St) (H:Hp) (Q:VK),Inv X pins Z H s->t Z H Q ->
  aG (aM X.prog X.w) X.A (eN a X.env) (λv s₁=>aG (aM X.prog X.w) X.A (eN b X.env) (λu s₂=>aG (aM X.prog X.w) X.A (df op v u) (EP X pins Z Q) X.xe s₂) X.xe s₁) X.xe s
def Hx (b:Expr) {op:Rh}(h:op≠.In) (h2:op≠.NotIn):jU op b=false:=by
 have e1:(op == CmpOp.In)=false:=by cases op<;>first|rfl|exact absurd rfl h
 have e2:(op == CmpOp.NotIn)=false:=by cases op<;>first|rfl|exact absurd rfl h2
 cases b<;>simp [jU,e1,e2]
def Rz (ta:TE):TE:=λZ H Q=>ta Z H λx H1=>Q (.bl (decide (x=.non))) H1
def Om (ta:TE):TE:=λZ H Q=>ta Z H λx H1=>Q (.bl (!decide (x=.non))) H1
def RelV.JF {x:V}{v:ai}(r:RelV x v):(v == eQ)=decide (x=.non):=by
 cases x with
 | non=>cases r;rfl
 | bl _=>cases r;rfl
 | int _=>obtain ⟨t,rfl⟩:=r;rfl
 | str _=>obtain ⟨t,rfl⟩:=r;rfl
 | byt _=>obtain ⟨t,rfl⟩:=r;rfl
 | flt _=>obtain ⟨t,rfl⟩:=r;rfl
 | ref _=>cases r;rfl
 | ty _=>cases r;rfl
def On {j pos'} (ha:PE X a ta):PC X .Is a (.Constant .none j pos') (Rz ta):=by
 intro pins s Z H Q I h;refine gP (ha pins s Z H _ I h) λv s1 ⟨x,H1,I1,r1,q1⟩=>?_;exact Q1 (is_none_gen ⟨.bl _,H1,I1,by rw [r1.JF];rfl,q1⟩)
def RA {j pos'} (ha:PE X a ta):PC X .IsNot a (.Constant .none j pos') (Om ta):=by
 intro pins s Z H Q I h;refine gP (ha pins s Z H _ I h) λv s1 ⟨x,H1,I1,r1,q1⟩=>?_;exact Q1 (isnot_none_gen ⟨.bl _,H1,I1,by rw [r1.JF];rfl,q1⟩)
def tB (t:TE):TT:=λZ H Q=>t Z H λx H1=>∃ c,x=.bl c/\Q c H1
def U0 {op:Rh}{t:TE}(h:PC X op a b t) (h1:jU op b=false:=by first|exact Hx _ (by decide) (by decide)|rfl):PE X (.Compare a [op] [b] pos) t:=λpins s Z H Q I hw=>wpAny_Compare1 (h pins s Z H Q I hw) h1
def Oo {op:Rh}{t:TE}(h:PC X op a b t) (h1:jU op b=false:=by first|exact Hx _ (by decide) (by decide)|rfl):PT X (.Compare a [op] [b] pos) (tB t):=by
 intro pins s Z H Q I hw;refine UF (gP (h pins s Z H _ I hw) λv s1 h1=>gP h1 λu s2 h2=>gP h2 λc s3 ⟨x,H1,I1,r1,q1⟩=>?_) h1;obtain ⟨d,rfl,q⟩:=q1;cases r1;exact ki ⟨H1,I1,q⟩
variable {tA tB':TT}{rest:List Expr}
def qA (t u:TT):TT:=λZ H Q=>t Z H λc H1=>if c=true then u Z H1 Q else Q false H1
def Fo (t u:TT):TT:=λZ H Q=>t Z H λc H1=>if c=true then Q true H1 else u Z H1 Q
def pK (t:TT):TT:=λZ H Q=>t Z H λc H1=>Q (!c) H1
def pL (ha:PT X a tA):PW X (.BoolOp .And [a] pos) tA:=by
 intro wh pins s Z H Q I h;refine isTrue_and (gP (ha pins s Z H Q I h) λc s1 e=>?_)
 cases c with
 | true=>exact isTrue_and_nil e
 | false=>exact e
def xF (ha:PT X a tA):PW X (.BoolOp .Or [a] pos) tA:=by
 intro wh pins s Z H Q I h;refine isTrue_or (gP (ha pins s Z H Q I h) λc s1 e=>?_)
 cases c with
 | false=>exact isTrue_or_nil e
 | true=>exact e
def qP (ha:PT X a tA) (hb:PW X (.BoolOp .And (b::rest) pos) tB'):PW X (.BoolOp .And (a::b::rest) pos) (qA tA tB'):=by
 intro wh pins s Z H Q I h;refine isTrue_and (gP (ha pins s Z H _ I h) λc s1 ⟨H1,I1,q1⟩=>?_)
 cases c with
 | true=>exact hb wh pins s1 Z H1 Q I1 q1
 | false=>exact ⟨H1,I1,q1⟩
def AH (ha:PT X a tA) (hb:PW X (.BoolOp .Or (b::rest) pos) tB'):PW X (.BoolOp .Or (a::b::rest) pos) (Fo tA tB'):=by
 intro wh pins s Z H Q I h;refine isTrue_or (gP (ha pins s Z H _ I h) λc s1 ⟨H1,I1,q1⟩=>?_)
 cases c with
 | true=>exact ⟨H1,I1,q1⟩
 | false=>exact hb wh pins s1 Z H1 Q I1 q1
def U3 (ha:PT X a tA):PT X (.UnaryOp .Not a pos) (pK tA):=by
 intro pins s Z H Q I h;exact isTrue_not (ha pins s Z H (λc H1=>Q (!c) H1) I h)
def Er (ta tb:TE):TE:=λZ H Q=>ta Z H λx H1=>∃ c,x=.bl c/\if c=true then tb Z H1 Q else Q (.bl false) H1
def LB (ta:TE):TE:=λZ H Q=>ta Z H λx H1=>∃ c,x=.bl c/\Q (.bl (!c)) H1
def AI {op} {t:TE}(h:PE X a t):PE X (.BoolOp op [a] pos) t:=λpins s Z H Q I hw=>BoolOp_one (h pins s Z H Q I hw)
def AJ (ha:PE X a ta) (hb:PE X (.BoolOp .And (b::rest) pos) tb):PE X (.BoolOp .And (a::b::rest) pos) (Er ta tb):=by
 intro pins s Z H Q I h;refine BoolOp_and (gP (ha pins s Z H _ I h) λv s1 ⟨x,H1,I1,r1,q1⟩=>?_);obtain ⟨c,rfl,q1⟩:=q1;cases r1;refine ki ?_
 cases c with
 | true=>exact hb pins s1 Z H1 Q I1 q1
 | false=>exact ⟨.bl false,H1,I1,rfl,q1⟩
def Oq (ha:PE X a ta):PE X (.UnaryOp .Not a pos) (LB ta):=by
 intro pins s Z H Q I h;refine UnaryOp_ (gP (ha pins s Z H _ I h) λv s1 ⟨x,H1,I1,r1,q1⟩=>?_);obtain ⟨c,rfl,q1⟩:=q1;cases r1;exact not_of (ki ⟨.bl (!c),H1,I1,rfl,q1⟩)
def WS (t:TT) (ta tb:TE):TE:=λZ H Q=>t Z H λc H1=>if c=true then ta Z H1 Q else tb Z H1 Q
def vt {c:Expr}(hc:PT X c tA) (ha:PE X a ta) (hb:PE X b tb):PE X (.IfExp c a b pos) (WS tA ta tb):=by
 intro pins s Z H Q I h;refine wpAny_IfExp (gP (hc pins s Z H _ I h) λd s1 ⟨H1,I1,q1⟩=>?_)
 cases d with
 | true=>exact ha pins s1 Z H1 Q I1 q1
 | false=>exact hb pins s1 Z H1 Q I1 q1
end
end L2
namespace L2
def c9 (K:aa) (H:Hp) (a:af) (xs:List V):Prop :=
 Rd H a (.lst xs) \/
  ∃ (o:ft) (its:Array ai) (n:Nat),K.lookup a=some o/\o.cls=.type "list"/\o.dict=none/\o.data=.seq its n/\its.size<=aT/\Vals xs its.toList
def ku (K:aa) (H:Hp) (a:af) (xs:List V):Prop :=
 Rd H a (.tup xs) \/
  ∃ (o:ft) (its:Array ai) (n:Nat),K.lookup a=some o/\o.cls=.type "tuple"/\o.data=.seq its n/\its.size<=aT/\Vals xs its.toList
def ZN:ai->Option V
 | .none=>some .non
 | .bool b=>some (.bl b)
 | .int i _=>some (.int i)
 | .str x _=>some (.str x)
 | .bytes b _=>some (.byt b)
 | .float b _=>some (.flt b)
 | .ref a=>some (.ref a)
 | .type n=>some (.ty n)
 | _=>none
def RelV.abs {x:V}{u:ai}(r:RelV x u):ZN u=some x:=by
 cases x with
 | non=>cases r;rfl
 | bl _=>cases r;rfl
 | int _=>obtain ⟨t,rfl⟩:=r;rfl
 | str _=>obtain ⟨t,rfl⟩:=r;rfl
 | byt _=>obtain ⟨t,rfl⟩:=r;rfl
 | flt _=>obtain ⟨t,rfl⟩:=r;rfl
 | ref _=>cases r;rfl
 | ty _=>cases r;rfl
def RelV.inj {x y:V}{u:ai}(r:RelV x u) (q:RelV y u):x=y:=aV (r.abs.symm.trans q.abs)
theorem Vals.inj:∀ {xs ys:List V}{us:List ai},Vals xs us->Vals ys us->xs=ys
 | _,_,_,.nil,.nil=>rfl
 | _,_,_,.cons r t,.cons r' t'=>by rw [r.inj r',Vals.inj t t']
section
variable {X:Cx}{pins:List (af×ft)}{Z:St}{H:Hp}{s:ak}{a:af}{xs ys:List V}
def c9.of {K:aa}(h:H a=some (.lst xs)):c9 K H a xs:=.inl (.inl h)
def ku.of {K:aa}(h:H a=some (.tup xs)):ku K H a xs:=.inl (.inl h)
def Inv.list (I:Inv X pins Z H s) (h:c9 X.K H a xs):∃ its:List ai,Vals xs its/\PlainL s.heap a its.toArray/\xs.length<=aT:=by
 rcases h with h|⟨o,its,n,hk,hc,hd,hs,hz,r⟩
 ·obtain ⟨z,its,n,r,e⟩:=h.ok I.eC;exact ⟨its,r,⟨_,n,e,rfl,rfl,rfl⟩,z⟩
 ·refine ⟨its.toList,r,⟨o,n,I.Ab a o hk,hc,hd,by simpa using hs⟩,?_⟩;have e:=r.length;simp only [aK] at e;lia
def Inv.tuple (I:Inv X pins Z H s) (h:ku X.K H a xs):∃ its:List ai,Vals xs its/\pH s.heap a its.toArray/\xs.length<=aT:=by
 rcases h with h|⟨o,its,n,hk,hc,hs,hz,r⟩
 ·obtain ⟨z,its,r,p⟩:=h.ok I.eC;exact ⟨its,r,p,z⟩
 ·refine ⟨its.toList,r,⟨o,I.Ab a o hk,hc,n,by simpa using hs⟩,?_⟩;have e:=r.length;simp only [aK] at e;lia
def Inv.QO (I:Inv X pins Z H s) (h:c9 X.K H a xs) (h':c9 X.K H a ys):xs=ys:=by
 obtain ⟨its,r,⟨o,n,e,_,_,d⟩,_⟩:=I.list h;obtain ⟨its',r',⟨o',n',e',_,_,d'⟩,_⟩:=I.list h';rw [e] at e';cases e';rw [d] at d'
 injection d' with d1 _
 have:its=its':=by simpa using congrArg Array.toList d1
 subst this;exact r.inj r'
def Inv.NB (I:Inv X pins Z H s) (h:ku X.K H a xs) (h':ku X.K H a ys):xs=ys:=by
 obtain ⟨its,r,⟨o,e,_,n,d⟩,_⟩:=I.tuple h;obtain ⟨its',r',⟨o',e',_,n',d'⟩,_⟩:=I.tuple h';rw [e] at e';cases e';rw [d] at d'
 injection d' with d1 _
 have:its=its':=by simpa using congrArg Array.toList d1
 subst this;exact r.inj r'
end
abbrev Cx.Eh (X:Cx) (E:ai->ak->Prop):Cx:={ X with xe:=E }
abbrev Cx.Uv (X:Cx):Cx:=X.Eh λ_ _=>False
def Cx.Ok.Eh {X:Cx}(ok:X.Ok) (E:ai->ak->Prop):(X.Eh E).Ok :=
 ⟨ok.mod,ok.kind,ok.glob,ok.blt,ok.above,ok.inj,ok.has,ok.WV,ok.hd,ok.frames,ok.YF,ok.Zo,ok.bs,ok.QR,ok.NJ,ok.NC,ok.yD,ok.Uu⟩
def Cx.Ok.sC {X:Cx}{E:ai->ak->Prop}(ok:(X.Eh E).Ok):X.Ok :=
 ⟨ok.mod,ok.kind,ok.glob,ok.blt,ok.above,ok.inj,ok.has,ok.WV,ok.hd,ok.frames,ok.YF,ok.Zo,ok.bs,ok.QR,ok.NJ,ok.NC,ok.yD,ok.Uu⟩
section
variable {X:Cx}{pins:List (af×ft)}{Z:St}{H:Hp}{s:ak}{E:ai->ak->Prop}
def Inv.Eh (I:Inv X pins Z H s) (E:ai->ak->Prop):Inv (X.Eh E) pins Z H s:=⟨I.ok.Eh E,I.os,I.bare,I.base,I.loc,I.cell,I.free,I.sE,I.pin,I.eC,I.len⟩
def Inv.sC (I:Inv (X.Eh E) pins Z H s):Inv X pins Z H s:=⟨I.ok.sC,I.os,I.bare,I.base,I.loc,I.cell,I.free,I.sE,I.pin,I.eC,I.len⟩
def SP.sC {D:qO}{f:Flow}{s':ak}(h:SP (X.Eh E) pins D f s'):SP X pins D f s':=by
 cases f with
 | next=>obtain ⟨σ',H',I,q⟩:=h;exact ⟨σ',H',I.sC,q⟩
 | brk=>obtain ⟨σ',H',I,q⟩:=h;exact ⟨σ',H',I.sC,q⟩
 | cont=>obtain ⟨σ',H',I,q⟩:=h;exact ⟨σ',H',I.sC,q⟩
 | ret u=>obtain ⟨v,σ',H',I,r,q⟩:=h;exact ⟨v,σ',H',I.sC,r,q⟩
def JS.Uv {st:List dk}{t:TS}(h:JS X.Uv st t):JS X st t:=λpins s Z H D I hw =>
 dH (h pins s Z H D (I.Eh _) hw) (λ_ _ q=>q.sC) λ_ _ z=>hV z
end
section
variable {X:Cx}{st:dk}{rest:List dk}{t u:TS}{e:Expr}{te:TE}{pos:kM}
def fk:TS:=λD Z H=>D.nx Z H
def bP (t u:TS):TS:=λD Z H=>t { D with nx:=u D } Z H
def gp:JS X [] fk:=λ_ _ Z H _ I h=>xv ⟨Z,H,I,h⟩
def aF (h1:PS X st t) (h2:JS X rest u):JS X (st::rest) (bP t u):=by
 intro pins s Z H D I h;refine wpAny_execs_cons (gP (h1 pins s Z H { D with nx:=u D } I h) λf s1 q=>?_)
 cases f with
 | next =>
  obtain ⟨σ',H',I',q⟩:=q
  exact h2 pins s1 σ' H' D I' q
 | ret v=>exact q
 | brk=>exact q
 | cont=>exact q
def b8 (h1:PS X st t):JS X [st] t:=by
 intro pins s Z H D I h;refine wpAny_execs_cons (gP (h1 pins s Z H D I h) λf s1 q=>?_)
 cases f with
 | next=>exact xv q
 | ret v=>exact q
 | brk=>exact q
 | cont=>exact q
def Inv.quiet {pins:List (af×ft)}{Z:St}{H:Hp}{s:ak}(I:Inv X pins Z H s):interactive X.env=false:=by simp [interactive,I.ok.kind]
def fe (te:TE):TS:=λD Z H=>te Z H λ_ H1=>D.nx Z H1
def nB (he:PE X e te) (hs:Av e none pos.line X.env=pure false:=by rfl):PS X (.Expr e pos) (fe te):=by
 intro pins s Z H D I h;exact wpAny_Expr_any (gP (he pins s Z H _ I h) λv s1 ⟨x,H1,I1,r1,q1⟩=>⟨Z,H1,I1,q1⟩) I.quiet hs
def eV (te:TE):TS:=λD Z H=>te Z H D.rt
def gv (he:PE X e te):PS X (.Return (some e) pos) (eV te):=by
 intro pins s Z H D I h;exact wpAny_Return_some (gP (he pins s Z H _ I h) λv s1 ⟨x,H1,I1,r1,q1⟩=>⟨x,Z,H1,I1,r1,q1⟩)
def iE (c:TT) (t u:TS):TS:=λD Z H=>c Z H λb H1=>if b=true then t D Z H1 else u D Z H1
def kB {c:Expr}{a b:List dk}{tc:TT}(hc:PT X c tc) (ha:JS X a t) (hb:JS X b u):PS X (.If c a b pos) (iE tc t u):=by
 intro pins s Z H D I h;refine wpAny_If (gP (hc pins s Z H _ I h) λd s1 ⟨H1,I1,q1⟩=>?_)
 cases d with
 | true=>exact ha pins s1 Z H1 D I1 q1
 | false=>exact hb pins s1 Z H1 D I1 q1
def qQ:TS:=λ_ _ _=>False
def mU:PS X st qQ:=λ_ _ _ _ _ _ h=>h.elim
end
abbrev TG:=V->St->Hp->(St->Hp->Prop)->Prop
abbrev Re:=List V->St->Hp->(St->Hp->Prop)->Prop
def PG (X:Cx) (target:Expr) (t:TG):Prop :=
 ∀ (pins:List (af×ft)) (s:ak) (Z:St) (H:Hp) (v:V) (u:ai) (Q:St->Hp->Prop),Inv X pins Z H s->RelV v u->t v Z H Q ->
  aG (aM X.prog X.w) X.A (JG target X.env u) (λ_ s'=>∃ σ' H',Inv X pins σ' H' s'/\Q σ' H') X.xe s
def Xg (X:Cx) (ts:List Expr) (t:Re):Prop :=
 ∀ (pins:List (af×ft)) (s:ak) (Z:St) (H:Hp) (vs:List V) (us:List ai) (Q:St->Hp->Prop),Inv X pins Z H s->Vals vs us->t vs Z H Q ->
  aG (aM X.prog X.w) X.A (assignInOrder ((nv ts X.env).map (·.2)) us) (λ_ s'=>∃ σ' H',Inv X pins σ' H' s'/\Q σ' H') X.xe s
abbrev RB:=V->V->V->Hp->(Hp->Prop)->Prop
def RC (X:Cx) (t:RB):Prop :=
 ∀ (pins:List (af×ft)) (s:ak) (Z:St) (H:Hp) (o i v:V) (ov iv u:ai) (Q:Hp->Prop),Inv X pins Z H s->RelV o ov->RelV i iv->RelV v u->t o i v H Q ->
  aG (aM X.prog X.w) X.A (setItem ov iv u) (λ_ s'=>∃ H',Inv X pins Z H' s'/\Q H') X.xe s
abbrev Za:=V->V->Hp->VK->Prop
def PIp (X:Cx) (op:Ac) (t:Za):Prop :=
 ∀ (pins:List (af×ft)) (s:ak) (Z:St) (H:Hp) (x y:V) (v u:ai) (Q:VK),Inv X pins Z H s->RelV x v->RelV y u->t x y H Q ->
  aG (aM X.prog X.w) X.A (Aw op v u) (EP X pins Z Q) X.xe s
section
variable {X:Cx}{pos:kM}
def bo (i:Nat):TG:=λv Z H Q=>Q (Z.set i (some v)) H
def RD {i:Nat}{x:bh}(hN:X.N.Nodup) (hi:X.N[i]?=some x) (hx:Loc X.env.scope x) (hf:X.fn x=true\/X.env.scope.names.lookup x=some .local:=by first|exact .inl rfl|exact .inr rfl|assumption):PG X (.Name x pos) (bo i):=by
 intro pins s Z H v u Q I r h;exact wpAny_assign_Name (AG I hN hi hx r (λs' I'=>⟨_,H,I',h⟩) hf)
def Hy:Re:=λvs Z H Q=>vs=[]/\Q Z H
def kC (t:TG) (u:Re):Re:=λvs Z H Q=>∃ v r,vs=v::r/\t v Z H λσ' H'=>u r σ' H' Q
def An:Xg X [] Hy:=by
 intro pins s Z H vs us Q I r h;obtain ⟨e,h⟩:=h;subst e;cases r;exact assignInOrder_nil ⟨Z,H,I,h⟩
def iF {e:Expr}{es:List Expr}{t:TG}{u:Re}(h1:PG X e t) (h2:Xg X es u)
  (hs:(nv (e::es) X.env).map (·.2)=JG e X.env::(nv es X.env).map (·.2):=by rfl):Xg X (e::es) (kC t u):=by
 intro pins s Z H vs us Q I r h;obtain ⟨v,vr,e1,h⟩:=h;subst e1
 cases r with
 | cons r rr =>
  rw [hs];refine assignInOrder_cons (gP (h1 pins s Z H _ _ _ I r h) λ_ s1 ⟨σ1,H1,I1,q1⟩=>?_);exact h2 pins s1 σ1 H1 _ _ Q I1 rr q1
def Fp (K:aa) (n:Nat) (t:Re):TG:=λv Z H Q=>∃ a xs,v=.ref a/\ku K H a xs/\xs.length=n/\t xs Z H Q
def Fs {es:List Expr}{k:Nat}{t:Re}{n:Nat}(hc:X.calm=true) (h:Xg X es t)
  (hn:(nv es X.env).length=n:=by rfl) (hst:(nv es X.env).findIdx? (·.1)=none:=by rfl):PG X (.Tuple es k pos) (Fp X.K n t):=by
 intro pins s Z H v u Q I r hw;obtain ⟨a,xs,e1,hq,hl,hw⟩:=hw;subst e1;cases r;obtain ⟨its,rv,ht,hz⟩:=I.tuple hq;refine assign_Tuple_tuple (I.ok.hd hc) ht (by simp [hn,← hl,rv.length]) hst λh' hx=>?_;have I1:Inv X pins Z H { s with heap:=h' }:=I.kept (t':=s.toks) λb o e=>hx b o (a9 (aJ e)) e;exact h pins _ Z H xs _ Q I1 (by simpa using rv) hw
def zE (to ti:TE) (t:RB):TG:=λv Z H Q=>to Z H λo H1=>ti Z H1 λi H2=>t o i v H2 λH3=>Q Z H3
def U4 {o i:Expr}{to ti:TE}{t:RB}(ho:PE X o to) (hi:PE X i ti) (hs:RC X t)
  (ha:∀ v,JG (.Subscript o i pos) X.env v=(do
   let ov ← kj [v] (eN o X.env)
   let iv ← kj [v,ov] (eN i X.env)
   sR pos
   kj [v,ov,iv] (setItem ov iv v)
   release [v,ov,iv] []):=by intro _;rfl):PG X (.Subscript o i pos) (zE to ti t):=by
 intro pins s Z H v u Q I r h;rw [ha];refine ae (cq (gP (ho pins s Z H _ I h) λov s1 ⟨x,H1,I1,r1,q1⟩=>?_));refine ae (cq (gP (hi pins s1 Z H1 _ I1 q1) λiv s2 ⟨y,H2,I2,r2,q2⟩=>?_));refine ae (tH (ae (cq (gP (hs pins s2 Z H2 x y v ov iv u _ I2 r1 r2 r q2) λ_ s3 ⟨H3,I3,q3⟩=>?_))));exact wpAny_release ⟨Z,H3,I3,q3⟩
def dh (te:TE) (g:TG):TS:=λD Z H=>te Z H λx H1=>g x Z H1 D.nx
def Os {tg e:Expr}{te:TE}{g:TG}(he:PE X e te) (hg:PG X tg g) (hs:swapsWithSole [tg] e pos.line X.env=pure false:=by rfl) (hw:swappedStores [tg] e X.env=pure none:=by rfl)
  (h1:(nv [tg] X.env).map (·.2)=[JG tg X.env]:=by rfl):PS X (.Assign [tg] e pos) (dh te g):=by
 intro pins s Z H D I h;refine wpAny_Assign_stores (gP (he pins s Z H _ I h) λv s1 ⟨x,H1,I1,r1,q1⟩=>?_) hs hw;rw [h1];exact gP (hg pins s1 Z H1 x v _ I1 r1 q1) λ_ s2 q=>q
def AK {i:Nat}{x:bh}{e:Expr}{te:TE}{pos':kM}(hN:X.N.Nodup) (hi:X.N[i]?=some x) (hx:Loc X.env.scope x) (he:PE X e te) (hs:Av e (some (.Name x pos')) pos.line X.env=pure false:=by rfl) (hf:X.fn x=true\/X.env.scope.names.lookup x=some .local:=by first|exact .inl rfl|exact .inr rfl|assumption) :
  PS X (.Assign [.Name x pos'] e pos) (dh te (bo i)):=by
 intro pins s Z H D I h;refine wpAny_Assign_Name (gP (he pins s Z H _ I h) λv s1 ⟨y,H1,I1,r1,q1⟩=>?_) hs;exact AG I1 hN hi hx r1 (λs2 I2=>⟨_,H1,I2,q1⟩) hf
def MO (i:Nat) (te:TE) (ti:Za):TS:=λD Z H=>∃ x,Z[i]?=some (some x)/\te Z H λy H1=>ti x y H1 λz H2=>D.nx (Z.set i (some z)) H2
def Ft {i:Nat}{x:bh}{e:Expr}{te:TE}{op:Ac}{ti:Za}{pos':kM}(hN:X.N.Nodup) (hi:X.N[i]?=some x) (hx:Loc X.env.scope x) (he:PE X e te) (ho:PIp X op ti) (hf:X.fn x=true\/X.env.scope.names.lookup x=some .local:=by first|exact .inl rfl|exact .inr rfl|assumption) :
  PS X (.AugAssign (.Name x pos') op e pos) (MO i te ti):=by
 intro pins s Z H D I h;obtain ⟨v,e1,h⟩:=h;obtain ⟨m,hn,hl⟩:=I.loc
 have vis:Y9 X.env.scope x:=by rcases hx with k|k;exact .inl k;exact .inr (.inl k)
 obtain ⟨u,r,l⟩:=hl i x v hi e1 vis;refine wpAny_AugAssign_Name ?_
 have go:aG (aM X.prog X.w) X.A (eN e X.env) (λw s₂=>aG (aM X.prog X.w) X.A (Aw op u w) (λr s₃=>aG (aM X.prog X.w) X.A (storeName X.env x r) (λ_=>SP X pins D .next) X.xe s₃) X.xe s₂) X.xe s:=by
  refine gP (he pins s Z H _ I h) λw s1 ⟨y,H1,I1,r1,q1⟩=>?_;refine gP (ho pins s1 Z H1 v y u w _ I1 r r1 q1) λz s2 ⟨zv,H2,I2,r2,q2⟩=>?_;exact AG I2 hN hi hx r2 (λs3 I3=>⟨_,H2,I3,q2⟩) hf
 rcases l with ⟨hk,hm⟩|⟨hk,c,hc,hcell⟩
 ·exact kK I.ok.kind hk hn hm go
 ·rcases hk with hk|hk
  ·exact WY I.ok.kind hk hc hcell go
  ·rcases hx with k|k
   ·have:X.env.scope.names.lookup x=some .free:=hk;rw [k] at this;cases this
   ·have:X.env.scope.names.lookup x=some .free:=hk;rw [k] at this;cases this
end
section
variable {X:Cx}{pos:kM}
def xG (c:TT) (tb:TS):TS:=λD Z H=>∃ W:Nat->St->Hp->Prop,(∃ m,W m Z H)/\∀ m Z H,W m Z H ->
 c Z H λb H1=>if b=true then ∃ N:St->Hp->Prop,(∀ σ' H',N σ' H'->∃ m',m'<m/\W m' σ' H')/\tb { D with nx:=N,ct:=N,bk:=D.nx } Z H1 else D.nx Z H1
def vv {c:Expr}{body:List dk}{tc:TT}{tb:TS}(hp:PassesOwn (aM X.prog X.w) X.A X.env X.xe) (hc:PT X c tc) (hb:JS X body tb):PS X (.While c body [] pos) (xG tc tb):=by
 intro pins s Z H D I h;obtain ⟨W,⟨m0,w0⟩,turn⟩:=h;refine wpAny_While (codeAny_whileLoop (λn s'=>∃ σ' H',Inv X pins σ' H' s'/\W n σ' H') ?_ m0 ⟨Z,H,I,w0⟩);rintro n s1 ⟨σ1,H1,I1,w1⟩;refine jP hp (gP (hc pins s1 σ1 H1 _ I1 (turn n σ1 H1 w1)) λb s2 ⟨H2,I2,q2⟩=>?_)
 cases b with
 | true =>
  obtain ⟨N,hN,q2⟩:=q2;rw [if_pos rfl];refine jP hp (gP (hb pins s2 σ1 H2 _ I2 q2) λf s3 q3=>?_)
  cases f with
  | next =>
   obtain ⟨σ3,H3,I3,n3⟩:=q3;obtain ⟨m',hm,w3⟩:=hN σ3 H3 n3
   exact ⟨m',hm,σ3,H3,I3,w3⟩
  | cont =>
   obtain ⟨σ3,H3,I3,n3⟩:=q3;obtain ⟨m',hm,w3⟩:=hN σ3 H3 n3
   exact ⟨m',hm,σ3,H3,I3,w3⟩
  | brk=>exact q3
  | ret v=>exact q3
 | false =>
  rw [if_neg bA];exact xv ⟨σ1,H2,I2,q2⟩
end
structure It where
 go:Nat->Hp->Prop
 Hm:Nat->Hp->V->Hp->Prop
 stop:Nat->Hp->Prop
def xH (X:Cx) (pins:List (af×ft)) (H:Hp) (b:af):Prop :=
 H b=none/\b≠X.env.locals/\b∉X.fs/\(b∈X.ex\/X.s₀.heap.objs.size<=b)/\(∀ x c,X.env.cells.lookup x=some c->c≠b)/\∀ p∈X.pn++pins,p.1≠b
def Inv.JE {X:Cx}{pins:List (af×ft)}{Z:St}{H H':Hp}{s:ak}{b:af}(I:Inv X pins Z H s) (hb:s.heap.objs.size<=b) (hn:H' b=none):xH X pins H' b:=by
 refine ⟨hn,dN (br I.lt hb),I.nofs hb,.inr (bf I.sz hb),λx c e z=>?_,λp hp z=>?_⟩
 ·obtain ⟨v,q⟩:=I.cell x c e;exact absurd (br q.lt (by rw [z];exact hb)) (eL _)
 ·exact absurd (br (aJ (I.pin p hp).1) (by rw [z];exact hb)) (eL _)
structure J2 (P:aY) (w:bH) (K:aa) (tg:Expr) (J:It) (fp:List af) (it:af) (tn:Nat->cb->Prop):Prop where
 mem:it∈fp
 obj:∀ i h,tn i h->∀ b∈fp,∃ o,h.get? b=some o/\∀ v,o.data≠.cell v
 keep:∀ i h h',tn i h->(∀ b∈fp,∀ o,h.get? b=some o->h'.get? b=some o)->tn i h'
 item:∀ (X:Cx),X.prog=P->X.w=w->X.K=K->X.calm=true->∀ (i:Nat) (pins:List (af×ft)) (s:ak) (Z:St) (H:Hp) (E:ai->ak->Prop),Inv X pins Z H s->(∀ b∈fp,xH X pins H b)->tn i s.heap->J.go i H ->
  aG (aM P w) X.A (i9 (.ref it)) (λr s1=>∃ u,r=some u /\
   aG (aM P w) X.A (xA tg (.ref it) u) (λ_ s2=>∃ x H',Inv X pins Z H' s2/\RelV x u/\J.Hm i H x H'/\tn (i+1) s2.heap/\∀ b∈fp,H' b=none) E s1) E s
 done:∀ (X:Cx),X.prog=P->X.w=w->X.K=K->X.calm=true->∀ (i:Nat) (pins:List (af×ft)) (s:ak) (Z:St) (H:Hp) (E:ai->ak->Prop),Inv X pins Z H s->(∀ b∈fp,xH X pins H b)->tn i s.heap->J.stop i H ->
  aG (aM P w) X.A (i9 (.ref it)) (λr s1=>r=none/\Inv X pins Z H s1) E s
 self:∀ (A:bN) (i:Nat) (s:ak) (Q:ai->ak->Prop) (E:ai->ak->Prop),tn i s.heap->Q (.ref it) s->aG (aM P w) A (NM (.ref it)) Q E s
abbrev TI:=St->Hp->(It->Hp->Prop)->Prop
def PIE (X:Cx) (pins:List (af×ft)) (Z:St) (tg:Expr) (R:It->Hp->Prop) (itv:ai) (s2:ak):Prop :=
 ∃ (it:af) (fp:List af) (tn:Nat->cb->Prop) (J:It) (H':Hp),itv=.ref it/\Inv X pins Z H' s2/\J2 X.prog X.w X.K tg J fp it tn/\tn 0 s2.heap/\(∀ b∈fp,xH X pins H' b)/\R J H'
def PI (X:Cx) (tg iter:Expr) (wi:TI):Prop :=
 ∀ (pins:List (af×ft)) (s:ak) (Z:St) (H:Hp) (R:It->Hp->Prop),Inv X pins Z H s->wi Z H R ->
  aG (aM X.prog X.w) X.A (eN iter X.env) (λv s1=>aG (aM X.prog X.w) X.A (NM v) (PIE X pins Z tg R) X.xe s1) X.xe s
def Es {M:Model}{A:bN}{E:ai->ak->Prop}{s:ak}{tg:Expr}{it:af}{u:ai}{o:ft}{n:String}{vs:Array ai}{Q:Unit->ak->Prop}(ho:s.heap.get? it=some o) (hc:o.cls=.type n) (hd:o.data=.fields vs)
    (hn:["enumerate","zip","dict_itemiterator","dict_reverseitemiterator","odict_iterator","itertools.zip_longest","itertools.pairwise"].contains n=false) (hQ:Q () s):aG M A (xA tg (.ref it) u) Q E s:=by
  unfold xA
  cases tg<;>first
    | exact ao hQ
    | (cases u<;>first
        | exact ao hQ
        | (refine ae (El ho ?_)
           rw [hc,hd]
           show aG M A (if (["enumerate","zip","dict_itemiterator","dict_reverseitemiterator","odict_iterator","itertools.zip_longest","itertools.pairwise"].contains n && vs[0]? == some (cA _))=true then _ else _) Q E s
           rw [if_neg (by intro h;rw [hn,W4] at h;cases h)]
           exact ao hQ))
def Hl (K:aa) (a:af):It :=
 ⟨λi H=>∃ xs x,c9 K H a xs/\xs[i]?=some x,λi H x H'=>H'=H/\∀ xs,c9 K H a xs->xs[i]?=some x,λi H=>∃ xs,c9 K H a xs/\xs.length<=i⟩
def WT (K:aa) (a:af):It :=
 ⟨λi H=>∃ xs x,ku K H a xs/\xs[i]?=some x,λi H x H'=>H'=H/\∀ xs,ku K H a xs->xs[i]?=some x,λi H=>∃ xs,ku K H a xs/\xs.length<=i⟩
def Ot (lo:Int) (n:Nat):It:=⟨λi _=>i<n,λi H x H'=>H'=H/\x=.int (lo+i),λi _=>n<=i⟩
def MP {P:aY}{w:bH}{K:aa}{tg:Expr}(a it:af):J2 P w K tg (Hl K a) [it] it (λi h=>h.IsListIter it a i) where
 mem:=by simp
 obj:=λi h st b hb=>by
  have e:b=it:=by simpa using hb
  subst e;obtain ⟨o,e,c,d⟩:=st;exact ⟨o,e,λv z=>by rw [d] at z;cases z⟩
 keep:=λi h h' st k=>st.at λo e=>k it (by simp) o e
 item:=by
  intro X hP hw hK hc i pins s Z H E I hf st hg;subst hP hw hK;obtain ⟨xs,x,hq,hx⟩:=hg;obtain ⟨its,rv,p,hz⟩:=I.list hq;obtain ⟨u,hu,ru⟩:=rv.get hx;obtain ⟨f0,f1,f2,f3,f4,f5⟩:=hf it (by simp);refine wpAny_pyNext_list_item st p.isList (x:=u) (by simpa using hu) λh' st' sb=>?_;have I1:Inv X pins Z H { s with heap:=h' }:=I.turned (t':=s.toks) (λb o hb e=>(sb.2 b hb).trans e) f0 f1 f3 f4 f5;obtain ⟨o,e,c,d⟩:=id st';exact ⟨u,rfl,Es (s:={ s with heap:=h' }) e c d (by decide) ⟨x,H,I1,ru,⟨rfl,λys hy=>by rw [I.QO hy hq];exact hx⟩,st',λb hb=>(hf b hb).1⟩⟩
 done:=by
  intro X hP hw hK hc i pins s Z H E I hf st hg;subst hP hw hK;obtain ⟨xs,hq,hx⟩:=hg;obtain ⟨its,rv,p,hz⟩:=I.list hq;obtain ⟨f0,f1,f2,f3,f4,f5⟩:=hf it (by simp);have hl:=rv.length
  exact wpAny_pyNext_list_end (I.ok.hd hc) st p.isList (by simp;lia) λh' eb=>⟨rfl,I.turned (t':=s.toks) (λb o hb e=>eb b o hb e) f0 f1 f3 f4 f5⟩
 self:=λ_ _ _ _ _ st h=>wpAny_pyIter_listiter st h
def J3 {P:aY}{w:bH}{K:aa}{tg:Expr}(a it:af):J2 P w K tg (WT K a) [it] it (λi h=>h.IsTupleIter it a i) where
 mem:=by simp
 obj:=λi h st b hb=>by
  have e:b=it:=by simpa using hb
  subst e;obtain ⟨o,e,c,d⟩:=st;exact ⟨o,e,λv z=>by rw [d] at z;cases z⟩
 keep:=λi h h' st k=>st.at λo e=>k it (by simp) o e
 item:=by
  intro X hP hw hK hc i pins s Z H E I hf st hg;subst hP hw hK;obtain ⟨xs,x,hq,hx⟩:=hg;obtain ⟨its,rv,p,hz⟩:=I.tuple hq;obtain ⟨u,hu,ru⟩:=rv.get hx;obtain ⟨f0,f1,f2,f3,f4,f5⟩:=hf it (by simp);refine wpAny_pyNext_tuple_item st (show s.heap.IsTuple a its.toArray from p) (x:=u) (by simpa using hu) λh' st' sb=>?_;have I1:Inv X pins Z H { s with heap:=h' }:=I.turned (t':=s.toks) (λb o hb e=>(sb.2 b hb).trans e) f0 f1 f3 f4 f5;obtain ⟨o,e,c,d⟩:=id st';exact ⟨u,rfl,Es (s:={ s with heap:=h' }) e c d (by decide) ⟨x,H,I1,ru,⟨rfl,λys hy=>by rw [I.NB hy hq];exact hx⟩,st',λb hb=>(hf b hb).1⟩⟩
 done:=by
  intro X hP hw hK hc i pins s Z H E I hf st hg;subst hP hw hK;obtain ⟨xs,hq,hx⟩:=hg;obtain ⟨its,rv,p,hz⟩:=I.tuple hq;obtain ⟨f0,f1,f2,f3,f4,f5⟩:=hf it (by simp);have hl:=rv.length
  exact wpAny_pyNext_tuple_end (I.ok.hd hc) st (show s.heap.IsTuple a its.toArray from p) (by simp;lia) λh' eb=>⟨rfl,I.turned (t':=s.toks) (λb o hb e=>eb b o hb e) f0 f1 f3 f4 f5⟩
 self:=λ_ _ _ _ _ st h=>wpAny_pyIter_tupleiter st h
def J5 {P:aY}{w:bH}{K:aa}{tg:Expr}(it:af) (lo:Int) (n:Nat):J2 P w K tg (Ot lo n) [it] it (λi h=>IsRangeIter h it (lo+(i:Nat)*1) ((n:Int)-(i:Nat)) 1) where
 mem:=by simp
 obj:=λi h st b hb=>by
  have e:b=it:=by simpa using hb
  subst e
  exact ⟨_,st,λv z=>by
   have z':Data.fields _=Data.cell v:=z
   cases z'⟩
 keep:=λi h h' st k=>k it (by simp) _ st
 item:=by
  intro X hP hw hK hc i pins s Z H E I hf st hg;subst hP hw hK;obtain ⟨f0,f1,f2,f3,f4,f5⟩:=hf it (by simp);have W:=Walks.range (prog:=X.prog) (w:=X.w) (I.ok.hd hc) it lo 1 n;refine W.item i s _ _ hg st λv h' tk hv st' kk=>?_;obtain ⟨t,rfl⟩:=hv;have I1:Inv X pins Z H { s with heap:=h',toks:=tk }:=I.turned (λb o hb e=>kk b o (by simpa using hb) e) f0 f1 f3 f4 f5;refine ⟨_,rfl,Es (s:={ s with heap:=h',toks:=tk }) (n:="range_iterator") st' rfl rfl (by decide) ⟨.int (lo+i),H,I1,⟨t,?_⟩,⟨rfl,rfl⟩,st',λb hb=>(hf b hb).1⟩⟩;rw [Int.mul_one]
 done:=by
  intro X hP hw hK hc i pins s Z H E I hf st hg;subst hP hw hK;obtain ⟨f0,f1,f2,f3,f4,f5⟩:=hf it (by simp)
  exact wpAny_pyNext_range_end (I.ok.hd hc) st (by have:n<=i:=hg;lia) λh' eb=>⟨rfl,I.turned (t':=s.toks) (λb o hb e=>eb b o hb e) f0 f1 f3 f4 f5⟩
 self:=λ_ _ _ _ _ st h=>wpAny_pyIter_rangeiter st h
end L2
namespace L2
section
variable {X:Cx}{tg:Expr}
def Hz {pins:List (af×ft)}{Z:St}{H:Hp}{s:ak}{R:It->Hp->Prop}{E:ai->ak->Prop}{lo hi:Int}{t u v:SU}{tk:Nat}(I:Inv X pins Z H s) (h1:-(2^62)<=lo) (h2:lo<2^62) (h3:-(2^62)<=hi) (h4:hi<2^62)
  (q:R (Ot lo (hi-lo).toNat) H):aG (aM X.prog X.w) X.A (NM (.ref s.heap.objs.size)) (PIE X pins Z tg R) E { s with heap:=s.heap.push { cls:=.type "range",data:=.fields #[.int lo t,.int hi u,.int 1 v] },toks:=tk }:=by
 refine wpAny_pyIter_range (IsRange.new ..) (small_one h1 h2 h3 h4) ?_;have I1:Inv X pins Z H { s with heap:=s.heap.push { cls:=.type "range",data:=.fields #[.int lo t,.int hi u,.int 1 v] },toks:=tk }:=I.kept λb o e=>au _ e
 refine ⟨(s.heap.push { cls:=.type "range",data:=.fields #[.int lo t,.int hi u,.int 1 v] }).objs.size,[(s.heap.push { cls:=.type "range",data:=.fields #[.int lo t,.int hi u,.int 1 v] }).objs.size],_,_,H,rfl,
  I1.kept (t':=tk) λb o e=>au _ e,J5 _ lo (hi-lo).toNat,?_,λb hb=>?_,q⟩
 ·have e1:lo+((0:Nat):Int)*1=lo:=by simp
  have e2:(((hi-lo).toNat:Nat):Int)-((0:Nat):Int)=Builtin.Range.rangeSize lo hi 1:=by rw [rangeSize_one];split<;>lia
  show IsRangeIter _ _ (lo+((0:Nat):Int)*1) ((((hi-lo).toNat:Nat):Int)-((0:Nat):Int)) 1
  rw [e1,e2];exact aI _ rfl
 ·have e:b=(s.heap.push { cls:=.type "range",data:=.fields #[.int lo t,.int hi u,.int 1 v] }).objs.size:=by simpa using hb
  subst e;exact I1.JE (ar _) (I1.eC.fresh (ar _))
def qR (ta:TA):TI:=λZ H R=>ta Z H λvs H1=>∃ j:Int,vs=[.int j]/\-(2^62)<=j/\j<2^62/\R (Ot 0 j.toNat) H1
def Ou (ta:TA):TI:=λZ H R=>ta Z H λvs H1=>∃ i j:Int,vs=[.int i,.int j]/\(-(2^62)<=i/\i<2^62/\-(2^62)<=j/\j<2^62)/\R (Ot i (j-i).toNat) H1
def xI {a:Expr}{ta:TA}{p pos:kM}(hg:Gl X "range") (hm:X.mg "range"=none) (ha:PA X [a] ta) (hs:bF [a] X.env=[(false,eN a X.env)]:=by rfl):PI X tg (.Call (.Name "range" p) [a] [] pos) (qR ta):=by
 intro pins s Z H R I h;refine Call_ (nW I hg hm boot_range (f9 (gP (ha pos pins s Z H _ I h) λus s1 ⟨vs,H1,I1,r1,q1⟩=>?_) hs rfl));obtain ⟨j,e,q1,q2,q⟩:=q1;subst e
 cases r1 with
 | cons r rr =>
  cases rr;obtain ⟨t,rfl⟩:=r;exact call_range_1 (Hz I1 (by lia) (by lia) q1 q2 (by simpa using q))
def Et {a b:Expr}{ta:TA}{p pos:kM}(hg:Gl X "range") (hm:X.mg "range"=none) (ha:PA X [a,b] ta) (hs:bF [a,b] X.env=[(false,eN a X.env),(false,eN b X.env)]:=by rfl) (hs2:bF [b] X.env=[(false,eN b X.env)]:=by rfl) :
  PI X tg (.Call (.Name "range" p) [a,b] [] pos) (Ou ta):=by
 intro pins s Z H R I h;refine Call_ (nW I hg hm boot_range (f9 (gP (ha pos pins s Z H _ I h) λus s1 ⟨vs,H1,I1,r1,q1⟩=>?_) (by rw [hs,hs2]) (by rw [hs2];rfl)));obtain ⟨i,j,e,⟨q1,q2,q3,q4⟩,q⟩:=q1;subst e
 cases r1 with
 | cons r rr =>
  cases rr with
  | cons r' rr =>
   cases rr;obtain ⟨t,rfl⟩:=r;obtain ⟨t',rfl⟩:=r';exact call_range_2 (Hz I1 q1 q2 q3 q4 q)
def nX (wi:TI) (g:TG) (tb:TS):TS:=λD Z H=>wi Z H λJ H1=>∃ W:Nat->Nat->St->Hp->Prop,(∃ m,W 0 m Z H1)/\∀ i m Z H,W i m Z H ->
 (J.stop i H/\D.nx Z H)\/(J.go i H/\∃ N:St->Hp->Prop,(∀ σ' H',N σ' H'->∃ m',m'<m/\W (i+1) m' σ' H')/\∀ x H',J.Hm i H x H'->g x Z H' λσ2 H2=>tb { D with nx:=N,ct:=N,bk:=D.nx } σ2 H2)
def AM (fp:List af) (h:cb):List (af×ft):=fp.filterMap λb=>(h.get? b).map λo=>(b,o)
def pM {fp:List af}{h:cb}{b:af}{o:ft}(hb:b∈fp) (e:h.get? b=some o):(b,o)∈AM fp h:=ou.mpr ⟨b,hb,by rw [e];rfl⟩
def MQ {fp:List af}{h:cb}{p:af×ft}(hp:p∈AM fp h):p.1∈fp/\h.get? p.1=some p.2:=by
 obtain ⟨b,hb,e⟩:=ou.mp hp
 cases q:h.get? b with
 | none=>rw [q] at e;cases e
 | some o =>
  rw [q] at e;have e':(b,o)=p:=aV e;subst e';exact ⟨hb,q⟩
def Inv.pinned {pins:List (af×ft)}{Z:St}{H:Hp}{s:ak}{fp:List af}(I:Inv X pins Z H s) (hf:∀ b∈fp,xH X pins H b) (ho:∀ b∈fp,∃ o,s.heap.get? b=some o/\∀ v,o.data≠.cell v):Inv X (pins++AM fp s.heap) Z H s :=
 I.MC λp hp=>(aN.mp hp).elim (λz=>I.pin p (bG _ z)) λz=>by
  obtain ⟨hb,e⟩:=MQ z;obtain ⟨f0,f1,f2,_⟩:=hf p.1 hb;obtain ⟨o,e',d⟩:=ho p.1 hb;rw [e] at e';cases e';exact ⟨e,f0,f1,f2,d⟩
def Inv.xi {pins pl:List (af×ft)}{Z:St}{H:Hp}{s:ak}(I:Inv X (pins++pl) Z H s):Inv X pins Z H s:=I.MC λp hp=>I.pin p (bG _ (dQ _ hp))
def qS {iter:Expr}{body:List dk}{wi:TI}{g:TG}{tb:TS}{pos:kM}(hp:PassesOwn (aM X.prog X.w) X.A X.env X.xe) (hc:X.calm=true) (hi:PI X tg iter wi) (hg:PG X tg g) (hb:JS X body tb)
  (hs:∀ x,sS iter X.env x=pure x:=by intro _;rfl):PS X (.For tg iter body [] pos) (nX wi g tb):=by
 intro pins s Z H D I h;refine wpAny_For (gP (hi pins s Z H _ I h) λv s1 h1=>gP h1 λitv s2 h2=>?_) hs;obtain ⟨it,fp,tn,J,H2,e,I2,T,st2,f2,W,⟨m0,w0⟩,turn⟩:=h2;subst e
 -- what stays true of the iterator's objects through the J7
 have stat:∀ {H':Hp},(∀ b∈fp,H' b=none)->∀ b∈fp,xH X pins H' b:=λhn b hb=>⟨hn b hb,(f2 b hb).2⟩
 refine codeAny_forLoop_any (λn s'=>∃ i σ' H',Inv X pins σ' H' s'/\tn i s'.heap/\(∀ b∈fp,H' b=none)/\W i n σ' H') ?_ m0 ⟨0,Z,H2,I2,st2,λb hb=>(f2 b hb).1,w0⟩;rintro n s3 ⟨i,σ3,H3,I3,st3,fr3,w3⟩
 rcases turn i n σ3 H3 w3 with ⟨stop,qn⟩|⟨go,N,hN,step⟩
 ·refine jP hp (gP (T.done X rfl rfl rfl hc i pins s3 σ3 H3 X.xe I3 (stat fr3) st3 stop) λr s4 ⟨hr,I4⟩=>?_);subst hr;exact xv ⟨σ3,H3,I4,qn⟩
 ·refine jP hp (gP (T.item X rfl rfl rfl hc i pins s3 σ3 H3 X.xe I3 (stat fr3) st3 go) λr s4 ⟨u,hr,h4⟩=>?_);subst hr;refine jP hp (gP h4 λ_ s5 ⟨x,H5,I5,r5,y5,st5,fr5⟩=>?_);have I5':=I5.pinned (stat fr5) (T.obj _ _ st5);refine jP hp (gP (hg _ s5 σ3 H5 x u _ I5' r5 (step x H5 y5)) λ_ s6 ⟨σ6,H6,I6,q6⟩=>?_);refine jP hp (gP (hb _ s6 σ6 H6 _ I6 q6) λf s7 q7=>?_)
  have again:∀ {σ7:St}{H7:Hp},Inv X (pins++AM fp s5.heap) σ7 H7 s7->N σ7 H7->∃ m,m<n/\∃ i σ' H',Inv X pins σ' H' s7/\tn i s7.heap/\(∀ b∈fp,H' b=none)/\W i m σ' H':=λ{σ7 H7} I7 n7=>by
   obtain ⟨m',hm,w7⟩:=hN σ7 H7 n7;refine ⟨m',hm,i+1,σ7,H7,I7.xi,T.keep _ _ _ st5 λb hb o e=>(I7.pin (b,o) (bG _ (bG _ (pM hb e)))).1,λb hb=>?_,w7⟩;obtain ⟨o,e,d⟩:=T.obj _ _ st5 b hb;exact (I7.pin (b,o) (bG _ (bG _ (pM hb e)))).2.1
  cases f with
  | next=>obtain ⟨σ7,H7,I7,n7⟩:=q7;exact again I7 n7
  | cont=>obtain ⟨σ7,H7,I7,n7⟩:=q7;exact again I7 n7
  | brk=>obtain ⟨σ7,H7,I7,q7⟩:=q7;exact ⟨σ7,H7,I7.xi,q7⟩
  | ret v=>obtain ⟨x7,σ7,H7,I7,r7,q7⟩:=q7;exact ⟨x7,σ7,H7,I7.xi,r7,q7⟩
end
def iY {K:aa}{a:af}{xs:List V}{g:TG}{tb:TS}{D:qO}{Z:St}{H:Hp}(Pv:Nat->St->Hp->Prop) (h0:Pv 0 Z H) (hl:∀ i Z H,i<=xs.length->Pv i Z H->c9 K H a xs)
  (hs:∀ i x Z H,xs[i]?=some x->Pv i Z H->g x Z H λσ2 H2=>tb { D with nx:=Pv (i+1),ct:=Pv (i+1),bk:=D.nx } σ2 H2) (hd:∀ Z H,Pv xs.length Z H->D.nx Z H) :
  ∃ W:Nat->Nat->St->Hp->Prop,(∃ m,W 0 m Z H)/\∀ i m Z H,W i m Z H ->
   ((Hl K a).stop i H/\D.nx Z H)\/((Hl K a).go i H/\∃ N:St->Hp->Prop,(∀ σ' H',N σ' H'->∃ m',m'<m/\W (i+1) m' σ' H')/\∀ x H',(Hl K a).Hm i H x H'->g x Z H' λσ2 H2=>tb { D with nx:=N,ct:=N,bk:=D.nx } σ2 H2):=by
 refine ⟨λi m Z H=>m=xs.length-i/\i<=xs.length/\Pv i Z H,⟨xs.length,by simp,aQ _,h0⟩,?_⟩;rintro i m Z H ⟨rfl,hi,p⟩;have q:=hl i Z H hi p
 by_cases hlt:i<xs.length
 ·refine .inr ⟨⟨xs,xs[i],q,by simp [hlt]⟩,Pv (i+1),λσ' H' p'=>⟨xs.length-(i+1),by lia,rfl,hlt,p'⟩,λx H' y=>?_⟩;obtain ⟨e,y⟩:=y;subst e;exact hs i x Z _ (y xs q) p
 ·have e:i=xs.length:=by lia
  subst e;exact .inl ⟨⟨xs,q,ar _⟩,hd Z H p⟩
def RE {K:aa}{a:af}{xs:List V}{g:TG}{tb:TS}{D:qO}{Z:St}{H:Hp}(Pv:Nat->St->Hp->Prop) (h0:Pv 0 Z H) (hl:∀ i Z H,i<=xs.length->Pv i Z H->ku K H a xs)
  (hs:∀ i x Z H,xs[i]?=some x->Pv i Z H->g x Z H λσ2 H2=>tb { D with nx:=Pv (i+1),ct:=Pv (i+1),bk:=D.nx } σ2 H2) (hd:∀ Z H,Pv xs.length Z H->D.nx Z H) :
  ∃ W:Nat->Nat->St->Hp->Prop,(∃ m,W 0 m Z H)/\∀ i m Z H,W i m Z H ->
   ((WT K a).stop i H/\D.nx Z H)\/((WT K a).go i H/\∃ N:St->Hp->Prop,(∀ σ' H',N σ' H'->∃ m',m'<m/\W (i+1) m' σ' H')/\∀ x H',(WT K a).Hm i H x H'->g x Z H' λσ2 H2=>tb { D with nx:=N,ct:=N,bk:=D.nx } σ2 H2):=by
 refine ⟨λi m Z H=>m=xs.length-i/\i<=xs.length/\Pv i Z H,⟨xs.length,by simp,aQ _,h0⟩,?_⟩;rintro i m Z H ⟨rfl,hi,p⟩;have q:=hl i Z H hi p
 by_cases hlt:i<xs.length
 ·refine .inr ⟨⟨xs,xs[i],q,by simp [hlt]⟩,Pv (i+1),λσ' H' p'=>⟨xs.length-(i+1),by lia,rfl,hlt,p'⟩,λx H' y=>?_⟩;obtain ⟨e,y⟩:=y;subst e;exact hs i x Z _ (y xs q) p
 ·have e:i=xs.length:=by lia
  subst e;exact .inl ⟨⟨xs,q,ar _⟩,hd Z H p⟩
def oC {lo:Int}{n:Nat}{g:TG}{tb:TS}{D:qO}{Z:St}{H:Hp}(Pv:Nat->St->Hp->Prop) (h0:Pv 0 Z H)
  (hs:∀ i Z H,i<n->Pv i Z H->g (.int (lo+i)) Z H λσ2 H2=>tb { D with nx:=Pv (i+1),ct:=Pv (i+1),bk:=D.nx } σ2 H2) (hd:∀ Z H,Pv n Z H->D.nx Z H) :
  ∃ W:Nat->Nat->St->Hp->Prop,(∃ m,W 0 m Z H)/\∀ i m Z H,W i m Z H ->
   ((Ot lo n).stop i H/\D.nx Z H)\/((Ot lo n).go i H/\∃ N:St->Hp->Prop,(∀ σ' H',N σ' H'->∃ m',m'<m/\W (i+1) m' σ' H')/\∀ x H',(Ot lo n).Hm i H x H'->g x Z H' λσ2 H2=>tb { D with nx:=N,ct:=N,bk:=D.nx } σ2 H2):=by
 refine ⟨λi m Z H=>m=n-i/\i<=n/\Pv i Z H,⟨n,by simp,aQ _,h0⟩,?_⟩;rintro i m Z H ⟨rfl,hi,p⟩
 by_cases hlt:i<n
 ·refine .inr ⟨hlt,Pv (i+1),λσ' H' p'=>⟨n-(i+1),by lia,rfl,hlt,p'⟩,λx H' y=>?_⟩;obtain ⟨e,y⟩:=y;subst e y;exact hs i Z _ hlt p
 ·have e:i=n:=by lia
  subst e;exact .inl ⟨ar _,hd Z H p⟩
end L2
namespace L2
abbrev R2:=V->V->Hp->VK->Prop
def qc (X:Cx) (f:ai->ai->SV ai) (r:R2):Prop :=
 ∀ (pins:List (af×ft)) (s:ak) (Z:St) (H:Hp) (x y:V) (v u:ai) (Q:VK),Inv X pins Z H s->RelV x v->RelV y u->r x y H Q ->
  aG (aM X.prog X.w) X.A (f v u) (EP X pins Z Q) X.xe s
def ZO (X:Cx) (f:ai->SV ai) (r:V->Hp->VK->Prop):Prop :=
 ∀ (pins:List (af×ft)) (s:ak) (Z:St) (H:Hp) (x:V) (v:ai) (Q:VK),Inv X pins Z H s->RelV x v->r x H Q ->
  aG (aM X.prog X.w) X.A (f v) (EP X pins Z Q) X.xe s
def mv (X:Cx) (f:ai) (r:List V->Hp->VK->Prop):Prop :=
 ∀ (pins:List (af×ft)) (s:ak) (Z:St) (H:Hp) (xs:List V) (us:List ai) (Q:VK),Inv X pins Z H s->Vals xs us->r xs H Q ->
  aG (aM X.prog X.w) X.A (call f us) (EP X pins Z Q) X.xe s
def ZP (X:Cx) (r:V->Hp->(Bool->Hp->Prop)->Prop):Prop :=
 ∀ (pins:List (af×ft)) (s:ak) (Z:St) (H:Hp) (x:V) (v:ai) (Q:Bool->Hp->Prop),Inv X pins Z H s->RelV x v->r x H Q ->
  aG (aM X.prog X.w) X.A (truthy v) (TP X pins Z Q) X.xe s
def cn (r:R2) (ta tb:TE):TE:=λZ H Q=>ta Z H λx H1=>tb Z H1 λy H2=>r x y H2 Q
def ZQ (r:V->Hp->VK->Prop) (ta:TE):TE:=λZ H Q=>ta Z H λx H1=>r x H1 Q
def rI (C:Int->Int->Prop) (g:Int->Int->V):R2:=λx y H Q=>∃ i j,x=.int i/\y=.int j/\C i j/\Q (g i j) H
def nY (g:Int->Int->V):R2:=λx y H Q=>∃ i j,x=.int i/\y=.int j/\Q (g i j) H
def rU (g:Int->V):V->Hp->VK->Prop:=λx H Q=>∃ i,x=.int i/\Q (g i) H
section
variable {X:Cx}{a b c:Expr}{ta tb tc:TE}{pos:kM}
def U5 (ha:PE X a ta) (hb:PE X b tb) {pins:List (af×ft)}{s:ak}{Z:St}{H:Hp}{R:V->V->Hp->Prop}(I:Inv X pins Z H s)
  (h:ta Z H λx H1=>tb Z H1 λy H2=>R x y H2) {Q:ai->ak->Prop}{f:ai->ai->SV ai}
  (hf:∀ v u s2 x y H2,Inv X pins Z H2 s2->RelV x v->RelV y u->R x y H2->aG (aM X.prog X.w) X.A (f v u) Q X.xe s2) :
  aG (aM X.prog X.w) X.A (eN a X.env) (λv s₁=>aG (aM X.prog X.w) X.A (eN b X.env) (λu s₂=>aG (aM X.prog X.w) X.A (f v u) Q X.xe s₂) X.xe s₁) X.xe s:=by
 refine gP (ha pins s Z H _ I h) λv s1 ⟨x,H1,I1,r1,q1⟩=>?_;refine gP (hb pins s1 Z H1 _ I1 q1) λu s2 ⟨y,H2,I2,r2,q2⟩=>?_;exact hf v u s2 x y H2 I2 r1 r2 q2
def iO {op:Ac}{r:R2}(ho:qc X (qH op) r) (ha:PE X a ta) (hb:PE X b tb):PE X (.BinOp a op b pos) (cn r ta tb):=by
 intro pins s Z H Q I h;exact wpAny_BinOp (U5 ha hb I h λv u s2 x y H2 I2 rx ry q=>ho pins s2 Z H2 x y v u Q I2 rx ry q)
def Xh {op:UnaryOp}{r:V->Hp->VK->Prop}(ho:ZO X (unaryOp op) r) (ha:PE X a ta):PE X (.UnaryOp op a pos) (ZQ r ta):=by
 intro pins s Z H Q I h;exact UnaryOp_ (gP (ha pins s Z H _ I h) λv s1 ⟨x,H1,I1,r1,q1⟩=>ho pins s1 Z H1 x v Q I1 r1 q1)
def Zb {f:ai->ai->SV ai}{C:Int->Int->Prop}{g:Int->Int->Int}
  (Em:∀ (i j:Int) (t u:SU) (s:ak) (Q:ai->ak->Prop) (E:ai->ak->Prop),C i j->Q (.int (g i j) s.toks) { s with toks:=s.toks+1 }->aG (aM X.prog X.w) X.A (f (.int i t) (.int j u)) Q E s) :
  qc X f (rI C λi j=>.int (g i j)):=by
 intro pins s Z H x y v u Q I rx ry h;obtain ⟨i,j,rfl,rfl,hc,q⟩:=h;obtain ⟨t,rfl⟩:=rx;obtain ⟨t',rfl⟩:=ry;exact Em i j t t' s _ _ hc ⟨.int (g i j),H,I.tok _,⟨_,rfl⟩,q⟩
def RF {f:ai->ai->SV ai}{g:Int->Int->Int}
  (Em:∀ (i j:Int) (t u:SU) (s:ak) (Q:ai->ak->Prop) (E:ai->ak->Prop),Q (.int (g i j) s.toks) { s with toks:=s.toks+1 }->aG (aM X.prog X.w) X.A (f (.int i t) (.int j u)) Q E s) :
  qc X f (nY λi j=>.int (g i j)):=by
 intro pins s Z H x y v u Q I rx ry h;obtain ⟨i,j,rfl,rfl,q⟩:=h;obtain ⟨t,rfl⟩:=rx;obtain ⟨t',rfl⟩:=ry;exact Em i j t t' s _ _ ⟨.int (g i j),H,I.tok _,⟨_,rfl⟩,q⟩
def RG {f:ai->ai->SV ai}{g:Int->Int->Bool}
  (Em:∀ (i j:Int) (t u:SU) (s:ak) (Q:ai->ak->Prop) (E:ai->ak->Prop),Q (.bool (g i j)) s->aG (aM X.prog X.w) X.A (f (.int i t) (.int j u)) Q E s) :
  qc X f (nY λi j=>.bl (g i j)):=by
 intro pins s Z H x y v u Q I rx ry h;obtain ⟨i,j,rfl,rfl,q⟩:=h;obtain ⟨t,rfl⟩:=rx;obtain ⟨t',rfl⟩:=ry;exact Em i j t t' s _ _ ⟨.bl (g i j),H,I,rfl,q⟩
def nZ (i j:Int):Prop:=0<j/\j<1073741824
def Ll (i j:Int):Prop:=(-(2^64)<i/\i<2^64)\/(-(2^64)<j/\j<2^64)
def Ll.ok {i j:Int}(h:Ll i j):IntMulOk i j:=by
 rcases h with ⟨h1,h2⟩|⟨h1,h2⟩
 ·exact .of_left (intBits_le_64 h1 h2)
 ·exact .of_right (intBits_le_64 h1 h2)
def U6:qc X (qH .Add) (nY λi j=>.int (i+j)):=RF λ_ _ _ _ _ _ _ q=>add_int q
def Fv:qc X (qH .Sub) (nY λi j=>.int (i-j)):=RF λ_ _ _ _ _ _ _ q=>sub_int q
def U7:qc X (qH .Mult) (rI Ll λi j=>.int (i*j)):=Zb λ_ _ _ _ _ _ _ hc q=>mul_int q hc.ok
def sL:qc X (qH .FloorDiv) (rI nZ λi j=>.int (i/j)):=Zb λi j _ _ _ _ _ hc q=>by
 have h1:(0:Int)<j:=hc.1;have h2:j<1073741824:=hc.2;exact floordiv_int (by lia) (by rw [Int.fdiv_eq_ediv_of_nonneg i (by lia)];exact q) (.inl (PyProof.noPylong_small (by lia)))
def xJ:qc X (qH .Mod) (rI (λ_ j=>0<j) λi j=>.int (i%j)):=Zb λi j _ _ _ _ _ hc q=>by
 have h1:(0:Int)<j:=hc;exact mod_int' (by lia) (by rw [Int.fmod_eq_emod_of_nonneg i (by lia)];exact q)
def LC:qc X (Aw .Add) (nY λi j=>.int (i+j)):=RF λ_ _ _ _ _ _ _ q=>UG q
def RH:qc X (Aw .Sub) (nY λi j=>.int (i-j)):=RF λ_ _ _ _ _ _ _ q=>isub_int q
def RI:qc X (Aw .Mult) (rI Ll λi j=>.int (i*j)):=Zb λ_ _ _ _ _ _ _ hc q=>imul_int q hc.ok
def unI {f:ai->SV ai}{g:Int->Int}
  (Em:∀ (i:Int) (t:SU) (s:ak) (Q:ai->ak->Prop) (E:ai->ak->Prop),Q (.int (g i) s.toks) { s with toks:=s.toks+1 }->aG (aM X.prog X.w) X.A (f (.int i t)) Q E s) :
  ZO X f (rU λi=>.int (g i)):=by
 intro pins s Z H x v Q I rx h;obtain ⟨i,rfl,q⟩:=h;obtain ⟨t,rfl⟩:=rx;exact Em i t s _ _ ⟨.int (g i),H,I.tok _,⟨_,rfl⟩,q⟩
def U8:ZO X (unaryOp .USub) (rU λi=>.int (-i)):=unI λ_ _ _ _ _ q=>neg_int q
end
def Xi:V->V->Bool
 | .non,.non=>true | .non,.int _=>true | .int _,.non=>true | .non,.bl _=>true | .bl _,.non=>true | .non,.str _=>true | .str _,.non=>true
 | .int _,.int _=>true | .bl _,.bl _=>true | .str _,.str _=>true | .byt _,.byt _=>true
 | .int _,.str _=>true | .str _,.int _=>true | .bl _,.str _=>true | .str _,.bl _=>true
 | _,_=>false
def rEq:R2:=λx y H Q=>Xi x y=true/\Q (.bl (decide (x=y))) H
def rNe:R2:=λx y H Q=>Xi x y=true/\Q (.bl (!decide (x=y))) H
def LD {i j:Int}:decide (V.int i=V.int j)=(i == j):=by
 rw [jr];simp
def Ov {i j:Bool}:decide (V.bl i=V.bl j)=(i == j):=by
 rw [jr];simp
def LF {i j:bh}:decide (V.str i=V.str j)=(i == j):=by
 rw [jr];simp
def LG {i j:Array UInt8}:decide (V.byt i=V.byt j)=(i.toList == j.toList):=by
 rw [jr];cases i;cases j;simp
section
variable {X:Cx}{a b c:Expr}{ta tb tc:TE}{pos:kM}
def eP {pins:List (af×ft)}{Z:St}{H:Hp}{s:ak}{Q:VK}{k k':Bool}(I:Inv X pins Z H s) (q:Q (.bl k) H) (e:k=k'):EP X pins Z Q (.bool k') s:=by
 subst e;exact ⟨.bl k,H,I,rfl,q⟩
def Xj:qc X (df .Eq) rEq:=by
 intro pins s Z H x y v u Q I rx ry h;obtain ⟨hs,q⟩:=h
 cases x with
 | non =>
  cases rx
  cases y with
  | non=>cases ry;exact PySem.EqNone.eq_none_none (eP I q (by simp))
  | bl j=>cases ry;exact PySem.EqNone.eq_none_bool (eP I q (by simp))
  | int j=>obtain ⟨t',rfl⟩:=ry;exact PySem.EqNone.eq_none_int (eP I q (by simp))
  | str j=>obtain ⟨t',rfl⟩:=ry;exact PySem.EqNone.eq_none_str (eP I q (by simp))
  | _=>exact absurd (show false=true from hs) bA
 | bl i =>
  cases rx
  cases y with
  | non=>cases ry;exact PySem.EqNone.eq_bool_none (eP I q (by simp))
  | bl j=>cases ry;exact eq_bool (eP I q Ov)
  | str j=>obtain ⟨t',rfl⟩:=ry;exact PySem.EqMixed.eq_bool_str (eP I q (by simp))
  | _=>exact absurd (show false=true from hs) bA
 | int i =>
  obtain ⟨t,rfl⟩:=rx
  cases y with
  | non=>cases ry;exact PySem.EqNone.eq_int_none (eP I q (by simp))
  | int j=>obtain ⟨t',rfl⟩:=ry;exact eq_int (eP I q LD)
  | str j=>obtain ⟨t',rfl⟩:=ry;exact PySem.EqMixed.eq_int_str (eP I q (by simp))
  | _=>exact absurd (show false=true from hs) bA
 | str i =>
  obtain ⟨t,rfl⟩:=rx
  cases y with
  | non=>cases ry;exact PySem.EqNone.eq_str_none (eP I q (by simp))
  | bl j=>cases ry;exact PySem.EqMixed.eq_str_bool (eP I q (by simp))
  | int j=>obtain ⟨t',rfl⟩:=ry;exact PySem.EqMixed.eq_str_int (eP I q (by simp))
  | str j=>obtain ⟨t',rfl⟩:=ry;exact eq_str (eP I q LF)
  | _=>exact absurd (show false=true from hs) bA
 | byt i =>
  obtain ⟨t,rfl⟩:=rx
  cases y with
  | byt j=>obtain ⟨t',rfl⟩:=ry;exact PySem.W.eq_bytes (eP I q LG)
  | _=>exact absurd (show false=true from hs) bA
 | _=>cases y<;>exact absurd (show false=true from hs) bA
def Xk:qc X (df .NotEq) rNe:=by
 intro pins s Z H x y v u Q I rx ry h;obtain ⟨hs,q⟩:=h
 cases x with
 | non =>
  cases rx
  cases y with
  | non=>cases ry;exact PySem.EqNone.ne_none_none (eP I q (by simp))
  | bl j=>cases ry;exact PySem.EqNone.ne_none_bool (eP I q (by simp))
  | int j=>obtain ⟨t',rfl⟩:=ry;exact PySem.EqNone.ne_none_int (eP I q (by simp))
  | str j=>obtain ⟨t',rfl⟩:=ry;exact PySem.EqNone.ne_none_str (eP I q (by simp))
  | _=>exact absurd (show false=true from hs) bA
 | bl i =>
  cases rx
  cases y with
  | non=>cases ry;exact PySem.EqNone.ne_bool_none (eP I q (by simp))
  | bl j=>cases ry;exact ne_bool (eP I q (congrArg not Ov))
  | str j=>obtain ⟨t',rfl⟩:=ry;exact PySem.EqMixed.ne_bool_str (eP I q (by simp))
  | _=>exact absurd (show false=true from hs) bA
 | int i =>
  obtain ⟨t,rfl⟩:=rx
  cases y with
  | non=>cases ry;exact PySem.EqNone.ne_int_none (eP I q (by simp))
  | int j=>obtain ⟨t',rfl⟩:=ry;exact ne_int (eP I q (congrArg not LD))
  | str j=>obtain ⟨t',rfl⟩:=ry;exact PySem.EqMixed.ne_int_str (eP I q (by simp))
  | _=>exact absurd (show false=true from hs) bA
 | str i =>
  obtain ⟨t,rfl⟩:=rx
  cases y with
  | non=>cases ry;exact PySem.EqNone.ne_str_none (eP I q (by simp))
  | bl j=>cases ry;exact PySem.EqMixed.ne_str_bool (eP I q (by simp))
  | int j=>obtain ⟨t',rfl⟩:=ry;exact PySem.EqMixed.ne_str_int (eP I q (by simp))
  | str j=>obtain ⟨t',rfl⟩:=ry;exact ne_str (eP I q (congrArg not LF))
  | _=>exact absurd (show false=true from hs) bA
 | byt i =>
  obtain ⟨t,rfl⟩:=rx
  cases y with
  | byt j=>obtain ⟨t',rfl⟩:=ry;exact PySem.W.ne_bytes (eP I q (congrArg not LG))
  | _=>exact absurd (show false=true from hs) bA
 | _=>cases y<;>exact absurd (show false=true from hs) bA
def Eu:qc X (df .Lt) (nY λi j=>.bl (decide (i<j))):=RG λ_ _ _ _ _ _ _ q=>Ri q
def LH:qc X (df .LtE) (nY λi j=>.bl (decide (i<=j))):=RG λ_ _ _ _ _ _ _ q=>le_int q
def Ow:qc X (df .Gt) (nY λi j=>.bl (decide (j<i))):=RG λ_ _ _ _ _ _ _ q=>gt_int q
def To:qc X (df .GtE) (nY λi j=>.bl (decide (j<=i))):=RG λ_ _ _ _ _ _ _ q=>ge_int q
def qc.or {f:ai->ai->SV ai}{r r':R2}(h:qc X f r) (h':qc X f r'):qc X f (λx y H Q=>r x y H Q\/r' x y H Q):=by
 intro pins s Z H x y v u Q I rx ry q
 rcases q with q|q
 ·exact h pins s Z H x y v u Q I rx ry q
 ·exact h' pins s Z H x y v u Q I rx ry q
def il (b:Expr) {op:Rh}(h:op≠.In:=by decide) (h2:op≠.NotIn:=by decide):jU op b=false:=by
 have e1:(op == CmpOp.In)=false:=by cases op<;>first|rfl|exact absurd rfl h
 have e2:(op == CmpOp.NotIn)=false:=by cases op<;>first|rfl|exact absurd rfl h2
 cases b<;>simp [jU,e1,e2]
def LI {op:Rh}{r:R2}(ho:qc X (df op) r) (ha:PE X a ta) (hb:PE X b tb) (hm:jU op b=false):PE X (.Compare a [op] [b] pos) (cn r ta tb):=by
 intro pins s Z H Q I h;exact wpAny_Compare1 (U5 ha hb I h λv u s2 x y H2 I2 rx ry q=>ho pins s2 Z H2 x y v u Q I2 rx ry q) hm
def cS (t:TE):TT:=λZ H Q=>t Z H λx H'=>∃ k,x=.bl k/\Q k H'
def fz {op:Rh}{r:R2}(ho:qc X (df op) r) (ha:PE X a ta) (hb:PE X b tb) (hm:jU op b=false):PT X (.Compare a [op] [b] pos) (cS (cn r ta tb)):=by
 intro pins s Z H Q I h
 refine UF (gP (ha pins s Z H _ I h) λv s1 ⟨x,H1,I1,r1,q1⟩=>gP (hb pins s1 Z H1 _ I1 q1) λu s2 ⟨y,H2,I2,r2,q2⟩ =>
  gP (ho pins s2 Z H2 x y v u _ I2 r1 r2 q2) λc s3 ⟨z,H3,I3,r3,k,e,q3⟩=>?_) hm
 subst e;cases r3;exact ki ⟨H3,I3,q3⟩
def Fw (r r':R2) (ta tb tc:TE):TE:=λZ H Q=>ta Z H λx H1=>tb Z H1 λy H2=>r x y H2 λz H3=>∃ k,z=.bl k /\
 (if k=true then tc Z H3 λw' H4=>r' y w' H4 Q else Q (.bl false) H3)
def HA {op op':Rh}{r r':R2}(ho:qc X (df op) r) (ho':qc X (df op') r') (ha:PE X a ta) (hb:PE X b tb) (hc:PE X c tc)
  (hm:lastMarks [op,op'] [b,c]=false:=by with_unfolding_all rfl):PE X (.Compare a [op,op'] [b,c] pos) (Fw r r' ta tb tc):=by
 intro pins s Z H Q I h
 refine Compare_chain (gP (ha pins s Z H _ I h) λv s1 ⟨x,H1,I1,r1,q1⟩=>chain_link (gP (hb pins s1 Z H1 _ I1 q1) λu s2 ⟨y,H2,I2,r2,q2⟩ =>
  gP (ho pins s2 Z H2 x y v u _ I2 r1 r2 q2) λd s3 ⟨z,H3,I3,r3,k,e,q3⟩=>?_)) hm
 subst e;cases r3;refine ki ?_
 cases k with
 | false=>exact ite_ff ⟨.bl false,H3,I3,rfl,q3⟩
 | true=>exact ite_tt (chain_last (gP (hc pins s3 Z H3 _ I3 q3) λw' s4 ⟨z',H4,I4,r4,q4⟩=>ho' pins s4 Z H4 y z' u w' Q I4 r2 r4 q4))
def RJ (K:aa) (x:V) (H:Hp) (k:Bool):Prop :=
 match x with
 | .non=>k=false
 | .bl b=>k=b
 | .int i=>k=(i != 0)
 | .str y=>y.length<=aT/\k=((y.length:Int) != 0)
 | .byt y=>y.size<=aT/\k=((y.size:Int) != 0)
 | .ref p=>(∃ xs,c9 K H p xs/\k=!xs.isEmpty)\/(∃ xs,ku K H p xs/\k=!xs.isEmpty)\/∃ kvs,H p=some (.dK kvs)/\k=!kvs.isEmpty
 | _=>False
def J8 {κ:Type} {kvs:List (κ×V)}{vs:List (κ×ai)}(r:KV kvs vs):(!vs.isEmpty)=!kvs.isEmpty:=by
 cases r<;>rfl
def AN {xs:List V}{its:List ai}(r:Vals xs its):(!its.toArray.isEmpty)=!xs.isEmpty:=by
 cases r<;>simp
def qT:(aT:Nat)<2^63:=by rw [oi];decide
def U9:ZP X (λx H Q=>∃ k,RJ X.K x H k/\Q k H):=by
 intro pins s Z H x v Q I rx h;obtain ⟨k,e,q⟩:=h;have hl:=qT;have hs:aT=16777216:=oi
 cases x with
 | non =>
  cases rx;have e':k=false:=e;subst e'
  exact truthy_none ⟨H,I,q⟩
 | bl b =>
  cases rx;have e':k=b:=e;subst e'
  exact ki ⟨H,I,q⟩
 | int i =>
  obtain ⟨t,rfl⟩:=rx;have e':k=(i != 0):=e;subst e'
  exact PySem.P.truthy_int ⟨H,I,q⟩
 | str y =>
  obtain ⟨t,rfl⟩:=rx;obtain ⟨hy,e'⟩:y.length<=aT/\k=((y.length:Int) != 0):=e;subst e'
  exact PySem.P.truthy_str (by lia) ⟨H,I.tok _,q⟩
 | byt y =>
  obtain ⟨t,rfl⟩:=rx;obtain ⟨hy,e'⟩:y.size<=aT/\k=((y.size:Int) != 0):=e;subst e'
  exact PySem.W.truthy_bytes (by lia) ⟨H,I.tok _,q⟩
 | ref p =>
  cases rx;have e':(∃ xs,c9 X.K H p xs/\k=!xs.isEmpty)\/(∃ xs,ku X.K H p xs/\k=!xs.isEmpty)\/∃ kvs,H p=some (.dK kvs)/\k=!kvs.isEmpty:=e
  rcases e' with ⟨xs,hx,e'⟩|⟨xs,hx,e'⟩|⟨kvs,hx,e'⟩
  ·subst e';obtain ⟨its,r,pl,hz⟩:=I.list hx;have hlen:=r.length;exact wpAny_truthy_list pl.isList (by simp only [aO];lia) ⟨H,I.tok _,by rw [AN r];exact q⟩
  ·subst e';obtain ⟨its,r,pl,hz⟩:=I.tuple hx;have hlen:=r.length;exact truthy_tuple pl (by simp only [aO];lia) ⟨H,I.tok _,by rw [AN r];exact q⟩
  ·subst e';obtain ⟨hz,hS,vs,r,m⟩:kvs.length<=aT/\(p == gR)=false/\∃ vs,KV kvs vs/\s.heap.DictOf (ee X.prog X.w) p vs:=I.eC p _ hx;have hlen:kvs.length=vs.length:=xk r
   exact wpAny_truthy_dict hS m (by lia) ⟨H,I.tok _,by rw [J8 r];exact q⟩
 | _=>exact (show False from e).elim
def Ox (ha:PE X a ta) (he:∀ whole,isTrue a X.env whole=(do let v ← whole;sR a.pos;kj [v] (truthy v))) :
  PT X a (λZ H Q=>ta Z H λx H'=>∃ k,RJ X.K x H' k/\Q k H'):=by
 intro pins s Z H Q I h;exact isTrue_plain (gP (ha pins s Z H _ I h) λv s1 ⟨x,H1,I1,r1,q1⟩=>U9 pins s1 Z H1 x v Q I1 r1 q1) (he _)
def vals1 {x:V}{us:List ai}(r:Vals [x] us):∃ u,us=[u]/\RelV x u:=by
 cases r with
 | cons r1 r2=>cases r2;exact ⟨_,rfl,r1⟩
def vals2 {x y:V}{us:List ai}(r:Vals [x,y] us):∃ u w',us=[u,w']/\RelV x u/\RelV y w':=by
 cases r with
 | cons r1 r2 =>
  cases r2 with
  | cons r3 r4=>cases r4;exact ⟨_,_,rfl,r1,r3⟩
def MR (hc:X.calm=true):mv X (.builtin "max") (λxs H Q=>∃ i j,xs=[.int i,.int j]/\Q (.int (if j>i then j else i)) H):=by
 intro pins s Z H xs us Q I r h;obtain ⟨i,j,rfl,q⟩:=h;obtain ⟨u,w',rfl,⟨t,rfl⟩,⟨t',rfl⟩⟩:=vals2 r
 refine max_two_ints (I.ok.hd hc) λh' tk k=>⟨_,H,I.kept k,?_,q⟩
 by_cases hj:j>i
 ·rw [if_pos hj,if_pos hj];exact ⟨_,rfl⟩
 ·rw [if_neg hj,if_neg hj];exact ⟨_,rfl⟩
def Ew (hc:X.calm=true):mv X (.builtin "min") (λxs H Q=>∃ i j,xs=[.int i,.int j]/\Q (.int (if j<i then j else i)) H):=by
 intro pins s Z H xs us Q I r h;obtain ⟨i,j,rfl,q⟩:=h;obtain ⟨u,w',rfl,⟨t,rfl⟩,⟨t',rfl⟩⟩:=vals2 r
 refine min_two_ints (I.ok.hd hc) λh' tk k=>⟨_,H,I.kept k,?_,q⟩
 by_cases hj:j<i
 ·rw [if_pos hj,if_pos hj];exact ⟨_,rfl⟩
 ·rw [if_neg hj,if_neg hj];exact ⟨_,rfl⟩
end
end L2
namespace L2
structure Lp (h:cb) (x dx C:af) (mA:bh->Option ai):Prop where
 obj:h.get? x=some (ij C dx)
 ns:h.Ns1 dx mA
 ne:dx≠x
def MS {h:cb}{dx:af}{mA:bh->Option ai}(n:h.Ns1 dx mA):∃ od,h.get? dx=some od/\∀ name,tI name od=some (mA name):=by
 obtain ⟨o,es,ep,ho,hd,hk,_,hm⟩:=n;refine ⟨o,ho,λname=>?_⟩;have e:=hm name;unfold nsFind findBy at e;rw [← Array.find?_toList] at e;unfold tI;rw [hd];dsimp only
 split
 ·rename_i y q
  rw [q] at e;exact congrArg some e
 ·rename_i q
  rw [q] at e
  have a:es.toList.any (·.refKey)=false:=by
   rw [List.any_eq_false];intro y hy;obtain ⟨z,t,hkey⟩:=hk y (Array.mem_toList_iff.mp hy);simp [DictEntry.refKey,hkey]
  have a':¬ es.toList.any (·.refKey)=true:=by rw [a];exact bA
  rw [if_neg a'];exact congrArg some e
def Lp.look {h:cb}{x dx C:af}{mA:bh->Option ai}(I:Lp h x dx C mA):∃ od,PySem.W.InstAt h x (ij C dx) C (some od)/\∀ name,tI name od=some (mA name) :=
 let ⟨od,ho,hl⟩:=MS I.ns
 ⟨od,⟨I.obj,rfl,rfl,ho⟩,hl⟩
section
variable {prog:aY}{w:bH}{A:bN}{E:ai->ak->Prop}{s:ak}{K:aa}{x dx C f:af}{mA:bh->Option ai}{name:bh}{v:ai}
def RK {expr:Bool}{Q:ai->ak->Prop}(X:K.In s.heap) (I:Lp s.heap x dx C mA) (hg:iL K C name=true) (hh:jt K C=true)
  (ha:bD K (.ref C) name=some none) (hv:mA name=some v) (hv':Q2 v=true) (h:Q v { s with toks:=s.toks+1 }) :
  aG (aM prog w) A (getAttr (.ref x) name expr) Q E s:=by
 obtain ⟨od,J,hl⟩:=I.look;exact PySem.W.get_value X J (vi hg).1 (PySem.W.findObj_own hh ha rfl (by rw [hl,hv])) hv' h
def Oy {pl:SV Bool}{Q:ai×List ai->ak->Prop}(X:K.In s.heap) (I:Lp s.heap x dx C mA) (hg:iL K C name=true)
  (hf:bD K (.ref C) name=some (some (.ref f))) (ht:qI K (.ref f)=true) (hv:mA name=none) (h:Q (.ref f,[.ref x]) s) :
  aG (aM prog w) A (Ax (.ref x) name pl) Q E s:=by
 obtain ⟨od,J,hl⟩:=I.look;exact PySem.W.method_fn X J (vi hg).1 (vi hg).2 hf (beq_iff_eq.mp ht) (by show (tI name od).map (·.isSome)=some false;rw [hl,hv];rfl) h
def RL {ns:List bh}{Q:Unit->ak->Prop}(X:K.In s.heap) (I:Lp s.heap x dx C mA)
  (hs:bD K (.ref C) "__setattr__"=some (some (.builtin "object.__setattr__"))) (hp:ll K C=true) (ht:CG K C name=some none) (hh:jt K C=true)
  (hw:Lq mA ns) (hsz:ns.length<=aT)
  (h:∀ h',Lp h' x dx C (λy=>if y=name then some v else mA y)->gN dx s.heap h'->Q () { s with heap:=h',toks:=s.toks+2 }) :
  aG (aM prog w) A (setAttr (.ref x) name v) Q E s:=by
 obtain ⟨od,J,hl⟩:=I.look;refine PySem.W.set_plain X J hs (PySem.W.osa_open (s:={ s with toks:=s.toks+1 }) (r:=none) X J hp ht λb=>?_);obtain ⟨cd,hc,hd'⟩:=PySem.W.any_some hh;have hx:s.heap.get? x=some ⟨.ref C,some dx,.plain,#[]⟩:=I.obj;refine ae (ao (ae (ae (wpAny_loadPart hx (ae (PySem.W.Looks.here (s:={ s with toks:=s.toks+1 }) (PySem.W.looks_clsIn X hc) ?_))))));rw [hd'];refine ao (a:=some dx) (ae (ao (ae ?_)));refine wpAny_nsSet1 (s:={ s with toks:=s.toks+1 }) I.ns λh' hn2 hs2=>?_;obtain ⟨oD,esD,epD,hoD,hdD,hcD⟩:=hn2.count (PySem.Within.cons name v hw);refine ae (wpAny_lookBehind hoD (by rw [hdD];exact pastItsLine_dict (bf hcD (by rw [bT];lia))) ?_);exact ao (h _ ⟨(hs2.2 _ (Ne.symm I.ne)).trans I.obj,hn2,I.ne⟩ hs2)
def Oz {R:JH->ak->Prop}{vs:List ai}{kw:List (bh×ai)}(X:K.In s.heap) (hm:kH K C=true)
  (hi:bD K (.ref C) "__init__"=some (some (.ref f))) (hf:PySem.W.typeIn K (.ref f)=some (.type "function"))
  (h:km (aM prog w) (A.under (.builtin "type.__call__" ⟨.ref C::vs,kw⟩)) (.call (.ref f) ⟨.ref (s.heap.objs.size+1)::vs,kw⟩) (PySem.W.InitBack (s.heap.objs.size+1) R)
   { s with heap:=(s.heap.push e9).push (ij C s.heap.objs.size) }) :
  km (aM prog w) A (.call (.ref C) ⟨vs,kw⟩) R s:=by
 obtain ⟨hh,g,d,t,os⟩:=s;exact PySem.W.make_core (PySem.W.makes_of X hm) (PySem.W.looks_findIn X hi) (λself=>PySem.W.bind_fn X self hf) (.inl rfl) h
end
def dP (f:bh) (v:V):List (bh×V)->List (bh×V)
 | []=>[(f,v)]
 | (g,x)::r=>if g=f then (g,v)::r else (g,x)::dP f v r
theorem ff (f g:bh) (v:V):∀ fs:List (bh×V),(dP f v fs).lookup g=if g=f then some v else fs.lookup g
 | []=>by
  show dF g [(f,v)]=_
  by_cases h:g=f
  ·have hb:(g == f)=true:=beq_iff_eq.mpr h;simp only [dF,hb,if_pos h]
  ·have hb:(g == f)=false:=beq_eq_false_iff_ne.mpr h
   simp only [dF,hb,if_neg h]
 | (k,x)::r=>by
  have ih:=ff f g v r;rw [show dP f v ((k,x)::r)=(if k=f then (k,v)::r else (k,x)::dP f v r) from rfl]
  by_cases hk:k=f
  ·rw [if_pos hk]
   by_cases h:g=k
   ·have hb:(g == k)=true:=beq_iff_eq.mpr h;simp only [dF,hb,if_pos (h.trans hk)]
   ·have hb:(g == k)=false:=beq_eq_false_iff_ne.mpr h;simp only [dF,hb,if_neg (λe:g=f=>h (e.trans hk.symm))]
  ·rw [if_neg hk]
   by_cases h:g=k
   ·have hb:(g == k)=true:=beq_iff_eq.mpr h;simp only [dF,hb,if_neg (λe:g=f=>hk (h.symm.trans e))]
   ·have hb:(g == k)=false:=beq_eq_false_iff_ne.mpr h;simp only [dF,hb];exact ih
theorem xK (f:bh) (v:V):∀ fs:List (bh×V),f∈(dP f v fs).map (·.1)/\∀ g,g∈fs.map (·.1)->g∈(dP f v fs).map (·.1)
 | []=>⟨by simp [dP],λg h=>by simp at h⟩
 | (k,x)::r=>by
  obtain ⟨i1,i2⟩:=xK f v r;rw [show dP f v ((k,x)::r)=(if k=f then (k,v)::r else (k,x)::dP f v r) from rfl]
  by_cases hk:k=f
  ·rw [if_pos hk];subst hk;exact ⟨by simp,λg h=>by simpa using h⟩
  ·rw [if_neg hk];refine ⟨?_,λg h=>?_⟩
   ·rw [bU];exact aj _ i1
   ·rw [bU] at h ⊢
    rcases av.mp h with e|e
    ·exact av.mpr (.inl e)
    ·exact aj _ (i2 g e)
theorem yL (f:bh) (v:V):∀ fs:List (bh×V),(dP f v fs).length<=fs.length+1
 | []=>by simp [dP]
 | (k,x)::r=>by
  have ih:=yL f v r;rw [show dP f v ((k,x)::r)=(if k=f then (k,v)::r else (k,x)::dP f v r) from rfl]
  by_cases hk:k=f
  ·rw [if_pos hk,bT,bT];lia
  ·rw [if_neg hk,bT,bT];lia
def qb.some_of {v:V}{o:Option ai}(r:qb (some v) o):∃ u,o=some u/\RelV v u:=by
 cases o with
 | none=>exact (show False from r).elim
 | some u=>exact ⟨u,rfl,r⟩
def qb.none_of {o:Option ai}(r:qb none o):o=none:=by
 cases o with
 | none=>rfl
 | some u=>exact (show False from r).elim
def MT {v:V}{u:ai}(r:RelV v u):Q2 u=true:=by
 cases v with
 | non=>cases (show u=eQ from r);rfl
 | bl b=>cases (show u=sG b from r);rfl
 | int i=>obtain ⟨t,e⟩:=(show ∃ t,u=fj i t from r);cases e;rfl
 | str x=>obtain ⟨t,e⟩:=(show ∃ t,u=qF x t from r);cases e;rfl
 | byt b=>obtain ⟨t,e⟩:=(show ∃ t,u=Value.bytes b t from r);cases e;rfl
 | flt b=>obtain ⟨t,e⟩:=(show ∃ t,u=NL b t from r);cases e;rfl
 | ref a=>cases (show u=aD a from r);rfl
 | ty n=>cases (show u=eS n from r);rfl
section
variable {P:aY}{w:bH}{H H':Hp}{h h':cb}{a C dx:af}{fs fs':List (bh×V)}
def Ao (eC:qv P w H h) (e:H a=some (.ins C dx fs)):∃ mA,Lp h a dx C mA/\(∀ f,qb (fs.lookup f) (mA f))/\Lq mA (fs.map (·.1))/\fs.length<=1000/\H dx=some (.own a):=by
 obtain ⟨d,z,ne,ob,mA,n,r,q⟩:=(show d9 P w H h a (.ins C dx fs) from eC a _ e)
 exact ⟨mA,⟨ob,n,ne⟩,r,q,z,d⟩
end
structure CO (K:aa) (C:af):Prop where
 pg:iL K C MD=true
 hd:jt K C=true
 po:ll K C=true
 sa:bD K (.ref C) "__setattr__"=some (some (.builtin "object.__setattr__"))
def CO.get {K:aa}{C:af}(c:CO K C) (f:bh):iL K C f=true:=c.pg
def dE (K:aa) (C:af) (f:bh):Prop:=bD K (.ref C) f=some none
def dE.YN {K:aa}{C:af}{f:bh}(n:dE K C f):CG K C f=some none:=by
 unfold CG;rw [show bD K (.ref C) f=some none from n]
 rfl
structure RM (K:aa) (C:af) (m:bh) (f:af):Prop where
 at_:bD K (.ref C) m=some (some (.ref f))
 fn:qI K (.ref f)=true
 kp:eD K (.ref f)=true
section
variable {X:Cx}{pins:List (af×ft)}{Z:St}{H:Hp}{s:ak}{a C dx:af}{fs:List (bh×V)}{f:bh}{v:V}{A:bN}{E:ai->ak->Prop}
def AO {b:Bool}{Q:ai->ak->Prop}(I:Inv X pins Z H s) (e:H a=some (.ins C dx fs)) (c:CO X.K C) (n:dE X.K C f) (l:fs.lookup f=some v)
  (h:∀ u s',Inv X pins Z H s'->RelV v u->Q u s'):aG (aM X.prog X.w) A (getAttr (.ref a) f b) Q E s:=by
 obtain ⟨mA,O,r,_,_,_⟩:=Ao I.eC e;obtain ⟨u,hu,ru⟩:=qb.some_of (v:=v) (o:=mA f) (by rw [← l];exact r f);exact RK I.Ab O (c.get f) c.hd n hu (MT ru) (h u _ (I.tok _) ru)
def AQ {m:bh}{g:af}{pl:SV Bool}{Q:ai×List ai->ak->Prop}(I:Inv X pins Z H s) (e:H a=some (.ins C dx fs)) (c:CO X.K C) (k:RM X.K C m g) (l:fs.lookup m=none)
  (h:Q (.ref g,[.ref a]) s):aG (aM X.prog X.w) A (Ax (.ref a) m pl) Q E s:=by
 obtain ⟨mA,O,r,_,_,_⟩:=Ao I.eC e;have hn:mA m=none:=qb.none_of (by rw [← l];exact r m);exact Oy I.Ab O (c.get m) k.at_ k.fn hn h
def AR {y:V}{u:ai}{Q:Unit->ak->Prop}(I:Inv X pins Z H s) (e:H a=some (.ins C dx fs)) (c:CO X.K C) (n:dE X.K C f) (hl:fs.length<1000) (ry:RelV y u)
  (h:∀ s',Inv X pins Z (upd H a (.ins C dx (dP f y fs))) s'->Q () s'):aG (aM X.prog X.w) A (setAttr (.ref a) f u) Q E s:=by
 obtain ⟨mA,O,r,wi,_,ho⟩:=Ao I.eC e
 have hz:(fs.map (·.1)).length<=aT:=by rw [ag,oi];lia
 refine RL I.Ab O c.sa c.po n.YN c.hd wi hz λh' O' sb=>h _ ?_
 have hd:∃ o,h'.get? dx=some o:=let ⟨o,_,_,e',_⟩:=O'.ns;⟨o,e'⟩
 refine I.write (x:=a) (e:=dx) (by rw [e];exact iJ) (.inr ho) (λb q hb z=>(sb.2 b hb).trans z) hd ?_;refine ⟨by rw [aH O.ne];exact ho,?_,O.ne,O'.obj,_,O'.ns,λg=>?_,λg hg=>?_⟩
 ·have:=yL f y fs;lia
 ·show qb ((dP f y fs).lookup g) (if g=f then some u else mA g)
  rw [ff]
  by_cases q:g=f
  ·rw [if_pos q,if_pos q];exact ry
  ·rw [if_neg q,if_neg q];exact r g
 ·by_cases q:g=f
  ·rw [q];exact (xK f y fs).1
  ·refine (xK f y fs).2 g (wi g λz=>hg ?_)
   show (if g=f then some u else mA g)=none
   rw [if_neg q];exact z
def Inv.made (I:Inv X pins Z H s):Inv X pins Z (upd (upd H s.heap.objs.size (.own (s.heap.objs.size+1))) (s.heap.objs.size+1) (.ins C s.heap.objs.size []))
  { s with heap:=(s.heap.push e9).push (ij C s.heap.objs.size) }:=by
 have e1:(s.heap.push e9).get? s.heap.objs.size=some e9:=aI s.heap rfl
 have e2:((s.heap.push e9).push (ij C s.heap.objs.size)).get? (s.heap.objs.size+1)=some (ij C s.heap.objs.size):=by
  have:=aI (s.heap.push e9) (o:=ij C s.heap.objs.size) rfl
  rwa [iW] at this
 have e3:(s.heap.push e9).Ns s.heap.objs.size (λ_=>none):=⟨e9,#[],_,e1,rfl,(λe he=>absurd he (by simp)),λ_=>rfl⟩
 have I1:=I.laid (a:=s.heap.objs.size) (o:=.own (s.heap.objs.size+1)) (h':=s.heap.push e9) (t':=s.toks) (λb u q=>au _ q) (ar _) ⟨_,e1⟩;refine I1.laid (a:=s.heap.objs.size+1) (o:=.ins C s.heap.objs.size []) (t':=s.toks) (λb u q=>au _ q) (ky (iW _ _)) ?_;have ne:s.heap.objs.size≠s.heap.objs.size+1:=a9 (ja _);refine ⟨by rw [aH ne,aE],aQ _,ne,e2,λ_=>none,(Heap.Ns1.of_empty e3).at λo q=>au _ q,λ_=>iJ,λy hy=>absurd rfl hy⟩
def RN {prog:aY}{w:bH}{env:Ek}{e:Expr}{f:bh}{pos:kM}{s:ak}{Q:ai->ak->Prop}(hb:nU e f env (eN e env)=eN e env)
  (h:aG (aM prog w) A (eN e env) (λo s₁=>aG (aM prog w) A (getAttr o f true) Q E s₁) E s):aG (aM prog w) A (eN (.Attribute e f pos) env) Q E s :=
 Attribute_any_ h (by rw [arm_eval_Attribute,hb])
end
def fg (K:aa) (ta:TE) (f:bh):TE:=λZ H Q=>ta Z H λx H1=>∃ a C dx fs v,x=.ref a/\H1 a=some (.ins C dx fs)/\CO K C/\dE K C f/\fs.lookup f=some v/\Q v H1
def sZ (K:aa) (ta tv:TE) (f:bh):TS:=λD Z H=>tv Z H λy H1=>ta Z H1 λx H2=>∃ a C dx fs,x=.ref a/\H2 a=some (.ins C dx fs)/\CO K C/\dE K C f/\fs.length<1000 /\
 D.nx Z (upd H2 a (.ins C dx (dP f y fs)))
def Va (X:Cx) (op:Ac) (rd:V->V->Hp->VK->Prop):Prop :=
 ∀ (pins:List (af×ft)) (s:ak) (Z:St) (H:Hp) (x y:V) (u v:ai) (Q:VK),Inv X pins Z H s->RelV x u->RelV y v->rd x y H Q->aG (aM X.prog X.w) X.A (Aw op u v) (EP X pins Z Q) X.xe s
def sM (K:aa) (ta tv:TE) (rd:V->V->Hp->VK->Prop) (f:bh):TS:=λD Z H=>ta Z H λx H1=>∃ a C dx fs v,x=.ref a/\H1 a=some (.ins C dx fs)/\CO K C/\dE K C f/\fs.lookup f=some v /\
 tv Z H1 λy H2=>rd v y H2 λz H3=>∃ dx' fs',H3 a=some (.ins C dx' fs')/\fs'.length<1000/\D.nx Z (upd H3 a (.ins C dx' (dP f z fs')))
section
variable {X:Cx}{o e value:Expr}{f:bh}{pos pos' tpos:kM}{ta tv:TE}
def Vb (he:PE X e ta) (hb:nU e f X.env (eN e X.env)=eN e X.env):PE X (.Attribute e f pos) (fg X.K ta f):=by
 intro pins s Z H Q I h;refine RN hb (gP (he pins s Z H _ I h) λu s1 ⟨x,H1,I1,rx,a,C,dx,fs,v,ex,ea,c,n,l,q⟩=>?_);subst ex;obtain rfl:u=aD a:=rx
 exact AO I1 ea c n l λu' s2 I2 ru=>⟨v,H1,I2,ru,q⟩
def Fx (ha:PE X o ta) (hv:PE X value tv) (hs:Av value (some (.Attribute o f pos')) pos.line X.env=pure false):PS X (.Assign [.Attribute o f pos'] value pos) (sZ X.K ta tv f):=by
 intro pins s Z H D I h;refine plainObj_wpAny_Assign_Attribute (gP (hv pins s Z H _ I h) λu s1 ⟨y,H1,I1,ry,q⟩=>gP (ha pins s1 Z H1 _ I1 q) λov s2 ⟨x,H2,I2,rx,a,C,dx,fs,ex,ea,c,n,l,q2⟩=>?_) hs;subst ex;obtain rfl:ov=aD a:=rx
 exact AR I2 ea c n l ry λs3 I3=>⟨Z,_,I3,q2⟩
def sN {op:Ac}{rd:V->V->Hp->VK->Prop}(ha:PE X o ta) (hv:PE X value tv) (hop:Va X op rd):PS X (.AugAssign (.Attribute o f tpos) op value pos) (sM X.K ta tv rd f):=by
 intro pins s Z H D I h;refine wpAny_AugAssign_AttributeAny (gP (ha pins s Z H _ I h) λov s1 ⟨x,H1,I1,rx,a,C,dx,fs,v,ex,ea,c,n,l,q⟩=>?_);subst ex;obtain rfl:ov=aD a:=rx;refine AO I1 ea c n l λu s2 I2 ru=>gP (hv pins s2 Z H1 _ I2 q) λw3 s3 ⟨y,H2,I3,ry,q3⟩=>gP (hop pins s3 Z H2 v y u w3 _ I3 ru ry q3) λw4 s4 ⟨z,H3,I4,rz,dx',fs',ea',l',q4⟩=>?_
 exact AR I4 ea' c n l' rz λs5 I5=>⟨Z,_,I5,q4⟩
def MU:V->V->Hp->VK->Prop:=λx y H Q=>∃ i j,x=.int i/\y=.int j/\Q (.int (i+j)) H
def AS:Va X .Add MU:=by
 rintro pins s Z H x y u v Q I rx ry ⟨i,j,rfl,rfl,q⟩
 obtain ⟨t,rfl⟩:=(show ∃ t,u=fj i t from rx)
 obtain ⟨t',rfl⟩:=(show ∃ t',v=fj j t' from ry)
 exact UG ⟨.int (i+j),H,I.tok _,⟨_,rfl⟩,q⟩
end
section
variable {X:Cx}{pins:List (af×ft)}{Z:St}{H:Hp}{s:ak}{A:bN}{E:ai->ak->Prop}{Q:ai->ak->Prop}{c:ai}{b:Bool}
inductive vw (K:aa) (H:Hp):V->ai->Prop where
 | non:vw K H .non (.type "NoneType")
 | bl (x:Bool):vw K H (.bl x) (.type "bool")
 | int (i:Int):vw K H (.int i) (.type "int")
 | str (x:bh):vw K H (.str x) (.type "str")
 | flt (x:UInt64):vw K H (.flt x) (.type "float")
 | lst {a:af}{xs:List V}(e:H a=some (.lst xs)):vw K H (.ref a) (.type "list")
 | frz {a:af}{o:ft}{xs:List V}(e:H a=some (.frz o (.lst xs))):vw K H (.ref a) (.type "list")
 | tup {a:af}{xs:List V}(e:H a=some (.tup xs)):vw K H (.ref a) (.type "tuple")
 | dK {a:af}{kvs:List (fT×V)}(e:H a=some (.dK kvs)):vw K H (.ref a) (.type "dict")
 | dT {a:af}{kvs:List (List fT×V)}(e:H a=some (.dT kvs)):vw K H (.ref a) (.type "dict")
 | ins {a C dx:af}{fs:List (bh×V)}(e:H a=some (.ins C dx fs)) (cl:CO K C) (ha:bD K (.ref C) "__class__"=some (some (.builtin "object.__class__")))
   (hn:PySem.W.specialIn K (.builtin "object.__class__") "__get__"=some (some (.builtin "getset_descriptor.__get__"))) (htk:PySem.W.takesIn K (.builtin "object.__class__")=some true)
   (hm:PySem.W.mroIn K C (.type "object")=some true):vw K H (.ref a) (.ref C)
def MV {x:V}{u t:ai}(I:Inv X pins Z H s) (rx:RelV x u) (ty:vw X.K H x t) (e:iM X.K t c=some b) (h:∀ tk,Q (.bool b) { s with toks:=tk }) :
  aG (aM X.prog X.w) A (call (.builtin "isinstance") [u,c]) Q E s:=by
 cases ty with
 | non=>cases (show u=eQ from rx);exact eG PySem.W.kitx_none I.Ab iJ e (λz=>nomatch z) h
 | bl y=>cases (show u=sG y from rx);exact eG PySem.W.kitx_bool I.Ab iJ e (λz=>nomatch z) h
 | int i=>obtain ⟨t,q⟩:=(show ∃ t,u=fj i t from rx);cases q;exact eG PySem.W.kitx_int I.Ab iJ e (λz=>nomatch z) h
 | str y=>obtain ⟨t,q⟩:=(show ∃ t,u=qF y t from rx);cases q;exact eG PySem.W.kitx_str I.Ab iJ e (λz=>nomatch z) h
 | flt y=>obtain ⟨t,q⟩:=(show ∃ t,u=NL y t from rx);cases q;exact eG PySem.W.kitx_float I.Ab iJ e (λz=>nomatch z) h
 | @lst a xs ea =>
  cases (show u=aD a from rx)
  obtain ⟨_,_,n,_,h1⟩:=(show d9 X.prog X.w H s.heap a (.lst xs) from I.eC a _ ea)
  exact eG N8 I.Ab ⟨_,h1,rfl⟩ e (λz=>nomatch z) h
 | @frz a ob xs ea =>
  cases (show u=aD a from rx)
  obtain ⟨_,_,_,n,_,h1⟩:=(show d9 X.prog X.w H s.heap a (.frz ob (.lst xs)) from I.eC a _ ea)
  exact eG N8 I.Ab ⟨_,h1,rfl⟩ e (λz=>nomatch z) h
 | @tup a xs ea =>
  cases (show u=aD a from rx)
  obtain ⟨_,_,_,p⟩:=(show d9 X.prog X.w H s.heap a (.tup xs) from I.eC a _ ea)
  obtain ⟨o,h1,h2,_⟩:=p
  exact eG PySem.W.kitx_tuple I.Ab ⟨o,h1,h2⟩ e (λz=>nomatch z) h
 | @dK a kvs ea =>
  cases (show u=aD a from rx)
  obtain ⟨_,_,vs,_,p⟩:=(show d9 X.prog X.w H s.heap a (.dK kvs) from I.eC a _ ea)
  obtain ⟨o,es,ep,h1,h2,_⟩:=p
  exact eG N9 I.Ab ⟨o,h1,h2.1⟩ e (λz=>nomatch z) h
 | @dT a kvs ea =>
  cases (show u=aD a from rx)
  obtain ⟨_,_,xs,_,o,es,ep,h1,h2,_⟩:=(show d9 X.prog X.w H s.heap a (.dT kvs) from I.eC a _ ea)
  exact eG N9 I.Ab ⟨o,h1,h2.1⟩ e (λz=>nomatch z) h
 | @ins a C dx fs ea cl ha hn htk hm =>
  cases (show u=aD a from rx);obtain ⟨mA,O,_⟩:=Ao I.eC ea;obtain ⟨od,J,_⟩:=O.look;exact eG (PySem.W.kitx_own (cl.get _) cl.hd ha hn htk hm) I.Ab J e (λz=>nomatch z) h
end
end L2
namespace L2
structure hU (k:Nat) (A:bN):Prop where
 hd:A.handled=none
 dp:A.depth+3*k+5<qJ
 un:A.units+16*k+200<gO
def hU.mono {j k:Nat}{A:bN}(r:hU k A) (h:j<=k):hU j A:=⟨r.hd,by have:=r.dp;lia,by have:=r.un;lia⟩
def hU.deeper {k:Nat}{A:bN}(r:hU (k+1) A) (env:Ek):hU k (A.deeper env) :=
 ⟨r.hd,by have:=r.dp;show A.depth+1+3*k+5<_;lia,by have:=r.un;show A.units+3+16*k+200<_;lia⟩
def J9 {A:bN}{C:af}{us:List ai}{kw:List (bh×ai)}:(A.under (.builtin "type.__call__" ⟨.ref C::us,kw⟩)).depth=A.depth+1:=by
 first|rfl|simp [JT,Code.weight,Code.isCreation,Code.isGuard,Code.isCaller,Code.frames,ME,guardIds]
def Ka {A:bN}{C:af}{us:List ai}{kw:List (bh×ai)}:(A.under (.builtin "type.__call__" ⟨.ref C::us,kw⟩)).units=A.units+1:=by
 first|rfl|simp [JT,Code.cUnits,Code.frames,ME]
def hU.make {k:Nat}{A:bN}(r:hU (k+1) A) (C:af) (us:List ai) (kw:List (bh×ai)):hU k (A.under (.builtin "type.__call__" ⟨.ref C::us,kw⟩)) :=
 ⟨r.hd,by have:=r.dp;rw [J9];lia,by have:=r.un;rw [Ka];lia⟩
def hU.depth {k:Nat}{A:bN}(r:hU k A):A.depth<qJ:=by have:=r.dp;lia
def hU.units {k:Nat}{A:bN}(r:hU k A):A.units+64<gO:=by have:=r.un;lia
def bj:TA:=λ_ H Q=>Q [] H
def aB (ta:TE) (tr:TA):TA:=λZ H Q=>ta Z H λx H1=>tr Z H1 λxs H2=>Q (x::xs) H2
section
variable {X:Cx}{e:Expr}{es:List Expr}{te:TE}{t:TA}{pos:kM}
def dZ:PA X [] bj:=λ_ _ _ _ H Q I h=>jC ⟨[],H,I,.nil,h⟩
def cf (ha:PE X e te) (hr:PA X es t) (hs:bF (e::es) X.env=(false,eN e X.env)::bF es X.env:=by rfl):PA X (e::es) (aB te t):=by
 intro pos pins s Z H Q I h;rw [hs]
 show aG _ _ (spliced ((false,eN e X.env)::gm pos (bF es X.env))) _ _ s
 refine eT (gP (ha pins s Z H _ I h) λu s1 ⟨x,H1,I1,r1,q1⟩=>?_)
 exact gP (hr pos pins s1 Z H1 _ I1 q1) λus s2 ⟨xs,H2,I2,r2,q2⟩=>⟨x::xs,H2,I2,.cons r1 r2,q2⟩
def mV (t:TA):TE:=λZ H Q=>t Z H λxs H1=>xs.length<=aT/\∀ p,H1 p=none->Q (.ref p) (upd H1 p (.tup xs))
def zF (t:TA):TE:=λZ H Q=>t Z H λxs H1=>xs.length<=aT/\∀ p,H1 p=none->Q (.ref p) (upd H1 p (.lst xs))
def qU {x1} (h:PA X es t):PE X (.Tuple es x1 pos) (mV t):=by
 intro pins s Z H Q I hq;refine CI (gP (h pos pins s Z H _ I hq) λus s1 ⟨xs,H1,I1,r,z,q⟩=>⟨by rw [← r.length];exact z,?_⟩);have hf:H1 s1.heap.objs.size=none:=I1.eC.fresh (ar _);refine ⟨.ref s1.heap.objs.size,upd H1 s1.heap.objs.size (.tup xs),I1.laid (t':=s1.toks) (λb u e=>au _ e) (ar _) ?_,rfl,q _ hf⟩;exact ⟨z,us,r,⟨_,aI _ rfl,rfl,_,rfl⟩⟩
def Kb (h:PA X es t):PE X (.List es pos) (zF t):=by
 intro pins s Z H Q I hq;refine wpAny_List_spliced (gP (h pos pins s Z H _ I hq) λus s1 ⟨xs,H1,I1,r,z,q⟩=>⟨by rw [← r.length];exact z,?_⟩);have hf:H1 s1.heap.objs.size=none:=I1.eC.fresh (ar _);refine ⟨.ref s1.heap.objs.size,upd H1 s1.heap.objs.size (.lst xs),I1.laid (t':=s1.toks) (λb u e=>au _ e) (ar _) ?_,rfl,q _ hf⟩;exact ⟨z,us,0,r,aI _ rfl⟩
end
abbrev Sp:=List V->Hp->VK->XK->Prop
abbrev JP:=List Ek->Hp->ak->XK->ai->ak->Prop
structure Lk (P:aY) (w:bH) (K:aa) (mg:bh->Option ai) (base:cb) (A:bN) (outer:List Ek) (s:ak) (H:Hp):Prop where
 frames:A.frames=some outer
 mod:Mod K mg base
 bs:∀ b o,base.get? b=some o->s.heap.get? b=some o/\H b=none
 QR:base.objs.size<=s.heap.objs.size
 yD:s.heap.FunFrames base outer
 Uu:∀ b∈NK outer,H b=none
 eC:qv P w H s.heap
 bare:xm s.gens
def CE (outer:List Ek) (P:aY) (w:bH) (H:Hp) (s:ak) (Q:VK) (u:ai) (s':ak):Prop :=
 ∃ v H',s'.os=s.os/\xm s'.gens/\Un (NK outer) [] H H' s.heap s'.heap/\qv P w H' s'.heap/\RelV v u/\Q v H'
def CR (CX:JP) (outer:List Ek) (P:aY) (w:bH) (H:Hp) (s:ak) (Q:VK) (E:XK) (r:JH) (s':ak):Prop :=
 match r with
 | .ok (.ret u)=>CE outer P w H s Q u s'
 | .ok _=>False
 | .error e=>CX outer H s E e s'
structure lj (P:aY) (w:bH) (K:aa) (mg:bh->Option ai) (base:cb) (CX:JP) (k:Nat) (f:af) (fd:eI) (ps:List bh) (sp:Sp):Prop where
 len:∀ vs H Q E,sp vs H Q E->vs.length=ps.length
 run:∀ (A:bN) (outer:List Ek) (s:ak) (H:Hp) (args:Args) (us:List ai) (vs:List V) (Q:VK) (E:XK),hU k A->Lk P w K mg base A outer s H->GZ s fd args (ps.zip us)->Vals vs us->sp vs H Q E ->
  km (aM P w) A (.call (.ref f) args) (CR CX outer P w H s Q E) s
def Lk.make {P:aY}{w:bH}{K:aa}{mg:bh->Option ai}{base:cb}{A:bN}{outer:List Ek}{s:ak}{H:Hp}(e:Lk P w K mg base A outer s H) (C:af) (us:List ai) (kw:List (bh×ai)) :
  Lk P w K mg base (A.under (.builtin "type.__call__" ⟨.ref C::us,kw⟩)) outer s H:=⟨by first|exact e.frames|(simpa [JT,Code.envs,ME,pushEnvs] using e.frames),e.mod,e.bs,e.QR,e.yD,e.Uu,e.eC,e.bare⟩
section
variable {X:Cx}{pins:List (af×ft)}{Z:St}{H:Hp}{s s':ak}
def Inv.YD (I:Inv X pins Z H s):Lk X.prog X.w X.K X.mg X.base X.A X.stack s H :=
 ⟨I.ok.frames,I.ok.mod,I.bs,bf I.ok.QR I.sz,I.stack,I.Mz,I.eC,I.bare⟩
def Inv.after {Q:VK}{u:ai}(I:Inv X pins Z H s) (h:CE X.stack X.prog X.w H s Q u s'):EP X pins Z Q u s':=by
 obtain ⟨v,H',os,bare,un,eC,r,q⟩:=h;obtain ⟨hh,g,d,t,os'⟩:=s';obtain rfl:os'=s.os:=os;exact ⟨v,H',I.call (h':=hh) (g':=g) (d':=d) (t':=t) (ch:=[]) un eC bare (λb z=>absurd z (by simp)),r,q⟩
end
def cV (sp:Sp) (dvs:List V) (E:XK) (t:TA):TE:=λZ H Q=>t Z H λvs H1=>sp (vs++dvs) H1 Q E
def fN (C:af) (m:bh) (sp:Sp) (dvs:List V) (E:XK) (ta:TE) (t:TA):TE:=λZ H Q=>ta Z H λx H1=>∃ a dx fs,x=.ref a/\H1 a=some (.ins C dx fs)/\fs.lookup m=none /\
 t Z H1 λvs H2=>sp (x::(vs++dvs)) H2 Q E
def HB (C:af) (sp:Sp) (dvs:List V) (E:XK) (t:TA):TE:=λZ H Q=>t Z H λvs H1=>∀ x dx,H1 x=none->H1 dx=none->dx≠x ->
 sp (.ref x::(vs++dvs)) (upd (upd H1 dx (.own x)) x (.ins C dx [])) (λv H2=>v=.non/\Q (.ref x) H2) E
def Binds (K:aa) (fd:eI) (ps:List bh) (ds:List ai):Prop :=
 ∀ (s:ak) (us:List ai),K.In s.heap->(us++ds).length=ps.length->GZ s fd ⟨us,[]⟩ (ps.zip (us++ds))
def Binds.all {K:aa}{fd:eI}{ps:List bh}(h:∀ us:List ai,us.length=ps.length->Ad fd ⟨us,[]⟩=pure (ps.zip us)):Binds K fd ps []:=λs us _ hl=>by
 rw [tJ] at hl ⊢;exact .of_eq (h us hl)
def n0 (CX:JP) (X:Cx) (E:XK):Prop:=∀ (pins:List (af×ft)) (Z:St) (H:Hp) (s:ak) (e:ai) (s':ak),Inv X pins Z H s->CX X.stack H s E e s'->X.xe e s'
section
variable {X:Cx}{CX:JP}{k:Nat}{f C:af}{fd:eI}{ps:List bh}{sp:Sp}{dvs:List V}{ds:List ai}{E:XK}{x m:bh}{p pos apos:kM}{e o:Expr}{es:List Expr}{ta:TE}{t:TA}
def Kc {pins:List (af×ft)}{Z:St}{H:Hp}{s:ak}{Q:VK}{us:List ai}{vs:List V}(F:lj X.prog X.w X.K X.mg X.base CX k f fd ps sp) (hr:hU k X.A) (hb:Binds X.K fd ps ds) (hd:Vals dvs ds) (hx:n0 CX X E)
  (I:Inv X pins Z H s) (r:Vals vs us) (h:sp (vs++dvs) H Q E):aG (aM X.prog X.w) X.A (call (.ref f) us) (EP X pins Z Q) X.xe s:=by
 have r2:Vals (vs++dvs) (us++ds):=r.append hd
 have hl:(us++ds).length=ps.length:=by rw [← r2.length];exact F.len _ _ _ _ h
 refine NN (mD (F.run X.A X.stack s H ⟨us,[]⟩ (us++ds) (vs++dvs) Q E hr I.YD (hb s us I.Ab hl) r2 h) λr s' hq=>?_)
 cases r with
 | error e=>exact hx pins Z H s e s' I hq
 | ok fl =>
  cases fl with
  | ret u=>exact I.after hq
  | next=>exact hV hq
  | brk=>exact hV hq
  | cont=>exact hV hq
def RO (F:lj X.prog X.w X.K X.mg X.base CX k f fd ps sp) (hr:hU k X.A) (hg:Gl X x) (hm:X.mg x=some (.ref f)) (hk:eD X.K (.ref f)=true) (hb:Binds X.K fd ps ds) (hd:Vals dvs ds) (hx:n0 CX X E)
  (ha:PA X (e::es) t) (hdb:(x == ("__debug__":bh))=false:=by decide) (he:bF (e::es) X.env=(false,eN e X.env)::bF es X.env:=by rfl) (hpl:(gm pos (bF es X.env)).any (·.1)=false:=by rfl) :
  PE X (.Call (.Name x p) (e::es) [] pos) (cV sp dvs E t):=by
 intro pins s Z H Q I h;refine fc (Fl I hg hm ?_ hdb);refine xn (h₀:=X.base) I.ok.mod.YE hk (gP (ha pos pins s Z H _ I h) λus s1 ⟨vs,H1,I1,r,q⟩=>⟨I1.Ab,?_⟩) he hpl;exact Kc F hr hb hd hx I1 r q
def RP {pl:SV Bool}(he:PE X o ta) (c:CO X.K C) (hm:RM X.K C m f) (F:lj X.prog X.w X.K X.mg X.base CX k f fd ps sp) (hr:hU k X.A) (hb:Binds X.K fd ps ds) (hd:Vals dvs ds) (hx:n0 CX X E) (ha:PA X (e::es) t)
  (hst:bF (e::es) X.env=(false,eN e X.env)::bF es X.env:=by rfl) (hpl:(gm pos (bF es X.env)).any (·.1)=false:=by rfl)
  (ht:eN (.Call (.Attribute o m apos) (e::es) [] pos) X.env=(do
   let ov ← eN o X.env
   sR apos.atName
   let (f,first) ← kj [ov] (Ax ov m pl)
   Ww pos f first (gm pos (bF (e::es) X.env)) (Ae pos (om [] X.env))):=by rfl) :
  PE X (.Call (.Attribute o m apos) (e::es) [] pos) (fN C m sp dvs E ta t):=by
 intro pins s Z H Q I h;refine JU (pl:=pl) (gP (he pins s Z H _ I h) λu s1 ⟨x,H1,I1,rx,a,dx,fs,ex,ea,l,q⟩=>?_) ht;subst ex;obtain rfl:u=aD a:=rx;refine AQ I1 ea c hm l ?_;refine xn (first:=[.ref a]) (h₀:=X.base) I.ok.mod.YE hm.kp (gP (ha pos pins s1 Z H1 _ I1 q) λus s2 ⟨vs,H2,I2,r,q2⟩=>⟨I2.Ab,?_⟩) hst hpl;exact Kc (us:=.ref a::us) (vs:=.ref a::vs) F hr hb hd hx I2 (.cons rfl r) q2
def OA {pl:SV Bool}(he:PE X o ta) (c:CO X.K C) (hm:RM X.K C m f) (F:lj X.prog X.w X.K X.mg X.base CX k f fd ps sp) (hr:hU k X.A) (hb:Binds X.K fd ps ds) (hd:Vals dvs ds) (hx:n0 CX X E)
  (ht:eN (.Call (.Attribute o m apos) [] [] pos) X.env=(do
   let ov ← eN o X.env
   sR apos.atName
   let (f,first) ← kj [ov] (Ax ov m pl)
   Ww pos f first (gm pos (bF [] X.env)) (Ae pos (om [] X.env))):=by rfl) :
  PE X (.Call (.Attribute o m apos) [] [] pos) (fN C m sp dvs E ta bj):=by
 intro pins s Z H Q I h;refine JU (pl:=pl) (gP (he pins s Z H _ I h) λu s1 ⟨x,H1,I1,rx,a,dx,fs,ex,ea,l,q⟩=>?_) ht;subst ex;obtain rfl:u=aD a:=rx;refine AQ I1 ea c hm l ?_;exact PySem.W.callWith_K0 (first:=[.ref a]) I1.Ab hm.kp (Kc (us:=[.ref a]) (vs:=[.ref a]) F hr hb hd hx I1 (.cons rfl .nil) q)
structure Mk (K:aa) (C f:af):Prop where
 makes:kH K C=true
 init:bD K (.ref C) "__init__"=some (some (.ref f))
 fn:qI K (.ref f)=true
 kp:eD K (.ref C)=true
def OB {pins:List (af×ft)}{Z:St}{H:Hp}{s:ak}{Q:VK}{us:List ai}{vs:List V}(M:Mk X.K C f) (F:lj X.prog X.w X.K X.mg X.base CX k f fd ps sp) (hr:hU (k+1) X.A) (hb:Binds X.K fd ps ds) (hd:Vals dvs ds)
  (hx:n0 CX X E) (I:Inv X pins Z H s) (r:Vals vs us)
  (h:∀ x dx,H x=none->H dx=none->dx≠x->sp (.ref x::(vs++dvs)) (upd (upd H dx (.own x)) x (.ins C dx [])) (λv H2=>v=.non/\Q (.ref x) H2) E) :
  aG (aM X.prog X.w) X.A (call (.ref C) us) (EP X pins Z Q) X.xe s:=by
 have hq:=h (s.heap.objs.size+1) s.heap.objs.size (I.eC.fresh (gW _)) (I.eC.fresh (ar _)) (a9 (ja _));have I2:=Inv.made (C:=C) I;have r2:Vals (V.ref (s.heap.objs.size+1)::(vs++dvs)) (aD (s.heap.objs.size+1)::(us++ds)):=.cons rfl (r.append hd)
 have hl:(aD (s.heap.objs.size+1)::us++ds).length=ps.length:=by
  have e:=r2.length;rw [F.len _ _ _ _ hq] at e;exact e.symm
 refine NN (Oz (f:=f) I.Ab M.makes M.init (beq_iff_eq.mp M.fn) (mD (F.run _ X.stack _ _ ⟨aD (s.heap.objs.size+1)::us,[]⟩ (aD (s.heap.objs.size+1)::(us++ds)) _ _ E (hr.make C us [])
  (I2.YD.make C us []) (hb _ (aD (s.heap.objs.size+1)::us) I2.Ab hl) r2 hq) λr s' hq'=>?_))
 cases r with
 | error e=>exact hx pins Z _ _ e s' I2 hq'
 | ok fl =>
  cases fl with
  | ret u =>
   obtain ⟨v,H',I3,rv,ev,q3⟩:=I2.after hq';subst ev
   exact ⟨rv,⟨V.ref (s.heap.objs.size+1),H',I3,rfl,q3⟩⟩
  | next=>exact hV hq'
  | brk=>exact hV hq'
  | cont=>exact hV hq'
def Fy (M:Mk X.K C f) (F:lj X.prog X.w X.K X.mg X.base CX k f fd ps sp) (hr:hU (k+1) X.A) (hg:Gl X x) (hm:X.mg x=some (.ref C)) (hb:Binds X.K fd ps ds) (hd:Vals dvs ds) (hx:n0 CX X E)
  (ha:PA X (e::es) t) (hdb:(x == ("__debug__":bh))=false:=by decide) (he:bF (e::es) X.env=(false,eN e X.env)::bF es X.env:=by rfl) (hpl:(gm pos (bF es X.env)).any (·.1)=false:=by rfl) :
  PE X (.Call (.Name x p) (e::es) [] pos) (HB C sp dvs E t):=by
 intro pins s Z H Q I h;refine fc (Fl I hg hm ?_ hdb);refine xn (h₀:=X.base) I.ok.mod.YE M.kp (gP (ha pos pins s Z H _ I h) λus s1 ⟨vs,H1,I1,r,q⟩=>⟨I1.Ab,?_⟩) he hpl;exact OB M F hr hb hd hx I1 r q
end
section
variable {X:Cx}{CX:JP}{k:Nat}{f C:af}{fd:eI}{ps ks:List bh}{sp:Sp}{E:XK}{x m:bh}{p pos apos kpos:kM}{e o:Expr}{es:List Expr}{kws:List G0}{te ta:TE}{t tk:TA}{nm:Option bh}
variable {g:List ai->List ai->List ai}{gV:List V->List V->List V}
end
structure bI (N P:List bh) (sc:jB):Prop where
 kind:sc.kind=.function
 co:sc.isCoroutine=false
 gen:sc.isGenerator=false
 nd:N.Nodup
 pre:N.take P.length=P
 par:∀ x∈P,sc.names.lookup x=some .local\/sc.names.lookup x=some .cell
 Wu:∀ y∈sc.names,y.2≠.free
theorem Ex {kindOf:bh->Option jQ}{x:bh}:∀ {binds:List (bh×ai)}{m:bh->Option ai},(∀ v,(x,v)∉binds)->Rj kindOf binds m x=m x
 | [],_,_=>rfl
 | (n,v)::r,m,h=>by
  unfold Rj;rw [Ex λw hw=>h w (aj _ hw)]
  split
  ·have:x≠n:=by rintro rfl;exact h v aw
   simp [this]
  ·rfl
theorem Ey {kindOf:bh->Option jQ}{x:bh}:∀ {binds:List (bh×ai)}{m:bh->Option ai},(∀ v,(x,v)∉binds)->Rk kindOf binds m x=m x
 | [],_,_=>rfl
 | (n,v)::r,m,h=>by
  unfold Rk;rw [Ey λw hw=>h w (aj _ hw)]
  split
  ·rfl
  ·have:x≠n:=by rintro rfl;exact h v aw
   simp [this]
theorem Ez {kindOf:bh->Option jQ}{x:bh}{v:ai}:∀ {P:List bh}{vs:List ai}{i:Nat}{m:bh->Option ai},P.Nodup->P[i]?=some x->vs[i]?=some v->kindOf x=some .local ->
  Rj kindOf (P.zip vs) m x=some v
 | [],_,_,_,_,h,_,_=>by simp at h
 | _::_,[],_,_,_,_,h,_=>by simp at h
 | p::P,w::vs,0,m,nd,h1,h2,hk=>by
  simp at h1 h2;subst h1;subst h2
  show Rj kindOf ((p,w)::P.zip vs) m p=_
  unfold Rj;rw [Ex λv hv=>(bp.mp nd).1 (tK hv).1,if_pos hk]
  simp
 | p::P,w::vs,i+1,m,nd,h1,h2,hk=>by
  show Rj kindOf ((p,w)::P.zip vs) m x=_
  unfold Rj;exact Ez (i:=i) (bp.mp nd).2 (by simpa using h1) (by simpa using h2) hk
theorem EA {kindOf:bh->Option jQ}{x:bh}{v:ai}:∀ {P:List bh}{vs:List ai}{i:Nat}{m:bh->Option ai},P.Nodup->P[i]?=some x->vs[i]?=some v->kindOf x≠some .local ->
  Rk kindOf (P.zip vs) m x=some v
 | [],_,_,_,_,h,_,_=>by simp at h
 | _::_,[],_,_,_,_,h,_=>by simp at h
 | p::P,w::vs,0,m,nd,h1,h2,hk=>by
  simp at h1 h2;subst h1;subst h2
  show Rk kindOf ((p,w)::P.zip vs) m p=_
  unfold Rk;rw [Ey λv hv=>(bp.mp nd).1 (tK hv).1,if_neg hk]
  simp
 | p::P,w::vs,i+1,m,nd,h1,h2,hk=>by
  show Rk kindOf ((p,w)::P.zip vs) m x=_
  unfold Rk;exact EA (i:=i) (bp.mp nd).2 (by simpa using h1) (by simpa using h2) hk
def start (N:List bh) (vs:List V):St:=vs.map some++ow (N.length-vs.length) none
def Fz (CX:JP) (P:aY) (w:bH) (K:aa) (mg:bh->Option ai) (base:cb) (N:List bh) (qual:bh) (scope:jB) (f:af) (cd:ai) (A:bN) (outer:List Ek) (s:ak) (H:Hp) (E:XK):Cx where
 prog:=P
 w:=w
 K:=K
 mg:=mg
 base:=base
 A:=A.deeper (tL qual scope s.heap.objs.size f cd)
 N:=N
 s₀:=s
 H₀:=H
 env:=tL qual scope s.heap.objs.size f cd
 outer:=outer
 stack:=tL qual scope s.heap.objs.size f cd::outer
 ex:=[]
 calm:=true
 fn:=λ_=>true
 pn:=[]
 xe:=λe s'=>aG (aM P w) (A.deeper (tL qual scope s.heap.objs.size f cd)) (leaving (tL qual scope s.heap.objs.size f cd) e) (λ_ s''=>CX outer H s E e s'') (λe' s''=>CX outer H s E e' s'') s'
def HC {sc:jB}{n:Nat}{x:bh}(h:sc.names.lookup x=some .cell):∃ c,(cellsFrom n sc.names []).lookup x=some c:=by
 have q:=JI sc.names n [] (.inl h);exact Hn.mp q
def MW {CX:JP}{P:aY}{w:bH}{K:aa}{mg:bh->Option ai}{base:cb}{N ps:List bh}{qual:bh}{scope:jB}{f:af}{cd:ai}{A:bN}{outer:List Ek}{s s1:ak}{H:Hp}{E:XK}{us:List ai}{vs:List V}
  (S:bI N ps scope) (hd:A.handled=none) (e0:Lk P w K mg base A outer s H) (hl:vs.length=ps.length) (r:Vals vs us)
  (x:InCallC s s.heap.objs.size (Rj (tL qual scope s.heap.objs.size f cd).kindOf (ps.zip us) λ_=>none) (cellsFrom (s.heap.objs.size+1) scope.names []) (Rk (tL qual scope s.heap.objs.size f cd).kindOf (ps.zip us) λ_=>none) s1) :
  Inv (Fz CX P w K mg base N qual scope f cd A outer s H E) [] (start N vs) H s1:=by
 have hpl:ps.length<=N.length:=by have:=congrArg dR S.pre;rw [bB] at this;lia
 obtain ⟨h1,tk,rfl,hk⟩:=x.done;have noA:∀ b:af,b∉(Fz CX P w K mg base N qual scope f cd A outer s H E).ex:=λb z=>absurd (show b∈([]:List af) from z) (by simp)
 refine ⟨⟨e0.mod,S.kind,rfl,rfl,ar _,λy z c h1 h2=>?_,λy hy=>?_,λy c _ h=>?_,λ_=>hd,Around.frames_deeper e0.frames,.inr ⟨rfl,rfl⟩,λb z=>absurd z (noA b),e0.bs,e0.QR,λb _ _=>noA b,λb z=>absurd z (noA b),e0.yD,e0.Uu⟩,
  rfl,e0.bare,Un.kept hk,⟨_,x.toInCall.ns,λi y v h1 h2 h3=>?_⟩,λy c h=>⟨_,x.cell y c h⟩,e0.eC.fresh (ar _),λy c h=>?_,λp hp=>absurd (show p∈([]:List (af×ft)) from hp) (by simp),e0.eC.kept hk,?_⟩
 ·exact name_of_addr x.apart (kA h1) (kA h2)
 ·have hy:scope.names.lookup y=some .cell\/scope.names.lookup y=some .free:=hy
  rcases hy with hy|hy
  ·exact HC hy
  ·exact absurd rfl (S.Wu _ (kA hy))
 ·exact kx (x.above y c (kA h))
 ·have hi:i<vs.length:=by
   unfold start at h2
   by_cases hi:i<vs.length
   ·exact hi
   ·rw [dS (by simpa using hi)] at h2;rw [Lr] at h2
    split at h2<;>cases h2
  have ha:vs[i]?=some v:=by
   unfold start at h2;rw [fE (by simpa using hi),ax] at h2
   cases e:vs[i]? with
   | none=>rw [e] at h2;cases h2
   | some a=>rw [e] at h2;cases h2;rfl
  obtain ⟨u,hu,rv⟩:=r.get ha
  have hp:ps[i]?=some y:=by
   rw [← S.pre,List.getElem?_take_of_lt (by lia)];exact h1
  have ndP:ps.Nodup:=by rw [← S.pre];exact S.nd.sublist (SW _ _)
  refine ⟨u,rv,?_⟩
  rcases S.par y (aL hp) with k|k
  ·exact .inl ⟨k,Ez ndP hp hu k⟩
  ·obtain ⟨c,e⟩:=HC (n:=s.heap.objs.size+1) k;refine .inr ⟨.inl k,c,e,?_⟩;have q:=x.cell y c e;rw [EA ndP hp hu (by show scope.names.lookup y≠_;rw [k];decide)] at q;exact q
 ·exact e0.eC.fresh (kx (x.above y c (kA h)))
 ·unfold start
  show _=N.length
  rw [bu,ag,uI];lia
def Tp {CX:JP}{P:aY}{w:bH}{K:aa}{mg:bh->Option ai}{base:cb}{k:Nat}{f:af}{name qual:bh}{params:l8}{body:List dk}{scope:jB}{dV kV doc pm nj ct oc:ai}{an od:Option af}
  {osl:Array (Option ai)}{N ps:List bh}{sp:Sp}(lk:K.lookup f=some ⟨oc,od,.func (iq name qual params body scope dV kV doc pm an nj ct),osl⟩) (hcd:nz K nj qual=true) (S:bI N ps scope)
  (len:∀ vs H Q E,sp vs H Q E->vs.length=ps.length)
  (hbody:∀ (A:bN) (outer:List Ek) (s:ak) (H:Hp) (vs:List V) (Q:VK) (E:XK),hU k (A.deeper (tL qual scope s.heap.objs.size f nj))->sp vs H Q E ->
   ∃ t,JS (Fz CX P w K mg base N qual scope f nj A outer s H E) body t/\t { nx:=λ_ H'=>Q .non H',rt:=Q } (start N vs) H) :
  lj P w K mg base CX (k+1) f (iq name qual params body scope dV kV doc pm an nj ct) ps sp:=by
 refine ⟨len,λA outer s H args us vs Q E hr e0 hb r hsp=>?_⟩;have hl:=len _ _ _ _ hsp;have KX:K.In s.heap:=e0.mod.YE.keeps λb o e=>(e0.bs b o e).1;have lim:s.heap.NoLimit:=e0.mod.nolimit.keeps λb o e=>(e0.bs b o e).1
 have hkind:∀ y∈ps.zip us,scope.names.lookup y.1=some .local\/(scope.names.lookup y.1=some .cell/\((cellsFrom (s.heap.objs.size+1) scope.names []).lookup y.1).isSome=true):=λ⟨n,v⟩ hy=>by
  rcases S.par n (tK hy).1 with q|q
  ·exact .inl q
  ·exact .inr ⟨q,JI _ _ _ (.inl q)⟩
 refine codeAny_call_function hr.depth (KX _ _ lk) rfl S.co S.gen rfl (PySem.W.codeRec_of KX hcd) (hb _ _ _ _ ?_);refine wpAny_newFunctionEnv_cells S.kind hkind λenv he s1 x=>?_;subst he;refine ⟨lim.keeps x.toInCall.keep,codeAny_func ?_⟩;obtain ⟨t,ht,hq⟩:=hbody A outer s H vs Q E (hr.deeper _) hsp;have I:Inv (Fz CX P w K mg base N qual scope f nj A outer s H E) [] (start N vs) H s1:=MW S hr.hd e0 hl r x;refine dH (ht [] s1 (start N vs) H _ I hq) (λfl s' hs=>?_) λe s' hs=>hs
 have fin:∀ {σ':St}{H':Hp}{v:V}{u:ai},Inv (Fz CX P w K mg base N qual scope f nj A outer s H E) [] σ' H' s'->RelV v u->Q v H'->CE outer P w H s Q u s' :=
  λ{σ' H' v u} J rv q=>⟨v,H',J.os,J.bare,J.base,J.eC,rv,q⟩
 cases fl with
 | ret u =>
  obtain ⟨v,σ',H',J,rv,q⟩:=hs
  exact fin J rv q
 | next =>
  obtain ⟨σ',H',J,q⟩:=hs
  exact fin (v:=V.non) (u:=eQ) J rfl q
 | brk =>
  obtain ⟨_,_,_,q⟩:=hs
  exact hV q
 | cont =>
  obtain ⟨_,_,_,q⟩:=hs;exact hV q
end L2
namespace L2
section
variable {X:Cx}{x:bh}{p pos:kM}{e:Expr}{es:List Expr}{t:TA}{id T:String}{r:List V->Hp->VK->Prop}
def qB (r:List V->Hp->VK->Prop) (t:TA):TE:=λZ H Q=>t Z H λvs H1=>r vs H1 Q
def jW (hc:mv X (.builtin id) r) (hg:Gl X x) (hm:X.mg x=none) (hv:dC x=some (.builtin id)) (ha:PA X (e::es) t) (hn:x≠"__name__":=by decide) (hdb:(x == ("__debug__":bh))=false:=by decide)
  (he:bF (e::es) X.env=(false,eN e X.env)::bF es X.env:=by rfl) (hpl:(gm pos (bF es X.env)).any (·.1)=false:=by rfl):PE X (.Call (.Name x p) (e::es) [] pos) (qB r t):=by
 intro pins s Z H Q I h;refine fc (nW I hg hm hv ?_ hn hdb);exact vn (gP (ha pos pins s Z H _ I h) λus s1 ⟨vs,H1,I1,r1,q1⟩=>hc pins s1 Z H1 vs us Q I1 r1 q1) he hpl
end
end L2
namespace HT
open PySem PyProof.Rows
def lexLt:List Int->List Int->Bool
 | [],[]=>false
 | [],_::_=>true
 | _::_,[]=>false
 | x::xs,y::ys=>if x=y then lexLt xs ys else decide (x<y)
def AU (x y:Int) (xs ys:List Int):lexLt (x::xs) (y::ys)=if x=y then lexLt xs ys else decide (x<y):=rfl
def CW:lexLt [] []=false:=rfl
def AV (y:Int) (ys:List Int):lexLt [] (y::ys)=true:=rfl
def AW (x:Int) (xs:List Int):lexLt (x::xs) []=false:=rfl
def OC (A:bN) (s:ak) (a:Int) (t:SU) (c:Int) (u:SU):∃ e,SeqAt.EqAt A s (.int a t) (.int c u) e/\(e=true↔a=c) :=
 ⟨(a == c),iP a t c u,by simp⟩
def OD (A:bN) (s:ak) (a:Int) (t:SU) (c:Int) (u:SU) (prog:aY) (w:bH) (E:ai->ak->Prop) (Q:ai->ak->Prop) (h:Q (.bool (decide (a<c))) s) :
  aG (aM prog w) A (richCompare .Lt (.int a t) (.int c u)) Q E s :=
 (Ri h:aG (aM prog w) A (df .Lt (.int a t) (.int c u)) Q E s)
section
open PySem.SeqAt
open PySem.AutoSeq1 (wpAny_loadPart')
open PySem.MeetsSeq PySem.MeetsSeq2 PySem.MeetsSeq3
def CY (l b:af) (items items2:Array ai) (n n2:Nat) (dd dd2:Option af) (sl sl2:Array (Option ai)) (ns ms:List Int) (hi:eO items.toList ns) (hj:eO items2.toList ms) :
  Meets (ie.«tuple.__lt__» ⟨[.ref l,.ref b],[]⟩)
   (λ_ R s=>s.heap.get? l=some { cls:=.type "tuple",dict:=dd,data:=.seq items n,slots:=sl }/\s.heap.get? b=some { cls:=.type "tuple",dict:=dd2,data:=.seq items2 n2,slots:=sl2 } /\
    R (.ok (.ret (.bool (lexLt ns ms)))) s) :=
 .of_wp λprog w A R s h=>by
  obtain ⟨hp,g,d,tk,os⟩:=s;obtain ⟨hl,hb,h⟩:=h;have f2:=AutoSeq1.sub_tuple_tuple
  have z1:items.size=ns.length:=by rw [← hi.length];simp
  have z2:items2.size=ms.length:=by rw [← hj.length];simp
  wp_walk using wpAny_loadPart' hl,wpAny_loadPart' hb,wpAny_forIn_list _ (λrest b s'=>b.1=none/\s'=⟨hp,g,d,tk,os⟩/\∃ (vs ws:List ai) (ns' ms':List Int),rest=vs.zip ws /\
   eO vs ns'/\eO ws ms'/\ns'.length+items2.size=ms'.length+items.size/\R (.ok (.ret (.bool (lexLt ns' ms')))) ⟨hp,g,d,tk,os⟩) _
  case turn =>
   rintro ⟨y,x⟩ rest b s' ⟨hb',rfl,vs,ws,ns',ms',hz,hvi,hwi,hlen,hR⟩
   cases hvi with
   | nil=>rw [List.zip_nil_left] at hz;cases hz
   | cons a t hvi' =>
    cases hwi with
    | nil=>rw [List.zip_nil_right] at hz;cases hz
    | cons c u hwi' =>
     rw [jk] at hz
     injection hz with hyx hrest
     injection hyx with hy hx
     subst hy hx;rw [AU] at hR;simp only [bT] at hlen;obtain ⟨e,he,hiff⟩:=OC A.in1 ⟨hp,g,d,tk,os⟩ a t c u;refine ae (he prog w _ _ ?_)
     cases e with
     | true =>
      rw [if_pos (hiff.mp rfl)] at hR
      wp_walk
      exact ⟨rfl,rfl,_,_,_,_,hrest,hvi',hwi',by lia,hR⟩
     | false =>
      rw [if_neg (λq=>absurd (hiff.mpr q) bA)] at hR;have hri:=OD A.in1 ⟨hp,g,d,tk,os⟩ a t c u prog w
      wp_walk using hri
      exact ⟨_,rfl,by simpa using hR⟩
  case fin =>
   rintro ⟨b1,b2⟩ s' ⟨hb',rfl,vs,ws,ns',ms',hz,hvi,hwi,hlen,hR⟩;simp only at hb';subst hb'
   have hv:lexLt ns' ms'=decide (items.size<items2.size):=by
    cases hvi with
    | nil =>
     cases hwi with
     | nil =>
      simp only [kW] at hlen;rw [CW]
      exact (decide_eq_false (by lia)).symm
     | cons c u hw =>
      simp only [kW,bT] at hlen;rw [AV]
      exact (decide_eq_true (by lia)).symm
    | cons a t hv =>
     cases hwi with
     | nil =>
      simp only [kW,bT] at hlen;rw [AW]
      exact (decide_eq_false (by lia)).symm
     | cons c u hw =>
      rw [jk] at hz;cases hz
   rw [hv] at hR
   wp_walk
   exact ⟨_,rfl,by simpa [Builtin.Tuple.tupleCompareSizes] using hR⟩
  case h =>
   exact ⟨rfl,rfl,items.toList,items2.toList,ns,ms,rfl,hi,hj,by lia,h⟩
end
section
variable {prog:aY}{w:bH}{A:bN}{E:ai->ak->Prop}{s:ak}
def Kd {l b:af}{items items2:Array ai}{ns ms:List Int}{Q:ai->ak->Prop}(hl:pH s.heap l items) (hb:pH s.heap b items2) (hi:eO items.toList ns) (hj:eO items2.toList ms)
  (hu:A.units<gO) (h:Q (.bool (lexLt ns ms)) s):aG (aM prog w) A (df .Lt (.ref l) (.ref b)) Q E s:=by
 obtain ⟨⟨cls,dd,data,sl⟩,ho,hc,n,hd⟩:=id hl;obtain ⟨⟨cls2,dd2,data2,sl2⟩,ho2,hc2,n2,hd2⟩:=id hb;simp only at hc hd hc2 hd2;subst hc hd hc2 hd2
 exact richCompare_meets_room (op:=.Lt) ⟨_,ho,rfl⟩ ⟨_,ho2,rfl⟩ PySem.F.slot_tuple_lt PySem.F.entry_tuple_lt (PySem.F.args_tuple_lt_2 _ _) (CY l b items items2 n n2 dd dd2 sl sl2 ns ms hi hj)
  ⟨ho,ho2,show sG (lexLt ns ms)≠Value.notImplemented/\Q (.bool (lexLt ns ms)) s from ⟨(λx=>nomatch x),h⟩⟩ hu
def lB (n d:Nat):Option Int->Nat
 | none=>d
 | some v=>if v<0 then (v+(n:Int)).toNat else min v.toNat n
def HD (n d:Nat):lB n d none=d:=rfl
def RQ (n d k:Nat):lB n d (some (k:Int))=min k n:=by
 show (if (k:Int)<0 then ((k:Int)+(n:Int)).toNat else min (k:Int).toNat n)=min k n
 rw [if_neg (by lia),gF]
def Vc (n d:Nat) (hd:d<=n) (o:Option Int):lB n d o<=n:=by
 cases o with
 | none=>exact hd
 | some v =>
  show (if v<0 then (v+(n:Int)).toNat else min v.toNat n)<=n
  by_cases hv:v<0
  ·rw [if_pos hv];lia
  ·rw [if_neg hv];exact Nat.min_le_right _ _
def LJ (v:Int) (n d:Nat):(if v<0 then max (v+(n:Int)) 0 else min v (n:Int))=((lB n d (some v):Nat):Int):=by
 show (if v<0 then max (v+(n:Int)) 0 else min v (n:Int))=(((if v<0 then (v+(n:Int)).toNat else min v.toNat n):Nat):Int)
 by_cases hv:v<0
 ·simp only [if_pos hv];lia
 ·simp only [if_neg hv];lia
def Ke (lo hi:Option Int) (n:Nat):mE lo hi 1 (n:Int)=(((lB n 0 lo:Nat):Int),((lB n n hi:Nat):Int)):=by
 have h1:¬ ((1:Int)<0):=by lia
 unfold mE;simp only [h1,if_false];refine Ay ?_ ?_
 ·cases lo with
  | none=>rfl
  | some v=>exact LJ v n 0
 ·cases hi with
  | none=>rfl
  | some v=>exact LJ v n n
def Kg (i j:Nat):ju (i:Int) (j:Int) 1=j-i:=by
 unfold ju
 have h1:(1:Int)>0:=by lia
 simp only [h1,if_true,Int.ediv_one]
 split<;>lia
def AX {v:ai}{o:Option Int}{Q:Option Int->ak->Prop}(p:JJ v o) (h:Q o s):aG (aM prog w) A (Builtin.Slice.slicePartIndex v) Q E s:=by
 cases p with
 | none=>exact slicePart_none h
 | int i t=>exact slicePart_int h
def xM {sl:af}{vl vu:ai}{lo hi:Option Int}{n:Nat}{Q:Int×Int×Nat->ak->Prop}(hs:s.heap.IsSliceOf sl vl vu .none) (pl:JJ vl lo) (pu:JJ vu hi)
  (h:Q (((lB n 0 lo:Nat):Int),1,lB n n hi-lB n 0 lo) s):aG (aM prog w) A (yG (.ref sl) (pure (n:Int))) Q E s:=by
 obtain ⟨os,hos,hcs,hds⟩:=id hs;unfold yG Builtin.Slice.sliceFields;refine ae (ae (kL hos hds (x:=vl) rfl (ae (kL hos hds (x:=vu) rfl (ae (kL hos hds (x:=.none) rfl (ao ?_)))))));refine ae (slicePart_none ?_)
 show aG _ _ (if ((1:Int) == 0)=true then _ else _) _ _ s
 rw [if_neg (by decide)];refine ae (AX pl (ae (AX pu (ae (ao ?_)))))
 show aG _ _ (match mE lo hi 1 (n:Int) with|(lo,hi)=>pure (lo,(1:Int),ju lo hi 1)) _ _ s
 rw [Ke lo hi n]
 show aG _ _ (pure (((lB n 0 lo:Nat):Int),(1:Int),ju ((lB n 0 lo:Nat):Int) ((lB n n hi:Nat):Int) 1)) _ _ s
 rw [Kg];exact ao h
def OE (xs:Array ai) (i k:Nat):((c6 k).filterMap λ(m:Nat)=>xs[((i:Int)+(m:Int)*1).toNat]?).toArray=((xs.toList.drop i).take k).toArray:=by
 have e:(λ(m:Nat)=>xs[((i:Int)+(m:Int)*1).toNat]?)=λm=>xs[i+m]?:=by
  funext m
  have:((i:Int)+(m:Int)*1).toNat=i+m:=by lia
  rw [this]
 rw [e];have:=pick_run xs i k;rw [List.filterMap_map] at this;have e2:((λx=>xs[x]?)∘λx=>i+x)=λm=>xs[i+m]?:=rfl;rw [e2] at this;rw [this]
def vz {t sl:af}{items:Array ai}{vl vu:ai}{lo hi:Option Int}{Q:ai->ak->Prop}(ht:pH s.heap t items) (hs:s.heap.IsSliceOf sl vl vu .none) (pl:JJ vl lo) (pu:JJ vu hi)
  (hw:¬ (lB items.size 0 lo=0/\lB items.size items.size hi=items.size))
  (h:Q (.ref s.heap.objs.size) { s with heap:=s.heap.push { cls:=.type "tuple",data:=.seq ((items.toList.drop (lB items.size 0 lo)).take (lB items.size items.size hi-lB items.size 0 lo)).toArray } })
  (hsz:items.size<=aT):aG (aM prog w) A (MF (.ref t) (.ref sl)) Q E s:=by
 have htake:sizeOk (.seq ((items.toList.drop (lB items.size 0 lo)).take (lB items.size items.size hi-lB items.size 0 lo)).toArray):=by
  show ((items.toList.drop (lB items.size 0 lo)).take (lB items.size items.size hi-lB items.size 0 lo)).toArray.size<=aT
  rw [aO,bB,cN,aK];lia
 have hj:lB items.size items.size hi<=items.size:=Vc _ _ (ar _) hi;obtain ⟨os,hos,hcs,hds⟩:=id hs
 have hTs:s.TypeIs (.ref sl) "slice":=⟨os,hos,hcs⟩
 unfold MF
 try with_reducible refine cq ?_
 first|refine ae (ao ?_)|skip
 refine ae (wpAny_sequenceKey ht.typeIs (by decide) ?_)
 refine ae (cX (name:=fq "__getitem__") ht.typeIs gX
  (cI gX ht.typeIs entry_tuple_getitem ?_ (args_tuple_getitem _ _)))
 show aG _ _ (Builtin.Tuple.tupleItemsOf (.ref t) >>= _) _ _ s
 refine ae (tupleItemsOf_ ht ?_);refine ae (G1 hTs ?_);rw [if_pos (by decide)];refine ae (xM hs pl pu ?_)
 have hno:¬ ((((lB items.size 0 lo:Nat):Int) == 0 && (1:Int) == 1 && (lB items.size items.size hi-lB items.size 0 lo) == items.size)=true):=by
  intro q;rw [gY,gY] at q;have q1:((lB items.size 0 lo:Nat):Int)=0:=eq_of_beq q.1.1;have q2:lB items.size items.size hi-lB items.size 0 lo=items.size:=eq_of_beq q.2;exact hw ⟨by lia,by lia⟩
 show aG _ _ (if (((lB items.size 0 lo:Nat):Int) == 0 && (1:Int) == 1 && (lB items.size items.size hi-lB items.size 0 lo) == items.size)=true then _ else _) _ _ s
 rw [if_neg hno,OE]
 first
  | exact ae (m:=jJ _) (cz (ao ⟨_,rfl,ao h⟩) htake)
  | exact ae (m:=jJ _) (cz (ae (ao (ao ⟨_,rfl,ao h⟩))) htake)
  | exact ae (ae (m:=jJ _) (cz (ao (ao ⟨_,rfl,ao h⟩)) htake))
  | exact ae (ae (m:=jJ _) (cz (ao ⟨_,rfl,ao h⟩) htake))
end
end HT
namespace L2
abbrev TO:=St->Hp->(Option Int->Hp->Prop)->Prop
def PO (X:Cx) (e:Option Expr) (t:TO):Prop :=
 ∀ (pins:List (af×ft)) (s:ak) (Z:St) (H:Hp) (Q:Option Int->Hp->Prop),Inv X pins Z H s->t Z H Q ->
  aG (aM X.prog X.w) X.A (evalPart e X.env) (λu s'=>∃ o H',Inv X pins Z H' s'/\JJ u o/\Q o H') X.xe s
def eX:TO:=λ_ H Q=>Q none H
def hZ (t:TE):TO:=λZ H Q=>t Z H λx H1=>∃ i,x=.int i/\Q (some i) H1
def intsAre_of {ns:List Int}:∀ {us:List ai},Vals (ns.map V.int) us->eO us ns:=by
 induction ns with
 | nil=>intro us r;rw [Az] at r;cases r;exact .nil
 | cons n ns ih =>
  intro us r;rw [bU] at r
  cases r with
  | cons r1 r2 =>
   obtain ⟨t,e⟩:=r1;subst e;exact .cons n t (ih r2)
section
variable {X:Cx}{e:Expr}{te:TE}{lo hi:Option Expr}{tl th:TO}{pos p2:kM}
def vA:PO X none eX:=by
 intro pins s Z H Q I h;rw [evalPart_none];exact ao ⟨none,H,I,.none,h⟩
def vB (h:PE X e te):PO X (some e) (hZ te):=by
 intro pins s Z H Q I hw;rw [evalPart_some];refine gP (h pins s Z H _ I hw) λu s1 ⟨x,H1,I1,r1,q1⟩=>?_;obtain ⟨i,rfl,q⟩:=q1;obtain ⟨t,rfl⟩:=r1;exact ⟨some i,H1,I1,.int i t,q⟩
def ZR (X:Cx) (r:V->Option Int->Option Int->Hp->VK->Prop):Prop :=
 ∀ (pins:List (af×ft)) (s:ak) (Z:St) (H:Hp) (x:V) (v vl vu:ai) (lo hi:Option Int) (sl:af) (Q:VK),Inv X pins Z H s->RelV x v->s.heap.IsSliceOf sl vl vu .none->JJ vl lo->JJ vu hi->r x lo hi H Q ->
  ∃ T id,typeLookup (.type T) "__getitem__"=pure (some (.builtin id))/\s.TypeIs v T/\aG (aM X.prog X.w) X.A (MF v (.ref sl)) (EP X pins Z Q) X.xe s
def yM (r:V->Option Int->Option Int->Hp->VK->Prop) (te:TE) (tl th:TO):TE:=λZ H Q=>te Z H λx H1=>tl Z H1 λl H2=>th Z H2 λu H3=>r x l u H3 Q
def qV {r:V->Option Int->Option Int->Hp->VK->Prop}(hr:ZR X r) (he:PE X e te) (hl:PO X lo tl) (hu:PO X hi th):PE X (.Subscript e (.Slice lo hi none p2) pos) (yM r te tl th):=by
 intro pins s Z H Q I h;refine NO (gP (he pins s Z H _ I h) λv s1 ⟨x,H1,I1,r1,q1⟩=>?_);refine wpAny_Slice (gP (hl pins s1 Z H1 _ I1 q1) λvl s2 ⟨l,H2,I2,pl,q2⟩=>gP (hu pins s2 Z H2 _ I2 q2) λvu s3 ⟨u,H3,I3,pu,q3⟩=>?_);rw [evalPart_none];refine ao ?_;have I4:Inv X pins Z H3 { s3 with heap:=s3.heap.push { cls:=.type "slice",data:=.fields #[vl,vu,.none] } }:=I3.kept (t':=s3.toks) λb ob q=>au _ q;obtain ⟨T,id,hT,ht,hg⟩:=hr pins { s3 with heap:=s3.heap.push { cls:=.type "slice",data:=.fields #[vl,vu,.none] } } Z H3 x v vl vu l u s3.heap.objs.size Q I4 r1 (Heap.IsSliceOf.new ..) pl pu q3
 show aG (aM X.prog X.w) X.A (subscriptTail e (.Slice lo hi none p2) v (.ref s3.heap.objs.size)) (EP X pins Z Q) X.xe { s3 with heap:=s3.heap.push { cls:=.type "slice",data:=.fields #[vl,vu,.none] } }
 exact tail_any (ops:=[.ref s3.heap.objs.size,v]) ht hT hg (by with_unfolding_all rfl)
def uL (xs:List V) (lo hi:Option Int):List V:=(xs.drop (HT.lB xs.length 0 lo)).take (HT.lB xs.length xs.length hi-HT.lB xs.length 0 lo)
def yN (xs:List V) (lo hi:Option Int):(uL xs lo hi).length<=xs.length:=by
 unfold uL;rw [bB,cN];lia
def AY (K:aa):V->Option Int->Option Int->Hp->VK->Prop:=λx lo hi H Q=>∃ a xs,x=.ref a/\ku K H a xs /\
 ¬ (HT.lB xs.length 0 lo=0/\HT.lB xs.length xs.length hi=xs.length)/\∀ p,H p=none->Q (.ref p) (upd H p (.tup (uL xs lo hi)))
def Vd:ZR X (AY X.K):=by
 intro pins s Z H x v vl vu lo hi sl Q I rx hs pl pu h;obtain ⟨a,xs,rfl,hx,hw,q⟩:=h;cases rx;obtain ⟨its,r,ht,hz⟩:=I.tuple hx
 have hlen:its.toArray.size=xs.length:=by rw [aO];exact r.length.symm
 refine ⟨"tuple",_,gX.lookup,ht.typeIs,?_⟩;refine HT.vz ht hs pl pu (by rw [hlen];exact hw) ?_ (by rw [hlen];exact hz);rw [hlen];refine ⟨.ref s.heap.objs.size,_,I.laid (t':=s.toks) (o:=.tup (uL xs lo hi)) (λb ob q=>au _ q) (ar _) ?_,rfl,q _ (I.eC.fresh (ar _))⟩;exact ⟨bf (yN xs lo hi) hz,_,(r.drop (HT.lB xs.length 0 lo)).take (HT.lB xs.length xs.length hi-HT.lB xs.length 0 lo),IsTup.new _ _⟩
end
end L2
namespace L2
def N3 (n:Nat) (i:Int):Option Nat:=if 0<=i then (if i<n then some i.toNat else none) else if -(n:Int)<=i then some (i+n).toNat else none
def N4 {α:Type} (xs:List α) (i:Int):Option α:=(N3 xs.length i).bind λj=>xs[j]?
def LK {n:Nat}{i:Int}{j:Nat}(h:N3 n i=some j):seqIndex? i n=some j/\j<n/\-(n:Int)<=i/\i<n:=by
 unfold N3 at h
 by_cases h0:0<=i
 ·rw [if_pos h0] at h
  by_cases h1:i<n
  ·rw [if_pos h1] at h;have e:i.toNat=j:=aV h;exact ⟨by rw [Wx h0 h1,e],by lia,by lia,h1⟩
  ·rw [if_neg h1] at h;cases h
 ·rw [if_neg h0] at h
  by_cases h1:-(n:Int)<=i
  ·rw [if_pos h1] at h;have e:(i+n).toNat=j:=aV h;exact ⟨by rw [seqIndex_neg (by lia) h1,e],by lia,h1,by lia⟩
  ·rw [if_neg h1] at h;cases h
def LL {α:Type} {xs:List α}{i:Int}{v:α}(h:N4 xs i=some v):∃ j,seqIndex? i xs.length=some j/\xs[j]?=some v/\j<xs.length/\-(xs.length:Int)<=i/\i<xs.length:=by
 unfold N4 at h
 cases e:N3 xs.length i with
 | none=>rw [e] at h;cases h
 | some j =>
  rw [e] at h;obtain ⟨h1,h2,h3,h4⟩:=LK e;exact ⟨j,h1,h,h2,h3,h4⟩
def RR {α:Type} {xs:List α}{j:Nat}{v:α}(h:xs[j]?=some v):N4 xs (j:Int)=some v:=by
 have hj:j<xs.length:=(aC.mp h).1
 have e:N3 xs.length (j:Int)=some j:=by
  unfold N3;rw [if_pos (by lia),if_pos (by lia)];simp
 unfold N4;rw [e];exact h
def OF {α:Type} (xs:List α) (v:α):N4 (xs++[v]) (-1)=some v:=by
 have hl:(xs++[v]).length=xs.length+1:=by simp
 have e:N3 (xs++[v]).length (-1)=some xs.length:=by
  unfold N3;rw [hl,if_neg (by decide),if_pos (by lia)]
  congr 1
  lia
 unfold N4;rw [e]
 show (xs++[v])[xs.length]?=some v
 simp
def RT (b:Expr):Prop:=∀ o i,subscripted b false o i=operate [o,i] (MF o i)
def SS (X:Cx) (r:R2):Prop :=
 ∀ (value slice:Expr) (pins:List (af×ft)) (s:ak) (Z:St) (H:Hp) (x y:V) (v u:ai) (Q:VK),Inv X pins Z H s->RelV x v->RelV y u->r x y H Q ->
  subscripted slice false v u=operate [v,u] (MF v u)->aG (aM X.prog X.w) X.A (subscriptTail value slice v u) (EP X pins Z Q) X.xe s
def MtR (X:Cx) (id:String) (r:V->List V->Hp->VK->Prop):Prop :=
 ∀ (pins:List (af×ft)) (s:ak) (Z:St) (H:Hp) (x:V) (xs:List V) (v:ai) (us:List ai) (Q:VK),Inv X pins Z H s->RelV x v->Vals xs us->r x xs H Q ->
  aG (aM X.prog X.w) X.A (call (.builtin id) (v::us)) (EP X pins Z Q) X.xe s
section
variable {X:Cx}{a b:Expr}{ta tb:TE}{pos:kM}
def SS.or {r r':R2}(h:SS X r) (h':SS X r'):SS X (λx y H Q=>r x y H Q\/r' x y H Q):=by
 intro value slice pins s Z H x y v u Q I rx ry q hs
 rcases q with q|q
 ·exact h value slice pins s Z H x y v u Q I rx ry q hs
 ·exact h' value slice pins s Z H x y v u Q I rx ry q hs
def OG {r:R2}(hr:SS X r) (ha:PE X a ta) (hb:PE X b tb) (hs:RT b):PE X (.Subscript a b pos) (cn r ta tb):=by
 intro pins s Z H Q I h;exact NO (U5 ha hb I h λv u s2 x y H2 I2 rx ry q=>hr a b pins s2 Z H2 x y v u Q I2 rx ry q (hs _ _))
def Xl (K:aa):R2:=λx y H Q=>∃ p xs i v,x=.ref p/\y=.int i/\c9 K H p xs/\N4 xs i=some v/\Q v H
def Xm (K:aa):R2:=λx y H Q=>∃ p xs i v,x=.ref p/\y=.int i/\ku K H p xs/\N4 xs i=some v/\Q v H
def RU:SS X (Xl X.K):=by
 intro value slice pins s Z H x y v u Q I rx ry h hs;obtain ⟨p,xs,i,z,rfl,rfl,hq,he,q⟩:=h;cases rx;obtain ⟨t,rfl⟩:=ry;obtain ⟨its,r,pl,hz⟩:=I.list hq;obtain ⟨j,h1,h2,h3,h4,h5⟩:=LL he;obtain ⟨w,ew,rw'⟩:=r.get h2;have hl:=r.length;have hn:=qT
 have fin:EP X pins Z Q w s:=⟨z,H,I,rw',q⟩
 by_cases h0:0<=i
 ·have hj:i.toNat=j:=by
   rw [Wx h0 h5] at h1;exact aV h1
  exact item_listR pl.isList h0 (by lia) (by rw [hj];simpa using ew) fin hs
 ·have hj:(i+(its.toArray.size:Int)).toNat=j:=by
   rw [seqIndex_neg (by lia) h4] at h1;rw [aO,← hl];exact aV h1
  exact xo (x:=w) pl.isList.typeIs slot_list_getitem.lookup
   (wpAny_getItem_list_neg (Q:=λr s'=>r=w/\EP X pins Z Q r s') pl.isList (by lia) (by rw [aO]<;>lia) (by lia) (by rw [hj];simpa using ew) ⟨rfl,fin⟩) hs
def Ve:SS X (Xm X.K):=by
 intro value slice pins s Z H x y v u Q I rx ry h hs;obtain ⟨p,xs,i,z,rfl,rfl,hq,he,q⟩:=h;cases rx;obtain ⟨t,rfl⟩:=ry;obtain ⟨its,r,pl,hz⟩:=I.tuple hq;obtain ⟨j,h1,h2,h3,h4,h5⟩:=LL he;obtain ⟨w,ew,rw'⟩:=r.get h2;have hl:=r.length;have hn:=qT
 have fin:EP X pins Z Q w s:=⟨z,H,I,rw',q⟩
 exact xo (x:=w) pl.typeIs gX.lookup
  (getItem_tuple (j:=j) (Q:=λr s'=>r=w/\EP X pins Z Q r s') pl (by lia) (by lia) (by rw [aO,← hl];exact h1) (by simpa using ew) ⟨rfl,fin⟩) hs
def Kh (its:List ai) (n j:Nat) (u:ai):bO (·.setIfInBounds j u) { cls:=.type "list",data:=.seq its.toArray n }={ cls:=.type "list",data:=.seq (its.set j u).toArray n }:=by
 simp [bO]
def Inv.lst {pins:List (af×ft)}{Z:St}{H:Hp}{s:ak}{p:af}{xs:List V}(I:Inv X pins Z H s) (h:H p=some (.lst xs)) :
  ∃ (its:List ai) (n:Nat),Vals xs its/\s.heap.get? p=some { cls:=.type "list",data:=.seq its.toArray n }/\xs.length<=aT:=by
 obtain ⟨z,its,n,r,e⟩:=I.eC p _ h;exact ⟨its,n,r,e,z⟩
def Inv.Wq {pins:List (af×ft)}{Z:St}{H:Hp}{s:ak}{p:af}{xs ys:List V}{its its':List ai}{n n':Nat}{f:ft->ft}(I:Inv X pins Z H s) (h:H p=some (.lst xs))
  (ho:s.heap.get? p=some { cls:=.type "list",data:=.seq its.toArray n }) (hf:f { cls:=.type "list",data:=.seq its.toArray n }={ cls:=.type "list",data:=.seq its'.toArray n' }) (r:Vals ys its') (hz:ys.length<=aT) (t:Nat) :
  Inv X pins Z (upd H p (.lst ys)) { s with heap:=s.heap.update p f,toks:=t }:=by
 have e:(s.heap.update p f).get? p=some { cls:=.type "list",data:=.seq its'.toArray n' }:=by
  rw [bQ f ho (by rw [hf]<;>rfl),hf]
 refine I.write (x:=p) (e:=p) (by rw [h];trivial) (.inl rfl) (λb u hb q=>(bz _ _ (Ne.symm hb)).trans q) ⟨_,e⟩ ?_;exact ⟨hz,its',n',r,e⟩
def Tq:V->V->V->Hp->(Hp->Prop)->Prop:=λo i v H Q=>∃ p xs k j,o=.ref p/\i=.int k/\H p=some (.lst xs)/\N3 xs.length k=some j/\Q (upd H p (.lst (xs.set j v)))
def OH:RC X Tq:=by
 intro pins s Z H o i v ov iv u Q I ro ri rv h;obtain ⟨p,xs,k,j,rfl,rfl,hp,hj,q⟩:=h;cases ro;obtain ⟨t,rfl⟩:=ri;obtain ⟨its,n,r,ho,hz⟩:=I.lst hp;obtain ⟨h1,h2,h3,h4⟩:=LK hj;have hl:=r.length;have hn:=qT
 have I':Inv X pins Z (upd H p (.lst (xs.set j v))) { s with heap:=s.heap.update p (bO (·.setIfInBounds j u)) } :=
  I.Wq hp ho (Kh its n j u) (r.set rv j) (by rw [Wy];exact hz) s.toks
 by_cases h0:0<=k
 ·have hk:k.toNat=j:=by
   rw [Wx h0 h4] at h1;exact aV h1
  exact PySem.W.ki_setAt ho h0 (by lia) (by rw [aO,← hl];exact h4) (by rw [hk];exact ⟨_,I',q⟩)
 ·have hk:(k+(its.toArray.size:Int)).toNat=j:=by
   rw [seqIndex_neg (by lia) h3] at h1;rw [aO,← hl];exact aV h1
  exact PySem.W.ki_setBack ho (by lia) (by rw [aO,← hl];exact h3) (by lia) (by rw [hk];exact ⟨_,I',q⟩)
def FA (lo hi:Option Int) (n:Nat):(oo lo hi none n).1=((HT.lB n 0 lo:Nat):Int)/\(oo lo hi none n).2.1=((HT.lB n n hi:Nat):Int)/\(oo lo hi none n).2.2=1:=by
 refine ⟨?_,?_,rfl⟩
 ·cases lo with
  | none=>simp [oo,HT.lB]
  | some i =>
   simp only [oo,HT.lB,AA,show (1:Int)>0 by decide,if_true]
   by_cases h:i<0
   ·simp only [h,if_true]<;>lia
   ·simp only [h,if_false]<;>lia
 ·cases hi with
  | none=>simp [oo,HT.lB]
  | some i =>
   simp only [oo,HT.lB,AA,show (1:Int)>0 by decide,if_true]
   by_cases h:i<0
   ·simp only [h,if_true]<;>lia
   ·simp only [h,if_false]<;>lia
def CZ (its:List ai) (lo hi:Option Int):slicePick its.toArray lo hi none=((its.drop (HT.lB its.length 0 lo)).take (HT.lB its.length its.length hi-HT.lB its.length 0 lo)).toArray:=by
 obtain ⟨h1,h2,h3⟩:=FA lo hi its.toArray.size;unfold slicePick;rw [h1,h2,h3];simp only [sliceRange_one,pick_run,aO]<;>rfl
def oE (K:aa):V->Option Int->Option Int->Hp->VK->Prop:=λx lo hi H Q=>∃ a xs,x=.ref a/\c9 K H a xs/\∀ p,H p=none->Q (.ref p) (upd H p (.lst (uL xs lo hi)))
def vC:ZR X (oE X.K):=by
 intro pins s Z H x v vl vu lo hi sl Q I rx hs pl pu h;obtain ⟨a,xs,rfl,hx,q⟩:=h;cases rx;obtain ⟨its,r,ht,hz⟩:=I.list hx;have hlen:=r.length;refine ⟨"list",_,slot_list_getitem.lookup,ht.isList.typeIs,?_⟩;refine wpAny_getItem_list_slice ht.isList hs pl pu .none (by simp) ?_ (by rw [aO]<;>lia);rw [CZ,← hlen];refine ⟨.ref s.heap.objs.size,_,I.laid (t':=s.toks) (o:=.lst (uL xs lo hi)) (λb ob q=>au _ q) (ar _) ?_,rfl,q _ (I.eC.fresh (ar _))⟩;exact ⟨bf (yN xs lo hi) hz,_,0,(r.drop (HT.lB xs.length 0 lo)).take (HT.lB xs.length xs.length hi-HT.lB xs.length 0 lo),aI _ rfl⟩
def FB:mv X (.builtin "len") (λxs H Q=>∃ p ys,xs=[.ref p]/\(c9 X.K H p ys\/ku X.K H p ys)/\Q (.int ys.length) H):=by
 intro pins s Z H xs us Q I r h;obtain ⟨p,ys,rfl,hq,q⟩:=h;obtain ⟨u,rfl,rx⟩:=vals1 r;cases rx;have hn:=qT
 rcases hq with hq|hq
 ·obtain ⟨its,r',pl,hz⟩:=I.list hq;have hlen:=r'.length;exact Calls.call_len_list pl.isList (by simp only [aO]<;>lia) ⟨.int ys.length,H,I.tok _,⟨s.toks+1,by rw [aO,hlen]⟩,q⟩
 ·obtain ⟨its,r',pl,hz⟩:=I.tuple hq;have hlen:=r'.length;exact len_tuple pl (by simp only [aO]<;>lia) ⟨.int ys.length,H,I.tok _,⟨s.toks+1,by rw [aO,hlen]⟩,q⟩
def mv.or {f:ai}{r r':List V->Hp->VK->Prop}(h:mv X f r) (h':mv X f r'):mv X f (λxs H Q=>r xs H Q\/r' xs H Q):=by
 intro pins s Z H xs us Q I rs q
 rcases q with q|q
 ·exact h pins s Z H xs us Q I rs q
 ·exact h' pins s Z H xs us Q I rs q
def ZT (K:aa) (T:String) (x:V) (H:Hp):Prop:=match x with
 | .str _=>T="str"
 | .int _=>T="int"
 | .ref p=>(T="list"/\∃ xs,c9 K H p xs)\/(T="tuple"/\∃ o,K.lookup p=some o/\o.cls=.type "tuple"/\o.dict=none) \/
   (T="dict"/\((∃ kvs,H p=some (.dK kvs))\/∃ kvs,H p=some (.dT kvs)))\/(T="set"/\∃ S n,H p=some (.set S n))
 | _=>False
def Vg {pins:List (af×ft)}{Z:St}{H:Hp}{s:ak}{T:String}{x:V}{v:ai}(I:Inv X pins Z H s) (r:RelV x v) (ty:ZT X.K T x H) :
  s.TypeIs v T/\∀ a,v=.ref a->∃ ob,s.heap.get? a=some ob/\ob.dict=none:=by
 cases x with
 | str z =>
  obtain ⟨t,rfl⟩:=r;cases (show T="str" from ty)
  exact ⟨typeIs_str s z t,λ_ e=>nomatch e⟩
 | int i =>
  obtain ⟨t,rfl⟩:=r;cases (show T="int" from ty)
  exact ⟨typeIs_int s i t,λ_ e=>nomatch e⟩
 | ref p =>
  cases r
  rcases ty with ⟨rfl,xs,hq⟩|⟨rfl,o,hk,hc,hd⟩|⟨rfl,hk⟩|⟨rfl,S,n,hk⟩
  ·obtain ⟨its,_,pl,_⟩:=I.list hq;refine ⟨pl.isList.typeIs,λa e=>?_⟩;cases e;obtain ⟨o,n,e,c,hd,_⟩:=pl;exact ⟨o,e,hd⟩
  ·refine ⟨⟨o,I.Ab p o hk,hc⟩,λa e=>?_⟩;cases e;exact ⟨o,I.Ab _ o hk,hd⟩
  ·have z:∃ o,s.heap.get? p=some o/\o.ExactDict:=by
    rcases hk with ⟨kvs,hk⟩|⟨kvs,hk⟩
    ·obtain ⟨_,_,_,_,o,_,_,e,ex,_⟩:=I.eC p _ hk;exact ⟨o,e,ex⟩
    ·obtain ⟨_,_,_,_,o,_,_,e,ex,_⟩:=I.eC p _ hk;exact ⟨o,e,ex⟩
   obtain ⟨o,e,ex⟩:=z;refine ⟨⟨o,e,ex.1⟩,λa e2=>?_⟩;cases e2;exact ⟨o,e,ex.2.1⟩
  ·obtain ⟨o,_,_,_,e,ex,_⟩:=I.eC p _ hk;refine ⟨⟨o,e,ex.1⟩,λa e2=>?_⟩;cases e2
   exact ⟨o,e,ex.2.1⟩
 | _=>exact hV ty
def C2 (K:aa) (T:String) (r:V->List V->Hp->VK->Prop) (to:TE) (t:TA):TE:=λZ H Q=>to Z H λx H1=>ZT K T x H1/\t Z H1 λxs H2=>r x xs H2 Q
variable {o e:Expr}{es:List Expr}{to:TE}{t:TA}{name:bh}{apos cpos:kM}{T id:String}{r:V->List V->Hp->VK->Prop}
def nC (pa:PlainAttrs T) (slot:Slot T name id) (hty:typeOf (.builtin id)=pure (.type "method_descriptor")) (hm:MtR X id r) (ho:PE X o to) (ha:PA X (e::es) t)
  (hbase:nU o name X.env (eN o X.env)=eN o X.env:=by rfl)
  (hfew:((gm cpos (bF (e::es) X.env)).all (λx=>!x.1) && (Ae cpos (om [] X.env)).all (λx=>x.1.isSome)
   && decide ((e::es).length+([]:List G0).length+(if ([]:List G0).isEmpty then 0 else 1)<30))=true:=by rfl)
  (hline:(apos.endLine == cpos.line)=true:=by rfl) (hs:bF (e::es) X.env=(false,eN e X.env)::bF es X.env:=by rfl) (hplain:(gm cpos (bF es X.env)).any (·.1)=false:=by rfl) :
  PE X (.Call (.Attribute o name apos) (e::es) [] cpos) (C2 X.K T r to t):=by
 intro pins s Z H Q I h;refine wpAny_Call_method_late hbase hfew hline rfl (gP (ho pins s Z H _ I h) λv s1 ⟨x,H1,I1,r1,ty,q1⟩=>?_);obtain ⟨h1,h2⟩:=Vg I1 r1 ty;refine ⟨T,id,pa,slot,hty,h1,h2,?_⟩;have hA:=ha cpos pins s1 Z H1 _ I1 q1;rw [hs] at hA ⊢;refine Ls (by show (false || (gm cpos (bF es X.env)).any (·.1))=false;rw [hplain]<;>rfl) (NP ?_);exact gP hA λus s2 ⟨vs,H2,I2,r2,q2⟩=>hm pins s2 Z H2 x vs v us Q I2 r1 r2 q2
end
end L2
namespace L2
def SN (X:Cx) (id:String) (r:V->List V->Hp->VK->Prop):Prop :=
 ∀ (pins:List (af×ft)) (s:ak) (Z:St) (H:Hp) (x:V) (xs:List V) (v:ai) (us:List ai) (Q:VK),Inv X pins Z H s->RelV x v->Vals xs us->r x xs H Q ->
  aG (aM X.prog X.w) X.A (call (.builtin id) (v::us)) (EP X pins Z Q) X.xe s
theorem Vals.one:∀ {x:V}{us:List ai},Vals [x] us->∃ u,us=[u]/\RelV x u
 | _,_,.cons r .nil=>⟨_,rfl,r⟩
section
variable {X:Cx}{pins:List (af×ft)}{Z:St}{H:Hp}{s:ak}{l b:af}{xs ys zs:List V}
def Inv.lset {its its':List ai}{n:Nat}{f:Array ai->Array ai}{t':Nat}(I:Inv X pins Z H s) (hH:H l=some (.lst xs))
  (e:s.heap.get? l=some { cls:=.type "list",data:=.seq its.toArray n }) (hf:f its.toArray=its'.toArray) (hv:Vals ys its') (hz:ys.length<=aT) :
  Inv X pins Z (upd H l (.lst ys)) { s with heap:=s.heap.update l (bO f),toks:=t' }:=by
 have q:=PySem.IsL.update e f;rw [hf] at q;refine I.write (x:=l) (e:=l) (by rw [hH];exact trivial) (.inl rfl) (λb' u hb hu=>(bz s.heap (bO f) (Ne.symm hb)).trans hu) ⟨_,q⟩ ?_;exact ⟨hz,its',_,hv,q⟩
def Inv.YC {its:List ai}{t':Nat}(I:Inv X pins Z H s) (hv:Vals ys its) (hz:ys.length<=aT) :
  Inv X pins Z (upd H s.heap.objs.size (.lst ys)) { s with heap:=s.heap.push { cls:=.type "list",data:=.seq its.toArray },toks:=t' } :=
 I.laid (λ_ _ q=>au _ q) (ar _) ⟨hz,its,0,hv,aI _ rfl⟩
def Inv.fresh (I:Inv X pins Z H s):H s.heap.objs.size=none:=I.eC.fresh (ar _)
def Inv.Wp (I:Inv X pins Z H s) (hH:H l=some (.lst xs)):xs.length<=aT/\∃ (its:List ai) (n:Nat),Vals xs its/\xs.length=its.length/\s.heap.get? l=some { cls:=.type "list",data:=.seq its.toArray n }:=by
 obtain ⟨z,its,n,r,e⟩:=I.eC l _ hH;exact ⟨z,its,n,r,r.length,e⟩
end
section
variable {X:Cx}
def kg:V->List V->Hp->VK->Prop:=λx vs H Q=>∃ l xs y,x=.ref l/\vs=[y]/\H l=some (.lst xs)/\xs.length<aT/\Q .non (upd H l (.lst (xs++[y])))
def lC:SN X "list.append" kg:=by
 intro pins s Z H x vs v us Q I rx rv h;obtain ⟨l,xs,y,rfl,rfl,hH,hz,q⟩:=h;cases rx;obtain ⟨u,rfl,ru⟩:=rv.one;obtain ⟨z,its,n,r,hl,e⟩:=I.Wp hH;refine call_meets F.slot_list_append ⟨_,e,rfl⟩ F.entry_list_append (F.args_list_append_2 _ _) (PySem.list_append l its.toArray n u (by rw [aO];lia)) ⟨e,?_⟩;refine ⟨.non,_,I.lset (its':=its++[u]) hH e (by simp) (r.append (.cons ru .nil)) ?_,rfl,q⟩;rw [bu,NQ];lia
def Xn:R2:=λx y H Q=>∃ l b xs zs,x=.ref l/\y=.ref b/\H l=some (.lst xs)/\H b=some (.lst zs)/\xs.length+zs.length<=aT/\∀ p,H p=none->Q (.ref p) (upd H p (.lst (xs++zs)))
def Vh:qc X (qH .Add) Xn:=by
 intro pins s Z H x y v u Q I rx ry h;obtain ⟨l,b,xs,zs,rfl,rfl,hH,hB,hz,q⟩:=h;cases rx;cases ry;obtain ⟨z,its,n,r,hl,e⟩:=I.Wp hH;obtain ⟨z2,its2,n2,r2,hl2,e2⟩:=I.Wp hB;refine PySem.P.add_list e e2 ?_ (by rw [aO,aO];lia)
 have ea:its.toArray++its2.toArray=(its++its2).toArray:=by simp
 rw [ea];exact ⟨.ref _,_,I.YC (t':=s.toks) (r.append r2) (by rw [bu];lia),rfl,q _ I.fresh⟩
end
section
variable {prog:aY}{w:bH}{A:bN}{E:ai->ak->Prop}{s:ak}
end
section
variable {X:Cx}
end
end L2
namespace L2
section
variable {κ:Type} [DecidableEq κ]
def gQ (kvs:List (κ×V)) (k:κ):Option V:=(kvs.find? λkv=>decide (kv.1=k)).map (·.2)
def nr (kvs:List (κ×V)) (k:κ) (v:V):List (κ×V) :=
 if (kvs.any λkv=>decide (kv.1=k))=true then kvs.map (λkv=>if kv.1=k then (kv.1,v) else kv) else kvs++[(k,v)]
def nE (kvs:List (κ×V)) (k:κ):List (κ×V):=kvs.filter λkv=>decide (kv.1≠k)
def iG {p:κ×V}{r:List (κ×V)}{k:κ}(e:p.1=k):gQ (p::r) k=some p.2:=by simp [gQ,kX,e]
def h8 {p:κ×V}{r:List (κ×V)}{k:κ}(e:¬ p.1=k):gQ (p::r) k=gQ r k:=by simp [gQ,kX,e]
theorem mW (k:κ):∀ kvs:List (κ×V),(kvs.any λkv=>decide (kv.1=k))=(gQ kvs k).isSome
 | []=>rfl
 | p::r=>by
  rw [JV]
  by_cases e:p.1=k
  ·simp only [iG e,decide_eq_true e,Bool.true_or,Option.isSome_some]
  ·rw [h8 e,decide_eq_false e,Bool.false_or];exact mW k r
theorem HE (k j:κ) (y:V):∀ kvs:List (κ×V),gQ (kvs.map λkv=>if kv.1=k then (kv.1,y) else kv) j=(gQ kvs j).map λx=>if j=k then y else x
 | []=>rfl
 | p::r=>by
  have ih:=HE k j y r;rw [bU]
  by_cases h:p.1=k
  ·rw [if_pos h]
   by_cases e:p.1=j
   ·rw [iG (p:=(p.1,y)) e,iG e,jh,if_pos (e.symm.trans h)]
   ·rw [h8 (p:=(p.1,y)) e,h8 e,ih]
  ·rw [if_neg h]
   by_cases e:p.1=j
   ·rw [iG (p:=p) e,iG e,jh,if_neg (λz=>h (e.trans z))]
   ·rw [h8 (p:=p) e,h8 e,ih]
theorem EB (k j:κ) (y:V):∀ kvs:List (κ×V),gQ kvs k=none->gQ (kvs++[(k,y)]) j=if j=k then some y else gQ kvs j
 | [],_=>by
  by_cases e:k=j
  ·rw [if_pos e.symm];exact iG (p:=(k,y)) e
  ·rw [if_neg (λz=>e z.symm)];exact h8 (p:=(k,y)) e
 | p::r,hn=>by
  rw [CP]
  have hk:¬ p.1=k:=λz=>by rw [iG z] at hn;cases hn
  rw [h8 hk] at hn;have ih:=EB k j y r hn
  by_cases e:p.1=j
  ·rw [iG e,iG e,if_neg (λz=>hk (e.trans z))]
  ·rw [h8 e,h8 e,ih]
def OI (kvs:List (κ×V)) (k j:κ) (y:V):gQ (nr kvs k y) j=if j=k then some y else gQ kvs j:=by
 unfold nr
 by_cases a:(kvs.any λkv=>decide (kv.1=k))=true
 ·rw [if_pos a,HE];rw [mW] at a
  by_cases e:j=k
  ·obtain ⟨x,hx⟩:=Hn.mp a;rw [if_pos e,e,hx,jh,if_pos rfl]
  ·rw [if_neg e]
   cases gQ kvs j with
   | none=>rfl
   | some x=>rw [jh,if_neg e]
 ·rw [if_neg a];refine EB k j y kvs ?_;rw [mW] at a
  cases q:gQ kvs k with
  | none=>rfl
  | some x=>rw [q] at a;exact (a rfl).elim
def qW (kvs:List (κ×V)) (k:κ) (v:V):(nr kvs k v).length<=kvs.length+1:=by
 unfold nr
 split
 ·rw [ag];lia
 ·rw [bu,bT,kW];lia
def vD {kvs:List (κ×V)}{k:κ}(v:V) (h:gQ kvs k=none):nr kvs k v=kvs++[(k,v)]:=by
 unfold nr;rw [mW,h];exact if_neg (by decide)
def qb.pD {o:Option V}{u:Option ai}(r:qb o u):o.isSome=u.isSome:=by
 cases o with
 | none=>cases u with
  | none=>rfl
  | some _=>exact (show False from r).elim
 | some _=>cases u with
  | none=>exact (show False from r).elim
  | some _=>rfl
def qb.getD {o:Option V}{u:Option ai}{d:V}{d':ai}(r:qb o u) (rd:RelV d d'):RelV (o.getD d) (u.getD d'):=by
 cases o with
 | none=>cases u with
  | none=>exact rd
  | some _=>exact (show False from r).elim
 | some _=>cases u with
  | none=>exact (show False from r).elim
  | some _=>exact r
def KV.val {kvs:List (κ×V)}{vs:List (κ×ai)}(r:KV kvs vs) (k:κ):qb (gQ kvs k) (G2 vs k):=by
 unfold KV at r
 induction r with
 | nil=>exact iJ
 | @cons p q ps qs h t ih =>
  obtain ⟨h1,h2⟩:=h
  by_cases e:p.1=k
  ·have e':q.1=k:=h1.symm.trans e
   have b:G2 (q::qs) k=some q.2:=by simp [G2,kX,e']
   rw [iG e,b];exact h2
  ·have e':¬ q.1=k:=λz=>e (h1.trans z)
   have b:G2 (q::qs) k=G2 qs k:=by simp [G2,kX,e']
   rw [h8 e,b];exact ih
def KV.any {kvs:List (κ×V)}{vs:List (κ×ai)}(r:KV kvs vs) (k:κ):(kvs.any λkv=>decide (kv.1=k))=vs.any λkv=>decide (kv.1=k):=by
 unfold KV at r
 induction r with
 | nil=>rfl
 | cons h t ih=>rw [JV,JV,ih,h.1]
def KV.Wk {kvs:List (κ×V)}{vs:List (κ×ai)}(r:KV kvs vs) (k:κ) {y:V}{u:ai}(ry:RelV y u) :
  KV (kvs.map λkv=>if kv.1=k then (kv.1,y) else kv) (vs.map λkv=>if kv.1=k then (kv.1,u) else kv):=by
 unfold KV at r ⊢
 induction r with
 | nil=>exact .nil
 | @cons p q ps qs h t ih =>
  rw [bU,bU];refine .cons ?_ ih;obtain ⟨h1,h2⟩:=h
  by_cases e:p.1=k
  ·rw [if_pos e,if_pos (h1.symm.trans e)];exact ⟨h1,ry⟩
  ·rw [if_neg e,if_neg (λz=>e (h1.trans z))];exact ⟨h1,h2⟩
def KV.put {kvs:List (κ×V)}{vs:List (κ×ai)}(r:KV kvs vs) (k:κ) {y:V}{u:ai}(ry:RelV y u):KV (nr kvs k y) (stored vs k u):=by
 unfold nr stored;rw [r.any k]
 by_cases e:(vs.any λkv=>decide (kv.1=k))=true
 ·rw [if_pos e,if_pos e];exact r.Wk k ry
 ·rw [if_neg e,if_neg e];exact Paired.snoc r ⟨rfl,ry⟩
def KV.length {kvs:List (κ×V)}{vs:List (κ×ai)}(r:KV kvs vs):kvs.length=vs.length:=xk r
end
def EC {P:aY}{w:bH}{k:fT}{u:ai}(r:RelV (kV k) u):(ee P w).is k u=true:=by
 cases k with
 | inl i=>obtain ⟨t,e⟩:=(show ∃ t,u=fj i t from r);subst e;exact Hu P w i t
 | inr x=>obtain ⟨t,e⟩:=(show ∃ t,u=qF x t from r);subst e;exact Hv P w x t
theorem ED {P:aY}{w:bH}:∀ {ks:List fT}{us:List ai},Vals (ks.map kV) us->ItemsAre (ee P w) ks us
 | [],_,r=>by rw [Az] at r;cases r;exact .nil
 | k::ks,_,r=>by
  rw [bU] at r
  cases r with
  | cons h t=>exact .cons (EC h) (ED t)
abbrev KT (H:Hp):List (List fT×V)->List (List fT×af×ai)->Prop:=Paired λp q=>p.1=q.1/\H q.2.1=some (.tup (p.1.map kV))/\RelV p.2 q.2.2
def KT.val {H:Hp}{kvs:List (List fT×V)}{xs:List (List fT×af×ai)}(r:KT H kvs xs) (k:List fT):qb (gQ kvs k) ((G4 xs k).map (·.2)):=by
 induction r with
 | nil=>exact iJ
 | @cons p q ps qs h t ih =>
  obtain ⟨h1,_,h2⟩:=h
  by_cases e:p.1=k
  ·have e':q.1=k:=h1.symm.trans e
   have b:G4 (q::qs) k=some q.2:=by simp [G4,kX,e']
   rw [iG e,b];exact h2
  ·have e':¬ q.1=k:=λz=>e (h1.trans z)
   have b:G4 (q::qs) k=G4 qs k:=by simp [G4,kX,e']
   rw [h8 e,b];exact ih
def KT.Wk {H:Hp}{kvs:List (List fT×V)}{xs:List (List fT×af×ai)}(r:KT H kvs xs) (k:List fT) {y:V}{u:ai}(ry:RelV y u) :
  KT H (kvs.map λkv=>if kv.1=k then (kv.1,y) else kv) (xs.map (putAt k u)):=by
 induction r with
 | nil=>exact .nil
 | @cons p q ps qs h t ih =>
  rw [bU,bU];refine .cons ?_ ih;obtain ⟨h1,h2,h3⟩:=h;unfold putAt
  by_cases e:p.1=k
  ·rw [if_pos e,if_pos (h1.symm.trans e)];exact ⟨h1,h2,ry⟩
  ·rw [if_neg e,if_neg (λz=>e (h1.trans z))];exact ⟨h1,h2,h3⟩
def KT.put {H:Hp}{kvs:List (List fT×V)}{xs:List (List fT×af×ai)}(r:KT H kvs xs) (k:List fT) {b:af}{y:V}{u:ai}(hb:H b=some (.tup (k.map kV))) (ry:RelV y u) :
  KT H (nr kvs k y) (storedH xs k b u):=by
 have e:(kvs.any λkv=>decide (kv.1=k))=(G4 xs k).isSome:=by
  rw [mW,(r.val k).pD,zB]
 unfold nr storedH;rw [e]
 by_cases q:(G4 xs k).isSome=true
 ·rw [if_pos q,if_pos q];exact r.Wk k ry
 ·rw [if_neg q,if_neg q];exact Paired.snoc r ⟨rfl,hb,ry⟩
def KT.keeps {H H':Hp}{kvs:List (List fT×V)}{xs:List (List fT×af×ai)}(r:KT H kvs xs) (ht:∀ b ys,H b=some (.tup ys)->H' b=some (.tup ys)):KT H' kvs xs :=
 Paired.NF r λ_ _ z=>⟨z.1,ht _ _ z.2.1,z.2.2⟩
section
variable {P:aY}{w:bH}{H:Hp}{h:cb}{a:af}
def Tr {u:HO}(ok:qv P w H h) (e:Rd H a u):d9 P w H h a u:=e.ok ok
def yO {kvs:List (fT×V)}(ok:qv P w H h) (e:Rd H a (.dK kvs)):kvs.length<=aT/\(a == gR)=false/\∃ vs,KV kvs vs/\h.DictOf (ee P w) a vs :=
 show d9 P w H h a (.dK kvs) from Tr ok e
def Ts {kvs:List (fT×V)}(ok:qv P w H h) (e:H a=some (.dK kvs)):kvs.length<=aT/\(a == gR)=false/\∃ vs,KV kvs vs/\h.DictOf (ee P w) a vs:=yO ok (.inl e)
def pO {ks:List fT}(ok:qv P w H h) (e:H a=some (.tup (ks.map kV))):(jS (ee P w)).is h ks a:=by
 obtain ⟨_,its,r,o,h1,h2,n,h3⟩:=(show d9 P w H h a (.tup (ks.map kV)) from ok a _ e)
 exact ⟨o,its.toArray,n,h1,h2,h3,by simpa using ED r⟩
def yP {kvs:List (List fT×V)}(ok:qv P w H h) (e:Rd H a (.dT kvs)):kvs.length<=aT/\(a == gR)=false /\
  ∃ xs,KT H kvs xs/\h.DictOfH (jS (ee P w)) a xs:=by
 obtain ⟨z,y,xs,r,o,es,ep,h1,h2,h3,h4,h5⟩:=(show d9 P w H h a (.dT kvs) from Tr ok e)
 refine ⟨z,y,xs,r,o,es,ep,h1,h2,h3,h4,λx hx=>?_,h5⟩
 have all:∀ {l:List (List fT×V)}{m:List (List fT×af×ai)},KT H l m->∀ x∈m,(jS (ee P w)).is h x.1 x.2.1:=by
  intro l m q
  induction q with
  | nil=>intro x hx;exact nomatch hx
  | @cons p q ps qs hq t ih =>
   intro x hx
   rcases av.mp hx with e|hx
   ·subst e;exact pO ok (by rw [← hq.1];exact hq.2.1)
   ·exact ih x hx
 exact all r x hx
def Xo {kvs:List (List fT×V)}(ok:qv P w H h) (e:H a=some (.dT kvs)):kvs.length<=aT/\(a == gR)=false /\
  ∃ xs,KT H kvs xs/\h.DictOfH (jS (ee P w)) a xs:=yP ok (.inl e)
end
def oh (H:Hp) (a:af) (y:V) (r:Option V):Prop :=
 (∃ kvs k,Rd H a (.dK kvs)/\y=kV k/\r=gQ kvs k)\/∃ kvs k b,Rd H a (.dT kvs)/\y=.ref b/\H b=some (.tup (k.map kV))/\r=gQ kvs k
def tF (H:Hp) (a:af) (y v:V) (H':Hp):Prop :=
 (∃ kvs k,H a=some (.dK kvs)/\y=kV k/\kvs.length<aT/\H'=upd H a (.dK (nr kvs k v))) \/
 ∃ kvs k b,H a=some (.dT kvs)/\y=.ref b/\H b=some (.tup (k.map kV))/\kvs.length<aT/\H'=upd H a (.dT (nr kvs k v))
def oh.k {H:Hp}{a:af}{kvs:List (fT×V)}{k:fT}(e:H a=some (.dK kvs)):oh H a (kV k) (gQ kvs k):=.inl ⟨kvs,k,.inl e,rfl,rfl⟩
def oh.t {H:Hp}{a b:af}{kvs:List (List fT×V)}{k:List fT}(e:H a=some (.dT kvs)) (eb:H b=some (.tup (k.map kV))):oh H a (.ref b) (gQ kvs k):=.inr ⟨kvs,k,b,.inl e,rfl,eb,rfl⟩
def tF.k {H:Hp}{a:af}{kvs:List (fT×V)}{k:fT}{v:V}(e:H a=some (.dK kvs)) (hl:kvs.length<aT):tF H a (kV k) v (upd H a (.dK (nr kvs k v))):=.inl ⟨kvs,k,e,rfl,hl,rfl⟩
def tF.t {H:Hp}{a b:af}{kvs:List (List fT×V)}{k:List fT}{v:V}(e:H a=some (.dT kvs)) (eb:H b=some (.tup (k.map kV))) (hl:kvs.length<aT) :
  tF H a (.ref b) v (upd H a (.dT (nr kvs k v))):=.inr ⟨kvs,k,b,e,rfl,eb,hl,rfl⟩
section
variable {X:Cx}{pins:List (af×ft)}{Z:St}{H:Hp}{s:ak}{a:af}{y v:V}{u r:ai}{o:Option V}{A:bN}{E:ai->ak->Prop}
def Inv.big (I:Inv X pins Z H s):gR<s.heap.objs.size:=by
 have h:bR<s.heap.objs.size:=(I.mod.glob.keeps I.bk).lt;exact tM (by decide) h
def EE {Q:ai->ak->Prop}(hu:A.units+1<gO) (I:Inv X pins Z H s) (g:oh H a y (some v)) (ry:RelV y u) (h:∀ w' s',Inv X pins Z H s'->RelV v w'->Q w' s') :
  aG (aM X.prog X.w) A (MF (.ref a) u) Q E s:=by
 rcases g with ⟨kvs,k,e,ey,l⟩|⟨kvs,k,b,e,ey,eb,l⟩
 ·subst ey;obtain ⟨z,hd,vs,rel,dd⟩:=yO I.eC e;obtain ⟨w',hw,rw'⟩:=qb.some_of (v:=v) (o:=G2 vs k) (by rw [l];exact rel.val k);exact wpAny_getItem_of (EC ry) dd.mapOf hw (h w' _ (I.tok _) rw')
 ·subst ey;cases (show u=aD b from ry);obtain ⟨z,hd,xs,rel,dd⟩:=yP I.eC e;obtain ⟨w',hw,rw'⟩:=qb.some_of (v:=v) (o:=(G4 xs k).map (·.2)) (by rw [l];exact rel.val k);obtain ⟨p,hp,hp2⟩:=aW.mp hw;refine wpAny_getItem_heap (iB hu) (pO I.eC eb) dd hp ?_;rw [hp2];exact h w' _ (I.tok _) rw'
def ZU {Q:ai->ak->Prop}(hu:A.units+1<gO) (I:Inv X pins Z H s) (g:oh H a y o) (ry:RelV y u) (h:∀ s',Inv X pins Z H s'->Q (.bool o.isSome) s') :
  aG (aM X.prog X.w) A (df .In u (.ref a)) Q E s:=by
 rcases g with ⟨kvs,k,e,ey,l⟩|⟨kvs,k,b,e,ey,eb,l⟩
 ·subst ey;obtain ⟨z,hd,vs,rel,dd⟩:=yO I.eC e;refine wpAny_in_of (EC ry) hd dd.mapOf ?_;rw [← (rel.val k).pD,← l];exact h _ (I.tok _)
 ·subst ey;cases (show u=aD b from ry);obtain ⟨z,hd,xs,rel,dd⟩:=yP I.eC e;refine wpAny_in_heap (iB hu) (pO I.eC eb) hd dd ?_;have q:=(rel.val k).pD;rw [zB] at q;rw [← q,← l];exact h _ (I.tok _)
def RV {Q:ai->ak->Prop}(hu:A.units+1<gO) (I:Inv X pins Z H s) (g:oh H a y o) (ry:RelV y u) (h:∀ s',Inv X pins Z H s'->Q (.bool (!o.isSome)) s') :
  aG (aM X.prog X.w) A (df .NotIn u (.ref a)) Q E s:=by
 rcases g with ⟨kvs,k,e,ey,l⟩|⟨kvs,k,b,e,ey,eb,l⟩
 ·subst ey;obtain ⟨z,hd,vs,rel,dd⟩:=yO I.eC e;refine wpAny_notIn_of (EC ry) hd dd.mapOf ?_;rw [← (rel.val k).pD,← l];exact h _ (I.tok _)
 ·subst ey;cases (show u=aD b from ry);obtain ⟨z,hd,xs,rel,dd⟩:=yP I.eC e;refine wpAny_notIn_heap (iB hu) (pO I.eC eb) hd dd ?_;have q:=(rel.val k).pD;rw [zB] at q;rw [← q,← l];exact h _ (I.tok _)
def FC {h':cb}{t':Nat}{ob:HO}(I:Inv X pins Z H s) (mu:Xd (H a)) (hs:gN a s.heap h') (he:∃ q,h'.get? a=some q) (new:d9 X.prog X.w (upd H a ob) h' a ob) :
  Inv X pins Z (upd H a ob) { s with heap:=h',toks:=t' } :=
 I.write (x:=a) (e:=a) mu (.inl rfl) (λb q hb z=>(hs.2 b hb).trans z) he new
def Vi {P:aY}{w:bH}{H':Hp}{h':cb}{kvs:List (fT×V)}{vs:List (fT×ai)}(z:kvs.length<=aT) (hd:(a == gR)=false) (rel:KV kvs vs) (dd:h'.DictOf (ee P w) a vs) :
  d9 P w H' h' a (.dK kvs):=⟨z,hd,vs,rel,dd⟩
def EF {H':Hp}{Q:Unit->ak->Prop}(hu:A.units+1<gO) (I:Inv X pins Z H s) (g:tF H a y v H') (ry:RelV y u) (rv:RelV v r) (h:∀ s',Inv X pins Z H' s'->Q () s') :
  aG (aM X.prog X.w) A (setItem (.ref a) u r) Q E s:=by
 rcases g with ⟨kvs,k,e,ey,l,eH⟩|⟨kvs,k,b,e,ey,eb,l,eH⟩
 ·subst ey eH;obtain ⟨z,hd,vs,rel,dd⟩:=Ts I.eC e
  have hz:vs.length<=aT:=by rw [← rel.length];exact z
  have hl:(nr kvs k v).length<=aT:=by have:=qW kvs k v;lia
  refine wpAny_setItem_pairs (hsz:=hz) (EC ry) dd λh' dd' hs=>h _ ?_
  have he:∃ q,h'.get? a=some q:=let ⟨q,_,_,hq,_⟩:=dd';⟨q,hq⟩
  exact FC I (by rw [e];exact iJ) hs he (Vi hl hd (rel.put k rv) dd')
 ·subst ey eH;cases (show u=aD b from ry);obtain ⟨z,hd,xs,rel,dd⟩:=Xo I.eC e
  have hz:xs.length<=aT:=by rw [← xk rel];exact z
  have hl:(nr kvs k v).length<=aT:=by have:=qW kvs k v;lia
  refine wpAny_setItem_heap (hsz:=hz) (iB hu) (pO I.eC eb) dd λh' dd' hs=>h _ ?_;obtain ⟨q,es,ep,hq,h2,h3,h4,_,h5⟩:=dd';refine FC I (by rw [e];exact iJ) hs ⟨q,hq⟩ ⟨hl,hd,_,(rel.put k eb rv).keeps λc ys ec=>?_,q,es,ep,hq,h2,h3,h4,h5⟩;rw [aH (gh ec e (λz=>nomatch z))];exact ec
end
section
variable {X:Cx}{pins:List (af×ft)}{Z:St}{H:Hp}{s:ak}{a:af}{kvs:List (fT×V)}{k:fT}{u:ai}{A:bN}{E:ai->ak->Prop}
def Xp {Q:ai->ak->Prop}(I:Inv X pins Z H s) (e:Rd H a (.dK kvs)) (h:∀ t s',Inv X pins Z H s'->Q (.int kvs.length t) s'):aG (aM X.prog X.w) A (call (.builtin "len") [.ref a]) Q E s:=by
 obtain ⟨z,hd,vs,rel,dd⟩:=yO I.eC e;refine call_len_dict hd dd (by rw [← rel.length];rw [oi] at z;lia) ?_;rw [← rel.length];exact h _ _ (I.tok _)
end
def HF {X:Cx}{pins:List (af×ft)}{Z:St}{H:Hp}{s:ak}{a:af}{y:V}{o:Option V}(I:Inv X pins Z H s) (g:oh H a y o):s.TypeIs (.ref a) "dict":=by
 rcases g with ⟨kvs,k,e,_,_⟩|⟨kvs,k,b,e,_,_,_⟩
 ·obtain ⟨_,_,vs,_,dd⟩:=yO I.eC e;exact dd.typeIs
 ·obtain ⟨_,_,xs,_,dd⟩:=yP I.eC e;exact dd.typeIs
def Tu (td ty tv:TE) (rd:V->V->Hp->VK->Prop):TS:=λD Z H=>td Z H λx H1=>ty Z H1 λy H2=>∃ a v,x=.ref a/\oh H2 a y (some v) /\
 tv Z H2 λy2 H3=>rd v y2 H3 λz H4=>∃ H5,tF H4 a y z H5/\D.nx Z H5
section
variable {X:Cx}{o i e value:Expr}{pos pos' tpos:kM}{td ty tv:TE}
def RW {op:Ac}{rd:V->V->Hp->VK->Prop}(hu:X.A.units+1<gO) (ho:PE X o td) (hi:PE X i ty) (hv:PE X value tv) (hop:Va X op rd)
  (ha:∀ ov iv new,augStore i ov iv new=(do kj [new,ov,iv] (setItem ov iv new);release [new,ov,iv] [];pure .next)):PS X (.AugAssign (.Subscript o i tpos) op value pos) (Tu td ty tv rd):=by
 intro pins s Z H D I h;refine wpAny_AugAssign_SubscriptAny (gP (ho pins s Z H _ I h) λu s1 ⟨x,H1,I1,rx,q1⟩=>gP (hi pins s1 Z H1 _ I1 q1) λiv s2 ⟨y,H2,I2,ry,a,v,ex,g,q2⟩=>?_) ha;subst ex;obtain rfl:u=aD a:=rx;refine EE hu I2 g ry λw' s3 I3 rw'=>gP (hv pins s3 Z H2 _ I3 q2) λw2 s4 ⟨y2,H3,I4,ry2,q3⟩=>gP (hop pins s4 Z H3 v y2 w' w2 _ I4 rw' ry2 q3) λw3 s5 ⟨z,H4,I5,rz,H5,g5,q4⟩=>?_
 exact EF hu I5 g5 ry rz λs6 I6=>⟨Z,H5,I6,q4⟩
end
def OJ {P:aY}{w:bH}{H:Hp}(h:cb) (hb:gR<h.objs.size):d9 P w H (h.push { cls:=.type "dict",data:=.dict #[] }) h.objs.size (.dK []) :=
 ⟨aQ _,beq_eq_false_iff_ne.mpr (Ne.symm (a9 hb)),[],.nil,Heap.DictOf.new h⟩
def OL {P:aY}{w:bH}{H:Hp}(h:cb) (hb:gR<h.objs.size):d9 P w H (h.push { cls:=.type "dict",data:=.dict #[] }) h.objs.size (.dT []) :=
 ⟨aQ _,beq_eq_false_iff_ne.mpr (Ne.symm (a9 hb)),[],.nil,_,#[],0,aI _ rfl,⟨rfl,rfl,rfl⟩,rfl,rfl,oz⟩
def Ki:TE:=λ_ H Q=>∀ p,H p=none->Q (.ref p) (upd H p (.dK []))
def qX:TE:=λ_ H Q=>∀ p,H p=none->Q (.ref p) (upd H p (.dT []))
section
variable {X:Cx}{pos:kM}
def OM:PE X (.Dict [] [] pos) Ki:=λpins s Z H Q I h =>
 wpAny_Dict_empty ⟨.ref s.heap.objs.size,_,I.laid (a:=s.heap.objs.size) (o:=.dK []) (t':=s.toks) (λ_ _ q=>au _ q) (ar _) (OJ s.heap I.big),rfl,h _ (I.eC.fresh (ar _))⟩
def ON:PE X (.Dict [] [] pos) qX:=λpins s Z H Q I h =>
 wpAny_Dict_empty ⟨.ref s.heap.objs.size,_,I.laid (a:=s.heap.objs.size) (o:=.dT []) (t':=s.toks) (λ_ _ q=>au _ q) (ar _) (OL s.heap I.big),rfl,h _ (I.eC.fresh (ar _))⟩
end
structure M2 (X:Cx) (o:Expr) (m:bh) (apos:kM) (e f:Expr) (cpos:kM):Prop where
 base:nU o m X.env (eN o X.env)=eN o X.env
 Uy:((gm cpos (bF [e,f] X.env)).all (λx=>!x.1) && (Ae cpos (om [] X.env)).all (λx=>x.1.isSome)
  && decide (([e,f]:List Expr).length+([]:List G0).length+(if ([]:List G0).isEmpty then 0 else 1)<30))=true
 line:(apos.endLine == cpos.line)=true
 trees:gm cpos (bF [e,f] X.env)=[(false,eN e X.env),(false,eN f X.env)]
def ZV (H:Hp) (a:af):Prop:=(∃ kvs,Rd H a (.dK kvs))\/∃ kvs,Rd H a (.dT kvs)
def Vj {X:Cx}{pins:List (af×ft)}{Z:St}{H:Hp}{s:ak}{a:af}(I:Inv X pins Z H s) (d:ZV H a) :
  s.TypeIs (.ref a) "dict"/\(∀ b,aD a=.ref b->∃ ob,s.heap.get? b=some ob/\ob.dict=none)/\(a == gR)=false:=by
 rcases d with ⟨kvs,e⟩|⟨kvs,e⟩
 ·obtain ⟨_,hd,vs,_,dd⟩:=yO I.eC e;refine ⟨dd.typeIs,λb q=>?_,hd⟩;cases q;obtain ⟨ob,_,_,h1,h2,_⟩:=dd;exact ⟨ob,h1,h2.2.1⟩
 ·obtain ⟨_,hd,xs,_,dd⟩:=yP I.eC e;refine ⟨dd.typeIs,λb q=>?_,hd⟩;cases q;obtain ⟨ob,_,_,h1,h2,_⟩:=dd;exact ⟨ob,h1,h2.2.1⟩
section
variable {X:Cx}{pins:List (af×ft)}{Z:St}{H:Hp}{s:ak}{a:af}{y d:V}{u r:ai}{o:Option V}{A:bN}{E:ai->ak->Prop}
def Vk {Q:ai->ak->Prop}(hu:A.units+1<gO) (I:Inv X pins Z H s) (g:oh H a y o) (ry:RelV y u) (rd:RelV d r) (h:∀ w' s',Inv X pins Z H s'->RelV (o.getD d) w'->Q w' s') :
  aG (aM X.prog X.w) A (call (.builtin "dict.get") [.ref a,u,r]) Q E s:=by
 rcases g with ⟨kvs,k,e,ey,l⟩|⟨kvs,k,b,e,ey,eb,l⟩
 ·subst ey;obtain ⟨z,hd,vs,rel,dd⟩:=yO I.eC e;refine call_meetsIn sH dd.typeIs JK (Ho _ _ _) (meets_dict_get_default (ee X.prog X.w) a (EC ry) hd r) ⟨_,dd.mapOf,h _ _ (I.tok _) ?_⟩;rw [l];exact (rel.val k).getD rd
 ·subst ey;cases (show u=aD b from ry);obtain ⟨z,hd,xs,rel,dd⟩:=yP I.eC e;refine call_meetsIn sH dd.typeIs JK (Ho _ _ _) (meetsH_dict_get_default (jS (ee X.prog X.w)) a b hd r) ⟨iB hu,k,xs,pO I.eC eb,dd,h _ _ (I.tok _) ?_⟩;rw [l];exact (rel.val k).getD rd
end
def FD (td ty tx:TE):TE:=λZ H Q=>td Z H λx H1=>∃ a,x=.ref a/\ZV H1 a/\ty Z H1 λy H2=>tx Z H2 λz H3=>∃ o,oh H3 a y o/\Q (o.getD z) H3
section
variable {X:Cx}{o e f:Expr}{apos cpos:kM}{td ty tx:TE}
def HG (hu:X.A.units+1<gO) (ho:PE X o td) (he:PE X e ty) (hf:PE X f tx) (m:M2 X o "get" apos e f cpos):PE X (.Call (.Attribute o "get" apos) [e,f] [] cpos) (FD td ty tx):=by
 intro pins s Z H Q I h;refine wpAny_Call_method m.base m.Uy m.line iN sH PySem.F.type_dict_get (gP (ho pins s Z H _ I h) λu s1 ⟨x,H1,I1,rx,a,ex,d,q1⟩=>?_);subst ex;obtain rfl:u=aD a:=rx;obtain ⟨t1,t2,_⟩:=Vj I1 d;refine ⟨t1,t2,?_⟩;rw [m.trees]
 refine Ls rfl (NP (eT (gP (he pins s1 Z H1 _ I1 q1) λiv s2 ⟨y,H2,I2,ry,q2⟩ =>
  eT (gP (hf pins s2 Z H2 _ I2 q2) λfv s3 ⟨z,H3,I3,rz,ov,g,q3⟩=>jC ?_))))
 exact Vk hu I3 g ry rz λw' s4 I4 rw'=>⟨_,H3,I4,rw',q3⟩
end
section
variable {X:Cx}{pins:List (af×ft)}{Z:St}{H:Hp}{s:ak}{a:af}{kvs:List (fT×V)}{A:bN}{E:ai->ak->Prop}
end
section
variable {X:Cx}{pins:List (af×ft)}{Z:St}{H:Hp}{s:ak}{a:af}{y:V}{u:ai}{A:bN}{E:ai->ak->Prop}
end
end L2
namespace Att
open PySem PySem.W PySem.Calls PyProof.Rows
def zG {P:Params}{h:cb}:∀ (ns:List Int) (vs:List ai),WellAll P h vs (ns.map WData.int)->eO vs ns:=by
 intro ns
 induction ns with
 | nil =>
  intro vs w;rw [Az] at w;cases w
  exact .nil
 | cons n ns ih =>
  intro vs w;rw [bU] at w
  cases w with
  | cons a b =>
   cases a;exact .cons _ _ (ih _ b)
def MX {l:qx}{n:Nat}(hn:l.most=some n) {P:Params}{h:cb}{args:List WData}{vals:List ai}
  (hpre:l.row.toRowW.claim.pre args=true) (hwl:WellAll P h vals args) :
  ∃ a vs ns,vals=[aD a]/\args=[WData.list (ns.map WData.int)]/\h.get? a=some { cls:=.type "list",data:=.seq vs.toArray }/\eO vs ns/\ns.length<=n:=by
 have hsh:WShape.hasAll [] args [.list .int]=true:=(pre_splitW hpre).1;have hc:l.pre.holds [] { args:=args }=true:=(pre_splitW hpre).2;obtain ⟨d,r,rfl,h1,h2⟩:=hasAllW_cons hsh;obtain rfl:=hasAllW_nil h2;obtain ⟨xs,rfl,h3⟩:=hasW_list h1;obtain ⟨ns,rfl⟩:=items_int h3
 have hlen:ns.length<=n:=by
  unfold OpenLaw.pre at hc
  have h4:(WTm.not (.lt (.lit (.int (n:Int))) (.len (.arg 0)))).holds [] { args:=[.list (ns.map .int)] }=true:=by
   have h4:=(holds_andW hc).1;rw [hn] at h4;exact h4
  have h5:=condW_of h4 (w_not (w_lt w_lit (w_len_list (w_arg rfl))));rw [ag] at h5;refine mF λq=>?_
  have q':(n:Int)<((ns.length:Nat):Int):=by lia
  first
   | (rw [decide_eq_true q'] at h5;exact absurd h5 (by decide))
   | (simp at h5;lia)
 cases hwl with
 | cons w1 w2 =>
  cases w2
  cases w1 with
  | list ho hall=>exact ⟨_,_,ns,rfl,rfl,ho,zG ns _ hall,hlen⟩
def MY (l:qx) (args:List WData):l.row.toRowW.claim.post args (.bool true) args=true :=
 postW_of (r:=l.row.toRowW) (X:=(true == true))
  (show WShape.has [] (.bool true) .bool=true by first|rfl|decide|simp [WShape.has,WShape.arms,WShape.armsAll])
  (show (WTm.eq .res (.lit (.bool true))).value [] { args:=args,res:=some (.bool true),after:=args }=some (.bool (true == true)) from w_eq_bool (w_res rfl) w_lit) rfl
def HH {l:qx}{n:Nat}{q:aY}{loose:List bh}{XP:(bh->Option ai)->cb->Prop}{YP:bH->cb->Prop}{d:DefRec}
  (hn:l.most=some n) (hdf:d.params.defaults=[])
  (call:∀ (w:bH) (s₀ s₁:ak) (mg mb:bh->Option ai) (fa:af) (o:ft) (pm cd doc:ai) (a:af) (vs:List ai) (ns:List Int),
   Ground q loose [] XP w s₀ mg mb s₁.heap->YP w s₁.heap ->
   s₁.heap.get? fa=some o->o.data=.func (docDef d.name d.params d.body d.scope pm cd doc)->s₁.heap.CodeRec cd d.name->mg d.name=some (.ref fa) ->
   s₁.heap.get? a=some { cls:=.type "list",data:=.seq vs.toArray }->eO vs ns->ns.length<=n->s₁.gens=#[] ->
   km (aM l.prog w) G5 (.call (.ref fa) ⟨[.ref a],[]⟩) (λr s'=>r=.ok (.ret (.bool true))/\OldK s₁.heap s'.heap/\s'.os=s₁.os/\xm s'.gens) s₁) :
  Q3 q loose XP YP l.row.toRowW d [] (λf vs=>Q4 f vs):=by
 intro w s₀ s₁ mg mb G Y fa o pm cd doc dV kV ho hd hcd hD hmg hg args vals as hpre hlay hrd hwl hlo;obtain rfl:dV=.none:=Dflts.none hD hdf;obtain rfl:kV=.none:=Dflts.noKw hD;obtain ⟨a,vs,ns,rfl,rfl,hobj,hints,hlen⟩:=MX hn hpre hwl;refine enter_call (mD (call w s₀ s₁ mg mb fa o pm cd doc a vs ns G Y ho (fd_plain hd) hcd hmg hobj hints hlen hg) λr s' hq=>?_);obtain ⟨rfl,h2,h3,h4⟩:=hq;exact ⟨.inl ⟨.bool true,.bool true,[],rfl,λ_=>rfl,.bool true,MY l _,λ_=>⟨mR,λ_ hm=>(nomatch hm)⟩⟩,h2,h3,h4⟩
section
variable {prog:aY}{w:bH}{A:bN}{E:ai->ak->Prop}{s:ak}{K:aa}
end
end Att
namespace L2
theorem xN:∀ {vs:List ai}{ns:List Int},eO vs ns->Vals (ns.map V.int) vs
 | _,_,.nil=>.nil
 | _,_,.cons n t h=>.cons ⟨t,rfl⟩ (xN h)
end L2
namespace L2
end L2
namespace L2
def fi (s:dk) (j:Nat):dk:=match s with
 | .ClassDef _ _ _ body _ _ _ _ _ _ _=>body.getD j (.Pass ⟨0,0,0,0⟩)
 | _=>.Pass ⟨0,0,0,0⟩
def nF (s:dk):l8:=match s with
 | .FunctionDef _ a _ _ _ _ _ _ _ _=>a
 | _=>{ posonlyargs:=[],args:=[],vararg:=none,kwonlyargs:=[],kw_defaults:=[],kwarg:=none,defaults:=[] }
def kh (s:dk):List dk:=match s with
 | .FunctionDef _ _ b _ _ _ _ _ _ _=>b
 | _=>[]
def aX (s:dk):jB:=match s with
 | .FunctionDef _ _ _ _ _ _ sc _ _ _=>sc
 | _=>{ kind:=.function,names:=[],isGenerator:=false,isCoroutine:=false }
abbrev HI:JP:=λ_ _ _ _ _ _=>False
abbrev E0:XK:=λ_ _ _=>False
def qY {X:Cx}:n0 HI X E0:=λ_ _ _ _ _ _ _ h=>h.elim
structure Lj (K:aa) (x qual:bh) (st:dk) (f:af) (fd:eI):Prop where
 ex:∃ (oc:ai) (od:Option af) (kV doc pm:ai) (an:Option af) (nj ct:ai) (osl:Array (Option ai)),
  fd=iq x qual (nF st) (kh st) (aX st) .none kV doc pm an nj ct/\K.lookup f=some ⟨oc,od,.func fd,osl⟩/\nz K nj qual=true
 kp:eD K (.ref f)=true
section
variable {P:aY}{w:bH}{K:aa}{mg:bh->Option ai}{base:cb}
def Lj.ok {x qual:bh}{st:dk}{f:af}{fd:eI}{N ps:List bh}{k:Nat}{sp:Sp}(F:Lj K x qual st f fd) (S:bI N ps (aX st)) (len:∀ vs H Q E,sp vs H Q E->vs.length=ps.length)
  (hbody:∀ (nj:ai) (A:bN) (outer:List Ek) (s:ak) (H:Hp) (vs:List V) (Q:VK) (E:XK),hU k (A.deeper (tL qual (aX st) s.heap.objs.size f nj))->sp vs H Q E ->
   ∃ t,JS (Fz HI P w K mg base N qual (aX st) f nj A outer s H E).Uv (kh st) t/\t { nx:=λ_ H'=>Q .non H',rt:=Q } (start N vs) H):lj P w K mg base HI (k+1) f fd ps sp:=by
 obtain ⟨oc,od,kV,doc,pm,an,nj,ct,osl,rfl,lk,hcd⟩:=F.ex;refine Tp lk hcd S len λA outer s H vs Q E hr hsp=>?_;obtain ⟨t,h,q⟩:=hbody nj A outer s H vs Q E hr hsp;exact ⟨t,h.Uv,q⟩
def Lj.binds {x qual:bh}{st:dk}{f:af}{fd:eI}{ps:List bh}(F:Lj K x qual st f fd)
  (h:∀ (kV doc pm:ai) (an:Option af) (nj ct:ai) (us:List ai),us.length=ps.length->Ad (iq x qual (nF st) (kh st) (aX st) .none kV doc pm an nj ct) ⟨us,[]⟩=pure (ps.zip us)):Binds K fd ps []:=by
 obtain ⟨oc,od,kV,doc,pm,an,nj,ct,osl,rfl,lk,hcd⟩:=F.ex;exact .all (h kV doc pm an nj ct)
def FE {x qual:bh}{st:dk}{f:af}{oc:ai}{od an:Option af}{osl:Array (Option ai)}{kV doc pm nj ct:ai}(l:K.lookup f=some ⟨oc,od,.func (iq x qual (nF st) (kh st) (aX st) .none kV doc pm an nj ct),osl⟩)
  (c:nz K nj qual=true) (k:eD K (.ref f)=true):Lj K x qual st f (iq x qual (nF st) (kh st) (aX st) .none kV doc pm an nj ct):=⟨⟨oc,od,kV,doc,pm,an,nj,ct,osl,rfl,l,c⟩,k⟩
end
section
variable {X:Cx}
def pv (i:Nat) {x:bh}{pos:kM}(hN:X.N[i]?=some x:=by rfl) (hv:Y9 X.env.scope x:=by first|exact Or.inl rfl|exact Or.inr (Or.inl rfl)|exact Or.inr (Or.inr rfl)) (hd:(x == ("__debug__":bh))=false:=by decide)
  (hcd:(x == ("__classdict__":bh))=false:=by decide):PE X (.Name x pos) (aq i):=UY hN hv hd hcd
end
def iQ {A B:Prop}(h:B):if false=true then A else B:=by
 rw [if_neg bA];exact h
def lU {A B:Prop}(h:A):if true=true then A else B:=by
 rw [if_pos rfl];exact h
def bL (H H':Hp):Prop:=∀ b o,H b=some o->H' b=some o
def bL.trans {H H1 H2:Hp}(a:bL H H1) (b:bL H1 H2):bL H H2:=λc o h=>b c o (a c o h)
def bL.free {H H':Hp}(e:bL H H') {l:af}(h:H' l=Option.none):H l=Option.none:=by
 cases q:H l with
 | none=>rfl
 | some o =>
  rw [e l o q] at h;cases h
def bL.seq {K:aa}{H H':Hp}{a:af}{xs:List V}(e:bL H H') (h:c9 K H a xs):c9 K H' a xs:=by
 rcases h with (h|⟨o,h⟩)|h
 ·exact .inl (.inl (e _ _ h))
 ·exact .inl (.inr ⟨o,e _ _ h⟩)
 ·exact .inr h
end L2
namespace L2
section
variable {X:Cx}
def MZ:mv X (.builtin "len") (λxs H Q=>∃ a kvs,xs=[V.ref a]/\H a=some (.dK kvs)/\Q (.int kvs.length) H):=by
 intro pins s Z H xs us Q I r h;obtain ⟨a,kvs,rfl,ha,q⟩:=h;obtain ⟨u,rfl,ru⟩:=vals1 r;cases ru
 exact Xp I (.inl ha) λt s' I'=>⟨.int kvs.length,H,I',⟨t,rfl⟩,q⟩
end
section
variable {κ:Type} [DecidableEq κ]
theorem LM:∀ {l:List κ}{k:κ},l.Nodup->¬ k∈l->(l++[k]).Nodup
 | [],k,_,_=>by simp
 | a::r,k,h,hk=>by
  obtain ⟨h1,h2⟩:=bp.mp h
  show (a::(r++[k])).Nodup
  refine bp.mpr ⟨λm=>?_,LM h2 λm=>hk (av.mpr (Or.inr m))⟩
  rcases aN.mp m with q|q
  ·exact h1 q
  ·exact hk (av.mpr (Or.inl (aA.mp q).symm))
def M0 {p:κ×V}{r:List (κ×V)}{k:κ}(e:p.1=k):nE (p::r) k=nE r k:=by
 unfold nE;rw [UH,if_neg (by simp [e])]
def EG {p:κ×V}{r:List (κ×V)}{k:κ}(e:¬ p.1=k):nE (p::r) k=p::nE r k:=by
 unfold nE;rw [UH,if_pos (by simp [e])]
theorem HJ:∀ {kvs:List (κ×V)}{k:κ},¬ k∈kvs.map (·.1)->nE kvs k=kvs
 | [],_,_=>rfl
 | p::r,k,h=>by
  have h':¬ k∈r.map (·.1):=λm=>by
   obtain ⟨q,hq,e⟩:=a6.mp m;exact h (a6.mpr ⟨q,av.mpr (Or.inr hq),e⟩)
  rw [EG λe=>h (a6.mpr ⟨p,av.mpr (Or.inl rfl),e⟩),HJ h']
end
end L2
namespace L2
def nu (cells:List (bh×af)):List (bh×jQ)->List (bh×af)->List (bh×af)
 | [],acc=>acc
 | (n,k)::r,acc=>nu cells r (if k == .free then (n,(cells.lookup n).getD 0)::acc else acc)
theorem uM {env:Ek}:∀ (names:List (bh×jQ)) (acc:List (bh×af)),(∀ n,(n,bJ)∈names->∃ c,env.cells.lookup n=some c) ->
  (forIn names acc λ(x:bh×jQ) (r:List (bh×af))=>(if x.2 == .free then (cellOf env x.1 >>= λc=>pure (jb ((x.1,c)::r))) else pure (jb r):SV (ForInStep (List (bh×af)))))=pure (nu env.cells names acc)
 | [],acc,_=>rfl
 | (n,k)::r,acc,h=>by
  rw [tN];have hr:∀ n,(n,bJ)∈r->∃ c,env.cells.lookup n=some c:=λn hn=>h n (aj _ hn)
  cases hk:k == bJ with
  | false =>
   simp only [hk,bV,if_false,pure_bind];rw [uM r acc hr]
   show _=pure (nu env.cells r (if k == bJ then _ else acc))
   rw [hk];rfl
  | true =>
   have e:k=.free:=by simpa using hk
   subst e;obtain ⟨c,hc⟩:=h n aw
   have e2:cellOf env n=pure c:=by unfold cellOf;rw [hc]
   simp only [hk,if_true,e2,pure_bind];rw [uM r _ hr]
   show _=pure (nu env.cells r (if bJ == bJ then (n,(env.cells.lookup n).getD 0)::acc else acc))
   rw [hc];rfl
def uN {scope:jB}{env:Ek}(h:∀ n,(n,bJ)∈scope.names->∃ c,env.cells.lookup n=some c):closureFor scope env=pure (nu env.cells scope.names []):=by
 have e:=uM (env:=env) scope.names [] h;unfold closureFor;rw [← bind_pure (pure (nu env.cells scope.names []):SV _),← e]
theorem kD {cells:List (bh×af)}{x:bh}{c:af}:∀ (names:List (bh×jQ)) (acc:List (bh×af)),(∀ n,(n,bJ)∈names->∃ c,cells.lookup n=some c) ->
  (nu cells names acc).lookup x=some c->cells.lookup x=some c\/acc.lookup x=some c
 | [],acc,_,h=>.inr h
 | (n,k)::r,acc,hf,h=>by
  have hr:∀ n,(n,bJ)∈r->∃ c,cells.lookup n=some c:=λn hn=>hf n (aj _ hn);unfold nu at h
  rcases kD r _ hr h with z|z
  ·exact .inl z
  ·cases hk:k == bJ with
   | false=>rw [hk] at z;exact .inr z
   | true =>
    have e:k=.free:=by simpa using hk
    subst e;obtain ⟨d,hd⟩:=hf n aw;rw [hk,if_pos rfl,hd] at z
    by_cases hx:x=n
    ·subst hx;rw [cG,beq_self_eq_true] at z;exact .inl (by rw [hd];exact z)
    ·rw [cG,beq_false_of_ne hx] at z;exact .inr z
theorem vE {cells:List (bh×af)}{x:bh}:∀ (names:List (bh×jQ)) (acc:List (bh×af)),((x,bJ)∈names\/∃ c,acc.lookup x=some c)->∃ c,(nu cells names acc).lookup x=some c
 | [],acc,h=>h.elim (λz=>nomatch z) λz=>z
 | (n,k)::r,acc,h=>by
  unfold nu;refine vE r _ ?_
  rcases h with z|⟨c,z⟩
  ·rcases av.mp z with e|z
   ·have e1:n=x:=(cB e).1.symm;have e2:k=.free:=(cB e).2.symm;subst e1 e2;exact .inr ⟨_,by rw [if_pos (by rfl),cG,beq_self_eq_true]⟩
   ·exact .inl z
  ·refine .inr ?_
   split
   ·rw [cG];cases x == n
    ·exact ⟨c,z⟩
    ·exact ⟨_,rfl⟩
   ·exact ⟨c,z⟩
theorem vF {env:Ek}{x:bh}{k:jQ}:∀ {names:List (bh×jQ)},
  (names.map λ(n,k)=>if (k == bJ && env.scope.kind == .function && env.kindOf n == some .cell) then (n,gG) else (n,k)).lookup x=some k ->
   ∃ k0,names.lookup x=some k0/\(k=k0\/(k0=.free/\k=.cell))
 | [],h=>by simp at h
 | (n,k1)::r,h=>by
  have ih:=@vF env x k r;have h:dF x ((if (k1 == bJ && env.scope.kind == .function && env.kindOf n == some .cell)=true then (n,gG) else (n,k1))::r.map λ(n,k)=>if (k == bJ && env.scope.kind == .function && env.kindOf n == some .cell) then (n,gG) else (n,k))=some k:=h
  by_cases hc:(k1 == bJ && env.scope.kind == .function && env.kindOf n == some .cell)=true
  ·rw [if_pos hc,cG] at h;rw [cG]
   have e:k1=.free:=by
    rw [gY,gY] at hc
    simpa using hc.1.1
   cases hx:x == n with
   | true=>rw [hx] at h;exact ⟨k1,rfl,.inr ⟨e,(aV h).symm⟩⟩
   | false=>rw [hx] at h;exact ih h
  ·rw [if_neg hc,cG] at h;rw [cG]
   cases hx:x == n with
   | true=>rw [hx] at h;exact ⟨k1,rfl,.inl (aV h).symm⟩
   | false=>rw [hx] at h;exact ih h
theorem yQ {env:Ek}{x:bh}:∀ {names:List (bh×jQ)},names.lookup x=some .free ->
  (names.map λ(n,k)=>if (k == bJ && env.scope.kind == .function && env.kindOf n == some .cell) then (n,gG) else (n,k)).lookup x=some .free \/
  (names.map λ(n,k)=>if (k == bJ && env.scope.kind == .function && env.kindOf n == some .cell) then (n,gG) else (n,k)).lookup x=some .cell
 | [],h=>by simp at h
 | (n,k1)::r,h=>by
  have ih:=@yQ env x r
  show dF x ((if (k1 == bJ && env.scope.kind == .function && env.kindOf n == some .cell)=true then (n,gG) else (n,k1))::r.map λ(n,k)=>if (k == bJ && env.scope.kind == .function && env.kindOf n == some .cell) then (n,gG) else (n,k))=some .free \/
   dF x ((if (k1 == bJ && env.scope.kind == .function && env.kindOf n == some .cell)=true then (n,gG) else (n,k1))::r.map λ(n,k)=>if (k == bJ && env.scope.kind == .function && env.kindOf n == some .cell) then (n,gG) else (n,k))=some .cell
  rw [cG] at h
  by_cases hc:(k1 == bJ && env.scope.kind == .function && env.kindOf n == some .cell)=true
  ·rw [if_pos hc,cG]
   cases hx:x == n with
   | true=>exact .inr rfl
   | false=>rw [hx] at h;exact ih h
  ·rw [if_neg hc,cG]
   cases hx:x == n with
   | true=>rw [hx] at h;exact .inl h
   | false=>rw [hx] at h;exact ih h
theorem mem_of_lookup {x:bh}{k:jQ}:∀ {names:List (bh×jQ)},names.lookup x=some k->(x,k)∈names
 | [],h=>by simp at h
 | (n,k1)::r,h=>by
  rw [cG] at h
  cases hx:x == n with
  | true =>
   rw [hx] at h
   have e:x=n:=by simpa using hx
   rw [e,aV h];exact aw
  | false=>rw [hx] at h;exact aj _ (mem_of_lookup h)
def FF (X:Cx) (N:List bh) (scope:jB) (s:ak) (H:Hp) (fp:List af):Cx where
 prog:=X.prog
 w:=X.w
 K:=X.K
 mg:=X.mg
 base:=X.base
 A:=X.A
 N:=N
 s₀:=s
 H₀:=H
 env:=compEnvC scope (nu X.env.cells scope.names []) s.heap.objs.size X.env
 outer:=X.stack
 stack:=X.stack
 ex:=fp
 fn:=λ_=>false
 calm:=X.calm
 pn:=[]
 xe:=λ_ _=>False
def CC (X:Cx) (scope:jB):List Nat->List bh->Prop
 | [],[]=>True
 | j::js,y::ys=>X.N[j]?=some y/\(X.env.kindOf y=some .cell\/X.env.kindOf y=some .free)/\scope.names.lookup y=some .free/\CC X scope js ys
 | _,_=>False
def HK (Z:St) (js:List Nat):St:=js.map λj=>(Z[j]?).join
theorem CC.len {X:Cx}{scope:jB}:∀ {js:List Nat}{ys:List bh},CC X scope js ys->js.length=ys.length
 | [],[],_=>rfl
 | _::_,_::_,h=>by rw [bT,bT,CC.len h.2.2.2]
 | [],_::_,h=>h.elim
 | _::_,[],h=>h.elim
theorem CC.get {X:Cx}{scope:jB}{Z:St}{y:bh}{v:V}:∀ {js:List Nat}{ys:List bh}{i:Nat},CC X scope js ys->ys[i]?=some y->(HK Z js)[i]?=some (some v) ->
  ∃ j:Nat,X.N[j]?=some y/\Z[j]?=some (some v)/\(X.env.kindOf y=some .cell\/X.env.kindOf y=some .free)/\scope.names.lookup y=some .free
 | [],[],i,_,e,_=>by simp at e
 | j::js,z::ys,0,h,e,q=>by
  simp only [iX,eW] at e;subst e;refine ⟨j,h.1,?_,h.2.1,h.2.2.1⟩
  have q':(Z[j]?).join=some v:=by simpa [HK] using q
  cases hj:Z[j]? with
  | none=>rw [hj] at q';simp at q'
  | some o=>rw [hj] at q';rw [← q'];rfl
 | j::js,z::ys,i+1,h,e,q=>CC.get (i:=i) h.2.2.2 (by simpa using e) (by simpa [HK] using q)
 | [],_::_,_,h,_,_=>h.elim
 | _::_,[],_,h,_,_=>h.elim
section
variable {X:Cx}{pins:List (af×ft)}{Z:St}{H:Hp}{s s':ak}{scope:jB}{fp:List af}
def Kj {N:List bh}(I:Inv X pins Z H s) (hf:∀ b∈fp,xH X pins H b) (hlt:∀ b∈fp,b<s.heap.objs.size) (hkind:scope.kind=.function) (hcell:∀ y∈scope.names,y.2≠.cell)
  (hfr:∀ n,(n,bJ)∈scope.names->∃ c,X.env.cells.lookup n=some c):(FF X N scope s H fp).Ok where
 mod:=I.mod
 kind:=hkind
 glob:=I.ok.glob
 blt:=I.ok.blt
 above:=ar _
 inj:=λx y c h1 h2=>I.ok.inj x y c ((kD _ _ hfr h1).resolve_right (by simp)) ((kD _ _ hfr h2).resolve_right (by simp))
 has:=λx hx=>by
  refine vE _ _ (.inl ?_)
  have key:∀ k,(k=gG\/k=bJ)->(relabel scope X.env).names.lookup x=some k->(x,bJ)∈scope.names:=λk hk e=>by
   obtain ⟨k0,e0,z⟩:=vF e
   rcases z with z|⟨z,_⟩
   ·subst z
    rcases hk with hk|hk
    ·subst hk;exact absurd rfl (hcell _ (mem_of_lookup e0))
    ·subst hk;exact mem_of_lookup e0
   ·subst z;exact mem_of_lookup e0
  rcases hx with hx|hx
  ·exact key _ (.inl rfl) hx
  ·exact key _ (.inr rfl) hx
 WV:=λx c h=>by cases h
 hd:=I.ok.hd
 frames:=I.ok.frames
 YF:=.inl rfl
 Zo:=λb hb=>⟨a9 (hlt b hb),λx c e=>(hf b hb).2.2.2.2.1 x c ((kD _ _ hfr e).resolve_right (by simp))⟩
 bs:=I.bs
 QR:=bf I.ok.QR I.sz
 NJ:=λb o e hb=>by
  rcases (hf b hb).2.2.2.1 with z|z
  ·exact I.ok.NJ b o e z
  ·exact absurd (br (aJ e) (bf I.ok.QR z)) (eL _)
 NC:=λb hb hs=>by
  rcases av.mp (I.Lm b hs) with z|z
  ·exact (hf b hb).2.1 z
  ·exact (hf b hb).2.2.1 z
 yD:=I.stack
 Uu:=I.Mz
def RX {own ys:List bh}{js:List Nat}{h1:cb}{tk:Nat}{m:bh->Option ai}(I:Inv X pins Z H s) (hf:∀ b∈fp,xH X pins H b) (hlt:∀ b∈fp,b<s.heap.objs.size) (hkind:scope.kind=.function)
  (hcell:∀ y∈scope.names,y.2≠.cell) (hfr:∀ n,(n,bJ)∈scope.names->∃ c,X.env.cells.lookup n=some c) (hc:CC X scope js ys)
  (hn:h1.Ns s.heap.objs.size m) (hk:∀ b o,s.heap.get? b=some o->h1.get? b=some o) :
  Inv (FF X (own++ys) scope s H fp) [] (ow own.length none++HK Z js) H { s with heap:=h1,toks:=tk }:=by
 have hcl:∀ x c,(nu X.env.cells scope.names []).lookup x=some c->X.env.cells.lookup x=some c:=λx c e=>(kD _ _ hfr e).resolve_right (by simp);refine ⟨Kj I hf hlt hkind hcell hfr,rfl,I.bare,Un.kept hk,⟨m,hn,λi x v e1 e2 e3=>?_⟩,λx c e=>?_,I.fresh,λx c e=>I.sE x c (hcl x c e),(λp hp=>nomatch hp),I.eC.kept hk,?_⟩
 ·have e1':(own++ys)[i]?=some x:=e1
  by_cases hi:i<own.length
  ·rw [fE (by simpa using hi)] at e2;rw [Lr] at e2
   split at e2
   ·cases aV e2
   ·cases e2
  ·have hi':own.length<=i:=mF hi;rw [dS hi'] at e1';rw [dS (by simpa using hi'),uI] at e2;obtain ⟨j,q1,q2,q3,q4⟩:=hc.get e1' e2;obtain ⟨m0,_,hl⟩:=I.loc
   obtain ⟨u,r,l⟩:=hl j x v q1 q2 (by
    rcases q3 with q3|q3
    ·exact .inr (.inl q3)
    ·exact .inr (.inr q3))
   refine ⟨u,r,.inr ⟨?_,?_⟩⟩
   ·rcases yQ (env:=X.env) q4 with z|z
    ·exact .inr z
    ·exact .inl z
   ·rcases l with ⟨k,_⟩|⟨_,c,hc1,hc2⟩
    ·rcases q3 with q3|q3<;>rw [k] at q3<;>cases aV q3
    ·obtain ⟨d,hd⟩:=vE (cells:=X.env.cells) (x:=x) scope.names [] (.inl (mem_of_lookup q4));have hd':=hcl x d hd;rw [hc1] at hd';cases aV hd';obtain ⟨o,ho,hod⟩:=hc2;exact ⟨c,hd,o,hk c o ho,hod⟩
 ·obtain ⟨v,o,ho,hod⟩:=I.cell x c (hcl x c e);exact ⟨v,o,hk c o ho,hod⟩
 ·show (ow own.length none++HK Z js).length=(own++ys).length
  rw [bu,bu,uI,HK,ag,hc.len]
def OO {N:List bh}{σ':St}{H':Hp}(I:Inv X pins Z H s) (hf:∀ b∈fp,xH X pins H b) (J:Inv (FF X N scope s H fp) [] σ' H' s'):Inv X pins Z H' s' :=
 I.YA (ch:=fp) J.os J.base J.eC J.bare λb hb=>⟨(hf b hb).2.2.2.1,(hf b hb).2.1,(hf b hb).2.2.2.2.1,(hf b hb).2.2.2.2.2⟩
end
section
variable {prog:aY}{w:bH}{A:bN}{R:JH->ak->Prop}{s:ak}
def FG {elt target iter:Expr}{ifs:List Expr}{scope:jB}{pos:kM}{it acc:ai}{env:Ek}(I:Nat->ak->Prop)
  (turn:∀ n s,I n s->aG (aM prog w) A (i9 it) (λr s₁=>match r with
   | none=>R (.ok .next) s₁
   | some v=>aG (aM prog w) A (xA target it v) (λ_ s₁'=>aG (aM prog w) A (JG target env v) (λ_ s₂ =>
     aG (aM prog w) A (forIn ifs true λc r=>if r=true then do let ok ← isTrue c env (eN c env);pure (jb ok) else pure (jb r)) (λok s₃ =>
      if ok=true then aG (aM prog w) A (eN elt env) (λx s₄ =>
       aG (aM prog w) A (call (.builtin "list.append") [acc,x]) (λ_ s₅=>∃ m,m<n/\I m s₅) (λ_ _=>False) s₄) (λ_ _=>False) s₃
      else ∃ m,m<n/\I m s₃) (λ_ _=>False) s₂) (λ_ _=>False) s₁') (λ_ _=>False) s₁) (λ_ _=>False) s)
  (n:Nat) (h:I n s) :
  km (aM prog w) A (.compLoop (.ListComp elt [⟨target,iter,ifs,0⟩] scope pos) 0 it acc env) R s:=by
 refine codeAny_loop rfl I (λn s hI=>?_) n h
 show aG _ A ((compTurn (.ListComp elt [⟨target,iter,ifs,0⟩] scope pos) 0 it acc env).onRaise (λx=>do noteFrame x env;theTreesLotGoes x)) _ _ s
 refine wpAny_noted ?_;rw [compTurn_list];refine ae (tH (ae (dH (turn n s hI) (λr s₁ h₁=>?_) λ_ _ h'=>h'.elim)))
 cases r with
 | none=>exact ao h₁
 | some v =>
  refine ae (dH h₁ (λ_ s₁' h₁'=>?_) λ_ _ h'=>h'.elim);refine ae (dH h₁' (λ_ s₂ h₂=>ae (dH h₂ (λok s₃ h₃=>?_) λ_ _ h'=>h'.elim)) λ_ _ h'=>h'.elim)
  cases ok with
  | false=>exact ao ⟨rfl,h₃⟩
  | true =>
   exact ae (ae (dH h₃ (λx s₄ h₄=>ae (dH h₄ (λ_ s₅ h₅=>ao (ao ⟨rfl,h₅⟩)) λ_ _ h'=>h'.elim)) λ_ _ h'=>h'.elim))
end
def OP (X:Cx) (ifs:List Expr) (t:TT):Prop :=
 ∀ (pins:List (af×ft)) (s:ak) (Z:St) (H:Hp) (Q:Bool->Hp->Prop),Inv X pins Z H s->t Z H Q ->
  aG (aM X.prog X.w) X.A (forIn ifs true λc r=>if r=true then do let ok ← isTrue c X.env (eN c X.env);pure (jb ok) else pure (jb r)) (TP X pins Z Q) X.xe s
def tj:TT:=λ_ H Q=>Q true H
def jX {X:Cx}:OP X [] tj:=λ_ _ _ H _ I h=>wpAny_tests_nil ⟨H,I,h⟩
def jY {X:Cx}{c:Expr}{t:TT}(h:PT X c t):OP X [c] t:=λpins s Z H Q I q=>wpAny_tests_one (h pins s Z H Q I q)
def jg (own:Nat) (js:List Nat) (wi:TI) (g:TG) (tt:TT) (te:TE):TE:=λZ H Q=>wi Z H λJ H1=>∀ acc,H1 acc=none ->
 ∃ W:Nat->Nat->List V->St->Hp->Prop,(∃ m,W 0 m [] (ow own none++HK Z js) (upd H1 acc (.lst [])))/\∀ i m ys σ' H',W i m ys σ' H'->H' acc=some (.lst ys) /\
  ((J.stop i H'/\Q (.ref acc) H')\/(J.go i H'/\∀ x H2,J.Hm i H' x H2->g x σ' H2 λσ2 H3=>tt σ2 H3 λb H4 =>
   if b=true then te σ2 H4 λy H5=>H5 acc=some (.lst ys)/\ys.length<aT/\∃ m',m'<m/\W (i+1) m' (ys++[y]) σ2 (upd H5 acc (.lst (ys++[y]))) else ∃ m',m'<m/\W (i+1) m' ys σ2 H4))
section
variable {X:Cx}
def HL {elt tg iter:Expr}{ifs:List Expr}{scope:jB}{pos:kM}{own ys:List bh}{js:List Nat}{wi:TI}{g:TG}{tt:TT}{te:TE}{pins:List (af×ft)}{s:ak}{Z:St}{H:Hp}{Q:VK}
  {use:Option (ai->SV Unit)}{Q':ai->ak->Prop}{p:kM}(hcalm:X.calm=true)
  (hi:PI X tg iter wi) (hkind:scope.kind=.function) (hcell:∀ y∈scope.names,y.2≠.cell) (hnames:∀ y∈scope.names,y.2=.local->scope.names.lookup y.1=some .local)
  (hfr:∀ n,(n,bJ)∈scope.names->∃ c,X.env.cells.lookup n=some c) (hc:CC X scope js ys)
  (hg:∀ s0 H0 fp,PG (FF X (own++ys) scope s0 H0 fp) tg g) (ht:∀ s0 H0 fp,OP (FF X (own++ys) scope s0 H0 fp) ifs tt) (he:∀ s0 H0 fp,PE (FF X (own++ys) scope s0 H0 fp) elt te)
  (I:Inv X pins Z H s) (h:jg own.length js wi g tt te Z H Q)
  (hu:∀ (D C:af) (H':Hp) (s':ak),Inv X pins Z H' s'->Q (.ref D) H'->xH X pins H' C->(∃ m,s'.heap.Ns C m)->compPost (aM X.prog X.w) X.A X.xe use Q' (.ref D) C (.ok .next) s')
  (hs:∀ x,sS iter X.env x=pure x) :
  aG (aM X.prog X.w) X.A (comprehension (.ListComp elt [⟨tg,iter,ifs,0⟩] scope pos) scope X.env p (newList []) false (eN iter X.env) use) Q' X.xe s:=by
 refine wpAny_comprehension_free (g:=⟨tg,iter,ifs,0⟩) (gs:=[]) rfl hs (uN hfr) hkind hnames (gP (hi pins s Z H _ I h) λv s1 h1=>gP h1 λitv s2 h2=>?_);obtain ⟨it,fp,tn,J,H2,e,I2,T,st2,f2,q⟩:=h2;subst e;refine cz (Wz hcell (by intro y hy;simp at hy) (λh₁ hns₁ hsb₁=>?_) hkind);dsimp only at hns₁ hsb₁ ⊢;have nD:H2 s2.heap.objs.size=none:=I2.fresh;have I3:Inv X pins Z (upd H2 s2.heap.objs.size (.lst [])) { s2 with heap:=s2.heap.push { cls:=.type "list",data:=.seq ([]:List ai).toArray },toks:=s2.toks }:=I2.YC (its:=[]) .nil (aQ _)
 have hlt2:∀ b∈fp,b<s2.heap.objs.size:=λb hb=>let ⟨o,e,_⟩:=T.obj _ _ st2 b hb;aJ e
 obtain ⟨W,⟨m0,w0⟩,turn⟩:=q _ nD;generalize hs3:({ s2 with heap:=s2.heap.push { cls:=.type "list",data:=.seq ([]:List ai).toArray },toks:=s2.toks }:ak)=s3 at I3
 have hh3:s2.heap.push { cls:=.type "list",dict:=none,data:=.seq ([]:List ai).toArray }=s3.heap:=by rw [← hs3]
 have hsz3:s3.heap.objs.size=s2.heap.objs.size+1:=by rw [← hh3,iW]
 have hlt3:∀ b∈fp,b<s3.heap.objs.size:=λb hb=>by rw [hsz3];exact qy (hlt2 b hb)
 have f3:∀ b∈fp,xH X pins (upd H2 s2.heap.objs.size (.lst [])) b:=λb hb=>⟨by rw [aH (a9 (hlt2 b hb))];exact (f2 b hb).1,(f2 b hb).2⟩
 have fC:xH X pins (upd H2 s2.heap.objs.size (.lst [])) s3.heap.objs.size:=I3.JE (ar _) I3.fresh;rw [hh3] at hns₁ hsb₁ ⊢;have hk3:∀ b o,s3.heap.get? b=some o->h₁.get? b=some o:=λb o e=>hsb₁.extBut b o (a9 (aJ e)) (au _ e)
 have es4:({ s2 with heap:=h₁,toks:=s2.toks+([]:List (bh×ai)).length }:ak)={ s3 with heap:=h₁,toks:=s2.toks+([]:List (bh×ai)).length }:=by rw [← hs3]
 have I4:=RX (own:=own) (h1:=h₁) (tk:=s2.toks+([]:List (bh×ai)).length) I3 f3 hlt3 hkind hcell hfr hc hns₁ hk3;have st4:tn 0 h₁:=T.keep _ _ _ st2 λb hb o e=>hk3 b o (by rw [← hh3];exact au _ e)
 have stat:∀ {H':Hp},(∀ b∈fp,H' b=none)->∀ b∈fp,xH (FF X (own++ys) scope s3 (upd H2 s2.heap.objs.size (.lst [])) fp) [] H' b:=λhn b hb =>
  ⟨hn b hb,a9 (hlt3 b hb),(Kj (N:=own++ys) I3 f3 hlt3 hkind hcell hfr).NC b hb,.inl hb,λx c e=>((Kj (N:=own++ys) I3 f3 hlt3 hkind hcell hfr).Zo b hb).2 x c e,λp hp=>nomatch hp⟩
 have J7:∀ s4:ak,s4={ s3 with heap:=h₁,toks:=s2.toks+([]:List (bh×ai)).length } ->
   km (aM X.prog X.w) X.A (.compLoop (.ListComp elt [⟨tg,iter,ifs,0⟩] scope pos) 0 (.ref it) (.ref s2.heap.objs.size) (compEnvC scope (nu X.env.cells scope.names []) s3.heap.objs.size X.env))
    (compPost (aM X.prog X.w) X.A X.xe use Q' (.ref s2.heap.objs.size) s3.heap.objs.size) s4:=by
  rintro s4 rfl
  refine FG (λn s'=>∃ i ys' σ' H',Inv (FF X (own++ys) scope s3 (upd H2 s2.heap.objs.size (.lst [])) fp) [] σ' H' s'/\tn i s'.heap/\(∀ b∈fp,H' b=none)/\W i n ys' σ' H') ?_ m0
   ⟨0,[],_,_,I4,st4,λb hb=>(f3 b hb).1,w0⟩
  rintro n s5 ⟨i,ys',σ5,H5,I5,st5,fr5,w5⟩;obtain ⟨hacc,rest⟩:=turn i n ys' σ5 H5 w5
  rcases rest with ⟨stop,qn⟩|⟨go,step⟩
  ·refine gP (T.done (FF X (own++ys) scope s3 (upd H2 s2.heap.objs.size (.lst [])) fp) rfl rfl rfl hcalm i [] s5 σ5 H5 _ I5 (stat fr5) st5 stop) λr s6 ⟨hr,I6⟩=>?_;subst hr;exact hu _ _ H5 s6 (OO I3 f3 I6) qn ⟨I6.free,fC.2⟩ (let ⟨m,hn,_⟩:=I6.loc;⟨m,hn⟩)
  ·refine gP (T.item (FF X (own++ys) scope s3 (upd H2 s2.heap.objs.size (.lst [])) fp) rfl rfl rfl hcalm i [] s5 σ5 H5 _ I5 (stat fr5) st5 go) λr s6 ⟨u,hr,h6⟩=>?_;subst hr;refine gP h6 λ_ s7 ⟨x,H7,I7,r7,y7,st7,fr7⟩=>?_;have I7':=I7.pinned (stat fr7) (T.obj _ _ st7);refine gP (hg _ _ _ _ s7 σ5 H7 x u _ I7' r7 (step x H7 y7)) λ_ s8 ⟨σ8,H8,I8,q8⟩=>?_;refine gP (ht _ _ _ _ s8 σ8 H8 _ I8 q8) λok s9 ⟨H9,I9,q9⟩=>?_
   have kept:∀ {s10:ak}{σ10:St}{H10:Hp},Inv (FF X (own++ys) scope s3 (upd H2 s2.heap.objs.size (.lst [])) fp) ([]++AM fp s7.heap) σ10 H10 s10 ->
     Inv (FF X (own++ys) scope s3 (upd H2 s2.heap.objs.size (.lst [])) fp) [] σ10 H10 s10/\tn (i+1) s10.heap/\∀ b∈fp,H10 b=none:=λ{s10 σ10 H10} I10=>by
    refine ⟨I10.xi,T.keep _ _ _ st7 λb hb o e=>(I10.pin (b,o) (bG _ (bG _ (pM hb e)))).1,λb hb=>?_⟩;obtain ⟨o,e,d⟩:=T.obj _ _ st7 b hb;exact (I10.pin (b,o) (bG _ (bG _ (pM hb e)))).2.1
   cases ok with
   | false =>
    simp only [bV,if_false] at q9 ⊢;obtain ⟨m',hm,w9⟩:=q9;obtain ⟨k1,k2,k3⟩:=kept I9
    exact ⟨m',hm,i+1,ys',σ8,H9,k1,k2,k3,w9⟩
   | true =>
    simp only [if_true] at q9 ⊢;refine gP (he _ _ _ _ s9 σ8 H9 _ I9 q9) λyv s10 ⟨y,H10,I10,r10,a10,l10,m',hm,w10⟩=>?_;refine gP (lC (X:=FF X (own++ys) scope s3 (upd H2 s2.heap.objs.size (.lst [])) fp) _ s10 σ8 H10 (.ref s2.heap.objs.size) [y] (.ref s2.heap.objs.size) [yv] (λv H'=>v=.non/\H'=upd H10 s2.heap.objs.size (.lst (ys'++[y]))) I10 rfl (.cons r10 .nil) ⟨_,_,_,rfl,rfl,a10,l10,rfl,rfl⟩) λ_ s11 ⟨_,H11,I11,_,_,e11⟩=>?_;subst e11;obtain ⟨k1,k2,k3⟩:=kept I11;exact ⟨m',hm,i+1,_,σ8,_,k1,k2,k3,w10⟩
 have fin:=codeAny_compStart_list (R:=compPost (aM X.prog X.w) X.A X.xe use Q' (.ref s2.heap.objs.size) s3.heap.objs.size) (J7 _ rfl) (T.self X.A 0 { s3 with heap:=h₁,toks:=s2.toks+([]:List (bh×ai)).length } _ _ st4 (J7 _ rfl));rw [← hs3] at fin ⊢;exact fin
def qZ {pins:List (af×ft)}{Z:St}{H:Hp}{s:ak}{scope:jB}(I:Inv X pins Z H s) (h:(scope.names.all λy=>y.2 != .free || X.env.kindOf y.1 == some .cell || X.env.kindOf y.1 == some .free)=true) :
  ∀ n,(n,bJ)∈scope.names->∃ c,X.env.cells.lookup n=some c:=λn hn=>by
 have q:=UI.mp h _ hn;simp only [bne_self_eq_false,Bool.false_or,Bool.or_eq_true,beq_iff_eq] at q;exact I.ok.has n q
def iR {elt tg iter:Expr}{ifs:List Expr}{scope:jB}{pos:kM}(own:List bh) {ys:List bh}(js:List Nat) {wi:TI}{g:TG}{tt:TT}{te:TE}(hcalm:X.calm=true)
  (hi:PI X tg iter wi) (hc:CC X scope js ys)
  (hg:∀ s0 H0 fp,PG (FF X (own++ys) scope s0 H0 fp) tg g) (ht:∀ s0 H0 fp,OP (FF X (own++ys) scope s0 H0 fp) ifs tt) (he:∀ s0 H0 fp,PE (FF X (own++ys) scope s0 H0 fp) elt te)
  (hfr:(scope.names.all λy=>y.2 != .free || X.env.kindOf y.1 == some .cell || X.env.kindOf y.1 == some .free)=true:=by rfl)
  (hkind:scope.kind=.function:=by rfl) (hcell:∀ y∈scope.names,y.2≠.cell:=by decide +kernel) (hnames:∀ y∈scope.names,y.2=.local->scope.names.lookup y.1=some .local:=by decide +kernel)
  (hs:∀ x,sS iter X.env x=pure x:=by intro _;rfl):PE X (.ListComp elt [⟨tg,iter,ifs,0⟩] scope pos) (jg own.length js wi g tt te):=by
 intro pins s Z H Q I h;rw [eval_ListComp];refine HL (use:=none) hcalm hi hkind hcell hnames (qZ I hfr) hc hg ht he I h (λD C H' s' I' q fC ⟨m,hn⟩=>⟨m,hn,λh' hs'=>⟨.ref D,H',?_,rfl,q⟩⟩) hs;exact I'.turned (t':=s'.toks) (λb o hb e=>(hs'.2 b hb).trans e) fC.1 fC.2.1 fC.2.2.2.1 fC.2.2.2.2.1 fC.2.2.2.2.2
def vG {elt tg iter:Expr}{ifs:List Expr}{scope:jB}{pos spos py:kM}{i:Nat}{y:bh}(own:List bh) {ys:List bh}(js:List Nat) {wi:TI}{g:TG}{tt:TT}{te:TE}(hcalm:X.calm=true)
  (hN:X.N.Nodup) (hy:X.N[i]?=some y) (hl:X.env.scope.names.lookup y=some .local)
  (hi:PI X tg iter wi) (hc:CC X scope js ys)
  (hg:∀ s0 H0 fp,PG (FF X (own++ys) scope s0 H0 fp) tg g) (ht:∀ s0 H0 fp,OP (FF X (own++ys) scope s0 H0 fp) ifs tt) (he:∀ s0 H0 fp,PE (FF X (own++ys) scope s0 H0 fp) elt te)
  (hfr:(scope.names.all λy=>y.2 != .free || X.env.kindOf y.1 == some .cell || X.env.kindOf y.1 == some .free)=true:=by rfl)
  (hsw:Av (.ListComp elt [⟨tg,iter,ifs,0⟩] scope pos) (some (.Name y py)) spos.line X.env=pure true:=by rfl)
  (hkind:scope.kind=.function:=by rfl) (hcell:∀ y∈scope.names,y.2≠.cell:=by decide +kernel) (hnames:∀ y∈scope.names,y.2=.local->scope.names.lookup y.1=some .local:=by decide +kernel)
  (hs:∀ x,sS iter X.env x=pure x:=by intro _;rfl) :
  PS X (.Assign [.Name y py] (.ListComp elt [⟨tg,iter,ifs,0⟩] scope pos) spos) (dh (jg own.length js wi g tt te) (bo i)):=by
 intro pins s Z H D I h;rw [exec_Assign_Name_used _ _ _ _ hsw];refine ae (tH (ae ?_))
 show aG _ X.A (do let _ ← comprehension (.ListComp elt [⟨tg,iter,ifs,0⟩] scope pos) scope X.env _ (newList []) false (eN iter X.env) (some (JG (.Name y py) X.env))) _ _ s
 refine ae (dH (HL (Q:=λx H1=>bo i x Z H1 D.nx) (Q':=λ_ s'=>SP X pins D .next s') (use:=some (JG (.Name y py) X.env)) hcalm hi hkind hcell hnames (qZ I hfr) hc hg ht he I h (λDd C H' s' I' q fC ⟨m,hn⟩=>?_) hs) (λ_ s' hq=>ao (ao hq)) λ_ _ e=>e)
 show aG _ X.A (JG (.Name y py) X.env (.ref Dd)) _ _ _
 refine wpAny_assign_Name (Ep (v:=.ref Dd) I' hN hy (.inl hl) rfl (λs'' I'' ⟨a,sb,ha⟩=>?_) (.inr hl))
 have hCa:C≠a:=by
  rcases ha with z|z
  ·rw [z];exact fC.2.1
  ·exact Ne.symm (fC.2.2.2.2.1 _ _ z)
 refine ⟨m,hn.sameBut sb hCa,λh' hs'=>?_⟩;exact ⟨_,H',I''.turned (t':=s''.toks) (λb o hb e=>(hs'.2 b hb).trans e) fC.1 fC.2.1 fC.2.2.2.1 fC.2.2.2.2.1 fC.2.2.2.2.2,q⟩
end
end L2
namespace L2
mutual
def Rep (K:aa) (H:Hp):PyData->V->Prop
 | .none,v=>v=.non
 | .bool b,v=>v=.bl b
 | .int i,v=>v=.int i
 | .str x,v=>v=.str x
 | .list ds,v=>∃ a xs,v=.ref a/\c9 K H a xs/\eF K H ds xs
 | .tuple ds,v=>∃ a xs,v=.ref a/\ku K H a xs/\eF K H ds xs
 | .dict _,_=>False
def eF (K:aa) (H:Hp):List PyData->List V->Prop
 | [],vs=>vs=[]
 | d::ds,vs=>∃ v r,vs=v::r/\Rep K H d v/\eF K H ds r
end
section
variable {X:Cx}{pins:List (af×ft)}{Z:St}{H:Hp}{s:ak}
mutual
theorem Rep.reads (I:Inv X pins Z H s):∀ (d:PyData) (v:V) (u:ai),Rep X.K H d v->RelV v u->∃ as,Reads s.heap u d as
 | .none,v,u,h,r=>by
  cases (show v=.non by simpa only [Rep] using h)
  cases (show u=eQ from r);exact ⟨_,.none⟩
 | .bool b,v,u,h,r=>by
  cases (show v=.bl b by simpa only [Rep] using h)
  cases (show u=sG b from r);exact ⟨_,.bool b⟩
 | .int i,v,u,h,r=>by
  cases (show v=.int i by simpa only [Rep] using h)
  obtain ⟨t,rfl⟩:=(show ∃ t,u=fj i t from r);exact ⟨_,.int i t⟩
 | .str x,v,u,h,r=>by
  cases (show v=.str x by simpa only [Rep] using h)
  obtain ⟨t,rfl⟩:=(show ∃ t,u=qF x t from r);exact ⟨_,.str x t⟩
 | .list ds,v,u,h,r=>by
  obtain ⟨a,xs,rfl,hq,ha⟩:=(show ∃ a xs,v=.ref a/\c9 X.K H a xs/\eF X.K H ds xs by simpa only [Rep] using h)
  cases (show u=aD a from r);obtain ⟨its,rv,⟨o,n,e1,e2,_,e3⟩,_⟩:=I.list hq;obtain ⟨as,ra⟩:=eF.reads I ds xs its ha rv
  exact ⟨_,.list e1 e2 e3 (by simpa using ra)⟩
 | .tuple ds,v,u,h,r=>by
  obtain ⟨a,xs,rfl,hq,ha⟩:=(show ∃ a xs,v=.ref a/\ku X.K H a xs/\eF X.K H ds xs by simpa only [Rep] using h)
  cases (show u=aD a from r);obtain ⟨its,rv,⟨o,e1,e2,n,e3⟩,_⟩:=I.tuple hq;obtain ⟨as,ra⟩:=eF.reads I ds xs its ha rv
  exact ⟨_,.tuple e1 e2 e3 (by simpa using ra)⟩
 | .dict _,v,u,h,r=>absurd h (by simp only [Rep];exact λz=>z)
theorem eF.reads (I:Inv X pins Z H s):∀ (ds:List PyData) (vs:List V) (us:List ai),eF X.K H ds vs->Vals vs us->∃ as,ReadsAll s.heap us ds as
 | [],vs,us,h,r=>by
  cases (show vs=[] by simpa only [eF] using h)
  cases r;exact ⟨_,.nil⟩
 | d::ds,vs,us,h,r=>by
  obtain ⟨v,rr,rfl,h1,h2⟩:=(show ∃ v r,vs=v::r/\Rep X.K H d v/\eF X.K H ds r by simpa only [eF] using h)
  cases r with
  | cons ru rs =>
   obtain ⟨as,r1⟩:=Rep.reads I d v _ h1 ru;obtain ⟨bs,r2⟩:=eF.reads I ds rr _ h2 rs;exact ⟨_,.cons r1 r2⟩
end
end
def bL.Wt {K:aa}{H H':Hp}{a:af}{xs:List V}(e:bL H H') (h:ku K H a xs):ku K H' a xs:=by
 rcases h with (h|⟨o,h⟩)|h
 ·exact .inl (.inl (e _ _ h))
 ·exact .inl (.inr ⟨o,e _ _ h⟩)
 ·exact .inr h
def eF.cons {K:aa}{H:Hp}{d:PyData}{v:V}{ds:List PyData}{vs:List V}(h1:Rep K H d v) (h2:eF K H ds vs):eF K H (d::ds) (v::vs):=by
 simp only [eF];exact ⟨v,vs,rfl,h1,h2⟩
def eF.nil {K:aa}{H:Hp}:eF K H [] []:=by simp only [eF]
def Rep.int {K:aa}{H:Hp}(i:Int):Rep K H (.int i) (.int i):=by simp only [Rep]
def Rep.lst {K:aa}{H:Hp}{a:af}{xs:List V}{ds:List PyData}(h:c9 K H a xs) (r:eF K H ds xs):Rep K H (.list ds) (.ref a):=by
 simp only [Rep];exact ⟨a,xs,rfl,h,r⟩
def Rep.tup {K:aa}{H:Hp}{a:af}{xs:List V}{ds:List PyData}(h:ku K H a xs) (r:eF K H ds xs):Rep K H (.tuple ds) (.ref a):=by
 simp only [Rep];exact ⟨a,xs,rfl,h,r⟩
theorem eF.ints {K:aa}{H:Hp}:∀ (ns:List Int),eF K H (ns.map .int) (ns.map V.int)
 | []=>eF.nil
 | n::ns=>eF.cons (Rep.int n) (eF.ints ns)
section
variable {X:Cx}
structure zH (d:PyData):Prop where
 lay:d.canLay0=true
 dep:d.depth<=60
def RY (K:aa) (neg:Bool):R2:=λx y H Q=>∃ dx dy,Rep K H dx x/\Rep K H dy y/\zH dx/\zH dy/\Q (.bl (if neg then !PyData.eqv dx dy else dY dx dy)) H
def Vl (hu:X.A.units+64<gO):qc X (df .Eq) (RY X.K false):=by
 intro pins s Z H x y v u Q I rx ry h;obtain ⟨dx,dy,h1,h2,f1,f2,q⟩:=h;obtain ⟨as,r1⟩:=Rep.reads I dx x v h1 rx;obtain ⟨bs,r2⟩:=Rep.reads I dy y u h2 ry;have:=f1.dep;exact SeqAt.compareEq_reads r1 r2 f1.lay f2.lay (bw (yH (bf (W5 _ _) (bf f1.dep (by decide))) _) hu) ⟨.bl _,H,I,rfl,q⟩
def Vm (hu:X.A.units+64<gO):qc X (df .NotEq) (RY X.K true):=by
 intro pins s Z H x y v u Q I rx ry h;obtain ⟨dx,dy,h1,h2,f1,f2,q⟩:=h;obtain ⟨as,r1⟩:=Rep.reads I dx x v h1 rx;obtain ⟨bs,r2⟩:=Rep.reads I dy y u h2 ry;exact SeqAt.compareNe_reads r1 r2 f1.lay f2.lay (bw (yH (bf (W5 _ _) (bf f1.dep (by decide))) _) hu) ⟨.bl _,H,I,rfl,q⟩
def kr (K:aa):R2:=λx y H Q=>rEq x y H Q\/RY K false x y H Q
def C3 (K:aa):R2:=λx y H Q=>rNe x y H Q\/RY K true x y H Q
def lD (hu:X.A.units+64<gO):qc X (df .Eq) (kr X.K):=Xj.or (Vl hu)
def OQ (hu:X.A.units+64<gO):qc X (df .NotEq) (C3 X.K):=Xk.or (Vm hu)
def Vn (K:aa) (neg:Bool):R2:=λx y H Q=>∃ d ds,Rep K H d x/\(Rep K H (.list ds) y\/Rep K H (.tuple ds) y)/\zH d/\iu ds=true/\Q (.bl (if neg then !(ds.any λe=>dY e d) else ds.any λe=>dY e d)) H
def Vo (hu:X.A.units+64<gO):qc X (df .In) (Vn X.K false):=by
 intro pins s Z H x y v u Q I rx ry h;obtain ⟨d,ds,h1,h2,f1,f2,q⟩:=h;obtain ⟨as,r1⟩:=Rep.reads I d x v h1 rx;have hb:X.A.units+1+min (jl ds) d.depth<gO:=bw (by have:=f1.dep;lia) hu
 rcases h2 with h2|h2
 ·obtain ⟨bs,r2⟩:=Rep.reads I _ y u h2 ry;exact SeqAt.in_list_reads r2 r1 f2 f1.lay hb ⟨.bl _,H,I,rfl,q⟩
 ·obtain ⟨bs,r2⟩:=Rep.reads I _ y u h2 ry;exact SeqAt.in_tuple_reads r2 r1 f2 f1.lay hb ⟨.bl _,H,I,rfl,q⟩
def M1 (hu:X.A.units+64<gO):qc X (df .NotIn) (Vn X.K true):=by
 intro pins s Z H x y v u Q I rx ry h;obtain ⟨d,ds,h1,h2,f1,f2,q⟩:=h;obtain ⟨as,r1⟩:=Rep.reads I d x v h1 rx;have hb:X.A.units+1+min (jl ds) d.depth<gO:=bw (by have:=f1.dep;lia) hu
 rcases h2 with h2|h2
 ·obtain ⟨bs,r2⟩:=Rep.reads I _ y u h2 ry;exact SeqAt.notIn_list_reads r2 r1 f2 f1.lay hb ⟨.bl _,H,I,rfl,q⟩
 ·obtain ⟨bs,r2⟩:=Rep.reads I _ y u h2 ry;exact SeqAt.notIn_tuple_reads r2 r1 f2 f1.lay hb ⟨.bl _,H,I,rfl,q⟩
def Vp (neg:Bool):R2:=λy x H Q=>∃ a o,x=.ref a/\oh H a y o/\Q (.bl (if neg then !o.isSome else o.isSome)) H
def Vq (hu:X.A.units+64<gO):qc X (df .In) (Vp false):=by
 intro pins s Z H y x iv u Q I ry rx h;obtain ⟨a,o,rfl,g,q⟩:=h;cases rx
 exact ZU (bw (by lia) hu) I g ry λs' I'=>⟨.bl _,H,I',rfl,q⟩
def M3 (hu:X.A.units+64<gO):qc X (df .NotIn) (Vp true):=by
 intro pins s Z H y x iv u Q I ry rx h;obtain ⟨a,o,rfl,g,q⟩:=h;cases rx
 exact RV (bw (by lia) hu) I g ry λs' I'=>⟨.bl _,H,I',rfl,q⟩
def AZ (K:aa) (neg:Bool):R2:=λx y H Q=>Vn K neg x y H Q\/Vp neg x y H Q
def OR (hu:X.A.units+64<gO):qc X (df .In) (AZ X.K false):=(Vo hu).or (Vq hu)
def M4 (hu:X.A.units+64<gO):qc X (df .NotIn) (AZ X.K true):=(M1 hu).or (M3 hu)
def eK:R2:=λx y H Q=>nY (λi j=>.int (i+j)) x y H Q\/Xn x y H Q
def jF:qc X (qH .Add) eK:=U6.or Vh
def Xq:R2:=λx y H Q=>∃ a v,x=.ref a/\oh H a y (some v)/\Q v H
def RZ (hu:X.A.units+64<gO):SS X Xq:=by
 intro value slice pins s Z H x y v u Q I rx ry h hs;obtain ⟨a,z,rfl,g,q⟩:=h;cases rx;exact tail_any (HF I g) Fg.lookup (EE (bw (by lia) hu) I g ry λw' s' I' r'=>⟨z,H,I',r',q⟩) hs
def dz (K:aa):R2:=λx y H Q=>(Xl K x y H Q\/Xm K x y H Q)\/Xq x y H Q
def Vr (hu:X.A.units+64<gO):SS X (dz X.K):=(RU.or Ve).or (RZ hu)
def Tv:V->V->V->Hp->(Hp->Prop)->Prop:=λo i v H Q=>∃ a H',o=.ref a/\tF H a i v H'/\Q H'
def set_dict (hu:X.A.units+64<gO):RC X Tv:=by
 intro pins s Z H o i v ov iv u Q I ro ri rv h;obtain ⟨a,H',rfl,g,q⟩:=h;cases ro
 exact EF (bw (by lia) hu) I g ri rv λs' I'=>⟨H',I',q⟩
def oF:V->V->V->Hp->(Hp->Prop)->Prop:=λo i v H Q=>Tq o i v H Q\/Tv o i v H Q
def Xr (hu:X.A.units+64<gO):RC X oF:=by
 intro pins s Z H o i v ov iv u Q I ro ri rv h
 rcases h with h|h
 ·exact OH pins s Z H o i v ov iv u Q I ro ri rv h
 ·exact set_dict hu pins s Z H o i v ov iv u Q I ro ri rv h
def uO (K:aa):List V->Hp->VK->Prop:=λxs H Q=>(∃ p ys,xs=[.ref p]/\(c9 K H p ys\/ku K H p ys)/\Q (.int ys.length) H)\/(∃ a kvs,xs=[V.ref a]/\H a=some (.dK kvs)/\Q (.int kvs.length) H)
def xO:mv X (.builtin "len") (uO X.K):=FB.or MZ
def FH (K:aa):List V->Hp->VK->Prop:=λxs H Q=>∃ x T t b,xs=[x,.ty T]/\vw K H x t/\iM K t (.type T)=some b/\Q (.bl b) H
def A1:mv X (.builtin "isinstance") (FH X.K):=by
 intro pins s Z H xs us Q I r h;obtain ⟨x,T,t,b,rfl,ty,e,q⟩:=h;obtain ⟨u,w',rfl,ru,rw'⟩:=vals2 r;cases (show w'=eS T from rw')
 exact MV I ru ty e λtk=>⟨.bl b,H,I.tok tk,rfl,q⟩
def Inv.NK {pins:List (af×ft)}{Z:St}{H:Hp}{s:ak}(I:Inv X pins Z H s):∃ m,Fr X.base X.env.locals s.heap m/\News X.base X.env.locals s.heap (sJ X.base s.heap X.env.locals) :=
 let ⟨m,F⟩:=I.fr
 ⟨m,F,Ol⟩
end
end L2
namespace L2
section
variable {Z:St}{H:Hp}{Q:VK}{D:qO}{ta tb te:TE}{t u:TS}{c c':TT}{tA:TA}{QT:Bool->Hp->Prop}{QA:List V->Hp->Prop}
def HM (h:t { D with nx:=u D } Z H):bP t u D Z H:=h
def Xs {g:TG}(h:te Z H λx H1=>g x Z H1 D.nx):dh te g D Z H:=h
def FI {i:Nat}{v:V}{R:St->Hp->Prop}(h:R (Z.set i (some v)) H):bo i v Z H R:=h
def Vs {to ti:TE}{ts:RB}{v:V}{R:St->Hp->Prop}(h:to Z H λo H1=>ti Z H1 λi H2=>ts o i v H2 λH3=>R Z H3):zE to ti ts v Z H R:=h
def OS {i:Nat}{v:V}(h:Z[i]?=some (some v)) (k:Q v H):aq i Z H Q:=⟨v,h,k⟩
def x_c {v:V}(k:Q v H):tC v Z H Q:=k
def ZW {r:R2}(h:ta Z H λx H1=>tb Z H1 λy H2=>r x y H2 Q):cn r ta tb Z H Q:=h
def ZX {r:V->Hp->VK->Prop}(h:ta Z H λx H1=>r x H1 Q):ZQ r ta Z H Q:=h
def Xt (h:te Z H D.rt):eV te D Z H:=h
def Vt (h:te Z H λ_ H1=>D.nx Z H1):fe te D Z H:=h
def Vu (h:D.nx Z H):fk D Z H:=h
def Xu (h:c Z H λb H1=>if b=true then t D Z H1 else u D Z H1):iE c t u D Z H:=h
def ZY (h:c Z H λb H1=>if b=true then ta Z H1 Q else tb Z H1 Q):WS c ta tb Z H Q:=h
def Vv (h:te Z H λx H'=>∃ k,x=.bl k/\QT k H'):cS te Z H QT:=h
def Xv (h:c Z H λb H1=>if b=true then c' Z H1 QT else QT false H1):qA c c' Z H QT:=h
def ZZ (h:c Z H λb H1=>if b=true then QT true H1 else c' Z H1 QT):Fo c c' Z H QT:=h
def Xw (h:c Z H λb H1=>QT (!b) H1):pK c Z H QT:=h
def Vw (h:ta Z H λx H1=>∃ c,x=.bl c/\if c=true then tb Z H1 Q else Q (.bl false) H1):Er ta tb Z H Q:=h
def Vx (h:ta Z H λx H1=>∃ c,x=.bl c/\Q (.bl (!c)) H1):LB ta Z H Q:=h
def Xx (h:QT true H):tj Z H QT:=h
def Xy (h:QA [] H):bj Z H QA:=h
def Vy (h:te Z H λx H1=>tA Z H1 λxs H2=>QA (x::xs) H2):aB te tA Z H QA:=h
def Xz (h:tA Z H λxs H1=>xs.length<=aT/\∀ p,H1 p=none->Q (.ref p) (upd H1 p (.tup xs))):mV tA Z H Q:=h
def XA (h:tA Z H λxs H1=>xs.length<=aT/\∀ p,H1 p=none->Q (.ref p) (upd H1 p (.lst xs))):zF tA Z H Q:=h
def Vz {sp:Sp}{dvs:List V}{E:XK}(h:tA Z H λvs H1=>sp (vs++dvs) H1 Q E):cV sp dvs E tA Z H Q:=h
def Z0 {r:List V->Hp->VK->Prop}(h:tA Z H λvs H1=>r vs H1 Q):qB r tA Z H Q:=h
def Z6 {K:aa}{T:String}{r:V->List V->Hp->VK->Prop}{to:TE}(h:to Z H λx H1=>ZT K T x H1/\tA Z H1 λxs H2=>r x xs H2 Q):C2 K T r to tA Z H Q:=h
def Z7 {r:V->Option Int->Option Int->Hp->VK->Prop}{tl th:TO}(h:te Z H λx H1=>tl Z H1 λl H2=>th Z H2 λu H3=>r x l u H3 Q):yM r te tl th Z H Q:=h
def OT {R:Option Int->Hp->Prop}(h:R none H):eX Z H R:=h
def VA {R:Option Int->Hp->Prop}(h:te Z H λx H1=>∃ i,x=.int i/\R (some i) H1):hZ te Z H R:=h
def XB {g:Int->Int->V}{i j:Int}(h:Q (g i j) H):nY g (.int i) (.int j) H Q:=⟨i,j,rfl,rfl,h⟩
def Z8 {C:Int->Int->Prop}{g:Int->Int->V}{i j:Int}(hc:C i j) (h:Q (g i j) H):rI C g (.int i) (.int j) H Q:=⟨i,j,rfl,rfl,hc,h⟩
def VB {i j:Int}(h:Q (.int (i+j)) H):eK (.int i) (.int j) H Q:=.inl ⟨i,j,rfl,rfl,h⟩
def XC {K:aa}{i j:Int}(h:Q (.bl (decide (V.int i=V.int j))) H):kr K (.int i) (.int j) H Q:=.inl ⟨rfl,h⟩
def XD {K:aa}{i j:Int}(h:Q (.bl (!decide (V.int i=V.int j))) H):C3 K (.int i) (.int j) H Q:=.inl ⟨rfl,h⟩
def lu {K:aa}{p:af}{xs:List V}{i:Int}{v:V}(h:c9 K H p xs) (e:N4 xs i=some v) (k:Q v H):dz K (.ref p) (.int i) H Q:=.inl (.inl ⟨p,xs,i,v,rfl,rfl,h,e,k⟩)
def fO {K:aa}{p:af}{xs:List V}{i:Int}{v:V}(h:ku K H p xs) (e:N4 xs i=some v) (k:Q v H):dz K (.ref p) (.int i) H Q:=.inl (.inr ⟨p,xs,i,v,rfl,rfl,h,e,k⟩)
def pP {K:aa}{p:af}{xs:List V}(h:c9 K H p xs) (k:Q (.int xs.length) H):uO K [.ref p] H Q:=.inl ⟨p,xs,rfl,.inl h,k⟩
def VC {K:aa}{p:af}{xs:List V}(h:ku K H p xs) (k:Q (.int xs.length) H):uO K [.ref p] H Q:=.inl ⟨p,xs,rfl,.inr h,k⟩
def rg {l:af}{xs:List V}{y:V}(h:H l=some (.lst xs)) (hl:xs.length<aT) (k:Q .non (upd H l (.lst (xs++[y])))):kg (.ref l) [y] H Q:=⟨l,xs,y,rfl,rfl,h,hl,k⟩
def OU {p:af}{xs:List V}{k:Int}{j:Nat}{v:V}{R:Hp->Prop}(h:H p=some (.lst xs)) (e:N3 xs.length k=some j) (q:R (upd H p (.lst (xs.set j v)))):oF (.ref p) (.int k) v H R:=.inl ⟨p,xs,k,j,rfl,rfl,h,e,q⟩
def qf {p A B:Prop} [Decidable p] (h1:p->A) (h2:¬ p->B):if decide p=true then A else B:=by
 by_cases h:p
 ·rw [if_pos (decide_eq_true h)];exact h1 h
 ·rw [if_neg (by rw [decide_eq_false h];decide)];exact h2 h
def M5 {p A B:Prop} [Decidable p] (h1:¬ p->A) (h2:p->B):if (!decide p)=true then A else B:=by
 by_cases h:p
 ·rw [if_neg (by rw [decide_eq_true h];decide)];exact h2 h
 ·rw [if_pos (by rw [decide_eq_false h];decide)];exact h1 h
def lE {i j:Int}:(V.int i=V.int j)↔i=j:=⟨λh=>by injection h,λh=>by rw [h]⟩
end
end L2
namespace BootT
open PySem
def len:dC "len"=some (.builtin "len"):=by decide +kernel
def uP:dC "isinstance"=some (.builtin "isinstance"):=by decide +kernel
def A2:dC "sorted"=some (.builtin "sorted"):=by decide +kernel
def min:dC "min"=some (.builtin "min"):=by decide +kernel
def max:dC "max"=some (.builtin "max"):=by decide +kernel
def int:dC "int"=some (.type "int"):=by decide +kernel
def bool:dC "bool"=some (.type "bool"):=by decide +kernel
def list:dC "list"=some (.type "list"):=by decide +kernel
def tuple:dC "tuple"=some (.type "tuple"):=by decide +kernel
end BootT
namespace L2
def EH:List V->Hp->VK->Prop:=λxs H Q=>∃ i j,xs=[.int i,.int j]/\Q (.int (if j<i then j else i)) H
def HN:List V->Hp->VK->Prop:=λxs H Q=>∃ i j,xs=[.int i,.int j]/\Q (.int (if j>i then j else i)) H
def lh (K:aa) (ta:TE):TT:=λZ H Q=>ta Z H λx H'=>∃ k,RJ K x H' k/\Q k H'
def XE {K:aa}{ta:TE}{Z:St}{H:Hp}{Q:Bool->Hp->Prop}(h:ta Z H λx H'=>∃ k,RJ K x H' k/\Q k H'):lh K ta Z H Q:=h
section
variable {X:Cx}{a:Expr}{ta:TE}
def OV (ha:PE X a ta) (he:∀ whole,isTrue a X.env whole=(do let v ← whole;sR a.pos;kj [v] (truthy v))):PT X a (lh X.K ta):=Ox ha he
end
def Z9 (a:af) (kvs:List (fT×V)) (o:ft):It :=
 ⟨λi H=>i<kvs.length/\H a=some (.frz o (.dK kvs)),λi H x H'=>H'=H/\∃ k v,kvs[i]?=some (k,v)/\x=kV k,λi H=>kvs.length<=i/\H a=some (.frz o (.dK kvs))⟩
def VD {k:fT}{u:ai}(h:vq k u=true):RelV (kV k) u:=by
 rcases fM h with ⟨i,t,rfl,rfl⟩|⟨x,t,rfl,rfl⟩
 ·exact ⟨t,rfl⟩
 ·exact ⟨t,rfl⟩
def KV.get {kvs:List (fT×V)}{vs:List (fT×ai)}(r:KV kvs vs) {i:Nat}{k:fT}{v:V}(e:kvs[i]?=some (k,v)):∃ u,vs[i]?=some (k,u)/\RelV v u:=by
 unfold KV at r
 induction r generalizing i with
 | nil=>simp at e
 | @cons p q ps qs h t ih =>
  cases i with
  | zero =>
   simp at e;subst e;obtain ⟨q1,q2⟩:=q;obtain ⟨h1,h2⟩:=h;simp only at h1 h2;subst h1
   exact ⟨q2,rfl,h2⟩
  | succ i =>
   obtain ⟨u,e1,e2⟩:=ih (by simpa using e);exact ⟨u,by simpa using e1,e2⟩
def M6 {P:aY}{w:bH}{K:aa}{tg:Expr}(a it:af) (o:ft) (kvs:List (fT×V)) (vs:List (fT×ai)) (ep:Nat) (rel:KV kvs vs)
  (od:∀ h:cb,h.get? a=some o->h.DictAt (ee P w) a vs ep):J2 P w K tg (Z9 a kvs o) [it] it (λi h=>h.IsKeyIter it a i vs.length ep) where
 mem:=by simp
 obj:=λi h st b hb=>by
  have e:b=it:=by simpa using hb
  subst e;obtain ⟨o,e,c,d⟩:=st;exact ⟨o,e,λv z=>by rw [d] at z;cases z⟩
 keep:=λi h h' st k=>st.at λo e=>k it (by simp) o e
 item:=by
  intro X hP hw hK hc i pins s Z H E I hf st hg;subst hP hw hK;obtain ⟨hlt,hq⟩:=hg
  obtain ⟨e0,_⟩:=(show d9 X.prog X.w H s.heap a (.frz o (.dK kvs)) from I.eC a _ hq)
  obtain ⟨⟨k,v⟩,hx⟩:∃ p,kvs[i]?=some p:=⟨kvs[i],by simp [hlt]⟩
  obtain ⟨u,hu,ru⟩:=rel.get hx;obtain ⟨f0,f1,f2,f3,f4,f5⟩:=hf it (by simp);refine wpAny_pyNext_dict_item st (od _ e0) hu λkey h' hkey st' sb=>?_;have I1:Inv X pins Z H { s with heap:=h' }:=I.turned (t':=s.toks) (λb o hb e=>(sb.2 b hb).trans e) f0 f1 f3 f4 f5;obtain ⟨o',e,c,d⟩:=id st';exact ⟨key,rfl,Es (s:={ s with heap:=h' }) e c d (by decide) ⟨kV k,H,I1,VD hkey,⟨rfl,k,v,hx,rfl⟩,st',λb hb=>(hf b hb).1⟩⟩
 done:=by
  intro X hP hw hK hc i pins s Z H E I hf st hg;subst hP hw hK;obtain ⟨hle,hq⟩:=hg
  obtain ⟨e0,_⟩:=(show d9 X.prog X.w H s.heap a (.frz o (.dK kvs)) from I.eC a _ hq)
  obtain ⟨f0,f1,f2,f3,f4,f5⟩:=hf it (by simp);have hl:=rel.length
  exact wpAny_pyNext_dict_end (I.ok.hd hc) st (od _ e0) (by simp;lia) λh' eb=>⟨rfl,I.turned (t':=s.toks) (λb o hb e=>eb b o hb e) f0 f1 f3 f4 f5⟩
 self:=λ_ _ _ _ _ st h=>oq st h
def kO (K:aa) (tl:TE):TI:=λZ H R=>tl Z H λx H1=>∃ a,x=.ref a/\(((∃ xs,c9 K H1 a xs)/\R (Hl K a) H1)\/((∃ xs,ku K H1 a xs)/\R (WT K a) H1) \/
 ∃ kvs,H1 a=some (.dK kvs)/\∀ o,R (Z9 a kvs o) (upd H1 a (.frz o (.dK kvs))))
def VE {K:aa}{tl:TE}{Z:St}{H:Hp}{R:It->Hp->Prop}(h:tl Z H λx H1=>∃ a,x=.ref a/\(((∃ xs,c9 K H1 a xs)/\R (Hl K a) H1)\/((∃ xs,ku K H1 a xs)/\R (WT K a) H1) \/
 ∃ kvs,H1 a=some (.dK kvs)/\∀ o,R (Z9 a kvs o) (upd H1 a (.frz o (.dK kvs))))):kO K tl Z H R:=h
section
variable {X:Cx}{tg:Expr}
def jN {l:Expr}{tl:TE}(hl:PE X l tl):PI X tg l (kO X.K tl):=by
 intro pins s Z H R I h;refine gP (hl pins s Z H _ I h) λv s1 ⟨x,H1,I1,r1,q1⟩=>?_;obtain ⟨a,e,q1⟩:=q1;subst e;cases r1
 rcases q1 with ⟨⟨xs,hq⟩,q⟩|⟨⟨xs,hq⟩,q⟩|⟨kvs,hq,q⟩
 ·obtain ⟨its,rv,p,hz⟩:=I1.list hq;refine wpAny_pyIter_list p.isList ?_;refine ⟨s1.heap.objs.size,[s1.heap.objs.size],_,_,H1,rfl,I1.kept (t':=s1.toks) λb o e=>au _ e,MP a _,⟨_,aI _ rfl,rfl,rfl⟩,λb hb=>?_,q⟩
  have e:b=s1.heap.objs.size:=by simpa using hb
  subst e;exact I1.JE (ar _) (I1.eC.fresh (ar _))
 ·obtain ⟨its,rv,p,hz⟩:=I1.tuple hq;refine wpAny_pyIter_tuple (show s1.heap.IsTuple a its.toArray from p) ?_;refine ⟨s1.heap.objs.size,[s1.heap.objs.size],_,_,H1,rfl,I1.kept (t':=s1.toks) λb o e=>au _ e,J3 a _,⟨_,aI _ rfl,rfl,rfl⟩,λb hb=>?_,q⟩
  have e:b=s1.heap.objs.size:=by simpa using hb
  subst e;exact I1.JE (ar _) (I1.eC.fresh (ar _))
 ·obtain ⟨hz,hsys,vs,rel,dd⟩:=Ts I1.eC hq;obtain ⟨ep,da⟩:=dd.dictAt;obtain ⟨ob,es,ho,rr⟩:=id da
  have od:∀ h:cb,h.get? a=some ob->h.DictAt (ee X.prog X.w) a vs ep:=λh e=>⟨ob,es,e,rr⟩
  have un:Un X.fs [] H1 (upd H1 a (.frz ob (.dK kvs))) s1.heap s1.heap:=by
   have hne:∀ b u,H1 b=some u->u≠.dK kvs->b≠a:=λb u e n z=>by subst z;rw [hq] at e;exact n (aV e).symm
   refine ⟨λb o e _ _ _=>e,λb o e _ _ _=>⟨o.slots,e⟩,λb o e n _=>?_,λb o e _=>⟨o,e⟩,λb ys e=>?_,λb o u e=>?_,λb ps e=>?_⟩
   ·rw [aH (λz=>by subst z;rw [hq] at n;cases n)];exact n
   ·rw [aH (hne b _ e (by intro z;cases z))];exact e
   ·rw [aH (hne b _ e (by intro z;cases z))];exact e
   ·exact ⟨#[],by rw [aH (hne b _ e (by intro z;cases z)),e];simp⟩
  have eC:qv X.prog X.w (upd H1 a (.frz ob (.dK kvs))) s1.heap:=λb u e=>by
   by_cases hb:b=a
   ·subst hb;rw [aE] at e;cases e;exact ⟨ho,hz,hsys,vs,rel,dd⟩
   ·rw [aH hb] at e;refine (I1.eC b u e).yB (λc v _ q=>q) (λc q0=>?_) λc ys q0=>?_
    ·rw [aH (λz=>by rw [z,hq] at q0;cases q0)];exact q0
    ·rw [aH (λz=>by rw [z,hq] at q0;cases q0)];exact q0
  have I2:Inv X pins Z (upd H1 a (.frz ob (.dK kvs))) { s1 with heap:=s1.heap,toks:=s1.toks }:=I1.un un eC;refine wpAny_pyIter_dict hsys da ?_;refine ⟨s1.heap.objs.size,[s1.heap.objs.size],_,_,_,rfl,I2.kept (t':=s1.toks) λb o e=>au _ e,M6 a _ ob kvs vs ep rel od,⟨_,aI _ rfl,rfl,rfl⟩,λb hb=>?_,q ob⟩
  have e:b=s1.heap.objs.size:=by simpa using hb
  subst e;exact I2.JE (ar _) (I2.eC.fresh (ar _))
end
section
variable {K:aa}{Z:St}{H:Hp}{Q:VK}
structure kF (n i:Nat) (S:St->Prop) (Pv:List V->Hp->Prop) (m:Nat) (ys:List V) (Z:St) (H:Hp):Prop where
 m:m=n-i
 le:i<=n
 s:S Z
 p:Pv ys H
def kF.mk' {n i:Nat}{S:St->Prop}{Pv:List V->Hp->Prop}{ys:List V}{Z:St}{H:Hp}(hi:i<n) (s:S Z) (p:Pv ys H):∃ m',m'<n-i/\kF n (i+1) S Pv m' ys Z H:=⟨n-(i+1),by lia,rfl,hi,s,p⟩
def mw {σ0:St}{g:TG}{tt:TT}{te:TE}{J:It}{n:Nat}{acc:af}{R:Hp->Prop}(Pv:Nat->List V->Hp->Prop) (S:St->Prop) (h0:Pv 0 [] (upd H acc (.lst []))) (s0:S σ0)
  (ha:∀ i ys H,Pv i ys H->H acc=some (.lst ys)) (hst:∀ ys H,Pv n ys H->J.stop n H/\R H) (hgo:∀ i ys H,i<n->Pv i ys H->J.go i H)
  (hs:∀ i ys σ' H x H2,i<n->Pv i ys H->S σ'->J.Hm i H x H2->g x σ' H2 λσ2 H3=>tt σ2 H3 λb H4=>if b=true then te σ2 H4 λy H5=>H5 acc=some (.lst ys)/\ys.length<aT/\∃ m',m'<n-i/\kF n (i+1) S (Pv (i+1)) m' (ys++[y]) σ2 (upd H5 acc (.lst (ys++[y]))) else ∃ m',m'<n-i/\kF n (i+1) S (Pv (i+1)) m' ys σ2 H4) :
  ∃ W:Nat->Nat->List V->St->Hp->Prop,(∃ m,W 0 m [] σ0 (upd H acc (.lst [])))/\∀ i m ys σ' H',W i m ys σ' H'->H' acc=some (.lst ys) /\
  ((J.stop i H'/\R H')\/(J.go i H'/\∀ x H2,J.Hm i H' x H2->g x σ' H2 λσ2 H3=>tt σ2 H3 λb H4 =>
   if b=true then te σ2 H4 λy H5=>H5 acc=some (.lst ys)/\ys.length<aT/\∃ m',m'<m/\W (i+1) m' (ys++[y]) σ2 (upd H5 acc (.lst (ys++[y]))) else ∃ m',m'<m/\W (i+1) m' ys σ2 H4)):=by
 refine ⟨λi m ys σ' H'=>kF n i S (Pv i) m ys σ' H',⟨n,by simp,aQ _,s0,h0⟩,?_⟩;rintro i m ys σ' H' ⟨rfl,hi,hS,p⟩;refine ⟨ha i ys H' p,?_⟩
 by_cases hlt:i<n
 ·exact .inr ⟨hgo i ys H' hlt p,λx H2 y=>hs i ys σ' H' x H2 hlt p hS y⟩
 ·have e:i=n:=by lia
  subst e;exact .inl (hst ys H' p)
structure OW (Pv:St->Hp->Prop) (μ:St->Hp->Nat) (m:Nat) (Z:St) (H:Hp):Prop where
 m:m=μ Z H
 p:Pv Z H
def vH {c:TT}{tb:TS}{D:qO}(Pv:St->Hp->Prop) (μ:St->Hp->Nat) (h0:Pv Z H)
  (hs:∀ Z H,Pv Z H->c Z H λb H1=>if b=true then ∃ N:St->Hp->Prop,(∀ σ' H',N σ' H'->∃ m',m' < μ Z H/\OW Pv μ m' σ' H')/\tb { D with nx:=N,ct:=N,bk:=D.nx } Z H1 else D.nx Z H1):xG c tb D Z H:=by
 refine ⟨OW Pv μ,⟨_,rfl,h0⟩,?_⟩;rintro m Z H ⟨rfl,p⟩;exact hs Z H p
def wN (Pv:St->Hp->Prop) (μ:St->Hp->Nat) (b:Nat):St->Hp->Prop:=λZ H=>Pv Z H/\μ Z H<b
def LN {Pv:St->Hp->Prop}{μ:St->Hp->Nat} {b:Nat}:∀ σ' H',wN Pv μ b σ' H'->∃ m',m'<b/\OW Pv μ m' σ' H':=λσ' H' ⟨p,l⟩=>⟨_,l,rfl,p⟩
end
end L2
namespace L2
section
variable {Z:St}{H:Hp}{Q:VK}{D:qO}{ta tb te:TE}{t u:TS}{tA:TA}{QT:Bool->Hp->Prop}{QA:List V->Hp->Prop}{K:aa}
def R3 {r r':R2}{tc:TE}(h:ta Z H λx H1=>tb Z H1 λy H2=>r x y H2 λz H3=>∃ k,z=.bl k/\(if k=true then tc Z H3 λw' H4=>r' y w' H4 Q else Q (.bl false) H3)):Fw r r' ta tb tc Z H Q:=h
def x_rU {g:Int->V}{i:Int}(h:Q (g i) H):rU g (.int i) H Q:=⟨i,rfl,h⟩
def XF {i j:Bool}(h:Q (.bl (decide (V.bl i=V.bl j))) H):kr K (.bl i) (.bl j) H Q:=.inl ⟨rfl,h⟩
def x_tB (h:te Z H λx H1=>∃ c,x=.bl c/\QT c H1):tB te Z H QT:=h
def XG (h:ta Z H λx H1=>Q (.bl (decide (x=.non))) H1):Rz ta Z H Q:=h
def VF (h:ta Z H λx H1=>Q (.bl (!decide (x=.non))) H1):Om ta Z H Q:=h
def VG {R:It->Hp->Prop}(h:tA Z H λvs H1=>∃ j:Int,vs=[.int j]/\-(2^62)<=j/\j<2^62/\R (Ot 0 j.toNat) H1):qR tA Z H R:=h
def XH {wi:TI}{g:TG}{tb:TS}(h:wi Z H λJ H1=>∃ W:Nat->Nat->St->Hp->Prop,(∃ m,W 0 m Z H1)/\∀ i m Z H,W i m Z H ->
 (J.stop i H/\D.nx Z H)\/(J.go i H/\∃ N:St->Hp->Prop,(∀ σ' H',N σ' H'->∃ m',m'<m/\W (i+1) m' σ' H')/\∀ x H',J.Hm i H x H'->g x Z H' λσ2 H2=>tb { D with nx:=N,ct:=N,bk:=D.nx } σ2 H2)):nX wi g tb D Z H:=h
def VH {own:Nat}{js:List Nat}{wi:TI}{g:TG}{tt:TT}(h:wi Z H λJ H1=>∀ acc,H1 acc=none ->
 ∃ W:Nat->Nat->List V->St->Hp->Prop,(∃ m,W 0 m [] (ow own none++HK Z js) (upd H1 acc (.lst [])))/\∀ i m ys σ' H',W i m ys σ' H'->H' acc=some (.lst ys) /\
  ((J.stop i H'/\Q (.ref acc) H')\/(J.go i H'/\∀ x H2,J.Hm i H' x H2->g x σ' H2 λσ2 H3=>tt σ2 H3 λb H4 =>
   if b=true then te σ2 H4 λy H5=>H5 acc=some (.lst ys)/\ys.length<aT/\∃ m',m'<m/\W (i+1) m' (ys++[y]) σ2 (upd H5 acc (.lst (ys++[y]))) else ∃ m',m'<m/\W (i+1) m' ys σ2 H4))):jg own js wi g tt te Z H Q:=h
def XI {i:Nat}{ti:Za}{x:V}(hx:Z[i]?=some (some x)) (h:te Z H λy H1=>ti x y H1 λz H2=>D.nx (Z.set i (some z)) H2):MO i te ti D Z H:=⟨x,hx,h⟩
def xP {n:Nat}{ts:Re}{a:af}{xs:List V}{R:St->Hp->Prop}(h:ku K H a xs) (hn:xs.length=n) (k:ts xs Z H R):Fp K n ts (.ref a) Z H R:=⟨a,xs,rfl,h,hn,k⟩
def R5 {g:TG}{gs:Re}{v:V}{r:List V}{R:St->Hp->Prop}(h:g v Z H λσ' H'=>gs r σ' H' R):kC g gs (v::r) Z H R:=⟨v,r,rfl,h⟩
def VI {R:St->Hp->Prop}(h:R Z H):Hy [] Z H R:=⟨rfl,h⟩
def Tw {l b:af}{xs zs:List V}(h:H l=some (.lst xs)) (h':H b=some (.lst zs)) (hl:xs.length+zs.length<=aT) (k:∀ p,H p=none->Q (.ref p) (upd H p (.lst (xs++zs)))):eK (.ref l) (.ref b) H Q:=.inr ⟨l,b,xs,zs,rfl,rfl,h,h',hl,k⟩
def XJ {i j:Int}(k:Q (.int (if j<i then j else i)) H):EH [.int i,.int j] H Q:=⟨i,j,rfl,k⟩
def XM {i j:Int}(k:Q (.int (if j>i then j else i)) H):HN [.int i,.int j] H Q:=⟨i,j,rfl,k⟩
def A3 {x:V}{T:String}{t:ai}{b:Bool}(ty:vw K H x t) (e:iM K t (.type T)=some b) (k:Q (.bl b) H):FH K [x,.ty T] H Q:=⟨x,T,t,b,rfl,ty,e,k⟩
def EI {a:af}{xs:List V}{lo hi:Option Int}(h:c9 K H a xs) (k:∀ p,H p=none->Q (.ref p) (upd H p (.lst (uL xs lo hi)))):oE K (.ref a) lo hi H Q:=⟨a,xs,rfl,h,k⟩
def XN {x y:V}{dx dy:PyData}(h1:Rep K H dx x) (h2:Rep K H dy y) (f1:zH dx) (f2:zH dy) (k:Q (.bl (dY dx dy)) H):kr K x y H Q:=.inr ⟨dx,dy,h1,h2,f1,f2,k⟩
def XO {x y:V}{dx dy:PyData}(h1:Rep K H dx x) (h2:Rep K H dy y) (f1:zH dx) (f2:zH dy) (k:Q (.bl (!PyData.eqv dx dy)) H):C3 K x y H Q:=.inr ⟨dx,dy,h1,h2,f1,f2,k⟩
def OX {x y:V}{d:PyData}{ds:List PyData}(h1:Rep K H d x) (h2:Rep K H (.list ds) y) (f1:zH d) (f2:iu ds=true) (k:Q (.bl (!(ds.any λe=>dY e d))) H):AZ K true x y H Q:=.inl ⟨d,ds,h1,.inl h2,f1,f2,k⟩
def XQ {x y:V}{d:PyData}{ds:List PyData}(h1:Rep K H d x) (h2:Rep K H (.list ds) y) (f1:zH d) (f2:iu ds=true) (k:Q (.bl (ds.any λe=>dY e d)) H):AZ K false x y H Q:=.inl ⟨d,ds,h1,.inl h2,f1,f2,k⟩
def XR {a:af}{kvs:List (fT×V)}{i:Int}{v:V}(h:Rd H a (.dK kvs)) (e:gQ kvs (cu i:fT)=some v) (k:Q v H):dz K (.ref a) (.int i) H Q:=.inr ⟨a,v,rfl,.inl ⟨kvs,cu i,h,rfl,e.symm⟩,k⟩
def VJ (h:∀ p,H p=none->Q (.ref p) (upd H p (.dK []))):Ki Z H Q:=h
end
section
variable {K:aa}
def OY:iM K (.type "int") (.type "int")=some true:=by rfl
def OZ:iM K (.type "int") (.type "bool")=some false:=by rfl
def VL:iM K (.type "bool") (.type "bool")=some true:=by rfl
def VM:iM K (.type "list") (.type "list")=some true:=by rfl
def VN:iM K (.type "tuple") (.type "tuple")=some true:=by rfl
end
def bL.cD {H:Hp}{l:af}{o:HO}(h:H l=none):bL H (upd H l o):=λb u e=>by rw [aH (aP e h)];exact e
def a8 (c:af) (H H':Hp):Prop:=∀ b o,H b=some o->b≠c->H' b=some o
def a8.refl (c:af) (H:Hp):a8 c H H:=λ_ _ h _=>h
def a8.trans {c:af}{H H1 H2:Hp}(a:a8 c H H1) (b:a8 c H1 H2):a8 c H H2:=λx o h n=>b x o (a x o h n) n
def a8.same {c:af}{H H':Hp}(e:bL H H'):a8 c H H':=λb o h _=>e b o h
def a8.upd {c:af}{H:Hp}{o:HO}:a8 c H (upd H c o):=λb u e n=>by rw [aH n];exact e
def eE {α:Type} {xs:List α}{j:Nat}{i:Int}{v:α}(hi:i=(j:Int)) (h:xs[j]?=some v):N4 xs i=some v:=by subst hi;exact RR h
def O0 {n j:Nat}{i:Int}(hi:i=(j:Int)) (h:j<n):N3 n i=some j:=by
 subst hi;unfold N3;rw [if_pos (by lia),if_pos (by lia)]
 rfl
def bM {n m:Nat}(h:n<=m) (hm:m<=100000:=by decide):n<=aT:=bf h (bf hm (by rw [oi];decide))
def dU {n m:Nat}(h:n<m) (hm:m<=100000:=by decide):n<aT:=br h (bf hm (by rw [oi];decide))
mutual
def ma:PyData->Bool
 | .int _=>true
 | .list xs=>jv xs
 | .tuple xs=>jv xs
 | _=>false
def jv:List PyData->Bool
 | []=>true
 | x::xs=>ma x && jv xs
end
mutual
theorem xQ:∀ d:PyData,ma d=true->d.canLay0=true
 | .int _,_=>by simp [Fi]
 | .list xs,h=>by simp only [ma] at h;simp only [Fi];exact iS xs h
 | .tuple xs,h=>by simp only [ma] at h;simp only [Fi];exact iS xs h
 | .none,h=>by simp [ma] at h
 | .bool _,h=>by simp [ma] at h
 | .str _,h=>by simp [ma] at h
 | .dict _,h=>by simp [ma] at h
theorem iS:∀ ds:List PyData,jv ds=true->iu ds=true
 | [],_=>by simp [iu]
 | d::ds,h=>by
  simp only [jv,gY] at h;simp only [iu,gY];exact ⟨xQ d h.1,iS ds h.2⟩
end
end L2
namespace L2
section
variable {Z:St}{H:Hp}{Q:VK}{K:aa}
def VO {a:af}{kvs:List (fT×V)}{i:Int}{v:V}{R:Hp->Prop}(h:H a=some (.dK kvs)) (hl:kvs.length<aT) (q:R (upd H a (.dK (nr kvs (cu i) v)))):oF (.ref a) (.int i) v H R :=
 .inr ⟨a,_,rfl,tF.k (k:=cu i) h hl,q⟩
end
end L2
namespace L2
open PySem PySem.Spec PySem.Calls PyProof.Rows
open PySem.W (kla_fn kla_obj tabObj CodeHd)
def pC (Pt:af) (H H':Hp):Prop:=∀ b o,b≠Pt->H b=some o->H' b=some o
def qE (Pt:af) (pos:kM) (qual:bh) (H:Hp):Prop :=
 H Pt=some (.tbl #[])\/∃ c' oc vs t,H Pt=some (.tbl #[cA pos.line,cA pos.col,.ref c'])/\H c'=some (.frz oc (.ext λ_=>True))/\oc.data=.fields vs/\vs[1]?=some (qF qual t)
def qE.tbl {Pt:af}{pos:kM}{qual:bh}{H:Hp}(h:qE Pt pos qual H):∃ ps,H Pt=some (.tbl ps):=by
 rcases h with h|⟨_,_,_,_,h,_⟩
 ·exact ⟨_,h⟩
 ·exact ⟨_,h⟩
section
variable {X:Cx}{pins:List (af×ft)}{Z:St}{H:Hp}{s:ak}{c Pt:af}
def HP {E:ai->ak->Prop}{Q:ai->ak->Prop}{params:l8}{body:Expr}{scope:jB}{pos:kM}(I:Inv X pins Z H s) (hcode:X.env.code=.ref c) (C:ig X.base c Pt) (B:X.base.BuiltinsAt X.mg Pt)
  (hdef:defaultsOf params X.env=([],[])) (hfr:∀ n,(n,bJ)∈scope.names->∃ c,X.env.cells.lookup n=some c) (hT:qE Pt pos (X.env.qual++"<lambda>") H)
  (h:∀ f c' ctv h' tk H2,Inv X pins Z H2 { s with heap:=h',toks:=tk }->h'.get? f=some (xp "<lambda>" (X.env.qual++"<lambda>") params body scope (nu X.env.cells scope.names []) ((X.mg "__name__").getD .none) c' ctv)->h'.CodeRec (.ref c') (X.env.qual++"<lambda>") ->
   pC Pt H H2->qE Pt pos (X.env.qual++"<lambda>") H2->(∀ b o,b≠Pt->s.heap.get? b=some o->h'.get? b=some o)->Q (.ref f) { s with heap:=h',toks:=tk }) :
  aG (aM X.prog X.w) X.A (eN (.Lambda params body scope pos) X.env) Q E s:=by
 have hg:s.heap.Ns bR X.mg:=I.mod.glob.keeps I.bk;have C1:=C.keeps I.bk
 have B1:s.heap.BuiltinsAt X.mg Pt:=let ⟨bm,o,b1,b2,b3,b4,b5,b6⟩:=B;⟨bm,o,b1,b2,b3,b4,I.bk _ _ b5,b6⟩
 refine PySem.W.kla_eval hdef ?_
 rcases hT with hT|⟨c',oc,vs,t,hT,hc',hd,hv⟩
 ·have hP:s.heap.get? Pt=some (JL #[]):=I.eC Pt _ hT
  have hgP:bR≠Pt:=λq=>by
   obtain ⟨o,es,ep,e,hd,_⟩:=hg;rw [q,hP] at e;cases e;cases hd
  refine PySem.W.kla_makeFunction (mg:=X.mg) (uN hfr) I.ok.glob hg hcode C1 hP trivial rfl hgP B1 λc' ctv h' tk hx hge hlt hrec htb=>?_;obtain ⟨c₂,oc,vs,t,e2,hoc,hd,hv⟩:=id hrec;cases e2;have hn:H c'=none:=I.eC.fresh hge
  have ncP:c'≠Pt:=λq=>by rw [q,hT] at hn;cases hn
  have hL:X.env.locals≠Pt:=λq=>by have:=I.free;rw [q,hT] at this;cases this
  have k:∀ b o,b≠Pt->s.heap.get? b=some o->(h'.push (xp "<lambda>" (X.env.qual++"<lambda>") params body scope (nu X.env.cells scope.names []) ((X.mg "__name__").getD .none) c' ctv)).get? b=some o:=λb o hb e=>au _ (hx b o hb e);have hP':(h'.push (xp "<lambda>" (X.env.qual++"<lambda>") params body scope (nu X.env.cells scope.names []) ((X.mg "__name__").getD .none) c' ctv)).get? Pt=some (JL #[cA pos.line,cA pos.col,.ref c']):=au _ htb;have hoc':(h'.push (xp "<lambda>" (X.env.qual++"<lambda>") params body scope (nu X.env.cells scope.names []) ((X.mg "__name__").getD .none) c' ctv)).get? c'=some oc:=au _ hoc;have hf:(h'.push (xp "<lambda>" (X.env.qual++"<lambda>") params body scope (nu X.env.cells scope.names []) ((X.mg "__name__").getD .none) c' ctv)).get? h'.objs.size=some (xp "<lambda>" (X.env.qual++"<lambda>") params body scope (nu X.env.cells scope.names []) ((X.mg "__name__").getD .none) c' ctv):=aI _ rfl;generalize h'.push (xp "<lambda>" (X.env.qual++"<lambda>") params body scope (nu X.env.cells scope.names []) ((X.mg "__name__").getD .none) c' ctv)=h2 at k hP' hoc' hf
  have st:∀ b o,b≠Pt->H b=some o->upd (upd H Pt (.tbl #[cA pos.line,cA pos.col,.ref c'])) c' (.frz oc (.ext λ_=>True)) b=some o:=λb o hb e=>by
   rw [aH (aP e hn),aH hb];exact e
  refine h _ c' ctv h2 tk (upd (upd H Pt (.tbl #[cA pos.line,cA pos.col,.ref c'])) c' (.frz oc (.ext λ_=>True))) ?_ hf ⟨c',oc,vs,t,rfl,hoc',hd,hv⟩ st (.inr ⟨c',oc,vs,t,by rw [aH (Ne.symm ncP)];exact aE,aE,hd,hv⟩) k
  have nP:∀ b,H b=none->b≠Pt:=λb e q=>by rw [q,hT] at e;cases e
  refine I.step (g':=s.gens) (d':=s.drawn) (ch:=[]) (λ_ z=>nomatch z) (λb o _ _ _ e n=>k b o (nP b n) e) (λb o _ _ _ e n=>⟨o.slots,k b o (nP b n) e⟩) (λb o _ e n=>?_) (λb o _ e=>?_) (λb xs e=>?_) (λb o u e=>?_)
   (λb ps e=>?_) (λm' hm'=>?_) (λb u e=>?_) I.bare
  ·rw [aH (a9 (br (aJ e) hge)),aH (nP b n)];exact n
  ·by_cases hb:b=Pt
   ·exact ⟨_,hb▸hP'⟩
   ·exact ⟨o,k b o hb e⟩
  ·exact st b _ (λq=>by rw [q,hT] at e;cases e) e
  ·exact st b _ (λq=>by rw [q,hT] at e;cases e) e
  ·by_cases hb:b=Pt
   ·subst hb;rw [hT] at e;cases e;exact ⟨#[cA pos.line,cA pos.col,.ref c'],by rw [aH (Ne.symm ncP),aE];simp⟩
   ·exact ⟨#[],by rw [st b _ hb e];simp⟩
  ·obtain ⟨o,es,ep,e,r⟩:=hm';exact ⟨o,es,ep,k _ o hL e,r⟩
  ·by_cases hb:b=c'
   ·subst hb;rw [aE] at e;cases e;exact ⟨hoc',trivial,⟨oc,hoc'⟩,λ_ _ _ _=>trivial⟩
   ·rw [aH hb] at e
    by_cases hb2:b=Pt
    ·subst hb2;rw [aE] at e;cases e;exact hP'
    ·rw [aH hb2] at e;refine (I.eC b u e).yB (λd v hc q=>k d v ?_ q) (λd q=>st d _ (λz=>by rw [z,hT] at q;cases q) q) λd xs q=>st d _ (λz=>by rw [z,hT] at q;cases q) q;rintro rfl
     rcases hc with hc|hc
     ·exact hb2 hc.symm
     ·rw [hT] at hc;cases hc
 ·have hP:s.heap.get? Pt=some (JL #[cA pos.line,cA pos.col,.ref c']):=I.eC Pt _ hT;refine PySem.W.kla_makeFunctionHit (mg:=X.mg) (cv:=.ref c') (uN hfr) I.ok.glob hg hcode C1 hP (by simp [TriplesOk,cA]) (by simp [codeAmong,cA]) B1 λctv h' tk hk hsz=>?_;have k:∀ b o,s.heap.get? b=some o->(h'.push (xp "<lambda>" (X.env.qual++"<lambda>") params body scope (nu X.env.cells scope.names []) ((X.mg "__name__").getD .none) c' ctv)).get? b=some o:=λb o e=>au _ (hk b o e);refine h h'.objs.size c' ctv _ tk H (I.kept k) (aI _ rfl) ⟨c',oc,vs,t,rfl,k _ _ (I.eC c' _ hc').1,hd,hv⟩ (λ_ _ _ e=>e) (.inr ⟨c',oc,vs,t,hT,hc',hd,hv⟩) λb o _ e=>k b o e
end
end L2
namespace L2
open PySem PySem.Spec PySem.Calls PyProof.Rows
open PySem.W (kla_fn kla_obj tabObj CodeHd)
section
variable {X:Cx}{c Pt:af}{e:Expr}{tx:TA}{x y:bh}{j:Nat}{params:l8}{scope:jB}{p0 p1 p2 p3 lpos kpos pos:kM}
end
end L2
namespace L2
open PySem PySem.Spec PySem.Calls PyProof.Rows
open PySem.W (tabObj CodeHd noTabs tabIn)
end L2
namespace L2
def Lj.okC {P:aY}{w:bH}{K:aa}{mg:bh->Option ai}{base:cb}{x qual:bh}{st:dk}{f:af}{fd:eI}{N ps:List bh}{k:Nat}{sp:Sp}{nj:ai}(F:Lj K x qual st f fd) (hc:fd.code=nj) (S:bI N ps (aX st)) (len:∀ vs H Q E,sp vs H Q E->vs.length=ps.length)
  (hbody:∀ (A:bN) (outer:List Ek) (s:ak) (H:Hp) (vs:List V) (Q:VK) (E:XK),hU k (A.deeper (tL qual (aX st) s.heap.objs.size f nj))->sp vs H Q E ->
   ∃ t,JS (Fz HI P w K mg base N qual (aX st) f nj A outer s H E).Uv (kh st) t/\t { nx:=λ_ H'=>Q .non H',rt:=Q } (start N vs) H):lj P w K mg base HI (k+1) f fd ps sp:=by
 obtain ⟨oc,od,kV,doc,pm,an,cdv',ct,osl,rfl,lk,hcd⟩:=F.ex;have e:cdv'=nj:=hc;subst e;refine Tp lk hcd S len λA outer s H vs Q E hr hsp=>?_;obtain ⟨t,h,q⟩:=hbody A outer s H vs Q E hr hsp;exact ⟨t,h.Uv,q⟩
end L2
namespace L2
end L2
namespace L2
def qE.same {Pt:af}{p:kM}{q:bh}{H H':Hp}(h:qE Pt p q H) (e:bL H H'):qE Pt p q H':=by
 rcases h with h|⟨c',oc,vs,t,h1,h2,h3,h4⟩
 ·exact .inl (e _ _ h)
 ·exact .inr ⟨c',oc,vs,t,e _ _ h1,e _ _ h2,h3,h4⟩
def pC.tup {Pt:af}{p:kM}{q:bh}{H H':Hp}(S:pC Pt H H') (L:qE Pt p q H) {b:af}{xs:List V}(e:H b=some (.tup xs)):H' b=some (.tup xs):=by
 obtain ⟨ps,h⟩:=L.tbl;exact S b _ (λz=>by rw [z,h] at e;cases e) e
def pC.free {Pt:af}{p:kM}{q:bh}{H H':Hp}(S:pC Pt H H') (L':qE Pt p q H') {b:af}(e:H' b=none):H b=none:=by
 cases h:H b with
 | none=>rfl
 | some o =>
  obtain ⟨ps,ht⟩:=L'.tbl;rw [S b o (λz=>by rw [z,ht] at e;cases e) h] at e;cases e
end L2
namespace L2
section
variable {K:aa}{Z:St}{H:Hp}{Q:VK}
def vJ {σ0:St}{g:TG}{tt:TT}{te:TE}{z acc:af}{xs:List V}{R:Hp->Prop}{α:Type} (items:List α) (p:α->Bool) (f:α->V) (S:St->Prop) (hlen:items.length=xs.length) (hz:c9 K H z xs) (ha:H acc=none) (s0:S σ0) (hs:xs.length<=100000)
  (turn:∀ (i:Nat) (a:α) (x:V) (σ':St) (H':Hp) (G:V->St->Hp->Prop) (G':St->Hp->Prop),items[i]?=some a->xs[i]?=some x->bL H H'->S σ'->(p a=true->∀ σ2,S σ2->G (f a) σ2 H')->(p a=false->∀ σ2,S σ2->G' σ2 H') ->
   g x σ' H' λσ2 H3=>tt σ2 H3 λb H4=>if b=true then te σ2 H4 λy H5=>G y σ2 H5 else G' σ2 H4)
  (fin:∀ H',bL H H'->H' acc=some (.lst ((items.filter p).map f))->R H') :
  ∃ W:Nat->Nat->List V->St->Hp->Prop,(∃ m,W 0 m [] σ0 (upd H acc (.lst [])))/\∀ i m ys σ' H',W i m ys σ' H'->H' acc=some (.lst ys) /\
  (((Hl K z).stop i H'/\R H')\/((Hl K z).go i H'/\∀ x H2,(Hl K z).Hm i H' x H2->g x σ' H2 λσ2 H3=>tt σ2 H3 λb H4 =>
   if b=true then te σ2 H4 λy H5=>H5 acc=some (.lst ys)/\ys.length<aT/\∃ m',m'<m/\W (i+1) m' (ys++[y]) σ2 (upd H5 acc (.lst (ys++[y]))) else ∃ m',m'<m/\W (i+1) m' ys σ2 H4)):=by
 refine mw (n:=xs.length) (λi ys H'=>ys=((items.take i).filter p).map f/\H' acc=some (.lst ys)/\bL H H') S ⟨by simp,aE,bL.cD ha⟩ s0 ?_ ?_ ?_ ?_
 ·rintro i ys H' ⟨_,h,_⟩;exact h
 ·rintro ys H' ⟨e,h,S'⟩;refine ⟨⟨_,S'.seq hz,ar _⟩,fin H' S' ?_⟩;rw [h,e,bX (by lia)]
 ·rintro i ys H' hi ⟨e,h,S'⟩;exact ⟨_,_,S'.seq hz,ay hi⟩
 ·rintro i ys σ' H' x H2 hi ⟨e,h,S'⟩ hσ ⟨e2,hx⟩;subst e2;have hxi:=hx _ (S'.seq hz)
  obtain ⟨a,hai⟩:∃ a,items[i]?=some a:=⟨_,ay (by lia)⟩
  have et:items.take (i+1)=items.take i++[a]:=by rw [dI,hai];rfl
  refine turn i a x σ' H2 _ _ hai hxi S' hσ (λhp σ2 h2=>?_) λhp σ2 h2=>?_
  ·refine ⟨h,bw (m:=i) ?_ (br hi (bM hs)),kF.mk' hi h2 ⟨?_,aE,λb o q=>by rw [aH (aP q ha)];exact S' _ _ q⟩⟩
   ·rw [e,ag];exact bf (cT _ _) (by rw [bB];lia)
   ·rw [et,e,dv,aU];simp [hp]
  ·refine kF.mk' hi h2 ⟨?_,h,S'⟩;rw [et,e,dv,aU];simp [hp]
theorem uQ:∀ ns:List Int,jv (ns.map .int)=true
 | []=>rfl
 | n::ns=>by simp only [bU,jv,gY];exact ⟨by simp [ma],uQ ns⟩
def O1 {H:Hp}{a:af}{ns:List Int}(h:c9 K H a (ns.map V.int)):Rep K H (.list (ns.map .int)) (.ref a):=.lst h (eF.ints ns)
end
end L2
namespace BootT
open PySem
def sum:dC "sum"=some (.builtin "sum"):=by decide +kernel
def zip:dC "zip"=some (.type "zip"):=by decide +kernel
def set:dC "set"=some (.type "set"):=by decide +kernel
end BootT
namespace L2
open PySem PySem.Spec PyProof.Rows PySem.SeqAt
section
variable {X:Cx}
def O2 (K:aa):V->List V->Hp->VK->Prop:=λx vs H Q=>∃ (l:af) (ns:List Int) (k:Int),x=.ref l/\vs=[.int k]/\c9 K H l (ns.map V.int)/\k∈ns/\Q (.int (ns.idxOf k:Nat)) H
def O3:SN X "list.index" (O2 X.K):=by
 intro pins s Z H x vs v us Q I rx rv h;obtain ⟨l,ns,k,rfl,rfl,hq,hk,q⟩:=h;cases rx;obtain ⟨u,rfl,t,rfl⟩:=rv.one;obtain ⟨its,r,pl,hz⟩:=I.list hq;have hi:eO its ns:=intsAre_of r;have hlen:=hi.length;have hl2:=r.length;have hj:ns.idxOf k<ns.length:=fW.mpr hk;have h63:=qT;rw [ag] at hz hl2;obtain ⟨⟨cls,dd,data,sl⟩,ho,hc,n,hd⟩:=pl.isList;simp only at hc hd;subst hc hd
 refine call_meets gb ⟨_,ho,rfl⟩ G6 (Fj _ _)
  (list_indexAt l its.toArray n dd sl (.int k t) (isInt k) (ns.idxOf k) (by rw [aO];lia) (by lia) ?_ ?_) ⟨ho,λy hy=>(eq_isInt k t hi y (by simpa using hy)).at _ _,⟨.int _,H,I.tok _,⟨_,rfl⟩,q⟩⟩
 ·show isInt k its[ns.idxOf k]=true
  rw [isInt_at k hi _ (by lia) hj]
  simpa using zC hj
 ·intro j hjs hlt
  show isInt k its[j]=false
  rw [isInt_at k hi j (by simpa using hjs) (by lia)];exact ne_of_lt_idxOf hlt _
def LO (K:aa):V->List V->Hp->VK->Prop:=λx vs H Q=>∃ (l:af) (y:V) (ds:List PyData) (d:PyData) (j:Nat) (ej:PyData),x=.ref l/\vs=[y]/\Rep K H (.list ds) (.ref l)/\Rep K H d y/\zH d/\iu ds=true /\
 ds.length<=aT/\ds[j]?=some ej/\dY ej d=true/\(∀ m e,m<j->ds[m]?=some e->dY e d=false)/\Q (.int (j:Nat)) H
def M7 (hu:X.A.units+64<gO):SN X "list.index" (LO X.K):=by
 intro pins s Z H x vs v us Q I rx rv h;obtain ⟨l,y,ds,d,j,ej,rfl,rfl,hR,hd,hf,hc,hz,hj,he,hno,q⟩:=h;cases rx;obtain ⟨u,rfl,ru⟩:=rv.one;obtain ⟨as,r1⟩:=Rep.reads I _ _ _ hR rfl;obtain ⟨bs,r2⟩:=Rep.reads I d y u hd ru;have h63:=qT;have hdep:=hf.dep;have hjl:j<ds.length:=(aC.mp hj).1
 cases r1 with
 | @list _ o items n _ as2 h1 h2 h3 h4 =>
  obtain ⟨cls,dd,data,sl⟩:=o;have h2':cls=_:=h2;have h3':data=_:=h3;subst h2' h3';have hm:=readsAll_map _ _ _ hc h4
  have hsz:items.size=ds.length:=by rw [← hm,ag,aK]
  have at_:∀ (m:Nat) (hm':m<items.size) (e:PyData),ds[m]?=some e->readOf s.heap items[m]=e:=λm hm' e z=>by
   rw [← hm,ax,dG,b9 hm'] at z;exact aV z
  refine call_meets gb ⟨_,h1,rfl⟩ G6 (Fj _ _)
   (list_indexAt l items n dd sl u (λy=>dY (readOf s.heap y) d) j (by lia) (by lia) ?_ ?_) ⟨h1,items_eqAt h4 r2 hc hf.lay (by lia),⟨.int _,H,I.tok _,⟨_,rfl⟩,q⟩⟩
  ·show dY (readOf s.heap items[j]) d=true
   rw [at_ j (by lia) _ hj];exact he
  ·intro m hm' hlt
   obtain ⟨e,z⟩:∃ e,ds[m]?=some e:=⟨_,ay (by lia)⟩
   show dY (readOf s.heap items[m]) d=false
   rw [at_ m hm' e z];exact hno m e hlt z
def SN.or {id:String}{r r':V->List V->Hp->VK->Prop}(h:SN X id r) (h':SN X id r'):SN X id (λx vs H Q=>r x vs H Q\/r' x vs H Q):=by
 intro pins s Z H x vs v us Q I rx rv z
 rcases z with z|z
 ·exact h pins s Z H x vs v us Q I rx rv z
 ·exact h' pins s Z H x vs v us Q I rx rv z
def pQ (K:aa):V->List V->Hp->VK->Prop:=λx vs H Q=>O2 K x vs H Q\/LO K x vs H Q
def sO (hu:X.A.units+64<gO):SN X "list.index" (pQ X.K):=O3.or (M7 hu)
variable {tg:Expr}
def LP {K:aa}{l:af}{ns:List Int}{k:Int}{H:Hp}{Q:VK}(h:c9 K H l (ns.map V.int)) (hk:k∈ns) (q:Q (.int (ns.idxOf k:Nat)) H):pQ K (.ref l) [.int k] H Q:=.inl ⟨l,ns,k,rfl,rfl,h,hk,q⟩
end
end L2
namespace L2
end L2
namespace L2
section
variable {K:aa}{H:Hp}{Q:VK}{a:af}{xs:List V}{ns:List Int}{i i':Int}{j j':Nat}
def FJ {n d:Nat}(h:i=(j:Int)):HT.lB n d (some i)=min j n:=by subst h;exact HT.RQ n d j
def HQ (h:i=(j:Int)):uL xs (some i) none=xs.drop j:=by
 unfold uL;rw [FJ h,HT.HD]
 by_cases e:j<=xs.length
 ·rw [kZ e,bX (by rw [cN];lia)]
 ·rw [mG (by lia),lQ (ar _),lQ (by lia)];simp
def uR (h:i=(j:Int)):uL xs none (some i)=xs.take j:=by
 unfold uL;rw [FJ h,HT.HD,Hq,Nat.sub_zero]
 by_cases e:j<=xs.length
 ·rw [kZ e]
 ·rw [mG (by lia),bX (ar _),bX (by lia)]
def LQ (h:i=(j:Int)) (h':i'=(j':Int)):uL xs (some i) (some i')=(xs.drop j).take (j'-j):=by
 unfold uL;rw [FJ h,FJ h']
 by_cases e:j<=xs.length
 ·rw [kZ e]
  by_cases e':j'<=xs.length
  ·rw [kZ e']
  ·rw [mG (by lia),bX (by rw [cN];lia),bX (by rw [cN];lia)]
 ·rw [lQ (show xs.length<=min j xs.length by lia),lQ (show xs.length<=j by lia)];simp
def vK (h:c9 K H a (ns.map V.int)) (e:i=(j:Int)) (k:∀ p,H p=none->Q (.ref p) (upd H p (.lst ((ns.drop j).map V.int)))):oE K (.ref a) (some i) none H Q :=
 EI h λp hp=>by rw [HQ e,← yI];exact k p hp
def O4 (h:c9 K H a (ns.map V.int)) (e:i=(j:Int)) (k:∀ p,H p=none->Q (.ref p) (upd H p (.lst ((ns.take j).map V.int)))):oE K (.ref a) none (some i) H Q :=
 EI h λp hp=>by rw [uR e,← gU];exact k p hp
def LR (h:c9 K H a (ns.map V.int)) (e:i=(j:Int)) (e':i'=(j':Int)) (k:∀ p,H p=none->Q (.ref p) (upd H p (.lst (((ns.drop j).take (j'-j)).map V.int)))):oE K (.ref a) (some i) (some i') H Q :=
 EI h λp hp=>by rw [LQ e e',← yI,← gU];exact k p hp
def FK {l b:af}{ms:List Int}(h:H l=some (.lst (ns.map V.int))) (h':H b=some (.lst (ms.map V.int))) (hl:ns.length+ms.length<=100000) (k:∀ p,H p=none->Q (.ref p) (upd H p (.lst ((ns++ms).map V.int)))):eK (.ref l) (.ref b) H Q :=
 Tw h h' (by rw [ag,ag];exact bM hl) λp hp=>by rw [← aU];exact k p hp
def R6 {j:Nat}{v:Int}(h:ns[j]?=some v):(ns.map V.int)[j]?=some (.int v):=by rw [ax,h];rfl
def yR {v:Int}(h:c9 K H a (ns.map V.int)) (e:i=(j:Int)) (g:ns[j]?=some v) (k:Q (.int v) H):dz K (.ref a) (.int i) H Q:=lu h (eE e (R6 g)) k
def O5 (h:c9 K H a (ns.map V.int)) (k:Q (.int ns.length) H):uO K [.ref a] H Q:=pP h (by rw [ag];exact k)
end
end L2
namespace L2
section
variable {K:aa}{Z:St}{H:Hp}{Q:VK}
def HR {σ0:St}{g:TG}{te:TE}{J:It}{n:Nat}{acc:af}{R:Hp->Prop}(E:Nat->V->Hp->Prop) (X:Nat->V->Prop) (S:St->Prop) (ha:H acc=none) (s0:S σ0) (hn:n<=100000)
  (hgo:∀ i H',bL H H'->i<n->J.go i H') (hstop:∀ H',bL H H'->J.stop n H') (hy:∀ i H' x H2,bL H H'->i<n->J.Hm i H' x H2->H2=H'/\X i x)
  (st:∀ i y H1 H2 zs,H1 acc=some (.lst zs)->a8 acc H1 H2->E i y H1->E i y H2)
  (turn:∀ (i:Nat) (x:V) (σ':St) (H':Hp) (G:V->St->Hp->Prop),i<n->X i x->bL H H'->S σ'->(∀ y σ2 H5,S σ2->bL H' H5->E i y H5->G y σ2 H5)->g x σ' H' λσ2 H3=>te σ2 H3 λy H5=>G y σ2 H5)
  (fin:∀ ys H',ys.length=n->H' acc=some (.lst ys)->bL H H'->(∀ i y,ys[i]?=some y->E i y H')->R H') :
  ∃ W:Nat->Nat->List V->St->Hp->Prop,(∃ m,W 0 m [] σ0 (upd H acc (.lst [])))/\∀ i m ys σ' H',W i m ys σ' H'->H' acc=some (.lst ys) /\
  ((J.stop i H'/\R H')\/(J.go i H'/\∀ x H2,J.Hm i H' x H2->g x σ' H2 λσ2 H3=>tj σ2 H3 λb H4 =>
   if b=true then te σ2 H4 λy H5=>H5 acc=some (.lst ys)/\ys.length<aT/\∃ m',m'<m/\W (i+1) m' (ys++[y]) σ2 (upd H5 acc (.lst (ys++[y]))) else ∃ m',m'<m/\W (i+1) m' ys σ2 H4)):=by
 refine mw (n:=n) (tt:=tj) (λi ys H'=>ys.length=i/\H' acc=some (.lst ys)/\bL H H'/\∀ j y,ys[j]?=some y->E j y H') S ⟨rfl,aE,bL.cD ha,λj y e=>by simp at e⟩ s0 ?_ ?_ ?_ ?_
 ·rintro i ys H' ⟨_,h,_⟩;exact h
 ·rintro ys H' ⟨e,h,S',hE⟩;exact ⟨hstop H' S',fin ys H' e h S' hE⟩
 ·rintro i ys H' hi ⟨e,h,S',hE⟩;exact hgo i H' S' hi
 ·rintro i ys σ' H' x H2 hi ⟨e,h,S',hE⟩ hσ hyl;obtain ⟨rfl,hX⟩:=hy i H' x H2 S' hi hyl;have z:=turn i x σ' H2 (λy σ2 H5=>H5 acc=some (.lst ys)/\ys.length<aT/\∃ m',m'<n-i/\kF n (i+1) S (λys H'=>ys.length=i+1/\H' acc=some (.lst ys)/\bL H H'/\∀ j y,ys[j]?=some y->E j y H') m' (ys++[y]) σ2 (upd H5 acc (.lst (ys++[y])))) hi hX S' hσ ?_
  ·exact z
  ·intro y σ2 H5 h2 S5 hE5;refine ⟨S5 _ _ h,dU (m:=100000) (by lia),kF.mk' hi h2 ⟨by rw [bu,e];rfl,aE,λb o q=>by rw [aH (aP q ha)];exact S5 _ _ (S' _ _ q),λj v hv=>?_⟩⟩;have hb:a8 acc H5 (upd H5 acc (.lst (ys++[y]))):=a8.upd
   by_cases hj:j<ys.length
   ·rw [fE hj] at hv;exact st j v _ _ _ (S5 _ _ h) hb (st j v _ _ _ h (a8.same S5) (hE j v hv))
   ·rw [dS (by lia)] at hv
    have ej:j=i:=by
     by_cases z:j-ys.length=0
     ·lia
     ·rw [cU (by simp;lia)] at hv;cases hv
    subst ej;rw [e,Nat.sub_self] at hv
    have ev:y=v:=by simpa using hv
    subst ev;exact st j y _ _ _ (S5 _ _ h) hb hE5
def A4 {σ0:St}{g:TG}{te:TE}{lo:Int}{n:Nat}{acc:af}{R:Hp->Prop}(E:Nat->V->Hp->Prop) (S:St->Prop) (ha:H acc=none) (s0:S σ0) (hn:n<=100000)
  (st:∀ i y H1 H2 zs,H1 acc=some (.lst zs)->a8 acc H1 H2->E i y H1->E i y H2)
  (turn:∀ (i:Nat) (σ':St) (H':Hp) (G:V->St->Hp->Prop),i<n->bL H H'->S σ'->(∀ y σ2 H5,S σ2->bL H' H5->E i y H5->G y σ2 H5)->g (.int (lo+i)) σ' H' λσ2 H3=>te σ2 H3 λy H5=>G y σ2 H5)
  (fin:∀ ys H',ys.length=n->H' acc=some (.lst ys)->bL H H'->(∀ i y,ys[i]?=some y->E i y H')->R H') :
  ∃ W:Nat->Nat->List V->St->Hp->Prop,(∃ m,W 0 m [] σ0 (upd H acc (.lst [])))/\∀ i m ys σ' H',W i m ys σ' H'->H' acc=some (.lst ys) /\
  (((Ot lo n).stop i H'/\R H')\/((Ot lo n).go i H'/\∀ x H2,(Ot lo n).Hm i H' x H2->g x σ' H2 λσ2 H3=>tj σ2 H3 λb H4 =>
   if b=true then te σ2 H4 λy H5=>H5 acc=some (.lst ys)/\ys.length<aT/\∃ m',m'<m/\W (i+1) m' (ys++[y]) σ2 (upd H5 acc (.lst (ys++[y]))) else ∃ m',m'<m/\W (i+1) m' ys σ2 H4)) :=
 HR E (λi x=>x=.int (lo+i)) S ha s0 hn (λi H' _ h=>h) (λH' _=>ar n) (λi H' x H2 _ _ h=>h) st (λi x σ' H' G hi hX S' hσ k=>by subst hX;exact turn i σ' H' G hi S' hσ k) fin
def O6 {σ0:St}{g:TG}{te:TE}{z acc:af}{xs:List V}{R:Hp->Prop}(E:Nat->V->Hp->Prop) (S:St->Prop) (hz:c9 K H z xs) (ha:H acc=none) (s0:S σ0) (hn:xs.length<=100000)
  (st:∀ i y H1 H2 zs,H1 acc=some (.lst zs)->a8 acc H1 H2->E i y H1->E i y H2)
  (turn:∀ (i:Nat) (x:V) (σ':St) (H':Hp) (G:V->St->Hp->Prop),i<xs.length->xs[i]?=some x->bL H H'->S σ'->(∀ y σ2 H5,S σ2->bL H' H5->E i y H5->G y σ2 H5)->g x σ' H' λσ2 H3=>te σ2 H3 λy H5=>G y σ2 H5)
  (fin:∀ ys H',ys.length=xs.length->H' acc=some (.lst ys)->bL H H'->(∀ i y,ys[i]?=some y->E i y H')->R H') :
  ∃ W:Nat->Nat->List V->St->Hp->Prop,(∃ m,W 0 m [] σ0 (upd H acc (.lst [])))/\∀ i m ys σ' H',W i m ys σ' H'->H' acc=some (.lst ys) /\
  (((Hl K z).stop i H'/\R H')\/((Hl K z).go i H'/\∀ x H2,(Hl K z).Hm i H' x H2->g x σ' H2 λσ2 H3=>tj σ2 H3 λb H4 =>
   if b=true then te σ2 H4 λy H5=>H5 acc=some (.lst ys)/\ys.length<aT/\∃ m',m'<m/\W (i+1) m' (ys++[y]) σ2 (upd H5 acc (.lst (ys++[y]))) else ∃ m',m'<m/\W (i+1) m' ys σ2 H4)) :=
 HR E (λi x=>xs[i]?=some x) S ha s0 hn (λi H' S' h=>⟨xs,_,S'.seq hz,ay h⟩) (λH' S'=>⟨xs,S'.seq hz,ar _⟩) (λi H' x H2 S' _ h=>⟨h.1,h.2 xs (S'.seq hz)⟩) st turn fin
end
end L2
namespace Sx
open PySem PySem.W PyProof.Rows
variable {n:Nat}{k:Nat->Int}
end Sx
namespace L2
open PySem PySem.Spec PyProof.Rows PySem.W
def VP {h:cb}{a:af}{m m':bh->Option ai}(x:h.Ns a m) (y:h.Ns a m'):m=m':=by
 obtain ⟨o,es,ep,e,d,_,r⟩:=x;obtain ⟨o',es',ep',e',d',_,r'⟩:=y;rw [e] at e';cases e';rw [d] at d';cases d'
 funext n
 rw [← r n,← r' n]
def d9.obj {P:aY}{w:bH}{H:Hp}{h:cb}{a:af}{o:HO}(x:d9 P w H h a o):∃ ob,h.get? a=some ob:=by
 cases o with
 | lst xs=>obtain ⟨_,_,_,_,e⟩:=x;exact ⟨_,e⟩
 | tup xs=>obtain ⟨_,_,_,ob,e,_⟩:=x;exact ⟨_,e⟩
 | dK kvs=>obtain ⟨_,_,_,_,ob,_,_,e,_⟩:=x;exact ⟨_,e⟩
 | dT kvs=>obtain ⟨_,_,_,_,ob,_,_,e,_⟩:=x;exact ⟨_,e⟩
 | set S n=>obtain ⟨ob,_,_,_,e,_⟩:=x;exact ⟨_,e⟩
 | ins C dx fs=>obtain ⟨_,_,_,e,_⟩:=x;exact ⟨_,e⟩
 | own y=>exact x
 | xd fs=>obtain ⟨_,⟨ob,_,_,e,_⟩,_⟩:=x;exact ⟨_,e⟩
 | rng lo hi=>obtain ⟨_,_,_,e⟩:=x;exact ⟨_,e⟩
 | frz ob u=>exact ⟨_,x.1⟩
 | tbl ps=>exact ⟨_,x⟩
 | met f y=>exact ⟨_,x⟩
 | ext φ=>exact x.2.1
section
variable {X:Cx}{pins:List (af×ft)}{Z:St}{H:Hp}{s:ak}
def Inv.QW {h':cb}{m:bh->Option ai}{t':Nat}{D:af}{ob:ft}{o:HO}(I:Inv X pins Z H s) (hm:s.heap.Ns X.env.locals m) (F:Fr X.base X.env.locals h' m)
  (N:News X.base X.env.locals h' ((D,ob)::sJ X.base s.heap X.env.locals)) (hD:∀ q∈sJ X.base s.heap X.env.locals,q.1<D) (new:d9 X.prog X.w (upd H D o) h' D o):H D=none/\Inv X pins Z (upd H D o) { s with heap:=h',toks:=t' }:=by
 have nd:=N (D,ob) aw
 have gD:s.heap.get? D=none:=by
  cases q:s.heap.get? D with
  | none=>rfl
  | some u=>exact absurd (hD (D,u) (yK nd.2.1 nd.2.2 q)) (eL _)
 have hn:H D=none:=by
  cases q:H D with
  | none=>rfl
  | some u =>
   obtain ⟨w,e⟩:∃ w,s.heap.get? D=some w:=(I.eC D u q).obj;rw [gD] at e;cases e
 have k:∀ b o,b≠X.env.locals->s.heap.get? b=some o->h'.get? b=some o:=λb o h1 e=>by
  cases q:X.base.get? b with
  | some u =>
   have z:=I.bk b u q;rw [e] at z;cases z
   exact F.keep b _ q
  | none=>exact (N (b,o) (aj _ (yK h1 q e))).1
 have nD:∀ b o,s.heap.get? b=some o->b≠D:=λb o e z=>by rw [z,gD] at e;cases e
 have hH:∀ b u,H b=some u->b≠D:=λb u e=>aP e hn
 refine ⟨hn,I.step (g':=s.gens) (d':=s.drawn) (ch:=[]) (λ_ z=>nomatch z) (λb o h1 _ _ e _=>k b o h1 e) (λb o h1 _ _ e _=>⟨o.slots,k b o h1 e⟩) (λb o _ e n=>by rw [aH (nD b o e)];exact n) (λb o _ e=>?_)
  (λb _ e=>by rw [aH (hH b _ e)];exact e) (λb _ _ e=>by rw [aH (hH b _ e)];exact e) (λb ps e=>⟨#[],by rw [aH (hH b _ e),e];simp⟩) (λm' hm'=>by rw [← VP hm hm'];exact F.ns) (λb u e=>?_) I.bare⟩
 ·by_cases hb:b=X.env.locals
  ·subst hb;obtain ⟨o',_,_,e',_⟩:=F.ns;exact ⟨o',e'⟩
  ·exact ⟨o,k b o hb e⟩
 ·by_cases hb:b=D
  ·subst hb;rw [aE] at e;cases e;exact new
  ·rw [aH hb] at e
   refine (I.eC b u e).yB (λc v hc q=>k c v ?_ q) (λc q=>by rw [aH (hH c _ q)];exact q) λc _ q=>by rw [aH (hH c _ q)];exact q
   rintro rfl
   rcases hc with hc|hc
   ·rw [← hc,I.free] at e;cases e
   ·rw [I.free] at hc;cases hc
end
theorem HS {α:Type} {p q:α->Bool}:∀ {l:List α}{x:α},(∀ y∈l,p y=true->q y=true)->x∈l->p x=false->q x=true->l.countP p<l.countP q
 | y::l,x,h,hx,h1,h2=>by
  have hl:∀ y∈l,p y=true->q y=true:=λy hy=>h y (aj _ hy);have hle:l.countP p<=l.countP q:=NR hl;rw [UJ,UJ]
  rcases av.mp hx with e|hx
  ·subst e;rw [h1,h2];simp;lia
  ·have hlt:=HS hl hx h1 h2
   by_cases hp:p y=true
   ·rw [if_pos hp,if_pos (h y aw hp)];lia
   ·rw [if_neg hp];lia
abbrev Zt:=Int×Int×af
def zP (z:Zt):Int×Int:=(z.1,z.2.1)
def fo (z:Zt):V:=.ref z.2.2
def fX (H:Hp) (z:Zt):Prop:=H z.2.2=some (.tup [.int z.1,.int z.2.1])
section
variable {prog:aY}{w:bH}{A:bN}{s:ak}
end
end L2
namespace L2
open PySem PySem.Spec PyProof.Rows PySem.W
theorem EJ:∀ zs:List Zt,Vals (zs.map fo) (zs.map λz=>aD z.2.2)
 | []=>.nil
 | z::zs=>.cons rfl (EJ zs)
section
variable {X:Cx}
end
section
variable {X:Cx}
end
end L2
namespace Zl
open PySem PySem.W PyProof.Rows
section
variable {prog:aY}{w:bH}{A:bN}{E:ai->ak->Prop}{s:ak}{z TI TO i1 i2 l1 l2:af}{xs ys:Array ai}{k:Nat}
abbrev A5 (h:cb) (z TI TO T:af) (f:Bool):Prop:=h.get? z=some { cls:=.type "zip",dict:=none,data:=.fields #[cA T,.bool f,.bool false,.ref TI,.ref TO],slots:=#[] }
def HU {T:af}{f:Bool}{oT:ft}{Q:Bool->ak->Prop}(hz:A5 s.heap z TI TO T f) (hT:s.heap.get? T=some oT)
  (hQ:∀ h',A5 h' z TI TO T true->gN z s.heap h'->Q false { s with heap:=h' }):aG (aM prog w) A (fQ (.ref z)) Q E s:=by
 unfold fQ;refine ae (kL hz rfl (x:=cA T) rfl ?_);unfold cA;dsimp only;refine ae (kdx_alive (a:=T) hT ?_);simp only [Oa,bV,if_false];refine ae (kL hz rfl (x:=.bool f) rfl ?_)
 cases f with
 | true =>
  rw [if_neg (by decide)]
  exact ao (hQ s.heap hz ⟨rfl,λb hb=>rfl⟩)
 | false =>
  rw [if_pos (by decide)];exact ae (wpAny_setField_rec hz (by simp) λh' hz' hs'=>ao (hQ h' hz' hs'))
def O7 {T:af}{f:Bool}{oT:ft}{x y:ai}{Q:ai->ak->Prop}(D:Ag z TI TO i1 i2 l1 l2) (hz:A5 s.heap z TI TO T f) (hT:s.heap.get? T=some oT) (hTI:tO s.heap TI (.ref i1) (.ref i2))
  (h1:s.heap.IsListIter i1 l1 k) (h2:s.heap.IsListIter i2 l2 k) (hl1:s.heap.IsList l1 xs) (hl2:s.heap.IsList l2 ys) (hx:xs[k]?=some x) (hy:ys[k]?=some y)
  (hQ:∀ h',A5 h' z TI TO T true->h'.IsListIter i1 l1 (k+1)->h'.IsListIter i2 l2 (k+1)->tO h' s.heap.objs.size x y ->
   (∀ c o,c≠z->c≠i1->c≠i2->s.heap.get? c=some o->h'.get? c=some o)->Q (.ref s.heap.objs.size) { s with heap:=h' }) :
  aG (aM prog w) A (ie.«zip.__next__» ⟨[.ref z],[]⟩) (λfin s'=>∃ v,fin=.done (.ret v)/\Q v s') E s:=by
 show aG _ _ (field (.ref z) 2 >>= _) _ _ _
 refine ae (kL hz rfl (x:=.bool false) rfl ?_)
 show aG _ _ (field (.ref z) 3 >>= _) _ _ _
 refine ae (kL hz rfl (x:=.ref TI) rfl (ae (wpAny_seqItems hTI rfl ?_)))
 show aG _ _ (fQ (.ref z) >>= _) _ _ _
 refine ae (HU hz hT λh₀ z₀ s₀=>?_);simp only [bV,if_false];refine ae ?_;rw [← Q5];simp only [tN,Hr];refine ae (ae (cq ?_))
 show aG _ _ (jc (.ref i1) >>= _) _ _ _
 refine ae (xq (s:={ s with heap:=h₀ }) (h1.extBut s₀.extBut D.i1z) (hl1.extBut s₀.extBut D.l1z) hx λh₁ j₁ s₁=>ao (ao ?_));refine ae (ae (cq ?_))
 show aG _ _ (jc (.ref i2) >>= _) _ _ _
 refine ae (xq (s:={ s with heap:=h₁ }) ((h2.extBut s₀.extBut D.i2z).extBut s₁.extBut D.i12.symm) ((hl2.extBut s₀.extBut D.l2z).extBut s₁.extBut D.l2i1) hy λh₂ j₂ s₂=>ao (ao (ao ?_)))
 have sz:h₂.objs.size=s.heap.objs.size:=by rw [s₂.1,s₁.1,s₀.1]
 have zz:A5 h₂ z TI TO T true:=s₂.extBut _ _ D.i2z.symm (s₁.extBut _ _ D.i1z.symm z₀);have kp:∀ c o,c≠z->c≠i1->c≠i2->s.heap.get? c=some o->h₂.get? c=some o:=λc o c1 c2 c3 e=>s₂.extBut _ _ c3 (s₁.extBut _ _ c2 (s₀.extBut _ _ c1 e));refine ae (Ah ?_ (by show 2<=aT;exact L2.bM (m:=2) (ar 2)));refine ao ⟨_,rfl,?_⟩
 show Q (.ref h₂.objs.size) { s with heap:=h₂.push { cls:=.type "tuple",data:=.seq #[x,y] } }
 rw [sz];refine hQ _ (au _ zz) ((Heap.IsListIter.extBut j₁ s₂.extBut D.i12).at λo e=>au _ e) (j₂.at λo e=>au _ e) (by rw [← sz];exact aI _ rfl) λc o c1 c2 c3 e=>au _ (kp c o c1 c2 c3 e)
def R8 {T:af}{f:Bool}{oT:ft}{Q:JW->ak->Prop}(hh:A.handled=none) (D:Ag z TI TO i1 i2 l1 l2) (hz:A5 s.heap z TI TO T f) (hT:s.heap.get? T=some oT) (hTI:tO s.heap TI (.ref i1) (.ref i2))
  (h1:s.heap.IsListIter i1 l1 k) (h2:s.heap.IsListIter i2 l2 k) (hl1:s.heap.IsList l1 xs) (hl2:s.heap.IsList l2 ys) (hend:xs[k]?=none\/ys[k]?=none)
  (hE:∀ h' e,(∀ c o,c≠z->c≠i1->c≠i2->s.heap.get? c=some o->h'.get? c=some o)->(∃ o,h'.get? e=some o/\o.cls=.type "StopIteration")->E (.ref e) { s with heap:=h' }) :
  aG (aM prog w) A (ie.«zip.__next__» ⟨[.ref z],[]⟩) Q E s:=by
 show aG _ _ (field (.ref z) 2 >>= _) _ _ _
 refine ae (kL hz rfl (x:=.bool false) rfl ?_)
 show aG _ _ (field (.ref z) 3 >>= _) _ _ _
 refine ae (kL hz rfl (x:=.ref TI) rfl (ae (wpAny_seqItems hTI rfl ?_)))
 show aG _ _ (fQ (.ref z) >>= _) _ _ _
 refine ae (HU hz hT λh₀ z₀ s₀=>?_);simp only [bV,if_false];refine ae ?_;rw [← Q5];simp only [tN,Hr];refine ae (ae (cq ?_))
 show aG _ _ (jc (.ref i1) >>= _) _ _ _
 cases hx:xs[k]? with
 | none=>exact ae (UK (s:={ s with heap:=h₀ }) hh (h1.extBut s₀.extBut D.i1z) (hl1.extBut s₀.extBut D.l1z) hx λh₁ e s₁ he=>hE h₁ e (λc o c1 c2 c3 q=>s₁ _ _ c2 (s₀.extBut _ _ c1 q)) he)
 | some x =>
  have hy:ys[k]?=none:=by rcases hend with q|q;rw [hx] at q;cases q;exact q
  refine ae (xq (s:={ s with heap:=h₀ }) (h1.extBut s₀.extBut D.i1z) (hl1.extBut s₀.extBut D.l1z) hx λh₁ j₁ s₁=>ao (ao ?_));refine ae (ae (cq ?_))
  show aG _ _ (jc (.ref i2) >>= _) _ _ _
  exact ae (UK (s:={ s with heap:=h₁ }) hh ((h2.extBut s₀.extBut D.i2z).extBut s₁.extBut D.i12.symm) ((hl2.extBut s₀.extBut D.l2z).extBut s₁.extBut D.l2i1) hy λh₂ e s₂ he =>
   hE h₂ e (λc o c1 c2 c3 q=>s₂ _ _ c3 (s₁.extBut _ _ c2 (s₀.extBut _ _ c1 q))) he)
structure ZS (h:cb) (z TI TO i1 i2 l1 l2 S:af) (xs ys:Array ai) (k:Nat):Prop where
 zz:(k=0/\IsZip h z TI TO .none/\∃ a b,tO h TO a b)\/∃ T f oT,A5 h z TI TO T f/\h.get? T=some oT/\T≠z/\T≠i1/\T≠i2/\T≠S
 ti:tO h TI (.ref i1) (.ref i2)
 a1:h.IsListIter i1 l1 k
 a2:h.IsListIter i2 l2 k
 b1:h.IsList l1 xs
 b2:h.IsList l2 ys
structure Off (z TI TO i1 i2 l1 l2 S:af):Prop where
 z:z≠S
 ti:TI≠S
 to:TO≠S
 i1:i1≠S
 i2:i2≠S
 l1:l1≠S
 l2:l2≠S
def ZS.keep {h h':cb}{S:af}(x:ZS h z TI TO i1 i2 l1 l2 S xs ys k) (O:Off z TI TO i1 i2 l1 l2 S) (hk:∀ b o,b≠S->h.get? b=some o->h'.get? b=some o):ZS h' z TI TO i1 i2 l1 l2 S xs ys k where
 zz:=by
  rcases x.zz with ⟨e,hz,a,b,hp⟩|⟨T,f,oT,hz,hT,n1,n2,n3,n4⟩
  ·exact .inl ⟨e,hk _ _ O.z hz,a,b,hk _ _ O.to hp⟩
  ·exact .inr ⟨T,f,oT,hk _ _ O.z hz,hk _ _ n4 hT,n1,n2,n3,n4⟩
 ti:=hk _ _ O.ti x.ti
 a1:=x.a1.at λo e=>hk _ o O.i1 e
 a2:=x.a2.at λo e=>hk _ o O.i2 e
 b1:=x.b1.at λo e=>hk _ o O.l1 e
 b2:=x.b2.at λo e=>hk _ o O.l2 e
def ZS.item {S:af}{x y:ai}{Q:Option ai->ak->Prop}(D:Ag z TI TO i1 i2 l1 l2) (st:ZS s.heap z TI TO i1 i2 l1 l2 S xs ys k) (hS:S<s.heap.objs.size) (hx:xs[k]?=some x) (hy:ys[k]?=some y)
  (hQ:∀ h',ZS h' z TI TO i1 i2 l1 l2 S xs ys (k+1)->tO h' s.heap.objs.size x y->(∀ c o,c≠z->c≠TO->c≠i1->c≠i2->s.heap.get? c=some o->h'.get? c=some o)->Q (some (.ref s.heap.objs.size)) { s with heap:=h' }) :
  aG (aM prog w) A (i9 (.ref z)) Q E s:=by
 have WW:i1<s.heap.objs.size:=by obtain ⟨_,e,_⟩:=st.a1;exact aJ e
 have lt2:i2<s.heap.objs.size:=by obtain ⟨_,e,_⟩:=st.a2;exact aJ e
 rcases st.zz with ⟨e,hz,a,b,hp⟩|⟨T,f,oT,hz,hT,n1,n2,n3,n4⟩
 ·refine wpAny_pyNext_zip_item D hz st.ti hp st.a1 st.a2 st.b1 st.b2 hx hy λh' q1 q2 q3 q4 q5 q6 q7=>?_;refine hQ h' ⟨.inr ⟨_,false,_,q1,q5,dN (aJ hz),dN WW,dN lt2,dN hS⟩,q7 _ _ D.TIz D.TITO D.TIi1 D.TIi2 st.ti,q3,q4,st.b1.at λo e=>q7 _ o D.l1z D.l1TO D.l1i1 D.l1i2 e,st.b2.at λo e=>q7 _ o D.l2z D.l2TO D.l2i1 D.l2i2 e⟩ q5 q7
 ·have ty:s.TypeIs (.ref z) "zip":=⟨_,hz,rfl⟩
  unfold i9
  refine ae (ik (cX (name:=fq "__next__") ty F.slot_zip_next (cI F.slot_zip_next ty F.entry_zip_next
   (O7 D hz hT st.ti st.a1 st.a2 st.b1 st.b2 hx hy λh' q1 q3 q4 q5 q7=>ao ?_) (F.args_zip_next_1 _))))
  refine hQ h' ⟨.inr ⟨T,true,oT,q1,q7 _ _ n1 n2 n3 hT,n1,n2,n3,n4⟩,q7 _ _ D.TIz D.TIi1 D.TIi2 st.ti,q3,q4,st.b1.at λo e=>q7 _ o D.l1z D.l1i1 D.l1i2 e,st.b2.at λo e=>q7 _ o D.l2z D.l2i1 D.l2i2 e⟩ q5 λc o c1 _ c3 c4 e=>q7 c o c1 c3 c4 e
def ZS.done {S:af}{Q:Option ai->ak->Prop}(hh:A.handled=none) (D:Ag z TI TO i1 i2 l1 l2) (st:ZS s.heap z TI TO i1 i2 l1 l2 S xs ys k) (hend:xs[k]?=none\/ys[k]?=none)
  (hQ:∀ h',(∀ c o,c≠z->c≠TO->c≠i1->c≠i2->s.heap.get? c=some o->h'.get? c=some o)->Q none { s with heap:=h' }):aG (aM prog w) A (i9 (.ref z)) Q E s:=by
 rcases st.zz with ⟨e,hz,a,b,hp⟩|⟨T,f,oT,hz,hT,n1,n2,n3,n4⟩
 ·exact wpAny_pyNext_zip_end hh D hz st.ti hp st.a1 st.a2 st.b1 st.b2 hend hQ
 ·have ty:s.TypeIs (.ref z) "zip":=⟨_,hz,rfl⟩
  unfold i9
  refine ae (ik (cX (name:=fq "__next__") ty F.slot_zip_next (cI F.slot_zip_next ty F.entry_zip_next
   (R8 hh D hz hT st.ti st.a1 st.a2 st.b1 st.b2 hend λh' e hk he=>?_) (F.args_zip_next_1 _))))
  obtain ⟨o,ho,hc⟩:=he;exact ae (nA (T:="StopIteration") (b:=true) ⟨o,ho,hc⟩ Ai (ao (hQ _ λc o c1 _ c3 c4 q=>hk c o c1 c3 c4 q)))
structure Made (h:cb) (lo:af) (xs ys:Array ai) (as:List af):Prop where
 up:as.Pairwise (· < ·)
 lo:∀ a∈as,lo<a
 pr:∀ (j:Nat) (a:af),as[j]?=some a->∃ x y,xs[j]?=some x/\ys[j]?=some y/\tO h a x y
def J7 {S n:Nat}{R:JH->ak->Prop}(hh:A.handled=none) (D:Ag z TI TO i1 i2 l1 l2) (O:Off z TI TO i1 i2 l1 l2 S) (hn:min xs.size ys.size=n) (hn2:n<=100000) (res:ai) (lo:af) (hlo:z<=lo/\TO<=lo/\i1<=lo/\i2<=lo/\S<=lo) {h₀:cb}
  (hR:∀ h' tk acc c as,(∀ b o,b≠S->b≠z->b≠TO->b≠i1->b≠i2->h₀.get? b=some o->h'.get? b=some o)->h'.get? S=some { cls:=.type "list",dict:=none,data:=.seq acc c,slots:=#[] }->acc.toList=as.map aD->as.length=n->Made h' lo xs ys as->R (.ok (.ret res)) { s with heap:=h',toks:=tk }) :
  ∀ (m i:Nat) (h:cb) (tk c:Nat) (acc:Array ai) (as:List af),n-i=m->i<=n->ZS h z TI TO i1 i2 l1 l2 S xs ys i->(∀ b o,b≠S->b≠z->b≠TO->b≠i1->b≠i2->h₀.get? b=some o->h.get? b=some o) ->
   h.get? S=some { cls:=.type "list",dict:=none,data:=.seq acc c,slots:=#[] }->acc.toList=as.map aD->as.length=i->Made h lo xs ys as->lo<h.objs.size ->
   km (aM prog w) A (.builtin "list.extend.loop" ⟨[.ref S,.ref z,res],[]⟩) R { s with heap:=h,toks:=tk }:=by
 intro m
 induction m with
 | zero =>
  intro i h tk c acc as hm hi st kp hS hacc hal hM hlh
  have ei:i=n:=by lia
  subst ei;refine fU Fk ?_;rw [dO dW _]
  show aG _ A.in1 (i9 (.ref z) >>= _) _ _ _
  have hend:xs[i]?=none\/ys[i]?=none:=by
   by_cases q:xs.size<=i
   ·exact .inl (gM q)
   ·exact .inr (gM (by lia))
  refine ae (ZS.done (s:={ s with heap:=h,toks:=tk }) (A:=A.in1) hh D st hend λh' he=>?_);refine ao (hR h' tk acc c as (λb o b1 b2 b3 b4 b5 e=>he b o b2 b3 b4 b5 (kp b o b1 b2 b3 b4 b5 e)) (he S _ (Ne.symm O.z) (Ne.symm O.to) (Ne.symm O.i1) (Ne.symm O.i2) hS) hacc hal ⟨hM.up,hM.lo,λj a hj=>?_⟩);obtain ⟨x,y,q1,q2,q3⟩:=hM.pr j a hj;have far:∀ {b:af},b<=lo->a≠b:=λhb=>dN (bw hb (hM.lo a (aL hj)))
  exact ⟨x,y,q1,q2,he a _ (far hlo.1) (far hlo.2.1) (far hlo.2.2.1) (far hlo.2.2.2.1) q3⟩
 | succ m ih =>
  intro i h tk c acc as hm hi st kp hS hacc hal hM hlh
  have hlt:i<n:=by lia
  obtain ⟨x,hx⟩:∃ x,xs[i]?=some x:=⟨_,b9 (by lia)⟩
  obtain ⟨y,hy⟩:∃ y,ys[i]?=some y:=⟨_,b9 (by lia)⟩
  refine fU Fk ?_;rw [dO dW _]
  show aG _ A.in1 (i9 (.ref z) >>= _) _ _ _
  refine ae (ZS.item (s:={ s with heap:=h,toks:=tk }) (A:=A.in1) D st (aJ hS) hx hy λh' st' hp kk=>?_);have hS':=kk S _ (Ne.symm O.z) (Ne.symm O.to) (Ne.symm O.i1) (Ne.symm O.i2) hS
  have hsz:acc.size=i:=by rw [← aK,hacc,ag,hal]
  show aG _ A.in1 (JM S (·.push (aD h.objs.size)) >>= _) _ _ _
  refine ae (pE hS' rfl (ao ⟨jd dW _,?_⟩) (by rw [hsz];exact L2.bM (m:=100000) (by lia)) (by rw [iw,hsz];exact UL (L2.bM (m:=100000) (by lia))));have oth:∀ b o,b≠S->h'.get? b=some o->(h'.update S (bO (·.push (aD h.objs.size)))).get? b=some o:=λb o hb e=>(bz _ _ (Ne.symm hb)).trans e;have hnS:h.objs.size≠S:=dN (aJ hS);refine ih (i+1) _ tk _ (acc.push (aD h.objs.size)) (as++[h.objs.size]) (by lia) hlt (st'.keep O oth) (λb o b1 b2 b3 b4 b5 e=>oth b o b1 (kk b o b2 b3 b4 b5 (kp b o b1 b2 b3 b4 b5 e))) (bQ _ hS' rfl) (by rw [Aj,hacc,aU];rfl) (by rw [bu,hal];rfl) ⟨?_,λa ha=>?_,λj a hj=>?_⟩ ?_
  ·refine gf.mpr ⟨hM.up,qK _ _,λa ha b hb=>?_⟩;rw [aA.mp hb];obtain ⟨j,hj⟩:=bx.mp ha;obtain ⟨_,_,_,_,q⟩:=hM.pr j a hj;exact aJ q
  ·rcases aN.mp ha with q|q
   ·exact hM.lo a q
   ·rw [aA.mp q];exact hlh
  ·by_cases q:j<as.length
   ·rw [fE q] at hj;obtain ⟨x',y',q1,q2,q3⟩:=hM.pr j a hj;have far:∀ {b:af},b<=lo->a≠b:=λhb=>dN (bw hb (hM.lo a (aL hj)));exact ⟨x',y',q1,q2,oth a _ (far hlo.2.2.2.2) (kk a _ (far hlo.1) (far hlo.2.1) (far hlo.2.2.1) (far hlo.2.2.2.1) q3)⟩
   ·rw [dS (by lia)] at hj
    have ej:j-as.length=0:=by
     by_cases w:j-as.length=0
     ·exact w
     ·rw [cU (by simp;lia)] at hj;cases hj
    rw [ej] at hj
    have ea:h.objs.size=a:=by simpa using hj
    have ej':j=i:=by lia
    subst ea ej';exact ⟨x,y,hx,hy,oth _ _ hnS hp⟩
  ·rw [qL];exact br hlh (kx (aJ hp))
def VQ:typeLookup (.type "zip") "__len__"=pure none:=by rw [xB,nq];kernel_rfl
def R9:typeLookup (.type "zip") "__length_hint__"=pure none:=by rw [xB,nq];kernel_rfl
def VR {Q:Bool->ak->Prop}(ty:s.TypeIs (.ref z) "zip") (h:Q true s):aG (aM prog w) A (je (.ref z)) Q E s:=by
 unfold je;refine ae (Lu ty VQ ?_);refine ae (Lu ty R9 ?_);exact ao h
def VS {S c₀ n:Nat} {R:JH->ak->Prop}{va vb:ai}(hh:A.handled=none) (D:Ag z TI TO i1 i2 l1 l2) (O:Off z TI TO i1 i2 l1 l2 S) (hn:min xs.size ys.size=n) (hn2:n<=100000) (res:ai) (hz:IsZip s.heap z TI TO .none) (hTO:tO s.heap TO va vb)
  (st:ZS s.heap z TI TO i1 i2 l1 l2 S xs ys 0) (hS:s.heap.get? S=some { cls:=.type "list",data:=.seq #[] c₀ })
  (hR:∀ h' tk acc c as,(∀ b o,b≠S->b≠z->b≠TO->b≠i1->b≠i2->s.heap.get? b=some o->h'.get? b=some o)->h'.get? S=some { cls:=.type "list",dict:=none,data:=.seq acc c,slots:=#[] }->acc.toList=as.map aD->as.length=n->Made h' (s.heap.objs.size-1) xs ys as->R (.ok (.ret res)) { s with heap:=h',toks:=tk }) :
  aG (aM prog w) A.in1 (gg (.ref S) (.ref z) res) (λfin s'=>match fin with | .done f=>R (.ok f) s' | .again c'=>c'.quiet=true/\km (aM prog w) A c' R s') (λe s'=>R (.error e) s') s:=by
 have ty:s.TypeIs (.ref z) "zip":=⟨_,hz,rfl⟩
 have lts:∀ {b:af}{o:ft},s.heap.get? b=some o->b<=s.heap.objs.size-1:=λe=>Nat.le_sub_one_of_lt (aJ e)
 have WW:i1<=s.heap.objs.size-1:=by obtain ⟨_,e,_⟩:=st.a1;exact lts e
 have lt2:i2<=s.heap.objs.size-1:=by obtain ⟨_,e,_⟩:=st.a2;exact lts e
 have pos:0<s.heap.objs.size:=bw (aQ _) (aJ hz)
 have key:∀ (h:cb) (c₁ tk:Nat),h.objs.size=s.heap.objs.size->(∀ b o,b≠S->s.heap.get? b=some o->h.get? b=some o)->h.get? S=some { cls:=.type "list",data:=.seq #[] c₁ } ->
   km (aM prog w) A (.builtin "list.extend.loop" ⟨[.ref S,.ref z,res],[]⟩) R { s with heap:=h,toks:=tk }:=λh c₁ tk hsz kp hS₁ =>
  J7 (h₀:=s.heap) hh D O hn hn2 res (s.heap.objs.size-1) ⟨lts hz,lts hTO,WW,lt2,lts hS⟩ hR n 0 h tk c₁ #[] [] rfl (aQ _) (st.keep O kp) (λb o b1 _ _ _ _ e=>kp b o b1 e) hS₁ rfl rfl ⟨mR,(λa ha=>nomatch ha),λj a hj=>by simp at hj⟩ (by rw [hsz];exact Nat.sub_lt pos (by decide))
 unfold gg;refine ae (G1 (T:="zip") ty ?_)
 have e1:jM (.ref S) (.ref z)=false:=by simp [jM,Ne.symm O.z]
 have e2:(eS "zip" == eS "list")=false:=by decide
 have e3:(eS "zip" == eS "tuple")=false:=by decide
 simp only [e1,e2,e3,Bool.or_false,bV,if_false];refine ae (wpAny_pyIter_zip hz (ae (cq (VR ty ?_))));refine jR (λ_=>ae (jf (ae ?_))) (λ_=>ao ⟨jd dW _,key _ c₀ _ rfl (λb o _ e=>e) hS⟩)
 show aG _ _ (JM S (·.push .none) >>= λ_=>JM S (·.pop)) _ _ _
 have g₂:=bQ (bO (·.push eQ)) hS rfl;have g₃:=bQ (bO (·.pop)) g₂ rfl;refine ae (pE hS rfl (pE (hz:=by seq_fits) g₂ rfl (ao ⟨jd dW _,key _ _ _ ?_ (λb o hb e=>?_) g₃⟩)))
 ·rw [qL,qL]
 ·exact (bz _ _ (Ne.symm hb)).trans ((bz _ _ (Ne.symm hb)).trans e)
def M8 {n:Nat}{Q:ai->ak->Prop}{va vb:ai}(hh:A.handled=none) (D:Ag z TI TO i1 i2 l1 l2) (hn:min xs.size ys.size=n) (hn2:n<=100000) (hz:IsZip s.heap z TI TO .none) (hTO:tO s.heap TO va vb) (hTI:tO s.heap TI (.ref i1) (.ref i2))
  (a1:s.heap.IsListIter i1 l1 0) (a2:s.heap.IsListIter i2 l2 0) (b1:s.heap.IsList l1 xs) (b2:s.heap.IsList l2 ys)
  (hQ:∀ h' tk acc c as,(∀ b o,b≠z->b≠TO->b≠i1->b≠i2->s.heap.get? b=some o->h'.get? b=some o)->h'.get? s.heap.objs.size=some { cls:=.type "list",dict:=none,data:=.seq acc c,slots:=#[] }->acc.toList=as.map aD->as.length=n->Made h' s.heap.objs.size xs ys as->Q (.ref s.heap.objs.size) { s with heap:=h',toks:=tk }) :
  aG (aM prog w) A (call (.type "list") [.ref z]) Q E s:=by
 refine callType_codes (Q₁:=λobj s₁=>obj=.ref s.heap.objs.size/\s₁={ s with heap:=s.heap.push { cls:=.type "list",data:=.seq #[] } }) PySem.F.called_list (PySem.F.typeCall_list_1 _) PySem.F.entry_list_init (code_list_new _ ⟨rfl,rfl⟩) ?_;rintro obj s₁ ⟨rfl,rfl⟩;have hS:(s.heap.push { cls:=.type "list",data:=.seq #[] }).get? s.heap.objs.size=some { cls:=.type "list",data:=.seq #[] }:=aI _ rfl;refine ⟨⟨_,hS,rfl⟩,PySem.F.args_list_init_2 _ _,?_⟩;have ne:∀ {b:af}{o:ft},s.heap.get? b=some o->b≠s.heap.objs.size:=λe=>a9 (aJ e)
 have O:Off z TI TO i1 i2 l1 l2 s.heap.objs.size:=⟨ne hz,ne hTI,ne hTO,by obtain ⟨_,e,_⟩:=a1;exact ne e,by obtain ⟨_,e,_⟩:=a2;exact ne e,by obtain ⟨_,e,_⟩:=b1;exact ne e,by obtain ⟨_,e,_⟩:=b2;exact ne e⟩
 show aG _ _ (do let old ← CQ (.ref s.heap.objs.size);iz (.ref s.heap.objs.size) (λ_=>#[]);letGo old.toList.reverse;gg (.ref s.heap.objs.size) (.ref z) .none) _ _ _
 refine ae (G7 hS rfl (ae (lL hS rfl (ae (JX ?_)) (aQ _) (aQ _))));have g₂:=bQ (bO (λ_=>(#[]:Array ai))) hS rfl;have kp:∀ b o,s.heap.get? b=some o->((s.heap.push { cls:=.type "list",data:=.seq #[] }).update s.heap.objs.size (bO (λ_=>(#[]:Array ai)))).get? b=some o:=λb o e=>(bz _ _ (Ne.symm (ne e))).trans (au _ e)
 have sz:((s.heap.push { cls:=.type "list",data:=.seq #[] }).update s.heap.objs.size (bO (λ_=>(#[]:Array ai)))).objs.size-1=s.heap.objs.size:=by rw [qL,iW];rfl
 refine VS (s:={ s with heap:=(s.heap.push { cls:=.type "list",data:=.seq #[] }).update s.heap.objs.size (bO (λ_=>(#[]:Array ai))) }) (A:=A.in1) hh D O hn hn2 .none (kp _ _ hz) (kp _ _ hTO) ⟨.inl ⟨rfl,kp _ _ hz,_,_,kp _ _ hTO⟩,kp _ _ hTI,a1.at λo e=>kp _ o e,a2.at λo e=>kp _ o e,b1.at λo e=>kp _ o e,b2.at λo e=>kp _ o e⟩ g₂ λh' tk acc c as k1 k2 k3 k4 k5=>?_;have k5':Made h' s.heap.objs.size xs ys as:=sz▸k5;exact ⟨rfl,hQ h' tk acc c as (λb o c1 c2 c3 c4 e=>k1 b o (ne e) c1 c2 c3 c4 (kp b o e)) k2 k3 k4 k5'⟩
end
end Zl
namespace L2
open PySem PySem.Spec PyProof.Rows PySem.W
section
variable {X:Cx}{pins:List (af×ft)}{Z:St}{H H':Hp}{s:ak}
def Inv.grow {h':cb}{t':Nat}(I:Inv X pins Z H s) (k:∀ b u,s.heap.get? b=some u->h'.get? b=some u) (sub:bL H H') (new:∀ b,b<s.heap.objs.size->H b=none->H' b=none) (ok:qv X.prog X.w H' h'):Inv X pins Z H' { s with heap:=h',toks:=t' } :=
 I.un ⟨λb o e _ _ _=>k b o e,λb o e _ _ _=>⟨o.slots,k b o e⟩,λb o e n _=>new b (aJ e) n,λb o e _=>⟨o,k b o e⟩,λb _ e=>sub _ _ e,λb _ _ e=>sub _ _ e,λb ps e=>⟨#[],by rw [sub _ _ e];simp⟩⟩ ok
end
def C5 (H:Hp) (zs:List Zt):Hp:=λb=>match zs.find? (λz=>z.2.2 == b) with|some z=>some (.tup [.int z.1,.int z.2.1])|none=>H b
def O8 {H:Hp}{zs:List Zt}{b:af}(h:∀ z∈zs,z.2.2≠b):C5 H zs b=H b:=by
 unfold C5;rw [Ro.mpr λz hz=>by simpa using h z hz]
theorem HV {H:Hp}:∀ {zs:List Zt}{z:Zt},(zs.map λz=>z.2.2).Nodup->z∈zs->C5 H zs z.2.2=some (.tup [.int z.1,.int z.2.1])
 | y::zs,z,hn,hz=>by
  unfold C5;rw [bU,bp] at hn
  rcases av.mp hz with e|hz
  ·subst e;rw [List.find?_cons_of_pos (by simp)]
  ·have hne:¬ (y.2.2 == z.2.2)=true:=λq=>hn.1 (by
    have e:y.2.2=z.2.2:=by simpa using q
    rw [e];exact bq hz)
   rw [List.find?_cons_of_neg (p:=λw:Zt=>w.2.2 == z.2.2) hne];exact HV hn.2 hz
def O9 (K:aa) (t:TA):TE:=λZ H Q=>t Z H λvs H1=>∃ (a b:af) (ns ms:List Int),vs=[.ref a,.ref b]/\c9 K H1 a (ns.map V.int)/\c9 K H1 b (ms.map V.int)/\ns.length<=100000 /\
 ∀ (l:af) (zs:List Zt) (H2:Hp),bL H1 H2->H1 l=none->H2 l=some (.lst (zs.map fo))->(∀ z∈zs,fX H2 z)->zs.map zP=ns.zip ms->Q (.ref l) H2
theorem FL:∀ {vs:List ai}{ns:List Int}{j:Nat}{v:ai},eO vs ns->vs[j]?=some v->∃ i t,ns[j]?=some i/\v=.int i t
 | _,_,0,v,.cons n t r,e=>by simp at e;exact ⟨n,t,rfl,e.symm⟩
 | _,_,j+1,v,.cons n t r,e=>FL (j:=j) r (by simpa using e)
 | _,_,j,v,.nil,e=>by simp at e
def Pa {h:cb}{lo:af}{xs ys:List ai}{ns ms:List Int}(hx:eO xs ns) (hy:eO ys ms):∀ {as:List af},(∀ (j:Nat) (a:af),as[j]?=some a->∃ x y,xs.toArray[j]?=some x/\ys.toArray[j]?=some y/\tO h a x y)->as.length=min ns.length ms.length ->
  ∃ zs:List Zt,zs.map (λz=>z.2.2)=as/\zs.map zP=ns.zip ms/\∀ z∈zs,∃ t u,tO h z.2.2 (.int z.1 t) (.int z.2.1 u):=by
 intro as hp hl;have hlx:=hx.length;have hly:=hy.length;refine ⟨(ns.zip ms).zipWith (λt a=>(t.1,t.2,a)) as,?_,?_,λz hz=>?_⟩
 ·apply jK
  intro j;rw [ax,uJ]
  by_cases hj:j<as.length
  ·rw [ay hj,ay (by rw [tP];lia)];rfl
  ·rw [cU (mF hj)];cases (ns.zip ms)[j]?<;>rfl
 ·apply jK
  intro j;rw [ax,uJ]
  by_cases hj:j<as.length
  ·rw [ay hj,ay (by rw [tP];lia)];rfl
  ·rw [cU (mF hj),cU (by rw [tP];lia)];rfl
 ·obtain ⟨j,hj⟩:=bx.mp hz;rw [uJ] at hj
  cases ea:as[j]? with
  | none =>
   rw [ea] at hj
   cases ew:(ns.zip ms)[j]? with
   | none=>rw [ew] at hj;cases hj
   | some w=>rw [ew] at hj;cases hj
  | some a =>
   obtain ⟨x,y,q1,q2,q3⟩:=hp j a ea;obtain ⟨i,t,e1,rfl⟩:=FL (j:=j) hx (by simpa using q1);obtain ⟨i',u,e2,rfl⟩:=FL (j:=j) hy (by simpa using q2)
   have ez:(ns.zip ms)[j]?=some (i,i'):=by rw [pI];exact ⟨e1,e2⟩
   rw [ea,ez] at hj;have:z=(i,i',a):=(aV hj).symm;subst this;exact ⟨t,u,q3⟩
section
variable {X:Cx}{x y:Expr}{t:TA}{p1 p2 q1 q2:kM}
def Sa (hc:X.calm=true) (hgl:Gl X "list") (hml:X.mg "list"=none) (hgz:Gl X "zip") (hmz:X.mg "zip"=none) (ha:PA X [x,y] t)
  (he:bF [.Call (.Name "zip" p1) [x,y] [] p2] X.env=[(false,eN (.Call (.Name "zip" p1) [x,y] [] p2) X.env)]:=by rfl) (he2:bF [x,y] X.env=(false,eN x X.env)::bF [y] X.env:=by rfl) (hpl:(gm p2 (bF [y] X.env)).any (·.1)=false:=by rfl) :
  PE X (.Call (.Name "list" q1) [.Call (.Name "zip" p1) [x,y] [] p2] [] q2) (O9 X.K t):=by
 intro pins s Z H Q I h;refine fc (nW I hgl hml BootT.list (f9 ?_ he rfl));rw [he]
 show aG _ _ (spliced ((false,eN (.Call (.Name "zip" p1) [x,y] [] p2) X.env)::gm q2 (bF [] X.env))) _ _ s
 refine eT (fc (nW I hgz hmz BootT.zip (f9 (gP (ha p2 pins s Z H _ I h) λus s1 ⟨vs,H1,I1,r1,q⟩=>?_) he2 hpl)));obtain ⟨a,b,ns,ms,rfl,hA,hB,hle,k⟩:=q;obtain ⟨u,v,rfl,ru,rv⟩:=vals2 r1;cases ru;cases rv;obtain ⟨xs,vx,px,_⟩:=I1.list hA;obtain ⟨ys,vy,py,_⟩:=I1.list hB;have ix:=intsAre_of vx;have iy:=intsAre_of vy;have lx:=ix.length;have ly:=iy.length
 have al:a<s1.heap.objs.size:=by obtain ⟨_,e,_⟩:=px.isList;exact aJ e
 have bl:b<s1.heap.objs.size:=by obtain ⟨_,e,_⟩:=py.isList;exact aJ e
 refine call_zip_2 px.isList py.isList λh' hz hTI hTO j1 j2 hsz hk=>jC ?_;refine Zl.M8 (s:={ s1 with heap:=h' }) (n:=min ns.length ms.length) (I1.ok.hd hc) (zipApart_new al bl) (by rw [aO,aO,lx,ly]) (by lia) hz hTO hTI j1 j2 (px.isList.at λo e=>hk _ o e) (py.isList.at λo e=>hk _ o e) λh2 tk acc c as k1 k2 k3 k4 k5=>?_;obtain ⟨zs,e1,e2,e3⟩:=Pa (lo:=0) ix iy k5.pr k4
 have old:∀ b o,s1.heap.get? b=some o->h2.get? b=some o:=λb o e=>by
  have hb:=aJ e;refine k1 b o (a9 (br hb (hW _ _))) (a9 (br hb (hW _ _))) (a9 hb) (a9 (br hb (hW _ _))) (hk b o e)
 have up:∀ z∈zs,h'.objs.size<z.2.2:=λz hz=>k5.lo _ (by rw [← e1];exact bq hz);have hs5:h'.objs.size=s1.heap.objs.size+5:=hsz
 have nd:(zs.map λz=>z.2.2).Nodup:=by rw [e1];exact k5.up.imp λq=>a9 q
 have far:∀ z∈zs,∀ b:af,b<s1.heap.objs.size->z.2.2≠b:=λz hz b hb=>dN (tM (br hb (by rw [hs5];exact hW _ _)) (up z hz));have lf:∀ b:af,b<s1.heap.objs.size->b≠h'.objs.size:=λb hb=>a9 (br hb (by rw [hs5];exact hW _ _))
 have hold:∀ b:af,b<s1.heap.objs.size->upd (C5 H1 zs) h'.objs.size (.lst (zs.map fo)) b=H1 b:=λb hb=>by rw [aH (lf b hb),O8 λz hz=>far z hz b hb]
 have S:bL H1 (upd (C5 H1 zs) h'.objs.size (.lst (zs.map fo))):=λb o e=>by rw [hold b (I1.eC.lt e)];exact e
 have hpair:∀ z∈zs,fX (upd (C5 H1 zs) h'.objs.size (.lst (zs.map fo))) z:=λz hz=>by
  show upd (C5 H1 zs) h'.objs.size (.lst (zs.map fo)) z.2.2=_
  rw [aH (dN (up z hz))];exact HV nd hz
 have hlz:zs.length<=100000:=by
  have:=congrArg dR e2;rw [ag,tP] at this;lia
 have I2:Inv X pins Z (upd (C5 H1 zs) h'.objs.size (.lst (zs.map fo))) { s1 with heap:=h2,toks:=tk }:=I1.grow old S (λb hb n=>by rw [hold b hb];exact n) λb o e=>by
  by_cases hb:b<s1.heap.objs.size
  ·rw [hold b hb] at e;exact (I1.eC b o e).yB (λc v _ q=>old c v q) (λc q=>S _ _ q) λc _ q=>S _ _ q
  ·by_cases hl:b=h'.objs.size
   ·subst hl;rw [aE] at e;cases e;refine ⟨by rw [ag];exact bM hlz,acc.toList,c,?_,by rw [Array.toArray_toList];exact k2⟩;rw [k3,← e1,bK];exact EJ zs
   ·rw [aH hl] at e;unfold C5 at e
    cases w:zs.find? (λz=>z.2.2 == b) with
    | none =>
     rw [w] at e;have e:H1 b=some o:=e;rw [I1.eC.fresh (mF hb)] at e
     cases e
    | some z =>
     rw [w] at e;cases e;have hz':=JN w
     have eb:z.2.2=b:=by simpa using WB w
     subst eb;obtain ⟨t,u,hp⟩:=e3 z hz';exact ⟨bM (m:=2) (ar 2),[.int z.1 t,.int z.2.1 u],.cons ⟨t,rfl⟩ (.cons ⟨u,rfl⟩ .nil),⟨_,hp,rfl,_,rfl⟩⟩
 exact ⟨.ref h'.objs.size,_,I2,rfl,k _ zs _ S (I1.eC.fresh (by rw [hs5];exact hW _ _)) aE hpair e2⟩
def VT {K:aa}{t:TA}{Z:St}{H:Hp}{Q:VK}(h:t Z H λvs H1=>∃ (a b:af) (ns ms:List Int),vs=[.ref a,.ref b]/\c9 K H1 a (ns.map V.int)/\c9 K H1 b (ms.map V.int)/\ns.length<=100000 /\
 ∀ (l:af) (zs:List Zt) (H2:Hp),bL H1 H2->H1 l=none->H2 l=some (.lst (zs.map fo))->(∀ z∈zs,fX H2 z)->zs.map zP=ns.zip ms->Q (.ref l) H2):O9 K t Z H Q:=h
end
end L2
namespace L2
open PySem PySem.Spec PyProof.Rows PySem.W
def yC (h:cb) (d:af) (ks:List ai) (ep:Nat):Prop:=∃ o es,h.get? d=some o/\o.ExactDict/\o.data=.dict es ep/\es.toList.map (·.key)=ks
def yC.at {h h':cb}{d:af}{ks:List ai}{ep:Nat}(x:yC h d ks ep) (k:∀ o,h.get? d=some o->h'.get? d=some o):yC h' d ks ep :=
 let ⟨o,es,e,r⟩:=x;⟨o,es,k o e,r⟩
def yC.lt {h:cb}{d:af}{ks:List ai}{ep:Nat}(x:yC h d ks ep):d<h.objs.size:=let ⟨_,_,e,_⟩:=x;aJ e
section
variable {prog:aY}{w:bH}{A:bN}{E:ai->ak->Prop}{s:ak}{d it:af}{ks:List ai}{ep i:Nat}
def yC.typeIs (x:yC s.heap d ks ep):s.TypeIs (.ref d) "dict":=let ⟨o,_,e,c,_⟩:=x;⟨o,e,c.1⟩
def vL {Q:ai->ak->Prop}(hd:(d == gR)=false) (x:yC s.heap d ks ep)
  (q:Q (.ref s.heap.objs.size) { s with heap:=s.heap.push { cls:=.type "dict_keyiterator",data:=.fields #[.ref d,.int 0 0,.int ks.length 0,.int ep 0] } }):aG (aM prog w) A (NM (.ref d)) Q E s:=by
 have hT:=x.typeIs;obtain ⟨o,es,e,c,da,hk⟩:=x
 have hs:es.size=ks.length:=by rw [← hk,ag,aK]
 refine G8 hT F.slot_dict_iter (cI F.slot_dict_iter hT F.entry_dict_iter ?_ (F.args_dict_iter_1 _));unfold ie.«dict.__iter__» Builtin.Dict.dictSlotNone;refine ae (ae (UM hT ?_))
 show aG _ _ (pure (aD d)) _ _ s
 refine ao ?_
 show aG _ _ (En d >>= _) _ _ s
 unfold En;rw [if_neg (by rw [hd];exact bA)];refine ae (ao (ae (kq e da (ae (Lx e da ?_)))));refine ae (cz (ao ⟨_,rfl,"dict_keyiterator",_,⟨_,aI _ rfl,rfl⟩,F.slot_dict_keyiterator_next.lookup,?_⟩))
 simpa [cA,hs] using q
def A6 {Q:Option ai->ak->Prop}{v:ai}(t:s.heap.IsKeyIter it d i ks.length ep) (x:yC s.heap d ks ep) (hv:ks[i]?=some v)
  (q:∀ h',h'.IsKeyIter it d (i+1) ks.length ep->gN it s.heap h'->Q (some v) { s with heap:=h' }):aG (aM prog w) A (i9 (.ref it)) Q E s:=by
 have tt:=t.typeIs;obtain ⟨ob,g,gc,gd⟩:=id t;obtain ⟨o,es,e,c,da,hk⟩:=x
 have hs:es.size=ks.length:=by rw [← hk,ag,aK]
 have hi:i<es.size:=by rw [hs];exact (aC.mp hv).1
 have ev:es[i].key=v:=by
  rw [← hk,ax] at hv
  simpa [hi] using hv
 unfold i9;refine ae (ik (cX (name:=fq "__next__") tt F.slot_dict_keyiterator_next (cI F.slot_dict_keyiterator_next tt F.entry_dict_keyiterator_next ?_ (F.args_dict_keyiterator_next_1 _))));refine ae (ao (ae (ae ?_)))
 first|refine ae (jD tt (ao ?_))|refine ae (lM tt (ao ?_))
 refine ae (mH g gd ?_);simp only [show sT "dict_keyiterator"=false by decide,bV,if_false]
 show aG _ _ (if (aD d == eQ)=true then _ else _) _ _ s
 rw [if_neg (show ¬ ((aD d == eQ)=true) from bA)];refine ae (ao (ae (kq e da ?_)));rw [if_neg (by rw [hs];simp)];refine ae (ao (ae (Lx e da ?_)));rw [if_neg (by simp)];refine ao ?_;simp only [show ¬ ((i:Int)<0) from by lia,if_false,gF,b9 hi];refine ae ?_
 first|refine ae (jD tt (ao ?_))|refine ae (lM tt (ao ?_))
 refine ae (UN tt ?_)
 show aG _ _ (setField (.ref it) 1 (cA ((i:Int)+1)) >>= _) _ _ s
 refine ae (jm g gd (by simp) ?_)
 have t':(s.heap.update it (mS (·.setIfInBounds 1 (cA ((i:Int)+1))))).IsKeyIter it d (i+1) ks.length ep :=
  ⟨_,bQ _ g (jL (c8 gd _)),(qz ..).trans gc,by rw [c8 gd];simp [cA]⟩
 refine ae (cq ?_);refine ae (UN (s:={ s with heap:=s.heap.update it (mS (·.setIfInBounds 1 (cA ((i:Int)+1)))) }) t'.typeIs ?_)
 show aG _ _ (pure es[i].key) _ _ _
 rw [ev];exact ao (ao ⟨_,rfl,ao (q _ t' (cZ ..))⟩)
def FM {Q:Option ai->ak->Prop}(hh:A.handled=none) (hi:ks.length<=i) (t:s.heap.IsKeyIter it d i ks.length ep) (x:yC s.heap d ks ep) (q:∀ h',Ob it s.heap h'->Q none { s with heap:=h' }):aG (aM prog w) A (i9 (.ref it)) Q E s:=by
 have tt:=t.typeIs;obtain ⟨ob,g,gc,gd⟩:=id t;obtain ⟨o,es,e,c,da,hk⟩:=x
 have hs:es.size=ks.length:=by rw [← hk,ag,aK]
 unfold i9;refine ae (ik (cX (name:=fq "__next__") tt F.slot_dict_keyiterator_next (cI F.slot_dict_keyiterator_next tt F.entry_dict_keyiterator_next ?_ (F.args_dict_keyiterator_next_1 _))));refine ae (ao (ae (ae ?_)))
 first|refine ae (jD tt (ao ?_))|refine ae (lM tt (ao ?_))
 refine ae (mH g gd ?_);simp only [show sT "dict_keyiterator"=false by decide,bV,if_false]
 show aG _ _ (if (aD d == eQ)=true then _ else _) _ _ s
 rw [if_neg (show ¬ ((aD d == eQ)=true) from bA)];refine ae (ao (ae (kq e da ?_)));rw [if_neg (by rw [hs];simp)];refine ae (ao (ae (Lx e da ?_)));rw [if_neg (by simp)];refine ao ?_;simp only [show ¬ ((i:Int)<0) from by lia,if_false,gF,gM (bf (ky hs) hi)];refine ae ?_
 first|refine ae (jD tt (ao ?_))|refine ae (lM tt (ao ?_))
 show aG _ _ (setField (.ref it) 0 .none >>= _) _ _ s
 refine ae (jm g gd (by simp) ?_)
 show aG _ _ (SX (.type "StopIteration") [] >>= _) _ _ _
 refine ae ?_;simp only [SX,newTuple];refine ae (cz ?_ (by size_fits));refine ae (m:=mI _ _) (JY (a:=eQ) (by first|rfl|(simp only [mI];rfl)) ?_);refine cz ?_ (by size_fits);simp only [raiseNew];refine ae (Q6 ?_);rw [show A.in1.handled=none from hh];refine ae (ao (WC ?_));refine ae (nA (T:="StopIteration") (b:=true) ⟨_,aI _ rfl,rfl⟩ Ai ?_);exact ao (q _ (((cZ ..).extBut.push _).push _))
def M9 (hh:A.handled=none) (I d:af) (hne:d≠I) (ks:List ai) (ep:Nat):Walks prog w A I [I,d] [I] ks.length (λi v=>ks[i]?=some v) (λi h=>h.IsKeyIter I d i ks.length ep/\yC h d ks ep) where
 sub:=λb hb=>by simp at hb;simp [hb]
 frame:=λ_ _ _ st hk=>⟨st.1.at λo e=>hk I (by simp) o e,st.2.at λo e=>hk d (by simp) o e⟩
 item:=λi s Q E hi st hQ=>by
  have hv:ks[i]?=some ks[i]:=ay hi;refine A6 st.1 st.2 hv λh' t' hs'=>hQ _ h' s.toks hv ⟨t',st.2.at λo e=>hs'.extBut d o hne e⟩ λb o hb e=>hs'.extBut b o (λh=>hb (by simp [h])) e
 done:=λs Q E st hQ=>FM hh (ar _) st.1 st.2 λh' he=>hQ h' s.toks λb o hb e=>he b o (λh=>hb (by simp [h])) e
 self:=λ_ _ _ _ st hQ=>oq st.1 hQ
def Sb (lo:(d == gR)=false):KdlSrc prog w "dict" d d ks.length (λi v=>ks[i]?=some v) (λh=>yC h d ks ep) where
 type:=λ_ x=>x.typeIs
 there:=λ_ x=>⟨x.lt,x.lt⟩
 keep:=λ_ _ x hk=>x.at λo e=>hk d (.inl rfl) o e
 notList:=by decide
 notTuple:=by decide
 hint:=λ_ _ _ _ x hq=>kdl_hint_dict x.typeIs hq
 iter:=λ_ _ hh x=>⟨_,_,(λ_ _ hq=>vL lo x hq),M9 hh _ d (a9 x.lt) ks ep,⟨⟨_,aI _ rfl,rfl,rfl⟩,x.at λo e=>au _ e⟩⟩
def Pb {T:String}{r S:af}{n:Nat}{P:Nat->ai->Prop}{OK:cb->Prop}{R:JH->ak->Prop}(K:KdlSrc prog w T r d n P OK) (hh:A.handled=none) (ok:OK s.heap) (h1:S≠r) (h2:S≠d) (hn:n<=aT) (g:s.heap.get? S=some { cls:=.type "list",data:=.seq #[] 0 })
  (q:∀ h' tk acc' c',(∀ b o,b≠S->s.heap.get? b=some o->h'.get? b=some o)->h'.get? S=some { cls:=.type "list",dict:=none,data:=.seq acc' c',slots:=#[] }->ItemsOf P acc' n->R (.ok (.ret (.ref S))) { s with heap:=h',toks:=tk }) :
  km (aM prog w) A (.builtin "list.__iadd__" ⟨[.ref S,.ref r],[]⟩) R s:=by
 refine fU F.entry_list_iadd ?_;rw [dO F.plain_list_iadd _];exact kdl_extend K hh ok S h1 h2 (.ref S) 0 g q hn
def HW {T:String}{r:af}{n:Nat}{P:Nat->ai->Prop}{OK:cb->Prop}{Q:List ai->ak->Prop}(K:KdlSrc prog w T r d n P OK) (hh:A.handled=none) (ok:OK s.heap) (hn:n<=aT)
  (q:∀ h' tk acc,(∀ b o,s.heap.get? b=some o->h'.get? b=some o)->ItemsOf P acc n->Q acc.toList { s with heap:=h',toks:=tk }):aG (aM prog w) A (G9 (.ref r)) Q E s:=by
 have th:=K.there _ ok;unfold G9;refine ae (NS (fU F.entry_proto_collect ?_));rw [dO F.plain_proto_collect _]
 show aG _ A.in1 (newList [] >>= λl=>again (.builtin "list.__iadd__" ⟨[l,.ref r],[]⟩)) _ _ s
 have g:(s.heap.push { cls:=.type "list",data:=.seq ([]:List ai).toArray }).get? s.heap.objs.size=some { cls:=.type "list",data:=.seq #[] 0 }:=aI _ rfl;refine ae (cz (ao ⟨jd F.plain_list_iadd _,Pb (s:={ s with heap:=s.heap.push { cls:=.type "list",data:=.seq ([]:List ai).toArray } }) K hh (K.keep _ _ ok λb _ o e=>au _ e) (dN th.1) (dN th.2) hn g λh' tk acc' c' hk hS hacc=>?_⟩))
 show aG _ A (load s.heap.objs.size >>= _) _ _ { s with heap:=h',toks:=tk }
 refine ae (El hS (ao (q h' tk acc' (λb o e=>hk b o (a9 (aJ e)) (au _ e)) hacc)))
def HX {acc:Array ai}(h:ItemsOf (λi v=>ks[i]?=some v) acc ks.length):acc.toList=ks:=by
 apply jK
 intro j
 cases e:acc.toList[j]? with
 | some v=>exact (h.2 j v (by rw [← dG];exact e)).symm
 | none =>
  have:ks.length<=j:=by have:=List.getElem?_eq_none_iff.mp e;rw [aK,h.1] at this;exact this
  exact (cU this).symm
end
theorem LS {H:Hp}:∀ {kvs:List (List fT×V)}{xs:List (List fT×af×ai)},Paired (λ(p:List fT×V) (q:List fT×af×ai)=>p.1=q.1/\H q.2.1=some (.tup (p.1.map kV))/\RelV p.2 q.2.2) kvs xs ->
  (∀ p∈kvs,∃ x y:Int,p.1=[cu x,cu y])->∃ zs:List Zt,xs.map (λq=>aD q.2.1)=(zs.map λz=>aD z.2.2)/\(∀ z∈zs,fX H z)/\kvs.map (·.1)=zs.map λz=>[cu z.1,cu z.2.1]
 | _,_,.nil,_=>⟨[],rfl,(λz hz=>nomatch hz),rfl⟩
 | _,_,.cons (a:=p) (b:=q) r t,hp=>by
  obtain ⟨zs,e1,e2,e3⟩:=LS t λp' hp'=>hp p' (aj _ hp');obtain ⟨x,y,exy⟩:=hp _ aw;refine ⟨(x,y,q.2.1)::zs,by simp [e1],λz hz=>?_,by simp [exy,e3]⟩
  rcases av.mp hz with rfl|hz
  ·have:=r.2.1;rw [exy] at this;exact this
  ·exact e2 z hz
section
variable {X:Cx}
end
end L2
namespace L2
open PySem PySem.Spec PyProof.Rows PySem.W
def Paired.at {α β:Type} {F:α->β->Prop}{l₁:List α} {l₂:List β} (r:Paired F l₁ l₂):∀ {i:Nat}{a:α},l₁[i]?=some a->∃ b,l₂[i]?=some b/\F a b:=by
 induction r with
 | nil=>intro i a e;simp at e
 | cons h t ih =>
  intro i a e
  cases i with
  | zero =>
   simp only [iX,eW] at e;subst e
   exact ⟨_,rfl,h⟩
  | succ i=>exact ih (by simpa using e)
def Paired.len {α β:Type} {F:α->β->Prop}{l₁:List α} {l₂:List β} (r:Paired F l₁ l₂):l₁.length=l₂.length:=by
 induction r with
 | nil=>rfl
 | cons h t ih=>simp [ih]
def XS (a:af) (kvs:List (List fT×V)) (o:ft):It :=
 ⟨λi H=>i<kvs.length/\H a=some (.frz o (.dT kvs)),λi H x H'=>H'=H/\∃ k v b,kvs[i]?=some (k,v)/\x=.ref b/\H b=some (.tup (k.map kV)),λi H=>kvs.length<=i/\H a=some (.frz o (.dT kvs))⟩
def LU {P:aY}{w:bH}{K:aa}{tg:Expr}(a it:af) (o:ft) (kvs:List (List fT×V)) (es:Array Rp) (ep:Nat) (hx:o.ExactDict) (hd:o.data=.dict es ep) (hl:es.size=kvs.length) :
  J2 P w K tg (XS a kvs o) [it] it (λi h=>h.IsKeyIter it a i (es.toList.map (·.key)).length ep) where
 mem:=by simp
 obj:=λi h st b hb=>by
  have e:b=it:=by simpa using hb
  subst e;obtain ⟨o,e,c,d⟩:=st;exact ⟨o,e,λv z=>by rw [d] at z;cases z⟩
 keep:=λi h h' st k=>st.at λo e=>k it (by simp) o e
 item:=by
  intro X hP hw hK hc i pins s Z H E I hf st hg;subst hP hw hK;obtain ⟨hlt,hq⟩:=hg
  obtain ⟨e0,_,_,xs,rel,o',es',ep',e1,e2,e3,e4,e5⟩:=(show d9 X.prog X.w H s.heap a (.frz o (.dT kvs)) from I.eC a _ hq)
  rw [e0] at e1;cases e1;rw [hd] at e3
  injection e3 with e3 e3'
  subst e3 e3'
  obtain ⟨⟨k,v⟩,hkv⟩:∃ p,kvs[i]?=some p:=⟨kvs[i],by simp [hlt]⟩
  obtain ⟨q,hq2,rq⟩:=L2.Paired.at rel hkv
  have hkey:(es.toList.map (·.key))[i]?=some (.ref q.2.1):=by rw [e4,bK,ax,hq2];rfl
  obtain ⟨f0,f1,f2,f3,f4,f5⟩:=hf it (by simp);refine A6 st ⟨o,es,e0,hx,hd,rfl⟩ hkey λh' st' sb=>?_;have I1:Inv X pins Z H { s with heap:=h' }:=I.turned (t':=s.toks) (λb o hb e=>(sb.2 b hb).trans e) f0 f1 f3 f4 f5;obtain ⟨o',e,c,d⟩:=id st';exact ⟨_,rfl,Es (s:={ s with heap:=h' }) e c d (by decide) ⟨.ref q.2.1,H,I1,rfl,⟨rfl,k,v,q.2.1,hkv,rfl,rq.2.1⟩,st',λb hb=>(hf b hb).1⟩⟩
 done:=by
  intro X hP hw hK hc i pins s Z H E I hf st hg;subst hP hw hK;obtain ⟨hle,hq⟩:=hg
  obtain ⟨e0,_⟩:=(show d9 X.prog X.w H s.heap a (.frz o (.dT kvs)) from I.eC a _ hq)
  obtain ⟨f0,f1,f2,f3,f4,f5⟩:=hf it (by simp)
  have hn:(es.toList.map (·.key)).length=kvs.length:=by rw [ag,aK,hl]
  exact FM (I.ok.hd hc) (by lia) st ⟨o,es,e0,hx,hd,rfl⟩ λh' eb=>⟨rfl,I.turned (t':=s.toks) (λb o hb e=>eb b o hb e) f0 f1 f3 f4 f5⟩
 self:=λ_ _ _ _ _ st h=>oq st h
def Zc (tl:TE):TI:=λZ H R=>tl Z H λx H1=>∃ a kvs,x=.ref a/\((H1 a=some (.dT kvs)/\∀ o,R (XS a kvs o) (upd H1 a (.frz o (.dT kvs))))\/∃ o,H1 a=some (.frz o (.dT kvs))/\R (XS a kvs o) H1)
def Tx {tl:TE}{Z:St}{H:Hp}{R:It->Hp->Prop}(h:tl Z H λx H1=>∃ a kvs,x=.ref a/\((H1 a=some (.dT kvs)/\∀ o,R (XS a kvs o) (upd H1 a (.frz o (.dT kvs))))\/∃ o,H1 a=some (.frz o (.dT kvs))/\R (XS a kvs o) H1)):Zc tl Z H R:=h
section
variable {X:Cx}{tg:Expr}
def Tz {l:Expr}{tl:TE}(hl:PE X l tl):PI X tg l (Zc tl):=by
 intro pins s Z H R I h;refine gP (hl pins s Z H _ I h) λv s1 ⟨x,H1,I1,r1,q1⟩=>?_;obtain ⟨a,kvs,e,q1⟩:=q1;subst e;cases r1
 rcases q1 with ⟨hq,q⟩|⟨ob,hq,q⟩
 rotate_left
 ·obtain ⟨ho,hz,hsys,xs,rel,ob',es,ep,ho',hx,hd,he,hn⟩:=(show d9 X.prog X.w H1 s1.heap a (.frz ob (.dT kvs)) from I1.eC a _ hq)
  rw [ho] at ho';cases ho'
  have hl:es.size=kvs.length:=by rw [← aK,he,ag,Paired.len rel]
  refine vL hsys ⟨ob,es,ho,hx,hd,rfl⟩ ?_;refine ⟨s1.heap.objs.size,[s1.heap.objs.size],_,_,_,rfl,I1.kept (t':=s1.toks) λb o e=>au _ e,LU a _ ob kvs es ep hx hd hl,⟨_,aI _ rfl,rfl,rfl⟩,λb hb=>?_,q⟩
  have e:b=s1.heap.objs.size:=by simpa using hb
  subst e;exact I1.JE (ar _) (I1.eC.fresh (ar _))
 obtain ⟨hz,hsys,xs,rel,ob,es,ep,ho,hx,hd,he,hn⟩:=(show d9 X.prog X.w H1 s1.heap a (.dT kvs) from I1.eC a _ hq)
 have un:Un X.fs [] H1 (upd H1 a (.frz ob (.dT kvs))) s1.heap s1.heap:=by
  have hne:∀ b u,H1 b=some u->u≠.dT kvs->b≠a:=λb u e n z=>by subst z;rw [hq] at e;exact n (aV e).symm
  refine ⟨λb o e _ _ _=>e,λb o e _ _ _=>⟨o.slots,e⟩,λb o e n _=>?_,λb o e _=>⟨o,e⟩,λb ys e=>?_,λb o u e=>?_,λb ps e=>?_⟩
  ·rw [aH (λz=>by subst z;rw [hq] at n;cases n)];exact n
  ·rw [aH (hne b _ e (by intro z;cases z))];exact e
  ·rw [aH (hne b _ e (by intro z;cases z))];exact e
  ·exact ⟨#[],by rw [aH (hne b _ e (by intro z;cases z)),e];simp⟩
 have nt:∀ c ys,H1 c=some (.tup ys)->(upd H1 a (.frz ob (.dT kvs))) c=some (.tup ys):=λc ys q0=>by
  rw [aH (λz=>by rw [z,hq] at q0;cases q0)];exact q0
 have eC:qv X.prog X.w (upd H1 a (.frz ob (.dT kvs))) s1.heap:=λb u e=>by
  by_cases hb:b=a
  ·subst hb;rw [aE] at e;cases e;exact ⟨ho,hz,hsys,xs,Paired.NF rel λp q z=>⟨z.1,nt _ _ z.2.1,z.2.2⟩,ob,es,ep,ho,hx,hd,he,hn⟩
  ·rw [aH hb] at e;refine (I1.eC b u e).yB (λc v _ q=>q) (λc q0=>?_) nt;rw [aH (λz=>by rw [z,hq] at q0;cases q0)];exact q0
 have I2:Inv X pins Z (upd H1 a (.frz ob (.dT kvs))) { s1 with heap:=s1.heap,toks:=s1.toks }:=I1.un un eC
 have hl:es.size=kvs.length:=by rw [← aK,he,ag,Paired.len rel]
 refine vL hsys ⟨ob,es,ho,hx,hd,rfl⟩ ?_;refine ⟨s1.heap.objs.size,[s1.heap.objs.size],_,_,_,rfl,I2.kept (t':=s1.toks) λb o e=>au _ e,LU a _ ob kvs es ep hx hd hl,⟨_,aI _ rfl,rfl,rfl⟩,λb hb=>?_,q ob⟩
 have e:b=s1.heap.objs.size:=by simpa using hb
 subst e;exact I2.JE (ar _) (I2.eC.fresh (ar _))
end
def Sd (H:Hp) (Q:VK):VK:=λx H'=>Q x H'\/∃ a o kvs,(∀ o' u',H a≠some (.frz o' u'))/\H' a=some (.frz o (.dT kvs))/\Q x (upd H' a (.dT kvs))
def Un.NG {fs ex:List af}{H H':Hp}{h h':cb}{a:af}{o:ft}{kvs:List (List fT×V)}(u:Un fs ex H H' h h') (hn:∀ o' u',H a≠some (.frz o' u')) (ha:H' a=some (.frz o (.dT kvs))):Un fs ex H (upd H' a (.dT kvs)) h h' where
 keep:=u.keep
 slot:=u.slot
 free:=λb ob e n hx=>by
  have q:=u.free b ob e n hx;rw [aH (λz=>by rw [z,ha] at q;cases q)];exact q
 there:=u.there
 Ej:=λb xs e=>by
  have q:=u.Ej b xs e;rw [aH (λz=>by rw [z,ha] at q;cases q)];exact q
 CB:=λb ob w e=>by
  have q:=u.CB b ob w e;rw [aH (λz=>hn ob w (by rw [← z];exact e))];exact q
 CD:=λb ps e=>by
  obtain ⟨more,q⟩:=u.CD b ps e;exact ⟨more,by rw [aH (λz=>by rw [z,ha] at q;cases q)];exact q⟩
def qv.NG {P:aY}{w:bH}{H:Hp}{h:cb}{a:af}{o:ft}{kvs:List (List fT×V)}(k:qv P w H h) (ha:H a=some (.frz o (.dT kvs))):qv P w (upd H a (.dT kvs)) h:=by
 have nt:∀ c ys,H c=some (.tup ys)->(upd H a (.dT kvs)) c=some (.tup ys):=λc ys q0=>by
  rw [aH (λz=>by rw [z,ha] at q0;cases q0)];exact q0
 intro b u e
 by_cases hb:b=a
 ·subst hb;rw [aE] at e;cases e
  obtain ⟨_,hz,hsys,xs,rel,ob,es,ep,r⟩:=(show d9 P w H h b (.frz o (.dT kvs)) from k b _ ha)
  exact ⟨hz,hsys,xs,Paired.NF rel λp q z=>⟨z.1,nt _ _ z.2.1,z.2.2⟩,ob,es,ep,r⟩
 ·rw [aH hb] at e;refine (k b u e).yB (λc v _ q=>q) (λc q0=>?_) nt;rw [aH (λz=>by rw [z,ha] at q0;cases q0)];exact q0
end L2
namespace BootT
end BootT
namespace L2
open PySem PySem.Spec PyProof.Rows PySem.W
def lj.NG {P:aY}{w:bH}{K:aa}{mg:bh->Option ai}{base:cb}{CX:JP}{k:Nat}{f:af}{fd:eI}{ps:List bh}{sp sp':Sp}(F:lj P w K mg base CX k f fd ps sp')
  (h:∀ vs H Q E,sp vs H Q E->sp' vs H (Sd H Q) E):lj P w K mg base CX k f fd ps sp:=by
 refine ⟨λvs H Q E q=>F.len vs H _ E (h _ _ _ _ q),λA outer s H args us vs Q E hr he hb hv hs=>?_⟩;refine mD (F.run A outer s H args us vs _ E hr he hb hv (h _ _ _ _ hs)) λr s' q=>?_
 cases r with
 | error e=>exact q
 | ok fl =>
  cases fl with
  | ret u =>
   obtain ⟨v,H',h1,h2,h3,h4,h5,q⟩:=(show CE outer P w H s (Sd H Q) u s' from q)
   rcases q with q|⟨a,o,kvs,hn,ha,q⟩
   ·exact (show CE outer P w H s Q u s' from ⟨v,H',h1,h2,h3,h4,h5,q⟩)
   ·exact (show CE outer P w H s Q u s' from ⟨v,_,h1,h2,h3.NG hn ha,h4.NG ha,h5,q⟩)
  | _=>exact q
def Paired.eraseIdx {α β:Type} {F:α->β->Prop}{l₁:List α} {l₂:List β} (r:Paired F l₁ l₂):∀ j,Paired F (l₁.eraseIdx j) (l₂.eraseIdx j):=by
 induction r with
 | nil=>intro j;exact .nil
 | cons h t ih =>
  intro j
  cases j with
  | zero=>exact t
  | succ j=>exact .cons h (ih j)
theorem A7 {κ:Type} [DecidableEq κ] {k:κ}{v:V}:∀ {kvs:List (κ×V)}{j:Nat},(kvs.map (·.1)).Nodup->kvs[j]?=some (k,v)->kvs.eraseIdx j=nE kvs k
 | [],j,_,e=>by simp at e
 | p::r,0,hn,e=>by
  simp only [iX,eW] at e;subst e;have h1:=(bp.mp hn).1
  rw [M0 rfl,HJ h1];rfl
 | p::r,j+1,hn,e=>by
  simp only [Ly] at e;have h1:=(bp.mp hn).1;have hm:k∈r.map (·.1):=a6.mpr ⟨_,aL e,rfl⟩;have hne:¬ p.1=k:=λz=>h1 (by rw [show (λx:κ×V=>x.1) p=k from z];exact hm);rw [EG hne,Lz,A7 (bp.mp hn).2 e]
theorem yS {κ:Type} [DecidableEq κ] {k:κ}{v:V}:∀ {kvs:List (κ×V)}{j:Nat},(kvs.map (·.1)).Nodup->kvs[j]?=some (k,v)->gQ kvs k=some v
 | [],j,_,e=>by simp at e
 | p::r,0,hn,e=>by
  simp only [iX,eW] at e;subst e
  exact iG rfl
 | p::r,j+1,hn,e=>by
  simp only [Ly] at e;have h1:=(bp.mp hn).1;have hm:k∈r.map (·.1):=a6.mpr ⟨_,aL e,rfl⟩;have hne:¬ p.1=k:=λz=>h1 (by rw [show (λx:κ×V=>x.1) p=k from z];exact hm);rw [h8 hne];exact yS (bp.mp hn).2 e
theorem EK {α β:Type} (f:α->β):∀ (l:List α) (j:Nat),(l.map f).eraseIdx j=(l.eraseIdx j).map f
 | [],_=>by simp
 | a::l,0=>rfl
 | a::l,j+1=>by simp [Lz,EK f l j]
def Na {H:Hp}{kvs:List (List fT×V)}{xs:List (List fT×af×ai)}(r:KT H kvs xs):kvs.map (·.1)=xs.map (·.1):=by
 induction r with
 | nil=>rfl
 | cons h t ih=>simp [h.1,ih]
section
variable {X:Cx}
def TB:List V->Hp->VK->Prop:=λxs H Q=>∃ a kvs,xs=[V.ref a]/\H a=some (.dT kvs)/\Q (.int kvs.length) H
def Nb:mv X (.builtin "len") TB:=by
 intro pins s Z H xs us Q I r h;obtain ⟨a,kvs,rfl,ha,q⟩:=h;obtain ⟨u,rfl,ru⟩:=vals1 r;cases ru
 obtain ⟨hz,lo,ys,rel,o,es,ep,e1,e2,e3,e4,e5⟩:=(show d9 X.prog X.w H s.heap a (.dT kvs) from I.eC a _ ha)
 have hl:es.size=kvs.length:=by rw [← aK,e4,ag,Paired.len rel]
 have hT:s.TypeIs (.ref a) "dict":=⟨o,e1,e2.1⟩
 have hfit:(kvs.length:Int)<2^63:=by rw [oi] at hz;lia
 refine pF kind_len plain_len entry_len (args_len1 _) ?_;unfold ie.«len»;refine ae (m:=oneArg "len" _) (ao ?_);refine ae (m:=callSpecial? (.ref a) (fq "__len__")) (cX (name:=fq "__len__") hT F.slot_dict_len (cI F.slot_dict_len hT F.entry_dict_len ?_ (F.args_dict_len_1 _)))
 show aG _ _ (dictSize a >>= _) _ _ s
 unfold dictSize;refine ae (ae (kq e1 e3 (ao ?_)))
 show aG _ _ (Builtin.Dict.pendingCount a >>= _) _ _ s
 refine ae (wpAny_pendingCount_other lo (wpAny_ret_mkInt ?_));rw [NT,hl]
 show aG _ _ _ _ _ { s with toks:=s.toks+1 }
 refine ae (cq (ao (ae (JX ?_))))
 show aG _ _ (if ((kvs.length:Nat):Int)<0 then _ else _) _ _ _
 rw [if_neg (by lia)]
 show aG _ _ (if ((kvs.length:Nat):Int)>=2^63 then _ else _) _ _ _
 rw [if_neg (by lia)];exact ae (wpAny_mkInt (ao ⟨_,rfl,.int kvs.length,H,(I.tok _).tok _,⟨_,rfl⟩,q⟩))
def HY:V->List V->Hp->VK->Prop:=λx vs H Q=>∃ a kvs k b v,x=.ref a/\vs=[.ref b]/\H a=some (.dT kvs)/\H b=some (.tup (k.map kV))/\gQ kvs k=some v/\Q v (upd H a (.dT (nE kvs k)))
def Ap (hu:X.A.units+64<gO):SN X "dict.pop" HY:=by
 intro pins s Z H x xs v us Q I rx rs h;obtain ⟨a,kvs,k,b,y,rfl,rfl,ha,hb,hy,q⟩:=h;cases rx;obtain ⟨u,rfl,ru⟩:=vals1 rs;cases ru
 obtain ⟨hz,lo,ys,rel,o,es,ep,e1,e2,e3,e4,e5⟩:=(show d9 X.prog X.w H s.heap a (.dT kvs) from I.eC a _ ha)
 have hl:es.size=kvs.length:=by rw [← aK,e4,ag,Paired.len rel]
 have hT:s.TypeIs (.ref a) "dict":=⟨o,e1,e2.1⟩
 have hes:es.size<=aT:=by rw [hl];exact hz
 have hkey:=pO (P:=X.prog) (w:=X.w) I.eC hb
 have his:∀ x∈ys,(jS (ee X.prog X.w)).is s.heap x.1 x.2.1:=λx hx=>by
  obtain ⟨i,hi⟩:=bx.mp hx
  obtain ⟨p,hp⟩:∃ p,kvs[i]?=some p:=⟨kvs[i]'(by rw [Paired.len rel];exact (aC.mp hi).1),by simp⟩
  obtain ⟨x',hx',r1,r2,_⟩:=L2.Paired.at rel hp;rw [hi] at hx';cases hx';rw [← r1];exact pO I.eC r2
 have rel:KT H kvs ys:=rel;have ev:=KT.val rel k;rw [hy] at ev;have hroom:(jS (ee X.prog X.w)).room X.A.in1:=iB (by lia)
 have hnd:(kvs.map (·.1)).Nodup:=by rw [Na rel];exact e5
 refine cI F.slot_dict_pop hT F.entry_dict_pop ?_ (F.args_dict_pop_2 _ _);unfold ie.«dict.pop» Builtin.Dict.keyAndDefault;refine ae (ae (UM hT ?_))
 show aG _ _ (pure (a,aD b,none)) _ _ s
 refine ao ?_
 have hne:es.isEmpty=false:=by
  cases e:es.isEmpty with
  | false=>rfl
  | true =>
   have:es.size=0:=by simpa [Array.isEmpty] using e
   have:kvs=[]:=mT (by lia);subst this;cases hy
 show aG _ _ (dictEntries a >>= _) _ _ s
 refine ae (kq e1 e3 ?_);simp only [hne,bV,if_false,pure_bind];refine ae ?_;unfold Builtin.Dict.takeOut
 try with_reducible refine cq ?_
 refine ae ((jS (ee X.prog X.w)).pyHash hroom hkey ?_);refine ae (wpAny_dictFind_heap (s:={ s with toks:=s.toks+(jS (ee X.prog X.w)).draws k }) hroom hkey e1 e3 e4 his e5 (λhno=>?_) λj p hj=>?_)
 ·rw [atKey_none_of_get hno] at ev;exact ev.elim
 ·have ep':G4 ys k=some p:=atKey_of_get e5 hj;rw [ep'] at ev;have ev:RelV y p.2:=ev;refine ae (kq (s:={ s with toks:=s.toks+(jS (ee X.prog X.w)).draws k }) e1 e3 ?_);rw [entry_at e4 j,hj];refine ae (wpAny_updateDictKeys (hz:=hes) (s:={ s with toks:=s.toks+(jS (ee X.prog X.w)).draws k }) e1 e3 (ao ?_));simp only [jh,Oa,bV,if_false];refine ae (JX (ao ⟨_,rfl,y,upd H a (.dT (nE kvs k)),?_,ev,q⟩))
  have hk2:kvs[j]?=some (k,y):=by
   have hjl:j<kvs.length:=by rw [Paired.len rel];exact (aC.mp hj).1
   obtain ⟨x',hx',r1,_⟩:=L2.Paired.at rel (ay hjl);rw [hj] at hx';cases hx'
   have e:kvs[j]?=some (k,kvs[j].2):=by
    rw [ay hjl];have r1:kvs[j].1=k:=r1;exact congrArg some (Ay r1 rfl)
   have:=yS hnd e;rw [hy] at this;rw [e,← aV this]
  have hrel:KT H (nE kvs k) (ys.eraseIdx j):=by rw [← A7 hnd hk2];exact Paired.eraseIdx rel j
  refine FC I (by rw [ha];exact iJ) (cZ ..) ⟨_,bQ _ e1 (Rq (xr e3 _))⟩
   ⟨bf (cT _ _) hz,lo,_,hrel.keeps λc zs ec=>?_,_,_,ep+1,bQ _ e1 (Rq (xr e3 _)),e2.mapDictKeys _,xr e3 _,?_,?_⟩
  ·rw [aH (gh ec ha (λz=>nomatch z))];exact ec
  ·have:(es.eraseIdxIfInBounds j).toList=es.toList.eraseIdx j:=by obtain ⟨l⟩:=es;simp
   rw [this,e4,EK]
  ·exact (vo _ (List.eraseIdx_sublist _ _)).nodup e5
end
end L2
namespace L2
open PySem PySem.Spec PyProof.Rows PySem.W
namespace Rv
section
variable {prog:aY}{w:bH}{A:bN}{E:ai->ak->Prop}{s:ak}{I l:af}
end
end Rv
section
variable {X:Cx}{x:Expr}{t:TA}{p1 p2 q1 q2:kM}
end
end L2
namespace Sw
open PySem
def tE (xs:Array Nat):Prop:=xs.toList.Pairwise (· < ·)
def tE.lt {xs:Array Nat}(h:tE xs) {i j a b:Nat}(hij:i<j) (h1:xs[i]?=some a) (h2:xs[j]?=some b):a<b:=by
 rw [← dG] at h1 h2;obtain ⟨hi,e1⟩:=aC.mp h1;obtain ⟨hj,e2⟩:=aC.mp h2;have:=iA.mp h i j hi hj hij;rw [e1,e2] at this;exact this
theorem A8 {xs:Array Nat}{j:Nat}(h:tE xs):∀ (fuel lo hi:Nat),lo<=hi->hi<=xs.size->hi-lo<=fuel->(∀ i a,i<lo->xs[i]?=some a->a<j)->(∀ i a,hi<=i->xs[i]?=some a->j<=a) ->
  (mJ xs j fuel lo hi<=xs.size/\(∀ i a,i<mJ xs j fuel lo hi->xs[i]?=some a->a<j)/\∀ i a,mJ xs j fuel lo hi<=i->xs[i]?=some a->j<=a)
 | 0,lo,hi,h1,h2,h3,h4,h5=>by
  have:lo=hi:=by lia
  subst this
  exact ⟨h2,h4,h5⟩
 | fuel+1,lo,hi,h1,h2,h3,h4,h5=>by
  unfold mJ
  by_cases c:lo<hi
  ·rw [if_pos c]
   have hm:(lo+hi)/2<xs.size:=by lia
   have em:xs[(lo+hi)/2]?=some xs[(lo+hi)/2]:=b9 hm
   have eg:xs.getD ((lo+hi)/2) j=xs[(lo+hi)/2]:=by simp [Q7,hm]
   simp only [eg]
   by_cases c2:xs[(lo+hi)/2]<j
   ·rw [if_pos c2];refine A8 h fuel _ _ (by lia) h2 (by lia) (λi a hi' ha=>?_) h5
    by_cases e:i=(lo+hi)/2
    ·subst e;rw [em] at ha;cases ha;exact c2
    ·exact tM (h.lt (show i<(lo+hi)/2 by lia) ha em) c2
   ·rw [if_neg c2];refine A8 h fuel _ _ (by lia) (by lia) (by lia) h4 (λi a hi' ha=>?_)
    by_cases e:i=(lo+hi)/2
    ·subst e;rw [em] at ha;cases ha;lia
    ·have:=h.lt (show (lo+hi)/2<i by lia) em ha;lia
  ·rw [if_neg c]
   have:lo=hi:=by lia
   subst this;exact ⟨h2,h4,h5⟩
def A9 {xs:Array Nat}(h:tE xs) (j:Nat):dw xs j<=xs.size/\(∀ i a,i<dw xs j->xs[i]?=some a->a<j)/\∀ i a,dw xs j<=i->xs[i]?=some a->j<=a :=
 A8 h _ _ _ (aQ _) (ar _) (by lia) (λi a hi=>absurd hi (by lia)) λi a hi ha=>by
  have:=(cC.mp ha).1;lia
def HZ {xs:Array Nat}(h:tE xs) {k p:Nat}(hk:k=0/\p=0\/∃ k',k=k'+1/\∃ a,xs[k']?=some a/\p=a+1):dw xs p=k:=by
 obtain ⟨h1,h2,h3⟩:=A9 h p
 rcases hk with ⟨rfl,rfl⟩|⟨k',rfl,a,ha,rfl⟩
 ·by_cases e:dw xs 0=0
  ·exact e
  ·have:xs[0]?=some xs[0]:=b9 (by lia);have:=h2 0 _ (by lia) this;lia
 ·have hk:=(cC.mp ha).1
  rcases Nat.lt_trichotomy (dw xs (a+1)) (k'+1) with c|c|c
  ·have:=h3 k' a (by lia) ha;lia
  ·exact c
  ·have e:xs[k'+1]?=some (xs[k'+1]'(by lia)):=b9 (by lia);have q1:=h2 (k'+1) _ c e;have q2:=h.lt (show k'<k'+1 by lia) ha e;lia
def tE.insert {xs:Array Nat}(h:tE xs) {j:Nat}(hj:xs[dw xs j]?≠some j):tE (SetTable.insertAt xs (dw xs j) j):=by
 obtain ⟨h1,h2,h3⟩:=A9 h j;generalize dw xs j=p at h1 h2 h3 hj;unfold tE;rw [SetTable.toList_insertAt];have e:xs.toList=xs.toList.take p++xs.toList.drop p:=(eJ _ _).symm
 have hp:(xs.toList.take p++xs.toList.drop p).Pairwise (· < ·):=by rw [← e];exact h
 rw [gf] at hp;obtain ⟨p1,p2,p3⟩:=hp
 have m1:∀ a∈xs.toList.take p,a<j:=λa ha=>by
  obtain ⟨i,hi⟩:=bx.mp ha;rw [k8] at hi
  split at hi
  ·exact h2 i a (by assumption) (by rw [← dG];exact hi)
  ·cases hi
 have m2:∀ a∈xs.toList.drop p,j<a:=λa ha=>by
  obtain ⟨i,hi⟩:=bx.mp ha;rw [oA,dG] at hi;have q:=h3 (p+i) a (by lia) hi
  rcases Nat.lt_or_eq_of_le q with q|q
  ·exact q
  ·subst q
   cases i with
   | zero=>exact absurd hi hj
   | succ i =>
    have e0:xs[p]?=some (xs[p]'(by have:=(cC.mp hi).1;lia)):=b9 _;have q1:=h3 p _ (ar _) e0;have q2:=h.lt (show p<p+(i+1) by lia) e0 hi;lia
 rw [gf];refine ⟨p1,List.pairwise_cons.mpr ⟨m2,p2⟩,λa ha b hb=>?_⟩
 rcases av.mp hb with rfl|hb
 ·exact m1 a ha
 ·exact p3 a ha b hb
structure TI (t:gH):Prop where
 rise:tE t.place
 nod:t.dummies=#[]
def LW (j:Nat):Hs #[] j=false:=by simp [Hs]
theorem Ia {t:gH}(h:TI t) {hashAt:Nat->Int}{hh:Int}:∀ (fuel:Nat) (p:SetTable.Probe) {j:Nat}{d:Option Nat},sU t hashAt hh fuel p=some (.empty j d)->p.dummy=none->d=none/\t.place[dw t.place j]?≠some j
 | 0,p,j,d,e,_=>by simp [sU] at e
 | fuel+1,p,j,d,e,hd=>by
  unfold sU at e
  have adv:(t.advance p).dummy=none:=by unfold SetTable.advance;split<;>exact hd
  cases hs:t.slot p.j with
  | empty =>
   rw [hs] at e;simp only [eW,UO] at e;obtain ⟨rfl,rfl⟩:=e;refine ⟨hd,λz=>?_⟩;unfold SY at hs
   simp [z] at hs
  | dummy =>
   unfold SY at hs;rw [h.nod] at hs;simp only [LW] at hs
   split at hs<;>simp at hs
  | live i =>
   rw [hs] at e;simp only at e
   split at e
   ·simp at e
   ·exact Ia h fuel _ e adv
def Nc {t:gH}(h:TI t) {hh:Int}{j:Nat}{b:Bool}(e:t.freeSlot hh=some (j,b)):t.place[dw t.place j]?≠some j:=by
 unfold SetTable.freeSlot at e
 split at e
 ·rename_i j' d he
  obtain ⟨e1,e2⟩:=Ia h _ _ he rfl;subst e1;simp at e;rw [← e.1];exact e2
 ·cases e
def TI.standIn (t:gH) (n:Nat):TI (t.standIn n):=⟨by unfold tE SetTable.standIn;simp only [Array.toList_range];exact MG,rfl⟩
def TI.orStandIn {t:gH}(h:TI t) (n:Nat):TI (t.orStandIn n):=by
 unfold MH
 split
 ·exact h
 ·exact TI.standIn t n
def TI.put {t:gH}(h:TI t) {j:Nat}(hj:t.place[dw t.place j]?≠some j):TI (t.put j).1:=by
 refine ⟨h.rise.insert hj,?_⟩
 show (if Hs t.dummies j then _ else t.dummies)=#[]
 rw [h.nod,LW,if_neg (by decide)]
def TI.layNew {t:gH}(h:TI t) (es:Array (Int×ai)) (hh:Int) (x:ai):TI (Ak t es hh x).2.1:=by
 unfold Ak
 split
 ·rename_i slot wd he
  exact (h.put (Nc h he)).orStandIn _
 ·exact TI.standIn t _
def TI.relayAll {t:gH}(es:Array (Int×ai)) (wanted:Nat):TI (vj t es wanted).2.1:=by
 unfold vj
 split
 ·rename_i t' order he
  dsimp only
  split
  ·unfold Q8 SZ at he;simp only [NU,JO,Ta,eW] at he;obtain ⟨owner,_,he⟩:=he;have:=(cB he).1;subst this;refine ⟨?_,rfl⟩
   show ((c6 _).filterMap _ |>.map _).toArray.toList.Pairwise _
   rw [List.toList_toArray,List.map_filterMap]
   have:(λx=>xC (λy:Nat×Nat=>y.1) (xC (λy=>(x,y)) (owner.getD x none)))=λx=>xC (λ_=>x) (owner.getD x none):=by funext x;cases owner.getD x none<;>rfl
   refine List.Pairwise.filterMap _ (λa b hab c hc d hd=>?_) MG;cases ha:owner.getD a none<;>rw [ha] at hc<;>simp at hc;cases hb:owner.getD b none<;>rw [hb] at hd<;>simp at hd;lia
  ·exact TI.standIn t _
 ·exact TI.standIn t _
def TI.off {t:gH}(h:TI t):TI { t with plain:=false }:=⟨h.rise,h.nod⟩
def TI.fresh (a b:Nat) (c:Bool):TI (Rr a b c):=⟨by simp [tE,Rr],rfl⟩
def Kk (t:gH) (es:Array (Int×ai)) (hh:Int) (x:ai):(Ak t es hh x).2.1.led=t.led:=by
 unfold Ak
 split
 ·simp only [MH];split<;>rfl
 ·rfl
def FN (t:gH) (es:Array (Int×ai)) (wanted:Nat):(vj t es wanted).2.1.led=t.led:=by
 unfold vj
 split
 ·rename_i t' order he
  dsimp only
  split
  ·unfold Q8 SZ at he;simp only [NU,JO,Ta,eW] at he;obtain ⟨owner,_,he⟩:=he;have:=(cB he).1;subst this
   rfl
  ·rfl
 ·rfl
end Sw
namespace Sw
def key (e:Int×ai):Int:=match e.2 with | .int i _=>i|_=>0
section
variable {prog:aY}{w:bH}
def SO (prog:aY) (w:bH) (bt:Bool) (h:cb) (a:af) (ks:List Int):Prop :=
 ∃ o es ep t,h.get? a=some o/\o.ExactSet/\o.data=.set es ep t/\ElemsOf (mC prog w) es.toList/\(∀ e∈es.toList,∃ u,e.2=.int (key e) u)/\es.size<vk/\t.fits es.size=true/\TI t/\t.led=!bt/\ks=es.toList.map key/\ks.Nodup
def SO.keep {bt:Bool}{h h':cb}{a:af}{ks:List Int}(x:SO prog w bt h a ks) (k:∀ o,h.get? a=some o->h'.get? a=some o):SO prog w bt h' a ks :=
 let ⟨o,es,ep,t,e,r⟩:=x;⟨o,es,ep,t,k o e,r⟩
def SO.lt {bt:Bool}{h:cb}{a:af}{ks:List Int}(x:SO prog w bt h a ks):a<h.objs.size:=let ⟨_,_,_,_,e,_⟩:=x;aJ e
variable {A:bN}{E:ai->ak->Prop}{s:ak}
def Ib {g:Bool->SV Unit}(hg:∀ (b:Bool) (s₁:ak) (Q':Unit->ak->Prop),Q' () s₁->aG (aM prog w) A (g b) Q' E s₁)
  {a:af}{o:ft}{es:Array (Int×ai)}{ep:Nat}{t:gH}(ho:s.heap.get? a=some o) (hd:o.data=.set es ep t)
  {es1:Array (Int×ai)}{t2:gH}(hb1:es1.size<vk) (hf2:t2.fits es1.size=true) (ti:TI t2) {wasDummy:Bool}{R:Option Bool->ak->Prop}
  (h:∀ h' es2 ep2 t3,gN a s.heap h'->h'.get? a=some { o with data:=.set es2 ep2 t3 }->es2.toList.Perm es1.toList->t3.fits es2.size=true->TI t3->t3.led=t2.led->R (some true) { s with heap:=h' }) :
  aG (aM prog w) A (do
    storeSet a es1 t2
    if (!wasDummy && t2.tooFull)=true then do
      g (relayAll t2 es1 (iK es1.size)).2.2
      storeSet a (relayAll t2 es1 (iK es1.size)).1 (relayAll t2 es1 (iK es1.size)).2.1
      pure (some true)
     else pure (some true)) R E s:=by
 refine ae (wpAny_storeSet_of ho hd ?_ (Ha hb1))
 have g1:(s.heap.update a (tQ es1 t2)).get? a=some { o with data:=.set es1 (ep+1) t2 }:=by
  have:=bQ (tQ es1 t2) ho (by rw [putSet_of es1 t2 hd];rfl);rw [putSet_of es1 t2 hd] at this;exact this
 have b1:=cZ s.heap a (tQ es1 t2)
 split
 ·have hp:=relayAll_perm t2 es1 (iK es1.size);have hfr:=relayAll_fits t2 es1 (iK es1.size);have tir:=TI.relayAll (t:=t2) es1 (iK es1.size);have lr:=FN t2 es1 (iK es1.size);generalize relayAll t2 es1 (iK es1.size)=Rl at hp hfr tir lr ⊢;obtain ⟨es2,t3,gave2⟩:=Rl;dsimp only at hp hfr tir lr ⊢
  have hsz:es2.size=es1.size:=by rw [← aK,hp.length_eq,aK]
  refine ae (hg _ _ _ (ae (wpAny_storeSet_of g1 rfl ?_ (Ha (by rw [hsz];exact hb1)))));have g2:((s.heap.update a (tQ es1 t2)).update a (tQ es2 t3)).get? a=some { o with data:=.set es2 (ep+1+1) t3 }:=bQ (tQ es2 t3) g1 rfl;exact ao (h _ es2 _ t3 (b1.trans (cZ _ a _)) g2 hp hfr tir lr)
 ·exact ao (h _ es1 _ t2 b1 g1 (sI _) hf2 ti rfl)
def VU {bt:Bool}{a:af}{ks:List Int}{k:Int}{u:SU}{Q:Bool->ak->Prop}(hS:SO prog w bt s.heap a ks) (hroom:ks.length+1<vk)
  (h:∀ h' ks' b,gN a s.heap h'->SO prog w bt h' a ks'->(∀ x,x∈ks'↔x∈ks\/x=k)->ks'.length<=ks.length+1->Q b { s with heap:=h' }) :
  aG (aM prog w) A (setAddHashed a (.int k u) ((mC prog w).hash k)) Q E s:=by
 obtain ⟨o,es,ep,t,ho,hex,hd,hel,hin,hb,hf,ti,hled,rfl,hnd⟩:=hS;have hsc:(fj k u).scannable=true:=rfl;have hkey:(mC prog w).is k (.int k u)=true:=intKind_is _ _ _ _
 have hisk:∀ e∈es.toList,((mC prog w).is k e.2=true↔key e=k):=λe he=>by
  obtain ⟨v,hv⟩:=hin e he;rw [hv,KeyKind.is_eq_decide (intKind_is prog w (key e) v) k,decide_eq_true_iff];exact eq_comm
 unfold setAddHashed setAddHashedIn;refine cq (ae (iT ho hd hf ?_));dsimp only;rw [byScan_of hsc hb hel];simp only [↓reduceIte];unfold setAddByScan;refine ae (ae (jf (ae (wpAny_setScan_of hkey ho hd hf hel ?_))))
 cases hr:List.findIdx? (λe=>(mC prog w).is k e.2) es.toList with
 | some j =>
  dsimp only;obtain ⟨hj,hpj,_⟩:=List.findIdx?_eq_some_iff_getElem.mp hr;have hm:k∈es.toList.map key:=a6.mpr ⟨es.toList[j],gZ hj,(hisk _ (gZ hj)).mp hpj⟩;refine ao (ao ?_)
  have e:s={ s with heap:=s.heap }:=by cases s;rfl
  rw [e]
  exact h s.heap _ _ (Heap.SameBut.refl a s.heap) ⟨o,es,ep,t,ho,hex,hd,hel,hin,hb,hf,ti,hled,rfl,hnd⟩ (λx=>⟨.inl,λq=>q.elim id λe=>e▸hm⟩) (gW _)
 | none =>
  dsimp only
  have hnm:k∉es.toList.map key:=λhm=>by
   obtain ⟨e,he,ek⟩:=a6.mp hm;have:=List.findIdx?_eq_none_iff.mp hr e he;rw [(hisk e he).mpr ek] at this;exact Bool.noConfusion this
  have hgw:∀ (b:Bool) {s₁:ak} {Q':Unit->ak->Prop},Q' () s₁->aG (aM prog w) A (match b with|true=>Em "set.scan.the-table-gave-way" | false=>pure ()) Q' E s₁ :=
   λb s₁ Q' hq=>by cases b<;>first|exact ao hq|exact jf hq
  have hperm:=layNew_perm t es ((mC prog w).hash k) (.int k u);have hfits:=layNew_fits t es ((mC prog w).hash k) (.int k u);have tin:=ti.layNew es ((mC prog w).hash k) (.int k u);have ledn:=Kk t es ((mC prog w).hash k) (.int k u);generalize layNew t es ((mC prog w).hash k) (.int k u)=L at hperm hfits tin ledn ⊢;obtain ⟨es1,t1,wasDummy,gave⟩:=L;dsimp only at hperm hfits tin ledn ⊢;rw [Aj] at hperm
  have hsz1:es1.size=es.size+1:=by rw [← aK,hperm.length_eq,bu,aK];rfl
  rw [ag,aK] at hroom
  have hb1:es1.size<vk:=by lia
  refine ae (hgw _ ?_)
  have hend:∀ (h':cb) (es2:Array (Int×ai)) (ep2:Nat) (t2 t3:gH),t2.led=t1.led->gN a s.heap h'->h'.get? a=some { o with data:=.set es2 ep2 t3 }->es2.toList.Perm es1.toList->t3.fits es2.size=true->TI t3->t3.led=t2.led->Q true { s with heap:=h' }:=by
   intro h' es2 ep2 t2 t3 l2 sb g2 hp2 hf3 ti3 l3;have hpp:=hp2.trans hperm;have hpk:=hpp.map key;rw [aU] at hpk;have ek:[((mC prog w).hash k,fj k u)].map key=[k]:=rfl;rw [ek] at hpk
   have hs2:es2.size=es.size+1:=by rw [← aK,hp2.length_eq,aK];exact hsz1
   refine h h' (es2.toList.map key) true sb ⟨_,es2,ep2,t3,g2,hex,rfl,(hel.push hkey hsc).perm hpp,λe he=>?_,by lia,hf3,ti3,by rw [l3,l2,ledn,hled],rfl,?_⟩ (λx=>?_) (by rw [ag,ag,aK,aK];lia)
   ·rcases aN.mp (hpp.mem_iff.mp he) with he|he
    ·exact hin e he
    ·rw [aA.mp he];exact ⟨u,rfl⟩
   ·exact hpk.nodup_iff.mpr (L2.LM hnd hnm)
   ·rw [hpk.mem_iff,aN,aA]
  split
  ·refine ae ?_;rw [hashByValue_scannable 8 hsc];refine ao ?_;refine Ib (λb s₁ Q' hq=>by cases b<;>first|exact ao hq|exact jf hq) ho hd hb1 ?_ ?_ ?_
   ·split
    ·exact hfits
    ·exact SetTable.fits_plain_off hfits
   ·split
    ·exact tin
    ·exact tin.off
   ·intro h' es2 ep2 t3 q1 q2 q3 q4 q5 q6;dsimp only;refine ao (hend h' es2 ep2 _ t3 ?_ q1 q2 q3 q4 q5 q6)
    split<;>rfl
  ·refine ae (ao ?_);simp only [↓reduceIte];refine Ib (λb s₁ Q' hq=>by cases b<;>first|exact ao hq|exact jf hq) ho hd hb1 hfits tin ?_;intro h' es2 ep2 t3 q1 q2 q3 q4 q5 q6;dsimp only;exact ao (hend h' es2 ep2 _ t3 rfl q1 q2 q3 q4 q5 q6)
end
end Sw
namespace Sw
abbrev bt (w:bH):Bool:=w.params.followText "set-order"
section
variable {prog:aY}{w:bH}{A:bN}{E:ai->ak->Prop}{s:ak}
def Pc (a:ai) {Q₁:ai->ak->Prop} (h:Q₁ (.ref s.heap.objs.size) { s with heap:=s.heap.push { cls:=.type "set",dict:=none,data:=.set #[] 0 (.fresh 0 0 (!bt w)) } }) :
  km (aM prog w) A (.call (.builtin "set.__new__") ⟨[.type "set",a],[]⟩) (wants Q₁ E) s:=by
 refine codeAny_of_tree ?_
 show aG _ A.in1 (do checkBuiltinCall "set.__new__" ⟨[.type "set",a],[]⟩;again (.builtin "set.__new__" ⟨[.type "set",a],[]⟩)) _ _ s
 refine ae (JY (F.newCall_set_1 a) (ao ⟨jd F.plain_set_new _,fU F.entry_set_new ?_⟩));rw [dO F.plain_set_new _];unfold ie.«set.__new__» WD;have hsub:=sub_set_self;obtain ⟨hp,g,d,tk,os⟩:=s;dsimp only
 wp_walk
 refine ir (ao ?_);dsimp only;simp only [newObj];refine ae (wpAny_alloc (ao ?_));exact ao h
def Se {R:JH->ak->Prop}{I:af}{fp wr:List af}{G:Array Wv->Array Wv->Prop}{n:Nat}{P:Nat->ai->Prop}{St:Nat->ak->Prop}(W:WalksS prog w A.in1 I fp wr G n P St) (S:af) (hSf:S∉fp) (ns:List Int) (hl:ns.length=n) (hval:∀ i v,P i v->∃ k t,ns[i]?=some k/\v=.int k t) (hb:n+1<vk) :
  ∀ (k i:Nat) (s:ak) (ks:List Int),n-i=k->i<=n->St i s->SO prog w (bt w) s.heap S ks->(∀ x,x∈ks↔x∈ns.take i)->ks.length<=i ->
   (∀ s' ks',Moved (S::wr) G s s'->SO prog w (bt w) s'.heap S ks'->(∀ x,x∈ks'↔x∈ns)->ks'.length<=n->R (.ok (.ret .none)) s') ->
   km (aM prog w) A (.builtin "set.update.loop" ⟨[.ref S,.ref I],[]⟩) R s:=by
 have hSw:S∉wr:=λh=>hSf (W.sub _ h);have hsub:∀ b∈wr,b∈S::wr:=λb hb=>aj _ hb;intro k
 induction k with
 | zero =>
  intro i s ks hk hi hst hS hm0 hle hR
  have hin:i=n:=by lia
  subst hin;refine fU F.entry_set_update_loop ?_;rw [dO F.plain_set_update_loop _]
  show aG _ A.in1 (i9 (.ref I) >>= _) _ _ s
  refine ae (W.done s _ _ hst λs' hm=>?_)
  show aG _ A.in1 (ret eQ) _ _ s'
  exact ao (hR s' ks (hm.mono hsub) (hS.keep λo e=>hm.heap S o hSw e) (λx=>by rw [hm0,← hl,qM]) hle)
 | succ k ih =>
  intro i s ks hk hi hst hS hm0 hle hR
  have hlt:i<n:=by lia
  refine fU F.entry_set_update_loop ?_;rw [dO F.plain_set_update_loop _]
  show aG _ A.in1 (i9 (.ref I) >>= _) _ _ s
  refine ae (W.item i s _ _ hlt hst λv s' hP hst' hm=>?_);obtain ⟨c,t,hc,rfl⟩:=hval i v hP
  show aG _ A.in1 (kj [fj c t] (setAdd S (.int c t)) >>= _) _ _ s'
  refine ae (cq ?_);unfold setAdd;refine cq ?_;refine ae ((mC prog w).pyHash (k:=c) (intKind_is _ _ _ _) ?_);refine VU (s:={ s' with toks:=s'.toks+1 }) (hS.keep λo e=>hm.heap S o hSw e) (by lia) λh' ks' b hsb hS2 hmem hlen=>?_;refine ao ⟨jd F.plain_set_update_loop _,ih (i+1) _ ks' (by lia) hlt (W.frame _ s' _ _ hst' (gW _) λb hb o e=>?_) hS2 (λx=>?_) (by lia) λs'' ks'' hm'' hS'' hmem'' hlen''=>?_⟩
  ·rw [hsb.2 b (λh:b=S=>hSf (by rw [← h];exact hb))];exact e
  ·rw [hmem,hm0,W6,hc,aN];simp
  ·refine hR s'' ks'' (Moved.trans W.gtrans ((hm.mono hsub).then_heap (gW _) λb o hb e=>?_) hm'') hS'' hmem'' hlen'';rw [hsb.2 b (λh:b=S=>hb (by rw [h];exact aw))];exact e
def Pd {l:af}{items:Array ai}{ns:List Int}{Q:ai->ak->Prop}(hh:A.handled=none) (hl:s.heap.IsList l items) (hi:eO items.toList ns) (hb:items.size+1<vk)
  (h:∀ (h':cb) (tk:Nat) (ks:List Int),SO prog w (bt w) h' s.heap.objs.size ks->(∀ x,x∈ks↔x∈ns)->ks.length<=items.size->(∀ b o,s.heap.get? b=some o->h'.get? b=some o)->Q (.ref s.heap.objs.size) { s with heap:=h',toks:=tk }) :
  aG (aM prog w) A (call (.type "set") [.ref l]) Q E s:=by
 obtain ⟨c,tl,hmro⟩:=F.called_set.mro;have hmade:=F.called_set.made;have hsub:=F.called_set.sub;refine NN (codeAny_of_tree ?_)
 show aG _ _ (callAny (.type "set") _) _ _ _
 refine ao ⟨Code.quiet_builtin _ (by decide +kernel),fU F.entry_type_call ?_⟩;rw [Around.under_plain (weight_type_call_type "set" [.ref l] []) rfl];have h1:=F.called_set.notType;have h2:=F.called_set.canCreate;have hct:=F.typeCall_set_1 (.ref l)
 repeat (any_goals (first|assumption|wp_step))
 refine mD (Pc (.ref l) (E:=E) (Q₁:=λobj s₁=>obj=.ref s.heap.objs.size/\s₁={ s with heap:=s.heap.push { cls:=.type "set",dict:=none,data:=.set #[] 0 (.fresh 0 0 (!bt w)) } }) ⟨rfl,rfl⟩) λr s₁ hr=>?_
 cases r with
 | error e=>exact hr
 | ok fl =>
  cases fl with
  | ret obj =>
   obtain ⟨rfl,rfl⟩:=hr;have hS:(s.heap.push { cls:=.type "set",dict:=none,data:=.set #[] 0 (.fresh 0 0 (!bt w)) }).get? s.heap.objs.size=some { cls:=.type "set",dict:=none,data:=.set #[] 0 (.fresh 0 0 (!bt w)) }:=aI _ rfl
   have hT:Shared.TypeIs { s with heap:=s.heap.push { cls:=.type "set",dict:=none,data:=.set #[] 0 (.fresh 0 0 (!bt w)) } } (.ref s.heap.objs.size) "set":=⟨_,hS,rfl⟩
   have hli:=F.called_set.init.lookup;have hbi:=F.called_set.init.bind (.ref s.heap.objs.size)
   repeat (any_goals (first|assumption|wp_step))
   refine mD (codeAny_call_builtin (R:=wants (λr s₂=>r=.none/\∃ h' tk ks,s₂={ s with heap:=h',toks:=tk }/\SO prog w (bt w) h' s.heap.objs.size ks/\(∀ x,x∈ks↔x∈ns)/\ks.length<=items.size/\(∀ b o,s.heap.get? b=some o->h'.get? b=some o)) E) F.called_set.init.plain F.entry_set_init (check_set_init_1 hT ?_)) λr₂ s₂ hr₂=>?_
   ·obtain ⟨ol,hol,hcl,nl,hdl⟩:=hl;obtain ⟨ocls,odict,odata,oslots⟩:=ol;simp only at hcl hdl;subst hcl;subst hdl;have hol':(s.heap.push { cls:=.type "set",dict:=none,data:=.set #[] 0 (.fresh 0 0 (!bt w)) }).get? l=some { cls:=.type "list",dict:=odict,data:=.seq items nl,slots:=oslots }:=au _ hol;have hsls:=F.sub_list_set;have hslf:=F.sub_list_frozenset
    have hne:(eS "list" == eS "dict")=false:=by decide
    have hl1:(s.heap.push { cls:=.type "set",dict:=none,data:=.set #[] 0 (.fresh 0 0 (!bt w)) }).IsList l items:=⟨_,hol',rfl,nl,rfl⟩
    unfold ie.«set.__init__» noKeywords WE;generalize hPI:NM=PI
    wp_walk
    subst hPI;refine wpAny_pyIter_list hl1 ?_;refine ae (NS ?_);have hlS:l<s.heap.objs.size:=aJ hol
    have hh3:A.in1.in1.in1.handled=none:=by simp [hh]
    have hneI:l≠(s.heap.push { cls:=.type "set",dict:=none,data:=.set #[] 0 (.fresh 0 0 (!bt w)) }).objs.size:=by
     rw [iW];exact a9 (qy hlS)
    have hSf:s.heap.objs.size∉[(s.heap.push { cls:=.type "set",dict:=none,data:=.set #[] 0 (.fresh 0 0 (!bt w)) }).objs.size,l]:=by
     rw [iW];simp only [av,aA,dg,or_false,not_or];exact ⟨a9 (ja _),dN hlS⟩
    have hlen:=hi.length;rw [aK] at hlen
    have hval:∀ (i:Nat) (v:ai),items[i]?=some v->∃ k t,ns[i]?=some k/\v=.int k t:=λi v hv=>by
     obtain ⟨t,e⟩:=Rt hi i v (by rw [dG];exact hv);have hlt:=(cC.mp hv).1
     have:ns[i]?=some (ns.getD i 0):=by rw [List.getD_eq_getElem?_getD,ay (by lia)];rfl
     exact ⟨_,t,this,e⟩
    refine Se ((Walks.list hh3 _ l hneI items).toS) s.heap.objs.size hSf ns hlen.symm hval hb (items.size-0) 0 _ [] (by lia) (aQ _)
     ⟨⟨_,aI _ rfl,rfl,rfl⟩,(hl1.push _)⟩ ?hS0 (λx=>by simp) (ar _) ?hR
    case hS0 =>
     have hget:((s.heap.push { cls:=.type "set",dict:=none,data:=.set #[] 0 (.fresh 0 0 (!bt w)) }).push { cls:=.type "list_iterator",data:=.fields #[.ref l,.int 0 0] }).get? s.heap.objs.size
       = some { cls:=.type "set",dict:=none,data:=.set #[] 0 (.fresh 0 0 (!bt w)) }:=au _ hS
     exact ⟨_,#[],0,_,hget,⟨rfl,rfl,rfl⟩,rfl,(λe he=>by simp at he),(λe he=>by simp at he),by decide,rfl,TI.fresh _ _ _,rfl,rfl,oz⟩
    case hR =>
     intro s' ks' hm hS' hmem hlen';obtain ⟨h',g',d',tk',os'⟩:=s';have eg:g'=s.gens:=hm.gens;have ed:d'=s.drawn:=hm.drawn;have eo:os'=s.os:=hm.os;subst eg;subst ed;subst eo
     show aG _ _ _ _ _ _
     refine ao ?_
     show aG _ _ (ret eQ) _ _ _
     refine ao ⟨rfl,h',tk',ks',rfl,hS',hmem,hlen',λb o e=>?_⟩;have hb:=aJ e;have hb1:b≠s.heap.objs.size:=a9 hb
     have hb2:b≠(s.heap.push { cls:=.type "set",dict:=none,data:=.set #[] 0 (.fresh 0 0 (!bt w)) }).objs.size:=by
      rw [iW];exact a9 (qy hb)
     exact hm.heap b o (by simp only [av,aA,dg,or_false,not_or];exact ⟨hb1,hb2⟩) (au _ (au _ e))
   ·cases r₂ with
    | error e=>exact hr₂
    | ok fl₂ =>
     cases fl₂ with
     | ret r =>
      obtain ⟨rfl,h',tk,ks,rfl,hS',hm',hl',hk'⟩:=hr₂
      repeat (any_goals (first|assumption|wp_step))
      exact h _ _ _ hS' hm' hl' hk'
     | _=>exact hr₂.elim
  | _=>exact hr.elim
end
end Sw
namespace Sw
def Ic:Manifest.owners.lookup (String.ofList ['r','o','t','a','r','e','t','i','_','t','e','s'].reverse)=some Manifest.sig_set_iterator:=by kernel_rfl
def eY:Slot "set_iterator" "__next__" "set_iterator.__next__" :=
 .of (owner:="set_iterator") (n:="__next__") (by rw [xB,nq];kernel_rfl) (by decide +kernel) (by decide +kernel) (by decide +kernel)
  (by first|exact .inl (by decide +kernel)|exact .inr (by decide +kernel)) (by rw [NV];kernel_rfl)
def lN:entryFor table "set_iterator.__next__"=some ie.«set_iterator.__next__»:=entryFor_of_tree (by kernel_rfl)
def mx (a:ai):argsOk "set_iterator.__next__" ⟨[a],[]⟩:=by
 unfold argsOk;rw [signature?_of (id:="set_iterator.__next__") (n:=['_','_','t','x','e','n','_','_']) (o:=['r','o','t','a','r','e','t','i','_','t','e','s']) (by kernel_rfl) Ic];kernel_rfl
def vM:Slot "set_iterator" "__iter__" "set_iterator.__iter__" :=
 .of (owner:="set_iterator") (n:="__iter__") (by rw [xB,nq];kernel_rfl) (by decide +kernel) (by decide +kernel) (by decide +kernel)
  (by first|exact .inl (by decide +kernel)|exact .inr (by decide +kernel)) (by rw [NV];kernel_rfl)
def FO (a:ai):argsOk "set_iterator.__iter__" ⟨[a],[]⟩:=by
 unfold argsOk;rw [signature?_of (id:="set_iterator.__iter__") (n:=['_','_','r','e','t','i','_','_']) (o:=['r','o','t','a','r','e','t','i','_','t','e','s']) (by kernel_rfl) Ic];kernel_rfl
def C6:entryFor table "set_iterator.__iter__"=some ie.«dict_keyiterator.__iter__» :=
 entryFor_alias (id':="dict_keyiterator.__iter__") (by kernel_rfl) rfl (by decide +kernel) (by kernel_rfl)
def Ba:entryFor table "set.__iter__"=some ie.«frozenset.__iter__» :=
 entryFor_alias (id':="frozenset.__iter__") (by kernel_rfl) rfl (by decide +kernel) (by kernel_rfl)
def Bb {α:Type} {l:List α}{i:Nat}(h:i<l.length):(l[i]::l.eraseIdx i).Perm l:=by
 rw [List.eraseIdx_eq_take_drop_succ]
 have e:l=l.take i++l[i]::l.drop (i+1):=by rw [List.getElem_cons_drop,eJ]
 conv=>rhs;rw [e]
 exact CS.symm
theorem EL {α:Type} (next:Nat->Nat):∀ (fuel k:Nat) (left:List α) (out:Array α),fuel=left.length->(Hb next fuel k left out).toList.Perm (out.toList++left)
 | 0,k,left,out,h=>by
  have:left=[]:=mT h.symm
  subst this;simp [Hb]
 | fuel+1,k,left,out,h=>by
  unfold Hb;have hlt:next k%left.length<left.length:=Nat.mod_lt _ (by lia);rw [ay hlt];dsimp only;refine (EL next fuel _ _ _ (by rw [Oc];simp [hlt];lia)).trans ?_;rw [Aj,di];refine lA _ ?_;exact Bb hlt
def xj (h:cb) (it:af) (first:ai) (i:Nat) (a:af) (n ep:Nat):Prop:=∃ o,h.get? it=some o/\o.cls=.type "set_iterator"/\o.data=.fields #[first,cA i,.ref a,cA n,cA ep]
def xj.keep {h h':cb}{it a:af}{first:ai}{i n ep:Nat}(x:xj h it first i a n ep) (k:∀ o,h.get? it=some o->h'.get? it=some o):xj h' it first i a n ep:=let ⟨o,e,r⟩:=x;⟨o,k o e,r⟩
def RS (h:cb) (a:af) (es:Array (Int×ai)) (ep:Nat) (t:gH):Prop:=∃ o,h.get? a=some o/\o.ExactSet/\o.data=.set es ep t/\t.fits es.size=true
def RS.keep {h h':cb}{a:af}{es:Array (Int×ai)}{ep:Nat}{t:gH}(x:RS h a es ep t) (k:∀ o,h.get? a=some o->h'.get? a=some o):RS h' a es ep t:=let ⟨o,e,r⟩:=x;⟨o,k o e,r⟩
section
variable {prog:aY}{w:bH}{A:bN}{E:ai->ak->Prop}{s:ak}{it a:af}{es:Array (Int×ai)}{ep n:Nat}{t:gH}
def LX {first:ai}{i:Nat}{Q:ai->ak->Prop}(x:xj s.heap it first i a n ep) (h:Q (.ref it) s):aG (aM prog w) A (NM (.ref it)) Q E s:=by
 have hT:s.TypeIs (.ref it) "set_iterator":=let ⟨o,e,c,_⟩:=x;⟨o,e,c⟩
 refine G8 hT vM (cI vM hT C6 ?_ (FO _))
 show aG _ _ (ret (.ref it)) _ _ s
 exact ao ⟨_,rfl,"set_iterator",_,hT,eY.lookup,h⟩
def Ord (w:bH) (a:af) (es:Array (Int×ai)) (ep:Nat) (t:gH) (vs:List ai) (sl:Nat->Nat):Prop :=
 sl 0=0/\vs.length=es.size/\((bt w=true/\vs=(AB (w.params.setOrder a ep) es).toList.map (·.2)/\∀ i,sl i=0) \/
  (bt w=false/\vs=es.toList.map (·.2)/\(!t.plain && decide (es.size>1))=false/\(t.led=true)/\tE t.place/\∀ i p,t.place[i]?=some p->sl (i+1)=p+1))
def Nd {i:Nat}{v:ai}{vs:List ai}{sl:Nat->Nat}{Q:Option ai->ak->Prop}(x:xj s.heap it (cA (sl i)) i a es.size ep) (r:RS s.heap a es ep t) (o:Ord w a es ep t vs sl) (hv:vs[i]?=some v)
  (q:∀ h',xj h' it (cA (sl (i+1))) (i+1) a es.size ep->gN it s.heap h'->Q (some v) { s with heap:=h' }):aG (aM prog w) A (i9 (.ref it)) Q E s:=by
 have hT:s.TypeIs (.ref it) "set_iterator":=let ⟨o,e,c,_⟩:=x;⟨o,e,c⟩
 obtain ⟨ob,g,gc,gd⟩:=x;obtain ⟨oa,ra,rx,rd,rf⟩:=r;unfold i9;refine ae (ik (cX (name:=fq "__next__") hT eY (cI eY hT lN ?_ (mx _))));unfold ie.«set_iterator.__next__»;refine ae (m:=NW "__next__" 0 _) (ao ?_);refine ae (mH g gd ?_)
 show aG _ _ (NX a >>= _) _ _ s
 refine ae (lp ra rd rf ?_);rw [if_neg (by simp)]
 show aG _ _ (MI a ((sl i:Nat):Int).toNat ((i:Nat):Int).toNat ((ep:Nat):Int).toNat >>= _) _ _ s
 simp only [gF]
 have nxt:aG (aM prog w) A.in1 (MI a (sl i) i ep) (λz s'=>z=some (v,sl (i+1))/\s'=s) (λ_ _=>False) s:=by
  unfold MI;refine ae (iT ra rd rf ?_);dsimp only;refine ae ?_;unfold Eo;refine ae (ir (ao ?_));obtain ⟨o0,o1,⟨b1,b2,b3⟩|⟨b1,b2,b3,b4,b5,b6⟩⟩:=o
  ·have b1':(({ program:=(aM prog w).prog,params:=(aM prog w).w.params }:Setting).params.followText "set-order")=true:=b1;rw [b1'];simp only [↓reduceIte];rw [if_neg (by simp)];refine ae ?_;unfold setWalk;refine ae (iT ra rd rf ?_);dsimp only;refine ae ?_;unfold Eo;refine ae (ir (ao ?_));rw [b1'];simp only [↓reduceIte];refine ae (ir (ao (ao ⟨?_,rfl⟩)));have hv':=hv;rw [b2,ax,dG] at hv'
   show xC (λe=>(e.2,sl i)) (AB (w.params.setOrder a ep) es)[i]?=_
   obtain ⟨e,he,ev⟩:=aW.mp hv';rw [he,b3 i,b3 (i+1)];simp [ev]
  ·have b1':(({ program:=(aM prog w).prog,params:=(aM prog w).w.params }:Setting).params.followText "set-order")=false:=b1;rw [b1'];simp only [bV,↓reduceIte];refine jR (λhd=>absurd (show (!t.plain && decide (es.size>1))=true from hd) (by rw [b3];decide)) (λ_=>ae ?_)
   show aG _ _ (if (!t.led && !es.isEmpty)=true then _ else _) _ _ _
   rw [if_neg (by rw [b4];simp)];refine ao (ao ⟨?_,rfl⟩)
   have hlt:i<es.size:=by rw [← o1];exact (aC.mp hv).1
   have hfs:t.place.size=es.size:=by
    have:=rf;unfold Tc at this;simp at this;exact this.1
   have hp:t.place[i]?=some (t.place[i]'(by lia)):=b9 _
   have hbel:dw t.place (sl i)=i:=by
    refine HZ b5 ?_
    cases i with
    | zero=>exact .inl ⟨rfl,o0⟩
    | succ k =>
     have hk:t.place[k]?=some (t.place[k]'(by lia)):=b9 _;exact .inr ⟨k,rfl,_,hk,b6 k _ hk⟩
   rw [hbel,hp,b6 i _ hp];rw [b2,ax,dG] at hv;obtain ⟨e,he,ev⟩:=aW.mp hv;rw [he];obtain ⟨e1,e2⟩:=e;simp at ev;simp [ev]
 refine ae (dH nxt (λz s' hz=>?_) λ_ _ x=>x.elim);obtain ⟨rfl,rfl⟩:=hz;dsimp only;have g1:=bQ (mS (·.setIfInBounds 0 (cA ((sl (i+1):Nat):Int)))) g (jL (c8 gd _));refine ae (jm g gd (by simp) (ae (jm g1 (c8 gd _) (by simp) ?_)));have g2:=bQ (mS (·.setIfInBounds 1 (cA ((i:Int)+1)))) g1 (jL (c8 (c8 gd _) _));refine ao ⟨_,rfl,ao (q _ ⟨_,g2,(qz ..).trans ((qz ..).trans gc),?_⟩ ((cZ ..).trans (cZ ..)))⟩;rw [c8 (c8 gd _)];simp [cA]
def Pe {vs:List ai}{sl:Nat->Nat}{Q:Option ai->ak->Prop}(hh:A.handled=none) (x:xj s.heap it (cA (sl vs.length)) vs.length a es.size ep) (r:RS s.heap a es ep t) (o:Ord w a es ep t vs sl)
  (q:∀ h',Ob it s.heap h'->Q none { s with heap:=h' }):aG (aM prog w) A (i9 (.ref it)) Q E s:=by
 have hT:s.TypeIs (.ref it) "set_iterator":=let ⟨o,e,c,_⟩:=x;⟨o,e,c⟩
 obtain ⟨ob,g,gc,gd⟩:=x;obtain ⟨oa,ra,rx,rd,rf⟩:=r;unfold i9;refine ae (ik (cX (name:=fq "__next__") hT eY (cI eY hT lN ?_ (mx _))));unfold ie.«set_iterator.__next__»;refine ae (m:=NW "__next__" 0 _) (ao ?_);refine ae (mH g gd ?_)
 show aG _ _ (NX a >>= _) _ _ s
 refine ae (lp ra rd rf ?_);rw [if_neg (by simp)]
 show aG _ _ (MI a ((sl vs.length:Nat):Int).toNat ((vs.length:Nat):Int).toNat ((ep:Nat):Int).toNat >>= _) _ _ s
 simp only [gF]
 have nxt:aG (aM prog w) A.in1 (MI a (sl vs.length) vs.length ep) (λz s'=>z=none/\s'=s) (λ_ _=>False) s:=by
  unfold MI;refine ae (iT ra rd rf ?_);dsimp only;refine ae ?_;unfold Eo;refine ae (ir (ao ?_));obtain ⟨o0,o1,⟨b1,b2,b3⟩|⟨b1,b2,b3,b4,b5,b6⟩⟩:=o
  ·have b1':(({ program:=(aM prog w).prog,params:=(aM prog w).w.params }:Setting).params.followText "set-order")=true:=b1;rw [b1'];simp only [↓reduceIte];rw [if_neg (by simp)];refine ae ?_;unfold setWalk;refine ae (iT ra rd rf ?_);dsimp only;refine ae ?_;unfold Eo;refine ae (ir (ao ?_));rw [b1'];simp only [↓reduceIte];refine ae (ir (ao (ao ⟨?_,rfl⟩)))
   show xC (λe=>(e.2,sl vs.length)) (AB (w.params.setOrder a ep) es)[vs.length]?=_
   rw [gM (by have h:=o1;rw [b2,ag,aK] at h;rw [o1];exact ky h)]
   rfl
  ·have b1':(({ program:=(aM prog w).prog,params:=(aM prog w).w.params }:Setting).params.followText "set-order")=false:=b1;rw [b1'];simp only [bV,↓reduceIte];refine jR (λhd=>absurd (show (!t.plain && decide (es.size>1))=true from hd) (by rw [b3];decide)) (λ_=>ae ?_)
   show aG _ _ (if (!t.led && !es.isEmpty)=true then _ else _) _ _ _
   rw [if_neg (by rw [b4];simp)];refine ao (ao ⟨?_,rfl⟩)
   have hfs:t.place.size=es.size:=by
    have:=rf;unfold Tc at this;simp at this;exact this.1
   have hbel:dw t.place (sl vs.length)=vs.length:=by
    refine HZ b5 ?_
    cases e:vs.length with
    | zero=>exact .inl ⟨rfl,o0⟩
    | succ k =>
     have hk:t.place[k]?=some (t.place[k]'(by lia)):=b9 _;exact .inr ⟨k,rfl,_,hk,b6 k _ hk⟩
   rw [hbel,gM (by lia)]
 refine ae (dH nxt (λz s' hz=>?_) λ_ _ x=>x.elim);obtain ⟨rfl,rfl⟩:=hz;dsimp only;refine ae (jm g gd (by simp) ?_)
 show aG _ _ (SX (.type "StopIteration") [] >>= _) _ _ _
 refine ae ?_;simp only [SX,newTuple];refine ae (cz ?_ (by size_fits));refine ae (m:=mI _ _) (JY (a:=eQ) (by first|rfl|(simp only [mI];rfl)) ?_);refine cz ?_ (by size_fits);simp only [raiseNew];refine ae (Q6 ?_);rw [show A.in1.handled=none from hh];refine ae (ao (WC ?_));refine ae (nA (T:="StopIteration") (b:=true) ⟨_,aI _ rfl,rfl⟩ Ai ?_);exact ao (q _ (((cZ ..).extBut.push _).push _))
def Ng (hh:A.handled=none) (I a:af) (hne:a≠I) {vs:List ai}{sl:Nat->Nat}(o:Ord w a es ep t vs sl) :
  Walks prog w A I [I,a] [I] vs.length (λi v=>vs[i]?=some v) (λi h=>xj h I (cA (sl i)) i a es.size ep/\RS h a es ep t) where
 sub:=λb hb=>by simp at hb;simp [hb]
 frame:=λ_ _ _ st hk=>⟨st.1.keep λo e=>hk I (by simp) o e,st.2.keep λo e=>hk a (by simp) o e⟩
 item:=λi s Q E hi st hQ=>by
  have hv:vs[i]?=some vs[i]:=ay hi;exact Nd st.1 st.2 o hv λh' x' hs'=>hQ _ h' s.toks hv ⟨x',st.2.keep λo e=>hs'.extBut a o hne e⟩ λb o hb e=>hs'.extBut b o (λh=>hb (by simp [h])) e
 done:=λs Q E st hQ=>Pe hh st.1 st.2 o λh' he=>hQ h' s.toks λb o hb e=>he b o (λh=>hb (by simp [h])) e
 self:=λ_ _ _ _ st hQ=>LX st.1 hQ
end
end Sw
namespace Sw
section
variable {prog:aY}{w:bH}{A:bN}{E:ai->ak->Prop}{s:ak}{it a:af}{es:Array (Int×ai)}{ep n:Nat}{t:gH}
def Nh {M:Model}{src:Source}{k:Nat}{Q:Nat->ak->Prop}(hk:k≠0) (h:∀ i d,i<k->Q i { s with drawn:=d }):aG M A (choose src k) Q E s :=
 λΓ p hΓ=>⟨hk,h _ _ (Nat.mod_lt _ (Nat.pos_of_ne_zero hk))⟩
theorem LY {α:Type}:∀ (k:Nat) (xs:List α) {s:ak}{Q:List α->ak->Prop},xs.length=k->(∀ ys d,ys.Perm xs->Q ys { s with drawn:=d })->aG (aM prog w) A (drawOrder k xs) Q E s
 | 0,xs,s,Q,hl,h=>by
  have:xs=[]:=mT hl;subst this
  exact ao (h [] s.drawn (sI _))
 | k+1,[],s,Q,hl,h=>by simp at hl
 | k+1,x::xs,s,Q,hl,h=>by
  unfold drawOrder;refine ae (Nh (by simp) λi d hi=>?_);rw [ay hi];dsimp only;refine ae (LY k _ (by rw [Oc,if_pos hi];lia) λys d' hp=>ao (h _ d' ?_));exact (hp.cons _).trans (Bb hi)
structure Dr (h:cb) (T:af) (es:Array (Int×ai)) (ord:List Nat) (vs:List ai):Prop where
 tup:∃ o,h.get? T=some o/\o.data=.seq (ord.map λ(i:Nat)=>cA (i:Int)).toArray 0
 len:vs.length=ord.length
 at_:∀ (i:Nat) p,ord[i]?=some p->∃ e,es[p]?=some e/\vs[i]?=some e.2
def Sg {T:af}{ord:List Nat}{i:Nat}{v:ai}{vs:List ai}{Q:Option ai->ak->Prop}(x:xj s.heap it (.ref T) i a es.size ep) (r:RS s.heap a es ep t) (o:Dr s.heap T es ord vs) (hv:vs[i]?=some v)
  (q:∀ h',xj h' it (.ref T) (i+1) a es.size ep->gN it s.heap h'->Q (some v) { s with heap:=h' }):aG (aM prog w) A (i9 (.ref it)) Q E s:=by
 have hT:s.TypeIs (.ref it) "set_iterator":=let ⟨o,e,c,_⟩:=x;⟨o,e,c⟩
 obtain ⟨ob,g,gc,gd⟩:=x;obtain ⟨oa,ra,rx,rd,rf⟩:=r;obtain ⟨⟨ot,gt,gtd⟩,ol,oat⟩:=o
 have hi:i<ord.length:=by rw [← ol];exact (aC.mp hv).1
 obtain ⟨e,he,hve⟩:=oat i _ (ay hi);rw [hv] at hve;cases hve;unfold i9;refine ae (ik (cX (name:=fq "__next__") hT eY (cI eY hT lN ?_ (mx _))));unfold ie.«set_iterator.__next__»;refine ae (m:=NW "__next__" 0 _) (ao ?_);refine ae (mH g gd ?_)
 show aG _ _ (NX a >>= _) _ _ s
 refine ae (lp ra rd rf ?_);rw [if_neg (by simp)]
 show aG _ _ (AC (.ref T) >>= _) _ _ s
 have sq:aG (aM prog w) A.in1 (AC (.ref T)) (λz s'=>z=some (ord.map λ(i:Nat)=>cA (i:Int)).toArray/\s'=s) (λ_ _=>False) s:=by
  unfold AC;refine ae (El gt ?_);rw [gtd];exact ao ⟨rfl,rfl⟩
 refine ae (dH sq (λz s' hz=>?_) λ_ _ x=>x.elim);obtain ⟨rfl,rfl⟩:=hz;dsimp only
 have hpi:(ord.map λ(i:Nat)=>cA (i:Int)).toArray[((i:Nat):Int).toNat]?=some (cA (ord[i]:Int)):=by
  rw [gF,NY,ax,ay hi];rfl
 show aG _ _ (match (ord.map λ(i:Nat)=>cA (i:Int)).toArray[((i:Nat):Int).toNat]? with|some (.int place _)=>_|some _=>_|none=>_) _ _ _
 rw [hpi]
 show aG _ _ (setNextDrawn a ((ord[i]:Nat):Int).toNat ((ep:Nat):Int).toNat >>= _) _ _ _
 simp only [gF];refine ae ?_;unfold setNextDrawn;refine ae (iT ra rd rf ?_);dsimp only;rw [if_neg (by simp),he];refine ao (ae (jm g gd (by simp) ?_));have g1:=bQ (mS (·.setIfInBounds 1 (cA ((i:Int)+1)))) g (jL (c8 gd _));refine ao ⟨_,rfl,ao (q _ ⟨_,g1,(qz ..).trans gc,?_⟩ (cZ ..))⟩;rw [c8 gd];simp [cA]
def xR {T:af}{ord:List Nat}{vs:List ai}{Q:Option ai->ak->Prop}(hh:A.handled=none) (x:xj s.heap it (.ref T) vs.length a es.size ep) (r:RS s.heap a es ep t) (o:Dr s.heap T es ord vs)
  (q:∀ h',Ob it s.heap h'->Q none { s with heap:=h' }):aG (aM prog w) A (i9 (.ref it)) Q E s:=by
 have hT:s.TypeIs (.ref it) "set_iterator":=let ⟨o,e,c,_⟩:=x;⟨o,e,c⟩
 obtain ⟨ob,g,gc,gd⟩:=x;obtain ⟨oa,ra,rx,rd,rf⟩:=r;obtain ⟨⟨ot,gt,gtd⟩,ol,oat⟩:=o;unfold i9;refine ae (ik (cX (name:=fq "__next__") hT eY (cI eY hT lN ?_ (mx _))));unfold ie.«set_iterator.__next__»;refine ae (m:=NW "__next__" 0 _) (ao ?_);refine ae (mH g gd ?_)
 show aG _ _ (NX a >>= _) _ _ s
 refine ae (lp ra rd rf ?_);rw [if_neg (by simp)]
 show aG _ _ (AC (.ref T) >>= _) _ _ s
 have sq:aG (aM prog w) A.in1 (AC (.ref T)) (λz s'=>z=some (ord.map λ(i:Nat)=>cA (i:Int)).toArray/\s'=s) (λ_ _=>False) s:=by
  unfold AC;refine ae (El gt ?_);rw [gtd];exact ao ⟨rfl,rfl⟩
 refine ae (dH sq (λz s' hz=>?_) λ_ _ x=>x.elim);obtain ⟨rfl,rfl⟩:=hz;dsimp only
 have hpi:(ord.map λ(i:Nat)=>cA (i:Int)).toArray[((vs.length:Nat):Int).toNat]?=none:=by
  rw [gF,NY,ax,cU (by lia)];rfl
 show aG _ _ (match (ord.map λ(i:Nat)=>cA (i:Int)).toArray[((vs.length:Nat):Int).toNat]? with|some (.int place _)=>_|some _=>_|none=>_) _ _ _
 rw [hpi];dsimp only;have g1:=bQ (mS (·.setIfInBounds 0 (cA 0))) g (jL (c8 gd _));refine ae (jm g gd (by simp) (ae (jm g1 (c8 gd _) (by simp) ?_)))
 show aG _ _ (SX (.type "StopIteration") [] >>= _) _ _ _
 refine ae ?_;simp only [SX,newTuple];refine ae (cz ?_ (by size_fits));refine ae (m:=mI _ _) (JY (a:=eQ) (by first|rfl|(simp only [mI];rfl)) ?_);refine cz ?_ (by size_fits);simp only [raiseNew];refine ae (Q6 ?_);rw [show A.in1.handled=none from hh];refine ae (ao (WC ?_));refine ae (nA (T:="StopIteration") (b:=true) ⟨_,aI _ rfl,rfl⟩ Ai ?_);exact ao (q _ ((((cZ ..).trans (cZ ..)).extBut.push _).push _))
def Pg (hh:A.handled=none) (I a T:af) (hne:a≠I) (hnT:T≠I) {ord:List Nat}{vs:List ai} :
  Walks prog w A I [I,a,T] [I] vs.length (λi v=>vs[i]?=some v) (λi h=>xj h I (.ref T) i a es.size ep/\RS h a es ep t/\Dr h T es ord vs) where
 sub:=λb hb=>by simp at hb;simp [hb]
 frame:=λ_ _ _ st hk=>⟨st.1.keep λo e=>hk I (by simp) o e,st.2.1.keep λo e=>hk a (by simp) o e,let ⟨o,e,d⟩:=st.2.2.tup;⟨⟨o,hk T (by simp) o e,d⟩,st.2.2.len,st.2.2.at_⟩⟩
 item:=λi s Q E hi st hQ=>by
  have hv:vs[i]?=some vs[i]:=ay hi;exact Sg st.1 st.2.1 st.2.2 hv λh' x' hs'=>hQ _ h' s.toks hv ⟨x',st.2.1.keep λo e=>hs'.extBut a o hne e,let ⟨o,e,d⟩:=st.2.2.tup;⟨⟨o,hs'.extBut T o hnT e,d⟩,st.2.2.len,st.2.2.at_⟩⟩ λb o hb e=>hs'.extBut b o (λh=>hb (by simp [h])) e
 done:=λs Q E st hQ=>xR hh st.1 st.2.1 st.2.2 λh' he=>hQ h' s.toks λb o hb e=>he b o (λh=>hb (by simp [h])) e
 self:=λ_ _ _ _ st hQ=>LX st.1 hQ
def Ph {ks:List Int}{Q:ai->ak->Prop}(hh:A.handled=none) (hS:SO prog w (bt w) s.heap a ks)
  (q:∀ I h1 d (vs:List ai) (ns:List Int) fp St,Walks prog w A I fp [I] vs.length (λi v=>vs[i]?=some v) St->St 0 h1->(∀ b o,s.heap.get? b=some o->h1.get? b=some o)->I∈fp->(∀ b∈fp,b=a\/s.heap.objs.size<=b)->s.heap.objs.size<=I->eO vs ns->ns.Perm ks->Q (.ref I) { s with heap:=h1,drawn:=d }) :
  aG (aM prog w) A (NM (.ref a)) Q E s:=by
 have hlt:=hS.lt;obtain ⟨o,es,ep,t,ho,hex,hd,hel,hin,hb,hf,ti,hled,rfl,hnd⟩:=hS
 have hT:s.TypeIs (.ref a) "set":=⟨o,ho,hex.1⟩
 have hints:∀ {l:List (Int×ai)},(∀ e∈l,∃ u,e.2=.int (key e) u)->eO (l.map (·.2)) (l.map key):=by
  intro l
  induction l with
  | nil=>intro _;exact .nil
  | cons e l ih =>
   intro h;obtain ⟨u,eu⟩:=h e aw;rw [bU,bU,eu];exact .cons _ _ (ih λe' he'=>h e' (aj _ he'))
 refine G8 hT F.slot_set_iter (cI F.slot_set_iter hT Ba ?_ (F.args_set_iter_1 _));unfold ie.«frozenset.__iter__» WG NW;simp only [List.isEmpty_nil,Bool.not_true,bV,↓reduceIte,bind_assoc,kW,bne_self_eq_false];unfold WH WI;refine ae (ao ?_)
 try dsimp only
 refine ae (ao ?_);refine ae (ae (lp ho hd hf (ao ?_)));refine ae ?_;unfold setDrawn;refine ae (iT ho hd hf ?_);dsimp only;refine ae ?_;unfold Eo;refine ae (ir (ao (ao ?_)));have hz:es.size<=aT:=Ha hb
 have hrs:RS s.heap a es ep t:=⟨o,ho,hex,hd,hf⟩
 refine jR (λhdr=>?_) (λhdr=>?_)
 ·refine ae (LY es.size (c6 es.size) iD λord d hp=>?_)
  have hol:ord.length=es.size:=by rw [hp.length_eq,iD]
  refine ae (Ah ?_ (by rw [ag,hol];exact hz));have k1:∀ b ob,s.heap.get? b=some ob->(s.heap.push (bY "tuple" (ord.map λ(i:Nat)=>cA (i:Int)).toArray 0)).get? b=some ob:=λb ob e=>au _ e;have gT:(s.heap.push (bY "tuple" (ord.map λ(i:Nat)=>cA (i:Int)).toArray 0)).get? s.heap.objs.size=some (bY "tuple" (ord.map λ(i:Nat)=>cA (i:Int)).toArray 0):=aI _ rfl;have hsz:(s.heap.push (bY "tuple" (ord.map λ(i:Nat)=>cA (i:Int)).toArray 0)).objs.size=s.heap.objs.size+1:=iW ..;generalize s.heap.push (bY "tuple" (ord.map λ(i:Nat)=>cA (i:Int)).toArray 0)=h0 at k1 gT hsz;refine ae (wpAny_setEpoch_of (s:={ s with heap:=h0,drawn:=d }) (k1 _ _ ho) hd hf ?_);unfold newFields;refine ae (cz (ao ⟨_,rfl,"set_iterator",_,⟨_,aI _ rfl,rfl⟩,eY.lookup,?_⟩))
  have hmem:∀ p∈ord,p<es.size:=λp hpm=>by simpa using hp.mem_iff.mp hpm
  have hget:∀ p,p<es.size->es[p]?=some (es.getD p (0,.none)):=λp hp'=>by rw [b9 hp'];simp [Q7,hp']
  have hperm:(ord.map λp=>es.getD p (0,.none)).Perm es.toList:=by
   refine (hp.map _).trans ?_
   have:(c6 es.size).map (λp=>es.getD p (0,.none))=es.toList:=by
    apply jK
    intro i;rw [ax]
    by_cases hi:i<es.size
    ·rw [kI hi,dG,hget i hi];rfl
    ·rw [cU (by rw [iD];lia),cU (by rw [aK];lia)];rfl
   rw [this]
  have hsub:∀ e∈ord.map (λp=>es.getD p (0,.none)),∃ u,e.2=.int (key e) u:=λe he=>hin e (hperm.mem_iff.mp he)
  have hst:xj (h0.push { cls:=.type "set_iterator",data:=.fields [aD s.heap.objs.size,cA 0,.ref a,cA es.size,cA ep].toArray }) h0.objs.size (.ref s.heap.objs.size) 0 a es.size ep:=⟨_,aI _ rfl,rfl,rfl⟩
  have haI:a≠h0.objs.size:=by rw [hsz];exact a9 (qy hlt)
  have hTI:s.heap.objs.size≠h0.objs.size:=by rw [hsz];exact a9 (ja _)
  refine q h0.objs.size _ d ((ord.map λp=>es.getD p (0,.none)).map (·.2)) ((ord.map λp=>es.getD p (0,.none)).map key) [h0.objs.size,a,s.heap.objs.size] _ (Pg (es:=es) (ep:=ep) (t:=t) (ord:=ord) hh h0.objs.size a s.heap.objs.size haI hTI) ⟨hst,hrs.keep λob e=>au _ (k1 _ _ e),⟨_,au _ gT,rfl⟩,by rw [ag,ag],λi p hip=>?_⟩
   (λb ob e=>au _ (k1 _ _ e)) (by simp) (λb hb'=>?_) (by rw [hsz];exact gW _) (hints hsub) (hperm.map key)
  ·have hpl:=hmem p (aL hip);exact ⟨_,hget p hpl,by rw [ax,ax,hip];rfl⟩
  ·simp only [av,dg,or_false] at hb'
   rcases hb' with rfl|rfl|rfl
   ·exact .inr (by rw [hsz];exact gW _)
   ·exact .inl rfl
   ·exact .inr (ar _)
 ·refine ae (ao (ae (wpAny_setEpoch_of ho hd hf ?_)));unfold newFields;refine ae (cz (ao ⟨_,rfl,"set_iterator",_,⟨_,aI _ rfl,rfl⟩,eY.lookup,?_⟩))
  have hst:xj (s.heap.push { cls:=.type "set_iterator",data:=.fields [cA 0,cA 0,.ref a,cA es.size,cA ep].toArray }) s.heap.objs.size (cA 0) 0 a es.size ep:=⟨_,aI _ rfl,rfl,rfl⟩
  obtain ⟨vs,sl,ns,hord,hiv,hpn⟩:∃ vs sl ns,Ord w a es ep t vs sl/\eO vs ns/\ns.Perm (es.toList.map key):=by
   by_cases hbt:bt w=true
   ·have hpp:=EL (w.params.setOrder a ep) es.size 0 es.toList #[] (aK).symm;rw [show (#[]:Array (Int×ai)).toList++es.toList=es.toList by simp] at hpp;have hpp:(AB (w.params.setOrder a ep) es).toList.Perm es.toList:=hpp;exact ⟨(AB (w.params.setOrder a ep) es).toList.map (·.2),λ_=>0,(AB (w.params.setOrder a ep) es).toList.map key,⟨rfl,by rw [ag,hpp.length_eq,aK],.inl ⟨hbt,rfl,λ_=>rfl⟩⟩,hints λe he=>hin e (hpp.mem_iff.mp he),hpp.map key⟩
   ·have hbf:bt w=false:=by cases h:bt w<;>simp_all
    refine ⟨es.toList.map (·.2),λi=>match i with|0=>0|k+1=>t.place.getD k 0+1,es.toList.map key,⟨rfl,by rw [ag,aK],.inr ⟨hbf,rfl,?_,by rw [hled,hbf];rfl,ti.rise,λi p hp=>?_⟩⟩,hints hin,sI _⟩
    ·cases hx:(!t.plain && decide (es.size>1)) with
     | false=>rfl
     | true =>
      refine absurd ?_ hdr
      show (!(w.params.followText "set-order") && (!t.plain && decide (es.size>1)))=true
      rw [hx,show w.params.followText "set-order"=false from hbf];rfl
    ·have:=(cC.mp hp)
     obtain ⟨hlt',e⟩:=this
     show t.place.getD i 0+1=p+1
     simp [Q7,hlt',e]
  have h0:=hord.1;refine q s.heap.objs.size _ s.drawn vs ns [s.heap.objs.size,a] _ (Ng hh s.heap.objs.size a (a9 hlt) hord) ⟨by rw [h0];exact hst,hrs.keep λob e=>au _ e⟩ (λb ob e=>au _ e) (by simp) (λb hb'=>?_) (ar _) hiv hpn;simp only [av,dg,or_false] at hb'
  rcases hb' with rfl|rfl
  ·exact .inr (ar _)
  ·exact .inl rfl
end
end Sw
namespace Sw
open PySem PySem.Spec PyProof.Rows PySem.W
section
variable {prog:aY}{w:bH}{A:bN}{E:ai->ak->Prop}{s:ak}{a:af}
def Pi {Q:Bool->ak->Prop}(hT:s.TypeIs (.ref a) "set") (h:Q false s):aG (aM prog w) A (je (.ref a)) Q E s:=by
 unfold je;refine ae (Lu hT PySem.F.slot_set_len.lookup ?_);generalize hid:("set.__len__":String)=id0
 wp_delta
 rw [show splitId id0=some ("set","__len__") from by subst hid;decide +kernel];subst hid;refine ae (nA (T:="set") (b:=true) hT (by rw [NV];kernel_rfl) ?_);refine jR (λhab=>absurd hab (by decide)) (λ_=>?_);refine jR (λ_=>?_) (λhab=>absurd (by decide +kernel) hab);refine ae (G1 hT ?_);exact ao h
def Pj {S:af}{ks:List Int}{R:JH->ak->Prop}(hh:A.handled=none) (hS:SO prog w (bt w) s.heap a ks) (hSa:S≠a) (hn:ks.length<=aT) (g:s.heap.get? S=some { cls:=.type "list",data:=.seq #[] 0 })
  (q:∀ h' tk d acc' c' (ns:List Int),(∀ b o,b≠S->s.heap.get? b=some o->h'.get? b=some o)->h'.get? S=some { cls:=.type "list",dict:=none,data:=.seq acc' c',slots:=#[] }->eO acc'.toList ns->ns.Perm ks->R (.ok (.ret (.ref S))) { s with heap:=h',toks:=tk,drawn:=d }) :
  km (aM prog w) A (.builtin "list.__iadd__" ⟨[.ref S,.ref a],[]⟩) R s:=by
 have hT:s.TypeIs (.ref a) "set":=let ⟨o,_,_,_,e,c,_⟩:=hS;⟨o,e,c.1⟩
 refine fU F.entry_list_iadd ?_;rw [dO F.plain_list_iadd _]
 show aG _ A.in1 (gg (.ref S) (.ref a) (.ref S)) _ _ s
 unfold gg;refine ae (G1 (T:="set") hT ?_)
 have h1:jM (.ref S) (.ref a)=false:=by simp [jM,hSa]
 have h2:(eS "set" == eS "list")=false:=by decide
 have h3:(eS "set" == eS "tuple")=false:=by decide
 simp only [h1,h2,h3,Bool.or_false,bV,if_false];refine ae (Ph (A:=A.in1) hh hS λI h1 d vs ns fp St W st kp hI hfp hIl hiv hpn=>?_)
 have hSf:S∉fp:=λhm=>by
  rcases hfp S hm with e|e
  ·exact hSa e
  ·exact absurd (aJ g) (Nat.not_lt.mpr e)
 have hln:vs.length=ks.length:=by rw [hiv.length,hpn.length_eq]
 have hn':vs.length<=aT:=by lia
 have hT1:({ s with heap:=h1,drawn:=d }:ak).TypeIs (.ref a) "set":=let ⟨o,e,c⟩:=hT;⟨o,kp _ _ e,c⟩
 have key:∀ (h:cb) (c₁:Nat),St 0 h->(∀ b o,b≠S->s.heap.get? b=some o->h.get? b=some o)->h.get? S=some { cls:=.type "list",data:=.seq #[] c₁ } ->
   km (aM prog w) A (.builtin "list.extend.loop" ⟨[.ref S,.ref I,.ref S],[]⟩) R { s with heap:=h,drawn:=d }:=by
  intro h c₁ hst hk hS₁;refine codeAny_extend_loopS W.toS hn' S hSf (.ref S) vs.length 0 _ #[] c₁ rfl (aQ _) hst hS₁ (ItemsOf.nil _) λs' acc' c' hm hS' hacc=>?_
  have es:s'={ s with heap:=s'.heap,toks:=s'.toks,drawn:=d }:=by have e:=Moved.eq_with hm;exact e
  rw [es];have ea:acc'.toList=vs:=L2.HX hacc;refine q s'.heap s'.toks d acc' c' ns (λb o hb e=>hm.heap b o (λhmem=>?_) (hk b o hb e)) hS' (by rw [ea];exact hiv) hpn
  rcases av.mp hmem with e'|hmem
  ·exact hb e'
  ·rw [aA.mp hmem] at e;exact absurd (aJ e) (Nat.not_lt.mpr hIl)
 refine ae (cq (Pi hT1 ?_));refine jR (λ_=>?_) (λ_=>ao ⟨jd dW _,key _ 0 st (λb o _ e=>kp b o e) (kp _ _ g)⟩);refine ae (jf (ae ?_))
 show aG _ _ (JM S (·.push .none) >>= λ_=>JM S (·.pop)) _ _ _
 refine ae (pE (kp _ _ g) rfl ?_);have g2:=bQ (bO (·.push eQ)) (kp _ _ g) rfl;refine pE (hz:=by seq_fits) g2 rfl ?_;have g3:=bQ (bO (·.pop)) g2 rfl;refine ao ⟨jd dW _,key _ _ ?_ (λb o hb e=>?_) g3⟩
 ·refine W.frame 0 _ _ st λb hb o e=>?_;have hbS:b≠S:=λh=>hSf (h▸hb);exact (bz _ _ (Ne.symm hbS)).trans ((bz _ _ (Ne.symm hbS)).trans e)
 ·exact (bz _ _ (Ne.symm hb)).trans ((bz _ _ (Ne.symm hb)).trans (kp b o e))
def Ie {ks:List Int}{Q:List ai->ak->Prop}(hh:A.handled=none) (hS:SO prog w (bt w) s.heap a ks) (hn:ks.length<=aT)
  (q:∀ h' tk d vs (ns:List Int),(∀ b o,s.heap.get? b=some o->h'.get? b=some o)->eO vs ns->ns.Perm ks->Q vs { s with heap:=h',toks:=tk,drawn:=d }):aG (aM prog w) A (G9 (.ref a)) Q E s:=by
 have hlt:=hS.lt;unfold G9;refine ae (NS (fU F.entry_proto_collect ?_));rw [dO F.plain_proto_collect _]
 show aG _ A.in1 (newList [] >>= λl=>again (.builtin "list.__iadd__" ⟨[l,.ref a],[]⟩)) _ _ s
 have g:(s.heap.push { cls:=.type "list",data:=.seq ([]:List ai).toArray }).get? s.heap.objs.size=some { cls:=.type "list",data:=.seq #[] 0 }:=aI _ rfl;refine ae (cz (ao ⟨jd F.plain_list_iadd _,Pj (s:={ s with heap:=s.heap.push { cls:=.type "list",data:=.seq ([]:List ai).toArray } }) hh (hS.keep λo e=>au _ e) (dN hlt) hn g λh' tk d acc' c' ns hk hS' hi hp=>?_⟩))
 show aG _ A (load s.heap.objs.size >>= _) _ _ { s with heap:=h',toks:=tk,drawn:=d }
 refine ae (El hS' (ao (q h' tk d acc'.toList ns (λb o e=>hk b o (a9 (aJ e)) (au _ e)) hi hp)))
end
end Sw
namespace L2
open PySem PySem.Spec PyProof.Rows PySem.W
def Inv.drawn {X:Cx}{pins:List (af×ft)}{Z:St}{H:Hp}{s:ak}(I:Inv X pins Z H s) (d:Drawn):Inv X pins Z H { s with drawn:=d }:=⟨I.ok,I.os,I.bare,I.base,I.loc,I.cell,I.free,I.sE,I.pin,I.eC,I.len⟩
def Pk {ks ds:List Int}(hn:ks.Nodup) (h:∀ x∈ks,x∈ds):ks.length<=ds.length:=by
 induction ks generalizing ds with
 | nil=>simp
 | cons a ks ih =>
  obtain ⟨h1,h2⟩:=bp.mp hn;obtain ⟨l1,l2,rfl⟩:=k9 (h a aw)
  have:=ih (ds:=l1++l2) h2 λx hx=>by
   have hx':=h x (aj _ hx)
   rcases aN.mp hx' with q|q
   ·exact dQ _ q
   ·rcases av.mp q with q|q
    ·exact absurd (q▸hx) h1
    ·exact bG _ q
  simp at this ⊢;lia
section
variable {X:Cx}{x:Expr}{t:TA}{p1 p2 q1 q2:kM}
end
end L2
namespace L2
open PySem PySem.Spec PyProof.Rows PySem.W
section
variable {X:Cx}
end
end L2
namespace L2
end L2
namespace L2
section
variable {P:aY}{w:bH}{st:List Ek}{H H2:Hp}{s:ak}{a:af}{B h h':cb}
end
section
variable {P:aY}{w:bH}{K:aa}{mg:bh->Option ai}{base:cb}{N:List bh}{qual:bh}{scope:jB}{f:af}{cd:ai}{A:bN}{outer:List Ek}{s:ak}{H:Hp}{E E':XK}
end
end L2
namespace L2
end L2
namespace L2
section
variable {X:Cx}{pins:List (af×ft)}{Z:St}{H:Hp}{s:ak}
end
end L2
namespace L2
section
variable {X:Cx}{k:Nat}{f CT:af}{fd:eI}{ps:List bh}{sp:Sp}{x xT n:bh}{p np cpos epos hpos pos:kM}{e:Expr}{es:List Expr}{t:TA}{th:TS}{i:Nat}{b₀:dk} {suite:List dk}
end
end L2
namespace L2
end L2
namespace L2
section
variable {X:Cx}{k:Nat}{f:af}{fd:eI}{ps:List bh}{sp:Sp}{x:bh}{p pos:kM}{e:Expr}{es:List Expr}{t:TA}
end
end L2
namespace L2
section
variable {K:aa}{Z:St}{H:Hp}{Q:VK}
end
end L2
namespace L2
structure Cal (P:aY) (w:bH) (K:aa) (mg:bh->Option ai) (base:cb) (CX:JP) (k:Nat) (x:bh) (ps:List bh) (sp:Sp) where
 f:af
 d:eI
 G:lj P w K mg base CX k f d ps sp
 m:mg x=some (.ref f)
 kp:eD K (.ref f)=true
 b:Binds K d ps []
structure VV (P:aY) (w:bH) (K:aa) (mg:bh->Option ai) (base:cb) (CX:JP) (k:Nat) (C:af) (x:bh) (ps:List bh) (sp:Sp) where
 f:af
 d:eI
 G:lj P w K mg base CX k f d ps sp
 m:RM K C x f
 b:Binds K d ps []
structure CalI (P:aY) (w:bH) (K:aa) (mg:bh->Option ai) (base:cb) (CX:JP) (k:Nat) (C:af) (ps:List bh) (sp:Sp) where
 f:af
 d:eI
 G:lj P w K mg base CX k f d ps sp
 m:Mk K C f
 b:Binds K d ps []
structure qw (K:aa) (mg:bh->Option ai) (x:bh) (st:dk) (ps:List bh) where
 f:af
 d:eI
 F:Lj K x x st f d
 m:mg x=some (.ref f)
 bt:∀ (s:ak) (us:List ai),us.length=ps.length->GZ s d ⟨us,[]⟩ (ps.zip us)
 b:Binds K d ps []
structure lK (K:aa) (C:af) (x q:bh) (st:dk) (ps:List bh) where
 f:af
 d:eI
 F:Lj K x q st f d
 a:bD K (.ref C) x=some (some (.ref f))
 i:qI K (.ref f)=true
 b:Binds K d ps []
def tm {K:aa}{h:cb}{mg:bh->Option ai}{x:bh}{st:dk}{ps:List bh}(X:K.In h) (G:h.Ns bR mg) {f:af}{od an:Option af}{sl:Array (Option ai)}{oc kV dc pm cd ct:ai}(a:de K bR x=some (some (.ref f)))
  (l:K.lookup f=some ⟨oc,od,.func (iq x x (nF st) (kh st) (aX st) .none kV dc pm an cd ct),sl⟩) (c:nz K cd x=true) (k:eD K (.ref f)=true)
  (hb:∀ (kV doc pm:ai) (an:Option af) (nj ct:ai) (us:List ai),us.length=ps.length->Ad (iq x x (nF st) (kh st) (aX st) .none kV doc pm an nj ct) ⟨us,[]⟩=pure (ps.zip us)):qw K mg x st ps :=
 ⟨f,_,FE l c k,pG X G a,λs us hl=>.of_eq (hb kV dc pm an cd ct us hl),(FE l c k).binds hb⟩
def CN {K:aa}{C:af}{x q:bh}{st:dk}{ps:List bh}{f:af}{od an:Option af}{sl:Array (Option ai)}{oc kV dc pm cd ct:ai}(a:bD K (.ref C) x=some (some (.ref f))) (i:qI K (.ref f)=true)
  (l:K.lookup f=some ⟨oc,od,.func (iq x q (nF st) (kh st) (aX st) .none kV dc pm an cd ct),sl⟩) (c:nz K cd q=true) (k:eD K (.ref f)=true)
  (hb:∀ (kV doc pm:ai) (an:Option af) (nj ct:ai) (us:List ai),us.length=ps.length->Ad (iq x q (nF st) (kh st) (aX st) .none kV doc pm an nj ct) ⟨us,[]⟩=pure (ps.zip us)):lK K C x q st ps :=
 ⟨f,_,FE l c k,a,i,(FE l c k).binds hb⟩
def qw.law {K:aa}{mg:bh->Option ai}{x y:bh}{st:dk}{fa:af}(D:qw K mg x st [y]) (h:mg x=some (.ref fa)):D.f=fa:=by
 have:=D.m.symm.trans h;cases this;rfl
section
variable {X:Cx}{CX:JP}{E:XK}{k:Nat}{C:af}{ps:List bh}{sp:Sp}{x:bh}{p pos apos:kM}{e o:Expr}{es:List Expr}{t:TA}{ta:TE}
def Zd (c:Cal X.prog X.w X.K X.mg X.base CX k x ps sp) (hr:hU k X.A) (hg:Gl X x) (hx:n0 CX X E) (ha:PA X (e::es) t) (hdb:(x == ("__debug__":bh))=false:=by decide) (he:bF (e::es) X.env=(false,eN e X.env)::bF es X.env:=by rfl) (hpl:(gm pos (bF es X.env)).any (·.1)=false:=by rfl) :
  PE X (.Call (.Name x p) (e::es) [] pos) (cV sp [] E t):=RO c.G hr hg c.m c.kp c.b .nil hx ha hdb he hpl
def pcm {pl:SV Bool}(c:VV X.prog X.w X.K X.mg X.base CX k C x ps sp) (cl:CO X.K C) (hr:hU k X.A) (he:PE X o ta) (hx:n0 CX X E) (ha:PA X (e::es) t)
  (hst:bF (e::es) X.env=(false,eN e X.env)::bF es X.env:=by rfl) (hpl:(gm pos (bF es X.env)).any (·.1)=false:=by rfl)
  (ht:eN (.Call (.Attribute o x apos) (e::es) [] pos) X.env=(do
   let ov ← eN o X.env
   sR apos.atName
   let (f,first) ← kj [ov] (Ax ov x pl)
   Ww pos f first (gm pos (bF (e::es) X.env)) (Ae pos (om [] X.env))):=by rfl) :
  PE X (.Call (.Attribute o x apos) (e::es) [] pos) (fN C x sp [] E ta t):=RP he cl c.m c.G hr c.b .nil hx ha hst hpl ht
def pcm0 {pl:SV Bool}(c:VV X.prog X.w X.K X.mg X.base CX k C x ps sp) (cl:CO X.K C) (hr:hU k X.A) (he:PE X o ta) (hx:n0 CX X E)
  (ht:eN (.Call (.Attribute o x apos) [] [] pos) X.env=(do
   let ov ← eN o X.env
   sR apos.atName
   let (f,first) ← kj [ov] (Ax ov x pl)
   Ww pos f first (gm pos (bF [] X.env)) (Ae pos (om [] X.env))):=by rfl) :
  PE X (.Call (.Attribute o x apos) [] [] pos) (fN C x sp [] E ta bj):=OA he cl c.m c.G hr c.b .nil hx ht
end
end L2
namespace L2
open PySem PySem.Spec PyProof.Rows PySem.W
def fA:List Int->List Int->Bool
 | [],[]=>false
 | [],_::_=>true
 | _::_,[]=>false
 | x::xs,y::ys=>if x=y then fA xs ys else decide (x<y)
theorem sP:∀ x:List Int,fA x x=false
 | []=>rfl
 | x::xs=>by unfold fA;rw [if_pos rfl];exact sP xs
theorem uS:∀ {x y:List Int},fA x y=false->fA y x=true\/x=y
 | [],[],_=>.inr rfl
 | [],_::_,h=>by unfold fA at h;cases h
 | _::_,[],_=>.inl (by unfold fA;rfl)
 | x::xs,y::ys,h=>by
  unfold fA at h ⊢
  by_cases e:x=y
  ·subst e;rw [if_pos rfl] at h ⊢
   rcases uS h with q|q
   ·exact .inl q
   ·exact .inr (by rw [q])
  ·rw [if_neg e] at h;rw [if_neg (Ne.symm e)];exact .inl (by have:=of_decide_eq_false h;exact decide_eq_true (by lia))
theorem uT:∀ {x y z:List Int},fA x y=true->fA y z=true->fA x z=true
 | [],[],_,h,_=>by unfold fA at h;cases h
 | [],_::_,[],_,h=>by unfold fA at h;cases h
 | [],_::_,_::_,_,_=>by unfold fA;rfl
 | _::_,[],_,h,_=>by unfold fA at h;cases h
 | _::_,_::_,[],_,h=>by unfold fA at h;cases h
 | x::xs,y::ys,z::zs,h,h'=>by
  unfold fA at h h' ⊢
  by_cases e:x=y
  ·subst e;rw [if_pos rfl] at h
   by_cases e':x=z
   ·rw [if_pos e'] at h' ⊢;exact uT h h'
   ·rw [if_neg e'] at h' ⊢;exact h'
  ·rw [if_neg e] at h;have h1:=of_decide_eq_true h
   by_cases e':y=z
   ·subst e';rw [if_neg e];exact h
   ·rw [if_neg e'] at h';have h2:=of_decide_eq_true h';rw [if_neg (by lia)];exact decide_eq_true (by lia)
def EM (ts:List (List Int)) (t:List Int):Int:=(ts.countP λu=>fA u t:Nat)
def vN {ts:List (List Int)}{t u:List Int}(ht:t∈ts):decide (EM ts t<EM ts u)=fA t u:=by
 unfold EM
 cases q:fA t u with
 | true =>
  have:=HS (l:=ts) (p:=λv=>fA v t) (q:=λv=>fA v u) (x:=t) (λy _ h=>uT h q) ht (sP t) q
  exact decide_eq_true (by lia)
 | false =>
  have:ts.countP (λv=>fA v u)<=ts.countP λv=>fA v t:=NR λv _ h=>by
   rcases uS q with e|e
   ·exact uT h e
   ·rw [e];exact h
  exact decide_eq_false (by lia)
inductive Flat:List Bool->List V->List Int->Prop
 | nil:Flat [] [] []
 | int (i:Int) {m:List Bool}{xs:List V}{ks:List Int}:Flat m xs ks->Flat (false::m) (.int i::xs) (i::ks)
 | bl (b:Bool) {m:List Bool}{xs:List V}{ks:List Int}:Flat m xs ks->Flat (true::m) (.bl b::xs) (b2i b::ks)
def Flat.length {m:List Bool}{xs:List V}{ks:List Int}(h:Flat m xs ks):xs.length=m.length:=by
 induction h with
 | nil=>rfl
 | int _ _ ih=>simp [ih]
 | bl _ _ ih=>simp [ih]
section
variable {prog:aY}{w:bH}{A:bN}{s:ak}{b:Bool}{Q:Bool->ak->Prop}
def Pl {m:List Bool}{xs:List V}{ks:List Int}(fx:Flat m xs ks):∀ {ys:List V}{ls:List Int}{us ws:List ai}{i:Nat},Flat m ys ls->Vals xs us->Vals ys ws->(b && i == 0)=false->Q (fA ks ls) s ->
  KatLex prog w A b false Q (us.zip ws) i s:=by
 induction fx with
 | nil =>
  intro ys ls us ws i fy rx ry hi q;cases fy;cases rx;cases ry;unfold fA at q
  exact kat_nil q
 | int a _ ih =>
  intro ys ls us ws i fy rx ry hi q
  cases fy with
  | int c fy =>
   cases rx with
   | cons r1 rx =>
    cases ry with
    | cons r2 ry =>
     obtain ⟨t,rfl⟩:=r1;obtain ⟨u,rfl⟩:=r2;rw [jk];refine Hc (iP a t c u _ _ _ _ ?_);unfold fA at q
     by_cases e:a=c
     ·rw [if_pos e] at q;rw [show (a == c)=true by simpa using e];exact He (ih fy rx ry (by simp) q)
     ·rw [if_neg e] at q;rw [show (a == c)=false by simpa using e];refine kat_no ?_;rw [hi]
      exact kat_one _ _ (Ri q)
 | bl a _ ih =>
  intro ys ls us ws i fy rx ry hi q
  cases fy with
  | bl c fy =>
   cases rx with
   | cons r1 rx =>
    cases ry with
    | cons r2 ry =>
     cases r1;cases r2;rw [jk];refine Hc (SeqAt.EqAt.bool_bool a c _ _ _ _ ?_);unfold fA at q
     by_cases e:a=c
     ·rw [if_pos (by rw [e])] at q;rw [show (a == c)=true by simpa using e];exact He (ih fy rx ry (by simp) q)
     ·rw [if_neg (by cases a<;>cases c<;>first|exact absurd rfl e|decide)] at q;rw [show (a == c)=false by simpa using e];refine kat_no ?_;rw [hi];exact kat_one _ _ (lt_bool q)
def LZ {x y:af}{m:List Bool}{xs ys:List V}{ks ls:List Int}{us ws:List ai}{E:ai->ak->Prop}(fx:Flat (false::m) xs ks) (fy:Flat (false::m) ys ls) (rx:Vals xs us) (ry:Vals ys ws)
  (hx:pH s.heap x us.toArray) (hy:pH s.heap y ws.toArray) (h:Q (fA ks ls) s):aG (aM prog w) A (keyLt' (Td true) (.ref x) (.ref y)) Q E s:=by
 obtain ⟨ox,ex,cx,nx,dx⟩:=hx;obtain ⟨oy,ey,cy,ny,dy⟩:=hy
 have l1:us.length=ws.length:=by rw [← rx.length,← ry.length,fx.length,fy.length]
 refine kat_lt ex dx ey dy ?_;rw [show decide (us.toArray.size<ws.toArray.size)=false by simp [l1]]
 cases fx with
 | int a fx =>
  cases fy with
  | int c fy =>
   cases rx with
   | cons r1 rx =>
    cases ry with
    | cons r2 ry =>
     obtain ⟨t,rfl⟩:=r1;obtain ⟨u,rfl⟩:=r2
     show KatLex _ _ _ _ _ _ (List.zip (_::_) (_::_)) 0 s
     rw [jk];refine Hc (iP a t c u _ _ _ _ ?_);unfold fA at h
     by_cases e:a=c
     ·rw [if_pos e] at h;rw [show (a == c)=true by simpa using e];exact He (Pl fx fy rx ry (by simp) h)
     ·rw [if_neg e] at h;rw [show (a == c)=false by simpa using e];exact kat_no (oneLt_int h)
end
abbrev Zn:=List Int×af
def lF (z:Zn):V:=.ref z.2
def Bc (m:List Bool) (H:Hp) (z:Zn):Prop:=∃ xs,H z.2=some (.tup xs)/\Flat (false::m) xs z.1
theorem vO:∀ {zs:List Zn}{us:List ai},Vals (zs.map lF) us->us=zs.map λz=>aD z.2
 | [],_,h=>by cases h;rfl
 | z::zs,_,h=>by
  cases h with
  | cons h1 h2=>cases h1;rw [vO h2];rfl
theorem pR:∀ zs:List Zn,Vals (zs.map lF) (zs.map λz=>aD z.2)
 | []=>.nil
 | _::zs=>.cons rfl (pR zs)
theorem L0 {h:cb}:∀ {zs:List Zn},(∀ z∈zs,∃ i t us,pH h z.2 (fj i t::us).toArray)->∃ fs,KatTups h (zs.map λz=>aD z.2) fs/\fs.length=zs.length/\∀ v∈fs,∃ i t,v=fj i t
 | [],_=>⟨[],.nil,rfl,λ_ h=>nomatch h⟩
 | z::zs,hz=>by
  obtain ⟨fs,k1,k2,k3⟩:=L0 (zs:=zs) λz' h'=>hz z' (aj _ h');obtain ⟨i,t,us,o,e,c,n,d⟩:=hz z aw;refine ⟨.int i t::fs,WJ e c d (by simp) k1,by simp [k2],λv hv=>?_⟩
  rcases av.mp hv with rfl|hv
  ·exact ⟨i,t,rfl⟩
  ·exact k3 v hv
section
variable {X:Cx}
end
end L2
namespace L2
open PySem PySem.Spec PySem.Calls PyProof.Rows
open PySem.W (kla_fn kla_obj tabObj CodeHd)
def EN {prog:aY}{w:bH}{A:bN}{E:ai->ak->Prop}{Q:ai->ak->Prop}{s:ak}{f c':af}{qual x:bh}{params:l8}{body:Expr}{scope:jB}{clos:List (bh×af)}{pm ctv v:ai}
  (hroom:A.depth<qJ) (ho:s.heap.get? f=some (xp "<lambda>" qual params body scope clos pm c' ctv)) (hrec:s.heap.CodeRec (.ref c') qual) (hlim:s.heap.NoLimit)
  (hb:Ad (kla_fn "<lambda>" qual params body scope clos pm (.ref c') ctv) ⟨[v],[]⟩=pure [(x,v)])
  (hx:scope.names.lookup x=some .local) (hk:scope.kind=.function) (hco:scope.isCoroutine=false) (hgen:scope.isGenerator=false) (hcell:∀ z∈scope.names,z.2≠.cell)
  (h:∀ (env:Ek) (h₁:cb) (tk:Nat) (E':ai->ak->Prop),env.scope=scope->env.cells=clos->s.heap.objs.size<=env.locals->h₁.Ns env.locals (λz=>dF z [(x,v)])->(∀ b o,s.heap.get? b=some o->h₁.get? b=some o) ->
   aG (aM prog w) (A.deeper env) (eN body env) Q E' { s with heap:=h₁,toks:=tk }) :
  aG (aM prog w) A (call (.ref f) [v]) Q E s:=by
 refine NN (PySem.W.kla_callFunE hroom ho rfl hco hgen rfl hrec ?_);rw [hb];refine ao (Wz hcell (λz hz=>by rw [aA.mp hz];exact hx) (λh₁ hns hsb=>⟨hlim.fresh _ hsb,?_⟩) hk);have hk₁:∀ b o,s.heap.get? b=some o->h₁.get? b=some o:=λb o e=>hsb.extBut b o (a9 (aJ e)) (au _ e);exact PySem.W.kla_codeExpr (h _ h₁ _ _ rfl rfl (ar _) hns hk₁)
def MA (prog:aY) (w:bH) (A:bN) (env:Ek) (s:ak) (h:cb) (e:Expr) (i:Int):Prop :=
 ∀ (tk:Nat) (Q:ai->ak->Prop) (E:ai->ak->Prop),(∀ tk' t,Q (.int i t) { s with heap:=h,toks:=tk' })->aG (aM prog w) A (eN e env) Q E { s with heap:=h,toks:=tk }
section
variable {prog:aY}{w:bH}{A:bN}{env:Ek}{s:ak}{h:cb}{a b:Expr}{i j:Int}{pos:kM}
def MA.bin {op:Ac}{r:Int}(ha:MA prog w A env s h a i) (hb:MA prog w A env s h b j)
  (ho:∀ (tk:Nat) (t u:SU) (Q:ai->ak->Prop) (E:ai->ak->Prop),(∀ tk' v,Q (.int r v) { s with heap:=h,toks:=tk' })->aG (aM prog w) A (qH op (.int i t) (.int j u)) Q E { s with heap:=h,toks:=tk }) :
  MA prog w A env s h (.BinOp a op b pos) r:=λtk Q E q=>wpAny_BinOp (ha tk _ _ λ_ _=>hb _ _ _ λ_ _=>ho _ _ _ _ _ q)
def MA.UD {x:bh}{b:af}{its:Array ai}{k:Nat}{t:SU}{p1 p2:kM}{n:Nat}(hk:env.scope.kind=.function) (hx:env.scope.names.lookup x=some .local) (hn:h.Ns env.locals (λz=>dF z [(x,aD b)]))
  (ht:pH h b its) (hi:its[k]?=some (.int i t)) (hs:its.size<=aT) (hdx:(x == ("__debug__":bh))=false:=by decide):MA prog w A env s h (.Subscript (.Name x p1) (.Constant (.int k) n p2) pos) i:=by
 intro tk Q E q
 have hlt:k<its.size:=by
  by_cases z:k<its.size
  ·exact z
  ·rw [gM (by lia)] at hi;cases hi
 have hl:=qT;refine NO (qG (kK hk hx hn (v:=.ref b) ?_ ?_) hdx)
 ·show dF x [(x,aD b)]=_
  rw [cG,beq_self_eq_true]
 refine wpAny_Constant_int ?_;have ht':pH ({ s with heap:=h,toks:=tk }:ak).heap b its:=ht;refine xo (x:=.int i t) (T:="tuple") ?_ gX.lookup (getItem_tuple (j:=k) (x:=.int i t) (Q:=λr s'=>r=.int i t/\Q r s') ?_ (by lia) (by lia) ?_ hi ⟨rfl,q _ _⟩) (by with_unfolding_all rfl)
 ·obtain ⟨o,e,c,r⟩:=ht;exact ⟨o,e,c⟩
 ·exact ht
 ·unfold seqIndex?
  have h0:¬ ((k:Int)<0):=by lia
  simp only [h0,if_false];simp [hlt]
end
section
variable {X:Cx}{c Pt:af}{e body:Expr}{tx:TA}{x y:bh}{j:Nat}{params:l8}{scope:jB}{p0 lpos kpos pos:kM}{C:Int->Int->Int->Prop}{g:Int->Int->Int->Int}
end
end L2
namespace L2
open PySem PySem.Spec PySem.Calls PyProof.Rows PySem.W
theorem L3:∀ x y:List Int,fA x y=HT.lexLt x y
 | [],[]=>rfl
 | [],_::_=>rfl
 | _::_,[]=>rfl
 | x::xs,y::ys=>by unfold fA;rw [HT.AU,L3 xs ys]
def Ig (z:Zn) (t:SU):ft:=bY "tuple" #[.int (z.1.headD 0) t,.ref z.2] 0
section
variable {prog:aY}{w:bH}{A:bN}{s:ak}{Q:Bool->ak->Prop}
def Si {k1 k2 b1 b2:af}{w1 w2 x1 y1 x2 y2:Int}{t1 t2 ta tb tc td:SU}{E:ai->ak->Prop}(hx:pH s.heap k1 #[.int w1 t1,.ref b1]) (hy:pH s.heap k2 #[.int w2 t2,.ref b2])
  (hb1:pH s.heap b1 #[.int x1 ta,.int y1 tb]) (hb2:pH s.heap b2 #[.int x2 tc,.int y2 td]) (hu:A.units<gO) (h:Q (fA [w1,x1,y1] [w2,x2,y2]) s):aG (aM prog w) A (keyLt' (Td true) (.ref k1) (.ref k2)) Q E s:=by
 obtain ⟨ox,ex,cx,nx,dx⟩:=hx;obtain ⟨oy,ey,cy,ny,dy⟩:=hy;refine kat_lt ex dx ey dy ?_;have ez:(#[fj w1 t1,aD b1].toList.zip #[fj w2 t2,aD b2].toList)=[(.int w1 t1,.int w2 t2),(.ref b1,.ref b2)]:=rfl;rw [ez];refine Hc (iP w1 t1 w2 t2 _ _ _ _ ?_);unfold fA at h
 by_cases e:w1=w2
 ·rw [if_pos e] at h;rw [show (w1 == w2)=true by simpa using e]
  by_cases eb:b1=b2
  ·subst eb;refine He (Hc (SeqAt.EqAt.same _ _ _ _ _ (He (kat_nil ?_))))
   have:x1=x2/\y1=y2:=by
    obtain ⟨o,e1,_,n,d1⟩:=hb1;obtain ⟨o',e2,_,n',d2⟩:=hb2;rw [e1] at e2;cases e2;rw [d1] at d2;simp at d2;exact ⟨d2.1.1.1,d2.1.2.1⟩
   rw [this.1,this.2,sP] at h;exact h
  ·have rc:SeqAt.RcAt A s (.ref b1) (.ref b2) ((c6 (min 2 2)).all (λj=>if j=0 then x1 == x2 else y1 == y2) && (2 == 2)):=SeqAt.RcAt.tuples (items:=#[.int x1 ta,.int y1 tb]) (items2:=#[.int x2 tc,.int y2 td]) hb1 hb2 hu λj h1 h2=>by
    match j,h1,h2 with
    | 0,_,_=>exact iP x1 ta x2 tc
    | 1,_,_=>exact iP y1 tb y2 td
    | j+2,h1,_=>exact absurd h1 (by simp)
   have er:((c6 (min 2 2)).all (λj=>if j=0 then x1 == x2 else y1 == y2) && (2 == 2))=(x1 == x2 && y1 == y2):=by
    show ([0,1].all _ && true)=_
    simp
   rw [er] at rc;refine He (Hc (SeqAt.EqAt.of_refs eb rc _ _ _ _ ?_))
   by_cases c1:x1=x2/\y1=y2
   ·rw [show (x1 == x2 && y1 == y2)=true by simp [c1]];refine He (kat_nil ?_);rw [c1.1,c1.2,sP] at h;exact h
   ·rw [show (x1 == x2 && y1 == y2)=false by
     cases q:(x1 == x2 && y1 == y2) with
     | false=>rfl
     | true=>simp at q;exact absurd q c1]
    refine kat_no (kat_one _ _ (HT.Kd hb1 hb2 (.cons _ _ (.cons _ _ .nil)) (.cons _ _ (.cons _ _ .nil)) hu ?_));rw [L3] at h;exact h
 ·rw [if_neg e] at h;rw [show (w1 == w2)=false by simpa using e];exact kat_no (oneLt_int h)
end
section
variable {P:aY}{w:bH}{A:bN}{env:Ek}{s:ak}{h:cb}{H:Hp}
def Pm {x y:bh}{b d cl:af}{wt:Int}{tk:Nat}{p1 p2 p3 p4 p5:kM}{x1} {Q:ai->ak->Prop}{E:ai->ak->Prop}(eC:qv P w H h) (hk:env.scope.kind=.function) (hx:env.scope.names.lookup x=some .local) (hy:env.scope.names.lookup y=some .free) (hn:h.Ns env.locals (λz=>dF z [(x,aD b)]))
  (hcl:env.cells.lookup y=some cl) (hcv:h.IsCell cl (some (.ref d))) {N6:List (List fT×V)}{k:List fT}(hd:H d=some (.dT N6)) (hb:H b=some (.tup (k.map kV))) (hv:gQ N6 k=some (.int wt)) (hu:A.units+64<gO)
  (q:∀ t tk',Q (.ref h.objs.size) { s with heap:=h.push (bY "tuple" #[.int wt t,.ref b] 0),toks:=tk' })
  (hdx:(x == ("__debug__":bh))=false:=by decide) (hdy:(y == ("__debug__":bh))=false:=by decide) (hdc:(y == ("__classdict__":bh))=false:=by decide) :
  aG (aM P w) A (eN (.Tuple [.Subscript (.Name y p1) (.Name x p2) p3,.Name x p4] x1 p5) env) Q E { s with heap:=h,toks:=tk }:=by
 have lx:dF x [(x,aD b)]=some (aD b):=by rw [cG,beq_self_eq_true]
 refine CI (eT (NO (qG (WZ hk hy hcl (v:=.ref d) hcv ?_ hdc) hdy)));refine qG (kK hk hx hn (v:=.ref b) lx ?_) hdx;obtain ⟨z,hm,xs,rel,dd⟩:=yP eC (.inl hd);obtain ⟨w',hw,rw'⟩:=qb.some_of (v:=V.int wt) (o:=(G4 xs k).map (·.2)) (by rw [← hv];exact rel.val k);obtain ⟨t,rfl⟩:=rw';obtain ⟨p,hp,hp2⟩:=aW.mp hw
 have ty:({ s with heap:=h,toks:=tk }:ak).TypeIs (.ref d) "dict":=by
  obtain ⟨o,es,ep,e1,e2,_⟩:=dd;exact ⟨o,e1,e2.1⟩
 refine tail_any ty Fg.lookup (wpAny_getItem_heap (iB (by lia)) (pO eC hb) dd hp ?_) rfl;rw [hp2];refine eT (qG (kK hk hx hn (v:=.ref b) lx (jC ⟨?_,q t _⟩)) hdx);exact bM (m:=2) (ar 2)
end
end L2
namespace L2
open PySem PySem.Spec PySem.Calls PyProof.Rows PySem.W
theorem yT {α β:Type} {R:α->β->Prop}{a:α}{b:β}(r:R a b):∀ {xs:List α}{ys:List β},Paired R xs ys->Paired R (xs++[a]) (ys++[b])
 | _,_,.nil=>.cons r .nil
 | _,_,.cons h t=>.cons h (yT r t)
theorem uU {α β:Type} {R:α->β->Prop}:∀ {xs:List α}{ys:List β},Paired R xs ys->ys.length=xs.length
 | _,_,.nil=>rfl
 | _,_,.cons _ t=>by simp [uU t]
theorem Bd {α β:Type} {R:α->β->Prop}:∀ {xs:List α}{ys:List β},Paired R xs ys->∀ (i:Nat) (a:α),xs[i]?=some a->∃ b,ys[i]?=some b/\R a b
 | _,_,.nil,_,_,h=>by simp at h
 | _,_,.cons r t,0,a,h=>by simp at h;subst h;exact ⟨_,rfl,r⟩
 | _,_,.cons r t,i+1,a,h=>by simpa using Bd t i a (by simpa using h)
section
variable {prog:aY}{w:bH}{A:bN}{s:ak}{h₀:cb} {L a kS:af}{m:bh->Option ai}{jZ:List (af×ft)}{f:ai}{e1:Nat}{zs:List Zn}{Fin:List ai->Nat->ak->Prop}
end
section
variable {prog:aY}{w:bH}{A:bN}{s:ak}{h₀:cb} {L a kS:af}{m:bh->Option ai}{jZ own:List (af×ft)}{e e1:Nat}{zs:List Zn}{ks:List af}{Post:ak->Prop}
end
end L2
namespace L2
open PySem PySem.Spec PySem.Calls PyProof.Rows PySem.W
section
variable {prog:aY}{w:bH}{A:bN}{E:ai->ak->Prop}{s:ak}{h₀:cb} {L a:af}{m:bh->Option ai}{jZ:List (af×ft)}{f:ai}{n:Nat}{vs:List ai}{P:JW->ak->Prop}
end
section
variable {X:Cx}{c Pt:af}{e:Expr}{tx:TA}{x y:bh}{j:Nat}{params:l8}{scope:jB}{p0 p1 p2 p3 p4 p5 lpos kpos pos:kM}{x1:Nat}
end
end L2
namespace L2
open PySem PySem.Spec PySem.Calls PyProof.Rows
def hU.JC {k:Nat}{A:bN}(r:hU k A):A.units+128<gO:=by have:=r.un;lia
section
variable {X:Cx}{CX:JP}{k:Nat}{B:af}{x:bh}{ps:List bh}{sp:Sp}{o e:Expr}{es:List Expr}{t:TA}{E:XK}{apos pos:kM}
end
section
variable {X:Cx}{x:Expr}{t:TA}{p1 p2 q1 q2:kM}
end
end L2
namespace L2
open PySem PySem.Spec PySem.Calls PyProof.Rows
open PySem.W (tabObj CodeHd noTabs tabIn)
def Ni {P:aY}{w:bH}{K:aa}{mg mb:bh->Option ai}{k:Nat}{fa a:af}{Ps:List (af×af)}{fd:eI}{x:bh}{sp:Sp}{s₁:ak} {vs:List ai}{ns:List Int}
  (KX:K.In s₁.heap) (hns:s₁.heap.Ns bR mg) (hb:s₁.heap.Ns builtinsNs mb) (hbb:∀ x:bh,x≠"__name__"->mb x=dC x) (hlim:s₁.heap.NoLimit) (hg:s₁.gens=#[])
  (C:∀ p∈Ps,ig s₁.heap p.1 p.2) (hPt0:∀ p∈Ps,s₁.heap.get? p.2=some (JL #[])) (Bm:∀ p∈Ps,s₁.heap.BuiltinsAt mg p.2) (hnt:noTabs K=true)
  (ha:s₁.heap.get? a=some { cls:=.type "list",data:=.seq vs.toArray }) (hi:eO vs ns) (hl:ns.length<=aT) (hr:hU k G5)
  (F:∀ base:cb,K.In base->base.Ns bR mg->(∀ p∈Ps,ig base p.1 p.2/\base.BuiltinsAt mg p.2)->lj P w K mg base HI k fa fd [x] sp) (hbind:∀ (s:ak) (u:ai),GZ s fd ⟨[u],[]⟩ [(x,u)])
  (hsp:∀ H:Hp,(∀ p∈Ps,H p.2=some (.tbl #[]))->c9 K H a (ns.map V.int)->sp [.ref a] H (λv _=>v=.bl true) λ_ _ _=>False)
  (hCX:∀ H e s',HI [] H s₁ (λ_ _ _=>False) e s'->False) :
  km (aM P w) G5 (.call (.ref fa) ⟨[.ref a],[]⟩) (λr s'=>r=.ok (.ret (.bool true))/\OldK s₁.heap s'.heap/\s'.os=s₁.os/\xm s'.gens) s₁:=by
 have rv:=xN hi;have lenV:=hi.length
 have hPt:∀ b,b∈Ps.map (·.2)->s₁.heap.get? b=some (JL #[]):=λb hb=>by
  obtain ⟨p,hp,rfl⟩:=a6.mp hb;exact hPt0 p hp
 have naP:a∉Ps.map (·.2):=λz=>by rw [hPt a z] at ha;cases ha
 have KPt:∀ b,b∈Ps.map (·.2)->K.lookup b=none:=λb hb=>by
  cases q:K.lookup b with
  | none=>rfl
  | some o =>
   have e:=KX b o q;rw [hPt b hb] at e;cases e;have h2:=UI.mp hnt (b,JL #[]) (PySem.W.mem_of_lookupK q);exact absurd (show false=true from h2) bA
 have core:∀ H:Hp,(∀ b,b∈Ps.map (·.2)->H b=some (.tbl #[]))->(∀ b,b∉Ps.map (·.2)->H b=none\/∃ o xs,H b=some (.frz o (.lst xs)))->c9 K H a (ns.map V.int)->qv P w H s₁.heap->(∀ b,b∉Ps.map (·.2)->H b≠none->b=a)->(H a≠none->K.lookup a=none) ->
   km (aM P w) G5 (.call (.ref fa) ⟨[.ref a],[]⟩) (λr s'=>r=.ok (.ret (.bool true))/\OldK s₁.heap s'.heap/\s'.os=s₁.os/\xm s'.gens) s₁:=by
  intro H hT hO hS eC hA hK;have base_of:∀ {b:af}{o:ft},s₁.heap.get? b=some o->H b=none->(AE s₁.heap H).get? b=some o:=λe n=>Oj e n
  have noA:∀ {b:af}{o:ft},s₁.heap.get? b=some o->o.cls≠.type "list"->b∉Ps.map (·.2)->H b=none:=λ{b o} e d hbP=>by
   cases q:H b with
   | none=>rfl
   | some u =>
    have e':b=a:=hA b hbP (by rw [q];simp);subst e';rw [ha] at e;cases e;exact absurd rfl d
  have noD:∀ {b:af}{o:ft}{es:Array Rp}{ep:Nat},s₁.heap.get? b=some o->o.data=.dict es ep->H b=none:=λ{b o es ep} e d=>by
   have hbP:b∉Ps.map (·.2):=λz=>by rw [hPt b z] at e;cases e;cases d
   cases q:H b with
   | none=>rfl
   | some u =>
    have e':b=a:=hA b hbP (by rw [q];simp);subst e';rw [ha] at e;cases e;have d':Data.seq vs.toArray _=Data.dict es ep:=d;cases d'
  have nsK:∀ {b:af}{m:bh->Option ai},s₁.heap.Ns b m->(AE s₁.heap H).Ns b m:=λ{b m} ⟨o,es,ep,e,d,r⟩=>⟨o,es,ep,base_of e (noD e d),d,r⟩
  have hKb:K.In (AE s₁.heap H):=λb o e=>base_of (KX b o e) (by
   have hbP:b∉Ps.map (·.2):=λz=>by rw [KPt b z] at e;cases e
   cases q:H b with
   | none=>rfl
   | some u =>
    have e':b=a:=hA b hbP (by rw [q];simp);subst e'
    rw [hK (by rw [q];simp)] at e;cases e)
  have hM:Mod K mg (AE s₁.heap H):=⟨hKb,nsK hns,⟨mb,nsK hb,hbb⟩,let ⟨mc,h1,h2⟩:=hlim;⟨mc,nsK h1,h2⟩⟩
  have notab:∀ {b:af}{o:ft},s₁.heap.get? b=some o->o.cls≠.none->b∉Ps.map (·.2):=λ{b o} e d z=>by rw [hPt b z] at e;cases e;exact d rfl
  have hCB:∀ p∈Ps,ig (AE s₁.heap H) p.1 p.2/\(AE s₁.heap H).BuiltinsAt mg p.2:=λp hp=>by
   refine ⟨?_,?_⟩
   ·obtain ⟨o,vs',file,tf,flags,tg,inF,text,tt,e1,r1,r2,r3,r4,r5,r6,r7,r8,hne⟩:=C p hp;exact ⟨o,vs',file,tf,flags,tg,inF,text,tt,base_of e1 (noA e1 (by rw [r1];decide) (notab e1 (by rw [r1];decide))),r1,r2,r3,r4,r5,r6,r7,r8,hne⟩
   ·obtain ⟨bm,o,b1,b2,b3,b4,b5,b6,b7⟩:=Bm p hp;exact ⟨bm,o,b1,b2,b3,b4,base_of b5 (noA b5 (by rw [b6];decide) (notab b5 (by rw [b6];decide))),b6,b7⟩
  have e0:Lk P w K mg (AE s₁.heap H) G5 [] s₁ H:=⟨rfl,hM,λb o e=>Rw e,ky (MN _ _),trivial,λb hb=>absurd (show b∈([]:List af) from hb) (by simp),eC,.of_eq hg⟩
  refine mD ((F _ hKb (nsK hns) hCB).run G5 [] s₁ H ⟨[.ref a],[]⟩ [.ref a] [.ref a] _ _ hr e0 (hbind s₁ (.ref a)) (.cons rfl .nil) (hsp H (λp hp=>hT p.2 (bq hp)) hS)) λr s' h=>?_
  cases r with
  | error e=>exact (hCX H e s' h).elim
  | ok fl =>
   cases fl with
   | next=>exact hV h
   | brk=>exact hV h
   | cont=>exact hV h
   | ret u =>
    obtain ⟨v,H',os,bare,un,hok',r',q⟩:=h;have q':v=.bl true:=q;subst q';obtain rfl:u=sG true:=r'
    have keep:∀ b o,b∉Ps.map (·.2)->s₁.heap.get? b=some o->s'.heap.get? b=some o:=λb o hbP e=>by
     cases q:H b with
     | none=>exact un.keep b o e q (by intro z;exact absurd (show b∈([]:List af) from z) (by simp)) (by simp)
     | some u =>
      rcases hO b hbP with z|⟨ob,xs,z⟩
      ·rw [q] at z;cases z
      ·have z2:=un.CB b ob _ z;obtain ⟨e1,_⟩:=eC b _ z;obtain ⟨e2,_⟩:=hok' b _ z2;rw [e] at e1;cases e1;exact e2
    have hmore:∀ b,b∈Ps.map (·.2)->∃ more,s'.heap.get? b=some (JL (#[]++more)):=λb hb=>by
     obtain ⟨more,hm⟩:=un.CD b _ (hT b hb);exact ⟨more,hok' b _ hm⟩
    refine ⟨rfl,⟨λb o e=>?_,λb o e=>?_⟩,os,bare⟩
    ·by_cases hbP:b∈Ps.map (·.2)
     ·obtain ⟨more,hP'⟩:=hmore b hbP;obtain ⟨p,hp,rfl⟩:=a6.mp hbP;rw [hPt0 p hp] at e;cases e;exact .inr (.inl ⟨((C p hp).tab (hPt0 p hp)).isCodeTable,rfl,#[],more,rfl,hP'⟩)
     ·exact .inl (keep b o hbP e)
    ·by_cases hbP:b∈Ps.map (·.2)
     ·obtain ⟨more,hP'⟩:=hmore b hbP;exact ⟨_,hP'⟩
     ·exact ⟨o,keep b o hbP e⟩
 cases hk:K.lookup a with
 | some o =>
  have e:=KX a o hk;rw [ha] at e;cases e;refine core (λb=>if b∈Ps.map (·.2) then some (.tbl #[]) else none) (λb hb=>if_pos hb) (λb hb=>.inl (if_neg hb)) (.inr ⟨_,vs.toArray,_,hk,rfl,rfl,rfl,by rw [aO,lenV];exact hl,by simpa using rv⟩) (λb u z=>?_) (λb hb z=>absurd (if_neg hb) z) λz=>absurd (if_neg naP) z
  by_cases hb:b∈Ps.map (·.2)
  ·have z':=(if_pos hb).symm.trans z;cases z';exact hPt b hb
  ·have z':=(if_neg hb).symm.trans z
   cases z'
 | none =>
  refine core (λb=>if b∈Ps.map (·.2) then some (.tbl #[]) else if b=a then some (.frz { cls:=.type "list",data:=.seq vs.toArray } (.lst (ns.map V.int))) else none) (λb hb=>if_pos hb) (λb hb=>?_) (.inl (.inr ⟨{ cls:=.type "list",data:=.seq vs.toArray },(if_neg naP).trans (if_pos rfl)⟩)) (λb u z=>?_) (λb hb z=>?_) λ_=>hk
  ·by_cases hba:b=a
   ·exact .inr ⟨_,_,(if_neg hb).trans (if_pos hba)⟩
   ·exact .inl ((if_neg hb).trans (if_neg hba))
  ·by_cases hb:b∈Ps.map (·.2)
   ·have z':=(if_pos hb).symm.trans z;cases z';exact hPt b hb
   ·have z0:=(if_neg hb).symm.trans z
    by_cases hba:b=a
    ·have z':=(if_pos hba).symm.trans z0;cases z';subst hba;exact ⟨ha,by rw [ag];exact hl,vs,_,rv,ha⟩
    ·have z':=(if_neg hba).symm.trans z0;cases z'
  ·by_cases hba:b=a
   ·exact hba
   ·exact absurd ((if_neg hb).trans (if_neg hba)) z
def Pn {l:qx}{n k:Nat}{q:aY}{loose:List bh}{XP:(bh->Option ai)->cb->Prop}{YP:bH->cb->Prop}{d:DefRec}{K:Params->aa}{sp:bH->Sp}{x:bh}{Ps:List (af×af)}
  (hn:l.most=some n) (hn2:n<=aT) (hdf:d.params.defaults=[]) (hr:hU k G5)
  (hY:∀ (w:bH) (h:cb),YP w h->(K w.params).In h)
  (htab:∀ p∈Ps,∃ (y:bh) (dy:DefRec),(recsOf q).find? (λe=>e.name == y)=some dy/\∀ w:bH,Q9 (K w.params) y=some p) (hnt:∀ w:bH,noTabs (K w.params)=true)
  (F:∀ (w:bH) (mg:bh->Option ai) (fa:af) (h:cb),(K w.params).In h->h.Ns bR mg->mg d.name=some (.ref fa) ->
   ∃ fd:eI,(∀ (s:ak) (u:ai),GZ s fd ⟨[u],[]⟩ [(x,u)]) /\
    ∀ base:cb,(K w.params).In base->base.Ns bR mg->(∀ p∈Ps,ig base p.1 p.2/\base.BuiltinsAt mg p.2)->lj l.prog w (K w.params) mg base HI k fa fd [x] (sp w))
  (hsp:∀ (w:bH) (H:Hp) (a:af) (ns:List Int),ns.length<=n->(∀ p∈Ps,H p.2=some (.tbl #[]))->c9 (K w.params) H a (ns.map V.int)->sp w [.ref a] H (λv _=>v=.bl true) λ_ _ _=>False)
  (hCX:∀ (H:Hp) (s:ak) (e:ai) (s':ak),HI [] H s (λ_ _ _=>False) e s'->False) :
  Q3 q loose XP YP l.row.toRowW d [] (λf vs=>Q4 f vs):=by
 refine Att.HH hn hdf λw s₀ s₁ mg mb fa o pm cd doc a vs ns G Y ho hd hcd hmg hobj hints hlen hg=>?_;have KX:=hY w _ Y;obtain ⟨fd,hb,hF⟩:=F w mg fa _ KX G.T.g hmg
 have hC:∀ p∈Ps,ig s₁.heap p.1 p.2/\s₁.heap.get? p.2=some (JL #[]):=λp hp=>by
  obtain ⟨y,dy,h1,h2⟩:=htab p hp;exact PySem.W.tab_of G.T KX h1 (h2 w)
 have hgs:=G.T.g;obtain ⟨bm,ob,b1,b2,b3,b4,b5,b6⟩:=G.T.bmain
 have hbG:bm≠bR:=λq=>by
  obtain ⟨o,es,ep,e,hd,_⟩:=hgs;rw [q,e] at b3;cases b3;rw [hd] at b6;cases b6
 refine Ni KX G.T.g G.T.b G.T.builtins G.T.nolimit hg (λp hp=>(hC p hp).1) (λp hp=>(hC p hp).2) (λp hp=>⟨bm,ob,b1,b2,hbG,λq=>?_,b3,b4,b5,b6⟩) (hnt w) hobj hints (bf hlen hn2) hr hF hb (λH hT hS=>hsp w H a ns hlen hT hS) λH e s'=>hCX H s₁ e s';have:=(hC p hp).2;rw [← q,b3] at this;cases this;cases b4
end L2
namespace L2
def Po (K:aa):List V->Hp->VK->Prop:=λxs H Q=>∃ (p:af) (ns:List Int),xs=[.ref p]/\c9 K H p (ns.map V.int)/\Q (.int ns.sum) H
def EO {X:Cx}(hc:X.calm=true):mv X (.builtin "sum") (Po X.K):=by
 intro pins s Z H xs us Q I r h;obtain ⟨p,ns,rfl,hq,q⟩:=h;obtain ⟨u,rfl,ru⟩:=vals1 r;cases ru;obtain ⟨its,rv,pl,hz⟩:=I.list hq;have hi:eO its ns:=intsAre_of rv;obtain ⟨ys,e⟩:=hi.allInts.items;have hn:=hi.numsOf
 have e':its=(WK ys).toList:=by rw [← e]
 rw [e',nums_intItems] at hn
 have hl:s.heap.IsList p (WK ys):=by rw [← e];exact pl.isList
 subst hn
 refine sum_intListG (I.ok.hd hc) hl λh' tk t' hk=>⟨.int _,H,I.kept hk,⟨t',?_⟩,q⟩
 rw [preSum_eq,bX (by simp)]
end L2
namespace L2
open PySem PySem.Spec PyProof.Rows PySem.W
section
variable {X:Cx}{a:Expr}{ta:TE}
end
end L2
namespace L2
open PySem PySem.Spec PySem.Calls PyProof.Rows PySem.W
section
variable {X:Cx}{c Pt:af}{e:Expr}{tx:TA}{x y:bh}{j:Nat}{params:l8}{scope:jB}{p0 p1 p2 p3 p4 p5 lpos kpos pos:kM}{x1:Nat}
end
end L2
namespace Sw
section
variable {prog:aY}{w:bH}{A:bN}{E:ai->ak->Prop}{s:ak}
end
end Sw
namespace L2
open PySem PySem.Spec PyProof.Rows PySem.W
section
variable {X:Cx}{x:Expr}{t:TA}{p1 p2 q1 q2:kM}
end
end L2
namespace Sy
open PySem PySem.W PyProof.Rows
abbrev SM:=StateT dD SV
def nG:Bool->aS->Array aS->Nat->Nat->Nat->SM (Option Nat):=sortPriv% PySem.Builtin.gallop
abbrev TG:=Option (Option Nat)×Nat×Nat
def Ze (b:Nat->SM (Option Bool)) (g:Nat->Nat) (f:Bool->Bool) (m:Nat) (_:Nat) (z:TG):SM (ForInStep TG) :=
 if z.2.2>=m then pure (.done (none,z.2)) else do
  match ← b (g z.2.2) with
  | some c=>if f c=true then pure (.done (none,z.2)) else pure (.yield (none,z.2.2,2*z.2.2+1))
  | _=>pure (.done (some none,z.2))
def XT (b:Nat->SM (Option Bool)) (_:Nat) (z:TG):SM (ForInStep TG) :=
 if z.2.1>=z.2.2 then pure (.done (none,z.2)) else do
  match ← b (z.2.1+(z.2.2-z.2.1)/2) with
  | some c=>if c=true then pure (.yield (none,z.2.1+(z.2.2-z.2.1)/2+1,z.2.2)) else pure (.yield (none,z.2.1,z.2.1+(z.2.2-z.2.1)/2))
  | _=>pure (.done (some none,z.2))
def VW (b:Nat->SM (Option Bool)) (n lo hi:Nat):SM (Option Nat):=do
 let z ← forIn [0:n] ((none,lo,hi):TG) (XT b)
 (match z.1 with
 | some r=>pure r
 | none=>pure (some z.2.2))
def gal (b:Nat->SM (Option Bool)) (n h:Nat):SM (Option Nat):=do
 match ← b h with
 | some c=>(if c=true then (do
   let z ← forIn [0:n] ((none,0,1):TG) (Ze b (λo=>h+o) (λc=>!c) (n-h))
   (match z.1 with
   | some r=>pure r
   | none=>VW b n (h+z.2.1+1) (h+min z.2.2 (n-h))))
  else (do
   let z ← forIn [0:n] ((none,0,1):TG) (Ze b (λo=>h-o) (λc=>c) (h+1))
   (match z.1 with
   | some r=>pure r
   | none=>VW b n (h+1-min z.2.2 (h+1)) (h-z.2.1))))
 | _=>pure none
def bey (left:Bool) (key:aS) (arr:Array aS) (base i:Nat):SM (Option Bool):=do
 let x ← l9 arr (base+i)
 if left then lt' x key else return (← lt' key x).map (!·)
theorem Nj (left:Bool) (key:aS) (arr:Array aS) (base n hint:Nat):nG left key arr base n hint=gal (bey left key arr base) n hint:=by kernel_rfl
section
variable {M:Model}{A:bN}{E:ai->ak->Prop}{s:ak}{st:dD}{n m h:Nat}{P:Nat->Bool}{b:Nat->SM (Option Bool)}{Q:Option Nat->dD->Prop}
theorem XU {g:Nat->Nat}{f:Bool->Bool}{Q:TG->dD->Prop}(hb:∀ o (Q:Option Bool->dD->Prop),o<m->Q (some (P (g o))) st->vp M A E s (b (g o)) Q st) (hm:m<=n) (h0:0<m)
  (h:∀ l o,l<o->l<m->(l=0\/f (P (g l))=false)->(o<m->f (P (g o))=true)->Q (none,l,o) st):vp M A E s (forIn [0:n] ((none,0,1):TG) (Ze b g f m)) Q st:=by
 refine fF (I:=λx z st'=>st'=st/\z.1=none/\z.2.1<z.2.2/\z.2.1<m/\(z.2.1=0\/f (P (g z.2.1))=false)/\x<z.2.2) ?_ ?_ ⟨rfl,rfl,by decide,h0,.inl rfl,by decide⟩
 ·rintro x ⟨z,l,o⟩ st' _ hx ⟨rfl,rfl,h1,h2,h3,h4⟩;unfold Ze;dsimp only at h1 h2 h3 h4 ⊢
  by_cases c:o>=m
  ·rw [if_pos c];exact bg (h l o h1 h2 h3 λq=>absurd q (by lia))
  ·rw [if_neg c];refine aR (hb o _ (by lia) ?_);dsimp only
   by_cases d:f (P (g o))=true
   ·rw [if_pos d];exact bg (h l o h1 h2 h3 λ_=>d)
   ·rw [if_neg d];exact bg ⟨rfl,rfl,by dsimp only;lia,by dsimp only;lia,.inr (by simpa using d),by dsimp only;lia⟩
 ·rintro ⟨z,l,o⟩ st' ⟨rfl,rfl,h1,h2,h3,h4⟩;exact h l o h1 h2 h3 λq=>absurd q (by dsimp only at h4;lia)
theorem TC {lo hi:Nat}(hb:∀ i (Q:Option Bool->dD->Prop),i<n->Q (some (P i)) st->vp M A E s (b i) Q st) (hP:∀ i j,i<=j->j<n->P j=true->P i=true)
  (h:∀ k,k<=n->(∀ i,i<k->P i=true)->(∀ i,k<=i->i<n->P i=false)->Q (some k) st) (h1:lo<=hi) (h2:hi<=n) (h3:lo=0\/P (lo-1)=true) (h4:hi<n->P hi=false):vp M A E s (VW b n lo hi) Q st:=by
 have fin:∀ l r,l<=r->r<=n->(l=0\/P (l-1)=true)->(r<n->P r=false)->r<=l->Q (some r) st:=λl r a1 a2 a3 a4 a5=>h r a2 (λi hi=>a3.elim (λz=>by lia) λz=>hP i _ (by lia) (by lia) z) λi z1 z2=>by
  cases q:P i with
  | false=>rfl
  | true=>have:=hP r i z1 z2 q;rw [a4 (by lia)] at this;cases this
 refine aR (fF (I:=λx z st'=>st'=st/\z.1=none/\z.2.1<=z.2.2/\z.2.2<=n/\(z.2.1=0\/P (z.2.1-1)=true)/\(z.2.2<n->P z.2.2=false)/\z.2.2+x<=z.2.1+n) ?_ ?_ ⟨rfl,rfl,h1,h2,h3,h4,by dsimp only;lia⟩)
 ·rintro x ⟨z,l,r⟩ st' _ hx ⟨rfl,rfl,a1,a2,a3,a4,a5⟩;unfold XT;dsimp only at a1 a2 a3 a4 a5 ⊢
  by_cases c:l>=r
  ·rw [if_pos c];exact bg (bg (fin l r a1 a2 a3 a4 c))
  ·rw [if_neg c];refine aR (hb _ _ (by lia) ?_)
   cases d:P (l+(r-l)/2) with
   | true=>exact bg ⟨rfl,rfl,by dsimp only;lia,a2,.inr d,a4,by dsimp only;lia⟩
   | false=>exact bg ⟨rfl,rfl,by dsimp only;lia,by dsimp only;lia,a3,λ_=>d,by dsimp only;lia⟩
 ·rintro ⟨z,l,r⟩ st' ⟨rfl,rfl,a1,a2,a3,a4,a5⟩;exact bg (fin l r a1 a2 a3 a4 (by dsimp only at a1 a5;lia))
theorem XW (hb:∀ i (Q:Option Bool->dD->Prop),i<n->Q (some (P i)) st->vp M A E s (b i) Q st) (hP:∀ i j,i<=j->j<n->P j=true->P i=true) (hh:h<n)
  (hq:∀ k,k<=n->(∀ i,i<k->P i=true)->(∀ i,k<=i->i<n->P i=false)->Q (some k) st):vp M A E s (gal b n h) Q st:=by
 refine aR (hb h _ hh ?_);dsimp only
 by_cases c:P h=true
 ·rw [if_pos c];refine aR (XU (P:=P) (λo Q ho q=>hb _ Q (by lia) q) (by lia) (by lia) λl o h1 h2 h3 h4=>TC hb hP hq (by dsimp only;lia) (by dsimp only;lia) (.inr ?_) λz=>?_)
  ·rcases h3 with rfl|h3
   ·exact c
   ·show P (h+l)=true;simpa using h3
  ·have e:min o (n-h)=o:=by dsimp only at z;lia
   dsimp only at z ⊢;rw [e] at z ⊢;simpa using h4 (by lia)
 ·rw [if_neg c];refine aR (XU (P:=P) (λo Q ho q=>hb _ Q (by lia) q) (by lia) (by lia) λl o h1 h2 h3 h4=>TC hb hP hq (by dsimp only;lia) (by dsimp only;lia) ?_ λz=>?_)
  ·dsimp only
   by_cases q:o<h+1
   ·refine .inr ?_
    have e:h+1-min o (h+1)-1=h-o:=by lia
    rw [e];exact h4 q
   ·exact .inl (by lia)
  ·rcases h3 with rfl|h3
   ·simpa using c
   ·exact h3
end
end Sy
namespace Sy
open PySem PySem.W PyProof.Rows
structure G (r:aS->Int) (all out u v:List aS):Prop where
 pm:(out++(u++v)).Perm all
 so:out.Pairwise λx y=>r x<=r y
 su:u.Pairwise λx y=>r x<=r y
 sv:v.Pairwise λx y=>r x<=r y
 le:∀ x∈out,∀ y∈u++v,r x<=r y
section
variable {r:aS->Int}{all out u v c:List aS}{x:aS}
theorem G.swap (g:G r all out u v):G r all out v u :=
 ⟨(lA _ fH).trans g.pm,g.so,g.sv,g.su,λx hx y hy=>g.le x hx y (by simpa [or_comm] using hy)⟩
theorem G.take (g:G r all out (c++u) v) (h:∀ x∈c,∀ y∈v,r x<=r y):G r all (out++c) u v:=by
 obtain ⟨s1,s2,s3⟩:=gf.mp g.su;refine ⟨by simpa using g.pm,gf.mpr ⟨g.so,s1,λx hx y hy=>g.le x hx y (by simp [hy])⟩,s2,g.sv,λx hx y hy=>?_⟩
 rcases aN.mp hx with hx|hx
 ·exact g.le x hx y (by rcases aN.mp hy with z|z<;>simp [z])
 ·rcases aN.mp hy with z|z
  ·exact s3 x hx y z
  ·exact h x hx y z
theorem G.done (g:G r all out u []):G r all (out++u) [] []:=G.take (u:=[]) (by simpa using g) λ_ _ _ z=>nomatch z
theorem G.len (g:G r all out u v):out.length+u.length+v.length=all.length:=by
 have:=g.pm.length_eq;simp at this;lia
end
abbrev S1 (α β γ:Type):=Option (Array aS)×α×β×γ×Nat×Nat
abbrev S2 (α β γ:Type):=Option (Array aS)×α×β×γ×Nat×Nat×Nat
abbrev S0 (α β γ:Type):=Option (Array aS)×α×β×γ×Nat
abbrev T1:=S1 (Array aS) Nat Nat
abbrev T2:=S2 (Array aS) Nat Nat
def Pp (g:Nat):SM Unit:=modify λs=>aZ (kindOf s) (mK s) (cK s) g (iU s)
def rnd {α β γ:Type} (N:Nat) (B:Nat->Nat->S1 α β γ->SM (ForInStep (S1 α β γ))) (g:Nat->S2 α β γ->SM (ForInStep (S2 α β γ))) (_:Nat) (z:S0 α β γ):SM (ForInStep (S0 α β γ)):=do
 let y ← forIn [0:N] ((none,z.2.1,z.2.2.1,z.2.2.2.1,0,0):S1 α β γ) (B z.2.2.2.2)
 (match y.1 with
 | some r=>pure (.done (some r,y.2.1,y.2.2.1,y.2.2.2.1,z.2.2.2.2))
 | none=>do
  liftM (Em "list.sort.gallop")
  let x ← forIn [0:N] ((none,y.2.1,y.2.2.1,y.2.2.2.1,z.2.2.2.2+1,y.2.2.2.2):S2 α β γ) g
  (match x.1 with
  | some r=>pure (.done (some r,x.2.1,x.2.2.1,x.2.2.2.1,x.2.2.2.2.1))
  | none=>do
   Pp (x.2.2.2.2.1+1)
   pure (.yield (none,x.2.1,x.2.2.1,x.2.2.2.1,x.2.2.2.2.1+1))))
def mrg {α β γ:Type} (N:Nat) (B:Nat->Nat->S1 α β γ->SM (ForInStep (S1 α β γ))) (g:Nat->S2 α β γ->SM (ForInStep (S2 α β γ))) (x:α) (y:β) (z:γ):SM (Array aS):=do
 let t ← get
 let q ← forIn [0:N] ((none,x,y,z,gallopOf t):S0 α β γ) (rnd N B g)
 (match q.1 with
 | some r=>pure r
 | none=>liftM (unsupported "internal:list.sort.merge-bound"))
def Be:Array aS->Array aS->SM (Array aS):=sortPriv% PySem.Builtin.mergeLo
section
variable (a b:Array aS)
def dn (o:Array aS) (i j:Nat):Array aS:=o++a.extract i a.size++b.extract j b.size
def lst (o:Array aS) (i j:Nat):Array aS:=o++b.extract j b.size++a.extract i a.size
def loB (mg:Nat) (_:Nat) (z:T1):SM (ForInStep T1):=do
 match ← lt' (← l9 b z.2.2.2.1) (← l9 a z.2.2.1) with
 | some c=>(if c=true then (do
   let o:=z.2.1.push (← l9 b z.2.2.2.1)
   if (z.2.2.2.1+1 == b.size)=true then pure (.done (some (dn a b o z.2.2.1 (z.2.2.2.1+1)),o,z.2.2.1,z.2.2.2.1+1,0,z.2.2.2.2.2+1))
   else if z.2.2.2.2.2+1>=mg then pure (.done (none,o,z.2.2.1,z.2.2.2.1+1,0,z.2.2.2.2.2+1)) else pure (.yield (none,o,z.2.2.1,z.2.2.2.1+1,0,z.2.2.2.2.2+1)))
  else (do
   let o:=z.2.1.push (← l9 a z.2.2.1)
   if (z.2.2.1+1+1 == a.size)=true then pure (.done (some (lst a b o (z.2.2.1+1) z.2.2.2.1),o,z.2.2.1+1,z.2.2.2.1,z.2.2.2.2.1+1,0))
   else if z.2.2.2.2.1+1>=mg then pure (.done (none,o,z.2.2.1+1,z.2.2.2.1,z.2.2.2.2.1+1,0)) else pure (.yield (none,o,z.2.2.1+1,z.2.2.2.1,z.2.2.2.2.1+1,0))))
 | _=>pure (.done (some (dn a b z.2.1 z.2.2.1 z.2.2.2.1),z.2))
def Sj (o:Array aS) (i j mg k m:Nat):SM (ForInStep T2):=do
 let o:=o.push (← l9 a i)
 if (i+1+1 == a.size)=true then pure (.done (some (lst a b o (i+1) j),o,i+1,j,mg,k,m))
 else if (decide (k<7) && decide (m<7))=true then pure (.done (none,o,i+1,j,mg,k,m)) else pure (.yield (none,o,i+1,j,mg,k,m))
def Sk (o:Array aS) (i j mg k q:Nat):SM (ForInStep T2):=do
 let o:=o.push (← l9 b j)
 if (j+1 == b.size)=true then pure (.done (some (dn a b o i (j+1)),o,i,j+1,mg,k,q))
 else (do
  match ← nG true (← l9 a i) b (j+1) (b.size-(j+1)) 0 with
  | some m=>if m>0 then (if (j+1+m == b.size)=true then pure (.done (some (dn a b (o++b.extract (j+1) (j+1+m)) i (j+1+m)),o++b.extract (j+1) (j+1+m),i,j+1+m,mg,k,m)) else Sj a b (o++b.extract (j+1) (j+1+m)) i (j+1+m) mg k m) else Sj a b o i (j+1) mg k m
  | _=>pure (.done (some (dn a b o i (j+1)),o,i,j+1,mg,k,q)))
def Pq (z:T2) (mg:Nat):SM (ForInStep T2):=do
 Pp mg
 match ← nG false (← l9 b z.2.2.2.1) a z.2.2.1 (a.size-z.2.2.1) 0 with
 | some k=>if k>0 then (if (z.2.2.1+k+1 == a.size)=true then pure (.done (some (lst a b (z.2.1++a.extract z.2.2.1 (z.2.2.1+k)) (z.2.2.1+k) z.2.2.2.1),z.2.1++a.extract z.2.2.1 (z.2.2.1+k),z.2.2.1+k,z.2.2.2.1,mg,k,z.2.2.2.2.2.2))
   else if (z.2.2.1+k == a.size)=true then pure (.done (some (dn a b (z.2.1++a.extract z.2.2.1 (z.2.2.1+k)) (z.2.2.1+k) z.2.2.2.1),z.2.1++a.extract z.2.2.1 (z.2.2.1+k),z.2.2.1+k,z.2.2.2.1,mg,k,z.2.2.2.2.2.2))
   else Sk a b (z.2.1++a.extract z.2.2.1 (z.2.2.1+k)) (z.2.2.1+k) z.2.2.2.1 mg k z.2.2.2.2.2.2) else Sk a b z.2.1 z.2.2.1 z.2.2.2.1 mg k z.2.2.2.2.2.2
 | _=>pure (.done (some (dn a b z.2.1 z.2.2.1 z.2.2.2.1),z.2.1,z.2.2.1,z.2.2.2.1,mg,z.2.2.2.2.2))
def loG (_:Nat) (z:T2):SM (ForInStep T2):=if z.2.2.2.2.1>1 then Pq a b z (z.2.2.2.2.1-1) else Pq a b z z.2.2.2.2.1
theorem XX:Be a b=(do
  liftM (Em "list.sort.merge-lo")
  let x ← l9 b 0
  if (1 == b.size)=true then pure (dn a b #[x] 0 1) else if (0+1 == a.size)=true then pure (lst a b #[x] 0 1)
  else mrg (a.size+b.size) (loB a b) (loG a b) #[x] 0 1):=by kernel_rfl
end
end Sy
namespace Sy
open PySem PySem.W PyProof.Rows
def St (r:aS->Int) (a:Array aS) (i j:Nat):Prop:=∀ t u x y,i<=t->t<=u->u<j->a[t]?=some x->a[u]?=some y->r x<=r y
def Bv (r:aS->Int) (left:Bool) (key x:aS):Bool:=if left=true then decide (r x<r key) else !decide (r key<r x)
def FP (prog:aY) (w:bH) (A:bN) (s:ak) (κ:jo) (D:aS->Prop) (r:aS->Int):Prop :=
 ∀ x y,D x->D y->∀ Q:Bool->ak->Prop,Q (decide (r x<r y)) s->aG (aM prog w) A (keyLt' κ x.1 y.1) Q (λ_ _=>False) s
section
variable {prog:aY}{w:bH}{A:bN}{E:ai->ak->Prop}{s:ak}{κ:jo} {D:aS->Prop}{r:aS->Int}{st:dD}{a b:Array aS}{x y key:aS}{i j n hint:Nat}{left:Bool}
theorem w_lt (hc:FP prog w A s κ D r) (hk:kindOf st=κ) (hx:D x) (hy:D y) {Q:Option Bool->dD->Prop}(h:Q (some (decide (r x<r y))) st):vp (aM prog w) A E s (lt' x y) Q st:=by
 rw [lt'_eq];refine aR (qe ?_);rw [hk];exact aR (Hg (ik (dH (hc x y hx hy (λc s'=>s'=s/\c=decide (r x<r y)) ⟨rfl,rfl⟩) (λc s' q=>⟨q.1,by rw [q.2];exact bg h⟩) λ_ _ q=>q.elim)))
theorem mX {Q:aS->dD->Prop}(e:a[i]?=some x) (h:Q x st):vp (aM prog w) A E s (l9 a i) Q st:=by rw [elem'_eq,e];exact bg h
theorem oG {Q:Option Nat->dD->Prop}(hc:FP prog w A s κ D r) (hk:kindOf st=κ) (hD:∀ (t:Nat) x,a[t]?=some x->D x) (hy:D key) (hz:i+n<=a.size) (hs:St r a i (i+n)) (hh:hint<n)
  (h:∀ k,k<=n->(∀ t x,i<=t->t<i+k->a[t]?=some x->Bv r left key x=true)->(∀ t x,i+k<=t->t<i+n->a[t]?=some x->Bv r left key x=false)->Q (some k) st):vp (aM prog w) A E s (nG left key a i n hint) Q st:=by
 rw [Nj]
 have get:∀ t,t<n->∃ x,a[i+t]?=some x:=λt ht=>⟨a[i+t],by simp⟩
 refine XW (P:=λt=>((a[i+t]?).map (Bv r left key)).getD false) (λt Q ht q=>?_) (λt u h1 h2 h3=>?_) hh λk h1 h2 h3=>h k h1 (λt x z1 z2 e=>?_) λt x z1 z2 e=>?_
 ·obtain ⟨x,e⟩:=get t ht
  have q:Q (some (Bv r left key x)) st:=by simpa [e] using q
  refine aR (mX e ?_)
  cases left with
  | true=>exact w_lt hc hk (hD _ x e) hy q
  | false=>exact aR (w_lt hc hk hy (hD _ x e) (bg q))
 ·obtain ⟨x,e⟩:=get t (by lia);obtain ⟨y,f⟩:=get u h2;have le:=hs _ _ x y (by lia) (show i+t<=i+u by lia) (by lia) e f;simp only [e,f,jh,Ru] at h3 ⊢
  cases left with
  | true=>exact decide_eq_true (Int.lt_of_le_of_lt le (of_decide_eq_true h3))
  | false =>
   have h3:(!decide (r key<r y))=true:=h3
   show (!decide (r key<r x))=true
   simp only [Bool.not_eq_true',decide_eq_false_iff_not] at h3 ⊢;lia
 ·have:=h2 (t-i) (by lia);rw [show i+(t-i)=t by lia] at this
  simpa [e] using this
 ·have:=h3 (t-i) (by lia) (by lia);rw [show i+(t-i)=t by lia] at this
  simpa [e] using this
end
section
variable {a:Array aS}{x:aS}{i j k:Nat}
theorem L9 (a:Array aS) (i k:Nat):a.toList.drop i=(a.extract i (i+k)).toList++a.toList.drop (i+k):=by
 have:=(eJ k (a.toList.drop i)).symm
 simpa [W7] using this
theorem Kl (h:x∈a.toList.drop i):∃ t,i<=t/\t<a.size/\a[t]?=some x:=by
 obtain ⟨t,ht,e⟩:=Od.mp h;simp at ht;exact ⟨i+t,by lia,by lia,by rw [List.getElem_drop] at e;rw [← e];simp⟩
theorem xS (h:x∈(a.extract i j).toList):∃ t,i<=t/\t<j/\t<a.size/\a[t]?=some x:=by
 obtain ⟨t,ht,e⟩:=Od.mp h;simp at ht;exact ⟨i+t,by lia,by lia,by lia,by rw [Array.getElem_toList,Array.getElem_extract] at e;rw [← e];simp⟩
theorem xR (h:a.size<=i):a.toList.drop i=[]:=List.drop_eq_nil_of_le (by simpa using h)
theorem rh (a:Array aS) (i:Nat):(a.extract i a.size).toList=a.toList.drop i:=by simpa using bX (by simp)
end
end Sy
namespace Sy
open PySem PySem.W PyProof.Rows
section
variable {prog:aY}{w:bH}{A:bN}{E:ai->ak->Prop}{s:ak}{κ:jo} {D:aS->Prop}{r:aS->Int}{a b:Array aS}{xs o:Array aS}{pd:Array (Nat×Nat×Nat)}{i j k g mg N:Nat}{all:List aS}
def F (r:aS->Int) (all:List aS) (o:Array aS):Prop:=G r all o.toList [] []
def J (r:aS->Int) (all:List aS) (a b o:Array aS) (i j:Nat):Prop:=G r all o.toList (a.toList.drop i) (b.toList.drop j)
def JD (r:aS->Int) (all:List aS) (a b:Array aS) (k:Nat) (z:Option (Array aS)) (o:Array aS) (i j:Nat):Prop :=
 (∀ q,z=some q->F r all q)/\(z=none->J r all a b o i j/\i+1<a.size/\j<b.size/\k<=o.size)
structure GW (r:aS->Int) (D:aS->Prop) (a b:Array aS):Prop where
 da:∀ (t:Nat) x,a[t]?=some x->D x
 db:∀ (t:Nat) x,b[t]?=some x->D x
 sa:St r a 0 a.size
 sb:St r b 0 b.size
 la:∀ (t u:Nat) x y,t+1=a.size->a[t]?=some x->b[u]?=some y->r y<=r x
theorem J.len (g:J r all a b o i j) (hi:i<=a.size) (hj:j<=b.size) (hl:all.length=a.size+b.size):o.size=i+j:=by
 have:=G.len g;simp at this;lia
theorem J.fb (g:J r all a b o i j) (h:j=b.size):F r all (dn a b o i j):=by
 unfold J at g;rw [xR (a:=b) (ky h.symm)] at g;have:=g.done;unfold F dn;rw [gI,gI,rh,rh,xR (a:=b) (ky h.symm),tJ];exact this
theorem J.fa (g:J r all a b o i j) (h:i=a.size):F r all (dn a b o i j):=by
 unfold J at g;rw [xR (a:=a) (ky h.symm)] at g;have:=g.swap.done;unfold F dn;rw [gI,gI,rh,rh,xR (a:=a) (ky h.symm),tJ];exact this
theorem J.fl (g:J r all a b o i j) (T:GW r D a b) (h:i+1=a.size):F r all (lst a b o i j):=by
 have g2:G r all (o.toList++b.toList.drop j) [] (a.toList.drop i):=G.take (by simpa using G.swap g) λy hy x hx=>by
  obtain ⟨t,h1,h2,e⟩:=Kl hx;obtain ⟨u,_,_,f⟩:=Kl hy;exact T.la t u x y (by lia) e f
 have:=g2.swap.done;unfold F lst;rw [gI,gI,rh,rh];exact this
theorem J.ta (g:J r all a b o i j) (h:∀ t x u y,i<=t->t<i+k->a[t]?=some x->j<=u->b[u]?=some y->r x<=r y):J r all a b (o++a.extract i (i+k)) (i+k) j:=by
 unfold J at g ⊢;rw [L9 a i k] at g;rw [gI]
 exact g.take λx hx y hy=>by
  obtain ⟨t,h1,h2,_,e⟩:=xS hx;obtain ⟨u,h3,_,f⟩:=Kl hy;exact h t x u y h1 h2 e h3 f
theorem J.tb (g:J r all a b o i j) (h:∀ t x u y,j<=t->t<j+k->b[t]?=some x->i<=u->a[u]?=some y->r x<=r y):J r all a b (o++b.extract j (j+k)) i (j+k) :=
 G.swap (J.ta (a:=b) (b:=a) (G.swap g) h)
theorem Pr {x:aS}(e:a[i]?=some x):o.push x=o++a.extract i (i+1):=by
 obtain ⟨h,rfl⟩:=cC.mp e
 apply ka.mp
 have:=fG (l:=a.toList) (i:=i) (by simpa using h);simp [this]
theorem J.pa {x:aS}(g:J r all a b o i j) (T:GW r D a b) (e:a[i]?=some x) (h:∀ u y,j<=u->b[u]?=some y->r x<=r y):J r all a b (o.push x) (i+1) j:=by
 rw [Pr e]
 exact J.ta g λt z u y h1 h2 f h3 h4=>by
  have:t=i:=by lia
  subst this;rw [e] at f;cases f;exact h u y h3 h4
theorem J.pb {x:aS}(g:J r all a b o i j) (T:GW r D a b) (e:b[j]?=some x) (h:∀ u y,i<=u->a[u]?=some y->r x<=r y):J r all a b (o.push x) i (j+1):=by
 rw [Pr e]
 exact J.tb g λt z u y h1 h2 f h3 h4=>by
  have:t=j:=by lia
  subst this;rw [e] at f;cases f;exact h u y h3 h4
end
end Sy
namespace Sy
open PySem PySem.W PyProof.Rows
section
variable {prog:aY}{w:bH}{A:bN}{E:ai->ak->Prop}{s:ak}{κ:jo} {D:aS->Prop}{r:aS->Int}{st:dD}{a b:Array aS}{xs o:Array aS}{pd:Array (Nat×Nat×Nat)}{i j k m q g mg N:Nat}{all:List aS}
def Sm (κ:jo) (xs:Array aS) (pd:Array (Nat×Nat×Nat)) (st:dD):Prop:=∃ g,st=aZ κ xs pd g none
theorem fV {a:Array aS}{i:Nat}(h:i<a.size):∃ x,a[i]?=some x:=⟨a[i],by simp [h]⟩
theorem rj {a:Array aS}{i:Nat}{x:aS}(h:a[i]?=some x):i<a.size:=(cC.mp h).1
theorem JD.told {q:Array aS}(h:F r all q):JD r all a b k (some q) o i j:=⟨λ_ e=>by cases e;exact h,(λe=>nomatch e)⟩
theorem JD.on (h1:J r all a b o i j) (h2:i+1<a.size) (h3:j<b.size) (h4:k<=o.size):JD r all a b k none o i j:=⟨(λ_ e=>nomatch e),λ_=>⟨h1,h2,h3,h4⟩⟩
theorem XY (hc:FP prog w A s κ D r) (hk:kindOf st=κ) (T:GW r D a b) {Q:T1->dD->Prop}(h1:J r all a b o i j) (h2:i+1<a.size) (h3:j<b.size)
  (h:∀ z,JD r all a b o.size z.1 z.2.1 z.2.2.1 z.2.2.2.1->Q z st):vp (aM prog w) A E s (forIn [0:N] ((none,o,i,j,0,0):T1) (loB a b mg)) Q st:=by
 refine fF (I:=λx z st'=>st'=st/\z.1=none/\J r all a b z.2.1 z.2.2.1 z.2.2.2.1/\z.2.2.1+1<a.size/\z.2.2.2.1<b.size/\o.size<=z.2.1.size) ?_ ?_ ⟨rfl,rfl,h1,h2,h3,ar _⟩
 ·rintro x ⟨z,o',i',j',ac,bc⟩ st' _ hx ⟨rfl,rfl,g,g2,g3,g4⟩;dsimp only at g g2 g3 g4;obtain ⟨u,eu⟩:=fV (a:=a) (i:=i') (by lia);obtain ⟨v,ev⟩:=fV g3;unfold loB;refine aR (mX ev (aR (mX eu (aR (w_lt hc hk (T.db _ _ ev) (T.da _ _ eu) ?_)))));dsimp only
  have sz:∀ x:aS,o.size<=(o'.push x).size:=λx=>by rw [iw];lia
  by_cases c:r v<r u
  ·rw [decide_eq_true c,if_pos rfl];have g5:=g.pb T ev λt y h1 e=>cY (fZ c) (T.sa _ _ _ _ (aQ _) h1 (rj e) eu e);refine aR (mX ev ?_)
   by_cases e:j'+1=b.size
   ·rw [if_pos (by simpa using e)];exact bg (h _ (JD.told (g5.fb e)))
   ·rw [if_neg (by simpa using e)]
    by_cases f:bc+1>=mg
    ·rw [if_pos f];exact bg (h _ (JD.on g5 g2 (by dsimp only;lia) (sz _)))
    ·rw [if_neg f];exact bg ⟨rfl,rfl,g5,g2,by dsimp only;lia,sz _⟩
  ·rw [decide_eq_false c,if_neg (by simp)];have g5:=g.pa T eu λt y h1 e=>cY (mL.mp c) (T.sb _ _ _ _ (aQ _) h1 (rj e) ev e);refine aR (mX eu ?_)
   by_cases e:i'+1+1=a.size
   ·rw [if_pos (by simpa using e)];exact bg (h _ (JD.told (g5.fl T e)))
   ·rw [if_neg (by simpa using e)]
    by_cases f:ac+1>=mg
    ·rw [if_pos f];exact bg (h _ (JD.on g5 (by dsimp only;lia) g3 (sz _)))
    ·rw [if_neg f];exact bg ⟨rfl,rfl,g5,by dsimp only;lia,g3,sz _⟩
 ·rintro ⟨z,o',i',j',ac,bc⟩ st' ⟨rfl,rfl,g,g2,g3,g4⟩;exact h _ (JD.on g g2 g3 g4)
def Nx (κ:jo) (xs:Array aS) (pd:Array (Nat×Nat×Nat)) (r:aS->Int) (all:List aS) (a b:Array aS) (k:Nat) (x:ForInStep T2) (st':dD):Prop :=
 Sm κ xs pd st'/\match x with
  | .done z=>JD r all a b k z.1 z.2.1 z.2.2.1 z.2.2.2.1
  | .yield z=>z.1=none/\J r all a b z.2.1 z.2.2.1 z.2.2.2.1/\z.2.2.1+1<a.size/\z.2.2.2.1<b.size/\k<=z.2.1.size
theorem TF (T:GW r D a b) (h0:Sm κ xs pd st) (h1:J r all a b o i j) (h2:i+1<a.size) (h3:j<b.size) (h4:k<=o.size+1)
  (h:∀ x,a[i]?=some x->∀ u y,j<=u->b[u]?=some y->r x<=r y):vp (aM prog w) A E s (Sj a b o i j mg m q) (Nx κ xs pd r all a b k) st:=by
 obtain ⟨x,e⟩:=fV (a:=a) (i:=i) (by lia);unfold Sj;have g:=h1.pa T e (h x e)
 have sz:k<=(o.push x).size:=by rw [iw];lia
 refine aR (mX e ?_);dsimp only
 by_cases c:i+1+1=a.size
 ·rw [if_pos (by simpa using c)];exact bg ⟨h0,JD.told (g.fl T c)⟩
 ·rw [if_neg (by simpa using c)]
  split
  ·exact bg ⟨h0,JD.on g (by dsimp only;lia) h3 sz⟩
  ·exact bg ⟨h0,rfl,g,by dsimp only;lia,h3,sz⟩
theorem TH (hc:FP prog w A s κ D r) (T:GW r D a b) (h0:Sm κ xs pd st) (h1:J r all a b o i j) (h2:i+1<a.size) (h3:j<b.size) (h4:k<=o.size+2)
  (h:∀ x,b[j]?=some x->∀ u y,i<=u->a[u]?=some y->r x<=r y):vp (aM prog w) A E s (Sk a b o i j mg m q) (Nx κ xs pd r all a b k) st:=by
 obtain ⟨x,e⟩:=fV h3;obtain ⟨y,f⟩:=fV (a:=a) (i:=i) (by lia);unfold Sk;have g:=h1.pb T e (h x e);refine aR (mX e ?_);dsimp only
 by_cases c:j+1=b.size
 ·rw [if_pos (by simpa using c)];exact bg ⟨h0,JD.told (g.fb c)⟩
 ·rw [if_neg (by simpa using c)]
  have hk:kindOf st=κ:=by obtain ⟨_,rfl⟩:=h0;rfl
  refine aR (mX f (aR (oG hc hk T.db (T.da _ _ f) (by lia) (λt u x y z1 z2 z3=>T.sb t u x y (aQ _) z2 (by lia)) (by lia) λn n1 n2 n3=>?_)));dsimp only;have ya:∀ u z,i<=u->a[u]?=some z->r y<=r z:=λu z h1 e=>T.sa _ _ _ _ (aQ _) h1 (rj e) f e;have g2:=g.tb (k:=n) λt x u z z1 z2 e1 z3 e2=>cY (fZ (of_decide_eq_true (n2 t x z1 z2 e1))) (ya u z z3 e2)
  have hb:∀ x,a[i]?=some x->∀ u z,j+1+n<=u->b[u]?=some z->r x<=r z:=λx e1 u z h1 e2=>by
   rw [f] at e1;cases e1;exact mL.mp (of_decide_eq_false (n3 u z h1 (by have:=rj e2;lia) e2))
  have sz:k<=(o.push x).size+1:=by rw [iw];lia
  by_cases d:n>0
  ·rw [if_pos d]
   by_cases c2:j+1+n=b.size
   ·rw [if_pos (by simpa using c2)];exact bg ⟨h0,JD.told (g2.fb c2)⟩
   ·rw [if_neg (by simpa using c2)];exact TF T h0 g2 h2 (by lia) (by rw [pJ];lia) hb
  ·rw [if_neg d]
   have:n=0:=by lia
   subst this;exact TF T h0 g h2 (by lia) sz hb
theorem XZ (hc:FP prog w A s κ D r) (T:GW r D a b) (h0:Sm κ xs pd st) {z:T2}(h1:J r all a b z.2.1 z.2.2.1 z.2.2.2.1) (h2:z.2.2.1+1<a.size) (h3:z.2.2.2.1<b.size) (h4:k<=z.2.1.size+1) :
  vp (aM prog w) A E s (Pq a b z mg) (Nx κ xs pd r all a b k) st:=by
 obtain ⟨z0,o,i,j,g0,ac,bc⟩:=z;dsimp only at h1 h2 h3 h4;obtain ⟨x,e⟩:=fV h3;unfold Pq Pp;dsimp only;refine aR (iC ?_)
 have h0':Sm κ xs pd (aZ (kindOf st) (mK st) (cK st) mg (iU st)):=by obtain ⟨g,rfl⟩:=h0;exact ⟨mg,rfl⟩
 have hk:kindOf (aZ (kindOf st) (mK st) (cK st) mg (iU st))=κ:=by obtain ⟨_,e⟩:=h0';rw [e]
 generalize aZ (kindOf st) (mK st) (cK st) mg (iU st)=st1 at h0' hk;refine aR (mX e (aR (oG hc hk T.da (T.db _ _ e) (by lia) (λt u x y z1 z2 z3=>T.sa t u x y (aQ _) z2 (by lia)) (by lia) λn n1 n2 n3=>?_)));dsimp only;have xb:∀ u z,j<=u->b[u]?=some z->r x<=r z:=λu z h1 e1=>T.sb _ _ _ _ (aQ _) h1 (rj e1) e e1
 have nx:∀ t y,i<=t->t<i+n->a[t]?=some y->r y<=r x:=λt y h1 h2 e1=>by
  have:=n2 t y h1 h2 e1
  simpa [Bv] using this
 have g2:=h1.ta (k:=n) λt y u z z1 z2 e1 z3 e2=>cY (nx t y z1 z2 e1) (xb u z z3 e2)
 have ha:∀ y,b[j]?=some y->∀ u z,i+n<=u->a[u]?=some z->r y<=r z:=λy e1 u z h1 e2=>by
  rw [e] at e1;cases e1;have:=n3 u z h1 (by have:=rj e2;lia) e2;exact fZ (by simpa [Bv] using this)
 by_cases d:n>0
 ·rw [if_pos d]
  by_cases c1:i+n+1=a.size
  ·rw [if_pos (by simpa using c1)];exact bg ⟨h0',JD.told (g2.fl T c1)⟩
  ·rw [if_neg (by simpa using c1)]
   by_cases c2:i+n=a.size
   ·rw [if_pos (by simpa using c2)];exact bg ⟨h0',JD.told (g2.fa c2)⟩
   ·rw [if_neg (by simpa using c2)];exact TH hc T h0' g2 (by lia) h3 (by rw [pJ];lia) ha
 ·rw [if_neg d]
  have:n=0:=by lia
  subst this;exact TH hc T h0' h1 h2 h3 (by lia) ha
theorem TJ {α β γ:Type} {B:Nat->Nat->S1 α β γ->SM (ForInStep (S1 α β γ))}{G:Nat->S2 α β γ->SM (ForInStep (S2 α β γ))}{Fq:Array aS->Prop}{Jv:α->β->γ->Prop}{sz:α->β->γ->Nat}{Q:Array aS->dD->Prop}{x:α}{y:β}{z:γ}
  (hB:∀ mg st x y z (Q:S1 α β γ->dD->Prop),Sm κ xs pd st->Jv x y z->(∀ u,(∀ q,u.1=some q->Fq q)->(u.1=none->Jv u.2.1 u.2.2.1 u.2.2.2.1/\sz x y z<=sz u.2.1 u.2.2.1 u.2.2.2.1)->Q u st)->vp (aM prog w) A E s (forIn [0:N] ((none,x,y,z,0,0):S1 α β γ) (B mg)) Q st)
  (hG:∀ i st (u:S2 α β γ),Sm κ xs pd st->Jv u.2.1 u.2.2.1 u.2.2.2.1->vp (aM prog w) A E s (G i u) (λv st'=>Sm κ xs pd st'/\match v with
   | .done v=>(∀ q,v.1=some q->Fq q)/\(v.1=none->Jv v.2.1 v.2.2.1 v.2.2.2.1/\sz u.2.1 u.2.2.1 u.2.2.2.1+1<=sz v.2.1 v.2.2.1 v.2.2.2.1)
   | .yield v=>v.1=none/\Jv v.2.1 v.2.2.1 v.2.2.2.1/\sz u.2.1 u.2.2.1 u.2.2.2.1+1<=sz v.2.1 v.2.2.1 v.2.2.2.1) st)
  (hN:∀ x y z,Jv x y z->sz x y z<N) (h0:Sm κ xs pd st) (h1:Jv x y z) (h:∀ q st',Sm κ xs pd st'->Fq q->Q q st'):vp (aM prog w) A E s (mrg N B G x y z) Q st:=by
 refine aR (qe (aR (mM (fF (I:=λk z st'=>Sm κ xs pd st'/\z.1=none/\Jv z.2.1 z.2.2.1 z.2.2.2.1/\k<=sz z.2.1 z.2.2.1 z.2.2.2.1)
  (Q:=λz st'=>Sm κ xs pd st'/\∃ q,z.1=some q/\Fq q) ?_ ?_ ⟨h0,rfl,h1,aQ _⟩) ?_)))
 ·rintro k u st' _ hk ⟨i0,i1,i2,i3⟩;refine aR (hB _ _ _ _ _ _ i0 i2 λv v1 v2=>?_);obtain ⟨v0,v⟩:=v
  cases v0 with
  | some q=>exact bg ⟨i0,q,rfl,v1 q rfl⟩
  | none =>
   obtain ⟨v3,v4⟩:=v2 rfl;refine aR (Hg (jf ⟨rfl,?_⟩))
   refine aR (mM (fF (I:=λm z st'=>Sm κ xs pd st'/\z.1=none/\Jv z.2.1 z.2.2.1 z.2.2.2.1/\k+m<=sz z.2.1 z.2.2.1 z.2.2.2.1)
    (Q:=λz st'=>Sm κ xs pd st'/\(∀ q,z.1=some q->Fq q)/\(z.1=none->Jv z.2.1 z.2.2.1 z.2.2.2.1/\k+1<=sz z.2.1 z.2.2.1 z.2.2.2.1)) ?_ ?_ ⟨i0,rfl,v3,bf i3 v4⟩) ?_)
   ·rintro m u' st2 _ hm ⟨j0,j1,j2,j3⟩;refine mM (hG m st2 u' j0 j2) λv st3 q=>?_;obtain ⟨p,q⟩:=q
    cases v with
    | done v=>exact ⟨p,q.1,λe=>let ⟨a1,a2⟩:=q.2 e;⟨a1,by lia⟩⟩
    | yield v=>exact ⟨p,q.1,q.2.1,by have:=q.2.2;lia⟩
   ·rintro u' st2 ⟨j0,j1,j2,j3⟩;exact ⟨j0,⟨λq e=>(by rw [j1] at e;cases e),λ_=>⟨j2,by have:=hN _ _ _ j2;lia⟩⟩⟩
   ·rintro ⟨u0,u'⟩ st2 ⟨j0,j1,j2⟩
    cases u0 with
    | some q=>exact bg ⟨j0,q,rfl,j1 q rfl⟩
    | none =>
     have j3:=j2 rfl;exact aR (iC (bg ⟨by obtain ⟨g,rfl⟩:=j0;exact ⟨_,rfl⟩,rfl,j3.1,j3.2⟩))
 ·rintro u st' ⟨i0,i1,i2,i3⟩;have:=hN _ _ _ i2;lia
 ·rintro ⟨u0,u⟩ st' ⟨i0,q,e,hq⟩;cases e;exact bg (h q st' i0 hq)
theorem w_lo (hc:FP prog w A s κ D r) (T:GW r D a b) (h0:st=aZ κ xs pd g none) (ha:0<a.size) (hb:0<b.size) (hl:∀ x y,b[0]?=some x->a[0]?=some y->r x<=r y) {Q:Array aS->dD->Prop}
  (h:∀ q st',Sm κ xs pd st'->F r (a.toList++b.toList) q->Q q st'):vp (aM prog w) A E s (Be a b) Q st:=by
 rw [XX];refine aR (Hg (jf ⟨rfl,?_⟩));obtain ⟨x,e⟩:=fV hb;obtain ⟨y,f⟩:=fV ha;refine aR (mX e ?_);have pw:∀ c:Array aS,St r c 0 c.size->c.toList.Pairwise λx y=>r x<=r y:=λc h=>iA.mpr λi j hi hj hij=>h i j _ _ (aQ _) (kx hij) (by simpa using hj) (by simp) (by simp)
 have g0:J r (a.toList++b.toList) a b #[] 0 0:=⟨by simp,mR,by simpa using pw a T.sa,by simpa using pw b T.sb,λ_ z=>nomatch z⟩
 have g:=g0.pb T e λu z h1 e1=>cY (hl x y e f) (T.sa _ _ _ _ (aQ _) h1 (rj e1) f e1);have g:J r (a.toList++b.toList) a b #[x] 0 1:=g
 by_cases c1:1=b.size
 ·rw [if_pos (by simpa using c1)];exact bg (h _ _ ⟨_,h0⟩ (g.fb c1))
 ·rw [if_neg (by simpa using c1)]
  by_cases c2:0+1=a.size
  ·rw [if_pos (by simpa using c2)];exact bg (h _ _ ⟨_,h0⟩ (g.fl T c2))
  ·rw [if_neg (by simpa using c2)]
   refine TJ (Fq:=F r (a.toList++b.toList)) (Jv:=λo i j=>J r (a.toList++b.toList) a b o i j/\i+1<a.size/\j<b.size) (sz:=λo _ _=>o.size) (λmg st o i j Q w1 w2 w3=>XY hc (by obtain ⟨_,rfl⟩:=w1;rfl) T w2.1 w2.2.1 w2.2.2 λu q=>w3 u q.1 λe=>let ⟨a1,a2,a3,a4⟩:=q.2 e;⟨⟨a1,a2,a3⟩,a4⟩) (λk st u w1 w2=>?_) (λo i j q=>by
    have:=q.1.len (by lia) (by lia) (by simp)
    lia) ⟨_,h0⟩ ⟨g,by lia,by lia⟩ h
   have e:loG a b k u=Pq a b u (if u.2.2.2.2.1>1 then u.2.2.2.2.1-1 else u.2.2.2.2.1):=by unfold loG;split<;>rfl
   rw [e]
   refine mM (XZ hc T w1 w2.1 w2.2.1 w2.2.2 (ar _)) λv st2 q=>⟨q.1,?_⟩
   have q:=q.2
   cases v with
   | done v=>exact ⟨q.1,λe=>let ⟨a1,a2,a3,a4⟩:=q.2 e;⟨⟨a1,a2,a3⟩,a4⟩⟩
   | yield v=>exact ⟨q.1,⟨q.2.1,q.2.2.1,q.2.2.2.1⟩,q.2.2.2.2⟩
end
end Sy
namespace Sy
open PySem PySem.W PyProof.Rows
def Bg:Array aS->Array aS->SM (Array aS):=sortPriv% PySem.Builtin.mergeHi
abbrev U1:=S1 Nat Nat (Array aS)
abbrev U2:=S2 Nat Nat (Array aS)
section
variable (a b:Array aS)
def Pu (o:Array aS) (i j:Nat):Array aS:=a.extract 0 i++b.extract 0 j++o.reverse
def VX (o:Array aS) (i j:Nat):Array aS:=b.extract 0 j++a.extract 0 i++o.reverse
def hiB (mg:Nat) (_:Nat) (z:U1):SM (ForInStep U1):=do
 match ← lt' (← l9 b (z.2.2.1-1)) (← l9 a (z.2.1-1)) with
 | some c=>(if c=true then (do
   let o:=z.2.2.2.1.push (← l9 a (z.2.1-1))
   if (z.2.1-1 == 0)=true then pure (.done (some (Pu a b o (z.2.1-1) z.2.2.1),z.2.1-1,z.2.2.1,o,z.2.2.2.2.1+1,0))
   else if z.2.2.2.2.1+1>=mg then pure (.done (none,z.2.1-1,z.2.2.1,o,z.2.2.2.2.1+1,0)) else pure (.yield (none,z.2.1-1,z.2.2.1,o,z.2.2.2.2.1+1,0)))
  else (do
   let o:=z.2.2.2.1.push (← l9 b (z.2.2.1-1))
   if (z.2.2.1-1 == 1)=true then pure (.done (some (VX a b o z.2.1 (z.2.2.1-1)),z.2.1,z.2.2.1-1,o,0,z.2.2.2.2.2+1))
   else if z.2.2.2.2.2+1>=mg then pure (.done (none,z.2.1,z.2.2.1-1,o,0,z.2.2.2.2.2+1)) else pure (.yield (none,z.2.1,z.2.2.1-1,o,0,z.2.2.2.2.2+1))))
 | _=>pure (.done (some (Pu a b z.2.2.2.1 z.2.1 z.2.2.1),z.2))
def Sl (o:Array aS) (i j mg k m:Nat):SM (ForInStep U2):=do
 let o:=o.push (← l9 a (i-1))
 if (i-1 == 0)=true then pure (.done (some (Pu a b o (i-1) j),i-1,j,o,mg,k,m))
 else if (decide (k<7) && decide (m<7))=true then pure (.done (none,i-1,j,o,mg,k,m)) else pure (.yield (none,i-1,j,o,mg,k,m))
def Sn (o:Array aS) (i j mg k q:Nat):SM (ForInStep U2):=do
 let o:=o.push (← l9 b (j-1))
 if (j-1 == 1)=true then pure (.done (some (VX a b o i (j-1)),i,j-1,o,mg,k,q))
 else (do
  match ← nG true (← l9 a (i-1)) b 0 (j-1) (j-1-1) with
  | some m=>if j-1-m>0 then (if (m == 1)=true then pure (.done (some (VX a b (o++(b.extract m (j-1)).reverse) i m),i,m,o++(b.extract m (j-1)).reverse,mg,k,j-1-m))
    else if (m == 0)=true then pure (.done (some (Pu a b (o++(b.extract m (j-1)).reverse) i m),i,m,o++(b.extract m (j-1)).reverse,mg,k,j-1-m))
    else Sl a b (o++(b.extract m (j-1)).reverse) i m mg k (j-1-m)) else Sl a b o i (j-1) mg k (j-1-m)
  | _=>pure (.done (some (Pu a b o i (j-1)),i,j-1,o,mg,k,q)))
def Pw (z:U2) (mg:Nat):SM (ForInStep U2):=do
 Pp mg
 match ← nG false (← l9 b (z.2.2.1-1)) a 0 z.2.1 (z.2.1-1) with
 | some k=>if z.2.1-k>0 then (if (k == 0)=true then pure (.done (some (Pu a b (z.2.2.2.1++(a.extract k z.2.1).reverse) k z.2.2.1),k,z.2.2.1,z.2.2.2.1++(a.extract k z.2.1).reverse,mg,z.2.1-k,z.2.2.2.2.2.2))
   else Sn a b (z.2.2.2.1++(a.extract k z.2.1).reverse) k z.2.2.1 mg (z.2.1-k) z.2.2.2.2.2.2) else Sn a b z.2.2.2.1 z.2.1 z.2.2.1 mg (z.2.1-k) z.2.2.2.2.2.2
 | _=>pure (.done (some (Pu a b z.2.2.2.1 z.2.1 z.2.2.1),z.2.1,z.2.2.1,z.2.2.2.1,mg,z.2.2.2.2.2))
def hiG (_:Nat) (z:U2):SM (ForInStep U2):=if z.2.2.2.2.1>1 then Pw a b z (z.2.2.2.2.1-1) else Pw a b z z.2.2.2.2.1
theorem X0:Bg a b=(do
  liftM (Em "list.sort.merge-hi")
  let x ← l9 a (a.size-1)
  if (a.size-1 == 0)=true then pure (Pu a b #[x] (a.size-1) b.size) else if (b.size == 1)=true then pure (VX a b #[x] (a.size-1) b.size)
  else mrg (a.size+b.size) (hiB a b) (hiG a b) (a.size-1) b.size #[x]):=by kernel_rfl
end
end Sy
namespace Sy
open PySem PySem.W PyProof.Rows
section
variable {prog:aY}{w:bH}{A:bN}{E:ai->ak->Prop}{s:ak}{κ:jo} {D:aS->Prop}{r:aS->Int}{st:dD}{a b:Array aS}{xs o:Array aS}{pd:Array (Nat×Nat×Nat)}{i j k m q g mg N:Nat}{all:List aS}
def ng (r:aS->Int) (x:aS):Int:=- r x
theorem rv {a:Array aS}{n:Nat}(h1:n<=a.size) (h0:0<n):a.reverse[a.size-n]?=a[n-1]?:=by
 rw [LA (by lia)];congr 1;lia
theorem mh {a:Array aS}{t:Nat}{x:aS}(e:a.reverse[t]?=some x):t<a.size/\a[a.size-1-t]?=some x:=by
 have h:=rj e;simp at h;rw [LA h] at e;exact ⟨h,e⟩
theorem rx {a:Array aS}{k n:Nat}(h:n<=a.size) (hk:k<=n):(a.extract k n).reverse=a.reverse.extract (a.size-n) (a.size-n+(n-k)):=by
 apply Array.ext
 ·simp;lia
 ·intro t h1 h2;simp at h1 h2 ⊢
  congr 1;lia
theorem Zg {a:Array aS}{n:Nat}(h:n<=a.size):(a.extract 0 n).reverse=a.reverse.extract (a.size-n) a.reverse.size:=by
 rw [rx h (aQ _)];congr 1;simp;lia
theorem VY (h1:i<=a.size) (h2:j<=b.size):(Pu a b o i j).reverse=dn b.reverse a.reverse o (b.size-j) (a.size-i):=by
 unfold Pu dn;rw [mN,mN,MJ,Zg h1,Zg h2,yF]
theorem VZ (h1:i<=a.size) (h2:j<=b.size):(VX a b o i j).reverse=lst b.reverse a.reverse o (b.size-j) (a.size-i):=by
 unfold VX lst;rw [mN,mN,MJ,Zg h1,Zg h2,yF]
structure Jh (r:aS->Int) (all:List aS) (a b:Array aS) (i j:Nat) (o:Array aS):Prop where
 jj:J (ng r) all b.reverse a.reverse o (b.size-j) (a.size-i)
 i0:0<i
 i1:i<=a.size
 j0:1<j
 j1:j<=b.size
def Fh (r:aS->Int) (all:List aS) (o:Array aS):Prop:=F (ng r) all o.reverse
theorem Fh.dn (g:J (ng r) all b.reverse a.reverse o (b.size-j) (a.size-i)) (h1:i<=a.size) (h2:j<=b.size) (h:i=0\/j=0):Fh r all (Pu a b o i j):=by
 unfold Fh;rw [VY h1 h2]
 rcases h with rfl|rfl
 ·exact g.fb (by simp)
 ·exact g.fa (by simp)
theorem Fh.fs (T:GW (ng r) D b.reverse a.reverse) (g:J (ng r) all b.reverse a.reverse o (b.size-j) (a.size-i)) (h1:i<=a.size) (h2:j<=b.size) (h:j=1):Fh r all (VX a b o i j):=by
 unfold Fh;rw [VZ h1 h2];exact g.fl T (by simp;lia)
theorem J.pA (T:GW (ng r) D b.reverse a.reverse) (h:J (ng r) all b.reverse a.reverse o (b.size-j) (a.size-i)) (h0:0<i) (h1:i<=a.size) {x:aS}(e:a[i-1]?=some x) (hx:∀ u y,u<j->b[u]?=some y->r y<=r x) :
  J (ng r) all b.reverse a.reverse (o.push x) (b.size-j) (a.size-(i-1)):=by
 rw [show a.size-(i-1)=a.size-i+1 by lia]
 exact h.pb T (by rw [rv h1 h0,e]) λu y h1 f=>by
  obtain ⟨f1,f⟩:=mh f;have:=hx _ y (by lia) f;unfold ng;lia
theorem J.pB (T:GW (ng r) D b.reverse a.reverse) (h:J (ng r) all b.reverse a.reverse o (b.size-j) (a.size-i)) (h0:0<j) (h1:j<=b.size) {x:aS}(e:b[j-1]?=some x) (hx:∀ u y,u<i->a[u]?=some y->r y<=r x) :
  J (ng r) all b.reverse a.reverse (o.push x) (b.size-(j-1)) (a.size-i):=by
 rw [show b.size-(j-1)=b.size-j+1 by lia]
 exact h.pa T (by rw [rv h1 h0,e]) λu y h1 f=>by
  obtain ⟨f1,f⟩:=mh f;have:=hx _ y (by lia) f;unfold ng;lia
theorem J.tA (h:J (ng r) all b.reverse a.reverse o (b.size-j) (a.size-i)) (hk:k<=i) (h1:i<=a.size) (hx:∀ t x u y,k<=t->t<i->a[t]?=some x->u<j->b[u]?=some y->r y<=r x) :
  J (ng r) all b.reverse a.reverse (o++(a.extract k i).reverse) (b.size-j) (a.size-k):=by
 rw [rx h1 hk,show a.size-k=a.size-i+(i-k) by lia]
 exact h.tb λt x u y h1 h2 e h3 f=>by
  obtain ⟨e1,e⟩:=mh e;obtain ⟨f1,f⟩:=mh f;have:=hx _ x _ y (by lia) (by lia) e (by lia) f;unfold ng;lia
theorem J.tB (h:J (ng r) all b.reverse a.reverse o (b.size-j) (a.size-i)) (hk:k<=j) (h1:j<=b.size) (hx:∀ t x u y,k<=t->t<j->b[t]?=some x->u<i->a[u]?=some y->r y<=r x) :
  J (ng r) all b.reverse a.reverse (o++(b.extract k j).reverse) (b.size-k) (a.size-i):=by
 rw [rx h1 hk,show b.size-k=b.size-j+(j-k) by lia]
 exact h.ta λt x u y h1 h2 e h3 f=>by
  obtain ⟨e1,e⟩:=mh e;obtain ⟨f1,f⟩:=mh f;have:=hx _ x _ y (by lia) (by lia) e (by lia) f;unfold ng;lia
structure Wl (r:aS->Int) (D:aS->Prop) (a b:Array aS):Prop where
 da:∀ (t:Nat) x,a[t]?=some x->D x
 db:∀ (t:Nat) x,b[t]?=some x->D x
 sa:St r a 0 a.size
 sb:St r b 0 b.size
 fb:∀ (u:Nat) x y,b[0]?=some x->a[u]?=some y->r x<=r y
theorem Wl.two (T:Wl r D a b):GW (ng r) D b.reverse a.reverse where
 da t x e:=T.db _ x (mh e).2
 db t x e:=T.da _ x (mh e).2
 sa t u x y _ h2 h3 e f:=by
  have:=T.sb _ _ y x (aQ _) (show b.size-1-u<=b.size-1-t by lia) (by have:=(mh e).1;lia) (mh f).2 (mh e).2;unfold ng;lia
 sb t u x y _ h2 h3 e f:=by
  have:=T.sa _ _ y x (aQ _) (show a.size-1-u<=a.size-1-t by lia) (by have:=(mh e).1;lia) (mh f).2 (mh e).2;unfold ng;lia
 la t u x y h1 e f:=by
  simp at h1;have e':=(mh e).2;rw [show b.size-1-t=0 by lia] at e';have:=T.fb _ x y e' (mh f).2;unfold ng;lia
def JA (r:aS->Int) (all:List aS) (a b:Array aS) (k:Nat) (z:Option (Array aS)) (i j:Nat) (o:Array aS):Prop :=
 (∀ q,z=some q->Fh r all q)/\(z=none->Jh r all a b i j o/\k<=o.size)
theorem JA.told {q:Array aS}(h:Fh r all q):JA r all a b k (some q) i j o:=⟨λ_ e=>by cases e;exact h,(λe=>nomatch e)⟩
theorem JA.on (h1:Jh r all a b i j o) (h4:k<=o.size):JA r all a b k none i j o:=⟨(λ_ e=>nomatch e),λ_=>⟨h1,h4⟩⟩
theorem X1 (hc:FP prog w A s κ D r) (hk:kindOf st=κ) (T:Wl r D a b) {Q:U1->dD->Prop}(h1:Jh r all a b i j o)
  (h:∀ z,JA r all a b o.size z.1 z.2.1 z.2.2.1 z.2.2.2.1->Q z st):vp (aM prog w) A E s (forIn [0:N] ((none,i,j,o,0,0):U1) (hiB a b mg)) Q st:=by
 refine fF (I:=λx z st'=>st'=st/\z.1=none/\Jh r all a b z.2.1 z.2.2.1 z.2.2.2.1/\o.size<=z.2.2.2.1.size) ?_ ?_ ⟨rfl,rfl,h1,ar _⟩
 ·rintro x ⟨z,i',j',o',ac,bc⟩ st' _ hx ⟨rfl,rfl,g,g4⟩;dsimp only at g g4;obtain ⟨g,i0,i1,j0,j1⟩:=g;obtain ⟨u,eu⟩:=fV (a:=a) (i:=i'-1) (by lia);obtain ⟨v,ev⟩:=fV (a:=b) (i:=j'-1) (by lia);unfold hiB;refine aR (mX ev (aR (mX eu (aR (w_lt hc hk (T.db _ _ ev) (T.da _ _ eu) ?_)))));dsimp only
  have sz:∀ x:aS,o.size<=(o'.push x).size:=λx=>by rw [iw];lia
  by_cases c:r v<r u
  ·rw [decide_eq_true c,if_pos rfl];have g5:=g.pA T.two i0 i1 eu λt y h1 e=>cY (T.sb _ _ _ _ (aQ _) (by lia) (by lia) e ev) (fZ c);refine aR (mX eu ?_)
   by_cases e:i'-1=0
   ·rw [if_pos (by simpa using e)];exact bg (h _ (JA.told (Fh.dn g5 (by lia) j1 (.inl e))))
   ·rw [if_neg (by simpa using e)]
    by_cases f:ac+1>=mg
    ·rw [if_pos f];exact bg (h _ (JA.on ⟨g5,by dsimp only;lia,by dsimp only;lia,j0,j1⟩ (sz _)))
    ·rw [if_neg f];exact bg ⟨rfl,rfl,⟨g5,by dsimp only;lia,by dsimp only;lia,j0,j1⟩,sz _⟩
  ·rw [decide_eq_false c,if_neg (by simp)];have g5:=g.pB T.two (by lia) j1 ev λt y h1 e=>cY (T.sa _ _ _ _ (aQ _) (by lia) (by lia) e eu) (mL.mp c);refine aR (mX ev ?_)
   by_cases e:j'-1=1
   ·rw [if_pos (by simpa using e)];exact bg (h _ (JA.told (Fh.fs T.two g5 i1 (by lia) e)))
   ·rw [if_neg (by simpa using e)]
    by_cases f:bc+1>=mg
    ·rw [if_pos f];exact bg (h _ (JA.on ⟨g5,i0,i1,by dsimp only;lia,by dsimp only;lia⟩ (sz _)))
    ·rw [if_neg f];exact bg ⟨rfl,rfl,⟨g5,i0,i1,by dsimp only;lia,by dsimp only;lia⟩,sz _⟩
 ·rintro ⟨z,o',i',j',ac,bc⟩ st' ⟨rfl,rfl,g,g4⟩;exact h _ (JA.on g g4)
def Nxh (κ:jo) (xs:Array aS) (pd:Array (Nat×Nat×Nat)) (r:aS->Int) (all:List aS) (a b:Array aS) (k:Nat) (x:ForInStep U2) (st':dD):Prop :=
 Sm κ xs pd st'/\match x with
  | .done z=>JA r all a b k z.1 z.2.1 z.2.2.1 z.2.2.2.1
  | .yield z=>z.1=none/\Jh r all a b z.2.1 z.2.2.1 z.2.2.2.1/\k<=z.2.2.2.1.size
theorem TK (T:Wl r D a b) (h0:Sm κ xs pd st) (h1:Jh r all a b i j o) (h4:k<=o.size+1) (h:∀ x,a[i-1]?=some x->∀ u y,u<j->b[u]?=some y->r y<=r x) :
  vp (aM prog w) A E s (Sl a b o i j mg m q) (Nxh κ xs pd r all a b k) st:=by
 obtain ⟨g,i0,i1,j0,j1⟩:=h1;obtain ⟨x,e⟩:=fV (a:=a) (i:=i-1) (by lia);unfold Sl;have g:=g.pA T.two i0 i1 e (h x e)
 have sz:k<=(o.push x).size:=by rw [iw];lia
 refine aR (mX e ?_);dsimp only
 by_cases c:i-1=0
 ·rw [if_pos (by simpa using c)];exact bg ⟨h0,JA.told (Fh.dn g (by lia) j1 (.inl c))⟩
 ·rw [if_neg (by simpa using c)]
  have g2:Jh r all a b (i-1) j (o.push x):=⟨g,by lia,by lia,j0,j1⟩
  split
  ·exact bg ⟨h0,JA.on g2 sz⟩
  ·exact bg ⟨h0,rfl,g2,sz⟩
theorem TL (hc:FP prog w A s κ D r) (T:Wl r D a b) (h0:Sm κ xs pd st) (h1:Jh r all a b i j o) (h4:k<=o.size+2) (h:∀ x,b[j-1]?=some x->∀ u y,u<i->a[u]?=some y->r y<=r x) :
  vp (aM prog w) A E s (Sn a b o i j mg m q) (Nxh κ xs pd r all a b k) st:=by
 obtain ⟨g,i0,i1,j0,j1⟩:=h1;obtain ⟨x,e⟩:=fV (a:=b) (i:=j-1) (by lia);obtain ⟨y,f⟩:=fV (a:=a) (i:=i-1) (by lia);unfold Sn;have g:=g.pB T.two (by lia) j1 e (h x e);refine aR (mX e ?_);dsimp only
 by_cases c:j-1=1
 ·rw [if_pos (by simpa using c)];exact bg ⟨h0,JA.told (Fh.fs T.two g i1 (by lia) c)⟩
 ·rw [if_neg (by simpa using c)]
  have hk:kindOf st=κ:=by obtain ⟨_,rfl⟩:=h0;rfl
  refine aR (mX f (aR (oG hc hk T.db (T.da _ _ f) (by lia) (λt u x y z1 z2 z3=>T.sb t u x y (aQ _) z2 (by lia)) (by lia) λn n1 n2 n3=>?_)));dsimp only;have ya:∀ u z,u<i->a[u]?=some z->r z<=r y:=λu z h1 e=>T.sa _ _ _ _ (aQ _) (by lia) (by lia) e f;have g2:=g.tB (k:=n) (by lia) (by lia) λt x u z z1 z2 e1 z3 e2=>cY (ya u z z3 e2) (mL.mp (of_decide_eq_false (n3 t x (by lia) (by lia) e1)))
  have hb:∀ x,a[i-1]?=some x->∀ u z,u<n->b[u]?=some z->r z<=r x:=λx e1 u z h1 e2=>by
   rw [f] at e1;cases e1;exact fZ (of_decide_eq_true (n2 u z (aQ _) (by lia) e2))
  have sz:k<=(o.push x).size+1:=by rw [iw];lia
  by_cases d:j-1-n>0
  ·rw [if_pos d]
   by_cases c2:n=1
   ·rw [if_pos (by simpa using c2)];exact bg ⟨h0,JA.told (Fh.fs T.two g2 i1 (by lia) c2)⟩
   ·rw [if_neg (by simpa using c2)]
    by_cases c3:n=0
    ·rw [if_pos (by simpa using c3)];exact bg ⟨h0,JA.told (Fh.dn g2 i1 (by lia) (.inr c3))⟩
    ·rw [if_neg (by simpa using c3)];exact TK T h0 ⟨g2,i0,i1,by lia,by lia⟩ (by rw [pJ];lia) hb
  ·rw [if_neg d]
   have:n=j-1:=by lia
   subst this;exact TK T h0 ⟨g,i0,i1,by lia,by lia⟩ sz hb
theorem X2 (hc:FP prog w A s κ D r) (T:Wl r D a b) (h0:Sm κ xs pd st) {z:U2}(h1:Jh r all a b z.2.1 z.2.2.1 z.2.2.2.1):vp (aM prog w) A E s (Pw a b z mg) (Nxh κ xs pd r all a b (z.2.2.2.1.size+1)) st:=by
 obtain ⟨z0,i,j,o,g0,ac,bc⟩:=z;obtain ⟨g,i0,i1,j0,j1⟩:=h1;dsimp only at g i0 i1 j0 j1;obtain ⟨x,e⟩:=fV (a:=b) (i:=j-1) (by lia);unfold Pw Pp;dsimp only;refine aR (iC ?_)
 have h0':Sm κ xs pd (aZ (kindOf st) (mK st) (cK st) mg (iU st)):=by obtain ⟨g,rfl⟩:=h0;exact ⟨mg,rfl⟩
 have hk:kindOf (aZ (kindOf st) (mK st) (cK st) mg (iU st))=κ:=by obtain ⟨_,e⟩:=h0';rw [e]
 generalize aZ (kindOf st) (mK st) (cK st) mg (iU st)=st1 at h0' hk;refine aR (mX e (aR (oG hc hk T.da (T.db _ _ e) (by lia) (λt u x y z1 z2 z3=>T.sa t u x y (aQ _) z2 (by lia)) (by lia) λn n1 n2 n3=>?_)));dsimp only;have xb:∀ u z,u<j->b[u]?=some z->r z<=r x:=λu z h1 e1=>T.sb _ _ _ _ (aQ _) (by lia) (by lia) e1 e
 have nx:∀ t y,n<=t->t<i->a[t]?=some y->r x<=r y:=λt y h1 h2 e1=>by
  have:=n3 t y (by lia) (by lia) e1;exact fZ (by simpa [Bv] using this)
 have g2:=g.tA (k:=n) (by lia) i1 λt y u z z1 z2 e1 z3 e2=>cY (xb u z z3 e2) (nx t y z1 z2 e1)
 have ha:∀ y,b[j-1]?=some y->∀ u z,u<n->a[u]?=some z->r z<=r y:=λy e1 u z h1 e2=>by
  rw [e] at e1;cases e1;have:=n2 u z (aQ _) (by lia) e2
  simpa [Bv] using this
 by_cases d:i-n>0
 ·rw [if_pos d]
  by_cases c1:n=0
  ·rw [if_pos (by simpa using c1)];exact bg ⟨h0',JA.told (Fh.dn g2 (by lia) j1 (.inl c1))⟩
  ·rw [if_neg (by simpa using c1)];exact TL hc T h0' ⟨g2,by lia,by lia,j0,j1⟩ (by rw [pJ];lia) ha
 ·rw [if_neg d]
  have:n=i:=by lia
  subst this;exact TL hc T h0' ⟨g,i0,i1,j0,j1⟩ (by lia) ha
theorem pw_of (h:St r a 0 a.size):a.toList.Pairwise λx y=>r x<=r y:=iA.mpr λi j hi hj hij=>h i j _ _ (aQ _) (kx hij) (by simpa using hj) (by simp) (by simp)
theorem w_hi (hc:FP prog w A s κ D r) (T:Wl r D a b) (h0:st=aZ κ xs pd g none) (ha:0<a.size) (hb:0<b.size) (hl:∀ x y,b[b.size-1]?=some x->a[a.size-1]?=some y->r x<=r y) {Q:Array aS->dD->Prop}
  (h:∀ q st',Sm κ xs pd st'->F r (a.toList++b.toList) q->Q q st'):vp (aM prog w) A E s (Bg a b) Q st:=by
 have h:∀ q st',Sm κ xs pd st'->Fh r (a.toList++b.toList) q->Q q st':=λq st' w1 w2=>h q st' w1 (by
  unfold Fh F at w2;refine ⟨?_,?_,.nil,.nil,λ_ _ _ z=>nomatch z⟩
  ·have:=w2.pm;simp at this ⊢;exact (AD _).symm.trans this
  ·have:=List.pairwise_reverse.mp (by simpa using w2.so)
   exact this.imp λz=>by unfold ng at z;lia)
 rw [X0];refine aR (Hg (jf ⟨rfl,?_⟩));obtain ⟨x,e⟩:=fV (a:=b) (i:=b.size-1) (by lia);obtain ⟨y,f⟩:=fV (a:=a) (i:=a.size-1) (by lia);refine aR (mX f ?_)
 have g0:J (ng r) (a.toList++b.toList) b.reverse a.reverse #[] (b.size-b.size) (a.size-a.size):=⟨by simpa using (AD _).append (AD _) |>.trans fH,mR,by simpa using pw_of T.two.sa,by simpa using pw_of T.two.sb,λ_ z=>nomatch z⟩
 have g:=g0.pA T.two ha (ar _) f λu z h1 e1=>cY (T.sb _ _ _ _ (aQ _) (by lia) (by lia) e1 e) (hl x y e f);have g:J (ng r) (a.toList++b.toList) b.reverse a.reverse #[y] (b.size-b.size) (a.size-(a.size-1)):=g
 by_cases c1:a.size-1=0
 ·rw [if_pos (by simpa using c1)];exact bg (h _ _ ⟨_,h0⟩ (Fh.dn g (by lia) (ar _) (.inl c1)))
 ·rw [if_neg (by simpa using c1)]
  by_cases c2:b.size=1
  ·rw [if_pos (by simpa using c2)];exact bg (h _ _ ⟨_,h0⟩ (Fh.fs T.two g (by lia) (ar _) c2))
  ·rw [if_neg (by simpa using c2)]
   refine TJ (Fq:=Fh r (a.toList++b.toList)) (Jv:=Jh r (a.toList++b.toList) a b) (sz:=λ_ _ o=>o.size) (λmg st o i j Q w1 w2 w3=>X1 hc (by obtain ⟨_,rfl⟩:=w1;rfl) T w2 λu q=>w3 u q.1 q.2) (λk st u w1 w2=>?_) (λi j o q=>by
    have:=q.jj.len (by simp) (by simp) (by simp;lia);have:=q.i0;have:=q.i1;have:=q.j0;have:=q.j1
    lia) ⟨_,h0⟩ ⟨g,by lia,by lia,by lia,by lia⟩ h
   have e:hiG a b k u=Pw a b u (if u.2.2.2.2.1>1 then u.2.2.2.2.1-1 else u.2.2.2.2.1):=by unfold hiG;split<;>rfl
   rw [e]
   refine mM (X2 hc T w1 w2) λv st2 q=>⟨q.1,?_⟩
   have q:=q.2
   cases v with
   | done v=>exact q
   | yield v=>exact q
end
end Sy
namespace Sy
open PySem PySem.W PyProof.Rows
abbrev C1:=Option (Option Nat)×Nat
def So (lo:Nat) (_:Nat) (z:C1):SM (ForInStep C1):=do
 match ← ltAt' (lo+z.2) (lo+z.2-1) with
 | some c=>if c=true then pure (.done (none,z.2)) else pure (.yield (none,z.2+1))
 | _=>pure (.done (some none,z.2))
def tl (lo n nrem:Nat):SM (Option Nat):=do
 CU lo (lo+n)
 let z ← forIn [n:nrem] ((none,n):C1) (So lo)
 (match z.1 with
 | some r=>pure r
 | none=>pure (some z.2))
def X3 (lo:Nat) (_:Nat) (z:TG):SM (ForInStep TG):=do
 match ← ltAt' (lo+z.2.1) (lo+z.2.1-1) with
 | some c=>(if c=true then (if z.2.2>0 then (do
    CU (lo+z.2.1-(z.2.2+1)) (lo+z.2.1)
    pure (.yield (none,z.2.1+1,0))) else pure (.yield (none,z.2.1+1,0)))
  else (do
   match ← ltAt' (lo+z.2.1-1) (lo+z.2.1) with
   | some d=>if d=true then pure (.done (none,z.2)) else pure (.yield (none,z.2.1+1,z.2.2+1))
   | _=>pure (.done (some none,z.2))))
 | _=>pure (.done (some none,z.2))
def Zh (lo n nrem:Nat):SM (Option Nat):=do
 liftM (Em "list.sort.descending-run")
 let z ← forIn [n+1:nrem] ((none,n+1,0):TG) (X3 lo)
 (match z.1 with
 | some r=>pure r
 | none=>if z.2.2>0 then (do
   CU (lo+z.2.1-(z.2.2+1)) (lo+z.2.1)
   tl lo z.2.1 nrem) else tl lo z.2.1 nrem)
theorem Px (lo nrem:Nat):countRun' lo nrem=(do
  let z ← forIn [1:nrem] ((none,1):C1) (So lo)
  (match z.1 with
  | some r=>pure r
  | none=>if (z.2 == nrem)=true then pure (some z.2) else if z.2>1 then (do
    match ← ltAt' lo (lo+z.2-1) with
    | some c=>if c=true then pure (some z.2) else (do
     CU lo (lo+z.2)
     Zh lo z.2 nrem)
    | _=>pure none) else Zh lo z.2 nrem)):=by kernel_rfl
section
variable {prog:aY}{w:bH}{A:bN}{E:ai->ak->Prop}{s:ak}{κ:jo} {D:aS->Prop}{r:aS->Int}{st:dD}{xs ys a₀:Array aS} {pd:Array (Nat×Nat×Nat)}{i j lo hi n m q g nrem:Nat}
def K (r:aS->Int) (xs:Array aS) (i:Nat):Int:=((xs[i]?).map r).getD 0
theorem Sq {i:Nat}{x:aS}(e:xs[i]?=some x):K r xs i=r x:=by unfold K;rw [e];rfl
theorem Km {xs ys:Array aS}{i j:Nat}(h:xs[i]?=ys[j]?):K r xs i=K r ys j:=by unfold K;rw [h]
structure Bs (D:aS->Prop) (a₀:Array aS) (lo:Nat) (xs:Array aS):Prop where
 pm:xs.Perm a₀
 dd:∀ x∈a₀.toList,D x
 ah:∀ t,t<lo->xs[t]?=a₀[t]?
theorem Bs.size (h:Bs D a₀ lo xs):xs.size=a₀.size:=h.pm.size_eq
theorem Bs.d (h:Bs D a₀ lo xs) {i:Nat}{x:aS}(e:xs[i]?=some x):D x:=by
 obtain ⟨h1,rfl⟩:=cC.mp e;exact h.dd _ ((fh.mp h.pm).mem_iff.mp (by simp))
theorem Bs.rev (h:Bs D a₀ lo xs) (hi:lo<=i) (hj:j<=xs.size):Bs D a₀ lo (mirror xs i j ((j-i)/2)) :=
 ⟨(mirror_perm _ _ _ _).trans h.pm,h.dd,λt ht=>by rw [W8 hj,if_neg (by lia)];exact h.ah t ht⟩
theorem Py (hc:FP prog w A s κ D r) (h:Bs D a₀ lo xs) {Q:Option Bool->dD->Prop}(hi:i<xs.size) (hj:j<xs.size) (hq:Q (some (decide (K r xs i<K r xs j))) (aZ κ xs pd g none)):vp (aM prog w) A E s (ltAt' i j) Q (aZ κ xs pd g none):=by
 obtain ⟨x,e⟩:=fV hi;obtain ⟨y,f⟩:=fV hj;rw [Sq e,Sq f] at hq;rw [ltAt'_eq];exact aR (qe (aR (mX e (aR (mX f (w_lt hc rfl (h.d e) (h.d f) hq))))))
theorem Pz (hj:j<=xs.size) (t:Nat):K r (mirror xs i j ((j-i)/2)) t=if i<=t/\t<j then K r xs (i+j-1-t) else K r xs t:=by
 have e:=W8 (i:=i) hj t
 split
 ·rename_i h;rw [if_pos h] at e;exact Km e
 ·rename_i h;rw [if_neg h] at e;exact Km e
def Up (r:aS->Int) (xs:Array aS) (lo hi:Nat):Prop:=∀ t u,lo<=t->t<=u->u<hi->K r xs t<=K r xs u
def Dn (r:aS->Int) (xs:Array aS) (lo hi:Nat):Prop:=∀ t u,lo<=t->t<=u->u<hi->K r xs u<=K r xs t
theorem Up.next (h:Up r xs lo (lo+n)) (hn:0<n) (hl:K r xs (lo+n-1)<=K r xs (lo+n)):Up r xs lo (lo+(n+1)):=λt u h1 h2 h3=>by
 by_cases c:u<lo+n
 ·exact h t u h1 h2 c
 ·have:u=lo+n:=by lia
  subst this
  by_cases d:t=lo+n
  ·subst d;exact nh _
  ·exact cY (h t _ h1 (by lia) (by lia)) hl
theorem Dn.next (h:Dn r xs lo (lo+n)) (hn:0<n) (hl:K r xs (lo+n)<=K r xs (lo+n-1)):Dn r xs lo (lo+(n+1)):=λt u h1 h2 h3=>by
 by_cases c:u<lo+n
 ·exact h t u h1 h2 c
 ·have:u=lo+n:=by lia
  subst this
  by_cases d:t=lo+n
  ·subst d;exact nh _
  ·exact cY hl (h t _ h1 (by lia) (by lia))
theorem Kn (hj:j<=xs.size) (h:∀ t,i<=t->t<j->K r xs t=K r xs (j-1)) (t:Nat):K r (mirror xs i j ((j-i)/2)) t=K r xs t:=by
 rw [Pz hj]
 split
 ·rw [h _ (by lia) (by lia),h t (by lia) (by lia)]
 ·rfl
theorem TM (hc:FP prog w A s κ D r) (h:Bs D a₀ lo xs) (hz:lo+nrem<=xs.size) (h1:1<=n) (hn:n<=nrem) (hu:Up r xs lo (lo+n)) {Q:C1->dD->Prop}
  (hq:∀ m,n<=m->m<=nrem->Up r xs lo (lo+m)->(m<nrem->K r xs (lo+m)<K r xs (lo+m-1))->Q (none,m) (aZ κ xs pd g none)):vp (aM prog w) A E s (forIn [n:nrem] ((none,n):C1) (So lo)) Q (aZ κ xs pd g none):=by
 refine fF (I:=λx c st'=>st'=aZ κ xs pd g none/\c=(none,x)/\Up r xs lo (lo+x)) ?_ ?_ ⟨rfl,rfl,hu⟩
 ·rintro x c st' a1 a2 ⟨rfl,rfl,a3⟩;unfold So;refine aR (Py hc h (by dsimp only;lia) (by dsimp only;lia) ?_);dsimp only
  by_cases c:K r xs (lo+x)<K r xs (lo+x-1)
  ·rw [decide_eq_true c,if_pos rfl];exact bg (hq x a1 (by lia) a3 λ_=>c)
  ·rw [decide_eq_false c,if_neg (by simp)];exact bg ⟨rfl,rfl,a3.next (by lia) (mL.mp c)⟩
 ·rintro c st' ⟨rfl,rfl,a3⟩
  have e:max n nrem=nrem:=by lia
  rw [e] at a3 ⊢;exact hq nrem hn (ar _) a3 λz=>absurd z (by lia)
theorem X4 (hc:FP prog w A s κ D r) (h:Bs D a₀ lo xs) (hz:lo+nrem<=xs.size) (h1:1<=n) (hn:n<=nrem) (hd:Dn r xs lo (lo+n)) {Q:Option Nat->dD->Prop}
  (hq:∀ m ys,1<=m->m<=nrem->Bs D a₀ lo ys->Up r ys lo (lo+m)->Q (some m) (aZ κ ys pd g none)):vp (aM prog w) A E s (tl lo n nrem) Q (aZ κ xs pd g none):=by
 unfold tl;rw [vm];refine aR (iC ?_);have h':=h.rev (i:=lo) (j:=lo+n) (ar _) (by lia);refine aR (TM hc h' (by rw [WL];exact hz) h1 hn (λt u a1 a2 a3=>?_) λm b1 b2 b3 _=>bg (hq m _ (by lia) b2 h' b3))
 show K r (mirror xs _ _ _) t<=K r (mirror xs _ _ _) u
 rw [Pz (by lia),Pz (by lia),if_pos (by lia),if_pos (by lia)];exact hd _ _ (by lia) (by lia) (by lia)
theorem TN (hc:FP prog w A s κ D r) (h:Bs D a₀ lo xs) (hz:lo+nrem<=xs.size) (hn:n+1<=nrem) (hd:Dn r xs lo (lo+(n+1))) {Q:Option Nat->dD->Prop}
  (hq:∀ m ys,1<=m->m<=nrem->Bs D a₀ lo ys->Up r ys lo (lo+m)->Q (some m) (aZ κ ys pd g none)):vp (aM prog w) A E s (Zh lo n nrem) Q (aZ κ xs pd g none):=by
 unfold Zh;refine aR (Hg (jf ⟨rfl,?_⟩));have hs:=h.size
 refine aR (mM (fF (I:=λx c st'=>∃ ys e,st'=aZ κ ys pd g none/\c=(none,x,e)/\Bs D a₀ lo ys/\Dn r ys lo (lo+x)/\e+1<=x/\∀ t,lo+x-(e+1)<=t->t<lo+x->K r ys t=K r ys (lo+x-1))
  (Q:=λc st'=>∃ x ys e,n+1<=x/\x<=nrem/\st'=aZ κ ys pd g none/\c=(none,x,e)/\Bs D a₀ lo ys/\Dn r ys lo (lo+x)/\e+1<=x/\∀ t,lo+x-(e+1)<=t->t<lo+x->K r ys t=K r ys (lo+x-1)) ?_ ?_ ⟨xs,0,rfl,rfl,h,hd,by lia,λt _ _=>by congr 1;lia⟩) ?_)
 ·rintro x c st' a1 a2 ⟨ys,e,rfl,rfl,b1,b2,b3,b4⟩;have hy:=b1.size;unfold X3;refine aR (Py hc b1 (by dsimp only;lia) (by dsimp only;lia) ?_);dsimp only
  by_cases c:K r ys (lo+x)<K r ys (lo+x-1)
  ·rw [decide_eq_true c,if_pos rfl];have d2:=b2.next (by lia) (fZ c)
   by_cases d:e>0
   ·rw [if_pos d,vm];have sm:=Kn (r:=r) (xs:=ys) (by lia) b4;refine aR (iC (bg ⟨_,0,rfl,rfl,b1.rev (i:=lo+x-(e+1)) (j:=lo+x) (by lia) (by lia),λt u z1 z2 z3=>?_,by lia,λt _ _=>by congr 1;lia⟩));rw [sm,sm];exact d2 t u z1 z2 z3
   ·rw [if_neg d];exact bg ⟨ys,0,rfl,rfl,b1,d2,by lia,λt _ _=>by congr 1;lia⟩
  ·rw [decide_eq_false c,if_neg (by simp)];refine aR (Py hc b1 (by lia) (by lia) ?_);dsimp only
   by_cases d:K r ys (lo+x-1)<K r ys (lo+x)
   ·rw [decide_eq_true d,if_pos rfl];exact bg ⟨x,ys,e,a1,by lia,rfl,rfl,b1,b2,b3,b4⟩
   ·rw [decide_eq_false d,if_neg (by simp)];refine bg ⟨ys,e+1,rfl,rfl,b1,b2.next (by lia) (by lia),by lia,λt z1 z2=>?_⟩
    have e1:lo+(x+1)-1=lo+x:=by lia
    rw [e1]
    by_cases f:t=lo+x
    ·rw [f]
    ·rw [b4 t (by lia) (by lia)];lia
 ·rintro c st' ⟨ys,e,rfl,rfl,b1,b2,b3,b4⟩
  have e1:max (n+1) nrem=nrem:=by lia
  rw [e1] at b2 b3 b4 ⊢;exact ⟨nrem,ys,e,hn,ar _,rfl,rfl,b1,b2,b3,b4⟩
 ·rintro c st' ⟨x,ys,e,a1,a2,rfl,rfl,b1,b2,b3,b4⟩;have hy:=b1.size;dsimp only
  by_cases d:e>0
  ·rw [if_pos d,vm];have sm:=Kn (r:=r) (xs:=ys) (by lia) b4;refine aR (iC (X4 hc (b1.rev (i:=lo+x-(e+1)) (j:=lo+x) (by lia) (by lia)) (by rw [WL];lia) (by lia) a2 (λt u z1 z2 z3=>?_) hq));rw [sm,sm];exact b2 t u z1 z2 z3
  ·rw [if_neg d];exact X4 hc b1 (by lia) (by lia) a2 b2 hq
theorem w_count (hc:FP prog w A s κ D r) (h:Bs D a₀ lo xs) (hz:lo+nrem<=xs.size) (h1:1<=nrem) {Q:Option Nat->dD->Prop}
  (hq:∀ m ys,1<=m->m<=nrem->Bs D a₀ lo ys->Up r ys lo (lo+m)->Q (some m) (aZ κ ys pd g none)):vp (aM prog w) A E s (countRun' lo nrem) Q (aZ κ xs pd g none):=by
 rw [Px]
 refine aR (TM hc h hz (ar 1) h1 (λt u a1 a2 a3=>by
  have:t=u:=by lia
  subst this;exact nh _) λm b1 b2 b3 b4=>?_)
 dsimp only
 by_cases e:m=nrem
 ·rw [if_pos (by simpa using e)];exact bg (hq m xs b1 b2 h b3)
 ·rw [if_neg (by simpa using e)];have b4:=b4 (by lia)
  by_cases c:m>1
  ·rw [if_pos c];refine aR (Py hc h (by lia) (by lia) ?_);dsimp only
   by_cases d:K r xs lo<K r xs (lo+m-1)
   ·rw [decide_eq_true d,if_pos rfl];exact bg (hq m xs b1 b2 h b3)
   ·rw [decide_eq_false d,if_neg (by simp),vm]
    have al:∀ t,lo<=t->t<lo+m->K r xs t=K r xs (lo+m-1):=λt z1 z2=>by
     have:=b3 lo t (ar _) z1 z2;have:=b3 t (lo+m-1) z1 (by lia) (by lia);lia
    have sm:=Kn (r:=r) (xs:=xs) (by lia) al
    have dn:Dn r xs lo (lo+m):=λt u z1 z2 z3=>by rw [al t z1 (by lia),al u (by lia) z3];exact nh _
    refine aR (iC (TN hc (h.rev (i:=lo) (j:=lo+m) (ar _) (by lia)) (by rw [WL];lia) (by lia) (λt u z1 z2 z3=>?_) hq));rw [sm,sm];exact dn.next (by lia) (fZ b4) t u z1 z2 z3
  ·rw [if_neg c]
   have:m=1:=by lia
   subst this
   exact TN hc h hz (by lia) (Dn.next (λt u z1 z2 z3=>by
    have:t=u:=by lia
    subst this;exact nh _) (by lia) (fZ b4)) hq
end
end Sy
namespace Sy
open PySem PySem.W PyProof.Rows
def plS (lo k:Nat) (_:Nat) (z:Option Bool×Nat×Nat):SM (ForInStep (Option Bool×Nat×Nat)) :=
 if z.2.1>=z.2.2 then pure (.done (none,z.2)) else do
  match ← ltAt' (lo+k) (lo+(z.2.1+z.2.2)/2) with
  | some c=>if c=true then pure (.yield (none,z.2.1,(z.2.1+z.2.2)/2)) else pure (.yield (none,(z.2.1+z.2.2)/2+1,z.2.2))
  | _=>pure (.done (some false,z.2))
def biS (lo:Nat) (k:Nat) (_:Option Bool×Unit):SM (ForInStep (Option Bool×Unit)):=do
 let z ← forIn [0:k] ((none,0,k):Option Bool×Nat×Nat) (plS lo k)
 (match z.1 with
 | some r=>pure (.done (some r,()))
 | none=>do
  moveDown' (lo+k) (lo+z.2.1)
  pure (.yield (none,())))
theorem V0 (lo n ok:Nat):WM lo n ok=(do
  let z ← forIn [max ok 1:n] ((none,()):Option Bool×Unit) (biS lo)
  (match z.1 with
  | some r=>pure r
  | none=>pure true)):=by kernel_rfl
section
variable {prog:aY}{w:bH}{A:bN}{E:ai->ak->Prop}{s:ak}{κ:jo} {D:aS->Prop}{r:aS->Int}{st:dD}{xs ys a₀:Array aS} {pd:Array (Nat×Nat×Nat)}{i j lo hi n m q g nrem:Nat}
theorem TQ {x l:Nat}(hx:x<xs.size) (hl:l<=x) (i:Nat):K r (bubble xs x (x-l)) i=if i=l then K r xs x else if l<i/\i<=x then K r xs (i-1) else K r xs i:=by
 have e:=getElem?_bubble hx (x-l) (by lia) i;rw [show x-(x-l)=l by lia] at e
 by_cases h1:i=l
 ·rw [if_pos h1] at e ⊢;exact Km e
 ·rw [if_neg h1] at e ⊢
  by_cases h2:l<i/\i<=x
  ·rw [if_pos h2] at e ⊢;exact Km e
  ·rw [if_neg h2] at e ⊢;exact Km e
theorem PB (hc:FP prog w A s κ D r) (h:Bs D a₀ lo xs) (hz:lo+n<=xs.size) (h1:1<=m) (hm:m<=n) (hu:Up r xs lo (lo+m)) {Q:Bool->dD->Prop}
  (hq:∀ ys,Bs D a₀ lo ys->Up r ys lo (lo+n)->Q true (aZ κ ys pd g none)):vp (aM prog w) A E s (WM lo n m) Q (aZ κ xs pd g none):=by
 rw [V0,show max m 1=m by lia];have hs:=h.size;refine aR (mM (fF (I:=λk c st'=>c.1=none/\∃ ys,st'=aZ κ ys pd g none/\Bs D a₀ lo ys/\Up r ys lo (lo+k)) (Q:=λc st'=>c.1=none/\∃ ys,st'=aZ κ ys pd g none/\Bs D a₀ lo ys/\Up r ys lo (lo+n)) ?_ ?_ ⟨rfl,xs,rfl,h,hu⟩) ?_)
 ·rintro k c st' a1 a2 ⟨_,ys,rfl,b1,b2⟩;have hy:=b1.size;unfold biS
  refine aR (mM (fF (I:=λx z st'=>st'=aZ κ ys pd g none/\z.1=none/\z.2.1<=z.2.2/\z.2.2<=k/\(∀ t,lo<=t->t<lo+z.2.1->K r ys t<=K r ys (lo+k))/\(∀ t,lo+z.2.2<=t->t<lo+k->K r ys (lo+k)<=K r ys t)/\z.2.2+x<=z.2.1+k)
   (Q:=λz st'=>st'=aZ κ ys pd g none/\z.1=none/\z.2.1<=k/\(∀ t,lo<=t->t<lo+z.2.1->K r ys t<=K r ys (lo+k))/\∀ t,lo+z.2.1<=t->t<lo+k->K r ys (lo+k)<=K r ys t) ?_ ?_ ⟨rfl,rfl,aQ _,ar _,λt z1 z2=>absurd z2 (by dsimp only;lia),λt z1 z2=>absurd z2 (by dsimp only at z1;lia),by dsimp only;lia⟩) ?_)
  ·rintro x ⟨z,l,u⟩ st' _ _ ⟨rfl,rfl,c1,c2,c3,c4,c5⟩;dsimp only at c1 c2 c3 c4 c5;unfold plS;dsimp only
   by_cases d:l>=u
   ·rw [if_pos d]
    have:l=u:=by lia
    subst this;exact bg ⟨rfl,rfl,c2,c3,c4⟩
   ·rw [if_neg d];refine aR (Py hc b1 (by lia) (by lia) ?_);dsimp only
    by_cases f:K r ys (lo+k)<K r ys (lo+(l+u)/2)
    ·rw [decide_eq_true f,if_pos rfl];exact bg ⟨rfl,rfl,by dsimp only;lia,by dsimp only;lia,c3,λt z1 z2=>cY (fZ f) (b2 _ _ (by lia) z1 z2),by dsimp only;lia⟩
    ·rw [decide_eq_false f,if_neg (by simp)];exact bg ⟨rfl,rfl,by dsimp only;lia,c2,λt z1 z2=>cY (b2 _ (lo+(l+u)/2) z1 (by dsimp only at z2;lia) (by lia)) (mL.mp f),c4,by dsimp only;lia⟩
  ·rintro ⟨z,l,u⟩ st' ⟨rfl,rfl,c1,c2,c3,c4,c5⟩;dsimp only at c1 c2 c3 c4 c5
   have:l=u:=by lia
   subst this;exact ⟨rfl,rfl,c2,c3,c4⟩
  ·rintro ⟨z,l,u⟩ st' ⟨rfl,rfl,c2,c3,c4⟩;dsimp only at c2 c3 c4 ⊢;rw [moveDown'_eq];refine aR (iC (bg ⟨rfl,_,rfl,⟨(bubble_perm _ _ _).trans b1.pm,b1.dd,λt ht=>?_⟩,λt v z1 z2 z3=>?_⟩))
   ·have e:=getElem?_bubble (xs:=ys) (src:=lo+k) (by lia) (lo+k-(lo+l)) (by lia) t
    show (bubble ys _ _)[t]?=_
    rw [e,if_neg (by lia),if_neg (by lia)];exact b1.ah t ht
   ·show K r (bubble ys _ _) t<=K r (bubble ys _ _) v
    rw [TQ (by lia) (by lia),TQ (by lia) (by lia)]
    by_cases d1:t=lo+l
    ·rw [if_pos d1]
     by_cases d2:v=lo+l
     ·rw [if_pos d2];exact nh _
     ·rw [if_neg d2,if_pos (by lia)];exact c4 _ (by lia) (by lia)
    ·rw [if_neg d1]
     by_cases d2:v=lo+l
     ·rw [if_pos d2,if_neg (by lia)];exact c3 t z1 (by lia)
     ·rw [if_neg d2]
      by_cases d3:lo+l<t
      ·rw [if_pos (by lia),if_pos (by lia)];exact b2 _ _ (by lia) (by lia) (by lia)
      ·rw [if_neg (by lia)]
       by_cases d4:lo+l<v
       ·rw [if_pos (by lia)];exact b2 _ _ (by lia) (by lia) (by lia)
       ·rw [if_neg (by lia)];exact b2 _ _ (by lia) (by lia) (by lia)
 ·rintro c st' ⟨e,ys,rfl,b1,b2⟩;rw [show max m n=n by lia] at b2;exact ⟨e,ys,rfl,b1,b2⟩
 ·rintro ⟨c,u⟩ st' ⟨e,ys,rfl,b1,b2⟩;cases e;exact bg (hq ys b1 b2)
end
end Sy
namespace Sy
open PySem PySem.W PyProof.Rows
def PD (i:Nat) (q:Array aS) (xs:Array aS):Array aS:=q.toList.zipIdx.foldl (λa x=>match x with|(p,j)=>a.setIfInBounds (i+j) p) xs
def Sr (i:Nat) (q:Array aS):SM Bool:=do
 modify λt=>aZ (kindOf t) (PD i q (mK t)) (cK t) (gallopOf t) (iU t)
 let t ← get
 pure (iU t).isNone
def Zi (xs:Array aS) (sa na sb nb:Nat):SM Bool:=do
 match ← nG false (← l9 xs sb) xs sa na 0 with
 | some k=>(if (na-k == 0)=true then pure true else (do
   match ← nG true (← l9 xs (sa+k+(na-k)-1)) xs sb nb (nb-1) with
   | some m=>(if (m == 0)=true then pure true else if na-k<=m then (do
     let q ← Be (xs.extract (sa+k) sb) (xs.extract sb (sb+m))
     Sr (sa+k) q) else (do
     let q ← Bg (xs.extract (sa+k) sb) (xs.extract sb (sb+m))
     Sr (sa+k) q))
   | _=>pure false))
 | _=>pure false
theorem X5 (i:Nat):WN i=(do
  let t ← get
  match ((cK t)[i]?,(cK t)[i+1]?) with
  | (some (sa,na,pw),some (sb,nb,_))=>(do
   set (aZ (kindOf t) (mK t) (((cK t).setIfInBounds i (sa,na+nb,pw)).eraseIdxIfInBounds (i+1)) (gallopOf t) (iU t))
   Zi (mK t) sa na sb nb)
  | _=>liftM (unsupported "internal:list.sort.pending")):=by kernel_rfl
theorem PF (i:Nat):∀ (l:List aS) (o:Nat) (xs:Array aS),i+o+l.length<=xs.size ->
  ((l.zipIdx o).foldl (λa x=>match x with|(p,j)=>a.setIfInBounds (i+j) p) xs).toList=xs.toList.take (i+o)++l++xs.toList.drop (i+o+l.length)
 | [],o,xs,_=>by simp
 | p::l,o,xs,h=>by
  rw [List.zipIdx_cons,List.foldl_cons];simp only [bT] at h;rw [PF i l (o+1) _ (by simp;lia)]
  have hl:i+o<xs.toList.length:=by simp;lia
  simp only [Array.toList_setIfInBounds,bT];rw [show i+(o+1)=i+o+1 by lia,dI,List.take_set_of_le (ar _),ji hl,List.drop_set_of_lt (by lia),show i+o+1+l.length=i+o+(l.length+1) by lia];simp
theorem V1 {i:Nat}{q xs:Array aS}(h:i+q.size<=xs.size):(PD i q xs).toList=xs.toList.take i++q.toList++xs.toList.drop (i+q.size):=by
 exact PF i q.toList 0 xs (by simpa using h)
section
variable {prog:aY}{w:bH}{A:bN}{E:ai->ak->Prop}{s:ak}{κ:jo} {D:aS->Prop}{r:aS->Int}{st:dD}{xs ys a₀:Array aS} {pd:Array (Nat×Nat×Nat)}{i j lo hi n m k q g pw nrem:Nat}
theorem X6 {st':dD}{Q:PUnit->dD->Prop}(h:Q ⟨⟩ st'):vp (aM prog w) A E s (set st':SM PUnit) Q st:=iC (f:=λ_=>st') h
theorem lV {t:Nat}{x:aS}(e:(xs.extract i j)[t]?=some x):i+t<j/\i+t<xs.size/\xs[i+t]?=some x:=by
 have h:=rj e;simp at h
 have e2:(xs.extract i j)[t]?=xs[i+t]?:=by rw [Array.getElem?_extract,if_pos (by lia)]
 exact ⟨by lia,by lia,by rw [← e2,e]⟩
theorem TR (h:St r xs i j):(xs.extract i j).toList.Pairwise λx y=>r x<=r y:=pw_of λt u x y _ h2 _ e f=>h _ _ x y (hW _ _) (by lia) (lV f).1 (lV e).2.2 (lV f).2.2
theorem St.whole {n1:Nat}(hn:n1<=xs.size) (h:∀ t u x y,t<n1->n1<=u->xs[t]?=some x->xs[u]?=some y->r x<=r y) (h1:St r xs 0 n1) (h2:St r xs n1 xs.size):St r xs 0 xs.size:=λt u x y a1 a2 a3 e f=>by
 by_cases c:u<n1
 ·exact h1 t u x y a1 a2 c e f
 ·by_cases d:t<n1
  ·exact h t u x y d (by lia) e f
  ·exact h2 t u x y (by lia) a2 a3 e f
theorem St.YL (h:xs.toList.Pairwise λx y=>r x<=r y):St r xs 0 xs.size:=λt u x y _ a2 a3 e f=>by
 obtain ⟨h1,rfl⟩:=cC.mp e;obtain ⟨h2,rfl⟩:=cC.mp f
 by_cases c:t=u
 ·subst c;exact nh _
 ·have:=iA.mp h t u (by simpa using h1) (by simpa using h2) (by lia)
  simpa using this
theorem X7 {q:Array aS}{Q:Bool->dD->Prop}(h:∀ g',Q true (aZ κ (PD i q xs) pd g' none)) (hs:Sm κ xs pd st):vp (aM prog w) A E s (Sr i q) Q st:=by
 obtain ⟨g',rfl⟩:=hs;exact aR (iC (aR (qe (bg (h g')))))
theorem X8 {n1 n2:Nat}(hc:FP prog w A s κ D r) (h:Bs D a₀ 0 xs) (h1:0<n1) (h2:0<n2) (hn:n1+n2=xs.size) (s1:St r xs 0 n1) (s2:St r xs n1 xs.size) {Q:Bool->dD->Prop}
  (hq:∀ ys g',Bs D a₀ 0 ys->St r ys 0 ys.size->Q true (aZ κ ys pd g' none)):vp (aM prog w) A E s (Zi xs 0 n1 n1 n2) Q (aZ κ xs pd g none):=by
 obtain ⟨y0,ey⟩:=fV (a:=xs) (i:=n1) (by lia);obtain ⟨x1,ex⟩:=fV (a:=xs) (i:=n1-1) (by lia);unfold Zi;refine aR (mX ey (aR (oG hc rfl (λt x e=>h.d e) (h.d ey) (by lia) (λt u x y z1 z2 z3=>s1 t u x y z1 z2 (by lia)) h1 λk k1 k2 k3=>?_)))
 have k2':∀ t x,t<k->xs[t]?=some x->r x<=r y0:=λt x z e=>by simpa [Bv] using k2 t x (aQ _) (by lia) e
 have k3':∀ t x,k<=t->t<n1->xs[t]?=some x->r y0<r x:=λt x z z' e=>by simpa [Bv] using k3 t x (by lia) (by lia) e
 have yl:∀ t x,n1<=t->xs[t]?=some x->r y0<=r x:=λt x z e=>s2 _ _ _ _ (ar _) z (rj e) ey e;have xl:∀ t x,t<n1->xs[t]?=some x->r x<=r x1:=λt x z e=>s1 _ _ _ _ (aQ _) (by lia) (by lia) e ex;dsimp only
 by_cases c:n1-k=0
 ·rw [if_pos (by simpa using c)];exact bg (hq xs g h (St.whole (n1:=n1) (by lia) (λt u x y z1 z2 e f=>cY (k2' t x (by lia) e) (yl u y z2 f)) s1 s2))
 ·rw [if_neg (by simpa using c)];rw [show 0+k+(n1-k)-1=n1-1 by lia,show 0+k=k by lia];refine aR (mX ex (aR (oG hc rfl (λt x e=>h.d e) (h.d ex) (by lia) (λt u x y z1 z2 z3=>s2 t u x y z1 z2 (by lia)) (by lia) λm m1 m2 m3=>?_)));have m2':∀ t x,n1<=t->t<n1+m->xs[t]?=some x->r x<r x1:=λt x z z' e=>of_decide_eq_true (m2 t x z z' e);have m3':∀ t x,n1+m<=t->xs[t]?=some x->r x1<=r x:=λt x z e=>mL.mp (of_decide_eq_false (m3 t x z (by have:=rj e;lia) e));dsimp only
  by_cases d:m=0
  ·rw [if_pos (by simpa using d)];exact bg (hq xs g h (St.whole (n1:=n1) (by lia) (λt u x y z1 z2 e f=>cY (xl t x z1 e) (m3' u y (by lia) f)) s1 s2))
  ·rw [if_neg (by simpa using d)]
   have sx:(xs.extract k n1).size=n1-k:=by simp;lia
   have sy:(xs.extract n1 (n1+m)).size=m:=by simp;lia
   have fin:∀ q,F r ((xs.extract k n1).toList++(xs.extract n1 (n1+m)).toList) q->∀ st',Sm κ xs pd st'->vp (aM prog w) A E s (Sr k q) Q st':=λq hF st' hS=>by
    have pm:q.toList.Perm ((xs.extract k n1).toList++(xs.extract n1 (n1+m)).toList):=by simpa using hF.pm
    have lq:q.size=n1-k+m:=by have:=pm.length_eq;rw [bu,aK,aK,aK,sx,sy] at this;exact this
    have el:=V1 (i:=k) (q:=q) (xs:=xs) (by lia)
    have tk:xs.toList.take k=(xs.extract 0 k).toList:=by simp
    have dp:xs.toList.drop (k+q.size)=(xs.extract (n1+m) xs.size).toList:=by rw [rh];congr 1;lia
    rw [tk,dp] at el
    have wh:xs.toList=(xs.extract 0 k).toList++((xs.extract k n1).toList++(xs.extract n1 (n1+m)).toList)++(xs.extract (n1+m) xs.size).toList:=by
     have e1:=L9 xs 0 k;have e2:=L9 xs k (n1-k);have e3:=L9 xs n1 m;rw [show k+(n1-k)=n1 by lia] at e2;rw [rh];rw [Nat.zero_add] at e1;rw [di,di,← e3,← e2,← e1,Hq]
    have mq:∀ x∈q.toList,(∃ t,k<=t/\t<n1/\xs[t]?=some x)\/∃ t,n1<=t/\t<n1+m/\xs[t]?=some x:=λx hx=>by
     rcases aN.mp (pm.mem_iff.mp hx) with z|z
     ·obtain ⟨t,a1,a2,_,e⟩:=xS z;exact .inl ⟨t,a1,a2,e⟩
     ·obtain ⟨t,a1,a2,_,e⟩:=xS z;exact .inr ⟨t,a1,a2,e⟩
    refine X7 (λg'=>hq _ g' ⟨fh.mpr ?_,h.dd,λt ht=>absurd ht (by lia)⟩ (St.YL ?_)) hS
    ·rw [el];refine List.Perm.trans ?_ (fh.mp h.pm);rw [wh];exact (pm.append_left _).append_right _
    ·rw [el];refine gf.mpr ⟨gf.mpr ⟨TR λt u x y a1 a2 a3=>s1 t u x y a1 a2 (by lia),hF.so,λx hx y hy=>?_⟩,TR λt u x y a1 a2 a3=>s2 t u x y (by lia) a2 a3,λx hx y hy=>?_⟩
     ·obtain ⟨t,_,a2,_,e⟩:=xS hx
      rcases mq y hy with ⟨u,b1,b2,f⟩|⟨u,b1,b2,f⟩
      ·exact s1 t u x y (aQ _) (by lia) b2 e f
      ·exact cY (k2' t x a2 e) (yl u y b1 f)
     ·obtain ⟨u,b1,b2,_,f⟩:=xS hy
      rcases aN.mp hx with hx|hx
      ·obtain ⟨t,_,a2,_,e⟩:=xS hx;exact cY (k2' t x a2 e) (yl u y (by lia) f)
      ·rcases mq x hx with ⟨t,a1,a2,e⟩|⟨t,a1,a2,e⟩
       ·exact cY (xl t x a2 e) (m3' u y b1 f)
       ·exact s2 t u x y a1 (by lia) b2 e f
   have da:∀ (t:Nat) x,(xs.extract k n1)[t]?=some x->D x:=λt x e=>h.d (lV e).2.2;have db:∀ (t:Nat) x,(xs.extract n1 (n1+m))[t]?=some x->D x:=λt x e=>h.d (lV e).2.2;have sa:St r (xs.extract k n1) 0 (xs.extract k n1).size:=λt u x y _ a2 _ e f=>s1 _ _ x y (aQ _) (by lia) (lV f).1 (lV e).2.2 (lV f).2.2;have sb:St r (xs.extract n1 (n1+m)) 0 (xs.extract n1 (n1+m)).size:=λt u x y _ a2 _ e f=>s2 _ _ x y (hW _ _) (by lia) (lV f).2.1 (lV e).2.2 (lV f).2.2
   have yx:∀ (t u:Nat) x y,(xs.extract k n1)[t]?=some x->(xs.extract n1 (n1+m))[0]?=some y->r y<=r x:=λt u x y e f=>by
    have f:=(lV f).2.2;rw [NT,ey] at f;cases f;exact fZ (k3' _ x (by lia) (lV e).1 (lV e).2.2)
   have xy:∀ (t u:Nat) x y,t+1=(xs.extract k n1).size->(xs.extract k n1)[t]?=some x->(xs.extract n1 (n1+m))[u]?=some y->r y<=r x:=λt u x y z e f=>by
    have e:=(lV e).2.2;rw [sx] at z;rw [show k+t=n1-1 by lia,ex] at e;cases e;exact fZ (m2' _ y (by lia) (lV f).1 (lV f).2.2)
   by_cases f:n1-k<=m
   ·rw [if_pos f];exact aR (w_lo hc ⟨da,db,sa,sb,xy⟩ rfl (by lia) (by lia) (λx y e f=>yx 0 0 y x f e) λq st' w1 w2=>fin q w2 st' w1)
   ·rw [if_neg f];exact aR (w_hi hc ⟨da,db,sa,sb,λu x y e f=>yx u 0 y x f e⟩ rfl (by lia) (by lia) (λx y e f=>xy _ _ y x (by lia) f e) λq st' w1 w2=>fin q w2 st' w1)
end
end Sy
namespace Sy
open PySem PySem.W PyProof.Rows
theorem V2 {n:Nat}(h2:2<=n) (h:n<128):n<=2*sV n n 0/\sV n n 0<=n/\1<=sV n n 0:=by
 obtain ⟨f,rfl⟩:∃ f,n=f+2:=⟨n-2,by lia⟩
 by_cases c:f+2<64
 ·have e:sV (f+1+1) (f+2) 0=f+2+0:=by rw [Te,if_pos c]
  have e:sV (f+2) (f+2) 0=f+2:=e;lia
 ·have e:sV (f+1+1) (f+2) 0=(f+2)/2+max 0 ((f+2)%2):=by rw [Te,if_neg c,Te,if_pos (by lia)]
  have e:sV (f+2) (f+2) 0=(f+2)/2+max 0 ((f+2)%2):=e;lia
abbrev R1:=Option Unit×Nat
abbrev R0:=Option Unit×Unit
def cl1 (pw:Nat) (_:Nat) (_:R0):SM (ForInStep R0):=do
 let t ← get
 match (if (cK t).size>1 then (cK t)[(cK t).size-2]? else none) with
 | some (_,_,old)=>(if old<=pw then pure (.done (none,())) else (do
   let b ← WN ((cK t).size-2)
   if (!b)=true then pure (.done (some (),())) else pure (.yield (none,()))))
 | _=>pure (.done (none,()))
def X9 (N lo n:Nat):SM (ForInStep R1):=do
 let t ← get
 match (cK t).back? with
 | some (s1,n1,_)=>(do
  let z ← forIn [0:N] ((none,()):R0) (cl1 (power' N (2*s1+n1) (2*s1+n1+n1+n) N))
  (match z.1 with
  | some r=>pure (.done (some r,lo))
  | none=>do
   modify λt=>setPending t ((cK t).modify ((cK t).size-1) λx=>(x.1,x.2.1,power' N (2*s1+n1) (2*s1+n1+n1+n) N))
   modify λt=>setPending t ((cK t).push (lo,n,0))
   pure (.yield (none,lo+n))))
 | _=>(do
  modify λt=>setPending t ((cK t).push (lo,n,0))
  pure (.yield (none,lo+n)))
def Nk (N mr:Nat) (_:Nat) (z:R1):SM (ForInStep R1) :=
 if z.2>=N then pure (.done (none,z.2)) else do
  match ← countRun' z.2 (N-z.2) with
  | some f=>(if f<mr then (do
    liftM (Em "list.sort.binary-insertion")
    let b ← WM z.2 (min (N-z.2) mr) f
    if (!b)=true then pure (.done (some (),z.2)) else X9 N z.2 (min (N-z.2) mr)) else X9 N z.2 f)
  | _=>pure (.done (some (),z.2))
def cl2 (_:Nat) (_:R0):SM (ForInStep R0):=do
 let t ← get
 if (cK t).size<=1 then pure (.done (none,())) else (do
  let b ← WN (if (if (cK t).size-2>0 then (cK t)[(cK t).size-2-1]?.map (·.2.1) else none).any (·<((cK t)[(cK t).size-2+1]?.elim 0 (·.2.1))) then (cK t).size-2-1 else (cK t).size-2)
  if (!b)=true then pure (.done (some (),())) else pure (.yield (none,())))
theorem Ss:sortRuns'=(do
  let t ← get
  let z ← forIn [0:(mK t).size] ((none,0):R1) (Nk (mK t).size (sV (mK t).size (mK t).size 0))
  (match z.1 with
  | some r=>pure r
  | none=>do
   let y ← forIn [0:(mK t).size] ((none,()):R0) cl2
   (match y.1 with
   | some r=>pure r
   | none=>pure ()))):=by kernel_rfl
section
variable {prog:aY}{w:bH}{A:bN}{E:ai->ak->Prop}{s:ak}{κ:jo} {D:aS->Prop}{r:aS->Int}{xs ys a₀:Array aS} {pd:Array (Nat×Nat×Nat)}{i j lo hi n m k q g pw nrem N n1:Nat}
theorem Up.st (h:Up r xs i j):St r xs i j:=λt u x y a1 a2 a3 e f=>by have:=h t u a1 a2 a3;rwa [Sq e,Sq f] at this
theorem V3 {Q:ForInStep R1->dD->Prop}(h:Q (.yield (none,lo+n)) (aZ κ xs #[(lo,n,0)] g none)):vp (aM prog w) A E s (X9 N lo n) Q (aZ κ xs #[] g none) :=
 aR (qe (aR (iC (bg h))))
theorem V4 {Q:ForInStep R1->dD->Prop}(h:∀ pw,Q (.yield (none,lo+n)) (aZ κ xs #[(0,n1,pw),(lo,n,0)] g none)):vp (aM prog w) A E s (X9 N lo n) Q (aZ κ xs #[(0,n1,0)] g none):=by
 refine aR (qe ?_)
 show vp _ _ _ _ (_ >>= _) _ _
 refine aR (mM (fF (I:=λ_ c st'=>c=(none,())/\st'=aZ κ xs #[(0,n1,0)] g none) (Q:=λc st'=>c=(none,())/\st'=aZ κ xs #[(0,n1,0)] g none) ?_ (λ_ _ z=>z) ⟨rfl,rfl⟩) ?_)
 ·rintro x c st' _ _ ⟨rfl,rfl⟩;exact aR (qe (bg ⟨rfl,rfl⟩))
 ·rintro c st' ⟨rfl,rfl⟩;exact aR (iC (aR (iC (bg (h _)))))
theorem TU {mr:Nat}(hc:FP prog w A s κ D r) (hD:∀ x∈xs.toList,D x) (h1:lo<N) (hN:N=xs.size) (hm:1<=mr) {Q:ForInStep R1->dD->Prop}{z:R1}(hz:z.2=lo)
  (h:∀ ys m,1<=m->m<=N-lo->min (N-lo) mr<=m->ys.Perm xs->(∀ t,t<lo->ys[t]?=xs[t]?)->Up r ys lo (lo+m)->vp (aM prog w) A E s (X9 N lo m) Q (aZ κ ys pd g none)):vp (aM prog w) A E s (Nk N mr i z) Q (aZ κ xs pd g none):=by
 subst hN hz;unfold Nk;rw [if_neg (by lia)];refine aR (w_count (a₀:=xs) hc ⟨Array.Perm.refl _,hD,λ_ _=>rfl⟩ (by lia) (by lia) λm ys m1 m2 hb hu=>?_);have hy:=hb.size;dsimp only
 by_cases c:m<mr
 ·rw [if_pos c];refine aR (Hg (jf ⟨rfl,?_⟩));refine aR (PB hc hb (by lia) m1 (by lia) hu λzs hb' hu'=>?_);exact h zs _ (by lia) (by lia) (ar _) hb'.pm hb'.ah hu'
 ·rw [if_neg c];exact h ys m m1 m2 (by lia) hb.pm hb.ah hu
theorem w_runs (hc:FP prog w A s κ D r) (hD:∀ x∈a₀.toList,D x) (h2:2<=a₀.size) (h128:a₀.size<128) {Q:Unit->dD->Prop}
  (hq:∀ ys st',mK st'=ys->iU st'=none->ys.Perm a₀->St r ys 0 ys.size->Q () st'):vp (aM prog w) A E s sortRuns' Q (aZ κ a₀ #[] 7 none):=by
 obtain ⟨r1,r2,r3⟩:=V2 h2 h128;rw [Ss];refine aR (qe ?_)
 show vp _ _ _ _ (forIn [0:a₀.size] _ (Nk a₀.size (sV a₀.size a₀.size 0)) >>= _) _ _
 generalize sV a₀.size a₀.size 0=mr at r1 r2 r3;have dp:∀ {ys:Array aS},ys.Perm a₀->∀ x∈ys.toList,D x:=λh x hx=>hD x ((fh.mp h).mem_iff.mp hx)
 refine aR (mM (fF
  (I:=λx c st'=>(x=0/\c=(none,0)/\st'=aZ κ a₀ #[] 7 none)\/(∃ n1 ys,c=(none,n1)/\mr<=n1/\n1<=a₀.size/\(x=1\/n1=a₀.size)/\st'=aZ κ ys #[(0,n1,0)] 7 none/\ys.Perm a₀/\Up r ys 0 n1) \/
   (c=(none,a₀.size)/\∃ n1 pw ys,0<n1/\n1<a₀.size/\st'=aZ κ ys #[(0,n1,pw),(n1,a₀.size-n1,0)] 7 none/\ys.Perm a₀/\Up r ys 0 n1/\Up r ys n1 a₀.size))
  (Q:=λc st'=>c=(none,a₀.size)/\((∃ ys,st'=aZ κ ys #[(0,a₀.size,0)] 7 none/\ys.Perm a₀/\Up r ys 0 a₀.size)\/∃ n1 pw ys,0<n1/\n1<a₀.size/\st'=aZ κ ys #[(0,n1,pw),(n1,a₀.size-n1,0)] 7 none/\ys.Perm a₀/\Up r ys 0 n1/\Up r ys n1 a₀.size)) ?_ ?_ (.inl ⟨rfl,rfl,rfl⟩)) ?_)
 ·rintro x c st' _ hx (⟨rfl,rfl,rfl⟩|⟨n1,ys,rfl,b1,b2,b3,rfl,b5,b6⟩|⟨rfl,b⟩)
  ·refine TU hc hD (lo:=0) (by lia) rfl r3 rfl λys m m1 m2 m3 p1 p2 p3=>V3 (.inr (.inl ⟨m,ys,by simp,by lia,by lia,.inl rfl,rfl,p1,by simpa using p3⟩))
  ·have hy:=b5.size_eq
   by_cases c:n1=a₀.size
   ·unfold Nk;rw [if_pos (by dsimp only;lia)];subst c;exact bg ⟨rfl,.inl ⟨ys,rfl,b5,b6⟩⟩
   ·refine TU hc (dp b5) (lo:=n1) (by lia) hy.symm r3 rfl λzs m m1 m2 m3 p1 p2 p3=>V4 λpw=>.inr (.inr ?_)
    have e:m=a₀.size-n1:=by lia
    subst e;rw [show n1+(a₀.size-n1)=a₀.size by lia] at p3 ⊢;exact ⟨rfl,n1,pw,zs,by lia,by lia,rfl,p1.trans b5,λt u z1 z2 z3=>by rw [Km (p2 t (by lia)),Km (p2 u z3)];exact b6 t u z1 z2 z3,p3⟩
  ·unfold Nk;rw [if_pos (ar _)];exact bg ⟨rfl,.inr b⟩
 ·rintro c st' (⟨hx,_⟩|⟨n1,ys,rfl,b1,b2,b3,b4,b5,b6⟩|⟨rfl,b⟩)
  ·lia
  ·have:n1=a₀.size:=by lia
   subst this;exact ⟨rfl,.inl ⟨ys,b4,b5,b6⟩⟩
  ·exact ⟨rfl,.inr b⟩
 ·rintro c st' ⟨rfl,b⟩
  refine aR (mM (fF (I:=λx c st'=>c=(none,())/\((∃ ys pw g,st'=aZ κ ys #[(0,a₀.size,pw)] g none/\ys.Perm a₀/\St r ys 0 ys.size)\/x=0/\∃ n1 pw ys,0<n1/\n1<a₀.size/\st'=aZ κ ys #[(0,n1,pw),(n1,a₀.size-n1,0)] 7 none/\ys.Perm a₀/\Up r ys 0 n1/\Up r ys n1 a₀.size))
   (Q:=λc st'=>c=(none,())/\∃ ys pw g,st'=aZ κ ys #[(0,a₀.size,pw)] g none/\ys.Perm a₀/\St r ys 0 ys.size) ?_ ?_ ⟨rfl,?_⟩) ?_)
  ·rintro x c st2 _ _ ⟨rfl,⟨ys,pw,g,rfl,b1,b2⟩|⟨rfl,n1,pw,ys,b1,b2,rfl,b4,b5,b6⟩⟩
   ·refine aR (qe ?_);rw [if_pos (show (cK (aZ κ ys #[(0,a₀.size,pw)] g none)).size<=1 from ar 1)];exact bg ⟨rfl,ys,pw,g,rfl,b1,b2⟩
   ·refine aR (qe ?_);rw [if_neg (show ¬ (cK (aZ κ ys #[(0,n1,pw),(n1,a₀.size-n1,0)] 7 none)).size<=1 from λz=>absurd (show 2<=1 from z) (by lia))]
    show vp _ _ _ _ (WN 0 >>= _) _ _
    rw [X5];have hy:=b4.size_eq;refine aR (aR (qe ?_))
    show vp _ _ _ _ (_ >>= _) _ _
    refine aR (X6 ?_)
    have ep:((#[(0,n1,pw),(n1,a₀.size-n1,0)]:Array (Nat×Nat×Nat)).setIfInBounds 0 (0,n1+(a₀.size-n1),pw)).eraseIdxIfInBounds 1=#[(0,a₀.size,pw)]:=by
     rw [show n1+(a₀.size-n1)=a₀.size by lia]
     apply ka.mp
     simp
    show vp _ _ _ _ (Zi ys 0 n1 n1 (a₀.size-n1)) _ (aZ κ ys (((#[(0,n1,pw),(n1,a₀.size-n1,0)]:Array (Nat×Nat×Nat)).setIfInBounds 0 (0,n1+(a₀.size-n1),pw)).eraseIdxIfInBounds 1) 7 none)
    rw [ep];exact X8 hc ⟨b4,hD,λt z=>absurd z (by lia)⟩ b1 (by lia) (by lia) b5.st (by rw [hy];exact b6.st) λzs g' w1 w2=>bg ⟨rfl,.inl ⟨zs,pw,g',rfl,w1.pm,w2⟩⟩
  ·rintro c st2 ⟨e,b|⟨hx,_⟩⟩
   ·exact ⟨e,b⟩
   ·have hx:max 0 a₀.size=0:=hx;lia
  ·rcases b with ⟨ys,e,b1,b2⟩|b
   ·exact .inl ⟨ys,0,7,e,b1,by rw [b1.size_eq];exact b2.st⟩
   ·exact .inr ⟨rfl,b⟩
  ·rintro c st2 ⟨rfl,ys,pw,g,rfl,b1,b2⟩;exact bg (hq ys _ rfl rfl b1 b2)
end
end Sy
namespace Sy
open PySem PySem.W PyProof.Rows
theorem perm_map {α β:Type} {f:α->β}{m l:List β}(h:m.Perm l):∀ us:List α,m=us.map f->∃ us':List α,us'.Perm us/\l=us'.map f:=by
 induction h with
 | nil=>exact λus e=>⟨us,.refl _,e⟩
 | cons x _ ih =>
  intro us e
  match us,e with
  | u::us,e =>
   obtain ⟨e1,e2⟩:=kb e;obtain ⟨us',h1,h2⟩:=ih us e2
   exact ⟨u::us',h1.cons u,by rw [e1,h2];rfl⟩
 | swap x y l =>
  intro us e
  match us,e with
  | u::v::us,e =>
   obtain ⟨e1,e2⟩:=kb e;obtain ⟨e2,e3⟩:=kb e2
   exact ⟨v::u::us,.swap _ _ _,by rw [e1,e2,e3];rfl⟩
 | trans _ _ ih1 ih2 =>
  intro us e;obtain ⟨us1,h1,e1⟩:=ih1 us e;obtain ⟨us2,h2,e2⟩:=ih2 us1 e1;exact ⟨us2,h2.trans h1,e2⟩
section
variable {prog:aY}{w:bH}{A:bN}{E:ai->ak->Prop}{s:ak}{κ:jo} {r:ai->Int}{vs:List ai}
def Ks (prog:aY) (w:bH) (A:bN) (κ:jo) (r:ai->Int) (vs:List ai) (s:ak):Prop :=
 (∀ Q:jo->ak->Prop,Q κ s->aG (aM prog w) A (keyKind' vs.toArray) Q (λ_ _=>False) s)/\∀ x∈vs,∀ y∈vs,∀ Q:Bool->ak->Prop,Q (decide (r x<r y)) s->aG (aM prog w) A (keyLt' κ x y) Q (λ_ _=>False) s
theorem sort_vals {a:af}{n:Nat}{P:JW->ak->Prop}(ho:s.heap.get? a=some (bY "list" vs.toArray n)) (hz:vs.length<128)
  (hk:2<=vs.length->∀ h',(∀ b o,b≠a->s.heap.get? b=some o->h'.get? b=some o)->Ks prog w A κ r vs { s with heap:=h' })
  (h:∀ h' c (out:List ai),(∀ b o,b≠a->s.heap.get? b=some o->h'.get? b=some o)->h'.get? a=some (bY "list" out.toArray c)->out.Perm vs->out.Pairwise (λx y=>r x<=r y)->P (.done (.ret .none)) { s with heap:=h' }) :
  aG (aM prog w) A (ie.«list.sort» ⟨[.ref a],[]⟩) P E s:=by
 have hl:vs.length<=aT:=L2.bM (m:=128) (by lia);rw [list_sort_plain]
 obtain ⟨c1,g1⟩:∃ c1,(s.heap.update a (bO λ_=>#[])).get? a=some (bY "list" #[] c1):=⟨_,lR ho λ_=>#[]⟩
 refine ae (G7 ho rfl (ae (lL ho rfl (ae (JZ g1 rfl (ae (Ah (ae (nV (cq ?_) (aQ _))) hl)))) (by rw [aO];exact hl) (aQ _))));have g6:(((s.heap.update a (bO λ_=>#[])).push (bY "tuple" vs.toArray 0)).push (bY "list" #[] 0)).get? a=some (bY "list" #[] c1):=au _ (au _ g1);have k6:∀ b o,b≠a->s.heap.get? b=some o->(((s.heap.update a (bO λ_=>#[])).push (bY "tuple" vs.toArray 0)).push (bY "list" #[] 0)).get? b=some o:=λb o hb e=>au _ (au _ ((bz _ _ (Ne.symm hb)).trans e))
 show aG (aM prog w) A _ P E { s with heap:=((s.heap.update a (bO λ_=>#[])).push (bY "tuple" vs.toArray 0)).push (bY "list" #[] 0) }
 generalize ((s.heap.update a (bO λ_=>#[])).push (bY "tuple" vs.toArray 0)).push (bY "list" #[] 0)=h6 at g6 k6
 have sn:((vs.toArray.zip vs.toArray).map (·.2))=vs.toArray:=by
  apply ka.mp
  simp;exact UP (ar _)
 have fin:∀ st:dD,iU st=none->∀ out:List ai,(mK st).map (·.2)=out.toArray->out.Perm vs->out.Pairwise (λx y=>r x<=r y)->aG (aM prog w) A (do
   let t:=(← seqEpoch a) != c1
   iz (.ref a) λ_=>(mK st).map (·.2)
   if let some e:=iU st then Em "list.sort.comparison-raised";throw e
   if t then Em "list.sort.modified";raiseError "ValueError" "list modified during sort"
   ret .none) P E { s with heap:=h6 }:=λst hf out eo hp hs=>by
  rw [eo]
  obtain ⟨c7,g7⟩:∃ c7,(h6.update a (bO λ_=>out.toArray)).get? a=some (bY "list" out.toArray c7):=⟨_,lR g6 λ_=>out.toArray⟩
  refine ae (JZ g6 rfl (ae (lL g6 rfl ?_ (aQ _) (by rw [aO,hp.length_eq];exact UL hl))));rw [hf];simp only [bne_self_eq_false,bV,if_false];exact ao (h _ c7 out (λb o hb e=>(bz _ _ (Ne.symm hb)).trans (k6 b o hb e)) g7 hp hs)
 dsimp only
 by_cases h2:vs.length<2
 ·rw [if_pos (by rw [aO];exact h2),if_pos (by rw [aO];exact h2)];refine ae (ao ?_);rw [Tg];refine ae (ao (fin (aZ general' (vs.toArray.zip vs.toArray) #[] 7 none) rfl vs sn (.refl _) ?_))
  match vs,h2 with
  | [],_=>exact .nil
  | [z],_=>exact qK _ _
  | z::w::r,h2=>simp at h2;lia
 ·rw [if_neg (by rw [aO];exact h2),if_neg (by rw [aO];exact h2)];obtain ⟨q1,q2⟩:=hk (by lia) h6 k6;refine ae (dH (q1 (λκ' s'=>κ'=κ/\s'={ s with heap:=h6 }) ⟨rfl,rfl⟩) (λκ' s' e=>?_) λ_ _ x=>x.elim);obtain ⟨rfl,rfl⟩:=e
  have mz:∀ x∈(vs.toArray.zip vs.toArray).toList,x.1∈vs:=λx hx=>by
   rw [CJ] at hx;exact (tK hx).1
  refine ae (dH (w_runs (a₀:=vs.toArray.zip vs.toArray) (D:=λx=>x.1∈vs) (r:=λx=>r x.1) (Q:=λ_ st'=>∃ ys,mK st'=ys/\iU st'=none/\ys.Perm (vs.toArray.zip vs.toArray)/\St (λx=>r x.1) ys 0 ys.size)
   (λx y hx hy Q q=>q2 x.1 hx y.1 hy Q q) mz (by simp;lia) (by simp;lia) λys st' a1 a2 a3 a4=>⟨ys,a1,a2,a3,a4⟩) ?_ λ_ _ x=>x)
  rintro ⟨⟨⟩,st'⟩ s' ⟨rfl,ys,e,hf,hp,hs⟩;have hp':=fh.mp hp
  have self:∀ x∈ys.toList,x.1=x.2:=λx hx=>by
   have:=hp'.mem_iff.mp hx;rw [CJ] at this;exact (mem_zip_self this).1
  refine fin st' hf (ys.toList.map (·.2)) (by rw [e];apply ka.mp;simp) ?_ ?_
  ·have:=hp'.map (·.2);rw [← mf,← mf,sn] at this
   simpa using this
  ·refine dj.mpr ((pw_of hs).imp_of_mem λ{x y} hx hy z=>?_);rw [← self x hx,← self y hy];exact z
theorem sorted_vals {p:af}{Q:ai->ak->Prop}(hz:vs.length<128)
  (hcol:∀ (Q':List ai->ak->Prop),(∀ h' tk,(∀ b o,s.heap.get? b=some o->h'.get? b=some o)->Q' vs { s with heap:=h',toks:=tk })->aG (aM prog w) A.in1 (G9 (.ref p)) Q' E s)
  (hk:2<=vs.length->∀ h' tk,(∀ b o,s.heap.get? b=some o->h'.get? b=some o)->Ks prog w A.in1.in1 κ r vs { s with heap:=h',toks:=tk })
  (h:∀ D c h' tk (out:List ai),(∀ b o,s.heap.get? b=some o->h'.get? b=some o)->s.heap.get? D=none->h'.get? D=some (bY "list" out.toArray c)->out.Perm vs->out.Pairwise (λx y=>r x<=r y)->Q (.ref D) { s with heap:=h',toks:=tk }) :
  aG (aM prog w) A (call (.builtin "sorted") [.ref p]) Q E s:=by
 have hl:vs.length<=aT:=L2.bM (m:=128) (by lia);refine pF J0 Hh Hi (args_sorted1 _) (ae (m:=NZ "sorted" 1 1 _) (ao (ae (hcol _ λh1 tk keep=>ae (nV ?_ hl)))));have g:(h1.push (bY "list" vs.toArray 0)).get? h1.objs.size=some (bY "list" vs.toArray 0):=aI _ rfl;have hb:∀ b o,s.heap.get? b=some o->b≠h1.objs.size:=λb o e=>a9 (aJ (keep b o e));have k2:∀ {h':cb},(∀ b o,b≠h1.objs.size->(h1.push (bY "list" vs.toArray 0)).get? b=some o->h'.get? b=some o)->∀ b o,s.heap.get? b=some o->h'.get? b=some o:=λk b o e=>k b o (hb b o e) (au _ (keep b o e))
 show aG (aM prog w) A.in1 (do let _ ← kj [aD h1.objs.size] (call (.builtin "list.sort") [aD h1.objs.size]);ret (aD h1.objs.size)) _ _ { s with heap:=h1.push (bY "list" vs.toArray 0),toks:=tk }
 have hD:s.heap.get? h1.objs.size=none:=by
  cases q:s.heap.get? h1.objs.size with
  | none=>rfl
  | some o=>exact absurd rfl (hb _ o q)
 exact ae (cq (cI Al ⟨_,g,rfl⟩ xD (sort_vals (s:={ s with heap:=h1.push (bY "list" vs.toArray 0),toks:=tk }) g hz (λh2 h' k=>hk h2 h' tk (k2 k)) λh' c out k gD hp hs=>⟨_,rfl,ao ⟨_,rfl,h _ c h' tk out (k2 k) hD gD hp hs⟩⟩) (args_list_sort _)))
end
end Sy
namespace L2
open PySem PySem.Spec PyProof.Rows PySem.W
def Inv.QV {X:Cx}{pins:List (af×ft)}{Z:St}{H:Hp}{s:ak}{h':cb}{a:af}{o:HO}{t':Nat}(I:Inv X pins Z H s) (k:∀ b u,s.heap.get? b=some u->h'.get? b=some u) (gn:s.heap.get? a=none) (new:d9 X.prog X.w (upd H a o) h' a o) :
  H a=none/\Inv X pins Z (upd H a o) { s with heap:=h',toks:=t' }:=by
 have hn:H a=none:=by
  cases q:H a with
  | none=>rfl
  | some u =>
   obtain ⟨w,e⟩:=(I.eC a u q).obj;rw [gn] at e;cases e
 have ne:∀ {b u},H b=some u->b≠a:=λe=>aP e hn;refine ⟨hn,I.un ⟨λb u q _ _ _=>k b u q,λb u q _ _ _=>⟨u.slots,k b u q⟩,λb u q n _=>?_,λb u q _=>⟨u,k b u q⟩,λb xs q=>by rw [aH (ne q)];exact q,λb u xs q=>by rw [aH (ne q)];exact q,λb ps q=>⟨#[],by rw [aH (ne q),q];simp⟩⟩ λb u e=>?_⟩
 ·rw [aH];exact n;rintro rfl;rw [gn] at q;cases q
 ·by_cases hb:b=a
  ·subst hb;rw [aE] at e;cases e;exact new
  ·rw [aH hb] at e
   exact (I.eC b u e).yB (λc v _ q=>k c v q) (λc q=>by rw [aH (ne q)];exact q) λc xs q=>by rw [aH (ne q)];exact q
def TV (zs:List Zn):ai->Int
 | .ref a=>((zs.find? λz=>z.2 == a).map λz=>EM (zs.map (·.1)) z.1).getD 0
 | _=>0
section
variable {X:Cx}{pins:List (af×ft)}{Z:St}{H:Hp}{s:ak}{zs:List Zn}{m:List Bool}
def rk (hz:∀ z∈zs,∀ z'∈zs,z.2=z'.2->z.1=z'.1) {z:Zn}(h:z∈zs):TV zs (.ref z.2)=EM (zs.map (·.1)) z.1:=by
 show ((zs.find? λy=>y.2 == z.2).map _).getD 0=_
 cases q:zs.find? (λy=>y.2 == z.2) with
 | none=>exact absurd (Ro.mp q z h) (by simp)
 | some y =>
  have e:=WB q
  show EM _ y.1=_
  rw [hz y (JN q) z h (by simpa using e)]
def PH {m:List Bool}{xs:List V}{ks:List Int}(f:Flat m xs ks):∀ {ls:List Int},Flat m xs ls->ks=ls:=by
 induction f with
 | nil=>intro ls g;cases g;rfl
 | int i _ ih=>intro ls g;cases g with|int _ g=>rw [ih g]
 | bl b _ ih=>intro ls g;cases g with|bl _ g=>rw [ih g]
def yU {r:af}{Q:VK}(I:Inv X pins Z H s) (hz:∀ z∈zs,Bc m H z) (hl:zs.length<128)
  (hcol:∀ (Q':List ai->ak->Prop),(∀ h' tk,(∀ b o,s.heap.get? b=some o->h'.get? b=some o)->Q' (zs.map λz=>aD z.2) { s with heap:=h',toks:=tk })->aG (aM X.prog X.w) X.A.in1 (G9 (.ref r)) Q' X.xe s)
  (q:∀ (l:af) (zs':List Zn),H l=none->zs'.Perm zs->zs'.Pairwise (λz w=>fA w.1 z.1=false)->Q (.ref l) (upd H l (.lst (zs'.map lF)))):aG (aM X.prog X.w) X.A (call (.builtin "sorted") [.ref r]) (EP X pins Z Q) X.xe s:=by
 have tup:∀ z∈zs,∃ xs us,Flat (false::m) xs z.1/\Vals xs us/\pH s.heap z.2 us.toArray:=λz hz'=>by
  obtain ⟨xs,h1,h2⟩:=hz z hz';obtain ⟨ts,r,it,_⟩:=I.tuple (.of h1);exact ⟨xs,ts,h2,r,it⟩
 have one:∀ z∈zs,∀ z'∈zs,z.2=z'.2->z.1=z'.1:=λz h z' h' e=>by
  obtain ⟨xs,e1,f1⟩:=hz z h;obtain ⟨ys,e2,f2⟩:=hz z' h';rw [e,e2] at e1;cases e1;exact PH f1 f2
 refine Sy.sorted_vals (κ:=Td true) (r:=TV zs) (by rw [ag];exact hl) hcol (λh2 h' tk keep=>?_) λD c h' tk out keep gD g hp hs=>?_
 ·rw [ag] at h2
  have tup':∀ z∈zs,∃ xs us,Flat (false::m) xs z.1/\Vals xs us/\pH h' z.2 us.toArray:=λz hz'=>by
   obtain ⟨xs,us,f,r,o,e,rest⟩:=tup z hz';exact ⟨xs,us,f,r,o,keep _ _ e,rest⟩
  obtain ⟨fs,k1,k2,k3⟩:=L0 (zs:=zs) (h:=h') λz hz'=>by
   obtain ⟨xs,us,f,r,it⟩:=tup' z hz';generalize z.1=kz at f
   cases f with
   | int i f =>
    cases r with
    | cons r1 r=>obtain ⟨t,rfl⟩:=r1;exact ⟨i,t,_,it⟩
  refine ⟨λQ hQ=>kat_kind (T:=.type "int") k1 (by lia) (λv hv=>by obtain ⟨i,t,rfl⟩:=k3 v hv;exact Looks.now) rfl (by rw [show (eS "int" != eS "tuple")=true by decide];exact hQ),λx hx y hy Q hQ=>?_⟩;obtain ⟨z,hz',rfl⟩:=a6.mp hx;obtain ⟨z',hz2,rfl⟩:=a6.mp hy;obtain ⟨xs,us,f1,r1,i1⟩:=tup' z hz';obtain ⟨ys,ws,f2,r2,i2⟩:=tup' z' hz2;refine LZ (s:={ s with heap:=h',toks:=tk }) f1 f2 r1 r2 i1 i2 ?_;rw [rk one hz',rk one hz2,vN (bq hz')] at hQ;exact hQ
 ·obtain ⟨zs',p',rfl⟩:=Sy.perm_map hp.symm zs rfl;obtain ⟨hn,I2⟩:=I.QV (t':=tk) (o:=.lst (zs'.map lF)) keep gD ⟨by rw [ag,p'.length_eq];exact bM (m:=128) (by lia),_,c,pR zs',g⟩;refine ⟨.ref D,_,I2,rfl,q D zs' hn p' ((dj.mp hs).imp_of_mem λ{z w} hz1 hw z2=>?_)⟩;have a1:=p'.mem_iff.mp hz1;have a2:=p'.mem_iff.mp hw
  cases e:fA w.1 z.1 with
  | false=>rfl
  | true =>
   rw [← vN (ts:=zs.map (·.1)) (bq a2),decide_eq_true_iff] at e;rw [rk one a1,rk one a2] at z2;lia
def rm (K:aa):List V->Hp->VK->Prop:=λxs H Q=>∃ (p:af) (zs:List Zn) (m:List Bool),xs=[.ref p]/\c9 K H p (zs.map lF)/\(∀ z∈zs,Bc m H z)/\zs.length<128 /\
 ∀ (l:af) (zs':List Zn),H l=none->zs'.Perm zs->zs'.Pairwise (λz w=>fA w.1 z.1=false)->Q (.ref l) (upd H l (.lst (zs'.map lF)))
def vP:mv X (.builtin "sorted") (rm X.K):=by
 intro pins s Z H xs us Q I r h;obtain ⟨p,zs,mk,rfl,hq,hz,hl,q⟩:=h;obtain ⟨u,rfl,ru⟩:=vals1 r;cases ru;obtain ⟨its,rv,pl,hsz⟩:=I.list hq;have ei:=vO rv;subst ei;refine yU I hz hl (λQ' k=>collect_list pl.isList (k _ s.toks λb o e=>?_) (by rw [ag];exact bM (m:=128) (by lia))) q;have hlt:=aJ e;exact (bz _ _ (dN hlt)).trans (au _ e)
def Ih:List V->Hp->VK->Prop:=λxs H Q=>∃ (p:af) (kvs:List (List fT×V)),xs=[.ref p]/\H p=some (.dT kvs)/\(∀ q∈kvs,∃ x y:Int,q.1=[cu x,cu y])/\kvs.length<128 /\
 ∀ (l:af) (zs:List Zn),H l=none->(∀ z∈zs,Bc [false] H z)->(zs.map (·.1)).Perm (kvs.map λp=>p.1.map λk=>k.elim id λ_=>0)->zs.Pairwise (λz w=>fA w.1 z.1=false)->Q (.ref l) (upd H l (.lst (zs.map lF)))
def FQ (hc:X.calm=true):mv X (.builtin "sorted") Ih:=by
 intro pins s Z H xs us Q I r h;obtain ⟨p,kvs,rfl,hp,hk,hl,q⟩:=h;obtain ⟨u,rfl,ru⟩:=vals1 r;cases ru
 obtain ⟨hz,lo,ys,rel,o,es,ep,e1,e2,e3,e4,e5⟩:=(show d9 X.prog X.w H s.heap p (.dT kvs) from I.eC p _ hp)
 obtain ⟨ws,k1,k2,k3⟩:=LS rel hk
 have hlen:ws.length=kvs.length:=by have:=congrArg dR k3;simpa using this.symm
 have raw:yC s.heap p ((ws.map λz=>(([z.1,z.2.1],z.2.2):Zn)).map λz=>aD z.2) ep:=⟨o,es,e1,e2,e3,by rw [e4,bK];rw [show (λq:List fT×af×ai=>aD q.2.1)=(λq=>aD q.2.1) from rfl] at k1;exact k1▸(by rw [bK];rfl)⟩
 have hz2:∀ z∈ws.map (λz=>(([z.1,z.2.1],z.2.2):Zn)),Bc [false] H z:=λz hz'=>by
  obtain ⟨y,hy,rfl⟩:=a6.mp hz';exact ⟨_,k2 y hy,.int _ (.int _ .nil)⟩
 refine yU I hz2 (by rw [ag];lia) (λQ' k=>HW (Sb lo) (I.ok.hd hc) raw (by rw [ag,ag];exact bM (m:=128) (by lia)) λh' tk acc keep ha=>?_) (λl zs' hn hpm hs=>q l zs' hn (λz hz'=>hz2 z (hpm.mem_iff.mp hz')) ?_ hs)
 ·rw [HX ha];exact k h' tk keep
 ·refine (hpm.map (·.1)).trans (List.Perm.of_eq ?_);have:=congrArg (Oe λk:List fT=>k.map λk=>k.elim id λ_=>(0:Int)) k3;rw [bK,bK] at this;rw [bK];exact (this.trans (kJ λz _=>rfl)).symm
end
end L2
namespace L2
open PySem PySem.Spec PyProof.Rows PySem.W
section
variable {X:Cx}
def TX (K:aa):List V->Hp->VK->Prop:=λxs H Q=>∃ (p:af) (ns:List Int),xs=[.ref p]/\c9 K H p (ns.map V.int)/\0<ns.length/\∀ M,M∈ns->(∀ a∈ns,a<=M)->Q (.int M) H
def ER (hc:X.calm=true):mv X (.builtin "max") (TX X.K):=by
 intro pins s Z H xs us Q I r h;obtain ⟨p,ns,rfl,hq,hf,q⟩:=h;obtain ⟨u,rfl,ru⟩:=vals1 r;cases ru;obtain ⟨its,rv,pl,hz⟩:=I.list hq;have hi:eO its ns:=intsAre_of rv;obtain ⟨ys,e⟩:=hi.allInts.items;have hn:=hi.numsOf
 have e':its=(WK ys).toList:=by rw [← e]
 rw [e',nums_intItems] at hn
 have hl:s.heap.IsList p (WK ys):=by rw [← e];exact pl.isList
 subst hn;rw [ag,aK] at hf;refine max_intList (I.ok.hd hc) hl hf λv h' tk hv hk=>?_;obtain ⟨t,rfl⟩:=intItems_at hv;obtain ⟨h1,h2⟩:=argBest_gt (numAt ys) (ys.size-1);refine ⟨.int _,H,I.kept hk,⟨t,rfl⟩,q _ ?_ λa ha=>?_⟩
 ·rw [numAt_eq];exact getD_mem (by rw [ag,aK];lia)
 ·obtain ⟨j,hj,rfl⟩:=mem_getD ha;rw [ag,aK] at hj;rw [← numAt_eq];exact h2 j (by lia)
end
end L2
namespace L2
open PySem PySem.Spec PySem.Calls PyProof.Rows PySem.W
def TY (a:af) (h h':cb):Prop:=∀ b o,b≠a->h.get? b=some o->h'.get? b=some o
section
variable {prog:aY}{w:bH}{A:bN}{E:ai->ak->Prop}{s:ak}{a:af}{f:ai}{zs:List Zn}{KO:Zn->ft->Prop}
def Ii {n:Nat}{P:JW->ak->Prop}(ho:s.heap.get? a=some (bY "list" (zs.map λz:Zn=>aD z.2).toArray n)) (hl:zs.length<128) (one:∀ z∈zs,∀ z'∈zs,z.2=z'.2->z.1=z'.1)
  (turn:∀ z∈zs,∀ (h:cb) (tk:Nat),TY a s.heap h->∀ R:ai->ak->Prop,(∀ h' tk' k o,(∀ b o,h.get? b=some o->h'.get? b=some o)->h.get? k=none->h'.get? k=some o->KO z o->R (.ref k) { s with heap:=h',toks:=tk' }) ->
   aG (aM prog w) A (call f [.ref z.2]) R (λ_ _=>False) { s with heap:=h,toks:=tk })
  (hkind:∀ z o,KO z o->o.cls=.type "tuple"/\∃ i t xs n,o.data=.seq xs n/\xs[0]?=some (.int i t))
  (hlt:∀ z∈zs,∀ z'∈zs,∀ k k' o o' (h:cb) (tk:Nat),TY a s.heap h->h.get? k=some o->h.get? k'=some o'->KO z o->KO z' o'->∀ Q:Bool->ak->Prop,Q (fA z.1 z'.1) { s with heap:=h,toks:=tk }->aG (aM prog w) A (keyLt' (Td true) (.ref k) (.ref k')) Q (λ_ _=>False) { s with heap:=h,toks:=tk })
  (fin:∀ h' tk c (zs':List Zn),TY a s.heap h'->h'.get? a=some (bY "list" (zs'.map λz:Zn=>aD z.2).toArray c)->zs'.Perm zs->zs'.Pairwise (λz w=>fA w.1 z.1=false)->P (.done (.ret .none)) { s with heap:=h',toks:=tk }) :
  aG (aM prog w) A (ksk_tree a f false) P E s:=by
 have hz:(zs.map λz:Zn=>aD z.2).length<=aT:=bM (m:=128) (by rw [ag];lia);have sl:1000<=aT:=bM (m:=1000) (ar _)
 obtain ⟨c1,g1⟩:∃ c,(s.heap.update a (bO λ_=>(#[]:Array ai))).get? a=some (bY "list" #[] c):=⟨_,lR ho λ_=>#[]⟩
 unfold ksk_tree;refine ae (G7 ho rfl (ae (lL ho rfl (ae (JZ g1 rfl (ae (Ah (ae (nV (cq ?_) (aQ _))) hz)))) (by rw [aO];exact hz) (aQ _))));have k2:∀ b o,(s.heap.update a (bO λ_=>(#[]:Array ai))).get? b=some o->(((s.heap.update a (bO λ_=>(#[]:Array ai))).push (bY "tuple" (zs.map λz:Zn=>aD z.2).toArray 0)).push (bY "list" #[] 0)).get? b=some o:=λb o e=>au _ (au _ e);have gk:(((s.heap.update a (bO λ_=>(#[]:Array ai))).push (bY "tuple" (zs.map λz:Zn=>aD z.2).toArray 0)).push (bY "list" #[] 0)).get? ((s.heap.update a (bO λ_=>(#[]:Array ai))).push (bY "tuple" (zs.map λz:Zn=>aD z.2).toArray 0)).objs.size=some (bY "list" #[] 0):=aI _ rfl;have kfr:∀ b o,(s.heap.update a (bO λ_=>(#[]:Array ai))).get? b=some o->b≠((s.heap.update a (bO λ_=>(#[]:Array ai))).push (bY "tuple" (zs.map λz:Zn=>aD z.2).toArray 0)).objs.size:=λb o e=>a9 (aJ (au (bY "tuple" (zs.map λz:Zn=>aD z.2).toArray 0) e));have up:∀ b o,b≠a->s.heap.get? b=some o->(s.heap.update a (bO λ_=>(#[]:Array ai))).get? b=some o:=λb o hb e=>(bz _ _ (Ne.symm hb)).trans e
 show aG (aM prog w) A (ksk_rest a f false (zs.map λz:Zn=>aD z.2).toArray _ (.ref ((s.heap.update a (bO λ_=>(#[]:Array ai))).push (bY "tuple" (zs.map λz:Zn=>aD z.2).toArray 0)).objs.size)) _ _ { s with heap:=((s.heap.update a (bO λ_=>(#[]:Array ai))).push (bY "tuple" (zs.map λz:Zn=>aD z.2).toArray 0)).push (bY "list" #[] 0) }
 generalize ((s.heap.update a (bO λ_=>(#[]:Array ai))).push (bY "tuple" (zs.map λz:Zn=>aD z.2).toArray 0)).objs.size=kS at gk kfr;generalize ((s.heap.update a (bO λ_=>(#[]:Array ai))).push (bY "tuple" (zs.map λz:Zn=>aD z.2).toArray 0)).push (bY "list" #[] 0)=h2 at k2 gk;have hak:a≠kS:=kfr a _ g1;have g2:=k2 _ _ g1;have kp2:TY a s.heap h2:=λb o hb e=>k2 _ _ (up b o hb e);have nk:∀ b o,b≠a->s.heap.get? b=some o->b≠kS:=λb o hb e=>kfr b o (up b o hb e);generalize s.heap.update a (bO λ_=>(#[]:Array ai))=hx at k2 kfr up g1;unfold ksk_rest;refine ae (jf ?_);rw [List.forIn_toArray]
 -- the keys
 have J7:∀ (r done:List Zn) (ks:List af) (e:Nat) (h:cb) (tk:Nat) (R:ak->Prop),done++r=zs->TY a s.heap h->h.get? a=some (bY "list" #[] c1)->h.get? kS=some (bY "list" (ks.map aD).toArray e)->Paired (λ(z:Zn) (k:af)=>∃ o,h.get? k=some o/\KO z o/\k≠kS/\k≠a) done ks ->
   (∀ ks' e' h' tk',TY a s.heap h'->h'.get? a=some (bY "list" #[] c1)->h'.get? kS=some (bY "list" (ks'.map aD).toArray e')->Paired (λ(z:Zn) (k:af)=>∃ o,h'.get? k=some o/\KO z o/\k≠kS/\k≠a) zs ks'->R { s with heap:=h',toks:=tk' }) ->
   aG (aM prog w) A (forIn (r.map λz:Zn=>aD z.2) PUnit.unit λx _=>do
    match ← (call f [x]).attempt with
    | .ok k=>iz (.ref kS) (·.push k);pure (jb PUnit.unit)
    | .error e =>
     Em "list.sort.key-raised"
     let made ← CQ (.ref kS)
     iz (.ref kS) λ_=>#[]
     letGo made.toList.reverse [e]
     iz (.ref a) λ_=>(zs.map λz:Zn=>aD z.2).toArray;throw e) (λ_ s'=>R s') E { s with heap:=h,toks:=tk }:=by
  intro r
  induction r with
  | nil =>
   intro done ks e h tk R hr kp ga gS rel q;rw [tJ] at hr;subst hr;rw [Az,Hr]
   exact ao (q ks e h tk kp ga gS rel)
  | cons z r ih =>
   intro done ks e h tk R hr kp ga gS rel q;rw [bU,tN]
   have hlen:ks.length<128:=by
    have:=congrArg dR hr;rw [bu,bT,← uU rel] at this;lia
   refine ae (ae (ik (dH (turn z (by rw [← hr];simp) h tk kp _ λh' tk' k o keep kn hk ko=>?_) (λ_ _ x=>x) λ_ _ x=>x.elim)))
   have kkS:k≠kS:=λq=>by rw [q,gS] at kn;cases kn
   have kka:k≠a:=λq=>by rw [q,ga] at kn;cases kn
   have gS':=keep _ _ gS
   have ea:(ks.map aD).toArray.push (.ref k)=((ks++[k]).map aD).toArray:=by simp
   obtain ⟨c2,g3⟩:∃ c2,(h'.update kS (bO (·.push (.ref k)))).get? kS=some (bY "list" ((ks++[k]).map aD).toArray c2):=⟨_,by rw [← ea];exact lR gS' (·.push (.ref k))⟩
   have ot:∀ {b:af}{o:ft},b≠kS->h'.get? b=some o->(h'.update kS (bO (·.push (.ref k)))).get? b=some o:=λhb e=>(bz _ _ (Ne.symm hb)).trans e;refine ae (lL gS' rfl (ao ?_) (by rw [aO,ag];lia) (by rw [iw,aO,ag];lia));refine ih (done++[z]) (ks++[k]) c2 _ tk' R (by rw [← hr];simp) (λb o hb e=>ot (nk b o hb e) (keep _ _ (kp b o hb e))) (ot hak (keep _ _ ga)) g3 ?_ q;refine yT ⟨o,ot kkS hk,ko,kkS,kka⟩ (Paired.NF rel λz' k' ⟨o',e1,e2,e3,e4⟩=>⟨o',ot e3 (keep _ _ e1),e2,e3,e4⟩)
 refine ae (J7 zs [] [] 0 h2 s.toks _ rfl kp2 g2 gk .nil λks e h tk kp ga gS rel=>?_);refine ae (G7 gS rfl ?_);have hkl:=uU rel
 -- the end
 have tail:∀ st:dD,iU st=none->∀ zs':List Zn,(mK st).map (·.2)=(zs'.map λz:Zn=>aD z.2).toArray->zs'.Perm zs->zs'.Pairwise (λz w=>fA w.1 z.1=false)->aG (aM prog w) A (ksk_tail a false c1 (.ref kS) st) P E { s with heap:=h,toks:=tk }:=λst hf zs' eo hp hs=>by
  obtain ⟨c3,g3⟩:∃ c3,(h.update kS (bO λ_=>(#[]:Array ai))).get? kS=some (bY "list" #[] c3):=⟨_,lR gS λ_=>#[]⟩
  have ga':(h.update kS (bO λ_=>(#[]:Array ai))).get? a=some (bY "list" #[] c1):=(bz _ _ (Ne.symm hak)).trans ga
  obtain ⟨c4,g4⟩:∃ c4,((h.update kS (bO λ_=>(#[]:Array ai))).update a (bO λ_=>(zs'.map λz:Zn=>aD z.2).toArray)).get? a=some (bY "list" (zs'.map λz:Zn=>aD z.2).toArray c4):=⟨_,lR ga' λ_=>(zs'.map λz:Zn=>aD z.2).toArray⟩
  unfold ksk_tail
  try dsimp only
  rw [eo];simp only [bV,if_false];refine ae (lL gS rfl (ae (JX (ae (JZ ga' rfl (ae (lL ga' rfl ?_ (aQ _) (by rw [aO,ag,hp.length_eq];lia))))))) (by rw [aO,ag];lia) (aQ _));rw [hf];simp only [bne_self_eq_false,bV,if_false];exact ao (fin _ tk c4 zs' (λb o hb e=>(bz _ _ (Ne.symm hb)).trans ((bz _ _ (Ne.symm (nk b o hb e))).trans (kp b o hb e))) g4 hp hs)
 have zip2:((ks.map aD).toArray.zip (zs.map λz:Zn=>aD z.2).toArray).map (·.2)=(zs.map λz:Zn=>aD z.2).toArray:=by
  apply ka.mp
  simp;exact UP (by simp [hkl])
 unfold ksk_end;simp only [bV,if_false]
 by_cases h2':zs.length<2
 ·rw [if_pos (by rw [aO,ag];exact h2'),if_pos (by rw [aO,ag];exact h2')];refine ae (ao ?_);rw [Tg];refine ae (ao (tail _ rfl zs zip2 (.refl _) ?_))
  match zs,h2' with
  | [],_=>exact .nil
  | [z],_=>exact qK _ _
  | z::w::r,h2=>simp at h2;lia
 ·rw [if_neg (by rw [aO,ag];exact h2'),if_neg (by rw [aO,ag];exact h2')]
  have kt:∀ {zs:List Zn}{ks:List af},Paired (λ(z:Zn) (k:af)=>∃ o,h.get? k=some o/\KO z o/\k≠kS/\k≠a) zs ks->∃ fs,KatTups h (ks.map aD) fs/\fs.length=zs.length/\∀ v∈fs,∃ i t,v=fj i t:=by
   intro zs ks rel
   induction rel with
   | nil=>exact ⟨[],.nil,rfl,λ_ h=>nomatch h⟩
   | cons r _ ih =>
    obtain ⟨fs,f1,f2,f3⟩:=ih;obtain ⟨o,e1,e2,_⟩:=r;obtain ⟨cc,i,t,xs,n,d,d0⟩:=hkind _ o e2;refine ⟨.int i t::fs,WJ e1 cc d d0 f1,by simp [f2],λv hv=>?_⟩
    rcases av.mp hv with rfl|hv
    ·exact ⟨_,t,rfl⟩
    ·exact f3 v hv
  obtain ⟨fs,f1,f2,f3⟩:=kt rel;refine ae (kat_kind (T:=.type "int") f1 (by lia) (λv hv=>by obtain ⟨i,t,rfl⟩:=f3 v hv;exact Looks.now) rfl ?_);rw [show (eS "int" != eS "tuple")=true by decide]
  have mz:∀ x∈((ks.map aD).toArray.zip (zs.map λz:Zn=>aD z.2).toArray).toList,∃ z∈zs,∃ k o,x=(aD k,aD z.2)/\h.get? k=some o/\KO z o:=λx hx=>by
   rw [CJ] at hx;obtain ⟨i,hi⟩:=bx.mp hx;obtain ⟨x1,x2⟩:=x;rw [pI] at hi;obtain ⟨q1,q2⟩:=hi;simp only [ax] at q1 q2;obtain ⟨z,z1,z2⟩:=aW.mp q2;obtain ⟨k,k1,k2⟩:=aW.mp q1;obtain ⟨k',k3,o,e1,e2,_⟩:=Bd rel i z z1;rw [k1] at k3;cases k3;exact ⟨z,aL z1,k,o,by rw [← k2,← z2],e1,e2⟩
  refine ae (dH (Sy.w_runs (prog:=prog) (w:=w) (A:=A) (E:=E) (s:={ s with heap:=h,toks:=tk }) (a₀:=(ks.map aD).toArray.zip (zs.map λz:Zn=>aD z.2).toArray) (D:=λx=>∃ z∈zs,∃ k o,x=(aD k,aD z.2)/\h.get? k=some o/\KO z o) (r:=λx=>TV zs x.2) (κ:=Td true)
   (Q:=λ_ st'=>∃ ys,mK st'=ys/\iU st'=none/\ys.Perm ((ks.map aD).toArray.zip (zs.map λz:Zn=>aD z.2).toArray)/\Sy.St (λx=>TV zs x.2) ys 0 ys.size) ?_ mz (by simp [hkl];lia) (by simp [hkl];lia) λys st' a1 a2 a3 a4=>⟨ys,a1,a2,a3,a4⟩) ?_ λ_ _ x=>x)
  ·rintro x y ⟨z,hz1,k,o,rfl,e1,e2⟩ ⟨z',hz2,k',o',rfl,e3,e4⟩ Q hQ;refine hlt z hz1 z' hz2 k k' o o' h tk kp e1 e3 e2 e4 Q ?_;have hQ:Q (decide (TV zs (.ref z.2)<TV zs (.ref z'.2))) _:=hQ;rw [rk one hz1,rk one hz2,vN (bq hz1)] at hQ;exact hQ
  ·rintro ⟨⟨⟩,st'⟩ s' ⟨rfl,ys,e,hf,hp,hs⟩;have hp':=(fh.mp hp).map (·.2);rw [← mf,← mf,zip2] at hp';obtain ⟨zs',p',e'⟩:=Sy.perm_map hp'.symm zs rfl;rw [mf] at e';refine tail st' hf zs' (by rw [e];apply ka.mp;simpa using e') p' ?_;have hs':=(dj (f:=λx:aS=>x.2) (R:=λx y=>TV zs x<=TV zs y)).mpr (Sy.pw_of hs);rw [show Oe (λx:aS=>x.2) ys.toList=zs'.map λz=>aD z.2 from e'] at hs';refine (dj.mp hs').imp_of_mem λ{z w} hz1 hw z2=>?_;have a1:=p'.mem_iff.mp hz1;have a2:=p'.mem_iff.mp hw
   cases e:fA w.1 z.1 with
   | false=>rfl
   | true =>
    rw [← vN (ts:=zs.map (·.1)) (bq a2),decide_eq_true_iff] at e;rw [rk one a1,rk one a2] at z2;lia
end
def Ko (Pt:af) (pos:kM) (qual:bh) (j:Nat) (tx:TA):TE:=λZ H Q=>tx Z H λv H1 =>
 ∃ (p d:af) (zs:List Zn) (N6:List (List fT×V)),v=[.ref p]/\H1 p=some (.lst (zs.map lF))/\Z[j]?=some (some (.ref d))/\H1 d=some (.dT N6)/\(∀ z∈zs,∃ w x y:Int,z.1=[w,x,y]/\H1 z.2=some (.tup [.int x,.int y])/\gQ N6 [cu x,cu y]=some (.int w))/\zs.length<128/\qE Pt pos qual H1 /\
  ∀ (l:af) (zs':List Zn) (H2:Hp),H2 l=none->pC Pt H1 H2->qE Pt pos qual H2->zs'.Perm zs->zs'.Pairwise (λz w=>fA w.1 z.1=false)->Q (.ref l) (upd H2 l (.lst (zs'.map lF)))
def vQ {prog:aY}{w:bH}{A:bN}{E:ai->ak->Prop}{s:ak}{l:af}{vs:List ai}{Q:List ai->ak->Prop}(hl:s.heap.IsList l vs.toArray) (hn:vs.length<=aT)
  (q:∀ h' tk,(∀ b o,s.heap.get? b=some o->h'.get? b=some o)->Q vs { s with heap:=h',toks:=tk }):aG (aM prog w) A (G9 (.ref l)) Q E s:=by
 refine collect_list hl (q _ _ λb o e=>?_) (by simpa using hn);have hlt:b<s.heap.objs.size:=aJ e;rw [Heap.get?_update_ne _ _ _ _ (a9 hlt),Heap.get?_push_ne _ _ _ (a9 hlt)];exact e
section
variable {X:Cx}{c Pt:af}{e:Expr}{tx:TA}{x y:bh}{j:Nat}{params:l8}{scope:jB}{p0 p1 p2 p3 p4 p5 lpos kpos pos:kM}{x1:Nat}
def PJ (hcalm:X.calm=true) (hcode:X.env.code=.ref c) (C0:ig X.base c Pt) (B:X.base.BuiltinsAt X.mg Pt) (hroom:X.A.depth<qJ) (hun:X.A.units+128<gO)
  (hgl:Gl X "sorted") (hm:X.mg "sorted"=none) (hx:PA X [e] tx) (hN:X.N[j]?=some y) (hky:X.env.kindOf y=some .cell)
  (hs:gm pos (bF [e] X.env)=(false,eN e X.env)::gm pos (bF [] X.env):=by rfl) (hpl:(gm pos (bF [e] X.env)).any (·.1)=false:=by rfl)
  (hdef:defaultsOf params X.env=([],[]):=by rfl)
  (hbind:∀ clos pm nj ctv v,Ad (kla_fn "<lambda>" (X.env.qual++"<lambda>") params (.Tuple [.Subscript (.Name y p1) (.Name x p2) p3,.Name x p4] x1 p5) scope clos pm nj ctv) ⟨[v],[]⟩=pure [(x,v)]:=by intros;rfl)
  (hsx:scope.names.lookup x=some .local:=by rfl) (hsy:scope.names.lookup y=some .free:=by rfl) (hk:scope.kind=.function:=by rfl) (hco:scope.isCoroutine=false:=by rfl) (hgen:scope.isGenerator=false:=by rfl) (hcell:∀ z∈scope.names,z.2≠.cell:=by decide +kernel)
  (hfr:(scope.names.all λy=>y.2 != .free || X.env.kindOf y.1 == some .cell || X.env.kindOf y.1 == some .free)=true:=by rfl)
  (hdx:(x == ("__debug__":bh))=false:=by decide) (hdy:(y == ("__debug__":bh))=false:=by decide) (hdc:(y == ("__classdict__":bh))=false:=by decide) :
  PE X (.Call (.Name "sorted" p0) [e] [⟨some "key",.Lambda params (.Tuple [.Subscript (.Name y p1) (.Name x p2) p3,.Name x p4] x1 p5) scope lpos,kpos⟩] pos) (Ko Pt lpos (X.env.qual++"<lambda>") j tx):=by
 intro pins s Z H Q I h;refine fc (nW I hgl hm (u:=.builtin "sorted") BootT.A2 ?_);refine callWith_kw ?_ hs hpl;refine gP (hx pos pins s Z H _ I h) λus s1 ⟨vs,H1,I1,rv,q⟩=>?_;obtain ⟨p,d,zs,N6,rfl,hp,hj,hd,hkv,h64,hT,k⟩:=q;obtain ⟨u,rfl,ru⟩:=vals1 rv;cases ru
 show aG _ X.A (evalAll [do let v ← eN _ X.env;sR pos;pure v]) _ _ s1
 refine wpAny_evalAll_cons (ae (HP I1 hcode C0 B hdef (qZ I1 hfr) hT λf c' ctv h' tk H2 I2 hf hrec S2 T2 hk2=>ae (tH (ao (wpAny_evalAll_nil ?_)))));obtain ⟨ps,hPt⟩:=hT.tbl;have hp2:=S2 p _ (λz=>by rw [z,hPt] at hp;cases hp) hp;have hd2:=S2 d _ (λz=>by rw [z,hPt] at hd;cases hd) hd
 have k2:∀ z∈zs,∃ w x y:Int,z.1=[w,x,y]/\H2 z.2=some (.tup [.int x,.int y])/\gQ N6 [cu x,cu y]=some (.int w):=λz hz=>by
  obtain ⟨w,x,y,e1,e2,e3⟩:=hkv z hz;exact ⟨w,x,y,e1,S2 _ _ (λz=>by rw [z,hPt] at e2;cases e2) e2,e3⟩
 obtain ⟨its,n1,rp,op,zp⟩:=I2.lst hp2;have hits:=vO rp;subst hits;have hh:X.A.handled=none:=I2.ok.hd hcalm;obtain ⟨my,hny,hlk⟩:=I2.loc;obtain ⟨uy,ruy,lky⟩:=hlk j y (.ref d) hN hj (.inr (.inl hky));cases ruy
 obtain ⟨cl,hcl,hcv⟩:∃ cl,X.env.cells.lookup y=some cl/\h'.IsCell cl (some (.ref d)):=by
  rcases lky with ⟨z,_⟩|⟨_,cl,h1,h2⟩
  ·rw [hky] at z;cases z
  ·exact ⟨cl,h1,h2⟩
 have hclo:(nu X.env.cells scope.names []).lookup y=some cl:=by
  obtain ⟨d,hd⟩:=vE (cells:=X.env.cells) (x:=y) scope.names [] (.inl (mem_of_lookup hsy));have hd':=(kD _ _ (qZ I1 hfr) hd).resolve_right (by simp);rw [hcl] at hd';rw [hd,← hd']
 have un2:X.A.in1.in1.units+3+64<gO:=by show X.A.units+1+1+3+64<_;lia
 have one:∀ z∈zs,∀ z'∈zs,z.2=z'.2->z.1=z'.1:=λz hz z' hz' e=>by
  obtain ⟨w1,x1,y1,e1,e2,e3⟩:=k2 z hz;obtain ⟨w2,x2,y2,f1,f2,f3⟩:=k2 z' hz';rw [e,f2] at e2;cases e2;rw [e3] at f3;cases f3;rw [e1,f1]
 have turn:∀ z∈zs,∀ (h:cb) (tk':Nat),(∀ b o,h'.get? b=some o->h.get? b=some o)->∀ R:ai->ak->Prop,
   (∀ h3 tk3 k o,(∀ b o,h.get? b=some o->h3.get? b=some o)->h.get? k=none->h3.get? k=some o->(∃ t,o=Ig z t)->R (.ref k) { s1 with heap:=h3,toks:=tk3 })->aG (aM X.prog X.w) X.A.in1.in1 (call (.ref f) [.ref z.2]) R (λ_ _=>False) { s1 with heap:=h,toks:=tk' }:=by
  intro z hz h tk' kk R hR;obtain ⟨ww,xx,yy,ez,hzt,hzw⟩:=k2 z hz;have J:Inv X pins Z H2 { s1 with heap:=h,toks:=tk' }:=I2.kept kk;refine EN (s:={ s1 with heap:=h,toks:=tk' }) (by exact hroom) (kk f _ hf) ?_ (I2.mod.nolimit.keeps λb o e=>kk b o (I2.bk b o e)) (hbind _ _ _ _ _) hsx hk hco hgen hcell λenv h3 tk3 E' q1 q2 q3 hns hk3=>?_
  ·obtain ⟨c2,o2,vs2,t2',e2,h2,d2⟩:=hrec;cases e2;exact ⟨c',o2,vs2,t2',rfl,kk _ _ h2,d2⟩
  ·refine Pm (s:={ s1 with heap:=h,toks:=tk' }) (H:=H2) (d:=d) (cl:=cl) (k:=[cu xx,cu yy]) (J.eC.kept hk3) (by rw [q1];exact hk) (by rw [q1];exact hsx) (by rw [q1];exact hsy) hns (by rw [q2];exact hclo) ?_ hd2 hzt hzw un2 (λt tk4=>?_) hdx hdy hdc
   ·obtain ⟨o,e,d⟩:=hcv;exact ⟨o,hk3 _ _ (kk _ _ e),d⟩
   ·refine hR _ tk4 _ _ (λb o e=>au _ (hk3 b o e)) ?_ (aI _ rfl) ⟨t,by unfold Ig;rw [ez];rfl⟩
    cases q:h.get? h3.objs.size with
    | none=>rfl
    | some o=>exact absurd (aJ (hk3 _ _ q)) (eL _)
 have hzl:(zs.map λz=>aD z.2).length<=aT:=bM (m:=128) (by rw [ag];lia);refine Th J0 Hh Hi (ksk_s1 _ _) ?_;unfold ie.«sorted»;refine ae (m:=NZ "sorted" 1 1 _) (ao (ae (vQ (s:={ s1 with heap:=h',toks:=tk }) ⟨_,op,rfl,n1,rfl⟩ hzl λh3 tk3 keep3=>?_)));refine ae (nV ?_ hzl);have g4:(h3.push (bY "list" (zs.map λz=>aD z.2).toArray 0)).get? h3.objs.size=some (bY "list" (zs.map λz=>aD z.2).toArray 0):=aI _ rfl;have hb:∀ b o,h'.get? b=some o->b≠h3.objs.size:=λb o e=>a9 (aJ (keep3 b o e));have k4:∀ {h:cb},TY h3.objs.size (h3.push (bY "list" (zs.map λz=>aD z.2).toArray 0)) h->∀ b o,h'.get? b=some o->h.get? b=some o:=λk b o e=>k b o (hb b o e) (au _ (keep3 b o e))
 have gD:h'.get? h3.objs.size=none:=by
  cases q:h'.get? h3.objs.size with
  | none=>rfl
  | some o=>exact absurd rfl (hb _ o q)
 show aG (aM X.prog X.w) X.A.in1 (do let _ ← kj [aD h3.objs.size] (call (.builtin "list.sort") [aD h3.objs.size] _);ret (aD h3.objs.size)) _ _ { s1 with heap:=h3.push (bY "list" (zs.map λz=>aD z.2).toArray 0),toks:=tk3 }
 refine ae (cq (W9 Al ⟨_,g4,rfl⟩ xD ?_ (ksk_l1 _ _)))
 show aG (aM X.prog X.w) X.A.in1.in1 (ie.«list.sort» ⟨[.ref h3.objs.size],[(fq "key",.ref f)]⟩) _ _ _
 rw [ksk_t1]
 refine Ii (s:={ s1 with heap:=h3.push (bY "list" (zs.map λz=>aD z.2).toArray 0),toks:=tk3 }) (KO:=λz o=>∃ t,o=Ig z t) g4 h64 one (λz hz h tk' kp R hR=>turn z hz h tk' (k4 kp) R hR) ?_ ?_ λh7 tk7 c7 zs' kp g7 hperm hsort=>⟨_,rfl,ao ⟨_,rfl,?_⟩⟩
 ·rintro z o ⟨t,rfl⟩;exact ⟨rfl,_,t,_,0,rfl,rfl⟩
 ·rintro z hz z' hz' k k' o o' h tk' kp g g' ⟨t,rfl⟩ ⟨t',rfl⟩ Q' hQ
  have tie:∀ z∈zs,∃ v x y t u,z.1=[v,x,y]/\pH h z.2 #[.int x t,.int y u]:=λz hz=>by
   obtain ⟨ww,xx,yy,ez,hzt,hzw⟩:=k2 z hz;obtain ⟨ts,r,it,_⟩:=I2.tuple (.of hzt)
   cases r with
   | cons h1 r =>
    cases r with
    | cons h2 r =>
     cases r;obtain ⟨t,rfl⟩:=h1;obtain ⟨u,rfl⟩:=h2;obtain ⟨o,e,rest⟩:=it;exact ⟨ww,xx,yy,t,u,ez,o,k4 kp _ o e,rest⟩
  obtain ⟨v1,x1,y1,ta,tb,z1,b1⟩:=tie z hz;obtain ⟨v2,x2,y2,tc,td,z2,b2⟩:=tie z' hz';rw [z1,z2] at hQ;refine Si (s:={ s1 with heap:=h,toks:=tk' }) (w1:=v1) (w2:=v2) ⟨_,g,rfl,0,by unfold Ig;rw [z1];rfl⟩ ⟨_,g',rfl,0,by unfold Ig;rw [z2];rfl⟩ b1 b2 (by show X.A.units+1+1<_;lia) hQ
 ·obtain ⟨hn,I3⟩:=I2.QV (t':=tk7) (o:=.lst (zs'.map lF)) (k4 kp) gD ⟨by rw [ag,hperm.length_eq];exact bM (m:=128) (by lia),_,c7,pR zs',g7⟩;exact ⟨.ref h3.objs.size,_,I3,rfl,k h3.objs.size zs' H2 hn S2 T2 hperm hsort⟩
end
end L2
namespace L2
def mi {K:aa}{ta:TE}{f:bh}{Z:St}{H:Hp}{Q:VK}(h:ta Z H λx H1=>∃ a C dx fs v,x=.ref a/\H1 a=some (.ins C dx fs)/\CO K C/\dE K C f/\fs.lookup f=some v/\Q v H1):fg K ta f Z H Q:=h
def xU {C:af}{m:bh}{sp:Sp}{dvs:List V}{E:XK}{ta:TE}{t:TA}{Z:St}{H:Hp}{Q:VK}(h:ta Z H λx H1=>∃ a dx fs,x=.ref a/\H1 a=some (.ins C dx fs)/\fs.lookup m=none/\t Z H1 λvs H2=>sp (x::(vs++dvs)) H2 Q E):fN C m sp dvs E ta t Z H Q:=h
section
variable {K:aa}{mg:bh->Option ai}{x q:bh}{C:af}{st:dk}{ps:List bh}{CX:JP}{k:Nat}{sp:Sp}
def qw.l7 (d:qw K mg x st ps) (P:aY) (w:bH) (base:cb) (h:lj P w K mg base CX k d.f d.d ps sp):Cal P w K mg base CX k x ps sp:=⟨d.f,d.d,h,d.m,d.F.kp,d.b⟩
def lK.l7 (d:lK K C x q st ps) (P:aY) (w:bH) (base:cb) (h:lj P w K mg base CX k d.f d.d ps sp):VV P w K mg base CX k C x ps sp:=⟨d.f,d.d,h,⟨d.a,d.i,d.F.kp⟩,d.b⟩
def lK.Ws (d:lK K C "__init__" q st ps) (P:aY) (w:bH) (base:cb) (mk:kH K C=true) (kc:eD K (.ref C)=true) (h:lj P w K mg base CX k d.f d.d ps sp):CalI P w K mg base CX k C ps sp:=⟨d.f,d.d,h,⟨mk,d.a,d.i,kc⟩,d.b⟩
def Lj.oj {P:aY}{w:bH}{base:cb}{f:af}{fd:eI}{N:List bh}{t:TS}(F:Lj K x q st f fd) (S:bI N ps (aX st)) (len:∀ vs H Q E,sp vs H Q E->vs.length=ps.length) (run:∀ vs H Q E,sp vs H Q E->t { nx:=λ_ H'=>Q .non H',rt:=Q } (start N vs) H)
  (b:∀ (nj:ai) (A:bN) (outer:List Ek) (s:ak) (H:Hp) (E:XK),hU k (A.deeper (tL q (aX st) s.heap.objs.size f nj))->JS (Fz HI P w K mg base N q (aX st) f nj A outer s H E).Uv (kh st) t):lj P w K mg base HI (k+1) f fd ps sp :=
 F.ok S len λnj A outer s H vs Q E hr h=>⟨t,b nj A outer s H E hr,run vs H Q E h⟩
end
section
variable {X:Cx}{pos:kM}{i:Nat}{x:bh}
def oH {e:Expr}{te:TE}{pos':kM}(hN:X.N.Nodup) (he:PE X e te) (hi:X.N[i]?=some x:=by rfl) (hx:Loc X.env.scope x:=by exact .inl rfl) (hs:Av e (some (.Name x pos')) pos.line X.env=pure false:=by rfl) (hf:X.fn x=true\/X.env.scope.names.lookup x=some .local:=by first|exact .inl rfl|exact .inr rfl|assumption):PS X (.Assign [.Name x pos'] e pos) (dh te (bo i)):=AK hN hi hx he hs hf
def gj (hN:X.N.Nodup) (hi:X.N[i]?=some x:=by rfl) (hx:Loc X.env.scope x:=by exact .inl rfl) (hf:X.fn x=true\/X.env.scope.names.lookup x=some .local:=by first|exact .inl rfl|exact .inr rfl|assumption):PG X (.Name x pos) (bo i):=RD hN hi hx hf
end
end L2
namespace L2
open PySem PySem.Spec PySem.Calls PyProof.Rows PySem.W
section
variable {prog:aY}{w:bH}{A:bN}{env:Ek}{s:ak}{h:cb}{a b:Expr}{i j:Int}{pos:kM}
def MA.sub (ha:MA prog w A env s h a i) (hb:MA prog w A env s h b j):MA prog w A env s h (.BinOp a .Sub b pos) (i-j):=ha.bin hb λ_ _ _ _ _ q=>sub_int (q _ _)
end
def Ij (z:Zn) (t u:SU):ft:=bY "tuple" #[.int (z.1.headD 0) t,.int (z.1.tail.headD 0) u] 0
def Kp (Pt:af) (pos:kM) (qual:bh) (tx:TA):TE:=λZ H Q=>tx Z H λv H1 =>
 ∃ (p:af) (zs:List Zn),v=[.ref p]/\H1 p=some (.lst (zs.map lF))/\(∀ z∈zs,∃ x y:Int,z.1=[y-x,x]/\H1 z.2=some (.tup [.int x,.int y]))/\zs.length<128/\qE Pt pos qual H1 /\
  ∀ (l:af) (zs':List Zn) (H2:Hp),H2 l=none->pC Pt H1 H2->qE Pt pos qual H2->zs'.Perm zs->zs'.Pairwise (λz w=>fA w.1 z.1=false)->Q (.ref l) (upd H2 l (.lst (zs'.map lF)))
section
variable {X:Cx}{c Pt:af}{e:Expr}{tx:TA}{x:bh}{params:l8}{scope:jB}{p0 p1 p2 p3 p4 p5 p6 p7 p8 p9 p10 p11 lpos kpos pos:kM}{x1 n1 n2 n3:Nat}
def PK (hcalm:X.calm=true) (hcode:X.env.code=.ref c) (C0:ig X.base c Pt) (B:X.base.BuiltinsAt X.mg Pt) (hroom:X.A.depth<qJ) (hun:X.A.units+128<gO)
  (hgl:Gl X "sorted") (hm:X.mg "sorted"=none) (hx:PA X [e] tx)
  (hs:gm pos (bF [e] X.env)=(false,eN e X.env)::gm pos (bF [] X.env):=by rfl) (hpl:(gm pos (bF [e] X.env)).any (·.1)=false:=by rfl)
  (hdef:defaultsOf params X.env=([],[]):=by rfl)
  (hbind:∀ clos pm nj ctv v,Ad (kla_fn "<lambda>" (X.env.qual++"<lambda>") params (.Tuple [.BinOp (.Subscript (.Name x p1) (.Constant (.int 1) n1 p2) p3) .Sub (.Subscript (.Name x p4) (.Constant (.int 0) n2 p5) p6) p7,.Subscript (.Name x p8) (.Constant (.int 0) n3 p9) p10] x1 p11) scope clos pm nj ctv) ⟨[v],[]⟩=pure [(x,v)]:=by intros;rfl)
  (hsx:scope.names.lookup x=some .local:=by rfl) (hk:scope.kind=.function:=by rfl) (hco:scope.isCoroutine=false:=by rfl) (hgen:scope.isGenerator=false:=by rfl) (hcell:∀ z∈scope.names,z.2≠.cell:=by decide +kernel)
  (hfr:(scope.names.all λy=>y.2 != .free || X.env.kindOf y.1 == some .cell || X.env.kindOf y.1 == some .free)=true:=by rfl)
  (hdx:(x == ("__debug__":bh))=false:=by decide) :
  PE X (.Call (.Name "sorted" p0) [e] [⟨some "key",.Lambda params (.Tuple [.BinOp (.Subscript (.Name x p1) (.Constant (.int 1) n1 p2) p3) .Sub (.Subscript (.Name x p4) (.Constant (.int 0) n2 p5) p6) p7,.Subscript (.Name x p8) (.Constant (.int 0) n3 p9) p10] x1 p11) scope lpos,kpos⟩] pos) (Kp Pt lpos (X.env.qual++"<lambda>") tx):=by
 intro pins s Z H Q I h;refine fc (nW I hgl hm (u:=.builtin "sorted") BootT.A2 ?_);refine callWith_kw ?_ hs hpl;refine gP (hx pos pins s Z H _ I h) λus s1 ⟨vs,H1,I1,rv,q⟩=>?_;obtain ⟨p,zs,rfl,hp,hkv,h64,hT,k⟩:=q;obtain ⟨u,rfl,ru⟩:=vals1 rv;cases ru
 show aG _ X.A (evalAll [do let v ← eN _ X.env;sR pos;pure v]) _ _ s1
 refine wpAny_evalAll_cons (ae (HP I1 hcode C0 B hdef (qZ I1 hfr) hT λf c' ctv h' tk H2 I2 hf hrec S2 T2 hk2=>ae (tH (ao (wpAny_evalAll_nil ?_)))));obtain ⟨ps,hPt⟩:=hT.tbl;have hp2:=S2 p _ (λz=>by rw [z,hPt] at hp;cases hp) hp
 have k2:∀ z∈zs,∃ x y:Int,z.1=[y-x,x]/\H2 z.2=some (.tup [.int x,.int y]):=λz hz=>by
  obtain ⟨x,y,e1,e2⟩:=hkv z hz;exact ⟨x,y,e1,S2 _ _ (λz=>by rw [z,hPt] at e2;cases e2) e2⟩
 obtain ⟨its,n1,rp,op,zp⟩:=I2.lst hp2;have hits:=vO rp;subst hits;have hh:X.A.handled=none:=I2.ok.hd hcalm
 have one:∀ z∈zs,∀ z'∈zs,z.2=z'.2->z.1=z'.1:=λz hz z' hz' e=>by
  obtain ⟨x1,y1,e1,e2⟩:=k2 z hz;obtain ⟨x2,y2,f1,f2⟩:=k2 z' hz';rw [e,f2] at e2;cases e2;rw [e1,f1]
 have turn:∀ z∈zs,∀ (h:cb) (tk':Nat),(∀ b o,h'.get? b=some o->h.get? b=some o)->∀ R:ai->ak->Prop,
   (∀ h3 tk3 k o,(∀ b o,h.get? b=some o->h3.get? b=some o)->h.get? k=none->h3.get? k=some o->(∃ t u,o=Ij z t u)->R (.ref k) { s1 with heap:=h3,toks:=tk3 })->aG (aM X.prog X.w) X.A.in1.in1 (call (.ref f) [.ref z.2]) R (λ_ _=>False) { s1 with heap:=h,toks:=tk' }:=by
  intro z hz h tk' kk R hR;obtain ⟨xx,yy,ez,hzt⟩:=k2 z hz;have J:Inv X pins Z H2 { s1 with heap:=h,toks:=tk' }:=I2.kept kk;refine EN (s:={ s1 with heap:=h,toks:=tk' }) (by exact hroom) (kk f _ hf) ?_ (I2.mod.nolimit.keeps λb o e=>kk b o (I2.bk b o e)) (hbind _ _ _ _ _) hsx hk hco hgen hcell λenv h3 tk3 E' q1 q2 q3 hns hk3=>?_
  ·obtain ⟨c2,o2,vs2,t2',e2,h2,d2⟩:=hrec;cases e2;exact ⟨c',o2,vs2,t2',rfl,kk _ _ h2,d2⟩
  ·obtain ⟨ts,r,it,_⟩:=J.tuple (.of hzt)
   cases r with
   | cons h1 r =>
    cases r with
    | cons h2 r =>
     cases r;obtain ⟨t1,rfl⟩:=h1;obtain ⟨t2,rfl⟩:=h2
     have it3:pH h3 z.2 #[.int xx t1,.int yy t2]:=by
      obtain ⟨o,e,rest⟩:=it;exact ⟨o,hk3 _ _ e,rest⟩
     have sz:(#[fj xx t1,fj yy t2]).size<=aT:=bM (m:=2) (ar 2);have a0:∀ {A':bN}{pa pb pc n},MA X.prog X.w A' env { s1 with heap:=h,toks:=tk' } h3 (.Subscript (.Name x pa) (.Constant (.int (0:Nat)) n pb) pc) xx:=λ{A' pa pb pc n}=>MA.UD (k:=0) (by rw [q1];exact hk) (by rw [q1];exact hsx) hns it3 rfl sz hdx;have a1:∀ {A':bN}{pa pb pc n},MA X.prog X.w A' env { s1 with heap:=h,toks:=tk' } h3 (.Subscript (.Name x pa) (.Constant (.int (1:Nat)) n pb) pc) yy:=λ{A' pa pb pc n}=>MA.UD (k:=1) (by rw [q1];exact hk) (by rw [q1];exact hsx) hns it3 rfl sz hdx;refine CI (eT ((a1.sub a0) _ _ _ λtk4 t=>eT (a0 _ _ _ λtk5 u=>jC ⟨bM (m:=2) (ar 2),?_⟩)));refine hR _ _ _ _ (λb o e=>au _ (hk3 b o e)) ?_ (aI _ rfl) ⟨t,u,by unfold Ij;rw [ez];rfl⟩
     cases q:h.get? h3.objs.size with
     | none=>rfl
     | some o=>exact absurd (aJ (hk3 _ _ q)) (eL _)
 have hzl:(zs.map λz=>aD z.2).length<=aT:=bM (m:=128) (by rw [ag];lia);refine Th J0 Hh Hi (ksk_s1 _ _) ?_;unfold ie.«sorted»;refine ae (m:=NZ "sorted" 1 1 _) (ao (ae (vQ (s:={ s1 with heap:=h',toks:=tk }) ⟨_,op,rfl,n1,rfl⟩ hzl λh3 tk3 keep3=>?_)));refine ae (nV ?_ hzl);have g4:(h3.push (bY "list" (zs.map λz=>aD z.2).toArray 0)).get? h3.objs.size=some (bY "list" (zs.map λz=>aD z.2).toArray 0):=aI _ rfl;have hb:∀ b o,h'.get? b=some o->b≠h3.objs.size:=λb o e=>a9 (aJ (keep3 b o e));have k4:∀ {h:cb},TY h3.objs.size (h3.push (bY "list" (zs.map λz=>aD z.2).toArray 0)) h->∀ b o,h'.get? b=some o->h.get? b=some o:=λk b o e=>k b o (hb b o e) (au _ (keep3 b o e))
 have gD:h'.get? h3.objs.size=none:=by
  cases q:h'.get? h3.objs.size with
  | none=>rfl
  | some o=>exact absurd rfl (hb _ o q)
 show aG (aM X.prog X.w) X.A.in1 (do let _ ← kj [aD h3.objs.size] (call (.builtin "list.sort") [aD h3.objs.size] _);ret (aD h3.objs.size)) _ _ { s1 with heap:=h3.push (bY "list" (zs.map λz=>aD z.2).toArray 0),toks:=tk3 }
 refine ae (cq (W9 Al ⟨_,g4,rfl⟩ xD ?_ (ksk_l1 _ _)))
 show aG (aM X.prog X.w) X.A.in1.in1 (ie.«list.sort» ⟨[.ref h3.objs.size],[(fq "key",.ref f)]⟩) _ _ _
 rw [ksk_t1]
 refine Ii (s:={ s1 with heap:=h3.push (bY "list" (zs.map λz=>aD z.2).toArray 0),toks:=tk3 }) (KO:=λz o=>∃ t u,o=Ij z t u) g4 h64 one (λz hz h tk' kp R hR=>turn z hz h tk' (k4 kp) R hR) ?_ ?_ λh7 tk7 c7 zs' kp g7 hperm hsort=>⟨_,rfl,ao ⟨_,rfl,?_⟩⟩
 ·rintro z o ⟨t,u,rfl⟩;exact ⟨rfl,_,t,_,0,rfl,rfl⟩
 ·rintro z hz z' hz' k k' o o' h tk' kp g g' ⟨t,u,rfl⟩ ⟨t',u',rfl⟩ Q' hQ;obtain ⟨x1,y1,z1,_⟩:=k2 z hz;obtain ⟨x2,y2,z2,_⟩:=k2 z' hz';rw [z1,z2] at hQ;exact LZ (s:={ s1 with heap:=h,toks:=tk' }) (m:=[false]) (.int _ (.int _ .nil)) (.int _ (.int _ .nil)) (us:=[.int (y1-x1) t,.int x1 u]) (ws:=[.int (y2-x2) t',.int x2 u']) (.cons ⟨_,rfl⟩ (.cons ⟨_,rfl⟩ .nil)) (.cons ⟨_,rfl⟩ (.cons ⟨_,rfl⟩ .nil)) ⟨_,g,rfl,0,by unfold Ij;rw [z1];rfl⟩ ⟨_,g',rfl,0,by unfold Ij;rw [z2];rfl⟩ hQ
 ·obtain ⟨hn,I3⟩:=I2.QV (t':=tk7) (o:=.lst (zs'.map lF)) (k4 kp) gD ⟨by rw [ag,hperm.length_eq];exact bM (m:=128) (by lia),_,c7,pR zs',g7⟩;exact ⟨.ref h3.objs.size,_,I3,rfl,k h3.objs.size zs' H2 hn S2 T2 hperm hsort⟩
end
end L2
namespace L2
open PySem PySem.Spec PySem.Calls PyProof.Rows PySem.W PySem.SeqAt
open PySem.AutoSeq1 (wpAny_loadPart')
section
variable {X:Cx}
end
end L2
namespace L2
open PySem PySem.Spec PySem.Calls PyProof.Rows PySem.W
def PL (K:aa):R2:=λx y H Q=>C3 K x y H Q\/∃ (l b:af) (xs ys:List V),x=.ref l/\y=.ref b/\H l=some (.lst xs)/\H b=some (.lst ys)/\xs.length≠ys.length/\Q (.bl true) H
def PN {X:Cx}(hu:X.A.units+64<gO):qc X (df .NotEq) (PL X.K):=(OQ hu).or (by
 intro pins s Z H x y v u Q I rx ry h;obtain ⟨l,b,xs,ys,rfl,rfl,h1,h2,hne,q⟩:=h;cases rx;cases ry;obtain ⟨its,n1,rp,op,zp⟩:=I.lst h1;obtain ⟨its2,n2,rp2,op2,zp2⟩:=I.lst h2;have e1:=rp.length;have e2:=rp2.length
 exact SeqAt.RcNeAt.lists_lengths ⟨_,op,rfl,_,rfl⟩ ⟨_,op2,rfl,_,rfl⟩ (by simp;lia) (by lia) _ _ _ _ ⟨.bl _,H,I,rfl,q⟩)
end L2
namespace L2
section
variable {X:Cx}{K:aa}
def Ya {tg l:Expr}{tl:TE}(hl:PE X l tl) (hK:X.K=K):PI X tg l (kO K tl):=hK▸jN hl
def Yb {a:Expr}{ta:TE}(ha:PE X a ta) (hK:X.K=K) (he:∀ whole,isTrue a X.env whole=(do let v ← whole;sR a.pos;kj [v] (truthy v))):PT X a (lh K ta):=hK▸OV ha he
def Yc {e:Expr}{f:bh}{pos:kM}{ta:TE}(he:PE X e ta) (hK:X.K=K) (hb:nU e f X.env (eN e X.env)=eN e X.env):PE X (.Attribute e f pos) (fg K ta f):=hK▸Vb he hb
def Yd {o value:Expr}{f:bh}{pos pos':kM}{ta tv:TE}(ha:PE X o ta) (hv:PE X value tv) (hK:X.K=K) (hs:Av value (some (.Attribute o f pos')) pos.line X.env=pure false):PS X (.Assign [.Attribute o f pos'] value pos) (sZ K ta tv f):=hK▸Fx ha hv hs
def Ye {es:List Expr}{k n:Nat}{t:Re}{pos:kM}(hc:X.calm=true) (h:Xg X es t) (hK:X.K=K) (hn:(nv es X.env).length=n) (hst:(nv es X.env).findIdx? (·.1)=none):PG X (.Tuple es k pos) (Fp K n t):=hK▸Fs hc h hn hst
def o_bm {o e:Expr}{es:List Expr}{to:TE}{t:TA}{name:bh}{apos cpos:kM}{T id:String}{r:V->List V->Hp->VK->Prop}(pa:PlainAttrs T) (slot:Slot T name id) (hty:typeOf (.builtin id)=pure (.type "method_descriptor")) (hm:MtR X id r) (ho:PE X o to) (ha:PA X (e::es) t) (hK:X.K=K)
  (hbase:nU o name X.env (eN o X.env)=eN o X.env)
  (hfew:((gm cpos (bF (e::es) X.env)).all (λx=>!x.1) && (Ae cpos (om [] X.env)).all (λx=>x.1.isSome)
   && decide ((e::es).length+([]:List G0).length+(if ([]:List G0).isEmpty then 0 else 1)<30))=true)
  (hline:(apos.endLine == cpos.line)=true) (hs:bF (e::es) X.env=(false,eN e X.env)::bF es X.env) (hplain:(gm cpos (bF es X.env)).any (·.1)=false) :
  PE X (.Call (.Attribute o name apos) (e::es) [] cpos) (C2 K T r to t):=hK▸nC pa slot hty hm ho ha hbase hfew hline hs hplain
end
def Lj.l0 {K:aa}{mg:bh->Option ai}{x q:bh}{st:dk}{ps:List bh}{k:Nat}{sp:Sp}{P:aY}{w:bH}{base:cb}{f:af}{fd:eI}{N:List bh}{t:TS}(F:Lj K x q st f fd) (S:bI N ps (aX st)) (run:∀ vs H Q E,sp vs H Q E->t { nx:=λ_ H'=>Q .non H',rt:=Q } (start N vs) H)
  (b:∀ {nj:ai}{A:bN}{outer:List Ek}{s:ak}{H:Hp}{E:XK},hU k (A.deeper (tL q (aX st) s.heap.objs.size f nj))->N.Nodup->JS (Fz HI P w K mg base N q (aX st) f nj A outer s H E).Uv (kh st) t)
  (len:∀ vs H Q E,sp vs H Q E->vs.length=ps.length:=by first|(intro vs H Q E h;cases h;subst_vars;rfl)|(intro vs H Q E h;repeat' (first|(obtain ⟨e,_⟩:=h;exact e▸rfl)|(obtain ⟨_,h⟩:=h)))):lj P w K mg base HI (k+1) f fd ps sp :=
 F.oj S len run λnj A outer s H E hr=>b hr S.nd
end L2
namespace Sw
open PySem PySem.Spec PyProof.Rows PySem.W
def vI:ai->Int
 | .int i _=>i
 | _=>0
def PP {vs:List ai}{ns:List Int}(h:eO vs ns):ns=vs.map vI/\∀ v∈vs,∃ t,v=.int (vI v) t:=by
 induction h with
 | nil=>exact ⟨rfl,λv hv=>nomatch hv⟩
 | cons n t _ ih =>
  refine ⟨by rw [bU,← ih.1];rfl,λv hv=>?_⟩
  rcases av.mp hv with rfl|hv
  ·exact ⟨_,rfl⟩
  ·exact ih.2 v hv
theorem Ma:∀ {vs:List ai},(∀ v∈vs,∃ t,v=.int (vI v) t)->eO vs (vs.map vI)
 | [],_=>.nil
 | v::vs,h=>by
  obtain ⟨t,e⟩:=h v aw;rw [bU];have:=Ma λu hu=>h u (aj _ hu);generalize vI v=i at e;subst e;exact .cons i t this
section
variable {prog:aY}{w:bH}{A:bN}{E:ai->ak->Prop}{s:ak}{a:af}
def Ik {ks:List Int}{h₀:cb} {L:af}{m:bh->Option ai}{jZ:List (af×ft)}{Q:ai->ak->Prop}(hh:A.handled=none) (hS:SO prog w (bt w) s.heap a ks) (h64:ks.length<128) (F:Fr h₀ L s.heap m) (N:News h₀ L s.heap jZ)
  (q:∀ D c h' tk d (out:List ai) (ns:List Int),Fr h₀ L h' m->News h₀ L h' ((D,bY "list" out.toArray c)::jZ)->(∀ p∈jZ,p.1<D)->eO out ns->ns.Perm ks->ns.Pairwise (·<=·)->Q (.ref D) { s with heap:=h',toks:=tk,drawn:=d }) :
  aG (aM prog w) A (call (.builtin "sorted") [.ref a]) Q E s:=by
 refine pF J0 Hh Hi (args_sorted1 _) (ae (m:=NZ "sorted" 1 1 _) (ao (ae (Ie hh hS (L2.bM (m:=128) (by lia)) λh1 tk d vs ns keep hi hp=>?_))))
 have hvl:vs.length<128:=by rw [hi.length,hp.length_eq];exact h64
 have hz:vs.length<=aT:=L2.bM (m:=128) (by lia);refine ae (nV ?_ hz);have F1:=F.kept keep;have N1:=N.grown keep;have hL:L<h1.objs.size:=F1.ns.lt;have g:(h1.push (bY "list" vs.toArray 0)).get? h1.objs.size=some (bY "list" vs.toArray 0):=aI _ rfl
 show aG (aM prog w) A.in1 (do let _ ← kj [aD h1.objs.size] (call (.builtin "list.sort") [aD h1.objs.size]);ret (aD h1.objs.size)) _ _ { s with heap:=h1.push (bY "list" vs.toArray 0),toks:=tk,drawn:=d }
 have hb:∀ b o,s.heap.get? b=some o->b≠h1.objs.size:=λb o e=>a9 (aJ (keep b o e));obtain ⟨en,hv⟩:=PP hi;refine ae (cq (cI Al ⟨_,g,rfl⟩ xD (Sy.sort_vals (κ:=oneType') (r:=vI) (s:={ s with heap:=h1.push (bY "list" vs.toArray 0),toks:=tk,drawn:=d }) g hvl (λh2 h' k=>⟨λQ hQ=>?_,λx hx y hy Q hQ=>?_⟩) λh' c out k gD hp' hs=>⟨_,rfl,ao ⟨_,rfl,?_⟩⟩) (args_list_sort _)))
 ·rw [ksk_kind (kz:=ns) (by simpa using hi) (by simpa using h2)];exact ao hQ
 ·obtain ⟨t1,e1⟩:=hv x hx;obtain ⟨t2,e2⟩:=hv y hy;rw [e1,e2];exact kat_lt_int hQ
 ·have k7:∀ b o,s.heap.get? b=some o->h'.get? b=some o:=λb o e=>k b o (hb b o e) (au _ (keep b o e));have hvo:∀ v∈out,∃ t,v=.int (vI v) t:=λv h=>hv v (hp'.mem_iff.mp h);refine q h1.objs.size c _ tk d out (out.map vI) (F.kept k7) (λp hp2=>?_) (λp hp2=>aJ (N1 p hp2).1) (Ma hvo) (((hp'.map vI).trans (by rw [← en])).trans hp) (dj.mpr hs)
  rcases av.mp hp2 with rfl|hp2
  ·exact ⟨gD,dN hL,N7 (bf F1.above (kx hL))⟩
  ·exact (N.grown k7) p hp2
end
end Sw
namespace L2
open PySem PySem.Spec PyProof.Rows PySem.W
def xV (K:aa) (t:TA):TE:=λZ H Q=>t Z H λvs H1=>∃ (a:af) (ns:List Int),vs=[.ref a]/\c9 K H1 a (ns.map V.int)/\ns.length<=4000/\(∃ ds:List Int,ds.length<128/\∀ x∈ns,x∈ds) /\
 ∀ p (ks:List Int),H1 p=none->ks.Pairwise (· < ·)->(∀ x,x∈ks↔x∈ns)->Q (.ref p) (upd H1 p (.lst (ks.map V.int)))
def Kq {K:aa}{t:TA}{Z:St}{H:Hp}{Q:VK}(h:t Z H λvs H1=>∃ (a:af) (ns:List Int),vs=[.ref a]/\c9 K H1 a (ns.map V.int)/\ns.length<=4000/\(∃ ds:List Int,ds.length<128/\∀ x∈ns,x∈ds) /\
 ∀ p (ks:List Int),H1 p=none->ks.Pairwise (· < ·)->(∀ x,x∈ks↔x∈ns)->Q (.ref p) (upd H1 p (.lst (ks.map V.int)))):xV K t Z H Q:=h
section
variable {X:Cx}{x:Expr}{t:TA}{p1 p2 q1 q2:kM}
def Il (hc:X.calm=true) (hgl:Gl X "sorted") (hml:X.mg "sorted"=none) (hgz:Gl X "set") (hmz:X.mg "set"=none) (ha:PA X [x] t)
  (he:bF [.Call (.Name "set" p1) [x] [] p2] X.env=[(false,eN (.Call (.Name "set" p1) [x] [] p2) X.env)]:=by rfl) (he2:bF [x] X.env=(false,eN x X.env)::bF [] X.env:=by rfl) (hpl:(gm p2 (bF [] X.env)).any (·.1)=false:=by rfl) :
  PE X (.Call (.Name "sorted" q1) [.Call (.Name "set" p1) [x] [] p2] [] q2) (xV X.K t):=by
 intro pins s Z H Q I h;refine fc (nW I hgl hml BootT.A2 (vn ?_ he rfl));rw [he]
 show aG _ _ (spliced ((false,eN (.Call (.Name "set" p1) [x] [] p2) X.env)::gm q2 (bF [] X.env))) _ _ s
 refine eT (fc (nW I hgz hmz BootT.set (f9 (gP (ha p2 pins s Z H _ I h) λus s1 ⟨vs,H1,I1,r1,q⟩=>?_) he2 hpl)));obtain ⟨a,ns,rfl,hA,hl4,⟨ds,hds,hsub⟩,k⟩:=q;obtain ⟨u,rfl,ru⟩:=vals1 r1;cases ru;obtain ⟨its,rv,pl,hz⟩:=I1.list hA;have hi:eO its ns:=intsAre_of rv;have hlen:=hi.length;refine Sw.Pd (ns:=ns) (I1.ok.hd hc) pl.isList (by simpa using hi) (by rw [aO,hlen];unfold vk;lia) λh2 tk ks hS hmem hle hk=>jC ?_
 have hnd:ks.Nodup:=by obtain ⟨_,_,_,_,_,_,_,_,_,_,_,_,_,_,hn⟩:=hS;exact hn
 have h64:ks.length<128:=bw (Pk hnd λx hx=>hsub x ((hmem x).mp hx)) hds;have I2:Inv X pins Z H1 { s1 with heap:=h2,toks:=tk }:=I1.kept (t':=tk) hk;obtain ⟨m,F,N⟩:=I2.NK;refine Sw.Ik (s:={ s1 with heap:=h2,toks:=tk }) (I1.ok.hd hc) hS h64 F N λD c h' tk' d out ms F' N' hD a1 a2 a3=>?_;obtain ⟨hn,I3⟩:=I2.QW (t':=tk') (o:=.lst (ms.map V.int)) F.ns F' N' hD ⟨by rw [ag,a2.length_eq];exact bM (m:=128) (by lia),out,c,xN a1,(N' _ aw).1⟩;refine ⟨.ref D,_,I3.drawn d,rfl,k D ms hn ?_ (λx=>by rw [a2.mem_iff,hmem])⟩;have hnd':ms.Nodup:=a2.nodup_iff.mpr hnd
 exact (List.Pairwise.and a3 hnd').imp λ{x y} h=>by
  have h1:=h.1;have h2:x≠y:=h.2;lia
end
end L2
namespace L2
open PySem PySem.Spec PyProof.Rows PySem.W
def Nl {k:fT}{v:ai}(h:vq k v=true):RelV (kV k) v:=by
 rcases fM h with ⟨i,t,rfl,rfl⟩|⟨x,t,rfl,rfl⟩
 ·exact ⟨_,rfl⟩
 ·exact ⟨_,rfl⟩
def WU (a:af) (kvs:List (fT×V)) (o:ft):It :=
 ⟨λi H=>i<kvs.length/\H a=some (.frz o (.dK kvs)),λi H x H'=>H'=H/\∃ k v,kvs[i]?=some (k,v)/\x=kV k,λi H=>kvs.length<=i/\H a=some (.frz o (.dK kvs))⟩
def Pairs.at {P:aY}{w:bH}{es:List Rp}{vs:List (fT×ai)}(h:Pairs (ee P w) es vs):∀ {i:Nat}{q:fT×ai},vs[i]?=some q->∃ e,es[i]?=some e/\vq q.1 e.key=true:=by
 induction h with
 | nil=>intro i q e;simp at e
 | cons h1 _ _ ih =>
  intro i q e
  cases i with
  | zero =>
   simp only [iX,eW] at e;subst e
   exact ⟨_,rfl,h1⟩
  | succ i=>exact ih (by simpa using e)
def Su {P:aY}{w:bH}{K:aa}{tg:Expr}(a it:af) (o:ft) (kvs:List (fT×V)) (es:Array Rp) (ep:Nat) (hx:o.ExactDict) (hd:o.data=.dict es ep) (hl:es.size=kvs.length) :
  J2 P w K tg (WU a kvs o) [it] it (λi h=>h.IsKeyIter it a i (es.toList.map (·.key)).length ep) where
 mem:=by simp
 obj:=λi h st b hb=>by
  have e:b=it:=by simpa using hb
  subst e;obtain ⟨o,e,c,d⟩:=st;exact ⟨o,e,λv z=>by rw [d] at z;cases z⟩
 keep:=λi h h' st k=>st.at λo e=>k it (by simp) o e
 item:=by
  intro X hP hw hK hc i pins s Z H E I hf st hg;subst hP hw hK;obtain ⟨hlt,hq⟩:=hg
  obtain ⟨e0,_,_,vs,rel,o',es',ep',e1,e2,e3,e4,e5,e6⟩:=(show d9 X.prog X.w H s.heap a (.frz o (.dK kvs)) from I.eC a _ hq)
  rw [e0] at e1;cases e1;rw [hd] at e3
  injection e3 with e3 e3'
  subst e3 e3'
  obtain ⟨⟨k,v⟩,hkv⟩:∃ p,kvs[i]?=some p:=⟨kvs[i],by simp [hlt]⟩
  obtain ⟨q,hq2,rq⟩:=L2.Paired.at rel hkv;obtain ⟨en,he,hk⟩:=Pairs.at e5 hq2;rw [← rq.1] at hk
  have hkey:(es.toList.map (·.key))[i]?=some en.key:=by rw [ax,he];rfl
  obtain ⟨f0,f1,f2,f3,f4,f5⟩:=hf it (by simp);refine A6 st ⟨o,es,e0,hx,hd,rfl⟩ hkey λh' st' sb=>?_;have I1:Inv X pins Z H { s with heap:=h' }:=I.turned (t':=s.toks) (λb o hb e=>(sb.2 b hb).trans e) f0 f1 f3 f4 f5;obtain ⟨o',e,c,d⟩:=id st';exact ⟨_,rfl,Es (s:={ s with heap:=h' }) e c d (by decide) ⟨kV k,H,I1,Nl hk,⟨rfl,k,v,hkv,rfl⟩,st',λb hb=>(hf b hb).1⟩⟩
 done:=by
  intro X hP hw hK hc i pins s Z H E I hf st hg;subst hP hw hK;obtain ⟨hle,hq⟩:=hg
  obtain ⟨e0,_⟩:=(show d9 X.prog X.w H s.heap a (.frz o (.dK kvs)) from I.eC a _ hq)
  obtain ⟨f0,f1,f2,f3,f4,f5⟩:=hf it (by simp)
  have hn:(es.toList.map (·.key)).length=kvs.length:=by rw [ag,aK,hl]
  exact FM (I.ok.hd hc) (by lia) st ⟨o,es,e0,hx,hd,rfl⟩ λh' eb=>⟨rfl,I.turned (t':=s.toks) (λb o hb e=>eb b o hb e) f0 f1 f3 f4 f5⟩
 self:=λ_ _ _ _ _ st h=>oq st h
def iDK (tl:TE):TI:=λZ H R=>tl Z H λx H1=>∃ a kvs,x=.ref a/\H1 a=some (.dK kvs)/\∀ o,R (WU a kvs o) (upd H1 a (.frz o (.dK kvs)))
section
variable {X:Cx}{tg:Expr}
def Yg {l:Expr}{tl:TE}(hl:PE X l tl):PI X tg l (iDK tl):=by
 intro pins s Z H R I h;refine gP (hl pins s Z H _ I h) λv s1 ⟨x,H1,I1,r1,q1⟩=>?_;obtain ⟨a,kvs,e,hq,q⟩:=q1;subst e;cases r1
 obtain ⟨hz,hsys,vs,rel,ob,es,ep,ho,hx,hd,he,hn,hnd⟩:=(show d9 X.prog X.w H1 s1.heap a (.dK kvs) from I1.eC a _ hq)
 have un:Un X.fs [] H1 (upd H1 a (.frz ob (.dK kvs))) s1.heap s1.heap:=by
  have hne:∀ b u,H1 b=some u->u≠.dK kvs->b≠a:=λb u e n z=>by subst z;rw [hq] at e;exact n (aV e).symm
  refine ⟨λb o e _ _ _=>e,λb o e _ _ _=>⟨o.slots,e⟩,λb o e n _=>?_,λb o e _=>⟨o,e⟩,λb ys e=>?_,λb o u e=>?_,λb ps e=>?_⟩
  ·rw [aH (λz=>by subst z;rw [hq] at n;cases n)];exact n
  ·rw [aH (hne b _ e (by intro z;cases z))];exact e
  ·rw [aH (hne b _ e (by intro z;cases z))];exact e
  ·exact ⟨#[],by rw [aH (hne b _ e (by intro z;cases z)),e];simp⟩
 have nt:∀ c ys,H1 c=some (.tup ys)->(upd H1 a (.frz ob (.dK kvs))) c=some (.tup ys):=λc ys q0=>by
  rw [aH (λz=>by rw [z,hq] at q0;cases q0)];exact q0
 have eC:qv X.prog X.w (upd H1 a (.frz ob (.dK kvs))) s1.heap:=λb u e=>by
  by_cases hb:b=a
  ·subst hb;rw [aE] at e;cases e;exact ⟨ho,hz,hsys,vs,rel,ob,es,ep,ho,hx,hd,he,hn,hnd⟩
  ·rw [aH hb] at e;refine (I1.eC b u e).yB (λc v _ q=>q) (λc q0=>?_) nt;rw [aH (λz=>by rw [z,hq] at q0;cases q0)];exact q0
 have I2:Inv X pins Z (upd H1 a (.frz ob (.dK kvs))) { s1 with heap:=s1.heap,toks:=s1.toks }:=I1.un un eC
 have hl:es.size=kvs.length:=by rw [← aK,Pairs.length hn,Paired.len rel]
 refine vL hsys ⟨ob,es,ho,hx,hd,rfl⟩ ?_;refine ⟨s1.heap.objs.size,[s1.heap.objs.size],_,_,_,rfl,I2.kept (t':=s1.toks) λb o e=>au _ e,Su a _ ob kvs es ep hx hd hl,⟨_,aI _ rfl,rfl,rfl⟩,λb hb=>?_,q ob⟩
 have e:b=s1.heap.objs.size:=by simpa using hb
 subst e;exact I2.JE (ar _) (I2.eC.fresh (ar _))
end
end L2
namespace Rm
variable {f:Nat->Int}{m:Nat}{r:List Int}
def tn {α:Type} (r:List α) (k:Nat):List α:=r.drop k++(r.drop 1).take k
def PQ {k:Nat}(hk:k<r.length):(tn r k).length=r.length:=by
 unfold tn;rw [bu,cN,bB,cN];lia
def Sv:tn r 0=r:=by simp [tn]
def Kr {a:Int}(h:a∈r):r.idxOf a<r.length:=fW.mpr h
end Rm
namespace Rm
section
variable {n:Nat}{v par:Nat->Nat}
end
end Rm
namespace Rm
def al:List Int->List (Int×Int)
 | []=>[]
 | [_]=>[]
 | a::b::r=>(a,b)::al (b::r)
theorem Kt:∀ r:List Int,al r=r.zip (r.drop 1)
 | []=>rfl
 | [_]=>rfl
 | a::b::r=>by
  have:=Kt (b::r);simp only [List.drop_succ_cons,Hq] at this ⊢;rw [jk,← this];rfl
theorem kP:∀ (xs:List Int) (x:Int) (ys:List Int),al (xs++x::ys)=al (xs++[x])++al (x::ys)
 | [],x,ys=>rfl
 | [a],x,ys=>rfl
 | a::b::xs,x,ys=>by
  have:=kP (b::xs) x ys
  show (a,b)::al ((b::xs)++x::ys)=(a,b)::al ((b::xs)++[x])++al (x::ys)
  rw [this];rfl
theorem fY:∀ {r:List Int}{x y:Int},(x,y)∈al r->x∈r/\y∈r
 | a::b::r,x,y,h=>by
  rcases av.mp h with e|h
  ·cases e;simp
  ·have:=fY h;exact ⟨aj _ this.1,aj _ this.2⟩
theorem Ku:∀ r:List Int,(al r).length=r.length-1
 | []=>rfl
 | [_]=>rfl
 | a::b::r=>by
  have:=Ku (b::r);simp only [al,bT] at this ⊢;lia
structure lJ (r:List Int):Prop where
 ne:r≠[]
 cnt:∃ ds:List Int,ds.Nodup/\(∀ x,x∈ds↔x∈r)/\r.length+1=2*ds.length
 ends:r.head?=r.getLast?
 nd:(al r).Nodup
 sym:∀ x y,(x,y)∈al r->(y,x)∈al r
def lJ.one (a:Int):lJ [a]:=⟨by simp,⟨[a],by simp,by simp,rfl⟩,rfl,by simp [al],λx y h=>by simp [al] at h⟩
def lJ.QY {A B:List Int}{z:Int}(h:lJ (A++z::B)) (hA:z∉A) (hB:z∉B) (hn:A++B≠[]):∃ A' w B',A=A'++[w]/\B=w::B':=by
 have he:=h.ends
 have hAne:A≠[]:=λe=>by
  subst e;simp only [List.nil_append,WO] at he hn
  rcases fI B with e|⟨us,u,e⟩
  ·exact hn e
  ·rw [fJ] at e;subst e;rw [show z::(us++[u])=(z::us)++[u] by simp,cL] at he;simp at he;subst he;exact hB (by simp)
 have hBne:B≠[]:=λe=>by
  subst e;rw [cL] at he;simp at he
  cases A with
  | nil=>exact hAne rfl
  | cons a A =>
   simp at he;subst he;exact hA (by simp)
 obtain ⟨A',w,e⟩:∃ A' w,A=A'++[w]:=by
  rcases fI A with e|⟨us,u,e⟩
  ·exact absurd e hAne
  ·exact ⟨us,u,by rw [e,fJ]⟩
 subst e
 cases B with
 | nil=>exact absurd rfl hBne
 | cons v B' =>
  refine ⟨A',w,B',rfl,?_⟩
  have e1:al (A'++[w]++z::v::B')=al (A'++[w])++((w,z)::(z,v)::al (v::B')):=by
   rw [di,N0,kP];rfl
  have m:=h.sym w z (by rw [e1];simp);rw [e1] at m
  rcases aN.mp m with m|m
  ·exact absurd (fY m).1 hA
  ·rcases av.mp m with m|m
   ·cases m;exact absurd (by simp) hA
   ·rcases av.mp m with m|m
    ·cases m;rfl
    ·exact absurd (fY m).1 hB
def PR (xs ys:List Int) (w z:Int):(al (xs++w::z::w::ys)).Perm ((w,z)::(z,w)::al (xs++w::ys)):=by
 rw [kP,kP xs w ys]
 show (al (xs++[w])++([(w,z),(z,w)]++al (w::ys))).Perm ([(w,z),(z,w)]++(al (xs++[w])++al (w::ys)))
 rw [← di,← di];exact List.Perm.append_right _ fH
def Bh (xs ys:List Int) (w z:Int):(xs++w::z::w::ys).head?=(xs++w::ys).head?/\(xs++w::z::w::ys).getLast?=(xs++w::ys).getLast?:=by
 constructor
 ·cases xs<;>simp
 ·cases ys with
  | nil=>simp [cL]
  | cons y ys=>simp [cL,lg]
def lJ.Nz {xs ys:List Int}{w z:Int}(h:lJ (xs++w::z::w::ys)) (hz:z∉xs++w::ys):lJ (xs++w::ys):=by
 have hp:=PR xs ys w z;have nd:=hp.nodup_iff.mp h.nd;have nd2:=(bp.mp nd).2;refine ⟨by simp,?_,?_,(bp.mp nd2).2,λx y hxy=>?_⟩
 ·obtain ⟨ds,h1,h2,h3⟩:=h.cnt;have hzd:z∈ds:=(h2 z).mpr (by simp);refine ⟨ds.erase z,h1.erase z,λx=>?_,?_⟩
  ·rw [h1.mem_erase_iff,h2]
   constructor
   ·rintro ⟨h4,h5⟩;simp at h5 ⊢
    rcases h5 with h5|h5|h5|h5|h5
    ·exact .inl h5
    ·exact .inr (.inl h5)
    ·exact absurd h5 h4
    ·exact .inr (.inl h5)
    ·exact .inr (.inr h5)
   ·intro h5;refine ⟨λe=>hz (e▸h5),?_⟩;simp at h5 ⊢
    rcases h5 with h5|h5|h5
    ·exact .inl h5
    ·exact .inr (.inl h5)
    ·exact .inr (.inr (.inr (.inr h5)))
  ·rw [J1 hzd];have:0<ds.length:=sW hzd;simp at h3 ⊢;lia
 ·have:=Bh xs ys w z;rw [← this.1,← this.2];exact h.ends
 ·have hm:=hp.mem_iff.mp (h.sym x y (hp.mem_iff.mpr (aj _ (aj _ hxy))))
  rcases av.mp hm with e|hm
  ·cases e;exact absurd (fY hxy).1 hz
  ·rcases av.mp hm with e|hm
   ·cases e;exact absurd (fY hxy).2 hz
   ·exact hm
def lJ.put {xs ys:List Int}{w z:Int}(h:lJ (xs++w::ys)) (hz:z∉xs++w::ys):lJ (xs++w::z::w::ys):=by
 have hp:=PR xs ys w z;have hwz:w≠z:=λe=>hz (by simp [e]);refine ⟨by simp,?_,?_,hp.nodup_iff.mpr ?_,λx y hxy=>?_⟩
 ·obtain ⟨ds,h1,h2,h3⟩:=h.cnt;refine ⟨z::ds,bp.mpr ⟨λhm=>hz ((h2 z).mp hm),h1⟩,λx=>?_,?_⟩
  ·rw [av,h2];simp
   constructor
   ·rintro (h|h|h|h)
    ·exact .inr (.inr (.inl h))
    ·exact .inl h
    ·exact .inr (.inl h)
    ·exact .inr (.inr (.inr (.inr h)))
   ·rintro (h|h|h|h|h)
    ·exact .inr (.inl h)
    ·exact .inr (.inr (.inl h))
    ·exact .inl h
    ·exact .inr (.inr (.inl h))
    ·exact .inr (.inr (.inr h))
  ·simp at h3 ⊢;lia
 ·have:=Bh xs ys w z;rw [this.1,this.2];exact h.ends
 ·refine bp.mpr ⟨λhm=>?_,bp.mpr ⟨λhm=>hz (fY hm).1,h.nd⟩⟩
  rcases av.mp hm with e|hm
  ·exact hwz (by cases e;rfl)
  ·exact hz (fY hm).2
 ·refine hp.mem_iff.mpr ?_
  rcases av.mp (hp.mem_iff.mp hxy) with e|hm
  ·cases e;simp
  ·rcases av.mp hm with e|hm
   ·cases e;simp
   ·exact aj _ (aj _ (h.sym x y hm))
theorem pS:∀ {ds r:List Int},ds.Nodup->(∀ x∈r,x∈ds)->(ds.map λd=>r.count d).sum=r.length
 | ds,[],h1,h2=>by
  have:(ds.map λd=>([]:List Int).count d)=ds.map λ_=>0:=by simp
  rw [this]
  clear this h1 h2
  induction ds with
  | nil=>rfl
  | cons d ds ih=>simpa using ih
 | ds,x::r,h1,h2=>by
  have ih:=pS (ds:=ds) (r:=r) h1 λy hy=>h2 y (aj _ hy);have hx:=h2 x aw
  have key:∀ (ds:List Int),ds.Nodup->(ds.map λd=>(x::r).count d).sum=(ds.map λd=>r.count d).sum+if x∈ds then 1 else 0:=by
   intro ds
   induction ds with
   | nil=>intro _;simp
   | cons d ds ih2 =>
    intro hnd;have:=ih2 (bp.mp hnd).2;have hd:=(bp.mp hnd).1;simp only [bU,yJ,tR] at this ⊢;rw [this]
    by_cases e:x=d
    ·subst e;simp [hd];lia
    ·have e':¬ d=x:=λz=>e z.symm;simp [e];lia
  rw [key ds h1,ih,if_pos hx,bT]
def lJ.leaf {r:List Int}(h:lJ r) (h1:1<r.length):∃ xs w z ys,r=xs++w::z::w::ys/\z∉xs++w::ys:=by
 obtain ⟨ds,d1,d2,d3⟩:=h.cnt;have hs:=pS d1 λx hx=>(d2 x).mpr hx
 obtain ⟨z,hz,hc⟩:∃ z∈ds,r.count z<2:=by
  refine Classical.byContradiction λq=>?_
  have hall:∀ z∈ds,2<=r.count z:=λz hz=>by
   by_cases c:r.count z<2
   ·exact absurd ⟨z,hz,c⟩ q
   ·lia
  have:∀ (ds:List Int),(∀ z∈ds,2<=r.count z)->2*ds.length<=(ds.map λd=>r.count d).sum:=by
   intro ds
   induction ds with
   | nil=>intro _;simp
   | cons d ds ih =>
    intro h;have a:=ih λz hz=>h z (aj _ hz);have b:=h d aw;simp only [bU,yJ,bT];lia
  have:=this ds hall;lia
 have hzr:=(d2 z).mp hz;obtain ⟨A,B,e⟩:=k9 hzr;subst e
 have hc2:A.count z=0/\B.count z=0:=by
  rw [gB,jV] at hc;lia
 have hA:z∉A:=eU.mp hc2.1;have hB:z∉B:=eU.mp hc2.2
 obtain ⟨A',w,B',e1,e2⟩:=h.QY hA hB (λq=>by
  rw [sX] at q;rw [q.1,q.2] at h1
  simp at h1)
 subst e1 e2
 exact ⟨A',w,z,B',by simp,λhm=>by
  simp at hm hA hB
  rcases hm with hm|hm|hm
  ·exact hA.1 hm
  ·exact hA.2 hm
  ·exact hB.2 hm⟩
end Rm
namespace Rm
def lJ.SL {r r':List Int}(h:lJ r) (hn:r'≠[]) (hm:∀ x,x∈r'↔x∈r) (hl:r'.length=r.length) (he:r'.head?=r'.getLast?) (hp:(al r').Perm (al r)):lJ r' :=
 ⟨hn,let ⟨ds,a,b,c⟩:=h.cnt;⟨ds,a,λx=>by rw [b,hm],by rw [hl];exact c⟩,he,hp.nodup_iff.mpr h.nd,λx y z=>hp.mem_iff.mpr (h.sym x y (hp.mem_iff.mp z))⟩
def ES {r:List Int}{a:Int}(h:a∈r):∃ xs ys,r=xs++a::ys/\xs.length=r.idxOf a/\a∉xs:=by
 induction r with
 | nil=>cases h
 | cons b r ih =>
  by_cases e:b=a
  ·subst e;exact ⟨[],r,rfl,by simp,by simp⟩
  ·have ha:a∈r:=(av.mp h).resolve_left λq=>e q.symm;obtain ⟨xs,ys,e1,e2,e3⟩:=ih ha
   have eb:(b == a)=false:=by simpa using e
   refine ⟨b::xs,ys,by rw [e1];rfl,by rw [WQ,eb];simp [e2],λhm=>?_⟩
   rcases av.mp hm with q|q
   ·exact e q.symm
   ·exact e3 q
def lJ.turn {r:List Int}{a:Int}(h:lJ r) (ha:a∈r):lJ (tn r (r.idxOf a))/\(al (tn r (r.idxOf a))).Perm (al r)/\(tn r (r.idxOf a)).head?=some a/\(∀ x,x∈tn r (r.idxOf a)↔x∈r)/\(tn r (r.idxOf a)).length=r.length:=by
 have hlen:(tn r (r.idxOf a)).length=r.length:=PQ (Kr ha);obtain ⟨xs,ys,e,el,hx⟩:=ES ha
 cases xs with
 | nil =>
  have e0:r.idxOf a=0:=by rw [← el];rfl
  rw [e0,Sv]
  exact ⟨h,sI _,by rw [e];rfl,λx=>Iff.rfl,rfl⟩
 | cons b xs =>
  have hba:b≠a:=λq=>hx (by simp [q]);have he:=h.ends
  obtain ⟨ys',ey⟩:∃ ys',ys=ys'++[b]:=by
   rw [e] at he;simp only [CP,WO] at he;rw [show b::(xs++a::ys)=(b::xs++[a])++ys by simp,cL] at he
   rcases fI ys with q|⟨us,u,q⟩
   ·subst q;rw [show b::xs++[a]=(b::xs)++[a] by rfl,cL] at he;simp at he;exact absurd he hba
   ·rw [fJ] at q;subst q;rw [cL] at he;simp at he;subst he;exact ⟨us,rfl⟩
  subst ey
  have et:tn r (r.idxOf a)=(a::ys')++b::(xs++[a]):=by
   unfold tn;rw [← el,e];simp only [bT]
   have d1:((b::xs)++a::(ys'++[b])).drop (xs.length+1)=a::(ys'++[b]):=by simp
   have d2:(((b::xs)++a::(ys'++[b])).drop 1).take (xs.length+1)=xs++[a]:=by
    show (xs++a::(ys'++[b])).take (xs.length+1)=xs++[a]
    rw [UQ,bX (by lia)];simp
   rw [d1,d2];simp
  have hp:(al (tn r (r.idxOf a))).Perm (al r):=by
   rw [et,e,kP (a::ys') b (xs++[a]),kP (b::xs) a (ys'++[b])];exact fH
  have hm:∀ x,x∈tn r (r.idxOf a)↔x∈r:=λx=>by
   rw [et,e];simp
   constructor
   ·rintro (q|q|q|q|q)
    ·exact .inr (.inr (.inl q))
    ·exact .inr (.inr (.inr (.inl q)))
    ·exact .inl q
    ·exact .inr (.inl q)
    ·exact .inr (.inr (.inl q))
   ·rintro (q|q|q|q|q)
    ·exact .inr (.inr (.inl q))
    ·exact .inr (.inr (.inr (.inl q)))
    ·exact .inl q
    ·exact .inr (.inl q)
    ·exact .inr (.inr (.inl q))
  refine ⟨h.SL (by rw [et];simp) hm hlen (by rw [et];simp [cL,lg]) hp,hp,by rw [et];rfl,hm,hlen⟩
def FR {xs ys T:List Int}{a b:Int}(h1:T.head?=some b) (h2:T.getLast?=some b):(al (xs++a::(T++a::ys))).Perm ((a,b)::(b,a)::(al (xs++a::ys)++al T)):=by
 obtain ⟨T1,e1⟩:∃ T1,T=b::T1:=by
  cases T with
  | nil=>simp at h1
  | cons c T=>simp at h1;exact ⟨T,by rw [h1]⟩
 obtain ⟨T2,e2⟩:∃ T2,T=T2++[b]:=by
  rcases fI T with q|⟨us,u,q⟩
  ·subst q;simp at h2
  ·rw [fJ] at q;subst q;simp at h2;exact ⟨us,by rw [h2]⟩
 have e3:al (a::(T++a::ys))=(a,b)::(al T++(b,a)::al (a::ys)):=by
  have e4:al (T++a::ys)=al T++(b,a)::al (a::ys):=by
   conv=>lhs;rw [e2,di,N0,kP]
   rw [← e2];rfl
  have e5:al (a::(T++a::ys))=(a,b)::al (T++a::ys):=by rw [e1];rfl
  rw [e5,e4]
 rw [kP xs a (T++a::ys),kP xs a ys,e3];generalize al (xs++[a])=P;generalize al (a::ys)=R;generalize al T=U
 -- P++(ab::(U++ba::R)) ~ ab::ba::((P++R)++U)
 refine CS.trans (kY _ ?_);rw [← di];refine CS.trans (kY _ ?_);rw [di,di];exact lA _ fH
def PU (xs ys T:List Int) (a:Int):(xs++a::(T++a::ys)).head?=(xs++a::ys).head?/\(xs++a::(T++a::ys)).getLast?=(xs++a::ys).getLast?:=by
 constructor
 ·cases xs<;>simp
 ·cases ys with
  | nil=>simp [cL,lg]
  | cons y ys=>simp [cL,lg]
def lJ.Wr {xs ys T:List Int}{a b:Int}(h:lJ (xs++a::ys)) (hT:lJ T) (h1:T.head?=some b) (hd:∀ x∈T,x∉xs++a::ys):lJ (xs++a::(T++a::ys)):=by
 have h2:T.getLast?=some b:=by rw [← hT.ends];exact h1
 have hp:=FR (xs:=xs) (ys:=ys) (a:=a) h1 h2;have hb:b∈T:=jE (by rw [h1];rfl)
 have ha:a∈xs++a::ys:=by simp
 have hab:a≠b:=λe=>hd b hb (e▸ha);have hb':=hd b hb;have ha':a∉T:=λq=>hd a q ha;refine ⟨by simp,?_,?_,hp.nodup_iff.mpr ?_,λx y hxy=>?_⟩
 ·obtain ⟨ds,d1,d2,d3⟩:=h.cnt;obtain ⟨es,e1,e2,e3⟩:=hT.cnt;refine ⟨ds++es,gC.mpr ⟨d1,e1,λx hx y hy q=>hd y ((e2 y).mp hy) (q▸(d2 x).mp hx)⟩,λx=>?_,?_⟩
  ·rw [aN,d2,e2];simp
   constructor
   ·rintro ((q|q|q)|q)
    ·exact .inl q
    ·exact .inr (.inl q)
    ·exact .inr (.inr (.inr (.inr q)))
    ·exact .inr (.inr (.inl q))
   ·rintro (q|q|q|q|q)
    ·exact .inl (.inl q)
    ·exact .inl (.inr (.inl q))
    ·exact .inr q
    ·exact .inl (.inr (.inl q))
    ·exact .inl (.inr (.inr q))
  ·simp at d3 ⊢;lia
 ·have:=PU xs ys T a;rw [this.1,this.2];exact h.ends
 ·refine bp.mpr ⟨λhm=>?_,bp.mpr ⟨λhm=>?_,gC.mpr ⟨h.nd,hT.nd,?_⟩⟩⟩
  ·rcases av.mp hm with q|hm
   ·exact hab (by cases q;rfl)
   ·rcases aN.mp hm with q|q
    ·exact hb' (fY q).2
    ·exact ha' (fY q).1
  ·rcases aN.mp hm with q|q
   ·exact hb' (fY q).1
   ·exact ha' (fY q).2
  ·rintro ⟨x,y⟩ hx t ht q;subst q;exact hd x (fY ht).1 (fY hx).1
 ·refine hp.mem_iff.mpr ?_
  rcases av.mp (hp.mem_iff.mp hxy) with q|hm
  ·cases q;simp
  ·rcases av.mp hm with q|hm
   ·cases q;simp
   ·refine aj _ (aj _ ?_)
    rcases aN.mp hm with q|q
    ·exact dQ _ (h.sym x y q)
    ·exact bG _ (hT.sym x y q)
theorem lJ.part:∀ (n:Nat) {p q inn:List Int}{x y:Int},(p++x::(inn++x::q)).length<=n->lJ (p++x::(inn++x::q))->inn.head?=some y->inn.getLast?=some y ->
  lJ inn/\lJ (p++x::q)/\∀ c∈inn,c∉p++x::q
 | 0,p,q,inn,x,y,hn,h,h1,h2=>by simp at hn
 | n+1,p,q,inn,x,y,hn,h,h1,h2=>by
  have hl:1<(p++x::(inn++x::q)).length:=by simp;lia
  obtain ⟨X,w,z,Y,e,hz⟩:=h.leaf hl
  have hc:(p++x::(inn++x::q)).count z=1:=by
   rw [e];simp at hz;have a1:X.count z=0:=eU.mpr hz.1;have a2:Y.count z=0:=eU.mpr hz.2.2;have a3:¬ w=z:=λq=>hz.2.1 q.symm;simp [gB,tR,a1,a2,a3]
  have hzx:x≠z:=λq=>by
   subst q;simp [gB,tR] at hc;lia
  have hc2:p.count z+inn.count z+q.count z=1:=by
   simp [gB,tR,hzx] at hc;lia
  -- a place that stands once,with what is around it
  have at_:∀ A B,p++x::(inn++x::q)=A++z::B->∃ A' w B',A=A'++[w]/\B=w::B':=λA B eA=>by
   rw [eA] at h hc hl
   have c0:A.count z=0/\B.count z=0:=by rw [gB,jV] at hc;lia
   refine h.QY (eU.mp c0.1) (eU.mp c0.2) λq=>?_;rw [sX] at q;rw [q.1,q.2] at hl;simp at hl
  have nin:∀ {l:List Int},l.count z=0->z∉l:=λq=>eU.mp q
  by_cases z1:z∈inn
  ·have k1:0<inn.count z:=zD.mpr z1;have hp0:z∉p:=nin (by lia);have hq0:z∉q:=nin (by lia);obtain ⟨i1,i2,ei⟩:=k9 z1
   have c12:i1.count z=0/\i2.count z=0:=by
    rw [ei,gB,jV] at hc2;lia
   have n1:=nin c12.1;have n2:=nin c12.2
   by_cases hs:i1++i2=[]
   ·rw [sX] at hs;rw [hs.1,hs.2] at ei;subst ei
    have zo:z∉p++x::q:=λhm=>by
     rcases aN.mp hm with m|m
     ·exact hp0 m
     ·rcases av.mp m with m|m
      ·exact hzx m.symm
      ·exact hq0 m
    refine ⟨lJ.one z,lJ.Nz (w:=x) (z:=z) (by simpa using h) zo,λc hc=>?_⟩
    have:c=z:=by simpa using hc
    subst this;exact zo
   ·obtain ⟨A',w',B',eA,eB⟩:=at_ (p++x::i1) (i2++x::q) (by rw [ei];simp)
    have i1n:i1≠[]:=λq0=>by
     subst q0;rw [ei] at h1 h2;simp at h1;subst h1
     rcases fI i2 with q1|⟨us,u,q1⟩
     ·exact hs (by simp [q1])
     ·rw [fJ] at q1;subst q1;simp [cL,lg] at h2;exact n2 (by simp [h2])
    have i2n:i2≠[]:=λq0=>by
     subst q0;rw [ei] at h1 h2;rw [cL] at h2;simp at h2;subst h2
     cases i1 with
     | nil=>exact i1n rfl
     | cons a i1=>simp at h1;exact n1 (by simp [h1])
    obtain ⟨i1',u,ei1⟩:∃ i1' u,i1=i1'++[u]:=by
     rcases fI i1 with q0|⟨us,u,q0⟩
     ·exact absurd q0 i1n
     ·exact ⟨us,u,by rw [q0,fJ]⟩
    cases i2 with
    | nil=>exact absurd rfl i2n
    | cons v i2' =>
     have ev:v=w':=by simp at eB;exact eB.1
     have eu:u=w':=by
      rw [ei1,← CP,← di] at eA;have:=sY eA rfl
      simpa using this
     subst ei1 ev eu
     have ei':inn=i1'++u::z::u::i2':=by rw [ei];simp
     subst ei'
     have zi:z∉i1'++u::i2':=λhm=>by
      simp at hm n1 n2
      rcases hm with m|m|m
      ·exact n1.1 m
      ·exact n1.2 m
      ·exact n2.2 m
     have eR:p++x::(i1'++u::z::u::i2'++x::q)=(p++x::i1')++u::z::u::(i2'++x::q):=by simp
     have eR':p++x::(i1'++u::i2'++x::q)=(p++x::i1')++u::(i2'++x::q):=by simp
     have zR:z∉(p++x::i1')++u::(i2'++x::q):=λhm=>by
      simp at hm zi
      rcases hm with m|m|m|m|m|m|m
      ·exact hp0 m
      ·exact hzx m.symm
      ·exact zi.1 m
      ·exact zi.2.1 m
      ·exact zi.2.2 m
      ·exact hzx m.symm
      ·exact hq0 m
     rw [eR] at h;have hR':=h.Nz zR;rw [← eR'] at hR';have en:=Bh i1' i2' u z;obtain ⟨r1,r2,r3⟩:=lJ.part n (by simp at hn ⊢;lia) hR' (by rw [← en.1];exact h1) (by rw [← en.2];exact h2);refine ⟨r1.put zi,r2,λc hc=>?_⟩;simp at hc
     have hcz:c=z->c∉p++x::q:=λq0 hm=>by
      subst q0;simp at hm
      rcases hm with m|m|m
      ·exact hp0 m
      ·exact hzx m.symm
      ·exact hq0 m
     rcases hc with m|m|m|m|m
     ·exact r3 c (by simp [m])
     ·exact r3 c (by simp [m])
     ·exact hcz m
     ·exact r3 c (by simp [m])
     ·exact r3 c (by simp [m])
  ·by_cases z2:z∈p
   ·have k1:0<p.count z:=zD.mpr z2;have hq0:z∉q:=nin (by lia);obtain ⟨p1,p2,ep⟩:=k9 z2;obtain ⟨A',w',B',eA,eB⟩:=at_ p1 (p2++x::(inn++x::q)) (by rw [ep];simp)
    have c12:p1.count z=0/\p2.count z=0:=by
     rw [ep,gB,jV] at hc2;lia
    have n1:=nin c12.1;have n2:=nin c12.2;subst eA
    cases p2 with
    | nil =>
     have ew:w'=x:=by simp at eB;exact eB.1.symm
     subst ew
     have ep':p=A'++[w',z]:=by rw [ep];simp
     subst ep'
     have zR:z∉A'++w'::(inn++w'::q):=λhm=>by
      simp at hm n1
      rcases hm with m|m|m|m|m
      ·exact n1.1 m
      ·exact n1.2 m
      ·exact z1 m
      ·exact n1.2 m
      ·exact hq0 m
     have hR':=lJ.Nz (xs:=A') (w:=w') (z:=z) (ys:=inn++w'::q) (by simpa using h) zR;obtain ⟨r1,r2,r3⟩:=lJ.part n (by simp at hn ⊢;lia) hR' h1 h2
     have zo:z∉A'++w'::q:=λhm=>by
      simp at hm n1
      rcases hm with m|m|m
      ·exact n1.1 m
      ·exact n1.2 m
      ·exact hq0 m
     refine ⟨r1,by simpa using r2.put zo,λc hc hm=>?_⟩;simp at hm
     rcases hm with m|m|m|m
     ·exact r3 c hc (by simp [m])
     ·exact r3 c hc (by simp [m])
     ·exact z1 (m▸hc)
     ·exact r3 c hc (by
       rcases m with m|m
       ·simp [m]
       ·simp [m])
    | cons v p2 =>
     have ew:v=w':=by simp at eB;exact eB.1
     subst ew
     have ep':p=A'++v::z::v::p2:=by rw [ep];simp
     subst ep'
     have zR:z∉A'++v::(p2++x::(inn++x::q)):=λhm=>by
      simp at hm n1 n2
      rcases hm with m|m|m|m|m|m|m
      ·exact n1.1 m
      ·exact n1.2 m
      ·exact n2.2 m
      ·exact hzx m.symm
      ·exact z1 m
      ·exact hzx m.symm
      ·exact hq0 m
     have hR':=lJ.Nz (xs:=A') (w:=v) (z:=z) (ys:=p2++x::(inn++x::q)) (by simpa using h) zR;obtain ⟨r1,r2,r3⟩:=lJ.part n (p:=A'++v::p2) (q:=q) (inn:=inn) (x:=x) (by simp at hn ⊢;lia) (by simpa using hR') h1 h2
     have zo:z∉A'++v::(p2++x::q):=λhm=>by
      simp at hm n1 n2
      rcases hm with m|m|m|m|m
      ·exact n1.1 m
      ·exact n1.2 m
      ·exact n2.2 m
      ·exact hzx m.symm
      ·exact hq0 m
     refine ⟨r1,by simpa using lJ.put (xs:=A') (w:=v) (z:=z) (ys:=p2++x::q) (by simpa using r2) zo,λc hc hm=>?_⟩;simp at hm
     rcases hm with m|m|m|m|m|m|m
     ·exact r3 c hc (by simp [m])
     ·exact r3 c hc (by simp [m])
     ·exact z1 (m▸hc)
     ·exact r3 c hc (by simp [m])
     ·exact r3 c hc (by simp [m])
     ·exact r3 c hc (by simp [m])
     ·exact r3 c hc (by simp [m])
   ·have hq1:z∈q:=by
     have k1:0<q.count z:=by
      have a1:=eU.mpr z1;have a2:=eU.mpr z2;lia
     exact zD.mp k1
    obtain ⟨q1,q2,eq⟩:=k9 hq1;obtain ⟨A',w',B',eA,eB⟩:=at_ (p++x::(inn++x::q1)) q2 (by rw [eq];simp)
    have c12:q1.count z=0/\q2.count z=0:=by
     rw [eq,gB,jV] at hc2;lia
    have n1:=nin c12.1;have n2:=nin c12.2;subst eB
    rcases fI q1 with e1|⟨q1',u,e1⟩
    ·subst e1
     have ew:x=w':=by
      rw [show p++x::(inn++[x])=(p++x::inn)++[x] by simp] at eA;have:=sY eA rfl
      simpa using this
     subst ew
     have eq':q=z::x::B':=by rw [eq];rfl
     subst eq'
     have zR:z∉(p++x::inn)++x::B':=λhm=>by
      simp at hm n2
      rcases hm with m|m|m|m|m
      ·exact z2 m
      ·exact hzx m.symm
      ·exact z1 m
      ·exact hzx m.symm
      ·exact n2.2 m
     have hR':=lJ.Nz (xs:=p++x::inn) (w:=x) (z:=z) (ys:=B') (by simpa using h) zR;obtain ⟨r1,r2,r3⟩:=lJ.part n (p:=p) (q:=B') (inn:=inn) (x:=x) (by simp at hn ⊢;lia) (by simpa using hR') h1 h2
     have zo:z∉p++x::B':=λhm=>by
      simp at hm n2
      rcases hm with m|m|m
      ·exact z2 m
      ·exact hzx m.symm
      ·exact n2.2 m
     refine ⟨r1,r2.put zo,λc hc hm=>?_⟩;simp at hm
     rcases hm with m|m|m|m|m
     ·exact r3 c hc (by simp [m])
     ·exact r3 c hc (by simp [m])
     ·exact z1 (m▸hc)
     ·exact r3 c hc (by simp [m])
     ·exact r3 c hc (by simp [m])
    ·rw [fJ] at e1;subst e1
     have ew:u=w':=by
      rw [show p++x::(inn++x::(q1'++[u]))=(p++x::(inn++x::q1'))++[u] by simp] at eA;have:=sY eA rfl
      simpa using this
     subst ew
     have eq':q=q1'++u::z::u::B':=by rw [eq];simp
     subst eq'
     have zR:z∉(p++x::(inn++x::q1'))++u::B':=λhm=>by
      simp at hm n1 n2
      rcases hm with m|m|m|m|m|m|m
      ·exact z2 m
      ·exact hzx m.symm
      ·exact z1 m
      ·exact hzx m.symm
      ·exact n1.1 m
      ·exact n1.2 m
      ·exact n2.2 m
     have hR':=lJ.Nz (xs:=p++x::(inn++x::q1')) (w:=u) (z:=z) (ys:=B') (by simpa using h) zR;obtain ⟨r1,r2,r3⟩:=lJ.part n (p:=p) (q:=q1'++u::B') (inn:=inn) (x:=x) (by simp at hn ⊢;lia) (by simpa using hR') h1 h2
     have zo:z∉(p++x::q1')++u::B':=λhm=>by
      simp at hm n1 n2
      rcases hm with m|m|m|m|m
      ·exact z2 m
      ·exact hzx m.symm
      ·exact n1.1 m
      ·exact n1.2 m
      ·exact n2.2 m
     refine ⟨r1,by simpa using lJ.put (xs:=p++x::q1') (w:=u) (z:=z) (ys:=B') (by simpa using r2) zo,λc hc hm=>?_⟩;simp at hm
     rcases hm with m|m|m|m|m|m|m
     ·exact r3 c hc (by simp [m])
     ·exact r3 c hc (by simp [m])
     ·exact r3 c hc (by simp [m])
     ·exact r3 c hc (by simp [m])
     ·exact z1 (m▸hc)
     ·exact r3 c hc (by simp [m])
     ·exact r3 c hc (by simp [m])
end Rm
namespace Rm
def PV {r:List Int}{i:Nat}{x y:Int}:(al r)[i]?=some (x,y)↔r[i]?=some x/\r[i+1]?=some y:=by
 rw [Kt,pI,oA,N2 1 i]
def rn (r:List Int) (i j:Nat):List Int:=(r.drop (i+1)).take (j-i)
def xW (r:List Int) (i j:Nat):List Int:=r.take (i+1)++r.drop (j+2)
def xt (r:List Int) (a b:Int):List Int×List Int :=
 if (al r).idxOf (a,b)<(al r).idxOf (b,a) then (xW r ((al r).idxOf (a,b)) ((al r).idxOf (b,a)),rn r ((al r).idxOf (a,b)) ((al r).idxOf (b,a)))
 else (rn r ((al r).idxOf (b,a)) ((al r).idxOf (a,b)),xW r ((al r).idxOf (b,a)) ((al r).idxOf (a,b)))
def PX {r:List Int}{i j:Nat}{x y:Int}(hij:i<j) (h1:r[i]?=some x) (h2:r[i+1]?=some y) (h3:r[j]?=some y) (h4:r[j+1]?=some x) :
  r=r.take i++x::(rn r i j++x::r.drop (j+2))/\xW r i j=r.take i++x::r.drop (j+2)/\(rn r i j).head?=some y/\(rn r i j).getLast?=some y/\(rn r i j).length+(xW r i j).length+1=r.length:=by
 have l4:=(aC.mp h4).1
 have g1:r.drop i=x::r.drop (i+1):=by
  have hl:=aC.mp h1;rw [fG hl.1,hl.2]
 have g2:r.drop (j+1)=x::r.drop (j+2):=by
  have hl:=aC.mp h4;rw [fG hl.1,hl.2]
 have g3:r.drop (i+1)=rn r i j++r.drop (j+1):=by
  unfold rn;have:=eJ (j-i) (r.drop (i+1));rw [W7,show i+1+(j-i)=j+1 by lia] at this;exact this.symm
 have li:(rn r i j).length=j-i:=by unfold rn;rw [bB,cN];lia
 refine ⟨?_,?_,?_,?_,?_⟩
 ·rw [← g2,← g3,← g1,eJ]
 ·unfold xW;rw [dI,h1];simp
 ·rw [List.head?_eq_getElem?];unfold rn;rw [k8,if_pos (by lia),oA];exact h2
 ·rw [List.getLast?_eq_getElem?,li];unfold rn;rw [k8,if_pos (by lia),oA,show i+1+(j-i-1)=j by lia];exact h3
 ·rw [li];unfold xW;rw [bu,bB,cN];lia
def TZ {r:List Int}{a b:Int}(h:(a,b)∈al r):r[(al r).idxOf (a,b)]?=some a/\r[(al r).idxOf (a,b)+1]?=some b:=by
 have hl:(al r).idxOf (a,b)<(al r).length:=fW.mpr h;refine PV.mp ?_;rw [ay hl,zC]
structure Lo (r X Y:List Int) (a b:Int):Prop where
 x:lJ X
 y:lJ Y
 ha:a∈X
 hb:b∈Y
 YG:∀ c∈Y,c∉X
 pm:(al r).Perm ((a,b)::(b,a)::(al X++al Y))
 len:X.length+Y.length+1=r.length
def lJ.parted {r:List Int}{a b:Int}(h:lJ r) (hm:(a,b)∈al r) (hab:a≠b):Lo r (xt r a b).1 (xt r a b).2 a b:=by
 obtain ⟨p1,p2⟩:=TZ hm;obtain ⟨q1,q2⟩:=TZ (h.sym a b hm);unfold xt;generalize (al r).idxOf (a,b)=i at p1 p2;generalize (al r).idxOf (b,a)=j at q1 q2
 by_cases hij:i<j
 ·rw [if_pos hij];obtain ⟨e1,e2,e3,e4,e5⟩:=PX hij p1 p2 q1 q2;have hR:=h;rw [e1] at hR;obtain ⟨r1,r2,r3⟩:=lJ.part _ (ar _) hR e3 e4;refine ⟨by rw [e2];exact r2,r1,by rw [e2];simp,jE (by rw [e3];rfl),λc hc=>by rw [e2];exact r3 c hc,?_,by simp only;lia⟩;simp only;rw [e2];have hp:=FR (xs:=r.take i) (ys:=r.drop (j+2)) (a:=a) e3 e4
  rwa [← e1] at hp
 ·rw [if_neg hij]
  have hji:j<i:=by
   rcases Nat.lt_or_ge j i with q|q
   ·exact q
   ·have:i=j:=by lia
    subst this;rw [p1] at q1;exact absurd (aV q1) hab
  obtain ⟨e1,e2,e3,e4,e5⟩:=PX hji q1 q2 p1 p2;have hR:=h;rw [e1] at hR;obtain ⟨r1,r2,r3⟩:=lJ.part _ (ar _) hR e3 e4;refine ⟨r1,by rw [e2];exact r2,jE (by rw [e3];rfl),by rw [e2];simp,λc hc hx=>by rw [e2] at hc;exact r3 c hx hc,?_,by simp only;lia⟩;simp only;rw [e2];have hp:=FR (xs:=r.take j) (ys:=r.drop (i+2)) (a:=b) e3 e4;rw [← e1] at hp;refine hp.trans ((List.Perm.swap _ _ _).trans (kY _ (kY _ fH)))
end Rm
namespace Rm
def Im (x y:Int) (l:List Int):al (x::y::l)=(x,y)::al (y::l):=rfl
end Rm
namespace Rm
def Bi (r1 r2:List Int) (a b:Int):List Int:=r1.take (r1.idxOf a+1)++(tn r2 (r2.idxOf b)++r1.drop (r1.idxOf a))
structure GW (r1 r2:List Int) (a b:Int):Prop where
 h1:lJ r1
 h2:lJ r2
 ha:a∈r1
 hb:b∈r2
 YG:∀ x∈r2,x∉r1
def GW.facts {r1 r2:List Int}{a b:Int}(T:GW r1 r2 a b):lJ (Bi r1 r2 a b)/\(al (Bi r1 r2 a b)).Perm ((a,b)::(b,a)::(al r1++al r2))/\(Bi r1 r2 a b).length=r1.length+r2.length+1:=by
 obtain ⟨t1,t2,t3,t4,t5⟩:=T.h2.turn T.hb;obtain ⟨xs,ys,e,el,hx⟩:=ES T.ha
 have es:Bi r1 r2 a b=xs++a::(tn r2 (r2.idxOf b)++a::ys):=by
  unfold Bi;rw [← el]
  conv=>lhs;rw [e]
  have d1:(xs++a::ys).take (xs.length+1)=xs++[a]:=by
   rw [UQ,bX (by lia)];simp
  have d2:(xs++a::ys).drop xs.length=a::ys:=by simp
  rw [d1,d2];simp
 have hR:lJ (xs++a::ys):=by rw [← e];exact T.h1
 have hd:∀ x∈tn r2 (r2.idxOf b),x∉xs++a::ys:=λx hx=>by rw [← e];exact T.YG x ((t4 x).mp hx)
 refine ⟨by rw [es];exact hR.Wr t1 t3 hd,?_,?_⟩
 ·rw [es,e]
  have t3':(tn r2 (r2.idxOf b)).getLast?=some b:=by rw [← t1.ends];exact t3
  exact (FR t3 t3').trans (kY _ (kY _ (lA _ t2)))
 ·have hlt:(tn r2 (r2.idxOf b)).length=r2.length:=t5;unfold Bi;have:=Kr T.ha;rw [bu,bu,bB,cN,hlt];lia
def GW.mem {r1 r2:List Int}{a b:Int}(T:GW r1 r2 a b) (x:Int):x∈Bi r1 r2 a b↔x∈r1\/x∈r2:=by
 obtain ⟨t1,t2,t3,t4,t5⟩:=T.h2.turn T.hb;unfold Bi;rw [aN,aN,t4]
 constructor
 ·rintro (h|h|h)
  ·exact .inl (Og h)
  ·exact .inr h
  ·exact .inl (List.mem_of_mem_drop h)
 ·rintro (h|h)
  ·rw [← eJ (r1.idxOf a) r1] at h
   rcases aN.mp h with h|h
   ·exact .inl (List.take_subset_take_left _ (gW _) h)
   ·exact .inr (.inr h)
  ·exact .inr (.inl h)
def Lo.mem {r X Y:List Int}{a b:Int}(P:Lo r X Y a b) (hr:lJ r) (x:Int):x∈r↔x∈X\/x∈Y:=by
 have key:∀ {l:List Int},lJ l->∀ {x:Int},x∈l->(l=[x]\/∃ y,(x,y)∈al l):=λ{l} hl {x} hx=>by
  obtain ⟨i,hi⟩:=bx.mp hx;have hlt:=(aC.mp hi).1
  by_cases h:i+1<l.length
  ·exact .inr ⟨_,bx.mpr ⟨i,PV.mpr ⟨hi,ay h⟩⟩⟩
  ·by_cases h1:l.length=1
   ·obtain ⟨c,rfl⟩:=List.length_eq_one_iff.mp h1
    have:i=0:=by simp at hlt;lia
    subst this;simp at hi;exact .inl (by rw [hi])
   ·have e1:l[i-1]?=some l[i-1]:=ay (by lia);exact .inr ⟨_,hl.sym _ _ (bx.mpr ⟨i-1,PV.mpr ⟨e1,by rw [show i-1+1=i by lia];exact hi⟩⟩)⟩
 constructor
 ·intro hx
  rcases key hr hx with e|⟨y,hy⟩
  ·have:=P.len;rw [e] at this;have h1:=Ra.mpr P.x.ne;have h2:=Ra.mpr P.y.ne;rw [NQ] at this;lia
  ·rcases av.mp (P.pm.mem_iff.mp hy) with e|hy
   ·cases e;exact .inl P.ha
   ·rcases av.mp hy with e|hy
    ·cases e;exact .inr P.hb
    ·rcases aN.mp hy with hy|hy
     ·exact .inl (fY hy).1
     ·exact .inr (fY hy).1
 ·intro hx;have JR:∀ {u v:Int},(u,v)∈(a,b)::(b,a)::(al X++al Y)->u∈r:=λh=>(fY (P.pm.mem_iff.mpr h)).1
  rcases hx with hx|hx
  ·rcases key P.x hx with e|⟨y,hy⟩
   ·have:=P.ha;rw [e] at this;rw [← aA.mp this];exact JR (v:=b) aw
   ·exact JR (v:=y) (aj _ (aj _ (dQ _ hy)))
  ·rcases key P.y hx with e|⟨y,hy⟩
   ·have:=P.hb;rw [e] at this;rw [← aA.mp this];exact JR (v:=a) (aj _ aw)
   ·exact JR (v:=y) (aj _ (aj _ (bG _ hy)))
structure Wd (n:Nat) (R:Nat->List Int):Prop where
 r:∀ i,i<n->lJ (R i)
 me:∀ i:Nat,i<n->(i:Int)∈R i
 JR:∀ i,i<n->∀ x∈R i,∃ j:Nat,j<n/\x=(j:Int)/\R j=R i
def Ed (n:Nat) (R:Nat->List Int) (x y:Int):Prop:=∃ i,i<n/\(x,y)∈al (R i)
def Wd.start (n:Nat):Wd n λi=>[(i:Int)] :=
 ⟨λi _=>lJ.one _,λi _=>by simp,λi hi x hx=>⟨i,hi,by simpa using hx,rfl⟩⟩
def Wd.same {n:Nat}{R:Nat->List Int}(W:Wd n R) {i j:Nat}(hi:i<n) (hj:j<n) {x:Int}(h1:x∈R i) (h2:x∈R j):R i=R j:=by
 obtain ⟨k,hk,e1,e2⟩:=W.JR i hi x h1;obtain ⟨k',hk',e3,e4⟩:=W.JR j hj x h2
 have:k=k':=by lia
 subst this;rw [← e2,e4]
def Wd.head {n:Nat}{R:Nat->List Int}(W:Wd n R) {i j:Nat}(hi:i<n) (hj:j<n):((R i).head?=(R j).head?↔(j:Int)∈R i):=by
 constructor
 ·intro e
  obtain ⟨x,hx⟩:∃ x,(R i).head?=some x:=by
   cases h:R i with
   | nil=>exact absurd h (W.r i hi).ne
   | cons a l=>exact ⟨a,rfl⟩
  rw [W.same hi hj (jE hx) (jE (e▸hx))];exact W.me j hj
 ·intro h;rw [W.same hi hj h (W.me j hj)]
def Ed.at {n:Nat}{R:Nat->List Int}(W:Wd n R) {x y:Int}(h:Ed n R x y) {i:Nat}(hi:i<n) (hx:x∈R i):(x,y)∈al (R i):=by
 obtain ⟨j,hj,hm⟩:=h;rw [W.same hi hj hx (fY hm).1];exact hm
def Ed.symm {n:Nat}{R:Nat->List Int}(W:Wd n R) {x y:Int}(h:Ed n R x y):Ed n R y x:=let ⟨i,hi,hm⟩:=h;⟨i,hi,(W.r i hi).sym _ _ hm⟩
def Wd.link {n:Nat}{R:Nat->List Int}(W:Wd n R) {a b:Nat}(ha:a<n) (hb:b<n) (hn:(b:Int)∉R a) :
  GW (R a) (R b) a b/\Wd n (λi=>if (i:Int)∈Bi (R a) (R b) a b then Bi (R a) (R b) a b else R i) /\
   ∀ x y,Ed n (λi=>if (i:Int)∈Bi (R a) (R b) a b then Bi (R a) (R b) a b else R i) x y↔(Ed n R x y\/(x,y)=((a:Int),(b:Int))\/(x,y)=((b:Int),(a:Int))):=by
 have T:GW (R a) (R b) a b:=⟨W.r a ha,W.r b hb,W.me a ha,W.me b hb,λx h2 h1=>hn (by rw [W.same ha hb h1 h2];exact W.me b hb)⟩
 obtain ⟨f1,f2,f3⟩:=T.facts;have fm:=T.mem;generalize Bi (R a) (R b) a b=s at f1 f2 f3 fm
 have hs:∀ x∈s,∃ j:Nat,j<n/\x=(j:Int)/\(j:Int)∈s:=λx hx=>by
  rcases (fm x).mp hx with h|h
  ·obtain ⟨j,hj,e,_⟩:=W.JR a ha x h;exact ⟨j,hj,e,e▸hx⟩
  ·obtain ⟨j,hj,e,_⟩:=W.JR b hb x h;exact ⟨j,hj,e,e▸hx⟩
 have nos:∀ i,i<n->(i:Int)∉s->∀ x∈R i,x∉s:=λi hi h x hx hxs=>by
  rcases (fm x).mp hxs with q|q
  ·exact h ((fm i).mpr (.inl (W.same ha hi q hx▸W.me i hi)))
  ·exact h ((fm i).mpr (.inr (W.same hb hi q hx▸W.me i hi)))
 refine ⟨T,⟨λi hi=>?_,λi hi=>?_,λi hi x hx=>?_⟩,λx y=>⟨?_,?_⟩⟩
 ·by_cases c:(i:Int)∈s
  ·rw [if_pos c];exact f1
  ·rw [if_neg c];exact W.r i hi
 ·by_cases c:(i:Int)∈s
  ·rw [if_pos c];exact c
  ·rw [if_neg c];exact W.me i hi
 ·by_cases c:(i:Int)∈s
  ·simp only [if_pos c] at hx ⊢;obtain ⟨j,hj,e,hjs⟩:=hs x hx;exact ⟨j,hj,e,if_pos hjs⟩
  ·simp only [if_neg c] at hx ⊢;obtain ⟨j,hj,e,er⟩:=W.JR i hi x hx;exact ⟨j,hj,e,by rw [if_neg (λh=>nos i hi c x hx (e▸h))];exact er⟩
 ·rintro ⟨i,hi,hm⟩
  by_cases c:(i:Int)∈s
  ·simp only [if_pos c] at hm
   rcases av.mp (f2.mem_iff.mp hm) with e|hm
   ·exact .inr (.inl e)
   ·rcases av.mp hm with e|hm
    ·exact .inr (.inr e)
    ·rcases aN.mp hm with h|h
     ·exact .inl ⟨a,ha,h⟩
     ·exact .inl ⟨b,hb,h⟩
  ·simp only [if_neg c] at hm;exact .inl ⟨i,hi,hm⟩
 ·have inS:∀ {u v:Int},(u,v)∈al s->Ed n (λi=>if (i:Int)∈s then s else R i) u v:=λh=>⟨a,ha,by simp only [if_pos ((fm a).mpr (.inl (W.me a ha)))];exact h⟩
  rintro (⟨i,hi,hm⟩|e|e)
  ·by_cases c:(i:Int)∈s
   ·refine inS (f2.mem_iff.mpr (aj _ (aj _ ?_)))
    rcases (fm i).mp c with h|h
    ·rw [← W.same ha hi h (W.me i hi)] at hm;exact dQ _ hm
    ·rw [← W.same hb hi h (W.me i hi)] at hm;exact bG _ hm
   ·exact ⟨i,hi,by simp only [if_neg c];exact hm⟩
  ·obtain ⟨rfl,rfl⟩:=cB e;exact inS (f2.mem_iff.mpr aw)
  ·obtain ⟨rfl,rfl⟩:=cB e;exact inS (f2.mem_iff.mpr (aj _ aw))
def Wd.cut {n:Nat}{R:Nat->List Int}(W:Wd n R) {a b:Nat}(ha:a<n) (hb:b<n) (hab:a≠b) (hm:((a:Int),(b:Int))∈al (R a)) :
  Wd n (λi=>if (i:Int)∈(xt (R a) a b).2 then (xt (R a) a b).2 else if (i:Int)∈(xt (R a) a b).1 then (xt (R a) a b).1 else R i) /\
   ∀ x y,Ed n (λi=>if (i:Int)∈(xt (R a) a b).2 then (xt (R a) a b).2 else if (i:Int)∈(xt (R a) a b).1 then (xt (R a) a b).1 else R i) x y↔(Ed n R x y/\¬ (x,y)=((a:Int),(b:Int))/\¬ (x,y)=((b:Int),(a:Int))):=by
 have hR:=W.r a ha;have P:=hR.parted hm (by lia:(a:Int)≠b);have PM:=P.mem hR;generalize (xt (R a) a b).1=X at P PM;generalize (xt (R a) a b).2=Y at P PM;have nd:=P.pm.nodup_iff.mp hR.nd;have nab:=(bp.mp nd).1;have nba:=(bp.mp (bp.mp nd).2).1;have inr:∀ x∈R a,∃ j:Nat,j<n/\x=(j:Int)/\R j=R a:=W.JR a ha;have nos:∀ i,i<n->(i:Int)∉R a->∀ x∈R i,x∉R a:=λi hi h x hx hxs=>h (W.same ha hi hxs hx▸W.me i hi);have sw:∀ i:Nat,(i:Int)∈Y->(i:Int)∉X:=λi h=>P.YG _ h;refine ⟨⟨λi hi=>?_,λi hi=>?_,λi hi x hx=>?_⟩,λx y=>⟨?_,?_⟩⟩
 ·by_cases c2:(i:Int)∈Y
  ·rw [if_pos c2];exact P.y
  ·by_cases c1:(i:Int)∈X
   ·rw [if_neg c2,if_pos c1];exact P.x
   ·rw [if_neg c2,if_neg c1];exact W.r i hi
 ·by_cases c2:(i:Int)∈Y
  ·rw [if_pos c2];exact c2
  ·by_cases c1:(i:Int)∈X
   ·rw [if_neg c2,if_pos c1];exact c1
   ·rw [if_neg c2,if_neg c1];exact W.me i hi
 ·by_cases c2:(i:Int)∈Y
  ·simp only [if_pos c2] at hx ⊢;obtain ⟨j,hj,e,_⟩:=inr x ((PM x).mpr (.inr hx));exact ⟨j,hj,e,if_pos (e▸hx)⟩
  ·by_cases c1:(i:Int)∈X
   ·simp only [if_neg c2,if_pos c1] at hx ⊢;obtain ⟨j,hj,e,_⟩:=inr x ((PM x).mpr (.inl hx));have hjX:(j:Int)∈X:=e▸hx;exact ⟨j,hj,e,by rw [if_neg (λh=>sw j h hjX),if_pos hjX]⟩
   ·simp only [if_neg c2,if_neg c1] at hx ⊢;obtain ⟨j,hj,e,er⟩:=W.JR i hi x hx;have hni:(i:Int)∉R a:=λh=>((PM i).mp h).elim c1 c2;have hnj:(j:Int)∉R a:=λh=>nos i hi hni x hx (e▸h);exact ⟨j,hj,e,by rw [if_neg (λh=>hnj ((PM j).mpr (.inr h))),if_neg (λh=>hnj ((PM j).mpr (.inl h)))];exact er⟩
 ·have old:∀ {u v:Int},(u,v)∈al X++al Y->Ed n R u v/\¬ (u,v)=((a:Int),(b:Int))/\¬ (u,v)=((b:Int),(a:Int)):=λ{u v} h =>
   ⟨⟨a,ha,P.pm.mem_iff.mpr (aj _ (aj _ h))⟩,λe=>nab (aj _ (e▸h)),λe=>nba (e▸h)⟩
  rintro ⟨i,hi,h⟩
  by_cases c2:(i:Int)∈Y
  ·simp only [if_pos c2] at h;exact old (bG _ h)
  ·by_cases c1:(i:Int)∈X
   ·simp only [if_neg c2,if_pos c1] at h;exact old (dQ _ h)
   ·simp only [if_neg c2,if_neg c1] at h;have hni:(i:Int)∉R a:=λh=>((PM i).mp h).elim c1 c2;have hxa:x∉R a:=nos i hi hni x (fY h).1;refine ⟨⟨i,hi,h⟩,λe=>hxa ?_,λe=>hxa ?_⟩
    ·rw [(cB e).1];exact W.me a ha
    ·rw [(cB e).1];exact (PM _).mpr (.inr P.hb)
 ·rintro ⟨h,e1,e2⟩
  by_cases hx:x∈R a
  ·have hm:=Ed.at W h ha hx
   rcases av.mp (P.pm.mem_iff.mp hm) with e|hm
   ·exact absurd e e1
   ·rcases av.mp hm with e|hm
    ·exact absurd e e2
    ·rcases aN.mp hm with q|q
     ·refine ⟨a,ha,?_⟩;simp only [if_neg (λh=>sw a h P.ha),if_pos P.ha];exact q
     ·refine ⟨b,hb,?_⟩;simp only [if_pos P.hb];exact q
  ·obtain ⟨i,hi,hm⟩:=h;have hni:(i:Int)∉R a:=λh=>hx (W.same ha hi h (W.me i hi)▸(fY hm).1);refine ⟨i,hi,?_⟩;simp only [if_neg (λh=>hni ((PM i).mpr (.inr h))),if_neg (λh=>hni ((PM i).mpr (.inl h)))];exact hm
theorem Sx {M:Int->Prop}:∀ {l:List Int},(∀ x y,(x,y)∈al l->(M x↔M y))->(∃ a∈l,M a)->∀ x∈l,M x
 | [],_,_,x,hx=>nomatch hx
 | [c],_,⟨a,ha,hM⟩,x,hx=>by
  rw [aA.mp hx,← aA.mp ha];exact hM
 | c::d::t,h,⟨a,ha,hM⟩,x,hx=>by
  have hcd:=h c d (by rw [Im];exact aw);have ih:=Sx (l:=d::t) λx y hm=>h x y (by rw [Im];exact aj _ hm)
  have hd:M d:=by
   rcases av.mp ha with e|ha
   ·exact hcd.mp (e▸hM)
   ·exact ih ⟨a,ha,hM⟩ d aw
  rcases av.mp hx with e|hx
  ·rw [e];exact hcd.mpr hd
  ·exact ih ⟨d,aw,hd⟩ x hx
def Uy {l:List Int}{n:Nat}(hn:l.Nodup) (h:∀ x∈l,∃ j:Nat,j<n/\x=(j:Int)):l.length<=n:=by
 have e:=pS (ds:=(c6 n).map λi:Nat=>(i:Int)) (r:=l) (by
  rw [Ht,dj]
  exact List.Pairwise.imp (λh e=>h (by lia)) (Ht.mp UR)) λx hx=>by
   obtain ⟨j,hj,e⟩:=h x hx;exact a6.mpr ⟨j,jT.mpr hj,e.symm⟩
 have le:∀ (ds:List Int),(ds.map λd=>l.count d).sum<=ds.length:=λds=>by
  induction ds with
  | nil=>simp
  | cons d ds ih =>
   have:l.count d<=1:=Oh.mp hn d;simp only [bU,yJ,bT];lia
 have:=le ((c6 n).map λi:Nat=>(i:Int));rw [e] at this
 simpa using this
def Wd.len {n:Nat}{R:Nat->List Int}(W:Wd n R) {i:Nat}(hi:i<n):(R i).length+1<=2*n:=by
 obtain ⟨ds,h1,h2,h3⟩:=(W.r i hi).cnt
 have:=Uy h1 λx hx=>let ⟨j,hj,e,_⟩:=W.JR i hi x ((h2 x).mp hx);⟨j,hj,e⟩
 lia
end Rm
namespace Rm
end Rm
namespace Rm
end Rm
namespace Rm
def lk (R:Nat->List Int) (a b:Nat):Nat->List Int:=λi=>if (i:Int)∈Bi (R a) (R b) a b then Bi (R a) (R b) a b else R i
def ct (R:Nat->List Int) (a b:Nat):Nat->List Int:=λi=>if (i:Int)∈(xt (R a) a b).2 then (xt (R a) a b).2 else if (i:Int)∈(xt (R a) a b).1 then (xt (R a) a b).1 else R i
def Mb {r s:List Int}(hr:lJ r) (hs:lJ s) (h:∀ x∈r,x∈s):r.length<=s.length:=by
 obtain ⟨d,d1,d2,d3⟩:=hr.cnt;obtain ⟨e,e1,e2,e3⟩:=hs.cnt;have q:=pS (ds:=e) (r:=d) e1 λx hx=>(e2 x).mpr (h x ((d2 x).mp hx))
 have le:∀ (ds:List Int),(ds.map λc=>d.count c).sum<=ds.length:=λds=>by
  induction ds with
  | nil=>simp
  | cons c ds ih =>
   have:d.count c<=1:=Oh.mp d1 c;simp only [bU,yJ,bT];lia
 have:=le e;lia
section
variable {n:Nat}{R R':Nat->List Int}{x y z a b:Nat}
def Wd.sub (W:Wd n R) (W':Wd n R') (h:∀ x y,Ed n R x y->Ed n R' x y) (hx:x<n):∀ c∈R x,c∈R' x :=
 Sx (M:=λc=>c∈R' x) (λu v hm =>
  have e:=h u v ⟨x,hx,hm⟩
  ⟨λhu=>(fY (Ed.at W' e hx hu)).2,λhv=>(fY (Ed.at W' (Ed.symm W' e) hx hv)).2⟩) ⟨x,W.me x hx,W'.me x hx⟩
def Wd.sy (W:Wd n R) (hx:x<n) (hy:y<n) (h:(y:Int)∈R x):(x:Int)∈R y:=W.same hx hy h (W.me y hy)▸W.me x hx
def Wd.eq (W:Wd n R) (hx:x<n) (hy:y<n) (h:(y:Int)∈R x):R x=R y:=W.same hx hy h (W.me y hy)
def Wd.lk (W:Wd n R) (ha:a<n) (hb:b<n) (hn:(b:Int)∉R a):Wd n (lk R a b):=(W.link ha hb hn).2.1
def Wd.QS (W:Wd n R) (ha:a<n) (hb:b<n) (hn:(b:Int)∉R a) (x y:Int):Ed n (Rm.lk R a b) x y↔(Ed n R x y\/(x,y)=((a:Int),(b:Int))\/(x,y)=((b:Int),(a:Int))):=(W.link ha hb hn).2.2 x y
def Wd.Fd (W:Wd n R) (ha:a<n) (hb:b<n) (hn:(b:Int)∉R a) (h:(x:Int)∈R a\/(x:Int)∈R b):(∀ c,c∈Rm.lk R a b x↔c∈R a\/c∈R b)/\(Rm.lk R a b x).length=(R a).length+(R b).length+1:=by
 have T:=(W.link ha hb hn).1;have e:Rm.lk R a b x=Bi (R a) (R b) a b:=if_pos ((T.mem x).mpr h);rw [e];exact ⟨T.mem,T.facts.2.2⟩
def Wd.QP (W:Wd n R) (ha:a<n) (hb:b<n) (hn:(b:Int)∉R a) (h1:(x:Int)∉R a) (h2:(x:Int)∉R b):Rm.lk R a b x=R x :=
 if_neg λh=>((((W.link ha hb hn).1).mem x).mp h).elim h1 h2
def Wd.Uw (W:Wd n R) (ha:a<n) (hb:b<n) (hn:(b:Int)∉R a) (hx:x<n):∀ c∈R x,c∈Rm.lk R a b x :=
 W.sub (W.lk ha hb hn) (λu v h=>(W.QS ha hb hn u v).mpr (.inl h)) hx
def Wd.ct (W:Wd n R) (ha:a<n) (hb:b<n) (hab:a≠b) (hm:Ed n R a b):Wd n (ct R a b):=(W.cut ha hb hab (Ed.at W hm ha (W.me a ha))).1
def Wd.Q0 (W:Wd n R) (ha:a<n) (hb:b<n) (hab:a≠b) (hm:Ed n R a b) (x y:Int):Ed n (Rm.ct R a b) x y↔(Ed n R x y/\¬ (x,y)=((a:Int),(b:Int))/\¬ (x,y)=((b:Int),(a:Int))):=(W.cut ha hb hab (Ed.at W hm ha (W.me a ha))).2 x y
def Wd.UB (W:Wd n R) (ha:a<n) (hb:b<n) (hab:a≠b) (hm:Ed n R a b):(b:Int)∉Rm.ct R a b a/\(∀ c,c∈R a↔c∈Rm.ct R a b a\/c∈Rm.ct R a b b)/\(Rm.ct R a b a).length+(Rm.ct R a b b).length+1=(R a).length:=by
 have hR:=W.r a ha;have P:=hR.parted (Ed.at W hm ha (W.me a ha)) (by lia:(a:Int)≠b);have PM:=P.mem hR;have e1:Rm.ct R a b b=(xt (R a) a b).2:=if_pos P.hb
 have e2:Rm.ct R a b a=(xt (R a) a b).1:=by
  show (if _ then _ else if _ then _ else _)=_
  rw [if_neg λh=>P.YG _ h P.ha,if_pos P.ha]
 rw [e1,e2];exact ⟨P.YG _ P.hb,PM,P.len⟩
def Wd.Wo (W:Wd n R) (ha:a<n) (hb:b<n) (hab:a≠b) (hm:Ed n R a b) (h:(x:Int)∉R a):Rm.ct R a b x=R x:=by
 have hR:=W.r a ha;have PM:=(hR.parted (Ed.at W hm ha (W.me a ha)) (by lia:(a:Int)≠b)).mem hR
 show (if _ then _ else if _ then _ else _)=_
 rw [if_neg λq=>h ((PM _).mpr (.inr q)),if_neg λq=>h ((PM _).mpr (.inl q))]
end
structure Ti where
 x:Nat
 y:Nat
 cm:Nat
 wd:Bool
def Ti.key (t:Ti):Int×Int:=((t.x:Int),(t.y:Int))
def Ti.Is (t:Ti) (u v:Int):Prop:=(u,v)=((t.x:Int),(t.y:Int))\/(u,v)=((t.y:Int),(t.x:Int))
def Ti.up (t:Ti):Ti:={ t with cm:=t.cm+1 }
def Ti.vg (t:Ti):Ti:={ t with wd:=true }
def Ti.QX {t u:Ti}(h:t.key=u.key):t.x=u.x/\t.y=u.y:=by
 obtain ⟨h1,h2⟩:=cB h;lia
def Ti.vf {t u:Ti}(ht:t.x<t.y) (hu:u.x<u.y) (h:t.Is u.x u.y):t.key=u.key:=by
 rcases h with h|h<;>obtain ⟨h1,h2⟩:=cB h
 ·exact Ay h1.symm h2.symm
 ·lia
def Ti.MB {t:Ti}{u v:Int}:t.Is u v->t.Is v u:=λh=>h.elim (λh=>.inr (by rw [Hj] at h ⊢;exact ⟨h.2,h.1⟩)) (λh=>.inl (by rw [Hj] at h ⊢;exact ⟨h.2,h.1⟩))
structure Lv (n T:Nat) (ts:List Ti) (R:Nat->Nat->List Int):Prop where
 wd:∀ i,i<=T->Wd n (R i)
 ed:∀ i,i<=T->∀ u v:Int,Ed n (R i) u v↔∃ t∈ts,t.wd=true/\i<=t.cm/\t.Is u v
 sz:∀ i,i<=T->∀ x,x<n->((R i x).length+1)*2^i<=2*n
 lt:∀ t∈ts,t.x<t.y/\t.y<n/\t.cm<=T
 nd:(ts.map Ti.key).Nodup
def Jn (ts:List Ti) (R:Nat->Nat->List Int):Prop:=∀ t∈ts,(t.y:Int)∈R t.cm t.x
def n5 {ts:List Ti}(h:(ts.map Ti.key).Nodup) {t u:Ti}(ht:t∈ts) (hu:u∈ts) (e:t.key=u.key):t=u:=by
 induction ts with
 | nil=>nomatch ht
 | cons s ts ih =>
  rw [bU,bp] at h
  rcases av.mp ht with rfl|ht'<;>rcases av.mp hu with rfl|hu'
  ·rfl
  ·exact absurd (e▸bq hu') h.1
  ·exact absurd (e▸bq ht') h.1
  ·exact ih h.2 ht' hu'
def ia (ts:List Ti) (k:Int×Int) (f:Ti->Ti):List Ti:=ts.map λt=>if t.key=k then f t else t
section
variable {n T:Nat}{ts:List Ti}{R:Nat->Nat->List Int}{t:Ti}{f:Ti->Ti}
def mP (hf:∀ t,(f t).key=t.key) (k:Int×Int):(ia ts k f).map Ti.key=ts.map Ti.key:=by
 unfold ia;rw [bK]
 exact kJ λu _=>by
  show Ti.key (if _ then _ else _)=_
  split
  ·exact hf u
  ·rfl
def Jz (ts ts':List Ti):Prop:=ts'.map Ti.key=ts.map Ti.key/\∀ t∈ts',∃ s∈ts,s.key=t.key/\s.cm<=t.cm
def Jz.refl (ts:List Ti):Jz ts ts:=⟨rfl,λt h=>⟨t,h,rfl,ar _⟩⟩
def Jz.trans {ts1 ts2:List Ti}(h:Jz ts ts1) (h':Jz ts1 ts2):Jz ts ts2:=⟨h'.1.trans h.1,λt ht=>by
 obtain ⟨s,hs,e,l⟩:=h'.2 t ht;obtain ⟨r,hr,e',l'⟩:=h.2 s hs
 exact ⟨r,hr,e'.trans e,bf l' l⟩⟩
def Jz.set {ts1:List Ti}(h:Jz ts ts1) (hf:∀ t,(f t).key=t.key/\t.cm<=(f t).cm) (k:Int×Int):Jz ts (ia ts1 k f):=by
 refine h.trans ⟨mP (λt=>(hf t).1) k,λt ht=>?_⟩;obtain ⟨s,hs,e⟩:=a6.mp ht;refine ⟨s,hs,?_⟩
 split at e<;>rw [← e]
 ·exact ⟨(hf s).1.symm,(hf s).2⟩
 ·exact ⟨rfl,ar _⟩
def Ti.Uz (t:Ti):t.up.key=t.key/\t.cm<=t.up.cm:=⟨rfl,gW _⟩
def Ti.inR (t:Ti):t.vg.key=t.key/\t.cm<=t.vg.cm:=⟨rfl,ar _⟩
def kQ (hnd:(ts.map Ti.key).Nodup) (ht:t∈ts) (u:Ti):u∈ia ts t.key f↔u=f t\/(u∈ts/\u.key≠t.key):=by
 unfold ia;rw [a6]
 constructor
 ·rintro ⟨v,hv,e⟩
  by_cases c:v.key=t.key
  ·rw [if_pos c] at e;rw [n5 hnd hv ht c] at e;exact .inl e.symm
  ·rw [if_neg c] at e;subst e;exact .inr ⟨hv,c⟩
 ·rintro (e|⟨h,c⟩)
  ·exact ⟨t,ht,by rw [if_pos rfl,e]⟩
  ·exact ⟨u,h,if_neg c⟩
def Lv.mono (L:Lv n T ts R) {i j x:Nat}(hij:i<=j) (hj:j<=T) (hx:x<n):∀ c∈R j x,c∈R i x :=
 (L.wd j hj).sub (L.wd i (bf hij hj)) (λu v h=>by
  obtain ⟨t,h1,h2,h3,h4⟩:=(L.ed j hj u v).mp h
  exact (L.ed i (bf hij hj) u v).mpr ⟨t,h1,h2,bf hij h3,h4⟩) hx
def Lv.apart (L:Lv n T ts R) (ht:t∈ts) (hw:t.wd=true) {i:Nat}(hi:t.cm<i) (hT:i<=T):(t.y:Int)∉R i t.x:=by
 obtain ⟨h1,h2,h3⟩:=L.lt t ht;have W:=L.wd t.cm h3;have e:Ed n (R t.cm) t.x t.y:=(L.ed _ h3 _ _).mpr ⟨t,ht,hw,ar _,.inl rfl⟩;have c:=W.UB (a:=t.x) (b:=t.y) (by lia) h2 (by lia) e;intro hin;refine c.1 ((L.wd i hT).sub (W.ct (a:=t.x) (b:=t.y) (by lia) h2 (by lia) e) (λu v h=>?_) (by lia) _ hin);obtain ⟨s,s1,s2,s3,s4⟩:=(L.ed i hT u v).mp h
 have ne:¬ t.Is u v:=λq=>by
  have:s.key=t.key:=by
   obtain ⟨l1,l2,l3⟩:=L.lt s s1
   rcases q with q|q<;>obtain ⟨rfl,rfl⟩:=cB q
   ·exact Ti.vf l1 h1 s4
   ·exact Ti.vf l1 h1 (Ti.MB s4)
  rw [n5 L.nd s1 ht this] at s3;lia
 exact (W.Q0 (a:=t.x) (b:=t.y) (by lia) h2 (by lia) e u v).mpr ⟨(L.ed _ h3 u v).mpr ⟨s,s1,s2,by lia,s4⟩,λq=>ne (.inl q),λq=>ne (.inr q)⟩
def Uz (R:Nat->Nat->List Int) (j x y:Nat):Nat->Nat->List Int:=λi=>if i=j then lk (R j) x y else R i
def JQ (R:Nat->Nat->List Int) (l x y:Nat):Nat->Nat->List Int:=λi=>if i<=l then lk (R i) x y else R i
def Zj (R:Nat->Nat->List Int) (l x y:Nat):Nat->Nat->List Int:=λi=>if i<=l then ct (R i) x y else R i
def Lv.vf (L:Lv n T ts R) {s:Ti}(hs:s∈ts) (ht:t∈ts) {u v:Int}(h1:s.Is u v) (h2:t.Is u v):s=t:=by
 refine n5 L.nd hs ht ?_
 rcases h2 with q|q<;>obtain ⟨rfl,rfl⟩:=cB q
 ·exact Ti.vf (L.lt s hs).1 (L.lt t ht).1 h1
 ·exact Ti.vf (L.lt s hs).1 (L.lt t ht).1 (Ti.MB h1)
structure Dn (n T:Nat) (ts:List Ti) (R:Nat->Nat->List Int) (a b k:Nat):Prop where
 lv:Lv n T ts R
 ha:a<n
 hb:b<n
 hk:k<=T+1
 ap:(b:Int)∉R 0 a
 s2:∀ i,i<k->((R i a).length+(R i b).length+2)*2^i<=2*n
 jn:∀ t∈ts,(t.y:Int)∈R t.cm t.x\/(t.cm<k/\((t.x:Int)∈R t.cm a/\(t.y:Int)∈R t.cm b\/(t.x:Int)∈R t.cm b/\(t.y:Int)∈R t.cm a))
variable {a b k l:Nat}
def Dn.swap (D:Dn n T ts R a b k):Dn n T ts R b a k :=
 ⟨D.lv,D.hb,D.ha,D.hk,λh=>D.ap ((D.lv.wd 0 (aQ _)).sy D.hb D.ha h),λi hi=>by have:=D.s2 i hi;rwa [N2 (R i b).length],λt ht=>(D.jn t ht).imp_right λh=>⟨h.1,h.2.symm⟩⟩
def Dn.done (D:Dn n T ts R a b 0):Jn ts R:=λt ht=>(D.jn t ht).resolve_right λh=>by lia
def Dn.apart (D:Dn n T ts R a b k) {i:Nat}(hi:i<=T):(b:Int)∉R i a:=λh=>D.ap (D.lv.mono (aQ _) hi D.ha _ h)
def Lv.drop (L:Lv n T ts R) (J:Jn ts R) (ht:t∈ts) (hw:t.wd=true):Dn n T (ts.filter λu=>decide (u.key≠t.key)) (Zj R t.cm t.x t.y) t.x t.y (t.cm+1):=by
 obtain ⟨h1,h2,h3⟩:=L.lt t ht
 have hx:t.x<n:=by lia
 have hne:t.x≠t.y:=by lia
 have e:∀ i,i<=t.cm->Ed n (R i) t.x t.y:=λi hi=>(L.ed i (by lia) _ _).mpr ⟨t,ht,hw,hi,.inl rfl⟩;have lo:∀ i,i<=t.cm->Zj R t.cm t.x t.y i=ct (R i) t.x t.y:=λi hi=>if_pos hi;have hi':∀ i,¬ i<=t.cm->Zj R t.cm t.x t.y i=R i:=λi hi=>if_neg hi
 have mm:∀ u,u∈ts.filter (λu=>decide (u.key≠t.key))↔u∈ts/\u≠t:=λu=>by
  rw [cw,decide_eq_true_iff];exact and_congr_right λhu=>not_congr ⟨λq=>n5 L.nd hu ht q,λq=>q▸rfl⟩
 have C:=λi (hi:i<=t.cm)=>(L.wd i (by lia)).UB hx h2 hne (e i hi);refine ⟨⟨λi hi=>?_,λi hi u v=>?_,λi hi x hx'=>?_,λu hu=>L.lt u ((mm u).mp hu).1,?_⟩,hx,h2,by lia,?_,λi hi=>?_,λu hu=>?_⟩
 ·by_cases c:i<=t.cm
  ·rw [lo i c];exact (L.wd i hi).ct hx h2 hne (e i c)
  ·rw [hi' i c];exact L.wd i hi
 ·by_cases c:i<=t.cm
  ·rw [lo i c,(L.wd i hi).Q0 hx h2 hne (e i c),L.ed i hi]
   constructor
   ·rintro ⟨⟨s,s1,s2,s3,s4⟩,n1,n2⟩;exact ⟨s,(mm s).mpr ⟨s1,λq=>(q▸s4).elim n1 n2⟩,s2,s3,s4⟩
   ·rintro ⟨s,s1,s2,s3,s4⟩;have s5:=(mm s).mp s1;exact ⟨⟨s,s5.1,s2,s3,s4⟩,λq=>s5.2 (L.vf s5.1 ht s4 (.inl q)),λq=>s5.2 (L.vf s5.1 ht s4 (.inr q))⟩
  ·rw [hi' i c,L.ed i hi]
   constructor
   ·rintro ⟨s,s1,s2,s3,s4⟩;exact ⟨s,(mm s).mpr ⟨s1,λq=>c (q▸s3)⟩,s2,s3,s4⟩
   ·rintro ⟨s,s1,s2⟩;exact ⟨s,((mm s).mp s1).1,s2⟩
 ·refine bf (ke _ (mO ?_)) (L.sz i hi x hx')
  by_cases c:i<=t.cm
  ·rw [lo i c];have W':=(L.wd i hi).ct hx h2 hne (e i c);exact Mb (W'.r x hx') ((L.wd i hi).r x hx') (W'.sub (L.wd i hi) (λu v q=>(((L.wd i hi).Q0 hx h2 hne (e i c) u v).mp q).1) hx')
  ·rw [hi' i c];exact ar _
 ·exact (vo _ iV).nodup L.nd
 ·rw [lo 0 (aQ _)];exact (C 0 (aQ _)).1
 ·rw [lo i (by lia)];have:=(C i (by lia)).2.2;have:=L.sz i (by lia) t.x hx
  have e:(ct (R i) t.x t.y t.x).length+(ct (R i) t.x t.y t.y).length+2=(R i t.x).length+1:=by lia
  rw [e];exact this
 ·obtain ⟨q1,q2⟩:=(mm u).mp hu;have j:=J u q1;obtain ⟨u1,u2,u3⟩:=L.lt u q1
  by_cases c:u.cm<=t.cm
  ·rw [lo _ c];have W:=L.wd _ u3;have W':=W.ct hx h2 hne (e _ c)
   by_cases d:(u.x:Int)∈R u.cm t.x
   ·have d':(u.y:Int)∈R u.cm t.x:=by rw [W.eq hx (by lia) d];exact j
    rcases ((C _ c).2.1 _).mp d with p|p<;>rcases ((C _ c).2.1 _).mp d' with p'|p'
    ·exact .inl (by rw [← W'.eq hx (by lia) p];exact p')
    ·exact .inr ⟨by lia,.inl ⟨p,p'⟩⟩
    ·exact .inr ⟨by lia,.inr ⟨p,p'⟩⟩
    ·exact .inl (by rw [← W'.eq h2 (by lia) p];exact p')
   ·rw [W.Wo hx h2 hne (e _ c) d];exact .inl j
  ·rw [hi' _ c];exact .inl j
def Dn.Uy (D:Dn n T ts R a b (l+1)) (hT:∀ j,2^(j+1)<=n->j<=T) (hs:((R l a).length+1)*2^(l+1)<=2*n) {x y:Nat}(hx:(x:Int)∈R l a) (hy:(y:Int)∈R l a) (hxy:x≠y):l+1<=T:=by
 have hl:l<=T:=by have:=D.hk;lia
 obtain ⟨d,d1,d2,d3⟩:=((D.lv.wd l hl).r a D.ha).cnt
 have:2<=d.length:=by
  have hx':=(d2 _).mpr hx;have hy':=(d2 _).mpr hy
  match d,d1,hx',hy' with
  | [c],_,hx',hy' =>
   rw [aA] at hx' hy'
   lia
  | c::e::r,_,_,_=>simp
 refine hT _ ?_;have h4:4*2^(l+1)<=((R l a).length+1)*2^(l+1):=ke _ (by lia);have:=CK 2 (l+1);lia
def Dn.YK (D:Dn n T ts R a b (l+1)) (hT:∀ j,2^(j+1)<=n->j<=T) (hs:((R l a).length+1)*2^(l+1)<=2*n) (ht:t∈ts) (hw:t.wd=true) (hl:t.cm=l) (hx:(t.x:Int)∈R l a) (hy:(t.y:Int)∈R l a) :
  l+1<=T/\(t.y:Int)∉R (l+1) t.x/\Dn n T (ia ts t.key Ti.up) (Uz R (l+1) t.x t.y) a b (l+1):=by
 have L:=D.lv;obtain ⟨h1,h2,h3⟩:=L.lt t ht;have hl1:l+1<=T:=D.Uy hT hs hx hy (by lia);have hap:=L.apart ht hw (i:=l+1) (by lia) hl1
 have hxn:t.x<n:=by lia
 have W:=L.wd _ hl1;have hi':∀ i,i≠l+1->Uz R (l+1) t.x t.y i=R i:=λi hi=>if_neg hi;have at':Uz R (l+1) t.x t.y (l+1)=lk (R (l+1)) t.x t.y:=if_pos rfl;have mm:=kQ (f:=Ti.up) L.nd ht;have kk:∀ u,u∈ts->u≠t->u.key≠t.key:=λu hu hne q=>hne (n5 L.nd hu ht q);have lo:=L.wd l (by lia);refine ⟨hl1,hap,⟨λi hi=>?_,λi hi u v=>?_,λi hi x hx'=>?_,λu hu=>?_,?_⟩,D.ha,D.hb,D.hk,?_,λi hi=>?_,λu hu=>?_⟩
 ·by_cases c:i=l+1
  ·subst c;rw [at'];exact W.lk hxn h2 hap
  ·rw [hi' i c];exact L.wd i hi
 ·have:(∃ s∈ia ts t.key Ti.up,s.wd=true/\i<=s.cm/\s.Is u v)↔(i<=l+1/\t.Is u v)\/∃ s∈ts,s≠t/\s.wd=true/\i<=s.cm/\s.Is u v:=by
   constructor
   ·rintro ⟨s,s1,s2⟩
    rcases (mm s).mp s1 with rfl|⟨q1,q2⟩
    ·exact .inl ⟨by have:i<=t.cm+1:=s2.2.1;lia,s2.2.2⟩
    ·exact .inr ⟨s,q1,λq=>q2 (q▸rfl),s2⟩
   ·rintro (⟨q1,q2⟩|⟨s,s1,s2,s3⟩)
    ·exact ⟨t.up,(mm _).mpr (.inl rfl),hw,by show i<=t.cm+1;lia,q2⟩
    ·exact ⟨s,(mm _).mpr (.inr ⟨s1,kk s s1 s2⟩),s3⟩
  rw [this]
  have old:Ed n (R i) u v↔(i<=l/\t.Is u v)\/∃ s∈ts,s≠t/\s.wd=true/\i<=s.cm/\s.Is u v:=by
   rw [L.ed i hi]
   constructor
   ·rintro ⟨s,s1,s2,s3,s4⟩
    by_cases q:s=t
    ·subst q;exact .inl ⟨by lia,s4⟩
    ·exact .inr ⟨s,s1,q,s2,s3,s4⟩
   ·rintro (⟨q1,q2⟩|⟨s,s1,s2,s3⟩)
    ·exact ⟨t,ht,hw,by lia,q2⟩
    ·exact ⟨s,s1,s3⟩
  by_cases c:i=l+1
  ·subst c;rw [at',W.QS hxn h2 hap,old]
   constructor
   ·rintro ((⟨q,_⟩|q)|q)
    ·lia
    ·exact .inr q
    ·exact .inl ⟨ar _,q⟩
   ·rintro (⟨_,q⟩|q)
    ·exact .inr q
    ·exact .inl (.inr q)
  ·rw [hi' i c,old];exact or_congr_left (and_congr_left λ_=>by lia)
 ·by_cases c:i=l+1
  ·subst c;rw [at']
   by_cases d:(x:Int)∈R (l+1) t.x\/(x:Int)∈R (l+1) t.y
   ·refine bf (ke _ (mO ?_)) hs;refine Mb ((W.lk hxn h2 hap).r x hx') (lo.r a D.ha) λc hc=>?_
    rcases ((W.Fd hxn h2 hap d).1 c).mp hc with q|q
    ·rw [lo.eq D.ha hxn hx];exact L.mono (gW l) hl1 hxn _ q
    ·rw [lo.eq D.ha h2 hy];exact L.mono (gW l) hl1 h2 _ q
   ·rw [W.QP hxn h2 hap (λq=>d (.inl q)) (λq=>d (.inr q))];exact L.sz _ hi x hx'
  ·rw [hi' i c];exact L.sz i hi x hx'
 ·rcases (mm u).mp hu with rfl|⟨q,_⟩
  ·exact ⟨h1,h2,by show t.cm+1<=T;lia⟩
  ·exact L.lt u q
 ·exact (mP (f:=Ti.up) (λ_=>rfl) t.key).symm▸L.nd
 ·rw [hi' 0 (by lia)];exact D.ap
 ·rw [hi' i (by lia)];exact D.s2 i hi
 ·rcases (mm u).mp hu with rfl|⟨q,_⟩
  ·have:t.up.cm=l+1:=by show t.cm+1=l+1;lia
   rw [this,at'];exact .inl (((W.Fd (x:=t.x) hxn h2 hap (.inl (W.me _ hxn))).1 _).mpr (.inr (W.me _ h2)))
  ·have j:=D.jn u q;obtain ⟨u1,u2,u3⟩:=L.lt u q
   by_cases c:u.cm=l+1
   ·rw [c] at j ⊢;rw [at'];exact .inl (W.Uw hxn h2 hap (by lia) _ (j.resolve_right λq=>by lia))
   ·rw [hi' _ c];exact j
def Dn.full (D:Dn n T ts R a b (l+1)) (hno:∀ t∈ts,t.wd=true->t.cm=l->(t.x:Int)∈R l a->(t.y:Int)∈R l a->False) (hl:l+1<=T) {x y:Nat}(hx:x<n) (hy:y<n) (h1:(x:Int)∈R l a) (h2:(y:Int)∈R l a):(y:Int)∈R (l+1) x:=by
 have L:=D.lv;have W:=L.wd l (by lia);have V:=L.wd (l+1) hl;have e:=W.eq D.ha hx h1;refine Sx (M:=λc=>c∈R (l+1) x) (l:=R l a) (λu v hm=>?_) ⟨x,h1,V.me x hx⟩ y h2;obtain ⟨t,t1,t2,t3,t4⟩:=(L.ed l (by lia) u v).mp ⟨a,D.ha,hm⟩;have m:=fY hm
 have ne:t.cm≠l:=λq=>by
  rcases t4 with p|p<;>obtain ⟨rfl,rfl⟩:=cB p
  ·exact hno t t1 t2 q m.1 m.2
  ·exact hno t t1 t2 q m.2 m.1
 have E:Ed n (R (l+1)) u v:=(L.ed _ hl u v).mpr ⟨t,t1,t2,by lia,t4⟩;exact ⟨λhu=>(fY (Ed.at V E hx hu)).2,λhv=>(fY (Ed.at V (Ed.symm V E) hx hv)).2⟩
def Dn.YI (D:Dn n T ts R a b (l+1)) (ht:t∈ts) (hw:t.wd=false) (hl:t.cm=l) (hl1:l+1<=T) (hj:(t.y:Int)∈R (l+1) t.x):Dn n T (ia ts t.key Ti.up) R a b (l+1):=by
 have L:=D.lv;obtain ⟨h1,h2,h3⟩:=L.lt t ht;have mm:=kQ (f:=Ti.up) L.nd ht;have kk:∀ u,u∈ts->u≠t->u.key≠t.key:=λu hu hne q=>hne (n5 L.nd hu ht q);refine ⟨⟨L.wd,λi hi u v=>?_,L.sz,λu hu=>?_,?_⟩,D.ha,D.hb,D.hk,D.ap,D.s2,λu hu=>?_⟩
 ·rw [L.ed i hi]
  constructor
  ·rintro ⟨s,s1,s2,s3⟩;exact ⟨s,(mm s).mpr (.inr ⟨s1,kk s s1 λq=>by rw [q,hw] at s2;exact absurd s2 (by decide)⟩),s2,s3⟩
  ·rintro ⟨s,s1,s2,s3⟩
   rcases (mm s).mp s1 with rfl|⟨q,_⟩
   ·exact absurd (hw.symm.trans s2) (by decide)
   ·exact ⟨s,q,s2,s3⟩
 ·rcases (mm u).mp hu with rfl|⟨q,_⟩
  ·exact ⟨h1,h2,by show t.cm+1<=T;lia⟩
  ·exact L.lt u q
 ·exact (mP (f:=Ti.up) (λ_=>rfl) t.key).symm▸L.nd
 ·rcases (mm u).mp hu with rfl|⟨q,_⟩
  ·have:t.up.cm=l+1:=by show t.cm+1=l+1;lia
   rw [this];exact .inl hj
  ·exact D.jn u q
def Dn.next (D:Dn n T ts R a b (l+1)) (hno:∀ t∈ts,t.wd=false->t.cm=l->¬ ((t.x:Int)∈R l a/\(t.y:Int)∉R l a)/\¬ ((t.x:Int)∉R l a/\(t.y:Int)∈R l a)):Dn n T ts R a b l:=by
 have L:=D.lv
 have hl:l<=T:=by have:=D.hk;lia
 refine ⟨L,D.ha,D.hb,by lia,D.ap,λi hi=>D.s2 i (by lia),λt ht=>?_⟩;obtain ⟨h1,h2,h3⟩:=L.lt t ht
 rcases D.jn t ht with j|⟨j1,j2⟩
 ·exact .inl j
 ·by_cases c:t.cm=l
  ·cases hw:t.wd with
   | true =>
    have E:Ed n (R t.cm) t.x t.y:=(L.ed _ h3 _ _).mpr ⟨t,ht,hw,ar _,.inl rfl⟩
    exact .inl (fY (Ed.at (L.wd _ h3) E (by lia) ((L.wd _ h3).me _ (by lia)))).2
   | false =>
    have q:=hno t ht hw c;have W:=L.wd l hl;have ap:∀ z:Int,z∈R l a->z∉R l b:=λz q1 q2=>D.apart hl (by rw [W.same D.ha D.hb q1 q2];exact W.me b D.hb);rw [c] at j2
    rcases j2 with ⟨p1,p2⟩|⟨p1,p2⟩
    ·exact absurd ⟨p1,λp=>ap _ p p2⟩ q.1
    ·exact absurd ⟨λp=>ap _ p p1,p2⟩ q.2
  ·exact .inr ⟨by lia,j2⟩
def Lv.adopt (L:Lv n T ts R) (ht:t∈ts) (hw:t.wd=false) (hap:∀ i,i<=t.cm->(t.y:Int)∉R i t.x) (hs:∀ i,i<=t.cm->((R i t.x).length+(R i t.y).length+2)*2^i<=2*n):Lv n T (ia ts t.key Ti.vg) (JQ R t.cm t.x t.y):=by
 obtain ⟨h1,h2,h3⟩:=L.lt t ht
 have hxn:t.x<n:=by lia
 have mm:=kQ (f:=Ti.vg) L.nd ht;have kk:∀ u,u∈ts->u≠t->u.key≠t.key:=λu hu hne q=>hne (n5 L.nd hu ht q);have lo:∀ i,i<=t.cm->JQ R t.cm t.x t.y i=lk (R i) t.x t.y:=λi hi=>if_pos hi;have hi':∀ i,¬ i<=t.cm->JQ R t.cm t.x t.y i=R i:=λi hi=>if_neg hi;refine ⟨λi hi=>?_,λi hi u v=>?_,λi hi x hx'=>?_,λu hu=>?_,?_⟩
 ·by_cases c:i<=t.cm
  ·rw [lo i c];exact (L.wd i hi).lk hxn h2 (hap i c)
  ·rw [hi' i c];exact L.wd i hi
 ·have:(∃ s∈ia ts t.key Ti.vg,s.wd=true/\i<=s.cm/\s.Is u v)↔(∃ s∈ts,s.wd=true/\i<=s.cm/\s.Is u v)\/(i<=t.cm/\t.Is u v):=by
   constructor
   ·rintro ⟨s,s1,s2⟩
    rcases (mm s).mp s1 with rfl|⟨q1,q2⟩
    ·exact .inr ⟨s2.2.1,s2.2.2⟩
    ·exact .inl ⟨s,q1,s2⟩
   ·rintro (⟨s,s1,s2,s3⟩|⟨q1,q2⟩)
    ·exact ⟨s,(mm _).mpr (.inr ⟨s1,kk s s1 λq=>by rw [q,hw] at s2;exact absurd s2 (by decide)⟩),s2,s3⟩
    ·exact ⟨t.vg,(mm _).mpr (.inl rfl),rfl,q1,q2⟩
  rw [this,← L.ed i hi]
  by_cases c:i<=t.cm
  ·rw [lo i c,(L.wd i hi).QS hxn h2 (hap i c)];exact or_congr_right ⟨λq=>⟨c,q⟩,λq=>q.2⟩
  ·rw [hi' i c];exact ⟨.inl,λq=>q.elim id λq=>absurd q.1 c⟩
 ·by_cases c:i<=t.cm
  ·rw [lo i c]
   by_cases d:(x:Int)∈R i t.x\/(x:Int)∈R i t.y
   ·rw [((L.wd i hi).Fd hxn h2 (hap i c) d).2];exact hs i c
   ·rw [(L.wd i hi).QP hxn h2 (hap i c) (λq=>d (.inl q)) (λq=>d (.inr q))];exact L.sz _ hi x hx'
  ·rw [hi' i c];exact L.sz i hi x hx'
 ·rcases (mm u).mp hu with rfl|⟨q,_⟩
  ·exact ⟨h1,h2,h3⟩
  ·exact L.lt u q
 ·exact (mP (f:=Ti.vg) (λ_=>rfl) t.key).symm▸L.nd
def Lv.JB (L:Lv n T ts R) (ht:t∈ts) (hap:∀ i,i<=t.cm->(t.y:Int)∉R i t.x) {i x:Nat}(hi:i<=T) (hx:x<n):∀ c∈R i x,c∈JQ R t.cm t.x t.y i x:=by
 obtain ⟨h1,h2,h3⟩:=L.lt t ht
 by_cases c:i<=t.cm
 ·have e:JQ R t.cm t.x t.y i=lk (R i) t.x t.y:=if_pos c;rw [e];exact (L.wd i hi).Uw (by lia) h2 (hap i c) hx
 ·have e:JQ R t.cm t.x t.y i=R i:=if_neg c;rw [e];exact λ_ h=>h
def Dn.adopt (D:Dn n T ts R a b (l+1)) (ht:t∈ts) (hw:t.wd=false) (hl:t.cm=l) (h:(t.x:Int)∈R l a/\(t.y:Int)∉R l a\/(t.x:Int)∉R l a/\(t.y:Int)∈R l a) :
  (∀ i,i<=t.cm->(t.y:Int)∉R i t.x)/\Lv n T (ia ts t.key Ti.vg) (JQ R t.cm t.x t.y)/\Jn (ia ts t.key Ti.vg) (JQ R t.cm t.x t.y):=by
 have L:=D.lv;obtain ⟨h1,h2,h3⟩:=L.lt t ht
 have hxn:t.x<n:=by lia
 have W:=L.wd t.cm h3
 have j:(t.x:Int)∈R t.cm a/\(t.y:Int)∈R t.cm b\/(t.x:Int)∈R t.cm b/\(t.y:Int)∈R t.cm a:=by
  rcases D.jn t ht with j|j
  ·rw [← hl] at h
   rcases h with ⟨p1,p2⟩|⟨p1,p2⟩
   ·exact absurd (by rw [W.eq D.ha hxn p1];exact j) p2
   ·exact absurd (by rw [W.eq D.ha h2 p2];exact W.sy hxn h2 j) p1
  ·exact j.2
 -- at each lower level the one end is on the one side,the other on the other
 have j':∀ i,i<=t.cm->(R i t.x=R i a/\R i t.y=R i b)\/(R i t.x=R i b/\R i t.y=R i a):=λi hi=>by
  have V:=L.wd i (by lia)
  rcases j with ⟨p1,p2⟩|⟨p1,p2⟩
  ·exact .inl ⟨(V.eq D.ha hxn (L.mono hi h3 D.ha _ p1)).symm,(V.eq D.hb h2 (L.mono hi h3 D.hb _ p2)).symm⟩
  ·exact .inr ⟨(V.eq D.hb hxn (L.mono hi h3 D.hb _ p1)).symm,(V.eq D.ha h2 (L.mono hi h3 D.ha _ p2)).symm⟩
 have hap:∀ i,i<=t.cm->(t.y:Int)∉R i t.x:=λi hi q=>by
  have V:=L.wd i (by lia);have e:=V.eq hxn h2 q;have n:=D.apart (i:=i) (by lia)
  rcases j' i hi with ⟨p1,p2⟩|⟨p1,p2⟩
  ·exact n (by rw [← p1,e,p2];exact V.me b D.hb)
  ·exact n (by rw [← p2,← e,p1];exact V.me b D.hb)
 have L':=L.adopt ht hw hap λi hi=>by
  have:=D.s2 i (by lia)
  rcases j' i hi with ⟨p1,p2⟩|⟨p1,p2⟩
  ·rw [p1,p2];exact this
  ·rw [p1,p2,N2 (R i b).length];exact this
 refine ⟨hap,L',λu hu=>?_⟩
 have lo:∀ i,i<=t.cm->∀ z:Nat,(z:Int)∈R i t.x\/(z:Int)∈R i t.y->∀ c,c∈JQ R t.cm t.x t.y i z↔c∈R i t.x\/c∈R i t.y:=λi hi z hz=>by
  have:JQ R t.cm t.x t.y i=lk (R i) t.x t.y:=if_pos hi;rw [this];exact ((L.wd i (by lia)).Fd hxn h2 (hap i hi) hz).1
 rcases (kQ (f:=Ti.vg) L.nd ht u).mp hu with rfl|⟨q,_⟩
 ·exact (lo t.cm (ar _) t.x (.inl (W.me _ hxn)) _).mpr (.inr (W.me _ h2))
 ·obtain ⟨u1,u2,u3⟩:=L.lt u q
  rcases D.jn u q with j|⟨k1,k2⟩
  ·exact L.JB ht hap u3 (by lia) _ j
  ·have V:=L.wd _ u3
   have c:u.cm<=t.cm:=by lia
   rcases j' _ c with ⟨p1,p2⟩|⟨p1,p2⟩<;>rcases k2 with ⟨k3,k4⟩|⟨k3,k4⟩<;>rw [← p1] at *<;>rw [← p2] at *
   ·exact (lo _ c _ (.inl k3) _).mpr (.inr k4)
   ·exact (lo _ c _ (.inr k3) _).mpr (.inl k4)
   ·exact (lo _ c _ (.inr k3) _).mpr (.inl k4)
   ·exact (lo _ c _ (.inl k3) _).mpr (.inr k4)
def Lv.YB (L:Lv n T ts R) (J:Jn ts R) (ht:t∈ts) (hw:t.wd=false):Lv n T (ts.filter λu=>decide (u.key≠t.key)) R/\Jn (ts.filter λu=>decide (u.key≠t.key)) R:=by
 have mm:∀ u,u∈ts.filter (λu=>decide (u.key≠t.key))↔u∈ts/\u≠t:=λu=>by
  rw [cw,decide_eq_true_iff];exact and_congr_right λhu=>not_congr ⟨λq=>n5 L.nd hu ht q,λq=>q▸rfl⟩
 refine ⟨⟨L.wd,λi hi u v=>?_,L.sz,λu hu=>L.lt u ((mm u).mp hu).1,(vo _ iV).nodup L.nd⟩,λu hu=>J u ((mm u).mp hu).1⟩;rw [L.ed i hi]
 constructor
 ·rintro ⟨s,s1,s2,s3⟩;exact ⟨s,(mm s).mpr ⟨s1,λq=>by rw [q,hw] at s2;exact absurd s2 (by decide)⟩,s2,s3⟩
 ·rintro ⟨s,s1,s2⟩;exact ⟨s,((mm s).mp s1).1,s2⟩
def Lv.put (L:Lv n T ts R) {x y:Nat}(hxy:x<y) (hy:y<n) (hk:((x:Int),(y:Int))∉ts.map Ti.key):Lv n T (ts++[⟨x,y,0,false⟩]) R:=by
 refine ⟨L.wd,λi hi u v=>?_,L.sz,λu hu=>?_,?_⟩
 ·rw [L.ed i hi]
  constructor
  ·rintro ⟨s,s1,s2⟩;exact ⟨s,dQ _ s1,s2⟩
  ·rintro ⟨s,s1,s2,s3⟩
   rcases aN.mp s1 with q|q
   ·exact ⟨s,q,s2,s3⟩
   ·rw [aA.mp q] at s2;exact absurd s2 bA
 ·rcases aN.mp hu with q|q
  ·exact L.lt u q
  ·rw [aA.mp q];exact ⟨hxy,hy,aQ _⟩
 ·rw [aU,gC];exact ⟨L.nd,by simp,λp hp q hq e=>hk (by rw [oB,aA] at hq;have e2:p=((x:Int),(y:Int)):=e.trans hq;rw [← e2];exact hp)⟩
def Lv.start (n T:Nat) (hn:2^(T+1)<=n\/T=0):Lv n T [] (λ_ i=>[(i:Int)]) :=
 ⟨λi _=>Wd.start n,λi _ u v=>⟨λ⟨j,_,hm⟩=>by simp [al] at hm,λ⟨t,h,_⟩=>nomatch h⟩,λi hi x hx=>by
  show 2*2^i<=2*n
  refine Nat.mul_le_mul_left 2 ?_
  rcases hn with h|h
  ·exact bf (Rb (by decide) (by lia)) h
  ·have:i=0:=by lia
   subst this
   simp;lia,(λt h=>nomatch h),oz⟩
theorem xX {α:Type} [DecidableEq α]:∀ {l m:List α},l.Nodup->(∀ x∈l,x∈m)->l.length<=m.length
 | [],m,_,_=>aQ _
 | a::l,m,hn,h=>by
  obtain ⟨h1,h2⟩:=bp.mp hn;have hm:=h a aw;have:=xX (l:=l) (m:=m.erase a) h2 λx hx=>(List.mem_erase_of_ne (λe:x=a=>h1 (e▸hx))).mpr (h x (aj _ hx));rw [J1 hm] at this;have:=sW hm;simp only [bT];lia
structure Zm (n T lv s o:Nat) (ts:List Ti) (R:Nat->Nat->List Int) (ps:List (Int×Int)) (i:Nat) (ts1:List Ti) (R1:Nat->Nat->List Int):Prop where
 dn:Dn n T ts1 R1 s o (lv+1)
 rl:R1 lv=R lv
 ks:Jz ts ts1
 pend:∀ t∈ts1,t.wd=true->t.cm=lv->(t.x:Int)∈R lv s->(t.y:Int)∈R lv s->t.key∈ps.drop i
 rem:∀ p∈ps.drop i,∃ t∈ts1,t.key=p/\t.wd=true/\t.cm=lv/\(t.x:Int)∈R lv s/\(t.y:Int)∈R lv s
 all:∀ p∈ps,∃ t∈ts1,t.key=p/\t.wd=true
variable {s o lv i:Nat}{ps:List (Int×Int)}{p:Int×Int}{ts1:List Ti}{R1:Nat->Nat->List Int}
def Zm.step (L:Zm n T lv s o ts R ps i ts1 R1) (hT:∀ j,2^(j+1)<=n->j<=T) (hs:((R lv s).length+1)*2^(lv+1)<=2*n) (hn:ps.Nodup) (hi:ps[i]?=some p) :
  ∃ t∈ts1,t.key=p/\t.wd=true/\t.cm+1<=T/\(t.y:Int)∉R1 (t.cm+1) t.x/\Zm n T lv s o ts R ps (i+1) (ia ts1 t.key Ti.up) (Uz R1 (t.cm+1) t.x t.y):=by
 obtain ⟨hlt,he⟩:=aC.mp hi
 have ed:ps.drop i=p::ps.drop (i+1):=by rw [fG hlt,he]
 have hpn:p∉ps.drop (i+1):=by
  have:=(Tj i ps).nodup hn;rw [ed] at this;exact (bp.mp this).1
 obtain ⟨t,t1,t2,t3,t4,t5,t6⟩:=L.rem p (by rw [ed];exact aw);have hnd:=L.dn.lv.nd;have q:=L.dn.YK hT (by rw [L.rl];exact hs) t1 t3 t4 (by rw [L.rl];exact t5) (by rw [L.rl];exact t6);have mm:=kQ (f:=Ti.up) hnd t1;rw [← t4] at q;refine ⟨t,t1,t2,t3,q.1,q.2.1,by rw [t4] at q ⊢;exact q.2.2,?_,?_,λu hu h1 h2 h3 h4=>?_,λp' hp'=>?_,λp' hp'=>?_⟩
 ·show (if _ then _ else _)=_
  rw [if_neg (by lia)];exact L.rl
 ·exact L.ks.set Ti.Uz _
 ·rcases (mm u).mp hu with rfl|⟨h5,h6⟩
  ·exact absurd h2 (by show ¬ t.cm+1=lv;lia)
  ·have:=L.pend u h5 h1 h2 h3 h4;rw [ed] at this;exact (av.mp this).resolve_left λe=>h6 (e.trans t2.symm)
 ·obtain ⟨u,u1,u2,u3⟩:=L.rem p' (by rw [ed];exact aj _ hp');exact ⟨u,(mm u).mpr (.inr ⟨u1,λe=>hpn (by rw [← t2,← e,u2];exact hp')⟩),u2,u3⟩
 ·obtain ⟨u,u1,u2,u3⟩:=L.all p' hp'
  by_cases c:u.key=t.key
  ·exact ⟨t.up,(mm _).mpr (.inl rfl),by rw [← u2,c];rfl,t3⟩
  ·exact ⟨u,(mm u).mpr (.inr ⟨u1,c⟩),u2,u3⟩
structure NI (n T lv s o:Nat) (ts:List Ti) (R:Nat->Nat->List Int) (ps:List (Int×Int)) (i:Nat) (ts1:List Ti):Prop where
 dn:Dn n T ts1 R s o (lv+1)
 ks:Jz ts ts1
 full:lv+1<=T->∀ x y,x<n->y<n->(x:Int)∈R lv s->(y:Int)∈R lv s->(y:Int)∈R (lv+1) x
 rem:∀ p∈ps.drop i,∃ t∈ts1,t.key=p/\t.wd=false/\t.cm=lv
 done:∀ t∈ts1,t.wd=false->t.cm=lv->t.key∈ps.drop i\/((t.x:Int)∉R lv s/\(t.y:Int)∉R lv s)
def NI.at (L:NI n T lv s o ts R ps i ts1) (hn:ps.Nodup) (hi:ps[i]?=some p):∃ t∈ts1,t.key=p/\t.wd=false/\t.cm=lv/\ps.drop i=p::ps.drop (i+1)/\p∉ps.drop (i+1):=by
 obtain ⟨hlt,he⟩:=aC.mp hi
 have ed:ps.drop i=p::ps.drop (i+1):=by rw [fG hlt,he]
 obtain ⟨t,t1,t2,t3,t4⟩:=L.rem p (by rw [ed];exact aw);refine ⟨t,t1,t2,t3,t4,ed,?_⟩;have:=(Tj i ps).nodup hn;rw [ed] at this;exact (bp.mp this).1
def NI.zero (L:NI n T lv s o ts R ps i ts1) (hn:ps.Nodup) (hi:ps[i]?=some p) (h1:p.1∉R lv s) (h2:p.2∉R lv s):NI n T lv s o ts R ps (i+1) ts1:=by
 obtain ⟨t,t1,t2,t3,t4,ed,hp⟩:=L.at hn hi;refine ⟨L.dn,L.ks,L.full,λq hq=>L.rem q (by rw [ed];exact aj _ hq),λu u1 u2 u3=>?_⟩
 rcases L.done u u1 u2 u3 with h|h
 ·rw [ed] at h
  rcases av.mp h with e|h
  ·have e1:(u.x:Int)=p.1:=by rw [← e];rfl
   have e2:(u.y:Int)=p.2:=by rw [← e];rfl
   exact .inr (by rw [e1,e2];exact ⟨h1,h2⟩)
  ·exact .inl h
 ·exact .inr h
def NI.two (L:NI n T lv s o ts R ps i ts1) (hT:∀ j,2^(j+1)<=n->j<=T) (hs:((R lv s).length+1)*2^(lv+1)<=2*n) (hn:ps.Nodup) (hi:ps[i]?=some p) (h1:p.1∈R lv s) (h2:p.2∈R lv s):∃ t∈ts1,t.key=p/\t.wd=false/\NI n T lv s o ts R ps (i+1) (ia ts1 t.key Ti.up):=by
 obtain ⟨t,t1,t2,t3,t4,ed,hp⟩:=L.at hn hi;subst t2;have hl:=L.dn.lv.lt t t1;have hT1:=L.dn.Uy hT hs (x:=t.x) (y:=t.y) h1 h2 (by lia);have mm:=kQ (f:=Ti.up) L.dn.lv.nd t1;refine ⟨t,t1,rfl,t3,L.dn.YI t1 t3 t4 hT1 (L.full hT1 _ _ (by lia) hl.2.1 h1 h2),?_,L.full,λq hq=>?_,λu hu h3 h4=>?_⟩
 ·exact L.ks.set Ti.Uz _
 ·obtain ⟨u,u1,u2,u3⟩:=L.rem q (by rw [ed];exact aj _ hq);exact ⟨u,(mm u).mpr (.inr ⟨u1,λe=>hp (by rw [← e,u2];exact hq)⟩),u2,u3⟩
 ·rcases (mm u).mp hu with rfl|⟨h5,h6⟩
  ·exact absurd h4 (by show ¬ t.cm+1=lv;lia)
  ·rcases L.done u h5 h3 h4 with h|h
   ·rw [ed] at h;exact .inl ((av.mp h).resolve_left h6)
   ·exact .inr h
def NI.one (L:NI n T lv s o ts R ps i ts1) (hn:ps.Nodup) (hi:ps[i]?=some p) (h:p.1∈R lv s/\p.2∉R lv s\/p.1∉R lv s/\p.2∈R lv s):∃ t∈ts1,t.key=p/\(∀ i,i<=t.cm->(t.y:Int)∉R i t.x)/\Lv n T (ia ts1 t.key Ti.vg) (JQ R t.cm t.x t.y)/\Jn (ia ts1 t.key Ti.vg) (JQ R t.cm t.x t.y):=by
 obtain ⟨t,t1,t2,t3,t4,ed,hp⟩:=L.at hn hi;subst t2;exact ⟨t,t1,rfl,L.dn.adopt t1 t3 t4 h⟩
def NI.fin (L:NI n T lv s o ts R ps i ts1) (hi:ps.length<=i):Dn n T ts1 R s o lv:=L.dn.next λt ht h1 h2=>by
 rcases L.done t ht h1 h2 with h|⟨h3,h4⟩
 ·rw [Oi.mpr hi] at h;cases h
 ·exact ⟨λq=>h3 q.1,λq=>h4 q.2⟩
end
end Rm
namespace Uf
inductive Cn (ps:List (Nat×Nat)):Nat->Nat->Prop
 | refl (x:Nat):Cn ps x x
 | step {x y z:Nat}:Cn ps x y->((y,z)∈ps\/(z,y)∈ps)->Cn ps x z
def Cn.trans {ps:List (Nat×Nat)}{x y z:Nat}(h:Cn ps x y) (h':Cn ps y z):Cn ps x z:=by
 induction h' with
 | refl=>exact h
 | step _ e ih=>exact .step ih e
def Cn.symm {ps:List (Nat×Nat)}{x y:Nat}(h:Cn ps x y):Cn ps y x:=by
 induction h with
 | refl=>exact .refl _
 | step _ e ih=>exact (Cn.step (.refl _) e.symm).trans ih
def Cn.mono {ps qs:List (Nat×Nat)}(hs:∀ p∈ps,p∈qs) {x y:Nat}(h:Cn ps x y):Cn qs x y:=by
 induction h with
 | refl=>exact .refl _
 | step _ e ih=>exact .step ih (e.imp (hs _) (hs _))
def Cn.one {ps:List (Nat×Nat)}{x y:Nat}(h:(x,y)∈ps):Cn ps x y:=.step (.refl _) (.inl h)
def Cn.fn {ps:List (Nat×Nat)}{f:Nat->Nat}(hs:∀ p∈ps,f p.1=f p.2) {x y:Nat}(h:Cn ps x y):f x=f y:=by
 induction h with
 | refl=>rfl
 | step _ e ih =>
  rcases e with e|e
  ·exact ih.trans (hs _ e)
  ·exact ih.trans (hs _ e).symm
def Cn.cl {ps:List (Nat×Nat)}{S:Nat->Prop}(hs:∀ p∈ps,S p.1↔S p.2) {x y:Nat}(h:Cn ps x y):S x↔S y:=by
 induction h with
 | refl=>exact Iff.rfl
 | step _ e ih =>
  rcases e with e|e
  ·exact ih.trans (hs _ e)
  ·exact ih.trans (hs _ e).symm
structure Hd (n:Nat) (h:List Nat):Prop where
 len:h.length=n
 le:∀ (i v:Nat),h[i]?=some v->v<=i
def rt (h:List Nat) (a:Nat):Nat :=
 match h[a]? with
 | some v=>if v<a then rt h v else a
 | none=>a
termination_by a
def T3 (h:List Nat) (a:Nat):rt h a=match h[a]? with|some v=>if v<a then rt h v else a|none=>a:=by
 rw [rt]
def Bj {h:List Nat}{a v:Nat}(e:h[a]?=some v):rt h a=if v<a then rt h v else a:=by rw [T3,e]
def Mc (h:List Nat):∀ a,rt h a<=a:=by
 intro a
 induction a using Hk with
 | ind a ih =>
  rw [T3]
  split
  ·split
   ·rename_i v _ c;exact bf (ih v c) (kx c)
   ·exact ar _
  ·exact ar _
section
variable {n:Nat}{h:List Nat}
def Hd.get (H:Hd n h) {a:Nat}(ha:a<n):∃ v,h[a]?=some v/\v<=a:=by
 have:a<h.length:=by rw [H.len];exact ha
 exact ⟨h[a],ay this,H.le _ _ (ay this)⟩
def Hd.root (H:Hd n h):∀ {a:Nat},a<n->h[rt h a]?=some (rt h a):=by
 intro a
 induction a using Hk with
 | ind a ih =>
  intro ha;obtain ⟨v,e,hv⟩:=H.get ha;rw [Bj e]
  split
  ·rename_i c;exact ih v c (by lia)
  ·rw [e];congr 1;lia
def Hd.self (H:Hd n h) {a:Nat}(e:h[a]?=some a):rt h a=a:=by rw [Bj e,if_neg (eL _)]
def Hd.set (H:Hd n h) {m M:Nat}(hm:m<=M):Hd n (h.set M m):=by
 refine ⟨by rw [Wy];exact H.len,λi v e=>?_⟩;rw [Tn] at e
 split at e
 ·rename_i c
  split at e
  ·cases e;lia
  ·cases e
 ·exact H.le i v e
def Hd.Wi (H:Hd n h) {m M:Nat}(hM:M<n) (h1:h[m]?=some m) (h2:h[M]?=some M) (hm:m<M):∀ {a:Nat},a<n->rt (h.set M m) a=if rt h a=M then m else rt h a:=by
 intro a
 induction a using Hk with
 | ind a ih =>
  intro ha
  by_cases c:a=M
  ·subst c
   have e:(h.set a m)[a]?=some m:=by rw [ji (by rw [H.len];exact ha)]
   rw [Bj e,if_pos hm,ih m hm (by lia),H.self h1,H.self h2,if_neg (by lia),if_pos rfl]
  ·obtain ⟨v,e,hv⟩:=H.get ha
   have e':(h.set M m)[a]?=some v:=by rw [mQ (Ne.symm c)];exact e
   rw [Bj e',Bj e]
   split
   ·rename_i c';exact ih v c' (by lia)
   ·first|rfl|rw [if_neg c]
structure Jo (n:Nat) (h:List Nat) (ps:List (Nat×Nat)):Prop where
 hd:Hd n h
 b:∀ p∈ps,p.1<n/\p.2<n
 j:∀ i k,i<n->k<n->(rt h i=rt h k↔Cn ps i k)
def Jo.start (n:Nat):Jo n (c6 n) []:=by
 have H:Hd n (c6 n):=⟨iD,λi v e=>by
  obtain ⟨h1,h2⟩:=aC.mp e
  rw [List.getElem_range] at h2;lia⟩
 refine ⟨H,(λp hp=>nomatch hp),λi k hi hk=>?_⟩;have r:∀ a,a<n->rt (c6 n) a=a:=λa ha=>H.self (by rw [kI ha]);rw [r i hi,r k hk]
 constructor
 ·rintro rfl;exact .refl _
 ·intro c
  cases c with
  | refl=>rfl
  | step _ e=>rcases e with e|e<;>nomatch e
def Jo.add {ps:List (Nat×Nat)}(J:Jo n h ps) {a b:Nat}(ha:a<n) (hb:b<n):Jo n (h.set (max (rt h a) (rt h b)) (min (rt h a) (rt h b))) (ps++[(a,b)]):=by
 have H:=J.hd;have la:=Mc h a;have lb:=Mc h b
 have B:∀ p∈ps++[(a,b)],p.1<n/\p.2<n:=λp hp=>by
  rcases aN.mp hp with q|q
  ·exact J.b p q
  ·rw [aA.mp q];exact ⟨ha,hb⟩
 refine ⟨H.set (by lia),B,λi k hi hk=>?_⟩;have mo:∀ p∈ps,p∈ps++[(a,b)]:=λp hp=>dQ _ hp;have od:∀ p∈ps,rt h p.1=rt h p.2:=λp hp=>(J.j _ _ (J.b p hp).1 (J.b p hp).2).mpr (Cn.one hp)
 by_cases c:rt h a=rt h b
 ·rw [c,Nat.max_self,Nat.min_self]
  have es:h.set (rt h b) (rt h b)=h:=by
   have:=H.root hb
   apply jK
   intro q;rw [Tn]
   split
   ·rename_i z;subst z
    rw [if_pos (by rw [H.len];lia),this]
   ·rfl
  rw [es];refine ⟨λz=>((J.j i k hi hk).mp z).mono mo,λz=>z.fn (f:=rt h) λp hp=>?_⟩
  rcases aN.mp hp with q|q
  ·exact od p q
  ·rw [aA.mp q];exact c
 ·have r1:h[min (rt h a) (rt h b)]?=some (min (rt h a) (rt h b)):=by
   rcases CL (rt h a) (rt h b) with q|q
   ·rw [kZ q];exact H.root ha
   ·rw [mG q];exact H.root hb
  have r2:h[max (rt h a) (rt h b)]?=some (max (rt h a) (rt h b)):=by
   rcases CL (rt h a) (rt h b) with q|q
   ·rw [WR q];exact H.root hb
   ·rw [Xa q];exact H.root ha
  have F:∀ {x:Nat},x<n->rt (h.set (max (rt h a) (rt h b)) (min (rt h a) (rt h b))) x=if rt h x=max (rt h a) (rt h b) then min (rt h a) (rt h b) else rt h x:=λhx=>H.Wi (by lia) r1 r2 (by lia) hx
  constructor
  ·intro z;rw [F hi,F hk] at z
   have go:∀ {x y:Nat},x<n->y<n->rt h x=max (rt h a) (rt h b)->rt h y=min (rt h a) (rt h b)->Cn (ps++[(a,b)]) x y:=λ{x y} hx hy e1 e2=>by
    have ab:Cn (ps++[(a,b)]) a b:=Cn.one (bG _ aw)
    rcases CL (rt h a) (rt h b) with q|q
    ·rw [WR q] at e1;rw [kZ q] at e2;exact (((J.j x b hx hb).mp e1).mono mo).trans (ab.symm.trans ((((J.j y a hy ha).mp e2).mono mo).symm))
    ·rw [Xa q] at e1;rw [mG q] at e2;exact (((J.j x a hx ha).mp e1).mono mo).trans (ab.trans ((((J.j y b hy hb).mp e2).mono mo).symm))
   by_cases c1:rt h i=max (rt h a) (rt h b)<;>by_cases c2:rt h k=max (rt h a) (rt h b)
   ·exact ((J.j i k hi hk).mp (c1.trans c2.symm)).mono mo
   ·rw [if_pos c1,if_neg c2] at z;exact go hi hk c1 z.symm
   ·rw [if_neg c1,if_pos c2] at z;exact (go hk hi c2 z).symm
   ·rw [if_neg c1,if_neg c2] at z;exact ((J.j i k hi hk).mp z).mono mo
  ·refine λz=>z.fn (f:=rt _) λp hp=>?_;obtain ⟨p1,p2⟩:=B p hp;rw [F p1,F p2]
   rcases aN.mp hp with q|q
   ·rw [od p q]
   ·rw [aA.mp q]
    show (if rt h a=_ then _ else rt h a)=if rt h b=_ then _ else rt h b
    rcases CL (rt h a) (rt h b) with q|q
    ·rw [if_neg (by lia),if_pos (by lia)];lia
    ·rw [if_pos (by lia),if_neg (by lia)];lia
end
end Uf
namespace Rm
open Uf
def Ti.np (t:Ti):Nat×Nat:=(t.x,t.y)
def Md {α:Type} {l:List α}(h:l.Nodup) {i:Nat}{a:α}(e:l[i]?=some a):a∉l.take i:=λha=>by
 rw [← eJ i l] at h;refine (gC.mp h).2.2 a ha a ?_ rfl;obtain ⟨h1,h2⟩:=aC.mp e;rw [fG h1,h2];exact aw
section
variable {n T:Nat}{ts:List Ti}{R:Nat->Nat->List Int}{t:Ti}
def Lv.cnl (L:Lv n T ts R) (J:Jn ts R) {l:Nat}(hl:l<=T) {ps:List (Nat×Nat)}(h1:∀ p∈ps,∃ t∈ts,l<=t.cm/\p=t.np) {i k:Nat}(hi:i<n) (c:Cn ps i k):(k:Int)∈R l i:=by
 have W:=L.wd l hl;refine (c.cl (S:=λz:Nat=>(z:Int)∈R l i) λp hp=>?_).mp (W.me i hi);obtain ⟨t,ht,hlt,rfl⟩:=h1 p hp;obtain ⟨l1,l2,l3⟩:=L.lt t ht
 have hx:t.x<n:=by lia
 have j:=L.mono hlt l3 hx _ (J t ht)
 show (t.x:Int)∈R l i↔(t.y:Int)∈R l i
 exact ⟨λq=>by rw [W.eq hi hx q];exact j,λq=>by rw [W.eq hi l2 q];exact W.sy hx l2 j⟩
def Lv.cnw (L:Lv n T ts R) {l:Nat}(hl:l<=T) {ps:List (Nat×Nat)}(h2:∀ t∈ts,t.wd=true->l<=t.cm->t.np∈ps) {i k:Nat}(hi:i<n) (q:(k:Int)∈R l i):Cn ps i k:=by
 have W:=L.wd l hl
 obtain ⟨m,e,c⟩:=Sx (M:=λz=>∃ m:Nat,z=(m:Int)/\Cn ps i m) (l:=R l i) (λu v huv=>by
  obtain ⟨t,ht,hw,hlt,hI⟩:=(L.ed l hl u v).mp ⟨i,hi,huv⟩;have m:=Cn.one (h2 t ht hw hlt)
  have go:(∃ m:Nat,(t.x:Int)=m/\Cn ps i m)↔∃ m:Nat,(t.y:Int)=m/\Cn ps i m:=⟨λ⟨m',e,c⟩=>⟨t.y,rfl,by rw [← uK e] at c;exact c.trans m⟩,λ⟨m',e,c⟩=>⟨t.x,rfl,by rw [← uK e] at c;exact c.trans m.symm⟩⟩
  rcases hI with e|e<;>cases e
  ·exact go
  ·exact go.symm) ⟨_,W.me i hi,i,rfl,.refl _⟩ _ q
 rw [uK e];exact c
def Lv.Uy (L:Lv n T ts R) (J:Jn ts R) {l:Nat}(hl:l<=T) {ps:List (Nat×Nat)}(h1:∀ p∈ps,∃ t∈ts,l<=t.cm/\p=t.np) {ks:List Nat}(hn:ks.Nodup) {i:Nat}(hi:i<n) (hk:∀ k∈ks,Cn ps i k):ks.length<=n/2^l:=by
 have W:=L.wd l hl;obtain ⟨ds,d1,d2,d3⟩:=(W.r i hi).cnt
 have h:=xX (l:=ks.map λk:Nat=>(k:Int)) (m:=ds) (dj.mpr (hn.imp λh e=>h (uK e))) λz hz=>by
  obtain ⟨k,hk',rfl⟩:=a6.mp hz;exact (d2 _).mpr (L.cnl J hl h1 hi (hk k hk'))
 rw [ag] at h;have s:=L.sz l hl i hi;rw [Nat.le_div_iff_mul_le (Xb l)]
 have:2*(ks.length*2^l)<=2*n:=by
  refine bf ?_ s;rw [← Nat.mul_assoc];exact ke _ (by lia)
 lia
end
end Rm
namespace L2
abbrev Ln (sp:Sp) (k:Nat):Prop:=∀ vs H Q E,sp vs H Q E->vs.length=k
abbrev Rn (sp:Sp) (rd:TS) (N:List bh):Prop:=∀ vs H Q E,sp vs H Q E->rd { nx:=λ_ H'=>Q .non H',rt:=Q } (start N vs) H
abbrev Rx (sp:Sp) (rd:XK->TS) (N:List bh):Prop:=∀ vs H Q E,sp vs H Q E->rd E { nx:=λ_ H'=>Q .non H',rt:=Q } (start N vs) H
def jZ {H H':Hp}{q:af}{o:HO}(e:upd H q o=H') (h:H q=none):bL H H'/\H' q=some o:=e▸⟨bL.cD h,aE⟩
def hU.m {j k:Nat}{A:bN}(r:hU k A) (h:j<=k:=by decide):hU j A:=r.mono h
end L2
local macro_rules | `(tactic| walk_at "s")=>`(tactic| exact ⟨rfl,rfl,rfl,by decide +kernel,rfl,by decide +kernel,by decide +kernel⟩)
local macro_rules | `(tactic| k_in)=>`(tactic| (lk;refine L2.xU ?_;lk))
local macro_rules | `(tactic| k_go)=>`(tactic| (lk;refine L2.mi ?_;lk))
local macro_rules | `(tactic| walk_at "l")=>`(tactic| first|(intro vs H Q E h;cases h;subst_vars;rfl)|(intro vs H Q E h;repeat' (first|(obtain ⟨e,_⟩:=h;exact e▸rfl)|(obtain ⟨_,h⟩:=h))))
namespace K37
open PySem PySem.Spec PyProof.Rows L2
abbrev C8:List bh:=["level","side","risen","found"]
abbrev Yh:List bh:=["_law_script","_law_digits_here","_law_head","_law_n","_law_keeper","_law_standing","_law_cells","_law_table_here","_law_k","_law_tie"]
abbrev tq:List bh:=["self","a","b"]
abbrev V5:List bh:=["_law_head","_law_n","_law_ties","_law_way","_law_a","_law_b","_law_turn"]
abbrev Yi:List bh:=["_law_n","_law_table_here","_law_level","_law_most","_law_many","_law_root_here","_law_heads_here","_law_row"]
abbrev Yj:List bh:=["_law_cell","_law_k","_law_n","_law_table_here","_law_way","_law_wood","_law_most","_law_a","_law_b"]
abbrev Yk:List bh:=["_law_keeper","_law_n","_law_standing","_law_old","_law_tie","_law_a","_law_b","_law_table_here"]
abbrev vR:List bh:=["self","tie"]
abbrev Io:List bh:=["self","tie","weight"]
abbrev Yl:List bh:=["_law_n","_law_pairs","_law_heads_here","_law_a","_law_b","_law_one","_law_other"]
abbrev qg:List bh:=["self","n"]
abbrev T7:List bh:=["_law_keeper","_law_head","_law_n","_law_standing","_law_a","_law_b"]
abbrev T8:List bh:=["row","a","b","along","there","back","k","m","inner","outer"]
abbrev Me:List bh:=["a","b","level","in_wood","n"]
abbrev Mg:List bh:=["n","standing","a","b","tie"]
abbrev T9:List bh:=["_law_keeper","_law_n","_law_standing","_law_old","_law_tie"]
abbrev ET:List bh:=["ties","weight_of"]
abbrev Ua:List bh:=["_law_cell","_law_base","_law_many","_law_row","_law_k"]
abbrev yV:List bh:=["n","a","b"]
abbrev tT:List bh:=["_law_row"]
abbrev Mh:List bh:=["_law_heads_here","_law_a"]
abbrev Ub:List bh:=["self","level","tie","side","risen","other","ends"]
abbrev yW:List bh:=["n","thing"]
abbrev Mi:List bh:=["n","standing","a","b"]
abbrev Uc:List bh:=["_law_found","_law_standing","_law_k","_law_row"]
abbrev Ud:List bh:=["_law_cell","_law_k","_law_n","_law_table_here"]
abbrev yX:List bh:=["self","a"]
abbrev Ue:List bh:=["_law_old","_law_new","_law_levels","_law_row"]
abbrev Ug:List bh:=["_law_script","_law_n","_law_row","_law_digit"]
abbrev Mj:List bh:=["_law_script","_law_k"]
abbrev Ml:List bh:=["self","level","tie"]
abbrev Uh:List bh:=["self","tie","level","looking","trail"]
abbrev Ui:List bh:=["_law_cell","_law_base","_law_many"]
abbrev PY:List bh:=["_law_row","_law_level"]
abbrev Uj:List bh:=["_law_keeper","_law_head","_law_n"]
abbrev yY:List bh:=["thing"]
abbrev Uk:List bh:=["self","level","wooden","ties"]
abbrev PZ:List bh:=["_law_head","_law_n"]
abbrev Mm:List bh:=["tie","side"]
abbrev Mn:List bh:=["_law_script"]
def lG (i:Nat):dk:=PySem.Challenge.pw_tiewood_k37_whole_halves.main.body.getD i (.Pass ⟨0,0,0,0⟩)
abbrev EU:dk:=lG 3
abbrev EV:dk:=lG 4
abbrev EW:dk:=lG 5
abbrev stop:dk:=lG 6
abbrev Mo:dk:=lG 7
abbrev Mp:dk:=lG 9
abbrev P0:dk:=lG 10
abbrev P8:dk:=lG 11
abbrev vS:dk:=lG 21
abbrev Mq:dk:=lG 22
abbrev Ip:dk:=lG 23
abbrev Mr:dk:=lG 24
abbrev oI:dk:=lG 26
abbrev nH:dk:=lG 27
abbrev qh:dk:=lG 28
abbrev xY:dk:=lG 31
abbrev vT:dk:=lG 32
abbrev Iq:dk:=lG 35
abbrev tU:dk:=lG 36
abbrev tV:dk:=lG 41
abbrev yZ:dk:=lG 42
abbrev rA:dk:=lG 43
abbrev Bk:dk:=lG 44
abbrev Bl:dk:=lG 45
abbrev y3:dk:=lG 46
abbrev y4:dk:=lG 47
abbrev y6:dk:=lG 48
abbrev vU:dk:=lG 49
abbrev vV:dk:=lG 50
abbrev vW:dk:=lG 51
abbrev tW:dk:=lG 52
abbrev Bn:dk:=lG 53
abbrev Ym:dk:=lG 54
abbrev rB:dk:=fi (lG 29) 0
abbrev Bo:dk:=fi (lG 29) 1
abbrev Bp:dk:=fi (lG 29) 2
abbrev EX:dk:=fi (lG 29) 3
abbrev vX:dk:=fi (lG 29) 4
abbrev y8:dk:=fi (lG 29) 5
abbrev Bq:dk:=fi (lG 29) 6
abbrev oJ:dk:=fi (lG 33) 0
abbrev y9:dk:=fi (lG 33) 1
abbrev tX:dk:=fi (lG 33) 2
abbrev vY:dk:=fi (lG 33) 3
abbrev vZ:dk:=fi (lG 33) 4
abbrev oK:dk:=fi (lG 33) 5
abbrev v5:dk:=fi (lG 33) 6
abbrev mj:dk:=fi (lG 33) 7
abbrev v7:dk:=fi (lG 33) 8
abbrev v8:dk:=fi (lG 33) 9
abbrev rC:dk:=fi (lG 37) 0
abbrev tY:dk:=fi (lG 37) 1
abbrev EY:dk:=fi (lG 37) 2
abbrev Br:dk:=fi (lG 37) 6
abbrev za:dk:=fi (lG 39) 0
def Kv:bI yY yY (aX EU):=by walk_at "s"
def Kw:bI yY yY (aX EV):=by walk_at "s"
def Kx:bI yW yW (aX EW):=by walk_at "s"
def P9:bI ["n","level","needed"] ["n"] (aX stop):=by walk_at "s"
def Qa:bI ["a","b"] ["a","b"] (aX Mo):=by walk_at "s"
def Qb:bI ["n","ties"] ["n","ties"] (aX Mp):=by walk_at "s"
def Sz:bI ["trail"] ["trail"] (aX P0):=by walk_at "s"
def Ms:bI ["trail","finds"] ["trail"] (aX P8):=by walk_at "s"
def C9:bI ["row"] ["row"] (aX vS):=by walk_at "s"
def Ir:bI ["row","a","k"] ["row","a"] (aX Mq):=by walk_at "s"
def EZ:bI ["row","other","a","b","k"] ["row","other","a","b"] (aX Ip):=by walk_at "s"
def Bt:bI T8 ["row","a","b"] (aX Mr):=by walk_at "s"
def v9:bI yW yW (aX oI):=by walk_at "s"
def uV:bI yV yV (aX nH):=by walk_at "s"
def xZ:bI yV yV (aX qh):=by walk_at "s"
def Ky:bI ET ET (aX xY):=by walk_at "s"
def Da:bI Mm Mm (aX vT):=by walk_at "s"
def Nm:bI Mg Mi (aX Iq):=by walk_at "s"
def Bu:bI Mg Mi (aX tU):=by walk_at "s"
def Bw:bI Mj Mj (aX tV):=by walk_at "s"
def FS:bI ["_law_found"] ["_law_found"] (aX yZ):=by walk_at "s"
def jG:bI V5 PZ (aX rA):=by walk_at "s"
def nI:bI Yj Ud (aX Bk):=by walk_at "s"
def Iu:bI Mh Mh (aX Bl):=by walk_at "s"
def wb:bI Yl ["_law_n","_law_pairs"] (aX y3):=by walk_at "s"
def FT:bI Uc ["_law_found","_law_standing"] (aX y4):=by walk_at "s"
def FU:bI T7 Uj (aX y6):=by walk_at "s"
def j4:bI Yi ["_law_n","_law_table_here"] (aX vU):=by walk_at "s"
def Dc:bI Ue ["_law_old","_law_new"] (aX vV):=by walk_at "s"
def De:bI Ua Ui (aX vW):=by walk_at "s"
def Bx:bI Ug ["_law_script","_law_n"] (aX tW):=by walk_at "s"
def Iv:bI Yk T9 (aX Bn):=by walk_at "s"
def Qc:bI Yh Mn (aX Ym):=by walk_at "s"
def zI:bI qg qg (aX rB):=by walk_at "s"
def Iw:bI ["self","row","place"] ["self","row"] (aX Bo):=by walk_at "s"
def Iy:bI tq tq (aX Bp):=by walk_at "s"
def Kz:bI ["self","a","b","row"] tq (aX EX):=by walk_at "s"
def Dg:bI tq tq (aX vX):=by walk_at "s"
def FV:bI yX yX (aX y8):=by walk_at "s"
def Iz:bI yX yX (aX Bq):=by walk_at "s"
def wc:bI qg qg (aX oJ):=by walk_at "s"
def FW:bI Io Io (aX y9):=by walk_at "s"
def By:bI ["self","tie","wood"] vR (aX tX):=by walk_at "s"
def Dh:bI vR vR (aX vY):=by walk_at "s"
def tZ:bI ["self","tie","level","wood"] vR (aX vZ):=by walk_at "s"
def nJ:bI Uk ["self","level","wooden"] (aX oK):=by walk_at "s"
def Di:bI vR vR (aX v5):=by walk_at "s"
def rD:bI ["self","level","tie","wood"] Ml (aX mj):=by walk_at "s"
def n6:bI Ub Ml (aX v7):=by walk_at "s"
def n9:bI Uh vR (aX v8):=by walk_at "s"
def zJ:bI qg qg (aX rC):=by walk_at "s"
def Bz:bI Io Io (aX tY):=by walk_at "s"
def KA:bI ["self","a","b","tie","trail"] tq (aX EY):=by walk_at "s"
def IA:bI ["self"] ["self"] (aX Br):=by walk_at "s"
def FX:bI tq tq (aX za):=by walk_at "s"
structure CA where
  (bE Keeper:af)
structure KB (K:aa) (mg:bh->Option ai) (C:af) (A:CA):Prop where
 GX:CO K C
 SR:mg "Wood"=some (.ref C)
 sD:dE K C "n"
 l6:dE K C "rows"
 Fe:CO K A.bE
 NH:mg "Levels"=some (.ref A.bE)
 ic:dE K A.bE "level_of"
 gL:dE K A.bE "weight_of"
 i6:dE K A.bE "wooden"
 jA:dE K A.bE "woods"
 Fc:CO K A.Keeper
 NA:mg "Keeper"=some (.ref A.Keeper)
 j7:dE K A.Keeper "came"
 i8:dE K A.Keeper "levels"
 i7:dE K A.Keeper "looked"
 j9:dE K A.Keeper "lost"
 nc:dE K A.Keeper "n"
 jz:dE K A.Keeper "risen"
 j8:dE K A.Keeper "wood"
 Wn:mg "bool"=none
 UA:mg "int"=none
 qd:mg "isinstance"=none
 QQ:mg "len"=none
 QZ:mg "list"=none
 Ut:mg "max"=none
 UE:mg "min"=none
 As:mg "range"=none
 YH:mg "set"=none
 sF:mg "sorted"=none
 Ux:mg "sum"=none
 SQ:mg "tuple"=none
 YJ:mg "zip"=none
 Ei:∃ t:SU,mg "MOST_PLACES"=some (.int 200 t)
variable {P:aY}{w:bH}{K:aa}{mg:bh->Option ai}{base:cb}{f:af}{fd:eI}{sp:Sp}{C:af}{A:CA}
def zb (K:aa) (C:af):TS :=
 eV (Er (qB (FH K) (aB (aq 0) (aB (tC (.ty "int")) bj))) (LB (qB (FH K) (aB (aq 0) (aB (tC (.ty "bool")) bj)))))
def zc (K:aa) (C:af) (jw:Sp):TS :=
 eV (Er (cV jw [] E0 (aB (aq 0) bj)) (Fw (nY λi j=>.bl (decide (i<=j))) (nY λi j=>.bl (decide (i<=j))) (tC (.int 1)) (aq 0) (tC (.int 200))))
def zd (K:aa) (C:af) (jw:Sp):TS :=
 eV (Er (cV jw [] E0 (aB (aq 1) bj)) (Fw (nY λi j=>.bl (decide (i<=j))) (nY λi j=>.bl (decide (i<j))) (tC (.int 0)) (aq 1) (aq 0)))
def IB (K:aa) (C:af):TS :=
 xG (cS (cn (nY λi j=>.bl (decide (i<=j))) (aq 2) (aq 0)))
 (bP (MO 1 (tC (.int 1)) (nY λi j=>.int (i+j)))
 (MO 2 (tC (.int 2)) (rI Ll λi j=>.int (i*j))))
def Qd (K:aa) (C:af):TS :=
 bP (dh (tC (.int 0)) (bo 1))
 (bP (dh (tC (.int 4)) (bo 2))
 (bP (IB K C)
 (eV (aq 1))))
def E1 (K:aa) (C:af):TS :=
 eV (WS (cS (cn (nY λi j=>.bl (decide (i<j))) (aq 0) (aq 1))) (mV (aB (aq 0) (aB (aq 1) bj))) (mV (aB (aq 1) (aB (aq 0) bj))))
def E3 (K:aa) (C:af) (pT:Sp):TS :=
 eV (qB (Po K) (aB (jg 4 [0] (kO K (aq 1)) (Fp K 4 (kC (bo 0) (kC (bo 1) (kC (bo 2) (kC (bo 3) Hy))))) tj (cn (nY λi j=>.int (i-j)) (cV pT [] E0 (aB (aq 4) bj)) (aq 2))) bj))
def IC (K:aa) (C:af):TS :=
 eV (qB (Po K) (aB (jg 4 [] (kO K (aq 0)) (Fp K 4 (kC (bo 0) (kC (bo 1) (kC (bo 2) (kC (bo 3) Hy))))) tj (qB (uO K) (aB (aq 2) bj))) bj))
def ID (K:aa) (C:af) (iH:Sp):TS :=
 bP (dh (jg 4 [] (kO K (aq 0)) (Fp K 4 (kC (bo 0) (kC (bo 1) (kC (bo 2) (kC (bo 3) Hy))))) (tB (Om (aq 3))) (aq 3)) (bo 1))
 (eV (WS (lh K (aq 1)) (cn eK (cV iH [] E0 (aB (aq 0) bj)) (tC (.int 1))) (cV iH [] E0 (aB (aq 0) bj))))
def rE (K:aa) (C:af):TS :=
 eV (O9 K (aB (aq 0) (aB (yM (oE K) (aq 0) (hZ (tC (.int 1))) eX) bj)))
def E4 (K:aa) (C:af):TS :=
 bP (dh (C2 K "list" (pQ K) (aq 0) (aB (aq 1) bj)) (bo 2))
 (eV (cn eK (yM (oE K) (aq 0) (hZ (aq 2)) eX) (yM (oE K) (aq 0) (hZ (tC (.int 1))) (hZ (cn eK (aq 2) (tC (.int 1)))))))
def BA (K:aa) (C:af) (oM:Sp):TS :=
 bP (dh (C2 K "list" (pQ K) (aq 0) (aB (aq 2) bj)) (bo 4))
 (eV (cn eK (cn eK (yM (oE K) (aq 0) eX (hZ (cn eK (aq 4) (tC (.int 1))))) (cV oM [] E0 (aB (aq 1) (aB (aq 3) bj)))) (yM (oE K) (aq 0) (hZ (aq 4)) eX)))
def E5 (K:aa) (C:af) (d5:Sp):TS :=
 bP (dh (cV d5 [] E0 (aB (aq 0) bj)) (bo 3))
 (bP (dh (C2 K "list" (pQ K) (aq 3) (aB (mV (aB (aq 1) (aB (aq 2) bj))) bj)) (bo 4))
 (bP (dh (C2 K "list" (pQ K) (aq 3) (aB (mV (aB (aq 2) (aB (aq 1) bj))) bj)) (bo 5))
 (bP (dh (qB EH (aB (aq 4) (aB (aq 5) bj))) (bo 6))
 (bP (dh (qB HN (aB (aq 4) (aB (aq 5) bj))) (bo 7))
 (bP (dh (yM (oE K) (aq 0) (hZ (cn eK (aq 6) (tC (.int 1)))) (hZ (cn eK (aq 7) (tC (.int 1))))) (bo 8))
 (bP (dh (cn eK (yM (oE K) (aq 0) eX (hZ (cn eK (aq 6) (tC (.int 1))))) (yM (oE K) (aq 0) (hZ (cn eK (aq 7) (tC (.int 2)))) eX)) (bo 9))
 (eV (WS (cS (cn (nY λi j=>.bl (decide (i<j))) (aq 4) (aq 5))) (mV (aB (aq 9) (aB (aq 8) bj))) (mV (aB (aq 8) (aB (aq 9) bj)))))))))))
def mY (K:aa) (C:af) (lW:Sp):TS :=
 iE (pK (lh K (cV lW [] E0 (aB (aq 0) (aB (aq 1) bj)))))
 qQ
 fk
def ml (K:aa) (C:af) (cE:Sp):TS :=
 bP (fe (cV cE [] E0 (aB (aq 0) (aB (aq 1) bj))))
 (fe (cV cE [] E0 (aB (aq 0) (aB (aq 2) bj))))
def nK (K:aa) (C:af) (dB:Sp):TS :=
 bP (fe (cV dB [] E0 (aB (aq 0) (aB (aq 1) (aB (aq 2) bj)))))
 (iE (cS (cn (kr K) (aq 1) (aq 2)))
 qQ
 fk)
def nM (K:aa) (C:af) (Pt:af):TS :=
 eV (Ko Pt ⟨119,28,119,61⟩ ((("in_order":bh)++".<locals>.")++"<lambda>") 1 (aB (aq 0) bj))
def IE (Fu:Lj K "in_order" "in_order" xY f fd) (T:KB K mg C A) {c Pt:af}(hcd:fd.code=.ref c) (CH:ig base c Pt) (B:base.BuiltinsAt mg Pt)
 (len:Ln sp 2) (run:Rn sp (nM K C Pt) ET):lj P w K mg base HI 1 f fd ET sp :=
 Fu.okC hcd Ky len λA0 outer s H vs Q E hr h=>⟨nM K C Pt,
 b8 (gv (PJ rfl rfl CH B hr.depth hr.JC rfl T.sF (cf (pv 0) dZ) rfl rfl)),run vs H Q E h⟩
def rF (K:aa) (C:af):TS :=
 eV (qB (uO K) (aB (jg 1 [1] (kO K (aq 0)) (bo 0) (cS (cn (AZ K false) (aq 0) (aq 1))) (aq 0)) bj))
def BB (K:aa) (C:af) (bW kE:Sp):TS :=
 bP (fe (cV bW [] E0 (aB (aq 0) (aB (aq 2) (aB (aq 3) bj)))))
 (bP (dh (cV kE [] E0 (aB (aq 2) (aB (aq 3) bj))) (bo 4))
 (bP (iE (cS (cn (AZ K false) (aq 4) (aq 1)))
 qQ
 fk)
 (eV (aq 4))))
def qi (K:aa) (C:af) (bW kE:Sp):TS :=
 bP (fe (cV bW [] E0 (aB (aq 0) (aB (aq 2) (aB (aq 3) bj)))))
 (bP (dh (cV kE [] E0 (aB (aq 2) (aB (aq 3) bj))) (bo 4))
 (bP (iE (cS (cn (AZ K true) (aq 4) (aq 1)))
 qQ
 fk)
 (eV (aq 4))))
def qj (K:aa) (C:af):TS :=
 bP (iE (cS (cn (nY λi j=>.bl (decide (i<j))) (aq 1) (qB (uO K) (aB (aq 0) bj))))
 (eV (cn (dz K) (aq 0) (aq 1)))
 fk)
 (eV (tC (.int 0)))
def t7 (K:aa) (C:af):TS :=
 eV (Er (qB (FH K) (aB (aq 0) (aB (tC (.ty "int")) bj))) (LB (qB (FH K) (aB (aq 0) (aB (tC (.ty "bool")) bj)))))
def md (K:aa) (C:af) (Pt:af):TS :=
 nX (Ou (aB (cn eK (aq 4) (tC (.int 1))) (aB (aq 1) bj))) (bo 5)
 (bP (iE (qA (cS (cn (kr K) (aq 3) (tC (.int 1)))) (Fo (cS (cn (kr K) (aq 5) (cn eK (aq 4) (tC (.int 1))))) (cS (cn (kr K) (aq 5) (cn (nY λi j=>.int (i-j)) (cn eK (aq 4) (aq 1)) (tC (.int 1)))))))
 (fe (C2 K "list" kg (aq 2) (aB (mV (aB (aq 4) (aB (aq 5) bj))) bj)))
 fk)
 (bP (iE (qA (cS (cn (kr K) (aq 3) (tC (.int 2)))) (cS (cn (nY λi j=>.bl (decide (i<j))) (aq 5) (cn eK (tC (.int 4)) (cn (rI (λ_ j=>0<j) λi j=>.int (i%j)) (cn (rI nZ λi j=>.int (i/j)) (aq 0) (tC (.int 6))) (tC (.int 5)))))))
 (fe (C2 K "list" kg (aq 2) (aB (mV (aB (aq 4) (aB (aq 5) bj))) bj)))
 fk)
 (bP (iE (qA (cS (cn (kr K) (aq 3) (tC (.int 3)))) (Fo (cS (cn (kr K) (aq 5) (cn eK (aq 4) (tC (.int 2))))) (qA (cS (cn (kr K) (aq 5) (cn eK (aq 4) (tC (.int 1))))) (cS (cn (kr K) (cn (rI (λ_ j=>0<j) λi j=>.int (i%j)) (aq 4) (tC (.int 2))) (tC (.int 0)))))))
 (fe (C2 K "list" kg (aq 2) (aB (mV (aB (aq 4) (aB (aq 5) bj))) bj)))
 fk)
 (bP (iE (qA (cS (cn (kr K) (aq 3) (tC (.int 4)))) (qA (cS (cn (nY λi j=>.bl (decide (i<j))) (aq 5) (cn eK (aq 4) (tC (.int 4))))) (Fo (cS (cn (nY λi j=>.bl (decide (i<j))) (aq 5) (cn (rI nZ λi j=>.int (i/j)) (aq 1) (tC (.int 2))))) (Fo (cS (cn (nY λi j=>.bl (decide (j<=i))) (aq 4) (cn (rI nZ λi j=>.int (i/j)) (aq 1) (tC (.int 2))))) (cS (cn (kr K) (aq 5) (cn eK (aq 4) (tC (.int 1)))))))))
 (fe (C2 K "list" kg (aq 2) (aB (mV (aB (aq 4) (aB (aq 5) bj))) bj)))
 fk)
 (iE (qA (cS (cn (kr K) (aq 3) (tC (.int 5)))) (cS (cn (AZ K false) (cn (nY λi j=>.int (i-j)) (aq 5) (aq 4)) (mV (aB (tC (.int 1)) (aB (tC (.int 2)) (aB (tC (.int 4)) (aB (tC (.int 8)) bj))))))))
 (fe (C2 K "list" kg (aq 2) (aB (mV (aB (aq 4) (aB (aq 5) bj))) bj)))
 fk)))))
def qk (K:aa) (C:af) (Pt:af):TS :=
 nX (qR (aB (aq 1) bj)) (bo 4)
 (md K C Pt)
def lO (K:aa) (C:af) (Pt:af):TS :=
 bP (dh (zF bj) (bo 2))
 (bP (iE (cS (cn (nY λi j=>.bl (decide (j<i))) (aq 1) (tC (.int 24))))
 (eV (jg 1 [] (qR (aB (qB EH (aB (tC (.int 60)) (aB (cn (nY λi j=>.int (i-j)) (aq 1) (tC (.int 1))) bj))) bj)) (bo 0) tj (mV (aB (aq 0) (aB (cn eK (aq 0) (tC (.int 1))) bj)))))
 fk)
 (bP (dh (cn (rI (λ_ j=>0<j) λi j=>.int (i%j)) (aq 0) (tC (.int 6))) (bo 3))
 (bP (qk K C Pt)
 (bP (iE (cS (cn (nY λi j=>.bl (decide (j<i))) (cn (rI (λ_ j=>0<j) λi j=>.int (i%j)) (cn (rI nZ λi j=>.int (i/j)) (aq 0) (tC (.int 3))) (tC (.int 3))) (tC (.int 0))))
 (eV (yM (oE K) (Kp Pt ⟨273,37,273,94⟩ ((("_law_shape":bh)++".<locals>.")++"<lambda>") (aB (aq 2) bj)) eX (hZ (tC (.int 36)))))
 fk)
 (bP (dh (cn (rI (λ_ j=>0<j) λi j=>.int (i%j)) (cn (rI nZ λi j=>.int (i/j)) (aq 0) (tC (.int 30))) (cn eK (qB (uO K) (aB (aq 2) bj)) (tC (.int 1)))) (bo 6))
 (eV (yM (oE K) (cn eK (yM (oE K) (aq 2) (hZ (aq 6)) eX) (yM (oE K) (aq 2) eX (hZ (aq 6)))) eX (hZ (tC (.int 36))))))))))
def Dj (Fu:Lj K "_law_shape" "_law_shape" rA f fd) (T:KB K mg C A) {c Pt:af}(hcd:fd.code=.ref c) (CH:ig base c Pt) (B:base.BuiltinsAt mg Pt)
 (len:Ln sp 2) (run:Rn sp (lO K C Pt) V5):lj P w K mg base HI 1 f fd PZ sp :=
 Fu.okC hcd jG len λA0 outer s H vs Q E hr h=>⟨lO K C Pt,
 aF (oH jG.nd (Kb dZ))
 (aF (kB (fz Ow (pv 1) cH (il _))
 (b8 (gv (iR ["_law_k"] (ys:=[]) [] rfl (xI rfl T.As (cf (jW (Ew rfl) rfl T.UE BootT.min (cf cH (cf (iO Fv (pv 1) cH) dZ))) dZ)) trivial (λ_ _ _=>gj (show (["_law_k"]:List bh).Nodup by decide +kernel)) (λ_ _ _=>jX) (λ_ _ _=>qU (cf (pv 0) (cf (iO jF (pv 0) cH) dZ))))))
 gp)
 (aF (oH jG.nd (iO xJ (pv 0) cH))
 (aF (qS du rfl (xI rfl T.As (cf (pv 1) dZ)) (gj jG.nd)
 (b8 (qS du rfl (Et rfl T.As (cf (iO jF (pv 4) cH) (cf (pv 1) dZ))) (gj jG.nd)
 (aF (kB (PW.pt (qP (fz (lD hr.units) (pv 3) cH (il _)) (pL (PW.pt (AH (fz (lD hr.units) (pv 5) (iO jF (pv 4) cH) (il _)) (xF (fz (lD hr.units) (pv 5) (iO Fv (iO jF (pv 4) (pv 1)) cH) (il _))))))))
 (b8 (nB (nC cR fR fS lC (pv 2) (cf (qU (cf (pv 4) (cf (pv 5) dZ))) dZ))))
 gp)
 (aF (kB (PW.pt (qP (fz (lD hr.units) (pv 3) cH (il _)) (pL (fz Eu (pv 5) (iO jF cH (iO xJ (iO sL (pv 0) cH) cH)) (il _)))))
 (b8 (nB (nC cR fR fS lC (pv 2) (cf (qU (cf (pv 4) (cf (pv 5) dZ))) dZ))))
 gp)
 (aF (kB (PW.pt (qP (fz (lD hr.units) (pv 3) cH (il _)) (pL (PW.pt (AH (fz (lD hr.units) (pv 5) (iO jF (pv 4) cH) (il _)) (xF (PW.pt (qP (fz (lD hr.units) (pv 5) (iO jF (pv 4) cH) (il _)) (pL (fz (lD hr.units) (iO xJ (pv 4) cH) cH (il _)))))))))))
 (b8 (nB (nC cR fR fS lC (pv 2) (cf (qU (cf (pv 4) (cf (pv 5) dZ))) dZ))))
 gp)
 (aF (kB (PW.pt (qP (fz (lD hr.units) (pv 3) cH (il _)) (qP (fz Eu (pv 5) (iO jF (pv 4) cH) (il _)) (pL (PW.pt (AH (fz Eu (pv 5) (iO sL (pv 1) cH) (il _)) (AH (fz To (pv 4) (iO sL (pv 1) cH) (il _)) (xF (fz (lD hr.units) (pv 5) (iO jF (pv 4) cH) (il _))))))))))
 (b8 (nB (nC cR fR fS lC (pv 2) (cf (qU (cf (pv 4) (cf (pv 5) dZ))) dZ))))
 gp)
 (b8 (kB (PW.pt (qP (fz (lD hr.units) (pv 3) cH (il _)) (pL (fz (OR hr.units) (iO Fv (pv 5) (pv 4)) (qU (cf cH (cf cH (cf cH (cf cH dZ))))) (by with_unfolding_all rfl)))))
 (b8 (nB (nC cR fR fS lC (pv 2) (cf (qU (cf (pv 4) (cf (pv 5) dZ))) dZ))))
 gp)))))))))
 (aF (kB (fz Ow (iO xJ (iO sL (pv 0) cH) cH) cH (il _))
 (b8 (gv (qV vC (PK rfl rfl CH B hr.depth hr.JC rfl T.sF (cf (pv 2) dZ)) vA (vB cH))))
 gp)
 (aF (oH jG.nd (iO xJ (iO sL (pv 0) cH) (iO jF (jW xO rfl T.QQ BootT.len (cf (pv 2) dZ)) cH)))
 (b8 (gv (qV vC (iO jF (qV vC (pv 2) (vB (pv 6)) vA) (qV vC (pv 2) vA (vB (pv 6)))) vA (vB cH))))))))),run vs H Q E h⟩
abbrev BC (K:aa) (C:af):TS :=
 bP (dh (cn (rI (λ_ j=>0<j) λi j=>.int (i%j)) (cn (rI nZ λi j=>.int (i/j)) (aq 0) (tC (.int 4))) (aq 2)) (bo 7))
 (bP (dh (cn (rI (λ_ j=>0<j) λi j=>.int (i%j)) (cn eK (cn eK (aq 7) (tC (.int 1))) (cn (rI (λ_ j=>0<j) λi j=>.int (i%j)) (cn eK (cn (rI nZ λi j=>.int (i/j)) (cn (rI nZ λi j=>.int (i/j)) (aq 0) (tC (.int 4))) (aq 2)) (aq 1)) (cn (nY λi j=>.int (i-j)) (aq 2) (tC (.int 1))))) (aq 2)) (bo 8))
 (eV (mV (aB (qB EH (aB (aq 7) (aB (aq 8) bj))) (aB (qB HN (aB (aq 7) (aB (aq 8) bj))) bj)))))
abbrev BD (K:aa) (C:af):TS :=
  bP (iE (qA (cS (cn (nY λi j=>.bl (decide (j<i))) (aq 4) (tC (.int 1)))) (cS (cn (PL K) (aq 5) (zF bj))))
   (bP (dh (qB (TX K) (aB (jg 1 [] (kO K (aq 5)) (bo 0) tj (cn (dz K) (aq 0) (tC (.int 2)))) bj)) (bo 6))
  (bP (dh (jg 1 [6] (kO K (aq 5)) (bo 0) (cS (cn (kr K) (cn (dz K) (aq 0) (tC (.int 2))) (aq 1))) (aq 0)) (bo 5))
  (eV (yM (AY K) (cn (dz K) (aq 5) (cn (rI (λ_ j=>0<j) λi j=>.int (i%j)) (cn eK (cn (rI nZ λi j=>.int (i/j)) (aq 0) (tC (.int 4))) (aq 1)) (qB (uO K) (aB (aq 5) bj)))) eX (hZ (tC (.int 2)))))))
   fk)
  (bP (iE (qA (cS (cn (kr K) (aq 4) (tC (.int 1)))) (cS (cn (PL K) (aq 3) (zF bj))))
   (eV (yM (AY K) (cn (dz K) (aq 3) (cn (rI (λ_ j=>0<j) λi j=>.int (i%j)) (cn eK (cn (rI nZ λi j=>.int (i/j)) (aq 0) (tC (.int 4))) (cn (rI Ll λi j=>.int (i*j)) (tC (.int 3)) (aq 1))) (qB (uO K) (aB (aq 3) bj)))) eX (hZ (tC (.int 2)))))
   fk)
  (BC K C))
def we (K:aa) (C:af):TS :=
 bP (dh (cn (rI (λ_ j=>0<j) λi j=>.int (i%j)) (aq 0) (tC (.int 4))) (bo 4))
 (bP (dh (jg 1 [] (kO K (aq 3)) (bo 0) (lh K (cn (dz K) (aq 0) (tC (.int 3)))) (aq 0)) (bo 5))
 (BD K C))
def rG (K:aa) (C:af):TS :=
 xG (cS (cn (C3 K) (cn (dz K) (aq 0) (aq 1)) (aq 1)))
 (dh (cn (dz K) (aq 0) (aq 1)) (bo 1))
def wg (K:aa) (C:af):TS :=
 bP (rG K C)
 (eV (aq 1))
def ql (K:aa) (C:af) (gA:Sp):TS :=
 nX (kO K (aq 1)) (Fp K 2 (kC (bo 3) (kC (bo 4) Hy)))
 (bP (dh (cV gA [] E0 (aB (aq 2) (aB (aq 3) bj))) (bo 5))
 (bP (dh (cV gA [] E0 (aB (aq 2) (aB (aq 4) bj))) (bo 6))
 (dh (qB EH (aB (aq 5) (aB (aq 6) bj))) (zE (aq 2) (qB HN (aB (aq 5) (aB (aq 6) bj))) oF))))
def t8 (K:aa) (C:af) (gA:Sp):TS :=
 bP (dh (jg 1 [] (qR (aB (aq 0) bj)) (bo 0) tj (aq 0)) (bo 2))
 (bP (ql K C gA)
 (eV (jg 1 [2] (qR (aB (aq 0) bj)) (bo 0) tj (cV gA [] E0 (aB (aq 1) (aB (aq 0) bj))))))
def qm (K:aa) (C:af) (gE:Sp):TS :=
 nX (qR (aB (qB (uO K) (aB (aq 0) bj)) bj)) (bo 2)
 (bP (dh (cn (dz K) (aq 0) (aq 2)) (bo 3))
 (bP (iE (Fo (pK (lh K (qB (FH K) (aB (aq 3) (aB (tC (.ty "tuple")) bj))))) (Fo (cS (cn (C3 K) (qB (uO K) (aB (aq 3) bj)) (tC (.int 4)))) (pK (lh K (qB (FH K) (aB (cn (dz K) (aq 3) (tC (.int 3))) (aB (tC (.ty "bool")) bj)))))))
 (eV (tC (.bl false)))
 fk)
 (iE (Fo (pK (lh K (cV gE [] E0 (aB (cn (dz K) (aq 3) (tC (.int 0))) bj)))) (Fo (pK (lh K (cV gE [] E0 (aB (cn (dz K) (aq 3) (tC (.int 1))) bj)))) (Fo (pK (lh K (cV gE [] E0 (aB (cn (dz K) (aq 3) (tC (.int 2))) bj)))) (cS (cn (nY λi j=>.bl (decide (i<j))) (cn (dz K) (aq 3) (tC (.int 2))) (tC (.int 0)))))))
 (eV (tC (.bl false)))
 fk)))
def t9 (K:aa) (C:af) (gE:Sp):TS :=
 bP (iE (Fo (pK (lh K (qB (FH K) (aB (aq 0) (aB (tC (.ty "list")) bj))))) (cS (cn (C3 K) (qB (uO K) (aB (aq 0) bj)) (qB TB (aB (aq 1) bj)))))
 (eV (tC (.bl false)))
 fk)
 (bP (qm K C gE)
 (eV (cn (kr K) (jg 1 [] (kO K (aq 0)) (bo 0) tj (yM (AY K) (aq 0) eX (hZ (tC (.int 2))))) (qB Ih (aB (aq 1) bj)))))
def qo (K:aa) (C:af) (A:CA) (ip dA:Sp):TS :=
 nX (kO K (cV ip [] E0 (aB (aq 1) (aB (aq 2) bj)))) (Fp K 2 (kC (bo 4) (kC (bo 5) Hy)))
 (bP (dh (tC (.bl true)) (zE (aq 3) (mV (aB (aq 4) (aB (aq 5) bj))) oF))
 (iE (cS (cn (kr K) (cn (rI (λ_ j=>0<j) λi j=>.int (i%j)) (cn eK (cn eK (aq 4) (aq 5)) (aq 1)) (tC (.int 2))) (tC (.int 0))))
 (fe (fN A.Keeper "put" dA [] E0 (aq 0) (aB (aq 4) (aB (aq 5) bj))))
 (fe (fN A.Keeper "put" dA [] E0 (aq 0) (aB (aq 5) (aB (aq 4) bj))))))
def ua (K:aa) (C:af) (A:CA) (ip dA:Sp):TS :=
 bP (dh qX (bo 3))
 (bP (qo K C A ip dA)
 (eV (aq 3)))
def oN (K:aa) (C:af) (cQ:Sp):TS :=
 nX (kO K (cV cQ [] E0 (aB (aq 0) (aB (jg 1 [2] (kO K (aq 1)) (bo 0) (cS (cn (nY λi j=>.bl (decide (j<=i))) (cn (dz K) (aq 0) (tC (.int 2))) (aq 1))) (yM (AY K) (aq 0) eX (hZ (tC (.int 2))))) bj)))) (bo 5)
 (dh (cn eK (FD (aq 4) (aq 5) (tC (.int 0))) (tC (.int 1))) (zE (aq 4) (aq 5) oF))
def oO (K:aa) (C:af) (cQ:Sp):TS :=
 nX (iDK (aq 4)) (bo 5)
 (iE (cS (cn (nY λi j=>.bl (decide (j<i))) (cn (dz K) (aq 4) (aq 5)) (aq 3)))
 (eV (tC (.bl false)))
 fk)
def oP (K:aa) (C:af) (cQ:Sp):TS :=
 nX (kO K (aq 1)) (bo 7)
 (iE (qA (cS (cn (kr K) (cn (dz K) (aq 7) (tC (.int 2))) (aq 2))) (qA (pK (lh K (cn (dz K) (aq 7) (tC (.int 3))))) (cS (cn (C3 K) (cn (dz K) (aq 6) (cn (dz K) (aq 7) (tC (.int 0)))) (cn (dz K) (aq 6) (cn (dz K) (aq 7) (tC (.int 1))))))))
 (eV (tC (.bl false)))
 fk)
def oQ (K:aa) (C:af) (cQ:Sp):TS :=
 xG (Fo (cS (cn (kr K) (aq 2) (tC (.int 0)))) (cS (cn (PL K) (jg 1 [2] (kO K (aq 1)) (bo 0) (cS (cn (nY λi j=>.bl (decide (j<=i))) (cn (dz K) (aq 0) (tC (.int 2))) (aq 1))) (aq 0)) (zF bj))))
 (bP (dh Ki (bo 4))
 (bP (oN K C cQ)
 (bP (oO K C cQ)
 (bP (dh (cV cQ [] E0 (aB (aq 0) (aB (jg 1 [2] (kO K (aq 1)) (bo 0) (qA (cS (cn (nY λi j=>.bl (decide (j<=i))) (cn (dz K) (aq 0) (tC (.int 2))) (aq 1))) (lh K (cn (dz K) (aq 0) (tC (.int 3))))) (yM (AY K) (aq 0) eX (hZ (tC (.int 2))))) bj))) (bo 6))
 (bP (oP K C cQ)
 (bP (MO 2 (tC (.int 1)) (nY λi j=>.int (i+j)))
 (dh (cn (rI nZ λi j=>.int (i/j)) (aq 3) (tC (.int 2))) (bo 3))))))))
abbrev x3 (K:aa) (C:af) (cQ:Sp):TS :=
 bP (oQ K C cQ)
 (eV (tC (.bl true)))
def rH (K:aa) (C:af) (cQ:Sp):TS :=
 bP (dh (tC (.int 0)) (bo 2))
 (bP (dh (aq 0) (bo 3))
 (x3 K C cQ))
def oR (K:aa) (C:af):TS :=
 nX (kO K (aq 0)) (bo 3)
 (dh (cn (dz K) (aq 3) (tC (.int 2))) (zE (aq 2) (yM (AY K) (aq 3) eX (hZ (tC (.int 2)))) oF))
def oS (K:aa) (C:af):TS :=
 nX (kO K (aq 1)) (bo 3)
 (iE (Fo (qA (cS (cn (AZ K true) (yM (AY K) (aq 3) eX (hZ (tC (.int 2)))) (aq 2))) (cS (cn (C3 K) (cn (dz K) (aq 3) (tC (.int 2))) (tC (.int 0))))) (cS (cn (nY λi j=>.bl (decide (i<j))) (cn (dz K) (aq 3) (tC (.int 2))) (FD (aq 2) (yM (AY K) (aq 3) eX (hZ (tC (.int 2)))) (tC (.int 0))))))
 (eV (tC (.bl false)))
 fk)
def rJ (K:aa) (C:af):TS :=
 bP (dh qX (bo 2))
 (bP (oR K C)
 (bP (oS K C)
 (eV (tC (.bl true)))))
def oU (K:aa) (C:af):TS :=
 nX (qR (aB (aq 2) bj)) (bo 4)
 (bP (fe (C2 K "list" kg (aq 3) (aB (cn (rI (λ_ j=>0<j) λi j=>.int (i%j)) (aq 0) (aq 1)) bj)))
 (dh (cn (rI nZ λi j=>.int (i/j)) (aq 0) (aq 1)) (bo 0)))
def rK (K:aa) (C:af):TS :=
 bP (dh (zF bj) (bo 3))
 (bP (oU K C)
 (eV (aq 3)))
def nN (K:aa) (C:af) (gJ bC:Sp):TS :=
 nX (kO K (cV gJ [] E0 (aB (cV bC [] E0 (aB (aq 0) (aB (tC (.int 1)) bj))) (aB (cn (rI Ll λi j=>.int (i*j)) (aq 1) (aq 1)) (aB (cn (rI (λ_ j=>0<j) λi j=>.int (i%j)) (cV bC [] E0 (aB (aq 0) (aB (tC (.int 2)) bj))) (tC (.int 41))) bj))))) (bo 3)
 (iE (cS (cn (C3 K) (cn (rI nZ λi j=>.int (i/j)) (aq 3) (aq 1)) (cn (rI (λ_ j=>0<j) λi j=>.int (i%j)) (aq 3) (aq 1))))
 (fe (C2 K "list" kg (aq 2) (aB (mV (aB (qB EH (aB (cn (rI nZ λi j=>.int (i/j)) (aq 3) (aq 1)) (aB (cn (rI (λ_ j=>0<j) λi j=>.int (i%j)) (aq 3) (aq 1)) bj))) (aB (qB HN (aB (cn (rI nZ λi j=>.int (i/j)) (aq 3) (aq 1)) (aB (cn (rI (λ_ j=>0<j) λi j=>.int (i%j)) (aq 3) (aq 1)) bj))) bj))) bj)))
 fk)
def qp (K:aa) (C:af) (gJ bC:Sp):TS :=
 bP (dh (zF bj) (bo 2))
 (bP (nN K C gJ bC)
 (eV (aq 2)))
abbrev BE (K:aa) (C:af) (A:CA) (cj jx dA bZ bS gK:Sp):TS :=
  bP (dh (fN A.Keeper "ties" cj [] E0 (aq 0) bj) (bo 7))
  (bP (iE (Fo (pK (lh K (cV bZ [] E0 (aB (aq 7) (aB (aq 2) bj))))) (Fo (pK (lh K (cV bS [] E0 (aB (aq 1) (aB (aq 7) bj))))) (pK (lh K (cV gK [] E0 (aB (aq 3) (aB (aq 7) bj)))))))
   (eV (tC .non))
   fk)
  (eV (aq 7)))
def wj (K:aa) (C:af) (A:CA) (cj jx dA bZ bS gK:Sp):TS :=
 bP (dh (aq 4) (Fp K 2 (kC (bo 5) (kC (bo 6) Hy))))
 (bP (iE (cS (cn (AZ K false) (aq 4) (aq 2)))
 (bP (fe (C2 K "dict" HY (aq 2) (aB (aq 4) bj)))
 (fe (fN A.Keeper "out" jx [] E0 (aq 0) (aB (aq 6) (aB (aq 5) bj)))))
 (bP (dh (tC (.bl true)) (zE (aq 2) (aq 4) oF))
 (fe (fN A.Keeper "put" dA [] E0 (aq 0) (aB (aq 5) (aB (aq 6) bj))))))
 (BE K C A cj jx dA bZ bS gK))
def IF (K:aa) (C:af) (A:CA) (b0 cj bC cg cJ cO bZ bS cW:Sp):TS :=
 nX (qR (aB (qB (uO K) (aB (aq 6) bj)) bj)) (bo 8)
 (bP (dh (cn (dz K) (aq 6) (aq 8)) (bo 9))
 (bP (iE (pK (lh K (aq 1)))
 (dh (cV cW [] E0 (aB (cn (dz K) (aq 6) (aq 8)) (aB (cn eK (aq 8) (tC (.int 1))) (aB (aq 3) (aB (aq 7) bj))))) (bo 9))
 fk)
 (bP (dh (cV cO [] E0 (aB (aq 4) (aB (aq 3) (aB (aq 5) (aB (aq 7) (aB (aq 9) bj)))))) (bo 7))
 (iE (tB (Rz (aq 7)))
 (eV (tC (.bl false)))
 fk))))
abbrev Qe (K:aa) (C:af) (A:CA) (b0 cj bC cg cJ cO bZ bS cW:Sp):TS :=
 bP (IF K C A b0 cj bC cg cJ cO bZ bS cW)
 (eV (tC (.bl true)))
abbrev Qg (K:aa) (C:af) (A:CA) (b0 cj bC cg cJ cO bZ bS cW:Sp):TS :=
  bP (dh (fN A.Keeper "ties" cj [] E0 (aq 4) bj) (bo 7))
  (bP (iE (Fo (pK (lh K (cV bZ [] E0 (aB (aq 7) (aB (aq 5) bj))))) (pK (lh K (cV bS [] E0 (aB (aq 3) (aB (aq 7) bj))))))
   (eV (tC (.bl false)))
   fk)
  (Qe K C A b0 cj bC cg cJ cO bZ bS cW))
abbrev Qh (K:aa) (C:af) (A:CA) (b0 cj bC cg cJ cO bZ bS cW:Sp):TS :=
  bP (dh (yM (oE K) (aq 0) (hZ (tC (.int 1))) (hZ (tC (.int 25)))) (bo 6))
  (bP (iE (lh K (aq 1))
   (dh (cV cg [] E0 (aB (aq 0) (aB (aq 3) bj))) (bo 6))
   (dh (cV cJ [] E0 (aB (aq 4) (aB (cn (rI nZ λi j=>.int (i/j)) (aq 2) (tC (.int 23))) (aB (aq 3) bj)))) (bo 5)))
  (Qg K C A b0 cj bC cg cJ cO bZ bS cW))
abbrev Qi (K:aa) (C:af) (A:CA) (b0 cj bC cg cJ cO bZ bS cW:Sp):TS :=
 bP (dh (HB A.Keeper b0 [] E0 (aB (aq 3) bj)) (bo 4))
 (bP (dh qX (bo 5))
 (Qh K C A b0 cj bC cg cJ cO bZ bS cW))
abbrev Qj (K:aa) (C:af) (A:CA) (b0 cj bC cg cJ cO bZ bS cW:Sp):TS :=
  bP (dh (cn eK (tC (.int 2)) (cn (rI (λ_ j=>0<j) λi j=>.int (i%j)) (aq 2) (tC (.int 23)))) (bo 3))
  (bP (iE (qA (pK (lh K (aq 1))) (cS (cn (kr K) (cn (rI (λ_ j=>0<j) λi j=>.int (i%j)) (cn (rI nZ λi j=>.int (i/j)) (aq 2) (tC (.int 23))) (tC (.int 8))) (tC (.int 5)))))
   (dh (cn eK (tC (.int 30)) (cn (rI (λ_ j=>0<j) λi j=>.int (i%j)) (cn (rI nZ λi j=>.int (i/j)) (aq 2) (tC (.int 184))) (tC (.int 171)))) (bo 3))
   fk)
  (Qi K C A b0 cj bC cg cJ cO bZ bS cW))
def Qk (K:aa) (C:af) (A:CA) (b0 cj bC cg cJ cO bZ bS cW:Sp):TS :=
 bP (dh (cn (kr K) (cn (rI (λ_ j=>0<j) λi j=>.int (i%j)) (cV bC [] E0 (aB (aq 0) (aB (tC (.int 0)) bj))) (tC (.int 2))) (tC (.int 0))) (bo 1))
 (bP (dh (cn (rI nZ λi j=>.int (i/j)) (cV bC [] E0 (aB (aq 0) (aB (tC (.int 0)) bj))) (tC (.int 2))) (bo 2))
 (Qj K C A b0 cj bC cg cJ cO bZ bS cW))
def oV (K:aa) (C:af):TS :=
 bP (sZ K (aq 0) (aq 1) "n")
 (sZ K (aq 0) (jg 1 [] (qR (aB (aq 1) bj)) (bo 0) tj (zF (aB (aq 0) bj))) "rows")
def rL (K:aa) (C:af):TS :=
 nX (kO K (aq 1)) (bo 2)
 (dh (aq 1) (zE (fg K (aq 0) "rows") (aq 2) oF))
def wk (K:aa) (C:af):TS :=
 rL K C
def wm (K:aa) (C:af) (bW d8 fB mZ:Sp):TS :=
 bP (fe (cV bW [] E0 (aB (fg K (aq 0) "n") (aB (aq 1) (aB (aq 2) bj)))))
 (bP (iE (lh K (fN C "joined" d8 [] E0 (aq 0) (aB (aq 1) (aB (aq 2) bj))))
 qQ
 fk)
 (fe (fN C "keep" fB [] E0 (aq 0) (aB (cV mZ [] E0 (aB (cn (dz K) (fg K (aq 0) "rows") (aq 1)) (aB (cn (dz K) (fg K (aq 0) "rows") (aq 2)) (aB (aq 1) (aB (aq 2) bj))))) bj))))
def ub (K:aa) (C:af) (bW lH d5 fB:Sp):TS :=
 nX (kO K (cV lH [] E0 (aB (cn (dz K) (fg K (aq 0) "rows") (aq 1)) (aB (aq 1) (aB (aq 2) bj))))) (bo 3)
 (fe (fN C "keep" fB [] E0 (aq 0) (aB (aq 3) bj)))
def ze (K:aa) (C:af) (bW lH d5 fB:Sp):TS :=
 bP (fe (cV bW [] E0 (aB (fg K (aq 0) "n") (aB (aq 1) (aB (aq 2) bj)))))
 (bP (iE (cS (cn (AZ K true) (mV (aB (aq 1) (aB (aq 2) bj))) (cV d5 [] E0 (aB (cn (dz K) (fg K (aq 0) "rows") (aq 1)) bj))))
 qQ
 fk)
 (ub K C bW lH d5 fB))
def rM (K:aa) (C:af) (dB:Sp):TS :=
 bP (fe (cV dB [] E0 (aB (fg K (aq 0) "n") (aB (aq 1) (aB (aq 2) bj)))))
 (eV (cn (kr K) (cn (dz K) (cn (dz K) (fg K (aq 0) "rows") (aq 1)) (tC (.int 0))) (cn (dz K) (cn (dz K) (fg K (aq 0) "rows") (aq 2)) (tC (.int 0)))))
def uc (K:aa) (C:af) (cE:Sp):TS :=
 bP (fe (cV cE [] E0 (aB (fg K (aq 0) "n") (aB (aq 1) bj))))
 (eV (xV K (aB (cn (dz K) (fg K (aq 0) "rows") (aq 1)) bj)))
def wo (K:aa) (C:af) (cE:Sp):TS :=
 bP (fe (cV cE [] E0 (aB (fg K (aq 0) "n") (aB (aq 1) bj))))
 (eV (cn (rI nZ λi j=>.int (i/j)) (cn eK (qB (uO K) (aB (cn (dz K) (fg K (aq 0) "rows") (aq 1)) bj)) (tC (.int 1))) (tC (.int 2))))
abbrev rN (K:aa) (C:af) (A:CA) (fu pT:Sp):TS :=
 bP (sZ K (aq 0) qX "weight_of")
 (sZ K (aq 0) (jg 1 [1] (qR (aB (cn eK (cV pT [] E0 (aB (aq 1) bj)) (tC (.int 1))) bj)) (bo 0) tj (HB C fu [] E0 (aB (aq 1) bj))) "woods")
def m5 (K:aa) (C:af) (A:CA) (fu pT:Sp):TS :=
 bP (sZ K (aq 0) qX "level_of")
 (bP (sZ K (aq 0) qX "wooden")
 (rN K C A fu pT))
abbrev zK (K:aa) (C:af) (A:CA) (d8 cp:Sp):TS :=
  bP (dh (aq 2) (zE (fg K (aq 0) "weight_of") (aq 1) oF))
  (bP (iE (pK (lh K (fN C "joined" d8 [] E0 (cn (dz K) (fg K (aq 0) "woods") (tC (.int 0))) (aB (cn (dz K) (aq 1) (tC (.int 0))) (aB (cn (dz K) (aq 1) (tC (.int 1))) bj)))))
   (fe (fN A.bE "adopt" cp [] E0 (aq 0) (aB (aq 1) bj)))
   fk)
  (eV (cn (dz K) (fg K (aq 0) "wooden") (aq 1))))
def ud (K:aa) (C:af) (A:CA) (d8 cp:Sp):TS :=
 bP (dh (tC (.int 0)) (zE (fg K (aq 0) "level_of") (aq 1) oF))
 (bP (dh (tC (.bl false)) (zE (fg K (aq 0) "wooden") (aq 1) oF))
 (zK K C A d8 cp))
def kR (K:aa) (C:af) (A:CA) (fD:Sp):TS :=
 nX (kO K (yM (oE K) (fg K (aq 0) "woods") eX (hZ (cn eK (cn (dz K) (fg K (aq 0) "level_of") (aq 1)) (tC (.int 1)))))) (bo 2)
 (fe (fN C "link" fD [] E0 (aq 2) (aB (cn (dz K) (aq 1) (tC (.int 0))) (aB (cn (dz K) (aq 1) (tC (.int 1))) bj))))
def qq (K:aa) (C:af) (A:CA) (fD:Sp):TS :=
 bP (dh (tC (.bl true)) (zE (fg K (aq 0) "wooden") (aq 1) oF))
 (kR K C A fD)
def rO (K:aa) (C:af) (A:CA) (fD:Sp):TS :=
 bP (Tu (fg K (aq 0) "level_of") (aq 1) (tC (.int 1)) MU)
 (iE (lh K (cn (dz K) (fg K (aq 0) "wooden") (aq 1)))
 (fe (fN C "link" fD [] E0 (cn (dz K) (fg K (aq 0) "woods") (cn (dz K) (fg K (aq 0) "level_of") (aq 1))) (aB (cn (dz K) (aq 1) (tC (.int 0))) (aB (cn (dz K) (aq 1) (tC (.int 1))) bj))))
 fk)
def oW (K:aa) (C:af) (A:CA) (jy:Sp):TS :=
 nX (kO K (yM (oE K) (fg K (aq 0) "woods") eX (hZ (cn eK (aq 2) (tC (.int 1)))))) (bo 3)
 (fe (fN C "cut" jy [] E0 (aq 3) (aB (cn (dz K) (aq 1) (tC (.int 0))) (aB (cn (dz K) (aq 1) (tC (.int 1))) bj))))
def rP (K:aa) (C:af) (A:CA) (jy:Sp):TS :=
 bP (fe (C2 K "dict" HY (fg K (aq 0) "weight_of") (aB (aq 1) bj)))
 (bP (dh (C2 K "dict" HY (fg K (aq 0) "level_of") (aB (aq 1) bj)) (bo 2))
 (iE (lh K (C2 K "dict" HY (fg K (aq 0) "wooden") (aB (aq 1) bj)))
 (oW K C A jy)
 fk))
def m6 (K:aa) (C:af) (A:CA) (lX:Sp):TS :=
 bP (dh (jg 1 [1,0] (Zc (fg K (aq 0) "level_of")) (bo 0) (cS (cn (kr K) (cn (dz K) (fg K (aq 2) "level_of") (aq 0)) (aq 1))) (aq 0)) (bo 3))
 (eV (cV lX [] E0 (aB (jg 1 [2,0] (kO K (aq 3)) (bo 0) (cS (cn (kr K) (cn (dz K) (fg K (aq 2) "wooden") (aq 0)) (aq 1))) (aq 0)) (aB (fg K (aq 0) "weight_of") bj))))
def rQ (K:aa) (C:af) (A:CA):TS :=
 eV (mV (aB (cn (dz K) (aq 1) (tC (.int 0))) (aB (cn (dz K) (aq 1) (tC (.int 1))) (aB (cn (dz K) (fg K (aq 0) "level_of") (aq 1)) (aB (cn (dz K) (fg K (aq 0) "wooden") (aq 1)) bj)))))
def lz (K:aa) (C:af) (A:CA) (j5 jH:Sp):TS :=
 bP (dh (cn (dz K) (fg K (aq 0) "woods") (aq 1)) (bo 3))
 (eV (fN C "group" j5 [] E0 (aq 3) (aB (WS (cS (cn (nY λi j=>.bl (decide (i<=j))) (fN C "size" jH [] E0 (aq 3) (aB (cn (dz K) (aq 2) (tC (.int 0))) bj)) (fN C "size" jH [] E0 (aq 3) (aB (cn (dz K) (aq 2) (tC (.int 1))) bj)))) (cn (dz K) (aq 2) (tC (.int 0))) (cn (dz K) (aq 2) (tC (.int 1)))) bj)))
def oX (K:aa) (C:af) (A:CA) (ck cF dm dr cp:Sp):TS :=
 nX (kO K (aq 4)) (bo 5)
 (fe (fN A.bE "lift" dm [] E0 (aq 0) (aB (aq 5) bj)))
def oY (K:aa) (C:af) (A:CA) (ck cF dm dr cp:Sp):TS :=
 nX (kO K (fN A.bE "at_level" cF [] E0 (aq 0) (aB (aq 1) (aB (tC (.bl false)) bj)))) (bo 5)
 (bP (dh (cV dr [] E0 (aB (aq 5) (aB (aq 3) bj))) (bo 6))
 (bP (iE (cS (cn (kr K) (aq 6) (tC (.int 1))))
 (bP (fe (fN A.bE "adopt" cp [] E0 (aq 0) (aB (aq 5) bj)))
 (eV (mV (aB (aq 1) (aB (aq 3) (aB (qB (rm K) (aB (aq 4) bj)) (aB (aq 5) bj)))))))
 fk)
 (iE (cS (cn (kr K) (aq 6) (tC (.int 2))))
 (bP (fe (fN A.bE "lift" dm [] E0 (aq 0) (aB (aq 5) bj)))
 (fe (C2 K "list" kg (aq 4) (aB (aq 5) bj))))
 fk)))
abbrev x4 (K:aa) (C:af) (A:CA) (ck cF dm dr cp:Sp):TS :=
 bP (oX K C A ck cF dm dr cp)
 (bP (oY K C A ck cF dm dr cp)
 (eV (mV (aB (aq 1) (aB (aq 3) (aB (qB (rm K) (aB (aq 4) bj)) (aB (tC .non) bj)))))))
def rR (K:aa) (C:af) (A:CA) (ck cF dm dr cp:Sp):TS :=
 bP (dh (fN A.bE "lesser_side" ck [] E0 (aq 0) (aB (aq 1) (aB (aq 2) bj))) (bo 3))
 (bP (dh (jg 1 [3] (kO K (fN A.bE "at_level" cF [] E0 (aq 0) (aB (aq 1) (aB (tC (.bl true)) bj)))) (bo 0) (cS (cn (kr K) (cV dr [] E0 (aB (aq 0) (aB (aq 1) bj))) (tC (.int 2)))) (aq 0)) (bo 4))
 (x4 K C A ck cF dm dr cp))
def oZ (K:aa) (C:af) (A:CA) (dJ dM:Sp):TS :=
 xG (qA (lh K (aq 3)) (cS (cn (nY λi j=>.bl (decide (j<=i))) (aq 2) (tC (.int 0)))))
 (bP (fe (C2 K "list" kg (aq 4) (aB (fN A.bE "look" dM [] E0 (aq 0) (aB (aq 2) (aB (aq 1) bj))) bj)))
 (bP (dh (Rz (cn (dz K) (cn (dz K) (aq 4) (ZQ (rU λi=>.int (-i)) (tC (.int 1)))) (tC (.int 3)))) (bo 3))
 (MO 2 (tC (.int 1)) (nY λi j=>.int (i-j)))))
abbrev x5 (K:aa) (C:af) (A:CA) (dJ dM:Sp):TS :=
 bP (oZ K C A dJ dM)
 (eV (aq 4))
abbrev x6 (K:aa) (C:af) (A:CA) (dJ dM:Sp):TS :=
 bP (fe (fN A.bE "drop" dJ [] E0 (aq 0) (aB (aq 1) bj)))
 (bP (dh (zF bj) (bo 4))
 (x5 K C A dJ dM))
def rS (K:aa) (C:af) (A:CA) (dJ dM:Sp):TS :=
 bP (dh (cn (dz K) (fg K (aq 0) "level_of") (aq 1)) (bo 2))
 (bP (dh (cn (dz K) (fg K (aq 0) "wooden") (aq 1)) (bo 3))
 (x6 K C A dJ dM))
abbrev uW (K:aa) (C:af) (A:CA) (cM fP:Sp):TS :=
 bP (sZ K (aq 0) (tC (.int 0)) "risen")
 (sZ K (aq 0) (tC (.int 0)) "lost")
abbrev uX (K:aa) (C:af) (A:CA) (cM fP:Sp):TS :=
 bP (sZ K (aq 0) (tC (.int 0)) "came")
 (bP (sZ K (aq 0) (tC (.int 0)) "looked")
 (uW K C A cM fP))
abbrev uY (K:aa) (C:af) (A:CA) (cM fP:Sp):TS :=
 bP (sZ K (aq 0) (HB A.bE cM [] E0 (aB (aq 1) bj)) "levels")
 (bP (sZ K (aq 0) (cn (dz K) (fg K (fg K (aq 0) "levels") "woods") (tC (.int 0))) "wood")
 (uX K C A cM fP))
def pe (K:aa) (C:af) (A:CA) (cM fP:Sp):TS :=
 bP (iE (pK (lh K (cV fP [] E0 (aB (aq 1) bj))))
 qQ
 fk)
 (bP (sZ K (aq 0) (aq 1) "n")
 (uY K C A cM fP))
def qr (K:aa) (C:af) (A:CA) (j6:Sp):TS :=
 bP (sM K (aq 0) (tC (.int 1)) MU "came")
 (eV (fN A.bE "add" j6 [] E0 (fg K (aq 0) "levels") (aB (aq 1) (aB (aq 2) bj))))
abbrev Dk (K:aa) (C:af) (A:CA) (eh jI eZ kT iH dt:Sp):TS :=
 bP (sM K (aq 0) (cV iH [] E0 (aB (aq 4) bj)) MU "risen")
 (eV (aq 4))
abbrev Dl (K:aa) (C:af) (A:CA) (eh jI eZ kT iH dt:Sp):TS :=
 bP (dh (fN A.bE "take" eZ [] E0 (fg K (aq 0) "levels") (aB (aq 3) bj)) (bo 4))
 (bP (sM K (aq 0) (cV kT [] E0 (aB (aq 4) bj)) MU "looked")
 (Dk K C A eh jI eZ kT iH dt))
def zf (K:aa) (C:af) (A:CA) (eh jI eZ kT iH dt:Sp):TS :=
 bP (dh (cV eh [] E0 (aB (fg K (aq 0) "n") (aB (fg K (fg K (aq 0) "levels") "level_of") (aB (aq 1) (aB (aq 2) bj))))) (bo 3))
 (bP (sM K (aq 0) (cV jI [] E0 (aB (fg K (aq 0) "n") (aB (zF (aB (fN A.bE "told" dt [] E0 (fg K (aq 0) "levels") (aB (aq 3) bj)) bj)) bj))) MU "lost")
 (Dl K C A eh jI eZ kT iH dt))
def wq (K:aa) (C:af) (A:CA) (dt:Sp):TS :=
 eV (qB (rm K) (aB (jg 1 [0] (Zc (fg K (fg K (aq 0) "levels") "level_of")) (bo 0) tj (fN A.bE "told" dt [] E0 (fg K (aq 1) "levels") (aB (aq 0) bj))) bj))
def ue (K:aa) (C:af) (A:CA) (iZ m7:Sp):TS :=
 eV (fN A.Keeper "receive" iZ [] E0 (aq 0) (aB (cV m7 [] E0 (aB (fg K (aq 0) "n") (aB (fg K (fg K (aq 0) "levels") "level_of") (aB (aq 1) (aB (aq 2) bj))))) (aB (tC (.int 0)) bj)))
end K37
section
open PySem PySem.Spec PyProof.Rows L2
local macro_rules | `(tactic| walk_at "c")=>`(tactic| first|(show (0:Int)<_;lia)|exact ⟨by lia,by lia⟩|exact Or.inl ⟨by lia,by lia⟩|exact Or.inr ⟨by lia,by lia⟩|exact ⟨by lia,by lia,by lia⟩)
local macro_rules | `(tactic| k_ne)=>`(tactic| first|(with_reducible first|refine HM ?_|refine Xs ?_|refine FI ?_|refine Vs ?_)|((with_reducible refine' OS ?hv ?_);(case hv=>exact rfl))|(with_reducible first|refine x_c ?_|refine ZW ?_|refine Xt ?_|refine Vt ?_|refine Vu ?_|refine Xu ?_|refine ZY ?_|refine Vv ?_|refine x_tB ?_|refine XG ?_|refine VF ?_|refine Xv ?_|refine ZZ ?_|refine Xw ?_|refine Vw ?_|refine x_orV ?_|refine Vx ?_|refine XE ?_|refine Xx ?_|refine Xy ?_|refine Vy ?_|refine Xz ?_|refine XA ?_|refine Vz ?_|refine Z0 ?_|refine Z6 ?_|refine Z7 ?_|refine OT ?_|refine VA ?_|refine XB ?_)|((with_reducible refine Z8 ?hc ?_);(case hc=>walk_at "c"))|(with_reducible first|refine VB ?_|refine x_addHI ?_|refine XC ?_|refine XD ?_|refine VG ?_|refine XH ?_|refine VH ?_|refine VE ?_|refine XJ ?_|refine XM ?_|refine ZX ?_|refine x_rU ?_|refine R3 ?_|refine XF ?_|refine x_rev ?_|refine VJ ?_|refine R5 ?_|refine VI ?_)|((with_reducible refine' XI ?hv ?_);(case hv=>exact rfl))|with_reducible refine ⟨_,rfl,?_⟩)
local macro_rules | `(tactic| lk)=>`(tactic| (k_ne;repeat k_ne))
namespace K37
variable {K:aa}{C:af}{A:CA}{Pt p dx l:af}{H H':Hp}{n T:Nat}{ts:List Rm.Ti}{Q:VK}{R:Nat->Nat->List Int}{as:Nat->List af}{us:List (Rm.Ti×af)}{zs:List Zt}
open Rm
def BF (t:Int×Int):PyData:=.tuple [.int t.1,.int t.2]
theorem E6:∀ {zs:List Zt},(∀ z∈zs,fX H z)->eF K H ((zs.map zP).map BF) (zs.map fo)
 | [],_=>.nil
 | z::zs,h=>.cons (.tup (.of (h z aw)) (.cons (.int _) (.cons (.int _) .nil))) (E6 λy hy=>h y (aj _ hy))
def KC (hl:H l=some (.lst (zs.map fo))) (h:∀ z∈zs,fX H z):Rep K H (.list ((zs.map zP).map BF)) (.ref l):=.lst (c9.of hl) (E6 h)
theorem wu:∀ L:List (Int×Int),jv (L.map BF)=true
 | []=>rfl
 | t::ts=>by simp only [bU,jv,gY];exact ⟨by simp [BF,ma,jv],wu ts⟩
theorem IG:∀ L:List (Int×Int),jl (L.map BF)<=2
 | []=>by simp [jl]
 | t::ts=>by
  have:=IG ts;simp only [bU,jl]
  have e:(BF t).depth<=2:=by simp [BF,qN,jl]
  lia
def wx (L:List (Int×Int)):zH (.list (L.map BF)):=⟨xQ _ (by simp only [ma];exact wu L),by have:=IG L;simp only [qN];lia⟩
def V7 {L M:List (Int×Int)}(e:L=M):dY (.list (L.map BF)) (.list (M.map BF))=true:=by rw [e];exact SeqAt.eqv_refl _ (wx M).lay
def pU (h:∀ z∈zs,fX H z) (S:bL H H'):∀ z∈zs,fX H' z:=λz hz=>S _ _ (h z hz)
def KD (t u:Int×Int):dY (BF t) (BF u)=decide (t=u):=by
 obtain ⟨a,b⟩:=t;obtain ⟨c,d⟩:=u;rw [jr];simp [BF,dY,PyData.eqvAll,Hj]
def Mt (t:Int×Int):zH (BF t):=⟨xQ _ (by simp [BF,ma,jv]),by simp [BF,qN,jl]⟩
def KE {a b:Int}(h:H p=some (.tup [.int a,.int b])):Rep K H (BF (a,b)) (.ref p):=.tup (.of h) (.cons (.int _) (.cons (.int _) .nil))
def V8 {L:List (Int×Int)}{t u:Int×Int}:∀ {m:Nat},m<L.idxOf t->L[m]?=some u->u≠t:=by
 induction L with
 | nil=>intro m h e;simp at e
 | cons v L ih =>
  intro m h e
  by_cases q:v=t
  ·subst q;simp at h
  ·have hv:(v == t)=false:=by simpa using q
   rw [WQ,hv] at h
   cases m with
   | zero=>simp at e;subst e;exact q
   | succ m=>exact ih (m:=m) (by simpa using h) (by simpa using e)
def IH {a b:Int}(hl:H l=some (.lst (zs.map fo))) (hz:∀ z∈zs,fX H z) (hlen:zs.length<=100000) (hp:H p=some (.tup [.int a,.int b])) (hm:(a,b)∈zs.map zP)
  (k:Q (.int ((zs.map zP).idxOf (a,b):Nat)) H):pQ K (.ref l) [.ref p] H Q:=by
 have hi:(zs.map zP).idxOf (a,b)<(zs.map zP).length:=fW.mpr hm;refine .inr ⟨l,.ref p,(zs.map zP).map BF,BF (a,b),(zs.map zP).idxOf (a,b),BF (a,b),rfl,rfl,KC hl hz,KE hp,Mt _,iS _ (wu _),by rw [ag,ag];exact bM hlen,?_,by rw [KD];simp,λm e hm' em=>?_,k⟩
 ·rw [ax,ay hi,zC];rfl
 ·rw [ax] at em;obtain ⟨u,e1,e2⟩:=aW.mp em;subst e2;rw [KD,decide_eq_false (V8 hm' e1)]
inductive d5 (K:aa) (C:af) (vs:List V) (H:Hp) (Q:VK) (E:XK):Prop
 | mk (p:af) (r:List Int):vs=[.ref p]->c9 K H p (r.map V.int)->r.length<=1000->(∀ l H' (zs:List Zt),bL H H'->H l=none->H' l=some (.lst (zs.map fo))->(∀ z∈zs,fX H' z)->zs.map zP=al r->Q (.ref l) H')->d5 K C vs H Q E
def zL:Rn (d5 K C) (rE K C) ["row"]:=by
 rintro vs H Q E ⟨p,r,rfl,hp,hl,k⟩;unfold rE;lk;refine VT ?_;lk;refine vK (j:=1) hp rfl λq hq=>?_;generalize eu_:upd H q (.lst ((r.drop 1).map V.int))=H1;obtain ⟨S1,g1⟩:=jZ eu_ hq;lk;exact ⟨p,q,r,r.drop 1,rfl,S1.seq hp,c9.of g1,by lia,λl zs H2 S2 hl2 gl hz e=>k l H2 zs (S1.trans S2) (S1.free hl2) gl hz (by rw [e,Kt])⟩
inductive lH (K:aa) (C:af) (vs:List V) (H:Hp) (Q:VK) (E:XK):Prop
 | mk (p:af) (r:List Int) (a b:Int):vs=[.ref p,.int a,.int b]->c9 K H p (r.map V.int)->r.length<=1000->(a,b)∈al r->(b,a)∈al r->(∀ (t x y:af) (H':Hp),bL H H'->H t=none->H x=none->H y=none->x≠y->H' t=some (.tup [.ref x,.ref y])->H' x=some (.lst ((xt r a b).1.map V.int))->H' y=some (.lst ((xt r a b).2.map V.int))->Q (.ref t) H')->lH K C vs H Q E
def KF:Rn (lH K C) (E5 K C (d5 K C)) T8:=by
 rintro vs H Q E ⟨p,r,a,b,rfl,hp,hl,hab,hba,k⟩;have hi:(al r).idxOf (a,b)<(al r).length:=fW.mpr hab;have hj:(al r).idxOf (b,a)<(al r).length:=fW.mpr hba;rw [Ku] at hi hj;unfold E5;lk;refine ⟨p,r,rfl,hp,hl,λw H1 zs S1 hw gw hz ez=>?_⟩
 have hzl:zs.length<=1000:=by
  have:=congrArg dR ez;rw [ag,Ku] at this;lia
 lk;refine ⟨.inl ⟨rfl,_,c9.of gw⟩,?_⟩;lk;refine ⟨bM (m:=2) (ar 2),λt1 ht1=>?_⟩;generalize eu_:upd H1 t1 (.tup [.int a,.int b])=H2;obtain ⟨S2,g2⟩:=jZ eu_ ht1;lk;refine IH (S2 _ _ gw) (pU hz S2) (by lia) g2 (by rw [ez];exact hab) ?_;rw [ez];lk;refine ⟨.inl ⟨rfl,_,c9.of (S2 _ _ gw)⟩,?_⟩;lk;refine ⟨bM (m:=2) (ar 2),λt2 ht2=>?_⟩;generalize eu_:upd H2 t2 (.tup [.int b,.int a])=H3;obtain ⟨S3,g3⟩:=jZ eu_ ht2;have S13:=S2.trans S3;lk;refine IH (S13 _ _ gw) (pU hz S13) (by lia) g3 (by rw [ez];exact hba) ?_;rw [ez]
 have hpr:xt r a b=if (al r).idxOf (a,b)<(al r).idxOf (b,a) then (xW r ((al r).idxOf (a,b)) ((al r).idxOf (b,a)),rn r ((al r).idxOf (a,b)) ((al r).idxOf (b,a))) else (rn r ((al r).idxOf (b,a)) ((al r).idxOf (a,b)),xW r ((al r).idxOf (b,a)) ((al r).idxOf (a,b))):=rfl
 generalize (al r).idxOf (a,b)=i at hi hpr;generalize (al r).idxOf (b,a)=j at hj hpr;lk
 obtain ⟨u,v,eu,ev,huv⟩:∃ u v:Nat,(if (j:Int)<(i:Int) then (j:Int) else (i:Int))=(u:Int)/\(if (j:Int)>(i:Int) then (j:Int) else (i:Int))=(v:Int)/\((i<j/\u=i/\v=j)\/(¬ i<j/\u=j/\v=i)):=by
  by_cases c:i<j
  ·exact ⟨i,j,by rw [if_neg (by lia)],by rw [if_pos (by lia)],.inl ⟨c,rfl,rfl⟩⟩
  ·by_cases c2:j<i
   ·exact ⟨j,i,by rw [if_pos (by lia)],by rw [if_neg (by lia)],.inr ⟨c,rfl,rfl⟩⟩
   ·have:i=j:=by lia
    subst this;exact ⟨i,i,by rw [if_neg (by lia)],by rw [if_neg (by lia)],.inr ⟨c,rfl,rfl⟩⟩
 rw [eu,ev];have hS:=S1.trans S13;refine LR (j:=u+1) (j':=v+1) (hS.seq hp) (by lia) (by lia) λy hy=>?_
 have hin:(r.drop (u+1)).take (v+1-(u+1))=rn r u v:=by unfold rn;rw [show v+1-(u+1)=v-u by lia]
 rw [hin];generalize eu_:upd H3 y (.lst ((rn r u v).map V.int))=H4;obtain ⟨S4,g4⟩:=jZ eu_ hy;lk;refine O4 (j:=u+1) ((hS.trans S4).seq hp) (by lia) λq1 hq1=>?_;generalize eu_:upd H4 q1 (.lst ((r.take (u+1)).map V.int))=H5;obtain ⟨S5,g5⟩:=jZ eu_ hq1;lk;refine vK (j:=v+2) ((hS.trans (S4.trans S5)).seq hp) (by lia) λq2 hq2=>?_;generalize eu_:upd H5 q2 (.lst ((r.drop (v+2)).map V.int))=H6;obtain ⟨S6,g6⟩:=jZ eu_ hq2;refine FK (S6 _ _ g5) g6 (by rw [bB,cN];lia) λx hx=>?_;have S7:=bL.cD (o:=.lst ((xW r u v).map V.int)) hx;have g7:(upd H6 x (.lst ((xW r u v).map V.int))) x=some (.lst ((xW r u v).map V.int)):=aE
 show bo 9 (.ref x) _ (upd H6 x (.lst ((xW r u v).map V.int))) _
 generalize upd H6 x (.lst ((xW r u v).map V.int))=H7 at S7 g7;have S37:=S4.trans (S5.trans (S6.trans S7));have S47:=S5.trans (S6.trans S7);have nxy:x≠y:=Ne.symm (aP (S6 _ _ (S5 _ _ g4)) hx);have hHx:H x=none:=(hS.trans (S4.trans (S5.trans S6))).free hx;have hHy:H y=none:=hS.free hy;lk
 rcases huv with ⟨c,rfl,rfl⟩|⟨c,rfl,rfl⟩
 ·rw [if_pos c] at hpr;refine qf (λ_=>?_) λz=>absurd (by lia) z;lk;refine ⟨bM (m:=2) (ar 2),λt ht=>?_⟩;have S8:=bL.cD (o:=.tup [.ref x,.ref y]) ht;exact k t x y _ ((hS.trans S37).trans S8) ((hS.trans S37).free ht) hHx hHy nxy aE (by rw [hpr];exact S8 _ _ g7) (by rw [hpr];exact S8 _ _ (S47 _ _ g4))
 ·rw [if_neg c] at hpr;refine qf (λz=>absurd (by lia) c) λ_=>?_;lk;refine ⟨bM (m:=2) (ar 2),λt ht=>?_⟩;have S8:=bL.cD (o:=.tup [.ref y,.ref x]) ht;exact k t y x _ ((hS.trans S37).trans S8) ((hS.trans S37).free ht) hHy hHx (Ne.symm nxy) aE (by rw [hpr];exact S8 _ _ (S47 _ _ g4)) (by rw [hpr];exact S8 _ _ g7)
inductive oM (K:aa) (C:af) (vs:List V) (H:Hp) (Q:VK) (E:XK):Prop
 | mk (p:af) (r:List Int) (a:Int):vs=[.ref p,.int a]->c9 K H p (r.map V.int)->a∈r->r.length<=1000->(∀ l H',bL H H'->H l=none->H' l=some (.lst ((tn r (r.idxOf a)).map V.int))->Q (.ref l) H')->oM K C vs H Q E
def KG:Rn (oM K C) (E4 K C) ["row","a","k"]:=by
 rintro vs H Q E ⟨p,r,a,rfl,hp,ha,hl,q⟩;unfold E4;lk;refine ⟨.inl ⟨rfl,_,hp⟩,?_⟩;lk;refine LP hp ha ?_;lk;refine vK hp rfl λp1 h1=>?_;have S1:=bL.cD (o:=.lst ((r.drop (r.idxOf a)).map V.int)) h1;lk;refine LR (j:=1) (j':=r.idxOf a+1) (S1.seq hp) rfl (by lia) λp2 h2=>?_;have S2:=bL.cD (o:=.lst (((r.drop 1).take (r.idxOf a+1-1)).map V.int)) h2;refine FK (S2 _ _ aE) aE ?_ λp3 h3=>?_
 ·rw [cN,bB,cN];lia
 ·have S3:=bL.cD (o:=.lst (((r.drop (r.idxOf a))++((r.drop 1).take (r.idxOf a+1-1))).map V.int)) h3;have S:=(S1.trans S2).trans S3;exact q p3 _ S ((S1.trans S2).free h3) aE
inductive mZ (K:aa) (C:af) (vs:List V) (H:Hp) (Q:VK) (E:XK):Prop
 | mk (p q:af) (r1 r2:List Int) (a b:Int):vs=[.ref p,.ref q,.int a,.int b]->c9 K H p (r1.map V.int)->c9 K H q (r2.map V.int)->a∈r1->b∈r2->r1.length<=1000->r2.length<=1000->(∀ l H',bL H H'->H l=none->H' l=some (.lst ((Bi r1 r2 a b).map V.int))->Q (.ref l) H')->mZ K C vs H Q E
def II:Rn (mZ K C) (BA K C (oM K C)) ["row","other","a","b","k"]:=by
 rintro vs H Q E ⟨p,q,r1,r2,a,b,rfl,hp,hq,ha,hb,hl1,hl2,k⟩;unfold BA;lk;refine ⟨.inl ⟨rfl,_,hp⟩,?_⟩;lk;refine LP hp ha ?_;lk;refine O4 (j:=r1.idxOf a+1) hp (by lia) λp1 h1=>?_;generalize eu_:upd H p1 (.lst ((r1.take (r1.idxOf a+1)).map V.int))=H1;obtain ⟨S1,g1⟩:=jZ eu_ h1;lk;refine ⟨q,r2,b,rfl,S1.seq hq,hb,hl2,λt H2 S2 ht gt=>?_⟩;have hlt:(tn r2 (r2.idxOf b)).length=r2.length:=PQ (Kr hb);refine FK (S2 _ _ g1) gt (by rw [bB];lia) λp3 h3=>?_;generalize eu_:upd H2 p3 (.lst ((r1.take (r1.idxOf a+1)++tn r2 (r2.idxOf b)).map V.int))=H3;obtain ⟨S3,g3⟩:=jZ eu_ h3;lk;have S13:=S1.trans (S2.trans S3);refine vK (j:=r1.idxOf a) (S13.seq hp) rfl λp4 h4=>?_;generalize eu_:upd H3 p4 (.lst ((r1.drop (r1.idxOf a)).map V.int))=H4;obtain ⟨S4,g4⟩:=jZ eu_ h4;refine FK (S4 _ _ g3) g4 (by rw [bu,bB,cN];lia) λp5 h5=>?_;have S5:=bL.cD (o:=.lst ((r1.take (r1.idxOf a+1)++tn r2 (r2.idxOf b)++r1.drop (r1.idxOf a)).map V.int)) h5;refine k p5 _ ((S13.trans S4).trans S5) ((S13.trans S4).free h5) ?_;unfold Bi;rw [← di];exact aE
def jw (K:aa) (C:af):Sp:=λvs H Q _=>∃ i:Int,vs=[.int i]/\Q (.bl true) H
def FY:Rn (jw K C) (zb K C) yY:=by
 rintro vs H Q E ⟨i,rfl,k⟩;unfold zb;lk;refine A3 (.int i) OY ?_;lk;refine lU ?_;lk;refine A3 (.int i) OZ ?_;lk;exact k
inductive lW (K:aa) (C:af) (vs:List V) (H:Hp) (Q:VK) (E:XK):Prop
 | mk (n i:Nat):vs=[.int n,.int i]->i<n->Q (.bl true) H->lW K C vs H Q E
def FZ:Rn (lW K C) (zd K C (jw K C)) yW:=by
 rintro vs H Q E ⟨n,i,rfl,hi,k⟩;unfold zd;lk;refine ⟨i,rfl,?_⟩;refine ⟨true,rfl,?_⟩;refine lU ?_;lk;refine qf (λ_=>?_) λz=>absurd (show (0:Int)<=i by lia) z;lk;rw [decide_eq_true (show (i:Int)<n by lia)];exact k
inductive cE (K:aa) (C:af) (vs:List V) (H:Hp) (Q:VK) (E:XK):Prop
 | mk (n i:Nat):vs=[.int n,.int i]->i<n->Q .non H->cE K C vs H Q E
def tw:Rn (cE K C) (mY K C (lW K C)) yW:=by
 rintro vs H Q E ⟨n,i,rfl,hi,k⟩;unfold mY;lk;refine ⟨n,i,rfl,hi,?_⟩;refine ⟨true,rfl,?_⟩;refine iQ ?_;lk;exact k
inductive dB (K:aa) (C:af) (vs:List V) (H:Hp) (Q:VK) (E:XK):Prop
 | mk (n i j:Nat):vs=[.int n,.int i,.int j]->i<n->j<n->Q .non H->dB K C vs H Q E
def rT:Rn (dB K C) (ml K C (cE K C)) yV:=by
 rintro vs H Q E ⟨n,i,j,rfl,hi,hj,k⟩;unfold ml;lk;refine ⟨n,i,rfl,hi,?_⟩;lk;refine ⟨n,j,rfl,hj,?_⟩;exact k
inductive bW (K:aa) (C:af) (vs:List V) (H:Hp) (Q:VK) (E:XK):Prop
 | mk (n i j:Nat):vs=[.int n,.int i,.int j]->i<n->j<n->i≠j->Q .non H->bW K C vs H Q E
def uZ:Rn (bW K C) (nK K C (dB K C)) yV:=by
 rintro vs H Q E ⟨n,i,j,rfl,hi,hj,hij,k⟩;unfold nK;lk;refine ⟨n,i,j,rfl,hi,hj,?_⟩;lk;refine qf (λz=>absurd (lE.mp z) (by lia)) λ_=>?_;lk;exact k
def lI {ta tv:TE}{f:bh}{D:qO}{Z:L2.St}(h:tv Z H λy H1=>ta Z H1 λx H2=>∃ a C dx fs,x=.ref a/\H2 a=some (.ins C dx fs)/\CO K C/\dE K C f/\fs.length<1000/\D.nx Z (upd H2 a (.ins C dx (dP f y fs)))):sZ K ta tv f D Z H:=h
def kn:¬ (("n":bh)="rows"):=by decide +kernel
def F0 (n:Nat) (l:af):List (bh×V):=dP "rows" (.ref l) (dP "n" (.int n) [])
def iI (n:Nat) (l:af):(F0 n l).lookup ("rows":bh)=some (.ref l):=by unfold F0;rw [ff,if_pos rfl]
def x8 (n:Nat) (l:af):(F0 n l).lookup ("n":bh)=some (.int n):=by unfold F0;rw [ff,if_neg kn,ff,if_pos rfl]
def lP (n:Nat) (l:af) {m:bh}(h1:¬ m="rows":=by decide +kernel) (h2:¬ m="n":=by decide +kernel):(F0 n l).lookup m=none:=by
 unfold F0;rw [ff,if_neg h1,ff,if_neg h2];rfl
structure CT (K:aa) (C:af):Prop where
 cl:CO K C
 n:dE K C "n"
 rows:dE K C "rows"
structure WA (C:af) (H:Hp) (p dx l:af) (n:Nat) (as:List af) (R:Nat->List Int):Prop where
 ob:H p=some (.ins C dx (F0 n l))
 rl:H l=some (.lst (as.map V.ref))
 len:as.length=n
 at_:∀ i a,as[i]?=some a->H a=some (.lst ((R i).map V.int))
 ne:∀ a∈as,a≠l
def WA.get {as:List af}{R:Nat->List Int}(W:WA C H p dx l n as R) {i:Nat}(hi:i<n):∃ a,as[i]?=some a/\H a=some (.lst ((R i).map V.int))/\a≠l:=by
 have h:i<as.length:=by rw [W.len];exact hi
 exact ⟨as[i],ay h,W.at_ i _ (ay h),W.ne _ (gZ h)⟩
def WA.same {as:List af}{R:Nat->List Int}(W:WA C H p dx l n as R) (S:bL H H'):WA C H' p dx l n as R :=
 ⟨S _ _ W.ob,S _ _ W.rl,W.len,λi a h=>S _ _ (W.at_ i a h),W.ne⟩
inductive fu (K:aa) (C:af) (vs:List V) (H:Hp) (Q:VK) (E:XK):Prop
 | mk (p dx:af) (n:Nat):vs=[.ref p,.int n]->H p=some (.ins C dx [])->CT K C->n<=1000->(∀ (l:af) (as:List af) (H':Hp),WA C H' p dx l n as (λi=>[(i:Int)])->H l=none->a8 p H H'->Q .non H')->fu K C vs H Q E
def wy:Rn (fu K C) (oV K C) qg:=by
 rintro vs H Q E ⟨p,dx,n,rfl,hp,ct,hn,k⟩;unfold oV;k_ne;refine lI ?_;lk;refine ⟨p,C,dx,[],rfl,hp,ct.cl,ct.n,by decide,?_⟩;dsimp only;refine lI ?_;lk;refine ⟨by lia,by lia,λacc hacc=>?_⟩
 have e0:((n:Int)).toNat=n:=by lia
 rw [e0]
 have hap:acc≠p:=λe=>by rw [e,aE] at hacc;cases hacc
 have hacc0:H acc=none:=by rw [aH hap] at hacc;exact hacc
 have g0:(upd H p (.ins C dx (dP "n" (.int n) []))) p=some (.ins C dx (dP "n" (.int n) [])):=aE;have B0:a8 p H (upd H p (.ins C dx (dP "n" (.int n) []))):=a8.upd;generalize upd H p (.ins C dx (dP "n" (.int n) []))=H0 at hacc g0 B0;refine mw (n:=n) (λt ys H1=>∃ as:List af,ys=as.map V.ref/\as.length=t/\H1 acc=some (.lst ys)/\bL H0 H1/\∀ (i:Nat) a,as[i]?=some a->a≠acc/\H1 a=some (.lst ([(i:Int)].map V.int))) (λZ=>∃ o,Z=[o]) ⟨[],rfl,rfl,aE,bL.cD hacc,λi a h=>by simp at h⟩ ⟨_,rfl⟩ ?_ ?_ ?_ ?_
 ·rintro t ys H1 ⟨_,_,_,h,_⟩;exact h
 ·rintro ys H1 ⟨as,rfl,hl,g1,S1,hA⟩;refine ⟨ar n,?_⟩;lk;refine ⟨p,C,dx,_,rfl,S1 _ _ g0,ct.cl,ct.rows,by show 1<1000;decide,?_⟩;have hb:a8 p H1 (upd H1 p (.ins C dx (F0 n acc))):=a8.upd
  have nl:∀ {b:af}{xs:List V},H1 b=some (.lst xs)->b≠p:=λe z=>by rw [z,S1 _ _ g0] at e;cases e
  refine k acc as _ ⟨aE,hb _ _ g1 hap,hl,λi a ha=>hb _ _ (hA i a ha).2 (nl (hA i a ha).2),λa ha=>?_⟩ hacc0 λb o e hne=>hb _ _ (S1 _ _ (B0 _ _ e hne)) hne;obtain ⟨i,hi⟩:=bx.mp ha;exact (hA i a hi).1
 ·rintro t ys H1 ht _;exact ht
 ·rintro t ys σ' H1 x H2 ht ⟨as,rfl,hl,g1,S1,hA⟩ ⟨o,rfl⟩ ⟨eH,ex⟩;subst eH ex;lk;refine lU ?_;lk;refine ⟨bM (m:=1) (ar 1),λq hq=>?_⟩;have T:=bL.cD (o:=.lst [.int (0+(t:Int))]) hq
  have u:(upd H2 q (.lst [.int (0+(t:Int))])) q=some (.lst ([(t:Int)].map V.int)):=by rw [aE];simp
  generalize upd H2 q (.lst [.int (0+(t:Int))])=H3 at T u;have hqa:q≠acc:=Ne.symm (aP g1 hq);refine ⟨T _ _ g1,dU (m:=10000) (by rw [ag];lia),kF.mk' ht ⟨_,rfl⟩ ⟨as++[q],by simp,by simp [hl],aE,λb o e=>by rw [aH (aP e hacc)];exact T _ _ (S1 _ _ e),λi a ha=>?_⟩⟩
  by_cases hi:i<as.length
  ·rw [fE hi] at ha;obtain ⟨h1,h2⟩:=hA i a ha;exact ⟨h1,by rw [aH h1];exact T _ _ h2⟩
  ·rw [dS (by lia)] at ha
   have:i=as.length:=by
    have:=(aC.mp ha).1;simp at this;lia
   subst this;simp at ha;subst ha;rw [hl];exact ⟨hqa,by rw [aH hqa];exact u⟩
inductive fB (K:aa) (C:af) (vs:List V) (H:Hp) (Q:VK) (E:XK):Prop
 | mk (p dx l q:af) (n:Nat) (as:List af) (s:List Int):vs=[.ref p,.ref q]->CT K C->H p=some (.ins C dx (F0 n l))->H l=some (.lst (as.map V.ref))->as.length=n->H q=some (.lst (s.map V.int))->q≠l->(∀ x∈s,∃ j:Nat,j<n/\x=(j:Int))->(∀ (as':List af) H',as'.length=n->(∀ (i:Nat) (a:af),as[i]?=some a->as'[i]?=some (if (i:Int)∈s then q else a))->H' l=some (.lst (as'.map V.ref))->a8 l H H'->Q .non H')->fB K C vs H Q E
def Dm:Rn (fB K C) (wk K C) ["self","row","place"]:=by
 rintro vs H Q E ⟨p,dx,l,q,n,as,s,rfl,ct,hp,hl,hn,hq,hql,hs,k⟩;have hpl:p≠l:=gh hp hl;unfold wk rL;lk
 refine .inl ⟨⟨_,c9.of hq⟩,iY (K:=K) (a:=q) (xs:=s.map V.int) (λi Z H1=>∃ (as':List af) (o:Option V),Z=[some (.ref p),some (.ref q),o]/\as'.length=n/\(∀ (j:Nat) (a:af),as[j]?=some a->as'[j]?=some (if (j:Int)∈s.take i then q else a))/\H1 l=some (.lst (as'.map V.ref))/\a8 l H H1)
  ⟨as,_,rfl,hn,λj a h=>by simpa using h,hl,a8.refl _ _⟩ ?_ ?_ ?_⟩
 ·rintro i Z H1 _ ⟨as',o,_,_,_,_,B⟩;exact c9.of (B _ _ hq hql)
 ·rintro i x Z H1 hi ⟨as',o,rfl,hn',hA,g1,B⟩;rw [ax] at hi;obtain ⟨c,hc,ex⟩:=aW.mp hi;have ex:x=V.int c:=ex.symm;subst ex;obtain ⟨j,hj,rfl⟩:=hs c (aL hc);k_go;refine ⟨p,C,dx,_,_,rfl,B _ _ hp hpl,ct.cl,ct.rows,iI _ _,?_⟩;lk;refine OU g1 (O0 (j:=j) rfl (by rw [ag];lia)) ?_;refine ⟨as'.set j q,_,rfl,by simpa using hn',λk' a ha=>?_,?_,λb o' e hb=>by rw [aH hb];exact B _ _ e hb⟩
  ·have e1:s.take (i+1)=s.take i++[(j:Int)]:=by rw [W6,hc];rfl
   rw [e1]
   by_cases hk:k'=j
   ·subst hk;rw [ji (by rw [hn',← hn];exact (aC.mp ha).1),if_pos (by simp)]
   ·rw [mQ (Ne.symm hk),hA k' a ha]
    have:((k':Int)∈s.take i++[(j:Int)])↔(k':Int)∈s.take i:=by
     simp only [aN,aA];exact ⟨λh=>h.elim id λe=>absurd (by lia) hk,.inl⟩
    by_cases c1:(k':Int)∈s.take i
    ·rw [if_pos c1,if_pos (this.mpr c1)]
    ·rw [if_neg c1,if_neg (λh=>c1 (this.mp h))]
  ·rw [aE,MK]
 ·rintro Z H1 ⟨as',o,rfl,hn',hA,g1,B⟩;rw [ag,qM] at hA;exact k as' H1 hn' hA g1 B
inductive d8 (K:aa) (C:af) (vs:List V) (H:Hp) (Q:VK) (E:XK):Prop
 | mk (p dx l:af) (n a b:Nat) (as:List af) (R:Nat->List Int):vs=[.ref p,.int a,.int b]->CT K C->WA C H p dx l n as R->Wd n R->a<n->b<n->Q (.bl (decide ((b:Int)∈R a))) H->d8 K C vs H Q E
def zM:Rn (d8 K C) (rM K C (dB K C)) tq:=by
 rintro vs H Q E ⟨p,dx,l,n,a,b,as,R,rfl,ct,W,D,ha,hb,k⟩;obtain ⟨ra,e1,e2,_⟩:=W.get ha;obtain ⟨rb,f1,f2,_⟩:=W.get hb
 have hd:∀ i,i<n->∃ x,(R i)[0]?=some x/\(R i).head?=some x:=λi hi=>by
  cases h:R i with
  | nil=>exact absurd h (D.r i hi).ne
  | cons x t=>exact ⟨x,rfl,rfl⟩
 obtain ⟨x,hx,hx'⟩:=hd a ha;obtain ⟨y,hy,hy'⟩:=hd b hb;have hj:=D.head ha hb;rw [hx',hy'] at hj;unfold rM;k_go;refine ⟨p,C,dx,_,_,rfl,W.ob,ct.cl,ct.n,x8 _ _,?_⟩;lk;refine ⟨n,a,b,rfl,ha,hb,?_⟩;k_go;refine ⟨p,C,dx,_,_,rfl,W.ob,ct.cl,ct.rows,iI _ _,?_⟩;lk;refine lu (c9.of W.rl) (eE (j:=a) rfl (by rw [ax,e1];rfl)) ?_;lk;refine yR (c9.of e2) (j:=0) rfl hx ?_;k_go;refine ⟨p,C,dx,_,_,rfl,W.ob,ct.cl,ct.rows,iI _ _,?_⟩;lk;refine lu (c9.of W.rl) (eE (j:=b) rfl (by rw [ax,f1];rfl)) ?_;lk;refine yR (c9.of f2) (j:=0) rfl hy ?_;lk
 have e:decide (V.int x=V.int y)=decide ((b:Int)∈R a):=by
  rw [jr,decide_eq_true_iff,decide_eq_true_iff,lE,← hj];exact ⟨λh=>by rw [h],λh=>aV h⟩
 rw [e];exact k
inductive fD (K:aa) (C:af) (vs:List V) (H:Hp) (Q:VK) (E:XK):Prop
 | mk (p dx l:af) (n a b:Nat) (as:List af) (R:Nat->List Int):vs=[.ref p,.int a,.int b]->CT K C->WA C H p dx l n as R->Wd n R->n<=200->a<n->b<n->(b:Int)∉R a->(∀ (as':List af) H',WA C H' p dx l n as' (lk R a b)->a8 l H H'->Q .non H')->fD K C vs H Q E
def Do:Rn (fD K C) (wm K C (bW K C) (d8 K C) (fB K C) (mZ K C)) tq:=by
 rintro vs H Q E ⟨p,dx,l,n,a,b,as,R,rfl,ct,W,D,hn,ha,hb,hm,k⟩;obtain ⟨ra,e1,e2,_⟩:=W.get ha;obtain ⟨rb,f1,f2,_⟩:=W.get hb;have hla:=D.len ha;have hlb:=D.len hb;have hab:a≠b:=λe=>hm (e▸D.me a ha);obtain ⟨T2,D2,E2⟩:=D.link ha hb hm;unfold wm;k_go;refine ⟨p,C,dx,_,_,rfl,W.ob,ct.cl,ct.n,x8 _ _,?_⟩;lk;refine ⟨n,a,b,rfl,ha,hb,hab,?_⟩;k_in;refine ⟨p,dx,_,rfl,W.ob,lP _ _,?_⟩;lk;refine ⟨p,dx,l,n,a,b,as,R,rfl,ct,W,D,ha,hb,?_⟩;refine ⟨_,rfl,?_⟩;refine qf (λz=>absurd z hm) λ_=>?_;k_in;refine ⟨p,dx,_,rfl,W.ob,lP _ _,?_⟩;k_go;refine ⟨p,C,dx,_,_,rfl,W.ob,ct.cl,ct.rows,iI _ _,?_⟩;lk;refine lu (c9.of W.rl) (eE (j:=a) rfl (by rw [ax,e1];rfl)) ?_;k_go;refine ⟨p,C,dx,_,_,rfl,W.ob,ct.cl,ct.rows,iI _ _,?_⟩;lk;refine lu (c9.of W.rl) (eE (j:=b) rfl (by rw [ax,f1];rfl)) ?_;lk;refine ⟨ra,rb,R a,R b,a,b,rfl,c9.of e2,c9.of f2,D.me a ha,D.me b hb,by lia,by lia,λq H1 S1 hq gq=>?_⟩;lk;have W1:=W.same S1;have hql:q≠l:=Ne.symm (aP W.rl hq);refine ⟨p,dx,l,q,n,as,_,rfl,ct,W1.ob,W1.rl,W.len,gq,hql,λx hx=>?_,λas' H2 hl2 hA g2 B2=>?_⟩
 ·rcases (T2.mem x).mp hx with h|h
  ·obtain ⟨j,hj,e,_⟩:=D.JR a ha x h;exact ⟨j,hj,e⟩
  ·obtain ⟨j,hj,e,_⟩:=D.JR b hb x h;exact ⟨j,hj,e⟩
 ·have hpl:p≠l:=gh W.ob W.rl
  have hAt:∀ (i:Nat) (c:af),as'[i]?=some c->∃ c0,as[i]?=some c0/\c=if (i:Int)∈Bi (R a) (R b) a b then q else c0:=λi c hc=>by
   have hi:i<as.length:=by rw [W.len,← hl2];exact (aC.mp hc).1
   have:=hA i _ (ay hi);rw [hc] at this;exact ⟨_,ay hi,aV this⟩
  refine k as' H2 ⟨B2 _ _ W1.ob hpl,g2,hl2,λi c hc=>?_,λc hc=>?_⟩ (λb' o e hne=>B2 _ _ (S1 _ _ e) hne)
  ·obtain ⟨c0,h0,ec⟩:=hAt i c hc
   show H2 c=some (.lst ((if (i:Int)∈Bi (R a) (R b) a b then Bi (R a) (R b) a b else R i).map V.int))
   by_cases ci:(i:Int)∈Bi (R a) (R b) a b
   ·rw [if_pos ci] at ec ⊢;rw [ec];exact B2 _ _ gq hql
   ·rw [if_neg ci] at ec ⊢;rw [ec];exact B2 _ _ (W1.at_ i c0 h0) (W.ne _ (aL h0))
  ·obtain ⟨i,hi⟩:=bx.mp hc;obtain ⟨c0,h0,ec⟩:=hAt i c hi
   by_cases ci:(i:Int)∈Bi (R a) (R b) a b
   ·rw [if_pos ci] at ec;rw [ec];exact hql
   ·rw [if_neg ci] at ec;rw [ec];exact W.ne _ (aL h0)
inductive jy (K:aa) (C:af) (vs:List V) (H:Hp) (Q:VK) (E:XK):Prop
 | mk (p dx l:af) (n a b:Nat) (as:List af) (R:Nat->List Int):vs=[.ref p,.int a,.int b]->CT K C->WA C H p dx l n as R->Wd n R->n<=200->a<n->b<n->a≠b->Ed n R a b->(∀ (as':List af) H',WA C H' p dx l n as' (Rm.ct R a b)->a8 l H H'->Q .non H')->jy K C vs H Q E
def F9:Rn (jy K C) (ze K C (bW K C) (lH K C) (d5 K C) (fB K C)) ["self","a","b","row"]:=by
 rintro vs H Q E ⟨p,dx,l,n,a,b,as,R,rfl,ct,W,D,hn,ha,hb,hab,hE,k⟩;obtain ⟨ra,e1,e2,_⟩:=W.get ha;have hla:=D.len ha;have hm:=Ed.at D hE ha (D.me a ha);have hm':=(D.r a ha).sym _ _ hm;have P:=(D.r a ha).parted hm (by lia:(a:Int)≠b);have PM:=P.mem (D.r a ha);have hpl:p≠l:=gh W.ob W.rl;unfold ze;k_go;refine ⟨p,C,dx,_,_,rfl,W.ob,ct.cl,ct.n,x8 _ _,?_⟩;lk;refine ⟨n,a,b,rfl,ha,hb,hab,?_⟩;lk;refine ⟨bM (m:=2) (ar 2),λt ht=>?_⟩;generalize eu_:upd H t (.tup [.int (a:Int),.int (b:Int)])=H1;obtain ⟨S1,g1⟩:=jZ eu_ ht;have W1:=W.same S1;k_go;refine ⟨p,C,dx,_,_,rfl,W1.ob,ct.cl,ct.rows,iI _ _,?_⟩;lk;refine lu (c9.of W1.rl) (eE (j:=a) rfl (by rw [ax,e1];rfl)) ?_;lk;refine ⟨ra,R a,rfl,c9.of (S1 _ _ e2),by lia,λz H2 zs S2 hz gz pz ez=>?_⟩;refine OX (KE (S2 _ _ g1)) (KC gz pz) (Mt _) (iS _ (wu _)) ?_
 have hin:(((zs.map zP).map BF).any λe=>dY e (BF ((a:Int),(b:Int))))=true:=by
  rw [ez,List.any_map,CV];exact ⟨_,hm,by simp [KD]⟩
 rw [hin];lk;refine iQ ?_;have S12:=S1.trans S2;have W2:=W.same S12;lk;unfold ub;k_go;refine ⟨p,C,dx,_,_,rfl,W2.ob,ct.cl,ct.rows,iI _ _,?_⟩;lk;refine lu (c9.of W2.rl) (eE (j:=a) rfl (by rw [ax,e1];rfl)) ?_;lk;refine ⟨ra,R a,a,b,rfl,c9.of (S12 _ _ e2),by lia,hm,hm',λu x y H3 S3 hu hx hy hxy gu gx gy=>?_⟩;have S13:=S12.trans S3;have W3:=W.same S13;have hxl:x≠l:=Ne.symm (aP W2.rl hx);have hyl:y≠l:=Ne.symm (aP W2.rl hy);have hul:u≠l:=Ne.symm (aP W2.rl hu)
 have jin:∀ z,z∈R a->∃ j:Nat,j<n/\z=(j:Int):=λz hz=>let ⟨j,hj,e,_⟩:=D.JR a ha z hz;⟨j,hj,e⟩
 have ectR:∀ i:Nat,Rm.ct R a b i=if (i:Int)∈(xt (R a) a b).2 then (xt (R a) a b).2 else if (i:Int)∈(xt (R a) a b).1 then (xt (R a) a b).1 else R i:=λ_=>rfl
 generalize (xt (R a) a b).1=X at P PM gx ectR;generalize (xt (R a) a b).2=Y at P PM gy ectR;lk
 refine .inr (.inl ⟨⟨_,ku.of gu⟩,RE (K:=K) (a:=u) (xs:=[.ref x,.ref y]) (λi Z H4=>∃ (as1:List af) (o:Option V),Z=[some (.ref p),some (.int (a:Int)),some (.int (b:Int)),o]/\as1.length=n/\H4 l=some (.lst (as1.map V.ref))/\a8 l H3 H4 /\
  ∀ (j:Nat) (c:af),as[j]?=some c->as1[j]?=some (if 2<=i/\(j:Int)∈Y then y else if 1<=i/\(j:Int)∈X then x else c)) ⟨as,_,rfl,W.len,W3.rl,a8.refl _ _,λj c h=>by rw [if_neg (λz=>by lia),if_neg (λz=>by lia)];exact h⟩ ?_ ?_ ?_⟩)
 ·rintro i Z H4 _ ⟨_,_,_,_,_,B,_⟩;exact ku.of (B _ _ gu hul)
 ·rintro i v Z H4 hi ⟨as1,o,rfl,hl1,g4,B,hA⟩
  obtain ⟨q,s,hql,gq,hs,ev,hif⟩:∃ (q:af) (s:List Int),q≠l/\H3 q=some (.lst (s.map V.int))/\(∀ z∈s,∃ j:Nat,j<n/\z=(j:Int))/\v=.ref q/\(∀ (j:Nat) (c:af),(if (j:Int)∈s then q else if 2<=i/\(j:Int)∈Y then y else if 1<=i/\(j:Int)∈X then x else c)=if 2<=i+1/\(j:Int)∈Y then y else if 1<=i+1/\(j:Int)∈X then x else c):=by
   rcases (show i=0\/i=1 by have:=(aC.mp hi).1;simp at this;lia) with rfl|rfl
   ·refine ⟨x,X,hxl,gx,λz hz=>jin z ((PM z).mpr (.inl hz)),by simpa using hi.symm,λj c=>?_⟩
    by_cases c1:(j:Int)∈X<;>simp [c1]
   ·refine ⟨y,Y,hyl,gy,λz hz=>jin z ((PM z).mpr (.inr hz)),by simpa using hi.symm,λj c=>?_⟩
    by_cases c2:(j:Int)∈Y<;>by_cases c1:(j:Int)∈X<;>simp [c1,c2]
  subst ev;k_in;refine ⟨p,dx,_,rfl,B _ _ W3.ob hpl,lP _ _,?_⟩;lk;refine ⟨p,dx,l,q,n,as1,s,rfl,ct,B _ _ W3.ob hpl,g4,hl1,B _ _ gq hql,hql,hs,λas2 H5 hl2 hA2 g5 B5=>?_⟩;refine ⟨as2,_,rfl,hl2,g5,λb' o' e hne=>B5 _ _ (B _ _ e hne) hne,λj c hc=>?_⟩;rw [hA2 j _ (hA j c hc),hif j c]
 ·rintro Z H4 ⟨as2,o,rfl,hl2,g4,B,hA⟩
  have hAt:∀ (i:Nat) (c:af),as2[i]?=some c->∃ c0,as[i]?=some c0/\c=if (i:Int)∈Y then y else if (i:Int)∈X then x else c0:=λi c hc=>by
   have hi:i<as.length:=by rw [W.len,← hl2];exact (aC.mp hc).1
   have:=hA i _ (ay hi);rw [hc] at this;refine ⟨_,ay hi,(aV this).trans ?_⟩
   show (if 2<=2/\(i:Int)∈Y then y else if 1<=2/\(i:Int)∈X then x else as[i])=_
   simp
  refine k as2 H4 ⟨B _ _ W3.ob hpl,g4,hl2,λi c hc=>?_,λc hc=>?_⟩ (λb' o' e hne=>B _ _ (S13 _ _ e) hne)
  ·obtain ⟨c0,h0,ec⟩:=hAt i c hc;rw [ectR]
   by_cases c2:(i:Int)∈Y
   ·rw [if_pos c2] at ec ⊢;rw [ec];exact B _ _ gy hyl
   ·rw [if_neg c2] at ec ⊢
    by_cases c1:(i:Int)∈X
    ·rw [if_pos c1] at ec ⊢;rw [ec];exact B _ _ gx hxl
    ·rw [if_neg c1] at ec ⊢;rw [ec];exact B _ _ (W3.at_ i c0 h0) (W.ne _ (aL h0))
  ·obtain ⟨i,hi⟩:=bx.mp hc;obtain ⟨c0,h0,ec⟩:=hAt i c hi
   by_cases c2:(i:Int)∈Y
   ·rw [if_pos c2] at ec;rw [ec];exact hyl
   ·rw [if_neg c2] at ec
    by_cases c1:(i:Int)∈X
    ·rw [if_pos c1] at ec;rw [ec];exact hxl
    ·rw [if_neg c1] at ec;rw [ec];exact W.ne _ (aL h0)
inductive j5 (K:aa) (C:af) (vs:List V) (H:Hp) (Q:VK) (E:XK):Prop
 | mk (p dx l:af) (n a:Nat) (as:List af) (R:Nat->List Int):vs=[.ref p,.int a]->CT K C->WA C H p dx l n as R->Wd n R->(R a).length<=250->a<n->(∀ q (ks:List Int),H q=none->ks.Pairwise (· < ·)->(∀ x,x∈ks↔x∈R a)->Q (.ref q) (upd H q (.lst (ks.map V.int))))->j5 K C vs H Q E
def BG:Rn (j5 K C) (uc K C (cE K C)) yX:=by
 rintro vs H Q E ⟨p,dx,l,n,a,as,R,rfl,ct,W,D,hn,ha,k⟩;obtain ⟨ra,e1,e2,_⟩:=W.get ha;unfold uc;k_go;refine ⟨p,C,dx,_,_,rfl,W.ob,ct.cl,ct.n,x8 _ _,?_⟩;lk;refine ⟨n,a,rfl,ha,?_⟩;lk;refine Kq ?_;k_go;refine ⟨p,C,dx,_,_,rfl,W.ob,ct.cl,ct.rows,iI _ _,?_⟩;lk;refine lu (c9.of W.rl) (eE (j:=a) rfl (by rw [ax,e1];rfl)) ?_;lk;refine ⟨ra,R a,rfl,c9.of e2,by lia,?_,λq ks hq h1 h2=>k q ks hq h1 h2⟩;obtain ⟨ds,d1,d2,d3⟩:=(D.r a ha).cnt;exact ⟨ds,by lia,λx hx=>(d2 x).mpr hx⟩
inductive jH (K:aa) (C:af) (vs:List V) (H:Hp) (Q:VK) (E:XK):Prop
 | mk (p dx l:af) (n a:Nat) (as:List af) (R:Nat->List Int):vs=[.ref p,.int a]->CT K C->WA C H p dx l n as R->Wd n R->a<n->Q (.int ((((R a).length:Int)+1)/2)) H->jH K C vs H Q E
def Dp:Rn (jH K C) (wo K C (cE K C)) yX:=by
 rintro vs H Q E ⟨p,dx,l,n,a,as,R,rfl,ct,W,D,ha,k⟩;obtain ⟨ra,e1,e2,_⟩:=W.get ha;unfold wo;k_go;refine ⟨p,C,dx,_,_,rfl,W.ob,ct.cl,ct.n,x8 _ _,?_⟩;lk;refine ⟨n,a,rfl,ha,?_⟩;k_go;refine ⟨p,C,dx,_,_,rfl,W.ob,ct.cl,ct.rows,iI _ _,?_⟩;lk;refine lu (c9.of W.rl) (eE (j:=a) rfl (by rw [ax,e1];rfl)) ?_;lk;refine O5 (c9.of e2) ?_;lk;exact k
inductive fP (K:aa) (C:af) (vs:List V) (H:Hp) (Q:VK) (E:XK):Prop
 | mk (n:Nat):vs=[.int n]->1<=n->n<=200->Q (.bl true) H->fP K C vs H Q E
def Ga:Rn (fP K C) (zc K C (jw K C)) yY:=by
 rintro vs H Q E ⟨n,rfl,h1,h2,k⟩;unfold zc;lk;refine ⟨n,rfl,?_⟩;lk;refine lU ?_;lk;refine qf (λh=>?_) λh=>absurd (show (1:Int)<=n by lia) h;lk;rw [show decide ((n:Int)<=200)=true from decide_eq_true (by lia)];exact k
def Top (n:Int) (j:Nat):Prop:=(j=0\/2*(2:Int)^j<=n)/\n<4*(2:Int)^j
def pT (K:aa) (C:af):Sp:=λvs H Q _=>∃ n:Int,vs=[.int n]/\∀ j:Nat,Top n j->Q (.int j) H
def IJ (j:Nat):(0:Int)<2^j:=Int.pow_pos (by decide)
def SB:Rn (pT K C) (Qd K C) ["n","level","needed"]:=by
 rintro vs H Q E ⟨n,rfl,k⟩;unfold Qd;lk;unfold IB;refine vH (λZ H'=>H'=H/\∃ j:Nat,Z=[some (.int n),some (.int j),some (.int (4*2^j))]/\(j=0\/2*(2:Int)^j<=n)) (λZ _=>match Z with|[_,_,some (.int p)]=>(n+1-p).toNat|_=>0) ⟨rfl,0,rfl,.inl rfl⟩ ?_;rintro Z H' ⟨rfl,j,rfl,hj⟩;have hp:=IJ j;lk;refine qf (λh=>⟨_,LN,?_⟩) λh=>?_
 ·lk;refine ⟨⟨rfl,j+1,?_,.inr ?_⟩,?_⟩
  ·have e:(4*2^j*2:Int)=4*2^(j+1):=by rw [CM];lia
   show [some (V.int n),some (V.int ((j:Int)+1)),some (V.int (4*2^j*2))]=_
   rw [e];rfl
  ·rw [CM];lia
  ·show (n+1-4*2^j*2).toNat<(n+1-4*2^j).toNat
   lia
 ·lk;exact k j ⟨hj,by lia⟩
inductive kE (K:aa) (C:af) (vs:List V) (H:Hp) (Q:VK) (E:XK):Prop
 | mk (a b:Nat):vs=[.int a,.int b]->(∀ p,H p=none->Q (.ref p) (upd H p (.tup [.int (min a b:Nat),.int (max a b:Nat)])))->kE K C vs H Q E
def KH:Rn (kE K C) (E1 K C) ["a","b"]:=by
 rintro vs H Q E ⟨a,b,rfl,k⟩;unfold E1;lk;refine qf (λh=>?_) λh=>?_
 ·rw [show min a b=a by lia,show max a b=b by lia] at k;lk;exact ⟨bM (m:=2) (ar 2),k⟩
 ·rw [show min a b=b by lia,show max a b=a by lia] at k;lk;exact ⟨bM (m:=2) (ar 2),k⟩
abbrev pk (x y:Nat):List fT:=[cu (x:Int),cu (y:Int)]
inductive m7 (K:aa) (C:af) (vs:List V) (H:Hp) (Q:VK) (E:XK):Prop
 | mk (n a b:Nat) (d:af) (kvs:List (List fT×V)):vs=[.int n,.ref d,.int a,.int b]->a<n->b<n->a≠b->H d=some (.dT kvs)->gQ kvs (pk (min a b) (max a b))=none->(∀ p,H p=none->Q (.ref p) (upd H p (.tup [.int (min a b:Nat),.int (max a b:Nat)])))->m7 K C vs H Q E
def IK:Rn (m7 K C) (BB K C (bW K C) (kE K C)) Mg:=by
 rintro vs H Q E ⟨n,a,b,d,kvs,rfl,ha,hb,hab,hd,hk,k⟩;unfold BB;lk;refine ⟨n,a,b,rfl,ha,hb,hab,?_⟩;lk;refine ⟨a,b,rfl,λp hp=>?_⟩;lk
 have gd:(upd H p (.tup [.int (min a b:Nat),.int (max a b:Nat)])) d=some (.dT kvs):=by rw [aH (aP hd hp)];exact hd
 refine .inr ⟨d,_,rfl,oh.t (k:=pk (min a b) (max a b)) gd aE,?_⟩;rw [hk];lk;rw [if_neg (by simp)];lk;exact k p hp
inductive eh (K:aa) (C:af) (vs:List V) (H:Hp) (Q:VK) (E:XK):Prop
 | mk (n a b:Nat) (d:af) (kvs:List (List fT×V)):vs=[.int n,.ref d,.int a,.int b]->a<n->b<n->a≠b->H d=some (.dT kvs)->(gQ kvs (pk (min a b) (max a b))).isSome=true->(∀ p,H p=none->Q (.ref p) (upd H p (.tup [.int (min a b:Nat),.int (max a b:Nat)])))->eh K C vs H Q E
def x9:Rn (eh K C) (qi K C (bW K C) (kE K C)) Mg:=by
 rintro vs H Q E ⟨n,a,b,d,kvs,rfl,ha,hb,hab,hd,hk,k⟩;unfold qi;lk;refine ⟨n,a,b,rfl,ha,hb,hab,?_⟩;lk;refine ⟨a,b,rfl,λp hp=>?_⟩;lk
 have gd:(upd H p (.tup [.int (min a b:Nat),.int (max a b:Nat)])) d=some (.dT kvs):=by rw [aH (aP hd hp)];exact hd
 refine .inr ⟨d,_,rfl,oh.t (k:=pk (min a b) (max a b)) gd aE,?_⟩;rw [hk];lk;refine iQ ?_;lk;exact k p hp
def kf (f:Ti->V) (ts:List Ti):List (List fT×V):=ts.map λt=>(pk t.x t.y,f t)
abbrev kl:List Ti->List (List fT×V):=kf λt=>.int t.cm
abbrev kw:List Ti->List (List fT×V):=kf λt=>.bl t.wd
abbrev kv:List Ti->List (List fT×V):=kf λ_=>.int 0
def BH {x y u v:Nat}:pk x y=pk u v↔((x:Int),(y:Int))=((u:Int),(v:Int)):=by
 constructor
 ·intro h;obtain ⟨h1,h2⟩:=kb h;rw [Au h1,Au (kb h2).1]
 ·intro h;obtain ⟨h1,h2⟩:=cB h
  show [cu (x:Int),cu (y:Int)]=_
  rw [h1,h2]
section
variable {f:Ti->V}{g:Ti->Ti}{t:Ti}
def hJ (hn:(ts.map Ti.key).Nodup) (ht:t∈ts):gQ (kf f ts) (pk t.x t.y)=some (f t):=by
 induction ts with
 | nil=>nomatch ht
 | cons s ts ih =>
  rw [bU,bp] at hn
  by_cases e:pk s.x s.y=pk t.x t.y
  ·have:s=t:=by
    rcases av.mp ht with q|q
    ·exact q.symm
    ·have e':t.key=s.key:=(BH.mp e).symm;exact absurd (e'▸bq q) hn.1
   subst this;exact iG (p:=(pk s.x s.y,f s)) rfl
  ·refine (h8 (p:=(pk s.x s.y,f s)) e).trans (ih hn.2 ?_);exact (av.mp ht).resolve_left λq=>e (q▸rfl)
def sQ {x y:Nat}(h:((x:Int),(y:Int))∉ts.map Ti.key):gQ (kf f ts) (pk x y)=none:=by
 induction ts with
 | nil=>rfl
 | cons s ts ih =>
  rw [bU,av] at h;exact (h8 (p:=(pk s.x s.y,f s)) λe=>h (.inl (BH.mp e).symm)).trans (ih λq=>h (.inr q))
def Ql (hn:(ts.map Ti.key).Nodup) (ht:t∈ts) (hg:∀ t,(g t).key=t.key):nr (kf f ts) (pk t.x t.y) (f (g t))=kf f (ia ts t.key g):=by
 unfold nr
 have hm:((kf f ts).any λkv=>decide (kv.1=pk t.x t.y))=true:=by rw [mW,hJ hn ht];rfl
 rw [if_pos hm];unfold kf ia;rw [bK,bK];refine kJ λu hu=>?_
 show (if pk u.x u.y=pk t.x t.y then (pk u.x u.y,f (g t)) else (pk u.x u.y,f u))=(pk (if u.key=t.key then g u else u).x (if u.key=t.key then g u else u).y,f (if u.key=t.key then g u else u))
 by_cases c:u.key=t.key
 ·rw [if_pos c,if_pos (BH.mpr c),n5 hn hu ht c];obtain ⟨e1,e2⟩:=Ti.QX (hg t);rw [e1,e2]
 ·rw [if_neg c,if_neg λe=>c (BH.mp e)]
def Aq (hg:∀ t,(g t).key=t.key) (hf:∀ t,f (g t)=f t) (k:Int×Int):kf f (ia ts k g)=kf f ts:=by
 unfold kf ia;rw [bK];refine kJ λu hu=>?_
 show (pk (if u.key=k then g u else u).x (if u.key=k then g u else u).y,f (if u.key=k then g u else u))=_
 by_cases c:u.key=k
 ·obtain ⟨e1,e2⟩:=Ti.QX (hg u);rw [if_pos c,e1,e2,hf]
 ·rw [if_neg c]
def Ar:nE (kf f ts) (pk t.x t.y)=kf f (ts.filter λu=>decide (u.key≠t.key)):=by
 unfold nE kf;rw [tS]
 congr 1
 refine List.filter_congr λu _=>?_;exact decide_eq_decide.mpr (not_congr BH)
def kU:(kf f ts).length=ts.length:=ag _
end
abbrev qD (Pt:af) (H:Hp):Prop:=qE Pt ⟨119,28,119,61⟩ ((("in_order":bh)++".<locals>.")++"<lambda>") H
inductive lX (K:aa) (C:af) (Pt:af) (vs:List V) (H:Hp) (Q:VK) (E:XK):Prop
 | mk (p d:af) (zs:List Zn) (N6:List (List fT×V)):vs=[.ref p,.ref d]->H p=some (.lst (zs.map lF))->H d=some (.dT N6)->(∀ z∈zs,∃ w x y:Int,z.1=[w,x,y]/\H z.2=some (.tup [.int x,.int y])/\gQ N6 [cu x,cu y]=some (.int w))->zs.length<99->qD Pt H->(∀ (l:af) (zs':List Zn) (H2:Hp),H2 l=none->pC Pt H H2->qD Pt H2->zs'.Perm zs->Q (.ref l) (upd H2 l (.lst (zs'.map lF))))->lX K C Pt vs H Q E
def Gb:Rn (lX K C Pt) (nM K C Pt) ET:=by
 rintro vs H Q E ⟨p,d,zs,N6,rfl,hp,hd,hkv,hl,hT,k⟩;unfold nM;lk;unfold Ko;lk;exact ⟨p,d,zs,N6,rfl,hp,rfl,hd,hkv,by lia,hT,λl zs' H2 h1 h2 h3 h4 _=>k l zs' H2 h1 h2 h3 h4⟩
def ew (x y:Int) (S:List Int):Nat:=(if x∈S then 1 else 0)+(if y∈S then 1 else 0)
def any_ints (S:List Int) (x:Int):((S.map PyData.int).any λe=>dY e (.int x))=decide (x∈S):=by
 rw [List.any_map,jr,CV,decide_eq_true_iff]
 constructor
 ·rintro ⟨y,hy,e⟩
  have:y=x:=by simpa [dY] using e
  exact this▸hy
 ·intro h;exact ⟨x,h,by simp [dY]⟩
inductive dr (K:aa) (C:af) (vs:List V) (H:Hp) (Q:VK) (E:XK):Prop
 | mk (t s:af) (x y:Int) (S:List Int):vs=[.ref t,.ref s]->H t=some (.tup [.int x,.int y])->H s=some (.lst (S.map V.int))->(∀ H',bL H H'->Q (.int (ew x y S)) H')->dr K C vs H Q E
def zN:Rn (dr K C) (rF K C) Mm:=by
 rintro vs H Q E ⟨t,s,x,y,S,rfl,ht,hs,k⟩;unfold rF;lk;refine .inr (.inl ⟨⟨_,ku.of ht⟩,λacc hacc=>?_⟩);refine mw (n:=2) (λi ys H'=>ys=(([x,y].take i).filter λz=>decide (z∈S)).map V.int/\H' acc=some (.lst ys)/\bL H H') (λZ=>∃ o,Z=[o,some (.ref s)]) ⟨by simp,aE,bL.cD hacc⟩ ⟨_,rfl⟩ ?_ ?_ ?_ ?_
 ·rintro i ys H' ⟨_,h,_⟩;exact h
 ·rintro ys H' ⟨rfl,h,S'⟩;refine ⟨⟨_,S'.Wt (ku.of ht),ar _⟩,?_⟩;lk;refine pP (c9.of h) ?_
  have e:((([x,y].take 2).filter λz=>decide (z∈S)).map V.int).length=ew x y S:=by
   unfold ew
   by_cases c1:x∈S<;>by_cases c2:y∈S<;>simp [c1,c2]
  rw [e];exact k H' S'
 ·rintro i ys H' hi ⟨e,h,S'⟩;exact ⟨_,_,S'.Wt (ku.of ht),ay hi⟩
 ·rintro i ys σ' H' v H2 hi ⟨rfl,h,S'⟩ ⟨o,rfl⟩ ⟨e2,hx⟩;subst e2;have hxi:=hx _ (S'.Wt (ku.of ht))
  obtain ⟨a,ha⟩:∃ a,[x,y][i]?=some a:=⟨_,ay (by simpa using hi)⟩
  have et:[x,y].take (i+1)=[x,y].take i++[a]:=by rw [dI,ha];rfl
  have ev:v=.int a:=by
   have:([x,y].map V.int)[i]?=some v:=hxi;rw [ax,ha] at this;exact (aV this).symm
  subst ev;lk;refine XQ (Rep.int a) (O1 (c9.of (S' _ _ hs))) ⟨rfl,by simp [qN]⟩ (iS _ (uQ S)) ?_;rw [any_ints];lk;refine qf (λc=>?_) λc=>?_
  ·lk;refine ⟨h,dU (m:=10) (by rw [ag];exact bw (cT _ _) (by rw [bB];lia)),kF.mk' hi ⟨_,rfl⟩ ⟨?_,aE,λb o q=>by rw [aH (aP q hacc)];exact S' _ _ q⟩⟩;rw [et,dv,aU];simp [c]
  ·refine kF.mk' hi ⟨_,rfl⟩ ⟨?_,h,S'⟩;rw [et,dv,aU];simp [c]
inductive jI (K:aa) (C:af) (vs:List V) (H:Hp) (Q:VK) (E:XK):Prop
 | mk (n:Int) (p q:af) (x y l:Int) (b:Bool):vs=[.int n,.ref p]->H p=some (.lst [.ref q])->H q=some (.tup [.int x,.int y,.int l,.bl b])->(∀ (c:Int) H',bL H H'->Q (.int c) H')->jI K C vs H Q E
def KI:Rn (jI K C) (E3 K C (pT K C)) ["n","ties"]:=by
 rintro vs H Q E ⟨n,p,q,x,y,l,b,rfl,hp,hq,k⟩;unfold E3;lk;refine .inl ⟨⟨_,c9.of hp⟩,λacc hacc=>?_⟩;refine O6 (λi y _=>∃ c:Int,y=.int c) (λZ=>∃ o o1 o2 o3,Z=[o,o1,o2,o3,some (.int n)]) (c9.of hp) hacc ⟨_,_,_,_,rfl⟩ (by simp) (λi y H2 H3 ws _ _ e=>e) (λi v σ' H2 G hi hx S2 hS done=>?_) λys H2 hly gy S2 hE=>?_
 ·obtain ⟨o,o1,o2,o3,rfl⟩:=hS
  have ev:v=.ref q:=by
   match i,hx with
   | 0,hx=>exact (aV hx).symm
  subst ev;refine xP (.of (S2 _ _ hq)) rfl ?_;lk;refine ⟨n,rfl,λj hj=>?_⟩;lk;exact done _ _ _ ⟨_,_,_,_,rfl⟩ (λ_ _ e=>e) ⟨_,rfl⟩
 ·have ⟨cs,ec⟩:∃ cs:List Int,ys=cs.map V.int:=by
   match ys,hly with
   | [v],_ =>
    obtain ⟨c,rfl⟩:=hE 0 v rfl;exact ⟨[c],rfl⟩
  subst ec;lk;exact ⟨acc,cs,rfl,c9.of gy,k _ H2 S2⟩
structure Tt where
 (p s q:af) (lv:Int) (xs:List V) (f:V)
def qC (t:Tt):V:=.ref t.p
def Eg (H:Hp) (t:Tt):Prop:=H t.p=some (.tup [.int t.lv,.ref t.s,.ref t.q,t.f])/\H t.q=some (.lst t.xs)
def Eg.same {t:Tt}(h:Eg H t) (S:bL H H'):Eg H' t:=⟨S _ _ h.1,S _ _ h.2⟩
inductive iH (K:aa) (C:af) (vs:List V) (H:Hp) (Q:VK) (E:XK):Prop
 | mk (a:af) (ts:List Tt):vs=[.ref a]->H a=some (.lst (ts.map qC))->(∀ t∈ts,Eg H t)->ts.length<=1000->(∀ (c:Int) H',bL H H'->Q (.int c) H')->iH K C vs H Q E
def Nn:Rn (iH K C) (IC K C) ["trail"]:=by
 rintro vs H Q E ⟨a,ts,rfl,ha,hR,hl,q⟩;unfold IC;lk;refine .inl ⟨⟨_,c9.of ha⟩,λacc hacc=>?_⟩;refine vJ (K:=K) (z:=a) (xs:=ts.map qC) ts (λ_=>true) (λt=>.int (t.xs.length:Int)) (λZ=>∃ o o1 o2 o3,Z=[o,o1,o2,o3]) (by simp) (c9.of ha) hacc ⟨_,_,_,_,rfl⟩ (by rw [ag];lia) ?_ ?_
 ·rintro i t x σ' H' G G' ht hx S' ⟨o,o1,o2,o3,rfl⟩ g1 g2
  have ex:x=qC t:=by rw [ax,ht] at hx;exact (aV hx).symm
  subst ex;have ok:=(hR t (aL ht)).same S';refine xP (.of ok.1) rfl ?_;lk;refine lU ?_;lk;refine pP (c9.of ok.2) ?_;exact g1 rfl _ ⟨_,_,_,_,rfl⟩
 ·rintro H' S' hH;lk
  have e:(ts.filter λ_=>true).map (λt=>V.int (t.xs.length:Int))=(ts.map λt=>(t.xs.length:Int)).map V.int:=by rw [bK,xE.mpr (λ_ _=>rfl)];rfl
  rw [e] at hH;exact ⟨acc,_,rfl,c9.of hH,q _ H' S'⟩
inductive kT (K:aa) (C:af) (vs:List V) (H:Hp) (Q:VK) (E:XK):Prop
 | mk (a:af) (ts:List Tt):vs=[.ref a]->H a=some (.lst (ts.map qC))->(∀ t∈ts,Eg H t)->ts.length<=1000->(∀ (c:Int) H',bL H H'->Q (.int c) H')->kT K C vs H Q E
def Np:Rn (kT K C) (ID K C (iH K C)) ["trail","finds"]:=by
 rintro vs H Q E ⟨a,ts,rfl,ha,hR,hl,q⟩;unfold ID;lk;refine .inl ⟨⟨_,c9.of ha⟩,λacc hacc=>?_⟩;refine vJ (K:=K) (z:=a) (xs:=ts.map qC) ts (λt=>!decide (t.f=.non)) (λt=>t.f) (λZ=>∃ o o1 o2 o3,Z=[o,o1,o2,o3]) (by simp) (c9.of ha) hacc ⟨_,_,_,_,rfl⟩ (by rw [ag];lia) ?_ ?_
 ·rintro i t x σ' H' G G' ht hx S' ⟨o,o1,o2,o3,rfl⟩ g1 g2
  have ex:x=qC t:=by rw [ax,ht] at hx;exact (aV hx).symm
  subst ex;have ok:=(hR t (aL ht)).same S';refine xP (.of ok.1) rfl ?_;lk
  cases hf:(!decide (t.f=V.non)) with
  | true =>
   refine lU ?_;lk
   exact g1 hf _ ⟨_,_,_,_,rfl⟩
  | false =>
   refine iQ ?_;exact g2 hf _ ⟨_,_,_,_,rfl⟩
 ·rintro H' S' hH;lk;refine ⟨_,.inl ⟨_,c9.of hH,rfl⟩,?_⟩;generalize (!((ts.filter λt=>!decide (t.f=V.non)).map λt=>t.f).isEmpty)=bb
  cases bb with
  | true =>
   refine lU ?_;lk;refine ⟨a,ts,rfl,S' _ _ ha,λt ht=>(hR t ht).same S',hl,λc H2 S2=>?_⟩;lk
   exact q _ _ (S'.trans S2)
  | false =>
   refine iQ ?_;lk;exact ⟨a,ts,rfl,S' _ _ ha,λt ht=>(hR t ht).same S',hl,λc H2 S2=>q _ _ (S'.trans S2)⟩
def dX {f g:bh}{v x:V}{r:List (bh×V)}(h:¬ g=f):dP f v ((g,x)::r)=(g,x)::dP f v r:=by show (if g=f then _ else _)=_;rw [if_neg h]
def wz {f:bh}{v x:V}{r:List (bh×V)}:dP f v ((f,x)::r)=(f,v)::r:=by show (if f=f then _ else _)=_;rw [if_pos rfl]
def uf {f:bh}{x:V}{r:List (bh×V)}:dF f ((f,x)::r)=some x:=by rw [cG,beq_self_eq_true]
def fw {f g:bh}{x:V}{r:List (bh×V)}(h:¬ g=f):dF g ((f,x)::r)=dF g r:=by
 rw [cG]
 have:(g == f)=false:=by simpa using h
 rw [this]
structure Dq (K:aa) (C:af) (A:CA):Prop where
 w:CT K C
 lc:CO K A.bE
 l1:dE K A.bE "level_of"
 l2:dE K A.bE "wooden"
 l3:dE K A.bE "weight_of"
 l4:dE K A.bE "woods"
 kc:CO K A.Keeper
 k1:dE K A.Keeper "n"
 k2:dE K A.Keeper "levels"
 k3:dE K A.Keeper "wood"
 k4:dE K A.Keeper "came"
 k5:dE K A.Keeper "looked"
 k6:dE K A.Keeper "risen"
 k7:dE K A.Keeper "lost"
def fL (d1 d2 d3 L:af):List (bh×V):=[("level_of",.ref d1),("wooden",.ref d2),("weight_of",.ref d3),("woods",.ref L)]
def N5 {d1 d2 d3 L:af}:(fL d1 d2 d3 L).lookup ("level_of":bh)=some (.ref d1):=uf
def SC {d1 d2 d3 L:af}:(fL d1 d2 d3 L).lookup ("wooden":bh)=some (.ref d2):=by unfold fL;rw [fw (by decide +kernel)];exact uf
def fL3 {d1 d2 d3 L:af}:(fL d1 d2 d3 L).lookup ("weight_of":bh)=some (.ref d3):=by unfold fL;rw [fw (by decide +kernel),fw (by decide +kernel)];exact uf
def Ul {d1 d2 d3 L:af}:(fL d1 d2 d3 L).lookup ("woods":bh)=some (.ref L):=by unfold fL;rw [fw (by decide +kernel),fw (by decide +kernel),fw (by decide +kernel)];exact uf
def Um {d1 d2 d3 L:af}{m:bh}(h1:¬ m="level_of":=by decide +kernel) (h2:¬ m="wooden":=by decide +kernel) (h3:¬ m="weight_of":=by decide +kernel) (h4:¬ m="woods":=by decide +kernel):(fL d1 d2 d3 L).lookup m=none:=by unfold fL;rw [fw h1,fw h2,fw h3,fw h4];rfl
structure AL where
 (q dq d1 d2 d3 L:af) (ws:List (af×af×af))
variable {a:AL}
def fp (a:AL):List af:=a.d1::a.d2::a.d3::a.ws.map (·.2.2)
def Fm (X:List af) (H H':Hp):Prop:=∀ b o,b∉X->H b=some o->H' b=some o
def Fm.refl {X:List af}:Fm X H H:=λ_ _ _ e=>e
def Fm.trans {X:List af}{H1 H2:Hp}(x:Fm X H H1) (y:Fm X H1 H2):Fm X H H2:=λb o h e=>y b o h (x b o h e)
def Fm.of {X:List af}(S:bL H H'):Fm X H H':=λb o _ e=>S b o e
def Fm.but {X:List af}{c:af}(hc:c∈X) (S:a8 c H H'):Fm X H H':=λb o h e=>S b o e λz=>h (z▸hc)
def Fm.upd {X:List af}{c:af}{o:HO}(hc:c∈X):Fm X H (upd H c o):=Fm.but hc a8.upd
def Fm.mono {X Y:List af}(S:Fm X H H') (h:∀ b∈X,b∈Y):Fm Y H H':=λb o hb e=>S b o (λz=>hb (h b z)) e
def Fm.tail {X:List af}{c:af}(S:Fm X H H'):Fm (c::X) H H':=S.mono λ_=>aj _
def Fm.free {X:List af}(S:Fm X H H') {b:af}(h:b∉X) (e:H' b=none):H b=none:=by
 cases z:H b with
 | none=>rfl
 | some o=>rw [S b o h z] at e;cases e
structure LV (C:af) (A:CA) (H:Hp) (a:AL) (n T:Nat) (ts:List Ti) (as:Nat->List af) (R:Nat->Nat->List Int):Prop where
 ob:H a.q=some (.ins A.bE a.dq (fL a.d1 a.d2 a.d3 a.L))
 e1:H a.d1=some (.dT (kl ts))
 e2:H a.d2=some (.dT (kw ts))
 e3:H a.d3=some (.dT (kv ts))
 ls:H a.L=some (.lst (a.ws.map λw=>.ref w.1))
 len:a.ws.length=T+1
 wa:∀ (i:Nat) w,a.ws[i]?=some w->WA C H w.1 w.2.1 w.2.2 n (as i) (R i)
 wd:∀ i,i<=T->Wd n (R i)
 n1:1<=n
 ND:a.d1≠a.d2
 QU:a.d1≠a.d3
 Rg:a.d2≠a.d3
 nl:(a.ws.map (·.2.2)).Nodup
 nL:∀ w∈a.ws,a.L≠w.2.2
section
variable {ts':List Ti}
def LV.at (h:LV C A H a n T ts as R) {w:af×af×af}(hw:w∈a.ws):∃ i,i<=T/\a.ws[i]?=some w:=by
 obtain ⟨i,hi⟩:=bx.mp hw;have:=(aC.mp hi).1;rw [h.len] at this;exact ⟨i,by lia,hi⟩
def LV.get (h:LV C A H a n T ts as R) {i:Nat}(hi:i<=T):∃ w,a.ws[i]?=some w/\w∈a.ws:=by
 have hl:i<a.ws.length:=by rw [h.len];lia
 exact ⟨_,ay hl,gZ hl⟩
def LV.rows (h:LV C A H a n T ts as R) {w:af×af×af}(hw:w∈a.ws):∃ bs:List af,bs.length=n/\H w.2.2=some (.lst (bs.map V.ref)):=by
 obtain ⟨i,_,hi⟩:=h.at hw;exact ⟨_,(h.wa i w hi).len,(h.wa i w hi).rl⟩
def LV.kind (h:LV C A H a n T ts as R) {b:af}(hb:b∈fp a):(∃ ks,H b=some (.dT ks))\/∃ bs:List af,bs.length=n/\H b=some (.lst (bs.map V.ref)):=by
 unfold fp at hb;simp only [av,a6] at hb
 rcases hb with rfl|rfl|rfl|⟨w,hw,rfl⟩
 ·exact .inl ⟨_,h.e1⟩
 ·exact .inl ⟨_,h.e2⟩
 ·exact .inl ⟨_,h.e3⟩
 ·exact .inr (h.rows hw)
def LV.out (h:LV C A H a n T ts as R) {b:af}{o:HO}(e:H b=some o) (h1:∀ ks,o≠.dT ks) (h2:∀ bs:List af,bs.length=n->o≠.lst (bs.map V.ref)):b∉fp a:=λhb=>by
 rcases h.kind hb with ⟨ks,q⟩|⟨bs,hl,q⟩
 ·rw [e] at q;exact h1 ks (aV q)
 ·rw [e] at q;exact h2 bs hl (aV q)
def LV.vh (h:LV C A H a n T ts as R) {b:af}{xs:List V}(e:H b=some (.tup xs)):b∉fp a:=h.out e (λ_ z=>nomatch z) (λ_ _ z=>nomatch z)
def LV.outI (h:LV C A H a n T ts as R) {b x y:af}{fs:List (bh×V)}(e:H b=some (.ins x y fs)):b∉fp a:=h.out e (λ_ z=>nomatch z) (λ_ _ z=>nomatch z)
def LV.Wm (h:LV C A H a n T ts as R) {b:af}{r:List Int}(e:H b=some (.lst (r.map V.int))):b∉fp a:=h.out e (λ_ z=>nomatch z) λbs hl z=>by
 have n1:=h.n1
 injection z with z
 match r,bs,hl with
 | [],c::bs,_=>cases z
 | x::r,c::bs,_=>cases (kb z).1
 | x::r,[],_=>cases z
 | [],[],hl=>rw [← hl] at n1;cases n1
def LV.tG (h:LV C A H a n T ts as R) {b:af}(e:H b=none):b∉fp a:=λhb=>by
 rcases h.kind hb with ⟨ks,q⟩|⟨bs,hl,q⟩<;>rw [e] at q<;>cases q
def LV.keep (h:LV C A H a n T ts as R) {X:List af}(S:Fm X H H') (hq:∀ x fs,H x=some fs->(∃ c d f,fs=.ins c d f/\f≠[])->(x=a.q\/∃ w∈a.ws,x=w.1)->x∉X) (hd:∀ b∈fp a,b∉X) (hL:a.L∉X) (hr:∀ (b:af) (r:List Int),r≠[]->H b=some (.lst (r.map V.int))->b∉X):LV C A H' a n T ts as R:=by
 have m1:a.d1∈fp a:=aw;have m2:a.d2∈fp a:=aj _ aw;have m3:a.d3∈fp a:=aj _ (aj _ aw);refine ⟨S _ _ (hq _ _ h.ob ⟨_,_,_,rfl,by simp [fL]⟩ (.inl rfl)) h.ob,S _ _ (hd _ m1) h.e1,S _ _ (hd _ m2) h.e2,S _ _ (hd _ m3) h.e3,S _ _ hL h.ls,h.len,λi w hw=>?_,h.wd,h.n1,h.ND,h.QU,h.Rg,h.nl,h.nL⟩;have hm:=aL hw;have W:=h.wa i w hw
 have hi:i<=T:=by have:=(aC.mp hw).1;rw [h.len] at this;lia
 refine ⟨S _ _ (hq _ _ W.ob ⟨_,_,_,rfl,?_⟩ (.inr ⟨w,hm,rfl⟩)) W.ob,S _ _ (hd _ ?_) W.rl,W.len,λj c hc=>?_,W.ne⟩
 ·intro z;have:=x8 n w.2.2;rw [z] at this;cases this
 ·exact aj _ (aj _ (aj _ (bq hm)))
 ·have hj:j<n:=by rw [← W.len];exact (aC.mp hc).1
  exact S _ _ (hr _ _ ((h.wd i hi).r j hj).ne (W.at_ j c hc)) (W.at_ j c hc)
def LV.same (h:LV C A H a n T ts as R) (S:bL H H'):LV C A H' a n T ts as R:=h.keep (X:=[]) (λb o _ e=>S b o e) (λ_ _ _ _ _=>dg) (λ_ _=>dg) dg λ_ _ _ _=>dg
def LV.sets (h:LV C A H a n T ts as R) (B:Fm [a.d1,a.d2,a.d3] H H') (e1:H' a.d1=some (.dT (kl ts'))) (e2:H' a.d2=some (.dT (kw ts'))) (e3:H' a.d3=some (.dT (kv ts'))):LV C A H' a n T ts' as R:=by
 have ne:∀ {b:af}{o:HO},H b=some o->(∀ ks,o≠.dT ks)->H' b=some o:=λ{b o} e q=>B _ _ (λhb=>by
  simp only [av,dg,or_false] at hb
  rcases hb with rfl|rfl|rfl
  ·rw [h.e1] at e;cases e;exact q _ rfl
  ·rw [h.e2] at e;cases e;exact q _ rfl
  ·rw [h.e3] at e;cases e;exact q _ rfl) e
 exact ⟨ne h.ob (λ_ z=>nomatch z),e1,e2,e3,ne h.ls (λ_ z=>nomatch z),h.len,λi w hw=>⟨ne (h.wa i w hw).ob (λ_ z=>nomatch z),ne (h.wa i w hw).rl (λ_ z=>nomatch z),(h.wa i w hw).len,λj c hc=>ne ((h.wa i w hw).at_ j c hc) (λ_ z=>nomatch z),(h.wa i w hw).ne⟩,h.wd,h.n1,h.ND,h.QU,h.Rg,h.nl,h.nL⟩
def LV.set1 (h:LV C A H a n T ts as R) (e2:kw ts'=kw ts) (e3:kv ts'=kv ts):LV C A (upd H a.d1 (.dT (kl ts'))) a n T ts' as R :=
 h.sets (Fm.upd aw) aE (by rw [aH h.ND.symm,e2];exact h.e2) (by rw [aH h.QU.symm,e3];exact h.e3)
def LV.set2 (h:LV C A H a n T ts as R) (e1:kl ts'=kl ts) (e3:kv ts'=kv ts):LV C A (upd H a.d2 (.dT (kw ts'))) a n T ts' as R :=
 h.sets (Fm.upd (aj _ aw)) (by rw [aH h.ND,e1];exact h.e1) aE (by rw [aH h.Rg.symm,e3];exact h.e3)
def LV.YM (h:LV C A H a n T ts as R) {i:Nat}{w:af×af×af}{bs:List af}{R1:Nat->List Int}(hw:a.ws[i]?=some w) (W:WA C H' w.1 w.2.1 w.2.2 n bs R1) (D:Wd n R1) (B:a8 w.2.2 H H') :
  LV C A H' a n T ts (λj=>if j=i then bs else as j) (λj=>if j=i then R1 else R j):=by
 have hm:=aL hw;obtain ⟨cs,hcl,hcs⟩:=h.rows hm
 have nt:∀ {b:af}{o:HO},H b=some o->(∀ xs,o≠.lst xs)->H' b=some o:=λ{b o} e q=>B _ _ e λz=>by rw [z,hcs] at e;cases e;exact q _ rfl
 refine ⟨nt h.ob (λ_ z=>nomatch z),nt h.e1 (λ_ z=>nomatch z),nt h.e2 (λ_ z=>nomatch z),nt h.e3 (λ_ z=>nomatch z),B _ _ h.ls (h.nL w hm),h.len,λj v hv=>?_,λj hj=>?_,h.n1,h.ND,h.QU,h.Rg,h.nl,h.nL⟩
 ·by_cases c:j=i
  ·subst c;rw [hw] at hv;cases hv;simp only [if_pos];exact W
  ·simp only [if_neg c];have V:=h.wa j v hv
   have hjT:j<=T:=by have:=(aC.mp hv).1;rw [h.len] at this;lia
   have nvl:v.2.2≠w.2.2:=λe=>c ((List.getElem?_inj (by rw [ag];exact (aC.mp hv).1) h.nl).mp (by rw [ax,ax,hv,hw];simp [e]));refine ⟨nt V.ob (λ_ z=>nomatch z),B _ _ V.rl nvl,V.len,λx b hb=>B _ _ (V.at_ x b hb) λz=>?_,V.ne⟩
   have hx:x<n:=by rw [← V.len];exact (aC.mp hb).1
   have e:=V.at_ x b hb;rw [z] at e;exact h.Wm e (aj _ (aj _ (aj _ (bq hm))))
 ·by_cases c:j=i
  ·simp only [if_pos c];exact D
  ·simp only [if_neg c];exact h.wd j hj
end
inductive dt (K:aa) (C:af) (A:CA) (vs:List V) (H:Hp) (Q:VK) (E:XK):Prop
 | mk (q dq d1 d2 d3 L t:af) (kl kw:List (List fT×V)) (x y:Int) (v1 v2:V):vs=[.ref q,.ref t]->Dq K C A->H q=some (.ins A.bE dq (fL d1 d2 d3 L))->Rd H d1 (.dT kl)->Rd H d2 (.dT kw)->H t=some (.tup [.int x,.int y])->gQ kl [cu x,cu y]=some v1->gQ kw [cu x,cu y]=some v2->(∀ p,H p=none->Q (.ref p) (upd H p (.tup [.int x,.int y,v1,v2])))->dt K C A vs H Q E
def zO:Rn (dt K C A) (rQ K C A) vR:=by
 rintro vs H Q E ⟨q,dq,d1,d2,d3,L,t,kl,kw,x,y,v1,v2,rfl,ct,hq,r1,r2,ht,h1,h2,k⟩;unfold rQ;lk;refine fO (ku.of ht) (eE (j:=0) rfl rfl) ?_;lk;refine fO (ku.of ht) (eE (j:=1) rfl rfl) ?_;k_go;refine ⟨q,A.bE,dq,_,_,rfl,hq,ct.lc,ct.l1,N5,?_⟩;lk;refine .inr ⟨d1,v1,rfl,.inr ⟨kl,[cu x,cu y],t,r1,rfl,ht,h1.symm⟩,?_⟩;k_go;refine ⟨q,A.bE,dq,_,_,rfl,hq,ct.lc,ct.l2,SC,?_⟩;lk;refine .inr ⟨d2,v2,rfl,.inr ⟨kw,[cu x,cu y],t,r2,rfl,ht,h2.symm⟩,?_⟩;lk;exact ⟨bM (m:=4) (ar 4),k⟩
def fp1:a.d1∈fp a:=aw
def fp2:a.d2∈fp a:=aj _ aw
def fp3:a.d3∈fp a:=aj _ (aj _ aw)
def fpw {w:af×af×af}(h:w∈a.ws):w.2.2∈fp a:=aj _ (aj _ (aj _ (bq h)))
def Qm {k:Int×Int}:kl (ia ts k Ti.vg)=kl ts:=Aq (g:=Ti.vg) (λ_=>rfl) (λ_=>rfl) k
def V9 {k:Int×Int}:kv (ia ts k Ti.vg)=kv ts:=Aq (g:=Ti.vg) (λ_=>rfl) (λ_=>rfl) k
def Uo {k:Int×Int}:kw (ia ts k Ti.up)=kw ts:=Aq (g:=Ti.up) (λ_=>rfl) (λ_=>rfl) k
def Yn {k:Int×Int}:kv (ia ts k Ti.up)=kv ts:=Aq (g:=Ti.up) (λ_=>rfl) (λ_=>rfl) k
def LV.cast {R':Nat->Nat->List Int}(h:LV C A H a n T ts as R) (e:∀ j,R j=R' j):LV C A H a n T ts as R':=(funext e:R=R')▸h
structure Up (C:af) (A:CA) (a:AL) (n T:Nat) (ts:List Ti) (R:Nat->Nat->List Int) (f:(Nat->List Int)->Nat->List Int) (H:Hp) (i:Nat) (H1:Hp):Prop where
 ex:∃ as R',LV C A H1 a n T ts as R'/\∀ j,R' j=if j<i then f (R j) else R j
 fm:Fm (fp a) H H1
def Up.step {R':Nat->Nat->List Int}{f:(Nat->List Int)->Nat->List Int}{H1 H2:Hp}{i:Nat}{w:af×af×af}{bs:List af}(L:LV C A H1 a n T ts as R') (e:∀ j,R' j=if j<i then f (R j) else R j) (F:Fm (fp a) H H1)
  (hw:a.ws[i]?=some w) (W:WA C H2 w.1 w.2.1 w.2.2 n bs (f (R' i))) (D:Wd n (f (R' i))) (B:a8 w.2.2 H1 H2):Up C A a n T ts R f H (i+1) H2:=by
 refine ⟨⟨_,_,L.YM hw W D B,λj=>?_⟩,F.trans (Fm.but (fpw (aL hw)) B)⟩
 have ei:R' i=R i:=by rw [e,if_neg (eL i)]
 by_cases c:j=i
 ·subst c;rw [if_pos rfl,if_pos (ja j),ei]
 ·rw [if_neg c,e]
  by_cases d:j<i
  ·rw [if_pos d,if_pos (by lia)]
  ·rw [if_neg d,if_neg (by lia)]
inductive cp (K:aa) (C:af) (A:CA) (vs:List V) (H:Hp) (Q:VK) (E:XK):Prop
 | mk (a:AL) (n T:Nat) (ts:List Ti) (as:Nat->List af) (R:Nat->Nat->List Int) (t:af) (u:Ti):vs=[.ref a.q,.ref t]->Dq K C A->LV C A H a n T ts as R->n<=200->u∈ts->(ts.map Ti.key).Nodup->u.x<n->u.y<n->u.cm<=T->(∀ i,i<=u.cm->(u.y:Int)∉R i u.x)->H t=some (.tup [.int u.x,.int u.y])->ts.length<100->(∀ as' H',LV C A H' a n T (ia ts u.key Ti.vg) as' (JQ R u.cm u.x u.y)->Fm (fp a) H H'->Q .non H')->cp K C A vs H Q E
def yb:Rn (cp K C A) (qq K C A (fD K C)) ["self","tie","wood"]:=by
 rintro vs H Q E ⟨a,n,T,ts,as,R,t,u,rfl,ct,h,hn,hu,hnd,hx,hy,hl,hap,ht,hlen,k⟩;unfold qq;k_go;refine ⟨a.q,A.bE,a.dq,_,_,rfl,h.ob,ct.lc,ct.l2,SC,?_⟩;lk;refine .inr ⟨a.d2,_,rfl,tF.t (k:=pk u.x u.y) h.e2 ht (dU (m:=100) (by rw [kU];exact hlen)),?_⟩;have e:=Ql (f:=λt=>V.bl t.wd) (g:=Ti.vg) hnd hu (λ_=>rfl);rw [show (V.bl true)=(λt:Ti=>V.bl t.wd) u.vg from rfl,e];have h1:=h.set2 (ts':=ia ts u.key Ti.vg) Qm V9
 have ht1:(upd H a.d2 (.dT (kw (ia ts u.key Ti.vg)))) t=some (.tup [.int u.x,.int u.y]):=by rw [aH (gh ht h.e2)];exact ht
 have S1:Fm (fp a) H (upd H a.d2 (.dT (kw (ia ts u.key Ti.vg)))):=Fm.upd fp2
 have hl1:gQ (kl (ia ts u.key Ti.vg)) (pk u.x u.y)=some (.int u.cm):=by rw [Qm];exact hJ hnd hu
 change (kR K C A _) _ _ (upd H a.d2 (.dT (kw (ia ts u.key Ti.vg))));generalize upd H a.d2 (.dT (kw (ia ts u.key Ti.vg)))=H1 at h1 ht1 S1;generalize ia ts u.key Ti.vg=ts1 at h1 hl1 k;unfold kR;k_go;refine ⟨a.q,A.bE,a.dq,_,_,rfl,h1.ob,ct.lc,ct.l4,Ul,?_⟩;k_go;refine ⟨a.q,A.bE,a.dq,_,_,rfl,h1.ob,ct.lc,ct.l1,N5,?_⟩;lk;refine .inr ⟨a.d1,.int u.cm,rfl,.inr ⟨_,pk u.x u.y,t,.inl h1.e1,rfl,ht1,hl1.symm⟩,?_⟩;lk;refine EI (c9.of h1.ls) λs hs=>?_;rw [uR (j:=u.cm+1) (by lia),← gU];have S2:=bL.cD (o:=.lst ((a.ws.take (u.cm+1)).map λw=>V.ref w.1)) hs;have gs:(upd H1 s (.lst ((a.ws.take (u.cm+1)).map λw=>V.ref w.1))) s=some (.lst ((a.ws.take (u.cm+1)).map λw=>V.ref w.1)):=aE;have nsf:=h1.tG hs;generalize upd H1 s (.lst ((a.ws.take (u.cm+1)).map λw=>V.ref w.1))=H2 at S2 gs;have h2:=h1.same S2;have ht2:=S2 _ _ ht1
 have hlt:(a.ws.take (u.cm+1)).length=u.cm+1:=by rw [bB,h.len];lia
 refine ⟨s,rfl,?_⟩
 refine .inl ⟨⟨_,c9.of gs⟩,iY (K:=K) (a:=s) (xs:=(a.ws.take (u.cm+1)).map λw=>V.ref w.1)
  (λi Z H3=>Up C A a n T ts1 R (λr=>lk r u.x u.y) H2 i H3/\∃ o,Z=[some (.ref a.q),some (.ref t),o])
  ⟨⟨⟨as,R,h2,λj=>by rw [if_neg (by lia)]⟩,Fm.refl⟩,_,rfl⟩ ?_ ?_ ?_⟩
 ·rintro i Z H3 _ ⟨U,_⟩;exact c9.of (U.fm _ _ nsf gs)
 ·rintro i z Z H3 hi ⟨U,o,rfl⟩;rw [ax] at hi;obtain ⟨w,hw,rfl⟩:=aW.mp hi
  have hi:i<u.cm+1:=by rw [← hlt];exact (aC.mp hw).1
  rw [k8,if_pos hi] at hw;obtain ⟨as1,R1,L1,e1⟩:=U.ex;have W1:=L1.wa i w hw;have ht3:=U.fm _ _ (h2.vh ht2) ht2;k_in;refine ⟨w.1,w.2.1,_,rfl,W1.ob,lP _ _,?_⟩;lk;refine fO (ku.of ht3) (eE (j:=0) rfl rfl) ?_;lk;refine fO (ku.of ht3) (eE (j:=1) rfl rfl) ?_;lk
  have ei:R1 i=R i:=by rw [e1,if_neg (eL i)]
  have D1:=L1.wd i (by lia)
  have hap1:(u.y:Int)∉R1 i u.x:=by rw [ei];exact hap i (by lia)
  refine ⟨w.1,w.2.1,w.2.2,n,u.x,u.y,as1 i,R1 i,rfl,ct.w,W1,D1,hn,hx,hy,hap1,λbs H4 W' B'=>?_⟩;exact ⟨Up.step (f:=λr=>lk r u.x u.y) L1 e1 U.fm hw W' (D1.lk hx hy hap1) B',_,rfl⟩
 ·rintro Z H3 ⟨U,o,rfl⟩;rw [ag,hlt] at U;obtain ⟨as1,R1,L1,e1⟩:=U.ex;refine k as1 H3 (L1.cast λj=>?_) ((S1.trans (Fm.of S2)).trans U.fm);rw [e1]
  show _=if j<=u.cm then _ else _
  by_cases c:j<=u.cm
  ·rw [if_pos c,if_pos (by lia)]
  ·rw [if_neg c,if_neg (by lia)]
inductive dm (K:aa) (C:af) (A:CA) (vs:List V) (H:Hp) (Q:VK) (E:XK):Prop
 | mk (a:AL) (n T:Nat) (ts:List Ti) (as:Nat->List af) (R:Nat->Nat->List Int) (t:af) (u:Ti):vs=[.ref a.q,.ref t]->Dq K C A->LV C A H a n T ts as R->n<=200->u∈ts->(ts.map Ti.key).Nodup->u.x<n->u.y<n->(u.wd=true->u.cm+1<=T/\(u.y:Int)∉R (u.cm+1) u.x)->H t=some (.tup [.int u.x,.int u.y])->ts.length<100->(∀ as' R' H',LV C A H' a n T (ia ts u.key Ti.up) as' R'->(R'=if u.wd=true then Uz R (u.cm+1) u.x u.y else R)->Fm (fp a) H H'->Q .non H')->dm K C A vs H Q E
def zQ:Rn (dm K C A) (rO K C A (fD K C)) vR:=by
 rintro vs H Q E ⟨a,n,T,ts,as,R,t,u,rfl,ct,h,hn,hu,hnd,hx,hy,hap,ht,hlen,k⟩;unfold rO;k_go;refine ⟨a.q,A.bE,a.dq,_,_,rfl,h.ob,ct.lc,ct.l1,N5,?_⟩;lk;refine ⟨a.d1,.int u.cm,rfl,.inr ⟨_,pk u.x u.y,t,.inl h.e1,rfl,ht,(hJ (f:=λt=>V.int t.cm) hnd hu).symm⟩,?_⟩;lk;refine ⟨u.cm,1,rfl,rfl,_,tF.t (k:=pk u.x u.y) h.e1 ht (dU (m:=100) (by rw [kU];exact hlen)),?_⟩;have e:=Ql (f:=λt=>V.int t.cm) (g:=Ti.up) hnd hu (λ_=>rfl);rw [show (V.int ((u.cm:Int)+1))=(λt:Ti=>V.int t.cm) u.up from rfl,e];have h1:=h.set1 (ts':=ia ts u.key Ti.up) Uo Yn
 have ht1:(upd H a.d1 (.dT (kl (ia ts u.key Ti.up)))) t=some (.tup [.int u.x,.int u.y]):=by rw [aH (gh ht h.e1)];exact ht
 have S1:Fm (fp a) H (upd H a.d1 (.dT (kl (ia ts u.key Ti.up)))):=Fm.upd fp1
 have hw1:gQ (kw (ia ts u.key Ti.up)) (pk u.x u.y)=some (.bl u.wd):=by rw [Uo];exact hJ hnd hu
 have hl1:gQ (kl (ia ts u.key Ti.up)) (pk u.x u.y)=some (.int ((u.cm+1:Nat):Int)):=by
  have:=hJ (f:=λt=>V.int t.cm) (by rw [mP (f:=Ti.up) (λ_=>rfl)];exact hnd) ((kQ (f:=Ti.up) hnd hu u.up).mpr (.inl rfl));exact this
 dsimp only;change (iE _ _ _) _ _ (upd H a.d1 (.dT (kl (ia ts u.key Ti.up))));generalize upd H a.d1 (.dT (kl (ia ts u.key Ti.up)))=H1 at h1 ht1 S1;generalize ia ts u.key Ti.up=ts1 at h1 hl1 hw1 k;k_go;refine ⟨a.q,A.bE,a.dq,_,_,rfl,h1.ob,ct.lc,ct.l2,SC,?_⟩;lk;refine .inr ⟨a.d2,.bl u.wd,rfl,.inr ⟨_,pk u.x u.y,t,.inl h1.e2,rfl,ht1,hw1.symm⟩,?_⟩;refine ⟨_,rfl,?_⟩
 cases hw:u.wd with
 | false =>
  rw [hw] at k;refine iQ ?_;lk
  exact k as R H1 h1 rfl S1
 | true =>
  rw [hw] at k;obtain ⟨hT,hap⟩:=hap hw;obtain ⟨w,hw1,hwm⟩:=h1.get hT;have W1:=h1.wa _ w hw1;have D1:=h1.wd _ hT;refine lU ?_;k_in;refine mi ?_;lk;refine ⟨a.q,A.bE,a.dq,_,_,rfl,h1.ob,ct.lc,ct.l4,Ul,?_⟩;k_go;refine ⟨a.q,A.bE,a.dq,_,_,rfl,h1.ob,ct.lc,ct.l1,N5,?_⟩;lk;refine .inr ⟨a.d1,.int ((u.cm+1:Nat):Int),rfl,.inr ⟨_,pk u.x u.y,t,.inl h1.e1,rfl,ht1,hl1.symm⟩,?_⟩;refine lu (c9.of h1.ls) (eE (j:=u.cm+1) rfl (by rw [ax,hw1];rfl)) ?_;refine ⟨w.1,w.2.1,_,rfl,W1.ob,lP _ _,?_⟩;lk;refine fO (ku.of ht1) (eE (j:=0) rfl rfl) ?_;lk;refine fO (ku.of ht1) (eE (j:=1) rfl rfl) ?_;lk;refine ⟨w.1,w.2.1,w.2.2,n,u.x,u.y,as (u.cm+1),R (u.cm+1),rfl,ct.w,W1,D1,hn,hx,hy,hap,λbs H4 W' B'=>?_⟩;exact k _ _ H4 (h1.YM hw1 W' (D1.lk hx hy hap) B') rfl (S1.trans (Fm.but (fpw hwm) B'))
inductive dJ (K:aa) (C:af) (A:CA) (vs:List V) (H:Hp) (Q:VK) (E:XK):Prop
 | mk (a:AL) (n T:Nat) (ts:List Ti) (as:Nat->List af) (R:Nat->Nat->List Int) (t:af) (u:Ti):vs=[.ref a.q,.ref t]->Dq K C A->LV C A H a n T ts as R->n<=200->u∈ts->(ts.map Ti.key).Nodup->u.x<n->u.y<n->u.x≠u.y->u.cm<=T->(u.wd=true->∀ i,i<=u.cm->Ed n (R i) u.x u.y)->H t=some (.tup [.int u.x,.int u.y])->(∀ as' R' H',LV C A H' a n T (ts.filter λv=>decide (v.key≠u.key)) as' R'->(R'=if u.wd=true then Zj R u.cm u.x u.y else R)->Fm (fp a) H H'->Q .non H')->dJ K C A vs H Q E
def zS:Rn (dJ K C A) (rP K C A (jy K C)) ["self","tie","level","wood"]:=by
 rintro vs H Q E ⟨a,n,T,ts,as,R,t,u,rfl,ct,h,hn,hu,hnd,hx,hy,hxy,hl,hed,ht,k⟩
 have td:∀ {H:Hp}{d:af}{ks ks':List (List fT×V)},H t=some (.tup [.int u.x,.int u.y])->H d=some (.dT ks)->upd H d (.dT ks') t=some (.tup [.int u.x,.int u.y]):=λe1 e2=>by rw [aH (gh e1 e2)];exact e1
 unfold rP;k_go;refine ⟨a.q,A.bE,a.dq,_,_,rfl,h.ob,ct.lc,ct.l3,fL3,?_⟩;refine ⟨.inr (.inr (.inl ⟨rfl,.inr ⟨_,h.e3⟩⟩)),?_⟩;lk;refine ⟨a.d3,_,pk u.x u.y,t,.int 0,rfl,rfl,h.e3,ht,hJ (f:=λ_=>V.int 0) hnd hu,?_⟩;rw [Ar];have ht1:=td (ks':=kv (ts.filter λv=>decide (v.key≠u.key))) ht h.e3
 have ne3:∀ {b:af}{o:HO},b≠a.d3->H b=some o->(upd H a.d3 (.dT (kv (ts.filter λv=>decide (v.key≠u.key))))) b=some o:=λhb e=>by rw [aH hb];exact e
 have q3:(upd H a.d3 (.dT (kv (ts.filter λv=>decide (v.key≠u.key))))) a.d3=_:=aE;have F1:Fm [a.d1,a.d2,a.d3] H (upd H a.d3 (.dT (kv (ts.filter λv=>decide (v.key≠u.key))))):=Fm.upd (aj _ (aj _ aw));have o1:=ne3 (gh h.ob h.e3) h.ob;have p1:=ne3 h.QU h.e1;have p2:=ne3 h.Rg h.e2;generalize upd H a.d3 (.dT (kv (ts.filter λv=>decide (v.key≠u.key))))=H1 at ht1 q3 F1 o1 p1 p2;dsimp only;k_go;refine ⟨a.q,A.bE,a.dq,_,_,rfl,o1,ct.lc,ct.l1,N5,?_⟩;refine ⟨.inr (.inr (.inl ⟨rfl,.inr ⟨_,p1⟩⟩)),?_⟩;lk;refine ⟨a.d1,_,pk u.x u.y,t,.int u.cm,rfl,rfl,p1,ht1,hJ (f:=λt=>V.int t.cm) hnd hu,?_⟩;rw [Ar];have ht2:=td (ks':=kl (ts.filter λv=>decide (v.key≠u.key))) ht1 p1;have o2:(upd H1 a.d1 (.dT (kl (ts.filter λv=>decide (v.key≠u.key))))) a.q=_:=(aH (gh o1 p1)).trans o1;have r1:(upd H1 a.d1 (.dT (kl (ts.filter λv=>decide (v.key≠u.key))))) a.d1=_:=aE;have r2:(upd H1 a.d1 (.dT (kl (ts.filter λv=>decide (v.key≠u.key))))) a.d2=_:=(aH h.ND.symm).trans p2;have r3:(upd H1 a.d1 (.dT (kl (ts.filter λv=>decide (v.key≠u.key))))) a.d3=_:=(aH h.QU.symm).trans q3;have F2:Fm [a.d1,a.d2,a.d3] H (upd H1 a.d1 (.dT (kl (ts.filter λv=>decide (v.key≠u.key))))):=F1.trans (Fm.upd aw);generalize upd H1 a.d1 (.dT (kl (ts.filter λv=>decide (v.key≠u.key))))=H2 at ht2 o2 r1 r2 r3 F2;dsimp only;k_go;refine ⟨a.q,A.bE,a.dq,_,_,rfl,o2,ct.lc,ct.l2,SC,?_⟩;refine ⟨.inr (.inr (.inl ⟨rfl,.inr ⟨_,r2⟩⟩)),?_⟩;lk;refine ⟨a.d2,_,pk u.x u.y,t,.bl u.wd,rfl,rfl,r2,ht2,hJ (f:=λt=>V.bl t.wd) hnd hu,?_⟩;rw [Ar];have ht3:=td (ks':=kw (ts.filter λv=>decide (v.key≠u.key))) ht2 r2;have F3:Fm [a.d1,a.d2,a.d3] H (upd H2 a.d2 (.dT (kw (ts.filter λv=>decide (v.key≠u.key))))):=F2.trans (Fm.upd (aj _ aw));have h3:LV C A (upd H2 a.d2 (.dT (kw (ts.filter λv=>decide (v.key≠u.key))))) a n T (ts.filter λv=>decide (v.key≠u.key)) as R:=h.sets F3 ((aH h.ND).trans r1) aE ((aH h.Rg.symm).trans r3)
 have G3:Fm (fp a) H (upd H2 a.d2 (.dT (kw (ts.filter λv=>decide (v.key≠u.key))))):=F3.mono λb hb=>by
  simp only [av,dg,or_false] at hb
  rcases hb with rfl|rfl|rfl
  ·exact fp1
  ·exact fp2
  ·exact fp3
 generalize upd H2 a.d2 (.dT (kw (ts.filter λv=>decide (v.key≠u.key))))=H3 at ht3 h3 G3;refine ⟨_,rfl,?_⟩
 cases hw:u.wd with
 | false =>
  rw [hw] at k;refine iQ ?_;lk
  exact k as R H3 h3 rfl G3
 | true =>
  rw [hw] at k;have hed:=hed hw;refine lU ?_;unfold oW;k_go;refine ⟨a.q,A.bE,a.dq,_,_,rfl,h3.ob,ct.lc,ct.l4,Ul,?_⟩;lk;refine EI (c9.of h3.ls) λs hs=>?_;rw [uR (j:=u.cm+1) (by lia),← gU];have S2:=bL.cD (o:=.lst ((a.ws.take (u.cm+1)).map λw=>V.ref w.1)) hs;have gs:(upd H3 s (.lst ((a.ws.take (u.cm+1)).map λw=>V.ref w.1))) s=some (.lst ((a.ws.take (u.cm+1)).map λw=>V.ref w.1)):=aE;have nsf:=h3.tG hs;generalize upd H3 s (.lst ((a.ws.take (u.cm+1)).map λw=>V.ref w.1))=H4 at S2 gs;have h4:=h3.same S2;have ht4:=S2 _ _ ht3
  have hlt:(a.ws.take (u.cm+1)).length=u.cm+1:=by rw [bB,h.len];lia
  refine ⟨s,rfl,?_⟩
  refine .inl ⟨⟨_,c9.of gs⟩,iY (K:=K) (a:=s) (xs:=(a.ws.take (u.cm+1)).map λw=>V.ref w.1)
   (λi Z H5=>Up C A a n T (ts.filter λv=>decide (v.key≠u.key)) R (λr=>Rm.ct r u.x u.y) H4 i H5/\∃ o,Z=[some (.ref a.q),some (.ref t),some (.int u.cm),o])
   ⟨⟨⟨as,R,h4,λj=>by rw [if_neg (by lia)]⟩,Fm.refl⟩,_,rfl⟩ ?_ ?_ ?_⟩
  ·rintro i Z H5 _ ⟨U,_⟩;exact c9.of (U.fm _ _ nsf gs)
  ·rintro i z Z H5 hi ⟨U,o,rfl⟩;rw [ax] at hi;obtain ⟨w,hw,rfl⟩:=aW.mp hi
   have hi:i<u.cm+1:=by rw [← hlt];exact (aC.mp hw).1
   rw [k8,if_pos hi] at hw;obtain ⟨as1,R1,L1,e1⟩:=U.ex;have W1:=L1.wa i w hw;have ht5:=U.fm _ _ (h4.vh ht4) ht4;k_in;refine ⟨w.1,w.2.1,_,rfl,W1.ob,lP _ _,?_⟩;lk;refine fO (ku.of ht5) (eE (j:=0) rfl rfl) ?_;lk;refine fO (ku.of ht5) (eE (j:=1) rfl rfl) ?_;lk
   have ei:R1 i=R i:=by rw [e1,if_neg (eL i)]
   have D1:=L1.wd i (by lia)
   have hE:Ed n (R1 i) u.x u.y:=by rw [ei];exact hed i (by lia)
   refine ⟨w.1,w.2.1,w.2.2,n,u.x,u.y,as1 i,R1 i,rfl,ct.w,W1,D1,hn,hx,hy,hxy,hE,λbs H6 W' B'=>?_⟩;exact ⟨Up.step (f:=λr=>Rm.ct r u.x u.y) L1 e1 U.fm hw W' (D1.ct hx hy hxy hE) B',_,rfl⟩
  ·rintro Z H5 ⟨U,o,rfl⟩;rw [ag,hlt] at U;obtain ⟨as1,R1,L1,e1⟩:=U.ex;refine k as1 _ H5 (L1.cast λj=>?_) rfl ((G3.trans (Fm.of S2)).trans U.fm);rw [e1]
   show _=if j<=u.cm then _ else _
   by_cases c:j<=u.cm
   ·rw [if_pos c,if_pos (by lia)]
   ·rw [if_neg c,if_neg (by lia)]
inductive j6 (K:aa) (C:af) (A:CA) (vs:List V) (H:Hp) (Q:VK) (E:XK):Prop
 | mk (a:AL) (n T:Nat) (ts:List Ti) (as:Nat->List af) (R:Nat->Nat->List Int) (t:af) (x y:Nat):vs=[.ref a.q,.ref t,.int 0]->Dq K C A->LV C A H a n T ts as R->n<=200->x<n->y<n->H t=some (.tup [.int x,.int y])->(ts.map Ti.key).Nodup->((x:Int),(y:Int))∉ts.map Ti.key->ts.length<99->(∀ b ts' as' R' H',LV C A H' a n T ts' as' R'->(((y:Int)∈R 0 x/\ts'=ts++[⟨x,y,0,false⟩]/\R'=R/\b=false)\/((y:Int)∉R 0 x/\ts'=ia (ts++[⟨x,y,0,false⟩]) ((x:Int),(y:Int)) Ti.vg/\R'=JQ R 0 x y/\b=true))->Fm (fp a) H H'->Q (.bl b) H')->j6 K C A vs H Q E
def BI:Rn (j6 K C A) (ud K C A (d8 K C) (cp K C A)) Io:=by
 rintro vs H Q E ⟨a,n,T,ts,as,R,t,x,y,rfl,ct,h,hn,hx,hy,ht,hnd,hk,hlen,k⟩
 have td:∀ {H:Hp}{d:af}{ks ks':List (List fT×V)},H t=some (.tup [.int x,.int y])->H d=some (.dT ks)->upd H d (.dT ks') t=some (.tup [.int x,.int y]):=λe1 e2=>by rw [aH (gh e1 e2)];exact e1
 have kn:∀ (f:Ti->V) (v:V),f ⟨x,y,0,false⟩=v->nr (kf f ts) (pk x y) v=kf f (ts++[⟨x,y,0,false⟩]):=λf v e=>by rw [vD _ (sQ hk),← e];unfold kf;rw [aU];rfl
 have hnd':((ts++[(⟨x,y,0,false⟩:Ti)]).map Ti.key).Nodup:=by
  rw [aU,gC];exact ⟨hnd,by simp,λp hp q hq e=>hk (by rw [oB,aA] at hq;have e2:p=((x:Int),(y:Int)):=e.trans hq;rw [← e2];exact hp)⟩
 have hu:(⟨x,y,0,false⟩:Ti)∈ts++[⟨x,y,0,false⟩]:=bG _ aw;unfold ud;k_go;refine ⟨a.q,A.bE,a.dq,_,_,rfl,h.ob,ct.lc,ct.l1,N5,?_⟩;lk;refine .inr ⟨a.d1,_,rfl,tF.t (k:=pk x y) h.e1 ht (dU (m:=100) (by rw [kU];lia)),?_⟩;rw [kn (λt=>V.int t.cm) (.int 0) rfl];have ht1:=td (ks':=kl (ts++[⟨x,y,0,false⟩])) ht h.e1;have o1:(upd H a.d1 (.dT (kl (ts++[⟨x,y,0,false⟩])))) a.q=_:=(aH (gh h.ob h.e1)).trans h.ob;have p1:(upd H a.d1 (.dT (kl (ts++[⟨x,y,0,false⟩])))) a.d1=_:=aE;have p2:(upd H a.d1 (.dT (kl (ts++[⟨x,y,0,false⟩])))) a.d2=_:=(aH h.ND.symm).trans h.e2;have p3:(upd H a.d1 (.dT (kl (ts++[⟨x,y,0,false⟩])))) a.d3=_:=(aH h.QU.symm).trans h.e3;have F1:Fm [a.d1,a.d2,a.d3] H (upd H a.d1 (.dT (kl (ts++[⟨x,y,0,false⟩])))):=Fm.upd aw;generalize upd H a.d1 (.dT (kl (ts++[⟨x,y,0,false⟩])))=H1 at ht1 o1 p1 p2 p3 F1;k_go;refine ⟨a.q,A.bE,a.dq,_,_,rfl,o1,ct.lc,ct.l2,SC,?_⟩;lk;refine .inr ⟨a.d2,_,rfl,tF.t (k:=pk x y) p2 ht1 (dU (m:=100) (by rw [kU];lia)),?_⟩;rw [kn (λt=>V.bl t.wd) (.bl false) rfl];have ht2:=td (ks':=kw (ts++[⟨x,y,0,false⟩])) ht1 p2;have o2:(upd H1 a.d2 (.dT (kw (ts++[⟨x,y,0,false⟩])))) a.q=_:=(aH (gh o1 p2)).trans o1;have q1:(upd H1 a.d2 (.dT (kw (ts++[⟨x,y,0,false⟩])))) a.d1=_:=(aH h.ND).trans p1;have q2:(upd H1 a.d2 (.dT (kw (ts++[⟨x,y,0,false⟩])))) a.d2=_:=aE;have q3:(upd H1 a.d2 (.dT (kw (ts++[⟨x,y,0,false⟩])))) a.d3=_:=(aH h.Rg.symm).trans p3;have F2:Fm [a.d1,a.d2,a.d3] H (upd H1 a.d2 (.dT (kw (ts++[⟨x,y,0,false⟩])))):=F1.trans (Fm.upd (aj _ aw));generalize upd H1 a.d2 (.dT (kw (ts++[⟨x,y,0,false⟩])))=H2 at ht2 o2 q1 q2 q3 F2;k_go;refine ⟨a.q,A.bE,a.dq,_,_,rfl,o2,ct.lc,ct.l3,fL3,?_⟩;lk;refine .inr ⟨a.d3,_,rfl,tF.t (k:=pk x y) q3 ht2 (dU (m:=100) (by rw [kU];lia)),?_⟩;rw [kn (λ_=>V.int 0) (.int 0) rfl];have ht3:=td (ks':=kv (ts++[⟨x,y,0,false⟩])) ht2 q3;have F3:Fm [a.d1,a.d2,a.d3] H (upd H2 a.d3 (.dT (kv (ts++[⟨x,y,0,false⟩])))):=F2.trans (Fm.upd (aj _ (aj _ aw)));have h3:LV C A (upd H2 a.d3 (.dT (kv (ts++[⟨x,y,0,false⟩])))) a n T (ts++[⟨x,y,0,false⟩]) as R:=h.sets F3 ((aH h.QU).trans q1) ((aH h.Rg).trans q2) aE
 have S3:Fm (fp a) H (upd H2 a.d3 (.dT (kv (ts++[⟨x,y,0,false⟩])))):=F3.mono λb hb=>by
  simp only [av,dg,or_false] at hb
  rcases hb with rfl|rfl|rfl
  ·exact fp1
  ·exact fp2
  ·exact fp3
 generalize upd H2 a.d3 (.dT (kv (ts++[⟨x,y,0,false⟩])))=H3 at ht3 h3 S3;obtain ⟨w,hw,hwm⟩:=h3.get (aQ _);have W3:=h3.wa 0 w hw;have D3:=h3.wd 0 (aQ _);k_in;refine mi ?_;lk;refine ⟨a.q,A.bE,a.dq,_,_,rfl,h3.ob,ct.lc,ct.l4,Ul,?_⟩;lk;refine lu (c9.of h3.ls) (eE (j:=0) rfl (by rw [ax,hw];rfl)) ?_;refine ⟨w.1,w.2.1,_,rfl,W3.ob,lP _ _,?_⟩;lk;refine fO (ku.of ht3) (eE (j:=0) rfl rfl) ?_;lk;refine fO (ku.of ht3) (eE (j:=1) rfl rfl) ?_;lk;refine ⟨w.1,w.2.1,w.2.2,n,x,y,as 0,R 0,rfl,ct.w,W3,D3,hx,hy,?_⟩;refine ⟨_,rfl,?_⟩
 by_cases hj:(y:Int)∈R 0 x
 ·rw [decide_eq_true hj];rw [if_neg (by simp)];k_go;refine ⟨a.q,A.bE,a.dq,_,_,rfl,h3.ob,ct.lc,ct.l2,SC,?_⟩;lk;refine .inr ⟨a.d2,.bl false,rfl,.inr ⟨_,pk x y,t,.inl h3.e2,rfl,ht3,(hJ (f:=λt=>V.bl t.wd) hnd' hu).symm⟩,?_⟩;exact k _ _ as R H3 h3 (.inl ⟨hj,rfl,rfl,rfl⟩) S3
 ·rw [decide_eq_false hj];rw [if_pos (by simp)];k_in;refine ⟨a.q,a.dq,_,rfl,h3.ob,Um,?_⟩;lk;refine ⟨a,n,T,_,as,R,t,⟨x,y,0,false⟩,rfl,ct,h3,hn,hu,hnd',hx,hy,aQ _,λi hi=>by rw [Rc.mp hi];exact hj,ht3,by simp;lia,λas' H4 h4 S4=>?_⟩;have ht4:H4 t=some (.tup [.int x,.int y]):=S4 _ _ (h3.vh ht3) ht3;k_go;refine ⟨a.q,A.bE,a.dq,_,_,rfl,h4.ob,ct.lc,ct.l2,SC,?_⟩;lk;refine .inr ⟨a.d2,.bl true,rfl,.inr ⟨_,pk x y,t,.inl h4.e2,rfl,ht4,(hJ (f:=λt=>V.bl t.wd) (t:=⟨x,y,0,true⟩) (by rw [mP (f:=Ti.vg) (λ_=>rfl)];exact hnd') ((kQ (f:=Ti.vg) hnd' hu _).mpr (.inl rfl))).symm⟩,?_⟩;exact k _ _ as' _ H4 h4 (.inr ⟨hj,rfl,rfl,rfl⟩) (S3.trans S4)
inductive ck (K:aa) (C:af) (A:CA) (vs:List V) (H:Hp) (Q:VK) (E:XK):Prop
 | mk (a:AL) (n T:Nat) (ts:List Ti) (as:Nat->List af) (R:Nat->Nat->List Int) (lv:Nat) (t:af) (x y:Nat):vs=[.ref a.q,.int lv,.ref t]->Dq K C A->LV C A H a n T ts as R->(R lv x).length+(R lv y).length+2<=400->lv<=T->x<n->y<n->H t=some (.tup [.int x,.int y])->(∀ q (ks:List Int) (s o:Nat),(s=x/\o=y\/s=y/\o=x)->(R lv s).length<=(R lv o).length->H q=none->(∀ z,z∈ks↔z∈R lv s)->Q (.ref q) (upd H q (.lst (ks.map V.int))))->ck K C A vs H Q E
def pV:Rn (ck K C A) (lz K C A (j5 K C) (jH K C)) ["self","level","tie","wood"]:=by
 rintro vs H Q E ⟨a,n,T,ts,as,R,lv,t,x,y,rfl,ct,h,hn,hl,hx,hy,ht,k⟩;obtain ⟨w,hw,hwm⟩:=h.get hl;have W:=h.wa lv w hw;have D:=h.wd lv hl;have lx:=D.len hx;have ly:=D.len hy;obtain ⟨dx,_,_,cx⟩:=(D.r x hx).cnt;obtain ⟨dy,_,_,cy⟩:=(D.r y hy).cnt;unfold lz;k_go;refine ⟨a.q,A.bE,a.dq,_,_,rfl,h.ob,ct.lc,ct.l4,Ul,?_⟩;lk;refine lu (c9.of h.ls) (eE (j:=lv) rfl (by rw [ax,hw];rfl)) ?_;k_in;refine ⟨w.1,w.2.1,_,rfl,W.ob,lP _ _,?_⟩;k_in;refine ⟨w.1,w.2.1,_,rfl,W.ob,lP _ _,?_⟩;lk;refine fO (ku.of ht) (eE (j:=0) rfl rfl) ?_;lk;refine ⟨w.1,w.2.1,w.2.2,n,x,as lv,R lv,rfl,ct.w,W,D,hx,?_⟩;refine xU ?_;lk;refine ⟨w.1,w.2.1,_,rfl,W.ob,lP _ _,?_⟩;lk;refine fO (ku.of ht) (eE (j:=1) rfl rfl) ?_;lk;refine ⟨w.1,w.2.1,w.2.2,n,y,as lv,R lv,rfl,ct.w,W,D,hy,?_⟩;lk;refine qf (λc=>?_) λc=>?_
 ·lk;refine fO (ku.of ht) (eE (j:=0) rfl rfl) ?_;lk;exact ⟨w.1,w.2.1,w.2.2,n,x,as lv,R lv,rfl,ct.w,W,D,by lia,hx,λq ks hq _ hm=>k q ks x y (.inl ⟨rfl,rfl⟩) (by lia) hq hm⟩
 ·lk;refine fO (ku.of ht) (eE (j:=1) rfl rfl) ?_;lk;exact ⟨w.1,w.2.1,w.2.2,n,y,as lv,R lv,rfl,ct.w,W,D,by lia,hy,λq ks hq _ hm=>k q ks y x (.inr ⟨rfl,rfl⟩) (by lia) hq hm⟩
def qD.keep (h:qD Pt H) (S:∀ b o,(∀ ks,o≠.dT ks)->(∀ xs,o≠.lst xs)->(∀ x y z,o≠.ins x y z)->(∀ o' ks,o≠.frz o' (.dT ks))->H b=some o->H' b=some o):qD Pt H':=by
 rcases h with h|⟨c',oc,vs,t,h1,h2,h3⟩
 ·exact .inl (S _ _ (λ_ z=>nomatch z) (λ_ z=>nomatch z) (λ_ _ _ z=>nomatch z) (λ_ _ z=>nomatch z) h)
 ·exact .inr ⟨c',oc,vs,t,S _ _ (λ_ z=>nomatch z) (λ_ z=>nomatch z) (λ_ _ _ z=>nomatch z) (λ_ _ z=>nomatch z) h1,S _ _ (λ_ z=>nomatch z) (λ_ z=>nomatch z) (λ_ _ _ z=>nomatch z) (λ_ _ z=>nomatch z) h2,h3⟩
def qD.same (h:qD Pt H) (S:bL H H'):qD Pt H':=h.keep λb o _ _ _ _ e=>S b o e
def qD.fm (h:qD Pt H) (L:LV C A H a n T ts as R) (S:Fm (fp a) H H'):qD Pt H' :=
 h.keep λb o h1 h2 _ _ e=>S b o (L.out e h1 λ_ _=>h2 _) e
def qD.ne (h:qD Pt H) {b:af}{o:HO}(e:H b=some o) (hn:∀ ps,o≠.tbl ps):b≠Pt:=λz=>by
 obtain ⟨ps,q⟩:=h.tbl;rw [z,q] at e;exact hn ps (aV e).symm
def AtL (ts:List Ti) (lv:Nat) (w:Bool) (zs:List Zt):Prop:=(zs.map zP).Nodup/\∀ k,k∈zs.map zP↔∃ t∈ts,t.cm=lv/\t.wd=w/\t.key=k
inductive jO (K:aa) (C:af) (A:CA) (Pt:af) (vs:List V) (H:Hp) (Q:VK) (E:XK):Prop
 | mk (a:AL) (n T:Nat) (ts:List Ti) (as:Nat->List af) (R:Nat->Nat->List Int) (lv:Nat) (w:Bool):vs=[.ref a.q,.int lv,.bl w]->Dq K C A->LV C A H a n T ts as R->(ts.map Ti.key).Nodup->ts.length<99->qD Pt H->(∀ (q:af) (zs:List Zt) (o:ft) H',H q=none->H' q=some (.lst (zs.map fo))->(∀ z∈zs,fX H' z)->AtL ts lv w zs->H' a.d1=some (.frz o (.dT (kl ts)))->qD Pt H'->Fm [Pt,a.d1] H H'->Q (.ref q) H')->jO K C A Pt vs H Q E
inductive cF (K:aa) (C:af) (A:CA) (Pt:af) (vs:List V) (H:Hp) (Q:VK) (E:XK):Prop
 | mk (a:AL) (n T:Nat) (ts:List Ti) (as:Nat->List af) (R:Nat->Nat->List Int) (lv:Nat) (w:Bool):vs=[.ref a.q,.int lv,.bl w]->Dq K C A->LV C A H a n T ts as R->(ts.map Ti.key).Nodup->ts.length<99->qD Pt H->(∀ (q:af) (zs:List Zt) H',H q=none->H' q=some (.lst (zs.map fo))->(∀ z∈zs,fX H' z)->AtL ts lv w zs->qD Pt H'->pC Pt H H'->Q (.ref q) H')->cF K C A Pt vs H Q E
def rV:∀ vs H Q E,cF K C A Pt vs H Q E->jO K C A Pt vs H (Sd H Q) E:=by
 rintro vs H Q E ⟨a,n,T,ts,as,R,lv,w,rfl,ct,h,hnd,hlen,hT,k⟩;refine ⟨a,n,T,ts,as,R,lv,w,rfl,ct,h,hnd,hlen,hT,λq zs o H' hq gq pz hz gd hT' B=>.inr ⟨a.d1,o,kl ts,(λo' u' e=>by rw [h.e1] at e;cases e),gd,?_⟩⟩;have hqd:q≠a.d1:=Ne.symm (aP h.e1 hq)
 have ne:∀ {b:af}{u:HO},H' b=some u->(∀ o' ks,u≠.frz o' (.dT ks))->(upd H' a.d1 (.dT (kl ts))) b=some u:=λ{b u} e q=>by rw [aH];exact e;rintro rfl;rw [gd] at e;cases e;exact q _ _ rfl
 refine k q zs _ hq (by rw [aH hqd];exact gq) (λz hz'=>ne (pz z hz') (λ_ _ z=>nomatch z)) hz (hT'.keep λb u _ _ _ h4 e=>ne e h4) λb u hb e=>?_
 by_cases c:b=a.d1
 ·subst c;rw [aE,← h.e1,e]
 ·rw [aH c];exact B _ _ (by simp [hb,c]) e
def rW:Rn (jO K C A Pt) (m6 K C A (lX K C Pt)) Uk:=by
 rintro vs H Q E ⟨a,n,T,ts,as,R,lv,w,rfl,ct,h,hnd,hlen,hT,k⟩;unfold m6;lk;refine Tx ?_;refine mi ?_;lk;refine ⟨a.q,A.bE,a.dq,_,_,rfl,h.ob,ct.lc,ct.l1,N5,?_⟩;refine ⟨a.d1,kl ts,rfl,.inl ⟨h.e1,λo=>?_⟩⟩;have g1:(upd H a.d1 (.frz o (.dT (kl ts)))) a.d1=some (.frz o (.dT (kl ts))):=aE;have B1:a8 a.d1 H (upd H a.d1 (.frz o (.dT (kl ts)))):=a8.upd;generalize upd H a.d1 (.frz o (.dT (kl ts)))=H1 at g1 B1;have q1:=B1 _ _ h.ob (gh h.ob h.e1);have w1:=B1 _ _ h.e2 (Ne.symm h.ND);have v1:=B1 _ _ h.e3 (Ne.symm h.QU)
 have T1:qD Pt H1:=hT.keep λb u h1 _ _ _ e=>B1 _ _ e λz=>by rw [z,h.e1] at e;cases e;exact h1 _ rfl
 intro acc hacc;refine mw (n:=ts.length) (λt ys H4=>H4 acc=some (.lst ys)/\bL H1 H4/\∃ us:List (Ti×af),ys=us.map (λu=>V.ref u.2)/\us.map (·.1)=(ts.take t).filter (λu=>decide (u.cm=lv))/\∀ u∈us,H4 u.2=some (.tup [.int u.1.x,.int u.1.y])) (λZ=>∃ o,Z=[o,some (.int lv),some (.ref a.q)]) ⟨aE,bL.cD hacc,[],rfl,rfl,λz hz=>nomatch hz⟩ ⟨_,rfl⟩ ?_ ?_ ?_ ?_
 ·rintro t ys H4 ⟨e,_⟩;exact e
 ·rintro ys H4 ⟨g4,S4,us,rfl,hu,fl⟩;refine ⟨⟨by rw [kU];exact ar _,S4 _ _ g1⟩,?_⟩;rw [bX (ar _)] at hu
  have hul:us.length<=ts.length:=by have:=congrArg dR hu;rw [ag] at this;rw [this];exact cT _ _
  lk;refine .inl ⟨⟨_,c9.of g4⟩,λacc2 hacc2=>?_⟩;refine vJ (K:=K) (z:=acc) (xs:=us.map λu=>V.ref u.2) us (λu=>decide (u.1.wd=w)) (λu=>V.ref u.2) (λZ=>∃ o,Z=[o,some (.bl w),some (.ref a.q)]) (by simp) (c9.of g4) hacc2 ⟨_,rfl⟩ (by rw [ag];lia) ?_ ?_
  ·rintro i u x σ' H' G G' hi hx S' ⟨o',rfl⟩ k1 k2
   have ex:x=.ref u.2:=by rw [ax,hi] at hx;exact (aV hx).symm
   subst ex;have hum:=aL hi
   have hut:u.1∈ts:=by
    have:u.1∈us.map (·.1):=bq hum;rw [hu] at this;exact (cw.mp this).1
   k_go;refine ⟨a.q,A.bE,a.dq,_,_,rfl,S' _ _ (S4 _ _ q1),ct.lc,ct.l2,SC,?_⟩;lk;refine .inr ⟨a.d2,.bl u.1.wd,rfl,.inr ⟨kw ts,pk u.1.x u.1.y,u.2,.inl (S' _ _ (S4 _ _ w1)),rfl,S' _ _ (fl u hum),(hJ (f:=λt=>V.bl t.wd) hnd hut).symm⟩,?_⟩;lk;have e:decide (V.bl u.1.wd=V.bl w)=decide (u.1.wd=w):=decide_eq_decide.mpr ⟨λq=>by injection q,λq=>by rw [q]⟩;rw [e]
   cases c:decide (u.1.wd=w) with
   | true =>
    refine lU ?_;lk
    exact k1 c _ ⟨_,rfl⟩
   | false=>exact iQ (k2 c _ ⟨_,rfl⟩)
  ·intro H' S' hacc';have S5:=S4.trans S';generalize eu:us.filter (λu=>decide (u.1.wd=w))=us2 at hacc'
   have hu2:us2.map (·.1)=(ts.filter λu=>decide (u.cm=lv)).filter λu=>decide (u.wd=w):=by rw [← hu,← eu,tS];rfl
   have fl2:∀ u∈us2,H' u.2=some (.tup [.int u.1.x,.int u.1.y]):=λu hu=>S' _ _ (fl u (by rw [← eu] at hu;exact (cw.mp hu).1))
   have hm2:∀ u,u∈us2.map (·.1)↔u∈ts/\u.cm=lv/\u.wd=w:=λu=>by
    rw [hu2,cw,cw,decide_eq_true_iff,decide_eq_true_iff,and_assoc]
   have hl2:us2.length<=ts.length:=by rw [← eu];exact bf (cT _ _) hul
   k_go;refine ⟨a.q,A.bE,a.dq,_,_,rfl,S5 _ _ q1,ct.lc,ct.l3,fL3,?_⟩;lk;refine ⟨acc2,a.d3,us2.map (λu=>([0,(u.1.x:Int),(u.1.y:Int)],u.2)),kv ts,rfl,by rw [hacc',bK];rfl,S5 _ _ v1,λz hz=>?_,by rw [ag];lia,T1.same S5,λl zs' H2 hl S6 T6 hp=>?_⟩
   ·obtain ⟨u,hum,rfl⟩:=a6.mp hz;exact ⟨0,u.1.x,u.1.y,rfl,fl2 u hum,hJ (f:=λ_=>V.int 0) hnd ((hm2 u.1).mp (bq hum)).1⟩
   ·have T5:=T1.same S5
    have hlP:l≠Pt:=λz=>by
     obtain ⟨ps,e⟩:=T6.tbl;rw [z,e] at hl;cases hl
    have F6:Fm [Pt,a.d1] H H2:=λb u hb e=>by
     simp only [av,dg,or_false,not_or] at hb;exact S6 _ _ hb.1 (S5 _ _ (B1 _ _ e hb.2))
    have d6:H2 a.d1=some (.frz o (.dT (kl ts))):=S6 _ _ (T5.ne (S5 _ _ g1) (λ_ z=>nomatch z)) (S5 _ _ g1);have hld:a.d1≠l:=aP d6 hl
    have U:∀ {b:af}{u:HO},H2 b=some u->(upd H2 l (.lst (zs'.map lF))) b=some u:=λe=>by rw [aH (aP e hl)];exact e
    have hzP:(zs'.map λz=>(z.1.getD 1 0,z.1.getD 2 0,z.2)).map zP=zs'.map λz=>(z.1.getD 1 0,z.1.getD 2 0):=by rw [bK];rfl
    have hperm:(zs'.map λz=>((z.1.getD 1 0,z.1.getD 2 0):Int×Int)).Perm ((us2.map (·.1)).map Ti.key):=by
     have:=hp.map λz:Zn=>((z.1.getD 1 0,z.1.getD 2 0):Int×Int)
     rw [bK] at this;rw [bK];exact this
    refine k l (zs'.map λz=>(z.1.getD 1 0,z.1.getD 2 0,z.2)) o _ (F6.free (by simp [hlP,hld.symm]) hl) (by rw [aE,bK];rfl) (λz hz=>?_) ⟨?_,λkey=>?_⟩ (U d6) (T6.keep λb u _ _ _ _ e=>U e) (F6.trans λb u _ e=>U e)
    ·obtain ⟨z',hz',rfl⟩:=a6.mp hz;obtain ⟨u,hum,rfl⟩:=a6.mp (hp.mem_iff.mp hz');exact U (S6 _ _ (T5.ne (fl2 u hum) (λ_ z=>nomatch z)) (fl2 u hum))
    ·rw [hzP,hperm.nodup_iff,hu2];exact ((iV.trans iV).map _).nodup hnd
    ·rw [hzP,hperm.mem_iff,a6];exact ⟨λ⟨u,h1,h2⟩=>⟨u,((hm2 u).mp h1).1,((hm2 u).mp h1).2.1,((hm2 u).mp h1).2.2,h2⟩,λ⟨u,h1,h2,h3,h4⟩=>⟨u,(hm2 u).mpr ⟨h1,h2,h3⟩,h4⟩⟩
 ·rintro t ys H4 ht ⟨_,S4,_⟩;exact ⟨by rw [kU];exact ht,S4 _ _ g1⟩
 ·rintro t ys σ' H4 x H5 ht ⟨g4,S4,us,rfl,hu,fl⟩ ⟨o',rfl⟩ ⟨eH,key,v,b,hk,ex,hb⟩;subst eH ex
  obtain ⟨u,hu',eu⟩:∃ u,ts[t]?=some u/\(pk u.x u.y,V.int u.cm)=(key,v):=by
   have hk:(ts.map λt=>(pk t.x t.y,V.int t.cm))[t]?=some (key,v):=hk;rw [ax] at hk;exact aW.mp hk
  cases eu;have hum:=aL hu';have hb:H5 b=some (.tup [.int u.x,.int u.y]):=hb;k_go;refine ⟨a.q,A.bE,a.dq,_,_,rfl,S4 _ _ q1,ct.lc,ct.l1,N5,?_⟩;lk;refine .inr ⟨a.d1,.int u.cm,rfl,.inr ⟨kl ts,pk u.x u.y,b,.inr ⟨o,S4 _ _ g1⟩,rfl,hb,(hJ (f:=λt=>V.int t.cm) hnd hum).symm⟩,?_⟩
  have etk:ts.take (t+1)=ts.take t++[u]:=by rw [dI,hu'];rfl
  have hul:us.length<=ts.length:=by have:=congrArg dR hu;rw [ag] at this;rw [this];exact bf (cT _ _) (by rw [bB];lia)
  lk;refine qf (λc=>?_) λc=>?_
  ·have c:u.cm=lv:=by have:=lE.mp c;lia
   lk;refine ⟨g4,dU (m:=100) (by rw [ag];lia),kF.mk' ht ⟨_,rfl⟩ ⟨aE,λb' ob e=>by rw [aH (aP e hacc)];exact S4 _ _ e,us++[(u,b)],by simp,?_,λz hz=>?_⟩⟩
   ·rw [aU,hu,etk,dv];simp [c]
   ·rcases aN.mp hz with hz|hz
    ·rw [aH (gh (fl z hz) g4)];exact fl z hz
    ·rw [aA.mp hz,aH (gh hb g4)];exact hb
  ·have c:¬ u.cm=lv:=λe=>c (by rw [e]);refine kF.mk' ht ⟨_,rfl⟩ ⟨g4,S4,us,rfl,?_,fl⟩;rw [hu,etk,dv];simp [c]
def Fm.skip {X:List af}{c:af}{H1 H2:Hp}(S:Fm X H H1) (S2:Fm (c::X) H1 H2) (hc:H c=none):Fm X H H2:=λb o hb e=>S2 b o (λz=>by
 rcases av.mp z with z|z
 ·rw [z,hc] at e;cases e
 ·exact hb z) (S b o hb e)
def ew2 {x y:Int}{S:List Int}:ew x y S=2↔x∈S/\y∈S:=by
 unfold ew;by_cases c1:x∈S<;>by_cases c2:y∈S<;>simp [c1,c2]
def ew1 {x y:Int}{S:List Int}:ew x y S=1↔(x∈S/\y∉S\/x∉S/\y∈S):=by
 unfold ew;by_cases c1:x∈S<;>by_cases c2:y∈S<;>simp [c1,c2]
section
def LV.UC (h:LV C A H a n T ts as R) (hP:qD Pt H) (S:pC Pt H H'):LV C A H' a n T ts as R :=
 h.keep (X:=[Pt]) (λb o hb e=>S b o (λz=>hb (aA.mpr z)) e) (λx fs e hf _ hx=>hP.ne e (by obtain ⟨c,d,f,rfl,_⟩:=hf;exact λ_ z=>nomatch z) (aA.mp hx)) (λb hb hx=>by
  rcases h.kind hb with ⟨ks,q⟩|⟨bs,_,q⟩
  ·exact hP.ne q (λ_ z=>nomatch z) (aA.mp hx)
  ·exact hP.ne q (λ_ z=>nomatch z) (aA.mp hx)) (λhx=>hP.ne h.ls (λ_ z=>nomatch z) (aA.mp hx)) λb r _ e hx=>hP.ne e (λ_ z=>nomatch z) (aA.mp hx)
def LV.app {c:af}{ys xs:List V}(h:LV C A H a n T ts as R) (hc:H c=some (.lst ys)) (hi:∀ i r,ys≠V.int i::r) (n1:c∉fp a) (n2:a.L≠c):LV C A (upd H c (.lst xs)) a n T ts as R :=
 h.keep (X:=[c]) (Fm.upd aw) (λx fs e hf _ hx=>by
  rw [aA.mp hx,hc] at e;obtain ⟨c,d,f,rfl,_⟩:=hf
  cases e) (λb hb hx=>n1 (aA.mp hx▸hb)) (λhx=>n2 (aA.mp hx)) λb r hr e hx=>by
  rw [aA.mp hx,hc] at e
  injection e with e
  injection e with e
  match r,hr with
  | x::r,_=>exact hi _ _ e
end
inductive dM (K:aa) (C:af) (A:CA) (Pt:af) (vs:List V) (H:Hp) (Q:VK) (E:XK):Prop
 | mk (a:AL) (n T:Nat) (ts:List Ti) (as:Nat->List af) (R:Nat->Nat->List Int) (lv:Nat) (t:af) (x y:Nat):vs=[.ref a.q,.int lv,.ref t]->Dq K C A->LV C A H a n T ts as R->n<=200->(∀ j,2^(j+1)<=n->j<=T)->Dn n T ts R x y (lv+1)->H t=some (.tup [.int x,.int y])->ts.length<99->qD Pt H->(∀ ts' as' R' H' (u:Tt),H u.p=none->H u.q=none->Eg H' u->LV C A H' a n T ts' as' R'->qD Pt H'->Fm (Pt::fp a) H H'->Jz ts ts'->(u.f=.non/\Dn n T ts' R' x y lv\/u.f≠.non/\Lv n T ts' R'/\Jn ts' R')->Q (.ref u.p) H')->dM K C A Pt vs H Q E
def zT:Rn (dM K C A Pt) (rR K C A (ck K C A) (cF K C A Pt) (dm K C A) (dr K C) (cp K C A)) Ub:=by
 rintro vs H Q E ⟨a,n,T,ts,as,R,lv,t,x,y,rfl,ct,h,hn,hT,D,ht,hlen,hP,k⟩
 have hlv:lv<=T:=by have:=D.hk;lia
 have hnd:=D.lv.nd;have f0:∀ {m:bh},¬ m="level_of"->¬ m="wooden"->¬ m="weight_of"->¬ m="woods"->(fL a.d1 a.d2 a.d3 a.L).lookup m=none:=λh1 h2 h3 h4=>Um h1 h2 h3 h4;unfold rR;k_in;refine ⟨a.q,a.dq,_,rfl,h.ob,f0 (by decide +kernel) (by decide +kernel) (by decide +kernel) (by decide +kernel),?_⟩;lk;refine ⟨a,n,T,ts,as,R,lv,t,x,y,rfl,ct,h,(by have:=bf (Nat.le_mul_of_pos_right _ (Xb lv)) (D.s2 lv (ja _));lia),hlv,D.ha,D.hb,ht,λq ks s o hso hle hq hks=>?_⟩
 have D':Dn n T ts R s o (lv+1):=by
  rcases hso with ⟨rfl,rfl⟩|⟨rfl,rfl⟩
  ·exact D
  ·exact D.swap
 have back:∀ {ts' R'},Dn n T ts' R' s o lv->Dn n T ts' R' x y lv:=λd=>by
  rcases hso with ⟨rfl,rfl⟩|⟨rfl,rfl⟩
  ·exact d
  ·exact d.swap
 have hs:((R lv s).length+1)*2^(lv+1)<=2*n:=by
  refine bf ?_ (D'.s2 lv (ja _));rw [CK,Nat.mul_comm (2^lv) 2,← Nat.mul_assoc];exact ke _ (by lia)
 generalize eu_:upd H q (.lst (ks.map V.int))=H1;obtain ⟨S1,g1⟩:=jZ eu_ hq;have h1:=h.same S1;k_in;refine ⟨a.q,a.dq,_,rfl,h1.ob,f0 (by decide +kernel) (by decide +kernel) (by decide +kernel) (by decide +kernel),?_⟩;lk;refine ⟨a,n,T,ts,as,R,lv,true,rfl,ct,h1,hnd,hlen,hP.same S1,λz0 zs H2 hz0 gz pz az P2 S2=>?_⟩;have h2:=h1.UC (hP.same S1) S2;have g2:H2 q=some (.lst (ks.map V.int)):=S2 _ _ ((hP.same S1).ne g1 (λ_ z=>nomatch z)) g1
 have hzl:zs.length<=ts.length:=by
  have:=xX (l:=zs.map zP) (m:=ts.map Ti.key) az.1 λp hp=>by
   obtain ⟨t,t1,_,_,t4⟩:=(az.2 p).mp hp;exact t4▸bq t1
  simpa using this
 refine ⟨z0,rfl,.inl ⟨⟨_,c9.of gz⟩,λacc hacc=>?_⟩⟩;have nacc:=h2.tG hacc;have nLacc:a.L≠acc:=aP h2.ls hacc;refine mw (n:=zs.length) (λi ys H4=>ys=((zs.take i).filter λz=>decide (ew z.1 z.2.1 ks=2)).map fo/\H4 acc=some (.lst ys)/\bL H2 H4) (λZ=>∃ o,Z=[o,some (.ref q)]) ⟨by simp,aE,bL.cD hacc⟩ ⟨_,rfl⟩ ?_ ?_ ?_ ?_
 ·rintro i ys H' ⟨_,h,_⟩;exact h
 ·rintro ys H3 ⟨rfl,g3,S3⟩;refine ⟨⟨_,c9.of (S3 _ _ gz),by rw [ag];exact ar _⟩,?_⟩;rw [bX (ar _)] at g3;generalize ew':zs.filter (λz=>decide (ew z.1 z.2.1 ks=2))=ws at g3
  have hws:∀ z,z∈ws↔z∈zs/\z.1∈ks/\z.2.1∈ks:=λz=>by rw [← ew',cw,decide_eq_true_iff,ew2]
  have wnd:(ws.map zP).Nodup:=by rw [← ew'];exact (iV.map _).nodup az.1
  have h3:=h2.same S3;have P3:=P2.same S3;have q3:=S3 _ _ g2;have pw:∀ z∈ws,fX H3 z:=λz hz=>S3 _ _ (pz z ((hws z).mp hz).1)
  have st:∀ z∈ws,∃ t∈ts,t.key=zP z/\t.wd=true/\t.cm=lv/\(t.x:Int)∈R lv s/\(t.y:Int)∈R lv s:=λz hz=>by
   obtain ⟨m1,m2,m3⟩:=(hws z).mp hz;obtain ⟨t,t1,t2,t3,t4⟩:=(az.2 (zP z)).mp (bq m1);obtain ⟨e1,e2⟩:=cB t4;exact ⟨t,t1,t4,t3,t2,by rw [e1];exact (hks _).mp m2,by rw [e2];exact (hks _).mp m3⟩
  lk;unfold oX;lk
  refine .inl ⟨⟨_,c9.of g3⟩,iY (K:=K) (a:=acc) (xs:=ws.map fo) (λi Z H4=>∃ ts1 as1 R1 o5 o6,Z=[some (.ref a.q),some (.int lv),some (.ref t),some (.ref q),some (.ref acc),o5,o6]/\LV C A H4 a n T ts1 as1 R1/\Zm n T lv s o ts R (ws.map zP) i ts1 R1/\Fm (fp a) H3 H4)
   ⟨ts,as,R,_,_,rfl,h3,⟨D',rfl,Jz.refl _,λt ht h1 h2 h3 h4=>?_,λp hp=>?_,λp hp=>?_⟩,Fm.refl⟩ ?_ ?_ ?_⟩
  ·obtain ⟨z,hz,e⟩:=a6.mp ((az.2 t.key).mpr ⟨t,ht,h2,h1,rfl⟩);obtain ⟨e1,e2⟩:=cB e;exact a6.mpr ⟨z,(hws z).mpr ⟨hz,by rw [e1];exact (hks _).mpr h3,by rw [e2];exact (hks _).mpr h4⟩,e⟩
  ·obtain ⟨z,hz,rfl⟩:=a6.mp hp;exact st z hz
  ·obtain ⟨z,hz,rfl⟩:=a6.mp hp;obtain ⟨t,h1,h2,h3,_⟩:=st z hz;exact ⟨t,h1,h2,h3⟩
  ·rintro i Z H4 _ ⟨_,_,_,_,_,_,_,_,F⟩;exact c9.of (F _ _ nacc g3)
  ·rintro i v Z H4 hi ⟨ts1,as1,R1,o5,o6,rfl,L4,M,F⟩;rw [ax] at hi;obtain ⟨z,hz,rfl⟩:=aW.mp hi;obtain ⟨u,u1,u2,u3,u4,u5,M'⟩:=M.step hT hs wnd (p:=zP z) (by rw [ax,hz];rfl);have hpz:=pw z (aL hz)
   have hpz4:H4 z.2.2=some (.tup [.int u.x,.int u.y]):=by
    obtain ⟨e1,e2⟩:=cB u2;rw [e1,e2];exact F _ _ (h3.vh hpz) hpz
   obtain ⟨l1,l2,_⟩:=M.dn.lv.lt u u1
   have hl1:ts1.length=ts.length:=by have:=congrArg dR M.ks.1;simpa using this
   k_in;refine ⟨a.q,a.dq,_,rfl,L4.ob,f0 (by decide +kernel) (by decide +kernel) (by decide +kernel) (by decide +kernel),?_⟩;lk;refine ⟨a,n,T,ts1,as1,R1,z.2.2,u,rfl,ct,L4,by lia,u1,M.dn.lv.nd,by lia,l2,λ_=>⟨u4,u5⟩,hpz4,by lia,λas' R' H5 L5 eR F5=>?_⟩;rw [u3,if_pos rfl] at eR;subst eR;exact ⟨_,as',_,_,_,rfl,L5,M',F.trans F5⟩
  ·rintro Z H4 ⟨ts1,as1,R1,o5,o6,rfl,L4,M,F⟩;rw [ag] at M;have P4:=P3.fm h3 F;have a4:=F _ _ nacc g3;have q4:=F _ _ (h3.Wm q3) q3;have ed:(ws.map zP).drop ws.length=[]:=Oi.mpr (by rw [ag];exact ar _)
   have hno:∀ t∈ts1,t.wd=true->t.cm=lv->(t.x:Int)∈R1 lv s->(t.y:Int)∈R1 lv s->False:=λt h1 h2 h3 h4 h5=>by
    rw [M.rl] at h4 h5;have:=M.pend t h1 h2 h3 h4 h5;rw [ed] at this;cases this
   have hl1:ts1.length=ts.length:=by have:=congrArg dR M.ks.1;simpa using this
   have hs1:((R1 lv s).length+1)*2^(lv+1)<=2*n:=by rw [M.rl];exact hs
   have hks1:∀ z,z∈ks↔z∈R1 lv s:=by rw [M.rl];exact hks
   lk;unfold oY;k_in;refine ⟨a.q,a.dq,_,rfl,L4.ob,f0 (by decide +kernel) (by decide +kernel) (by decide +kernel) (by decide +kernel),?_⟩;lk;refine ⟨a,n,T,ts1,as1,R1,lv,false,rfl,ct,L4,M.dn.lv.nd,by lia,P4,λz5 zs3 H5 hz5 gz5 pz5 az5 P5 S5=>?_⟩;have L5:=L4.UC P4 S5;have a5:H5 acc=some (.lst (ws.map fo)):=S5 _ _ (P4.ne a4 (λ_ z=>nomatch z)) a4;have q5:H5 q=some (.lst (ks.map V.int)):=S5 _ _ (P4.ne q4 (λ_ z=>nomatch z)) q4;have nqa:q≠acc:=aP g2 hacc;have n5a:z5≠acc:=Ne.symm (aP a4 hz5);have n5f:=L4.tG hz5;have n3:(zs3.map zP).Nodup:=az5.1
   have hcnt:ws.length+zs3.length<=ts.length:=by
    have:=xX (l:=ws.map zP++zs3.map zP) (m:=ts1.map Ti.key) (gC.mpr ⟨wnd,n3,λp hp p' hp' e=>by
     subst e;obtain ⟨t,t1,t2,t3⟩:=M.all p hp;obtain ⟨t',s1,_,s3,s4⟩:=(az5.2 p).mp hp';rw [n5 M.dn.lv.nd t1 s1 (t2.trans s4.symm),s3] at t3
     cases t3⟩) λp hp=>by
      rcases aN.mp hp with hp|hp
      ·obtain ⟨t,t1,t2,_⟩:=M.all p hp;exact t2▸bq t1
      ·obtain ⟨t,t1,_,_,t4⟩:=(az5.2 p).mp hp;exact t4▸bq t1
    simp at this;lia
   -- from the beginning to here
   have F5:Fm (Pt::fp a) H H5:=λb o hb e=>by
    rw [av,not_or] at hb;exact S5 _ _ hb.1 (F _ _ hb.2 (S3 _ _ (S2 _ _ hb.1 (S1 _ _ e))))
   have fr:∀ {b:af},H5 b=none->H b=none:=λ{b} e=>F5.free (λz=>by
    rcases av.mp z with z|z
    ·obtain ⟨ps,q⟩:=P5.tbl;rw [z,q] at e;cases e
    ·exact L5.tG e z) e
   have hacc0:H acc=none:=by
    cases z:H acc with
    | none=>rfl
    | some u =>
     have:H1 acc=some u:=S1 _ _ z
     by_cases c:acc=Pt
     ·obtain ⟨ps,q⟩:=P2.tbl;rw [← c,hacc] at q;cases q
     ·rw [S2 _ _ c this] at hacc;cases hacc
   have Lf:∀ {H6},Fm (acc::fp a) H5 H6->H6 q=some (.lst (ks.map V.int)):=λF=>F _ _ (λz=>(av.mp z).elim nqa (L5.Wm q5)) q5
   -- the step told
   have told:∀ {ts2 as2 R2 H6} {rs:List Zt}(f:V),LV C A H6 a n T ts2 as2 R2->qD Pt H6->Fm (acc::fp a) H5 H6->H6 acc=some (.lst (rs.map fo))->(∀ z∈rs,fX H6 z)->rs.length<99->Jz ts ts2->(f=.non/\Dn n T ts2 R2 x y lv\/f≠.non/\Lv n T ts2 R2/\Jn ts2 R2) ->
     ∀ G:VK,(∀ v H7,(∀ p,H7 p=none->Q (.ref p) (upd H7 p (.tup [.int lv,.ref q,v,f])))->G v H7)->rm K [.ref acc] H6 G:=λ{ts2 as2 R2 H6 rs} f L6 P6 F6 g6 p6 hl6 hk hf G kG=>by
    have fr6:∀ {b:af},H6 b=none->H b=none:=λ{b} e=>fr (F6.free (λz=>by
     rcases av.mp z with z|z
     ·rw [z,g6] at e;cases e
     ·exact L6.tG e z) e)
    refine ⟨acc,rs.map (λz=>([z.1,z.2.1],z.2.2)),[false],rfl,by rw [bK];exact c9.of g6,λz hz=>let ⟨u,hu,e⟩:=a6.mp hz;e▸⟨_,p6 u hu,.int _ (.int _ .nil)⟩,by rw [ag];lia,λl rs' hl _ _=>kG _ _ λp hp=>?_⟩;have S7:=bL.cD (o:=.lst (rs'.map lF)) hl;have g7:(upd H6 l (.lst (rs'.map lF))) l=some (.lst (rs'.map lF)):=aE;generalize upd H6 l (.lst (rs'.map lF))=H7 at S7 g7 hp;have S8:=bL.cD (o:=.tup [.int lv,.ref q,.ref l,f]) hp;have S78:=S7.trans S8;exact k ts2 as2 R2 _ ⟨p,q,l,lv,rs'.map lF,f⟩ (fr6 (S7.free hp)) (fr6 hl) ⟨aE,S8 _ _ g7⟩ (L6.same S78) (P6.same S78) (F5.skip ((F6.mono λb hb=>(av.mp hb).elim (λz=>z▸aw) λz=>aj _ (aj _ z)).trans (Fm.of S78)) hacc0) hk hf
   refine ⟨z5,rfl,.inl ⟨⟨_,c9.of gz5⟩,iY (K:=K) (a:=z5) (xs:=zs3.map fo) (λi Z H6=>∃ ts2 as2 rs o5 o6,Z=[some (.ref a.q),some (.int lv),some (.ref t),some (.ref q),some (.ref acc),o5,o6]/\LV C A H6 a n T ts2 as2 R1/\qD Pt H6/\NI n T lv s o ts R1 (zs3.map zP) i ts2/\H6 acc=some (.lst (rs.map fo))/\(∀ z∈rs,fX H6 z)/\rs.length<=ws.length+i/\Fm (acc::fp a) H5 H6)
    ⟨ts1,as1,ws,_,_,rfl,L5,P5,⟨M.dn,M.ks,λh x y hx hy h1 h2=>M.dn.full hno h hx hy h1 h2,λp hp=>?_,λt h1 h2 h3=>.inl ?_⟩,a5,λz hz=>S5 _ _ (P4.ne (F _ _ (h3.vh (pw z hz)) (pw z hz)) (λ_ z=>nomatch z)) (F _ _ (h3.vh (pw z hz)) (pw z hz)),ar _,Fm.refl⟩ ?_ ?_ ?_⟩⟩
   ·obtain ⟨t,t1,t2,t3,t4⟩:=(az5.2 p).mp hp;exact ⟨t,t1,t4,t3,t2⟩
   ·exact (az5.2 t.key).mpr ⟨t,h1,h3,h2,rfl⟩
   ·rintro i Z H6 _ ⟨_,_,_,_,_,_,_,_,_,_,_,_,F6⟩;exact c9.of (F6 _ _ (λz=>(av.mp z).elim n5a n5f) gz5)
   ·rintro i v Z H6 hi ⟨ts2,as2,rs,o5,o6,rfl,L6,P6,N,g6,p6,hl6,F6⟩;rw [ax] at hi;obtain ⟨z,hz,rfl⟩:=aW.mp hi;have hilt:i<zs3.length:=(aC.mp hz).1
    have hpi:(zs3.map zP)[i]?=some (zP z):=by rw [ax,hz];rfl
    have hz5:=pz5 z (aL hz);have hz6:H6 z.2.2=some (.tup [.int z.1,.int z.2.1]):=F6 _ _ (λe=>(av.mp e).elim (gh hz5 a5) (L5.vh hz5)) hz5
    have hl2:ts2.length=ts.length:=by have:=congrArg dR N.ks.1;simpa using this
    lk;refine ⟨z.2.2,q,z.1,z.2.1,ks,rfl,hz6,Lf F6,λH7 S7=>?_⟩;have L7:=L6.same S7;have P7:=P6.same S7;have F7:=F6.trans (Fm.of S7);have g7:=S7 _ _ g6;have hz7:=S7 _ _ hz6;have p7:∀ z∈rs,fX H7 z:=λz hz=>S7 _ _ (p6 z hz);lk;refine qf (λc=>?_) λc=>?_
    ·have c:ew z.1 z.2.1 ks=1:=by have:=lE.mp c;lia
     have c:=ew1.mp c;rw [hks1,hks1] at c;obtain ⟨u,u1,u2,u3,u4,u5⟩:=N.one n3 hpi c;obtain ⟨l1,l2,l3⟩:=N.dn.lv.lt u u1;obtain ⟨e1,e2⟩:=cB u2;k_in;refine ⟨a.q,a.dq,_,rfl,L7.ob,f0 (by decide +kernel) (by decide +kernel) (by decide +kernel) (by decide +kernel),?_⟩;lk;refine ⟨a,n,T,ts2,as2,R1,z.2.2,u,rfl,ct,L7,by lia,u1,N.dn.lv.nd,by lia,l2,l3,u3,by rw [e1,e2];exact hz7,by lia,λas' H8 L8 F8=>?_⟩;lk;refine told (rs:=rs) (.ref z.2.2) L8 (P7.fm L7 F8) (F7.trans F8.tail) (F8 _ _ nacc g7) (λz hz=>F8 _ _ (L7.vh (p7 z hz)) (p7 z hz)) (by lia) (N.ks.set Ti.inR _) (.inr ⟨(λz=>nomatch z),u4,u5⟩) _ λv H9 kk=>?_;lk;exact ⟨bM (m:=4) (ar 4),kk⟩
    ·lk;have c1:¬ ew z.1 z.2.1 ks=1:=λe=>c (by rw [e];rfl);refine qf (λc=>?_) λc=>?_
     ·have c:ew z.1 z.2.1 ks=2:=by have:=lE.mp c;lia
      have c:=ew2.mp c;rw [hks1,hks1] at c;obtain ⟨u,u1,u2,u3,N'⟩:=N.two hT hs1 n3 hpi c.1 c.2;obtain ⟨l1,l2,l3⟩:=N.dn.lv.lt u u1;obtain ⟨e1,e2⟩:=cB u2;k_in;refine ⟨a.q,a.dq,_,rfl,L7.ob,f0 (by decide +kernel) (by decide +kernel) (by decide +kernel) (by decide +kernel),?_⟩;lk;refine ⟨a,n,T,ts2,as2,R1,z.2.2,u,rfl,ct,L7,by lia,u1,N.dn.lv.nd,by lia,l2,(λe=>by rw [u3] at e;cases e),by rw [e1,e2];exact hz7,by lia,λas' R' H8 L8 eR F8=>?_⟩;rw [u3,if_neg (by decide)] at eR;subst eR;have g8:=F8 _ _ nacc g7;have hz8:=F8 _ _ (L7.vh hz7) hz7;lk;refine ⟨.inl ⟨rfl,_,c9.of g8⟩,?_⟩;lk;refine rg g8 (dU (m:=100) (by rw [ag];lia)) ?_
      have ne:∀ {b:af}{o:HO},H8 b=some o->(∀ xs,o≠.lst xs)->(upd H8 acc (.lst (rs.map fo++[.ref z.2.2]))) b=some o:=λ{b o} e hno=>by rw [aH];exact e;rintro rfl;rw [g8] at e;cases e;exact hno _ rfl
      refine ⟨_,as',rs++[z],_,_,rfl,L8.app g8 (by intro i r e;cases rs<;>cases e) nacc nLacc,(P7.fm L7 F8).keep λb o _ h2 _ _ e=>ne e h2,N',by rw [aE,aU];rfl,λz' hz'=>ne ?_ (λ_ z=>nomatch z),by rw [bu];simp;lia,(F7.trans F8.tail).trans (Fm.upd aw)⟩
      rcases aN.mp hz' with hz'|hz'
      ·exact F8 _ _ (L7.vh (p7 z' hz')) (p7 z' hz')
      ·rw [aA.mp hz'];exact hz8
     ·have c2:¬ ew z.1 z.2.1 ks=2:=λe=>c (by rw [e];rfl);lk
      have c3:z.1∉R1 lv s/\z.2.1∉R1 lv s:=by
       rw [← hks1,← hks1];rw [ew1] at c1;rw [ew2] at c2
       by_cases d1:z.1∈ks<;>by_cases d2:z.2.1∈ks<;>simp_all
      exact ⟨ts2,as2,rs,_,_,rfl,L7,P7,N.zero n3 hpi c3.1 c3.2,g7,p7,by lia,F7⟩
   ·rintro Z H6 ⟨ts2,as2,rs,o5,o6,rfl,L6,P6,N,g6,p6,hl6,F6⟩;rw [ag] at N hl6;lk;refine told (rs:=rs) .non L6 P6 F6 g6 p6 (by lia) N.ks (.inl ⟨rfl,back (N.fin (by rw [ag];exact ar _))⟩) _ λv H9 kk=>?_;lk;exact ⟨bM (m:=4) (ar 4),kk⟩
 ·rintro i ys H' hi ⟨e,h,S'⟩;exact ⟨_,_,c9.of (S' _ _ gz),by rw [ax,ay hi];rfl⟩
 ·rintro i ys σ' H' v H3 hi ⟨rfl,hl,S'⟩ ⟨o',rfl⟩ ⟨e2,hx⟩;subst e2;have hxi:=hx _ (c9.of (S' _ _ gz));rw [ax,ay hi] at hxi;have hv:=(aV hxi).symm;subst hv
  have et:zs.take (i+1)=zs.take i++[zs[i]]:=by rw [dI,ay hi];rfl
  lk;refine ⟨zs[i].2.2,q,zs[i].1,zs[i].2.1,ks,rfl,S' _ _ (pz _ (gZ hi)),S' _ _ g2,λH4 S4=>?_⟩;lk;refine qf (λc=>?_) λc=>?_
  ·have c:ew zs[i].1 zs[i].2.1 ks=2:=by have:=lE.mp c;lia
   lk;refine ⟨S4 _ _ hl,dU (m:=1000) (by rw [ag];exact bw (cT _ _) (by rw [bB];lia)),kF.mk' hi ⟨_,rfl⟩ ⟨?_,aE,λb o e=>by rw [aH (aP e hacc)];exact S4 _ _ (S' _ _ e)⟩⟩;rw [et,dv,aU];simp [c]
  ·have c:¬ ew zs[i].1 zs[i].2.1 ks=2:=λe=>c (by rw [e];rfl);refine kF.mk' hi ⟨_,rfl⟩ ⟨?_,S4 _ _ hl,S'.trans S4⟩;rw [et,dv,aU];simp [c]
inductive eZ (K:aa) (C:af) (A:CA) (Pt:af) (vs:List V) (H:Hp) (Q:VK) (E:XK):Prop
 | mk (a:AL) (n T:Nat) (ts:List Ti) (as:Nat->List af) (R:Nat->Nat->List Int) (t:af) (u:Ti):vs=[.ref a.q,.ref t]->Dq K C A->LV C A H a n T ts as R->n<=200->T<=10->(∀ j,2^(j+1)<=n->j<=T)->Lv n T ts R->Jn ts R->u∈ts->H t=some (.tup [.int u.x,.int u.y])->ts.length<99->qD Pt H->(∀ (q:af) (us:List Tt) (ts':List Ti) (as':Nat->List af) (R':Nat->Nat->List Int) (H':Hp),H q=none->H' q=some (.lst (us.map qC))->(∀ v∈us,Eg H' v)->us.length<=1000->LV C A H' a n T ts' as' R'->Lv n T ts' R'->Jn ts' R'->Jz (ts.filter λv=>decide (v.key≠u.key)) ts'->qD Pt H'->Fm (Pt::fp a) H H'->Q (.ref q) H')->eZ K C A Pt vs H Q E
def zU:Rn (eZ K C A Pt) (rS K C A (dJ K C A) (dM K C A Pt)) Uh:=by
 rintro vs H Q E ⟨a,n,T,ts,as,R,t,u,rfl,ct,h,hn,hT10,hT,L,J,hu,ht,hlen,hP,k⟩;obtain ⟨l1,l2,l3⟩:=L.lt u hu;unfold rS;k_go;refine ⟨a.q,A.bE,a.dq,_,_,rfl,h.ob,ct.lc,ct.l1,N5,?_⟩;lk;refine .inr ⟨a.d1,.int u.cm,rfl,.inr ⟨_,pk u.x u.y,t,.inl h.e1,rfl,ht,(hJ (f:=λt=>V.int t.cm) L.nd hu).symm⟩,?_⟩;k_go;refine ⟨a.q,A.bE,a.dq,_,_,rfl,h.ob,ct.lc,ct.l2,SC,?_⟩;lk;refine .inr ⟨a.d2,.bl u.wd,rfl,.inr ⟨_,pk u.x u.y,t,.inl h.e2,rfl,ht,(hJ (f:=λt=>V.bl t.wd) L.nd hu).symm⟩,?_⟩;k_in;refine ⟨a.q,a.dq,_,rfl,h.ob,Um,?_⟩;lk;refine ⟨a,n,T,ts,as,R,t,u,rfl,ct,h,by lia,hu,L.nd,by lia,l2,by lia,l3,λhw i hi=>(L.ed i (by lia) _ _).mpr ⟨u,hu,hw,hi,.inl rfl⟩,ht,λas1 R1 H1 h1 eR F1=>?_⟩;have P1:=hP.fm h F1;have ht1:=F1 _ _ (h.vh ht) ht;lk;refine ⟨bM (m:=0) (ar 0),λtr htr=>?_⟩;have S2:=bL.cD (o:=.lst []) htr;have g2:(upd H1 tr (.lst [])) tr=some (.lst []):=aE;have ntf:=h1.tG htr
 have ntP:tr≠Pt:=λz=>by
  obtain ⟨ps,q⟩:=P1.tbl;rw [z,q] at htr;cases htr
 have ntL:a.L≠tr:=aP h1.ls htr;have htr0:H tr=none:=F1.free ntf htr;generalize upd H1 tr (.lst [])=H2 at S2 g2;have h2:=h1.same S2;have P2:=P1.same S2;have ht2:=S2 _ _ ht1;have F2:Fm (Pt::fp a) H H2:=(F1.trans (Fm.of S2)).tail;generalize ef:(ts.filter λv=>decide (v.key≠u.key))=tf at h1 h2 k
 have hlf:tf.length<=ts.length:=by rw [← ef];exact cT _ _
 lk;unfold oZ
 refine vH (λZ H3=>∃ (ts1:List Ti) (as1:Nat->List af) (R1:Nat->Nat->List Int) (us:List Tt) (lv:Int) (b:Bool),Z=[some (.ref a.q),some (.ref t),some (.int lv),some (.bl b),some (.ref tr)]/\LV C A H3 a n T ts1 as1 R1/\qD Pt H3/\H3 tr=some (.lst (us.map qC))/\(∀ v∈us,Eg H3 v/\v.q∉tr::Pt::fp a)/\Fm (tr::Pt::fp a) H2 H3/\Jz tf ts1 /\
  ((b=true/\∃ kk:Nat,lv=(kk:Int)-1/\Dn n T ts1 R1 u.x u.y kk/\us.length+kk<=T+1)\/b=false/\Lv n T ts1 R1/\Jn ts1 R1/\us.length<=T+1)) (λZ _=>match Z with|[_,_,some (.int lv),_,_]=>(lv+1).toNat|_=>0) ?_ ?_
 ·refine ⟨tf,as1,R1,[],u.cm,u.wd,rfl,h2,P2,g2,(λv hv=>nomatch hv),Fm.refl,Jz.refl _,?_⟩
  cases hw:u.wd with
  | true =>
   rw [hw,if_pos rfl] at eR;subst eR
   exact .inl ⟨rfl,u.cm+1,by lia,ef▸L.drop J hu hw,by simp;lia⟩
  | false =>
   rw [hw,if_neg (by decide)] at eR;subst eR;obtain ⟨L',J'⟩:=L.YB J hu hw;exact .inr ⟨rfl,ef▸L',ef▸J',by simp⟩
 ·rintro Z H3 ⟨ts1,as1,R1,us,lv,b,rfl,h3,P3,g3,u3,F3,hk,hc⟩;have fin:Lv n T ts1 R1->Jn ts1 R1->us.length<=T+1->Q (.ref tr) H3:=λL' J' hl=>k tr us ts1 as1 R1 H3 htr0 g3 (λv hv=>(u3 v hv).1) (by lia) h3 L' J' hk P3 (F2.skip F3 htr0);lk;refine ⟨_,rfl,?_⟩
  cases b with
  | false =>
   refine iQ (iQ ?_);lk
   rcases hc with ⟨z,_⟩|⟨_,L',J',hl⟩
   ·cases z
   ·exact fin L' J' hl
  | true =>
   refine lU ?_;lk
   obtain ⟨kk,rfl,D,hl⟩:∃ kk:Nat,lv=(kk:Int)-1/\Dn n T ts1 R1 u.x u.y kk/\us.length+kk<=T+1:=by
    rcases hc with ⟨_,h⟩|⟨z,_⟩
    ·exact h
    ·cases z
   refine qf (λc=>⟨_,LN,?_⟩) λc=>?_
   ·obtain ⟨m,rfl⟩:∃ m,kk=m+1:=⟨kk-1,by lia⟩
    rw [show ((m+1:Nat):Int)-1=(m:Int) by lia]
    have hl1:ts1.length=tf.length:=by have:=congrArg dR hk.1;simpa using this
    lk;refine ⟨.inl ⟨rfl,_,c9.of g3⟩,?_⟩;k_in;refine ⟨a.q,a.dq,_,rfl,h3.ob,Um,?_⟩;lk
    have nt3:t∉tr::Pt::fp a:=by
     simp only [av,not_or];exact ⟨gh ht2 g2,P2.ne ht2 (λ_ z=>nomatch z),h2.vh ht2⟩
    refine ⟨a,n,T,ts1,as1,R1,m,t,u.x,u.y,rfl,ct,h3,hn,hT,D,F3 _ _ nt3 ht2,by lia,P3,λts4 as4 R4 H4 v hp hq ok h4 P4 F4 hk4 hD=>?_⟩;have g4:H4 tr=some (.lst (us.map qC)):=F4 _ _ (by simp only [av,not_or];exact ⟨ntP,ntf⟩) g3
    have nvq:v.q∉tr::Pt::fp a:=by
     simp only [av,not_or];refine ⟨Ne.symm (aP g3 hq),λz=>?_,h3.tG hq⟩;obtain ⟨ps,q⟩:=P3.tbl;rw [z,q] at hq;cases hq
    lk;refine rg g4 (dU (m:=100) (by rw [ag];lia)) ?_
    have ne:∀ {b:af}{o:HO},H4 b=some o->(∀ xs,o≠.lst xs)->(upd H4 tr (.lst (us.map qC++[.ref v.p]))) b=some o:=λ{b o} e hno=>by rw [aH];exact e;rintro rfl;rw [g4] at e;cases e;exact hno _ rfl
    have g5:(upd H4 tr (.lst (us.map qC++[.ref v.p]))) tr=some (.lst ((us++[v]).map qC)):=by rw [aE,aU];rfl
    have h5:LV C A (upd H4 tr (.lst (us.map qC++[.ref v.p]))) a n T ts4 as4 R4:=h4.app g4 (by intro i r e;cases us<;>cases e) ntf ntL;have P5:qD Pt (upd H4 tr (.lst (us.map qC++[.ref v.p]))):=P4.keep λb o _ h2 _ _ e=>ne e h2
    have ok5:Eg (upd H4 tr (.lst (us.map qC++[.ref v.p]))) v:=⟨ne ok.1 (λ_ z=>nomatch z),by rw [aH λz=>nvq (by rw [z];exact aw)];exact ok.2⟩
    have u5:∀ w∈us,Eg (upd H4 tr (.lst (us.map qC++[.ref v.p]))) w:=λw hw=>by
     obtain ⟨⟨o1,o2⟩,o3⟩:=u3 w hw
     have n1:w.p∉Pt::fp a:=by simp only [av,not_or];exact ⟨P3.ne o1 (λ_ z=>nomatch z),h3.vh o1⟩
     refine ⟨ne (F4 _ _ n1 o1) (λ_ z=>nomatch z),?_⟩;rw [aH λz=>o3 (by rw [z];exact aw)];exact F4 _ _ (λz=>o3 (aj _ z)) o2
    have F5:Fm (tr::Pt::fp a) H2 (upd H4 tr (.lst (us.map qC++[.ref v.p]))):=(F3.trans F4.tail).trans (Fm.upd aw);generalize upd H4 tr (.lst (us.map qC++[.ref v.p]))=H5 at g5 h5 P5 ok5 u5 F5 ne;lk;refine lu (c9.of g5) (v:=.ref v.p) ?_ ?_
    ·rw [aU];exact OF _ _
    refine fO (ku.of ok5.1) (eE (j:=3) rfl rfl) ?_;lk;refine ⟨⟨ts4,as4,R4,us++[v],(m:Int)-1,decide (v.f=.non),rfl,h5,P5,g5,λw hw=>?_,F5,hk.trans hk4,?_⟩,?_⟩
    ·rcases aN.mp hw with hw|hw
     ·exact ⟨u5 w hw,(u3 w hw).2⟩
     ·rw [aA.mp hw];exact ⟨ok5,nvq⟩
    ·rcases hD with ⟨e,D4⟩|⟨e,L4,J4⟩
     ·exact .inl ⟨decide_eq_true e,m,rfl,D4,by simp;lia⟩
     ·exact .inr ⟨decide_eq_false e,L4,J4,by simp;lia⟩
    ·show ((m:Int)-1+1).toNat<((m:Int)+1).toNat
     lia
   ·lk
    have:kk=0:=by lia
    subst this;exact fin D.lv D.done (by lia)
def KJ {sp:Sp}{dvs:List V}{E:XK}{t:TA}{Z:L2.St}(h:t Z H λvs H1=>∀ x dx,H1 x=none->H1 dx=none->dx≠x->sp (.ref x::(vs++dvs)) (upd (upd H1 dx (.own x)) x (.ins C dx [])) (λv H2=>v=.non/\Q (.ref x) H2) E):HB C sp dvs E t Z H Q:=h
def Gc {Z:L2.St}(h:∀ p,H p=none->Q (.ref p) (upd H p (.dT []))):qX Z H Q:=h
def Top.small {n:Int}{j:Nat}(h:Top n j) (hn:n<=200):j<8:=by
 rcases h.1 with z|z
 ·lia
 ·by_cases c:j<8
  ·exact c
  ·have:(2:Int)^8<=2^j:=by
    have e:(2:Int)^j=2^(j-8)*2^8:=by rw [← Int.pow_add];congr 1;lia
    have h1:(1:Int)<=2^(j-8):=IJ (j-8);rw [e];have:=Int.mul_le_mul_of_nonneg_right h1 (show (0:Int)<=2^8 by decide);lia
   have e8:(2:Int)^8=256:=by decide
   lia
def WA.out {c:af}{as:List af}{R:Nat->List Int}{o:HO}(W:WA C H p dx l n as R) (h1:p≠c) (h2:l≠c) (h3:∀ a∈as,a≠c):WA C (upd H c o) p dx l n as R :=
 ⟨by rw [aH h1];exact W.ob,by rw [aH h2];exact W.rl,W.len,λi a h=>by rw [aH (h3 a (aL h))];exact W.at_ i a h,W.ne⟩
inductive cM (K:aa) (C:af) (A:CA) (vs:List V) (H:Hp) (Q:VK) (E:XK):Prop
 | mk (q dq:af) (n:Nat):vs=[.ref q,.int n]->H q=some (.ins A.bE dq [])->Dq K C A->1<=n->n<=200->(∀ (a:AL) (T:Nat) (as:Nat->List af) (H':Hp),a.q=q->a.dq=dq->LV C A H' a n T [] as (λ_ i=>[(i:Int)])->Top n T->a8 q H H'->(∀ b∈a.L::fp a,H b=none)->Q .non H')->cM K C A vs H Q E
def tD:Rn (cM K C A) (m5 K C A (fu K C) (pT K C)) qg:=by
 rintro vs H Q E ⟨q,dq,n,rfl,hq,ct,hn1,hn2,k⟩;unfold m5;k_ne;refine lI (Gc λd1 hd1=>?_);lk;have nq1:q≠d1:=aP hq hd1;refine ⟨q,A.bE,dq,[],rfl,by rw [aH nq1];exact hq,ct.lc,ct.l1,by decide,?_⟩;have g1:(upd (upd H d1 (.dT [])) q (.ins A.bE dq (dP "level_of" (.ref d1) []))) q=some (.ins A.bE dq [("level_of",.ref d1)]):=aE
 have e1:(upd (upd H d1 (.dT [])) q (.ins A.bE dq (dP "level_of" (.ref d1) []))) d1=some (.dT []):=by rw [aH (Ne.symm nq1)];exact aE
 have B1:a8 q H (upd (upd H d1 (.dT [])) q (.ins A.bE dq (dP "level_of" (.ref d1) []))):=λb o e hb=>by rw [aH hb,aH (aP e hd1)];exact e
 generalize upd (upd H d1 (.dT [])) q (.ins A.bE dq (dP "level_of" (.ref d1) []))=H1 at g1 e1 B1;dsimp only;k_ne;refine lI (Gc λd2 hd2=>?_);lk;have nq2:q≠d2:=aP g1 hd2;refine ⟨q,A.bE,dq,_,rfl,by rw [aH nq2];exact g1,ct.lc,ct.l2,by show 1<1000;decide,?_⟩;rw [dX (by decide +kernel)];have g2:(upd (upd H1 d2 (.dT [])) q (.ins A.bE dq (("level_of",.ref d1)::dP "wooden" (.ref d2) []))) q=some (.ins A.bE dq [("level_of",.ref d1),("wooden",.ref d2)]):=aE
 have e2:(upd (upd H1 d2 (.dT [])) q (.ins A.bE dq (("level_of",.ref d1)::dP "wooden" (.ref d2) []))) d2=some (.dT []):=by rw [aH (Ne.symm nq2)];exact aE
 have B2:a8 q H1 (upd (upd H1 d2 (.dT [])) q (.ins A.bE dq (("level_of",.ref d1)::dP "wooden" (.ref d2) []))):=λb o e hb=>by rw [aH hb,aH (aP e hd2)];exact e
 have ND:d1≠d2:=aP e1 hd2;generalize upd (upd H1 d2 (.dT [])) q (.ins A.bE dq (("level_of",.ref d1)::dP "wooden" (.ref d2) []))=H2 at g2 e2 B2;dsimp only;k_ne;refine lI (Gc λd3 hd3=>?_);lk;have nq3:q≠d3:=aP g2 hd3;refine ⟨q,A.bE,dq,_,rfl,by rw [aH nq3];exact g2,ct.lc,ct.l3,by show 2<1000;decide,?_⟩;rw [dX (by decide +kernel),dX (by decide +kernel)];have g3:(upd (upd H2 d3 (.dT [])) q (.ins A.bE dq (("level_of",.ref d1)::("wooden",.ref d2)::dP "weight_of" (.ref d3) []))) q=some (.ins A.bE dq [("level_of",.ref d1),("wooden",.ref d2),("weight_of",.ref d3)]):=aE
 have e3:(upd (upd H2 d3 (.dT [])) q (.ins A.bE dq (("level_of",.ref d1)::("wooden",.ref d2)::dP "weight_of" (.ref d3) []))) d3=some (.dT []):=by rw [aH (Ne.symm nq3)];exact aE
 have B3:a8 q H2 (upd (upd H2 d3 (.dT [])) q (.ins A.bE dq (("level_of",.ref d1)::("wooden",.ref d2)::dP "weight_of" (.ref d3) []))):=λb o e hb=>by rw [aH hb,aH (aP e hd3)];exact e
 have Rg:d2≠d3:=aP e2 hd3;have QU:d1≠d3:=aP (B2 _ _ e1 (Ne.symm nq1)) hd3;generalize upd (upd H2 d3 (.dT [])) q (.ins A.bE dq (("level_of",.ref d1)::("wooden",.ref d2)::dP "weight_of" (.ref d3) []))=H3 at g3 e3 B3;have B:=(B1.trans B2).trans B3;have f1:=B3 _ _ (B2 _ _ e1 (Ne.symm nq1)) (Ne.symm nq1);have f2:=B3 _ _ e2 (Ne.symm nq2)
 have fr:∀ {b:af},b≠q->H3 b=none->H b=none:=λ{b} hb e=>by
  cases z:H b with
  | none=>rfl
  | some o=>rw [B _ _ z hb] at e;cases e
 have fr2:∀ {b:af},b≠q->H2 b=none->H b=none:=λ{b} hb e=>by
  cases z:H b with
  | none=>rfl
  | some o=>rw [(B1.trans B2) _ _ z hb] at e;cases e
 have fr1:∀ {b:af},b≠q->H1 b=none->H b=none:=λ{b} hb e=>by
  cases z:H b with
  | none=>rfl
  | some o=>rw [B1 _ _ z hb] at e;cases e
 dsimp only;refine lI ?_;lk;refine ⟨n,rfl,λj hj=>?_⟩;have hj8:=hj.small (by lia);lk;refine ⟨by lia,by lia,λacc hacc=>?_⟩
 have e0:(((j:Int)+1)).toNat=j+1:=by lia
 rw [e0];refine mw (n:=j+1) (λt ys H4=>H4 acc=some (.lst ys)/\bL H3 H4/\∃ (ws:List (af×af×af)) (as:Nat->List af),ys=ws.map (λw=>V.ref w.1)/\ws.length=t/\(ws.map (·.2.2)).Nodup/\∀ (i:Nat) w,ws[i]?=some w->WA C H4 w.1 w.2.1 w.2.2 n (as i) (λi=>[(i:Int)])/\H3 w.2.2=none/\w.1≠acc/\w.2.2≠acc/\∀ b∈as i,b≠acc) (λZ=>∃ o,Z=[o,some (.int n)]) ⟨aE,bL.cD hacc,[],λ_=>[],rfl,rfl,oz,λi w hw=>nomatch hw⟩ ⟨_,rfl⟩ ?_ ?_ ?_ ?_
 ·rintro t ys H4 ⟨h,_⟩;exact h
 ·rintro ys H4 ⟨g4,S4,ws,as,rfl,hl,nd,hw⟩;refine ⟨ar _,?_⟩;lk;refine ⟨q,A.bE,dq,_,rfl,S4 _ _ g3,ct.lc,ct.l4,by show 3<1000;decide,?_⟩;rw [dX (by decide +kernel),dX (by decide +kernel),dX (by decide +kernel)]
  have naq:acc≠q:=λz=>by rw [z,g3] at hacc;cases hacc
  have hb:a8 q H4 (upd H4 q (.ins A.bE dq (("level_of",.ref d1)::("wooden",.ref d2)::("weight_of",.ref d3)::dP "woods" (.ref acc) []))):=a8.upd
  have nl:∀ {b:af}{o:HO},H4 b=some o->(∀ x y z,o≠.ins x y z)->b≠q:=λ{b o} e hno z=>by rw [z,S4 _ _ g3] at e;cases e;exact hno _ _ _ rfl
  refine k ⟨q,dq,d1,d2,d3,acc,ws⟩ j as _ rfl rfl ⟨aE,hb _ _ (S4 _ _ f1) (Ne.symm nq1),hb _ _ (S4 _ _ f2) (Ne.symm nq2),hb _ _ (S4 _ _ e3) (Ne.symm nq3),hb _ _ g4 naq,hl,λi w hi=>?_,λ_ _=>Wd.start n,hn1,ND,QU,Rg,nd,λw hm=>?_⟩ hj (λb o e hne=>hb _ _ (S4 _ _ (B _ _ e hne)) hne) λb hb=>?_
  ·obtain ⟨W,_⟩:=hw i w hi;refine W.out (λz=>?_) (nl W.rl (λ_ _ _ z=>nomatch z)) λa ha=>?_
   ·have:=W.ob;rw [z,S4 _ _ g3] at this;cases this
   ·obtain ⟨i,hi⟩:=bx.mp ha;exact nl (W.at_ i a hi) (λ_ _ _ z=>nomatch z)
  ·obtain ⟨i,hi⟩:=bx.mp hm;exact Ne.symm (hw i w hi).2.2.2.1
  ·simp only [fp,av,a6] at hb
   rcases hb with rfl|rfl|rfl|rfl|⟨w,hm,rfl⟩
   ·exact fr naq hacc
   ·exact hd1
   ·exact fr1 (Ne.symm nq2) hd2
   ·exact fr2 (Ne.symm nq3) hd3
   ·obtain ⟨i,hi⟩:=bx.mp hm;obtain ⟨W,h3,_⟩:=hw i w hi;exact fr (nl W.rl (λ_ _ _ z=>nomatch z)) h3
 ·rintro t ys H4 ht _;exact ht
 ·rintro t ys σ' H4 x H5 ht ⟨g4,S4,ws,as,rfl,hl,nd,hw⟩ ⟨o,rfl⟩ ⟨eH,ex⟩;subst eH ex;lk;refine lU ?_;refine KJ ?_;lk;intro xw dxw hx hdx hne
  have T0:bL H5 (upd (upd H5 dxw (.own xw)) xw (.ins C dxw [])):=λb o e=>by rw [aH (aP e hx),aH (aP e hdx)];exact e
  refine ⟨xw,dxw,n,rfl,aE,ct.w,by lia,λl bs H6 W hl6 B6=>⟨rfl,?_⟩⟩;have T:bL H5 H6:=λb o e=>B6 _ _ (T0 _ _ e) (aP e hx);have hl5:=T0.free hl6;have nxa:xw≠acc:=Ne.symm (aP g4 hx);have nla:l≠acc:=Ne.symm (aP g4 hl5)
  have naa:∀ a∈bs,a≠acc:=λa ha z=>by
   obtain ⟨i,hi⟩:=bx.mp ha;have h1:=W.at_ i a hi;rw [z,T _ _ g4] at h1;cases ws<;>cases h1
  have SA:bL H3 (upd H6 acc (.lst (ws.map (λw=>V.ref w.1)++[.ref xw]))):=λb o e=>by rw [aH (aP e hacc)];exact T _ _ (S4 _ _ e)
  refine ⟨T _ _ g4,dU (m:=100) (by rw [ag];lia),kF.mk' ht ⟨_,rfl⟩ ⟨aE,SA,ws++[(xw,dxw,l)],(λi=>if i=t then bs else as i),by rw [aU];rfl,by rw [bu,hl];rfl,?_,λi w hi=>?_⟩⟩
  ·rw [aU,gC];refine ⟨nd,by simp,λp hp q hq e=>?_⟩;obtain ⟨w,hm,rfl⟩:=a6.mp hp;obtain ⟨i,hi⟩:=bx.mp hm;have:=(hw i w hi).1.rl;rw [oB,aA] at hq;rw [e.trans hq,hl5] at this;cases this
  ·by_cases c:i=t
   ·subst c;rw [← hl,dS (ar _),Nat.sub_self] at hi;cases hi;dsimp only;rw [if_pos rfl];exact ⟨W.out nxa nla naa,S4.free hl5,nxa,nla,naa⟩
   ·have hi':i<t:=by
     have:=(aC.mp hi).1;rw [bu,hl] at this;simp at this;lia
    rw [fE (by lia)] at hi;dsimp only;rw [if_neg c];obtain ⟨W',m1,m2,m3,m4⟩:=hw i w hi;exact ⟨(W'.same T).out m2 m3 m4,m1,m2,m3,m4⟩
def wA {ta tv:TE}{rd:V->V->Hp->VK->Prop}{f:bh}{D:qO}{Z:L2.St}(h:ta Z H λx H1=>∃ a C dx fs v,x=.ref a/\H1 a=some (.ins C dx fs)/\CO K C/\dE K C f/\fs.lookup f=some v /\
 tv Z H1 λy H2=>rd v y H2 λz H3=>∃ dx' fs',H3 a=some (.ins C dx' fs')/\fs'.length<1000/\D.nx Z (upd H3 a (.ins C dx' (dP f z fs')))):sM K ta tv rd f D Z H:=h
def fK (n:Nat) (q w:af) (c1 c2 c3 c4:Int):List (bh×V):=dP "lost" (.int c4) (dP "risen" (.int c3) (dP "looked" (.int c2) (dP "came" (.int c1) (dP "wood" (.ref w) (dP "levels" (.ref q) (dP "n" (.int n) []))))))
section
variable {q w:af}{c1 c2 c3 c4 c:Int}
def Qn {f:bh}{v:V}:dP f v []=[(f,v)]:=rfl
def mn:fK n q w c1 c2 c3 c4=([("n",.int n),("levels",.ref q),("wood",.ref w),("came",.int c1),("looked",.int c2),("risen",.int c3),("lost",.int c4)]:List (bh×V)):=by
 unfold fK
 repeat (first|rw [Qn]|rw [dX (by decide +kernel)])
def fK1:(fK n q w c1 c2 c3 c4).lookup ("n":bh)=some (.int n):=by rw [mn];exact uf
def Wa:(fK n q w c1 c2 c3 c4).lookup ("levels":bh)=some (.ref q):=by rw [mn,fw (by decide +kernel)];exact uf
def fK4:(fK n q w c1 c2 c3 c4).lookup ("came":bh)=some (.int c1):=by rw [mn,fw (by decide +kernel),fw (by decide +kernel),fw (by decide +kernel)];exact uf
def fK5:(fK n q w c1 c2 c3 c4).lookup ("looked":bh)=some (.int c2):=by rw [mn,fw (by decide +kernel),fw (by decide +kernel),fw (by decide +kernel),fw (by decide +kernel)];exact uf
def fK6:(fK n q w c1 c2 c3 c4).lookup ("risen":bh)=some (.int c3):=by rw [mn,fw (by decide +kernel),fw (by decide +kernel),fw (by decide +kernel),fw (by decide +kernel),fw (by decide +kernel)];exact uf
def fK7:(fK n q w c1 c2 c3 c4).lookup ("lost":bh)=some (.int c4):=by rw [mn,fw (by decide +kernel),fw (by decide +kernel),fw (by decide +kernel),fw (by decide +kernel),fw (by decide +kernel),fw (by decide +kernel)];exact uf
def KL {m:bh}(h1:¬ m="n":=by decide +kernel) (h2:¬ m="levels":=by decide +kernel) (h3:¬ m="wood":=by decide +kernel) (h4:¬ m="came":=by decide +kernel) (h5:¬ m="looked":=by decide +kernel) (h6:¬ m="risen":=by decide +kernel) (h7:¬ m="lost":=by decide +kernel):(fK n q w c1 c2 c3 c4).lookup m=none:=by rw [mn,fw h1,fw h2,fw h3,fw h4,fw h5,fw h6,fw h7];rfl
def Zk:(fK n q w c1 c2 c3 c4).length<1000:=by rw [mn];show 7<1000;decide
def fKp4:dP "came" (.int c) (fK n q w c1 c2 c3 c4)=fK n q w c c2 c3 c4:=by rw [mn,mn,dX (by decide +kernel),dX (by decide +kernel),dX (by decide +kernel),wz]
def fKp5:dP "looked" (.int c) (fK n q w c1 c2 c3 c4)=fK n q w c1 c c3 c4:=by rw [mn,mn,dX (by decide +kernel),dX (by decide +kernel),dX (by decide +kernel),dX (by decide +kernel),wz]
def fKp6:dP "risen" (.int c) (fK n q w c1 c2 c3 c4)=fK n q w c1 c2 c c4:=by rw [mn,mn,dX (by decide +kernel),dX (by decide +kernel),dX (by decide +kernel),dX (by decide +kernel),dX (by decide +kernel),wz]
def fKp7:dP "lost" (.int c) (fK n q w c1 c2 c3 c4)=fK n q w c1 c2 c3 c:=by rw [mn,mn,dX (by decide +kernel),dX (by decide +kernel),dX (by decide +kernel),dX (by decide +kernel),dX (by decide +kernel),dX (by decide +kernel),wz]
end
def Top.lo (h:Top n T):2^(T+1)<=n\/T=0:=by
 rcases h.1 with z|z
 ·exact .inr z
 ·left
  have:((2^(T+1):Nat):Int)=2*(2:Int)^T:=by rw [CK,Int.natCast_mul,Int.natCast_pow];exact Int.mul_comm _ _
  lia
def Top.hi (h:Top n T):∀ j,2^(j+1)<=n->j<=T:=λj hj=>by
 have h2:=h.2
 by_cases c:j<=T
 ·exact c
 ·have h3:2^(T+2)<=2^(j+1):=Rb (by decide) (by lia)
  have:((2^(T+2):Nat):Int)=4*(2:Int)^T:=by push_cast;rw [CM,CM];lia
  lia
section
def LV.inst {c d:af}{fs:List (bh×V)}{o:HO}(h:LV C A H a n T ts as R) (hp:H p=some (.ins c d fs)) (h1:fs.lookup ("rows":bh)=none) (h2:fs.lookup ("woods":bh)=none):LV C A (upd H p o) a n T ts as R :=
 h.keep (X:=[p]) (Fm.upd aw) (λx f e _ hx hm=>by
  rw [aA.mp hm] at e hx
  rcases hx with z|⟨w,hw,z⟩
  ·have:=h.ob;rw [← z,hp] at this;cases this;rw [Ul] at h2;cases h2
  ·obtain ⟨i,_,hi⟩:=h.at hw;have:=(h.wa i w hi).ob;rw [← z,hp] at this;cases this
   rw [iI] at h1;cases h1) (λb hb hm=>h.outI hp (aA.mp hm▸hb)) (λhm=>by
   have:=h.ls
   rw [aA.mp hm,hp] at this;cases this) λb r _ e hm=>by rw [aA.mp hm,hp] at e;cases e
structure KP (C:af) (A:CA) (H:Hp) (p dx:af) (a:AL) (n T:Nat) (ts:List Ti) (as:Nat->List af) (R:Nat->Nat->List Int):Prop where
 ob:∃ (w:af×af×af) (c1 c2 c3 c4:Int),a.ws[0]?=some w/\H p=some (.ins A.Keeper dx (fK n a.q w.1 c1 c2 c3 c4))
 lv:LV C A H a n T ts as R
 iv:Lv n T ts R
 jn:Jn ts R
 tp:Top n T
def KP.same (h:KP C A H p dx a n T ts as R) (S:bL H H'):KP C A H' p dx a n T ts as R:=by
 obtain ⟨w,c1,c2,c3,c4,hw,hp⟩:=h.ob;exact ⟨⟨w,c1,c2,c3,c4,hw,S _ _ hp⟩,h.lv.same S,h.iv,h.jn,h.tp⟩
structure KS (C:af) (A:CA) (a:AL) (n T:Nat) (as:Nat->List af) (p dx:af) (H0:Hp) (m:Nat) (fs:List (bh×V)) (H:Hp):Prop where
 g:H p=some (.ins A.Keeper dx fs)
 lv:LV C A H a n T [] as (λ_ i=>[(i:Int)])
 r:fs.lookup ("rows":bh)=none
 w:fs.lookup ("woods":bh)=none
 len:fs.length<=m
 b:a8 p H0 H
theorem BJ (f:bh) (v:V):∀ fs:List (bh×V),(dP f v fs).length<=fs.length+1
 | []=>ar _
 | (g,x)::r=>by
  by_cases c:g=f
  ·subst c;rw [wz];exact gW _
  ·rw [dX c];exact mO (BJ f v r)
def KS.put {H0:Hp}{m:Nat}{fs:List (bh×V)}(s:KS C A a n T as p dx H0 m fs H) (f:bh) (v:V) (h1:¬ ("rows":bh)=f:=by decide +kernel) (h2:¬ ("woods":bh)=f:=by decide +kernel):KS C A a n T as p dx H0 (m+1) (dP f v fs) (upd H p (.ins A.Keeper dx (dP f v fs))) :=
 ⟨aE,s.lv.inst s.g s.r s.w,by rw [ff,if_neg h1];exact s.r,by rw [ff,if_neg h2];exact s.w,bf (BJ f v fs) (mO s.len),s.b.trans a8.upd⟩
end
inductive b0 (K:aa) (C:af) (A:CA) (vs:List V) (H:Hp) (Q:VK) (E:XK):Prop
 | mk (p dx:af) (n:Nat):vs=[.ref p,.int n]->H p=some (.ins A.Keeper dx [])->Dq K C A->1<=n->n<=200->(∀ (a:AL) (T:Nat) (as:Nat->List af) (H':Hp),KP C A H' p dx a n T [] as (λ_ i=>[(i:Int)])->a8 p H H'->(∀ b∈a.L::fp a,H b=none)->Q .non H')->b0 K C A vs H Q E
def wB:Rn (b0 K C A) (pe K C A (cM K C A) (fP K C)) qg:=by
 rintro vs H Q E ⟨p,dx,n,rfl,hp,ct,hn1,hn2,k⟩;unfold pe;lk;refine ⟨n,rfl,hn1,hn2,?_⟩;refine ⟨_,rfl,?_⟩;rw [if_neg (by simp)];lk;refine lI ?_;lk;refine ⟨p,A.Keeper,dx,[],rfl,hp,ct.kc,ct.k1,by decide,?_⟩;have g1:(upd H p (.ins A.Keeper dx (dP "n" (.int n) []))) p=some (.ins A.Keeper dx (dP "n" (.int n) [])):=aE;have B1:a8 p H (upd H p (.ins A.Keeper dx (dP "n" (.int n) []))):=a8.upd;generalize upd H p (.ins A.Keeper dx (dP "n" (.int n) []))=H1 at g1 B1;dsimp only;k_ne;refine lI (KJ ?_);lk;intro q dq hq hdq hne
 have T0:bL H1 (upd (upd H1 dq (.own q)) q (.ins A.bE dq [])):=λb o e=>by rw [aH (aP e hq),aH (aP e hdq)];exact e
 refine ⟨q,dq,n,rfl,aE,ct,hn1,hn2,λa T as H2 ea ed L tp B2 fr=>⟨rfl,?_⟩⟩;subst ea ed;have T1:bL H1 H2:=λb o e=>B2 _ _ (T0 _ _ e) (aP e hq);have g2:=T1 _ _ g1
 have s2:KS C A a n T as p dx H 1 (dP "n" (.int n) []) H2:=⟨g2,L,by rw [ff,if_neg (by decide +kernel)];rfl,by rw [ff,if_neg (by decide +kernel)];rfl,BJ _ _ _,λb o e hb=>T1 _ _ (B1 _ _ e hb)⟩
 have frH:∀ b∈a.L::fp a,H b=none:=λb hb=>by
  have:=fr b hb
  cases z:H b with
  | none=>rfl
  | some o =>
   by_cases c:b=p
   ·have e:=T0 _ _ g1;rw [← c,this] at e;cases e
   ·rw [T0 _ _ (B1 _ _ z c)] at this;cases this
 obtain ⟨w,hw,hwm⟩:=L.get (aQ _);lk;refine ⟨p,A.Keeper,dx,_,rfl,s2.g,ct.kc,ct.k2,bw s2.len (by decide),?_⟩;have s3:=s2.put "levels" (.ref a.q);generalize upd H2 p (.ins A.Keeper dx (dP "levels" (.ref a.q) (dP "n" (.int n) [])))=H3 at s3;dsimp only;k_ne;refine lI ?_;lk;refine mi ?_;refine mi ?_;lk;refine ⟨p,A.Keeper,dx,_,_,rfl,s3.g,ct.kc,ct.k2,by rw [ff,if_pos rfl],?_⟩;refine ⟨a.q,A.bE,a.dq,_,_,rfl,s3.lv.ob,ct.lc,ct.l4,Ul,?_⟩;lk;refine lu (c9.of s3.lv.ls) (eE (j:=0) rfl (by rw [ax,hw];rfl)) ?_;lk;refine ⟨p,A.Keeper,dx,_,rfl,s3.g,ct.kc,ct.k3,bw s3.len (by decide),?_⟩;have s4:=s3.put "wood" (.ref w.1);generalize e4:dP ("wood":bh) (V.ref w.1) (dP "levels" (.ref a.q) (dP "n" (.int n) []))=f4 at s4;generalize upd H3 p (.ins A.Keeper dx f4)=H4 at s4;dsimp only;k_ne;refine lI ?_;lk;refine ⟨p,A.Keeper,dx,_,rfl,s4.g,ct.kc,ct.k4,bw s4.len (by decide),?_⟩;have s5:=s4.put "came" (.int 0);generalize e5:dP ("came":bh) (V.int 0) f4=f5 at s5;generalize upd H4 p (.ins A.Keeper dx f5)=H5 at s5;dsimp only;k_ne;refine lI ?_;lk;refine ⟨p,A.Keeper,dx,_,rfl,s5.g,ct.kc,ct.k5,bw s5.len (by decide),?_⟩;have s6:=s5.put "looked" (.int 0);generalize e6:dP ("looked":bh) (V.int 0) f5=f6 at s6;generalize upd H5 p (.ins A.Keeper dx f6)=H6 at s6;dsimp only;k_ne;refine lI ?_;lk;refine ⟨p,A.Keeper,dx,_,rfl,s6.g,ct.kc,ct.k6,bw s6.len (by decide),?_⟩;have s7:=s6.put "risen" (.int 0);generalize e7:dP ("risen":bh) (V.int 0) f6=f7 at s7;generalize upd H6 p (.ins A.Keeper dx f7)=H7 at s7;dsimp only;refine lI ?_;lk;refine ⟨p,A.Keeper,dx,_,rfl,s7.g,ct.kc,ct.k7,bw s7.len (by decide),?_⟩;have s8:=s7.put "lost" (.int 0);subst e4 e5 e6 e7;exact k a T as _ ⟨⟨w,0,0,0,0,hw,s8.g⟩,s8.lv,Lv.start n T tp.lo,(λt ht=>nomatch ht),tp⟩ s8.b frH
def KP.p0 (h:KP C A H p dx a n T ts as R):∃ fs,H p=some (.ins A.Keeper dx fs):=let ⟨w,c1,c2,c3,c4,_,hp⟩:=h.ob;⟨_,hp⟩
inductive iZ (K:aa) (C:af) (A:CA) (vs:List V) (H:Hp) (Q:VK) (E:XK):Prop
 | mk (p dx:af) (a:AL) (n T:Nat) (ts:List Ti) (as:Nat->List af) (R:Nat->Nat->List Int) (t:af) (x y:Nat):vs=[.ref p,.ref t,.int 0]->Dq K C A->KP C A H p dx a n T ts as R->n<=200->x<y->y<n->H t=some (.tup [.int x,.int y])->((x:Int),(y:Int))∉ts.map Ti.key->ts.length<99->(∀ b as' R' H',b=!decide ((y:Int)∈R 0 x)->KP C A H' p dx a n T (ts++[⟨x,y,0,b⟩]) as' R'->Fm (p::fp a) H H'->Q (.bl b) H')->iZ K C A vs H Q E
def yc:Rn (iZ K C A) (qr K C A (j6 K C A)) Io:=by
 rintro vs H Q E ⟨p,dx,a,n,T,ts,as,R,t,x,y,rfl,ct,h,hn,hxy,hy,ht,hk,hl,k⟩;obtain ⟨w,c1,c2,c3,c4,hw,hp⟩:=h.ob;unfold qr;lk;refine wA ?_;lk;refine ⟨p,A.Keeper,dx,_,_,rfl,hp,ct.kc,ct.k4,fK4,?_⟩;lk;refine ⟨c1,1,rfl,rfl,dx,_,hp,Zk,?_⟩;rw [fKp4];have L1:=h.lv.inst (o:=.ins A.Keeper dx (fK n a.q w.1 (c1+1) c2 c3 c4)) hp KL KL;have p1:(upd H p (.ins A.Keeper dx (fK n a.q w.1 (c1+1) c2 c3 c4))) p=_:=aE;have ht1:(upd H p (.ins A.Keeper dx (fK n a.q w.1 (c1+1) c2 c3 c4))) t=_:=(aH (gh ht hp)).trans ht;have F1:Fm (p::fp a) H (upd H p (.ins A.Keeper dx (fK n a.q w.1 (c1+1) c2 c3 c4))):=Fm.upd aw;generalize upd H p (.ins A.Keeper dx (fK n a.q w.1 (c1+1) c2 c3 c4))=H1 at L1 p1 ht1 F1;dsimp only;lk;refine xU ?_;refine mi ?_;lk;refine ⟨p,A.Keeper,dx,_,_,rfl,p1,ct.kc,ct.k2,Wa,?_⟩;refine ⟨a.q,a.dq,_,rfl,L1.ob,Um,?_⟩;lk;refine ⟨a,n,T,ts,as,R,t,x,y,rfl,ct,L1,hn,by lia,hy,ht1,h.iv.nd,hk,hl,λb ts' as' R' H2 L2 hc F2=>?_⟩
 have hkk:(ts++[(⟨x,y,0,false⟩:Ti)]).map Ti.key=ts.map Ti.key++[((x:Int),(y:Int))]:=by rw [aU];rfl
 have V:=h.iv.put hxy hy hk;have hu:(⟨x,y,0,false⟩:Ti)∈ts++[⟨x,y,0,false⟩]:=bG _ aw
 have ob:∃ (w:af×af×af) (c1 c2 c3 c4:Int),a.ws[0]?=some w/\H2 p=some (.ins A.Keeper dx (fK n a.q w.1 c1 c2 c3 c4)):=⟨w,_,_,_,_,hw,F2 _ _ (L1.outI p1) p1⟩
 rcases hc with ⟨hj,rfl,rfl,rfl⟩|⟨hj,rfl,rfl,rfl⟩
 ·refine k _ as' _ H2 (by rw [decide_eq_true hj];rfl) ⟨ob,L2,V,λu hu=>?_,h.tp⟩ (F1.trans F2.tail)
  rcases aN.mp hu with q|q
  ·exact h.jn u q
  ·rw [aA.mp q];exact hj
 ·have hap:∀ i,i<=(⟨x,y,0,false⟩:Ti).cm->(((⟨x,y,0,false⟩:Ti).y:Nat):Int)∉R i (⟨x,y,0,false⟩:Ti).x:=λi hi=>by rw [Rc.mp hi];exact hj
  have W0:=h.iv.wd 0 (aQ _)
  have V':=V.adopt hu rfl hap λi hi=>by
   have e:=Rc.mp hi;subst e
   have l:=((W0.lk (a:=x) (b:=y) (by lia) hy hj).len (i:=x) (by lia))
   rw [(W0.Fd (x:=x) (by lia) hy hj (.inl (W0.me x (by lia)))).2] at l
   show ((R 0 x).length+(R 0 y).length+2)*2^0<=2*n
   lia
  have es:ia (ts++[(⟨x,y,0,false⟩:Ti)]) ((x:Int),(y:Int)) Ti.vg=ts++[⟨x,y,0,true⟩]:=by
   unfold ia;rw [aU]
   congr 1
   ·exact (kJ λt ht=>if_neg λe=>hk (by rw [← e];exact bq ht)).trans (List.map_id _)
   ·show [if ((x:Int),(y:Int))=((x:Int),(y:Int)) then _ else _]=_
    rw [if_pos rfl];rfl
  refine k _ as' _ H2 (by rw [decide_eq_false hj];rfl) ⟨ob,es▸L2,es▸V',λu hu'=>?_,h.tp⟩ (F1.trans F2.tail);rw [← es] at hu'
  rcases (kQ (f:=Ti.vg) V.nd hu u).mp hu' with rfl|⟨q,_⟩
  ·have e:JQ R 0 x y 0=lk (R 0) x y:=if_pos (ar _)
   show (y:Int)∈JQ R 0 x y 0 x
   rw [e];exact ((W0.Fd (x:=x) (by lia) hy hj (.inl (W0.me x (by lia)))).1 _).mpr (.inr (W0.me y hy))
  ·rcases aN.mp q with q|q
   ·obtain ⟨q1,q2,q3⟩:=h.iv.lt u q;exact V.JB hu hap q3 (by lia) _ (h.jn u q)
   ·rename_i hne
    exact absurd (by rw [aA.mp q]) hne
inductive dA (K:aa) (C:af) (A:CA) (vs:List V) (H:Hp) (Q:VK) (E:XK):Prop
 | mk (p dx:af) (a:AL) (n T:Nat) (ts:List Ti) (as:Nat->List af) (R:Nat->Nat->List Int) (x y:Nat):vs=[.ref p,.int x,.int y]->Dq K C A->KP C A H p dx a n T ts as R->n<=200->x<n->y<n->x≠y->(((min x y:Nat):Int),((max x y:Nat):Int))∉ts.map Ti.key->ts.length<99->(∀ b as' R' H',b=!decide (((max x y:Nat):Int)∈R 0 (min x y))->KP C A H' p dx a n T (ts++[⟨min x y,max x y,0,b⟩]) as' R'->Fm (p::fp a) H H'->Q (.bl b) H')->dA K C A vs H Q E
def BK:Rn (dA K C A) (ue K C A (iZ K C A) (m7 K C)) tq:=by
 rintro vs H Q E ⟨p,dx,a,n,T,ts,as,R,x,y,rfl,ct,h,hn,hx,hy,hxy,hk,hl,k⟩;obtain ⟨w,c1,c2,c3,c4,hw,hp⟩:=h.ob;unfold ue;k_in;refine ⟨p,dx,_,rfl,hp,KL,?_⟩;k_go;refine ⟨p,A.Keeper,dx,_,_,rfl,hp,ct.kc,ct.k1,fK1,?_⟩;lk;refine mi ?_;refine mi ?_;lk;refine ⟨p,A.Keeper,dx,_,_,rfl,hp,ct.kc,ct.k2,Wa,?_⟩;refine ⟨a.q,A.bE,a.dq,_,_,rfl,h.lv.ob,ct.lc,ct.l1,N5,?_⟩;lk;refine ⟨n,x,y,a.d1,kl ts,rfl,hx,hy,hxy,h.lv.e1,sQ hk,λt ht=>?_⟩;generalize eu_:upd H t (.tup [.int (min x y:Nat),.int (max x y:Nat)])=H1;obtain ⟨S1,g1⟩:=jZ eu_ ht;lk;exact ⟨p,dx,a,n,T,ts,as,R,t,min x y,max x y,rfl,ct,h.same S1,hn,by lia,by lia,g1,hk,hl,λb as' R' H' hb h' F'=>k b as' R' H' hb h' ((Fm.of S1).trans F')⟩
inductive jx (K:aa) (C:af) (A:CA) (Pt:af) (vs:List V) (H:Hp) (Q:VK) (E:XK):Prop
 | mk (p dx:af) (a:AL) (n T:Nat) (ts:List Ti) (as:Nat->List af) (R:Nat->Nat->List Int) (x y:Nat):vs=[.ref p,.int x,.int y]->Dq K C A->KP C A H p dx a n T ts as R->n<=200->x<n->y<n->x≠y->(((min x y:Nat):Int),((max x y:Nat):Int))∈ts.map Ti.key->ts.length<99->qD Pt H->(∀ v ts' as' R' H',KP C A H' p dx a n T ts' as' R'->ts'.map Ti.key=(ts.map Ti.key).filter (λk=>decide (k≠(((min x y:Nat):Int),((max x y:Nat):Int))))->(∀ t∈ts',∃ s∈ts,s.key=t.key/\s.cm<=t.cm)->qD Pt H'->Fm (p::Pt::fp a) H H'->Q v H')->jx K C A Pt vs H Q E
def Gd:Rn (jx K C A Pt) (zf K C A (eh K C) (jI K C) (eZ K C A Pt) (kT K C) (iH K C) (dt K C A)) ["self","a","b","tie","trail"]:=by
 rintro vs H Q E ⟨p,dx,a,n,T,ts,as,R,x,y,rfl,ct,h,hn,hx,hy,hxy,hk,hl,hP,k⟩;obtain ⟨w,c1,c2,c3,c4,hw,hp⟩:=h.ob;obtain ⟨u,hu,eu⟩:=a6.mp hk;obtain ⟨eu1,eu2⟩:=cB eu
 have eu1:u.x=min x y:=by lia
 have eu2:u.y=max x y:=by lia
 have nPp:p≠Pt:=hP.ne hp (λ_ z=>nomatch z);unfold zf;k_go;refine ⟨p,A.Keeper,dx,_,_,rfl,hp,ct.kc,ct.k1,fK1,?_⟩;lk;refine mi ?_;refine mi ?_;lk;refine ⟨p,A.Keeper,dx,_,_,rfl,hp,ct.kc,ct.k2,Wa,?_⟩;refine ⟨a.q,A.bE,a.dq,_,_,rfl,h.lv.ob,ct.lc,ct.l1,N5,?_⟩;lk;refine ⟨n,x,y,a.d1,kl ts,rfl,hx,hy,hxy,h.lv.e1,by rw [← eu1,← eu2,hJ h.iv.nd hu];rfl,λt ht=>?_⟩;rw [← eu1,← eu2];generalize eu_:upd H t (.tup [.int (u.x:Nat),.int (u.y:Nat)])=H1;obtain ⟨S1,g1⟩:=jZ eu_ ht;have L1:=h.lv.same S1;have p1:=S1 _ _ hp;lk;refine wA ?_;lk;refine ⟨p,A.Keeper,dx,_,_,rfl,p1,ct.kc,ct.k7,fK7,?_⟩;k_go;refine ⟨p,A.Keeper,dx,_,_,rfl,p1,ct.kc,ct.k1,fK1,?_⟩;lk;refine xU ?_;refine mi ?_;lk;refine ⟨p,A.Keeper,dx,_,_,rfl,p1,ct.kc,ct.k2,Wa,?_⟩;refine ⟨a.q,a.dq,_,rfl,L1.ob,Um,?_⟩;lk;refine ⟨a.q,a.dq,a.d1,a.d2,a.d3,a.L,t,kl ts,kw ts,u.x,u.y,_,_,rfl,ct,L1.ob,.inl L1.e1,.inl L1.e2,g1,hJ (f:=λt=>V.int t.cm) h.iv.nd hu,hJ (f:=λt=>V.bl t.wd) h.iv.nd hu,λr hr=>?_⟩;generalize eu_:upd H1 r (.tup [.int u.x,.int u.y,.int u.cm,.bl u.wd])=H2;obtain ⟨S2,g2⟩:=jZ eu_ hr;lk;refine ⟨bM (m:=1) (ar 1),λl hl3=>?_⟩;generalize eu_:upd H2 l (.lst [.ref r])=H3;obtain ⟨S3,g3⟩:=jZ eu_ hl3;lk;refine ⟨n,l,r,u.x,u.y,u.cm,u.wd,rfl,g3,S3 _ _ g2,λc H4 S4=>?_⟩;have S14:bL H H4:=((S1.trans S2).trans S3).trans S4;have p4:=S14 _ _ hp;have L4:=h.lv.same S14;have t4:=S4 _ _ (S3 _ _ (S2 _ _ g1));refine ⟨c4,c,rfl,rfl,dx,_,p4,Zk,?_⟩;rw [fKp7];have L5:=L4.inst (o:=.ins A.Keeper dx (fK n a.q w.1 c1 c2 c3 (c4+c))) p4 KL KL;have p5:(upd H4 p (.ins A.Keeper dx (fK n a.q w.1 c1 c2 c3 (c4+c)))) p=_:=aE;have t5:(upd H4 p (.ins A.Keeper dx (fK n a.q w.1 c1 c2 c3 (c4+c)))) t=_:=(aH (gh t4 p4)).trans t4
 have P5:qD Pt (upd H4 p (.ins A.Keeper dx (fK n a.q w.1 c1 c2 c3 (c4+c)))):=(hP.same S14).keep λb o _ _ h3 _ e=>by rw [aH];exact e;rintro rfl;rw [p4] at e;cases e;exact h3 _ _ _ rfl
 have F5:Fm (p::Pt::fp a) H (upd H4 p (.ins A.Keeper dx (fK n a.q w.1 c1 c2 c3 (c4+c)))):=(Fm.of S14).trans (Fm.upd aw);generalize upd H4 p (.ins A.Keeper dx (fK n a.q w.1 c1 c2 c3 (c4+c)))=H5 at L5 p5 t5 P5 F5;dsimp only;lk;refine xU ?_;refine mi ?_;lk;refine ⟨p,A.Keeper,dx,_,_,rfl,p5,ct.kc,ct.k2,Wa,?_⟩;refine ⟨a.q,a.dq,_,rfl,L5.ob,Um,?_⟩;lk;have hT8:=h.tp.small (by lia);refine ⟨a,n,T,ts,as,R,t,u,rfl,ct,L5,hn,by lia,h.tp.hi,h.iv,h.jn,hu,t5,hl,P5,λq us ts' as' R' H6 hq gq oks hlu L6 V6 J6 hk6 P6 F6=>?_⟩;have p6:=F6 _ _ (λz=>(av.mp z).elim nPp (L5.outI p5)) p5;lk;refine wA ?_;lk;refine ⟨p,A.Keeper,dx,_,_,rfl,p6,ct.kc,ct.k5,fK5,?_⟩;lk;refine ⟨q,us,rfl,gq,oks,hlu,λc' H7 S7=>?_⟩;have p7:=S7 _ _ p6;refine ⟨c2,c',rfl,rfl,dx,_,p7,Zk,?_⟩;rw [fKp5];have L8:=(L6.same S7).inst (o:=.ins A.Keeper dx (fK n a.q w.1 c1 (c2+c') c3 (c4+c))) p7 KL KL;have p8:(upd H7 p (.ins A.Keeper dx (fK n a.q w.1 c1 (c2+c') c3 (c4+c)))) p=_:=aE
 have n8:∀ {b:af}{o:HO},H7 b=some o->(∀ x y z,o≠.ins x y z)->(upd H7 p (.ins A.Keeper dx (fK n a.q w.1 c1 (c2+c') c3 (c4+c)))) b=some o:=λ{b o} e hno=>by rw [aH];exact e;rintro rfl;rw [p7] at e;cases e;exact hno _ _ _ rfl
 have F8:Fm (p::Pt::fp a) H (upd H7 p (.ins A.Keeper dx (fK n a.q w.1 c1 (c2+c') c3 (c4+c)))):=((F5.trans F6.tail).trans (Fm.of S7)).trans (Fm.upd aw);generalize upd H7 p (.ins A.Keeper dx (fK n a.q w.1 c1 (c2+c') c3 (c4+c)))=H8 at L8 p8 n8 F8;dsimp only;lk;refine wA ?_;lk;refine ⟨p,A.Keeper,dx,_,_,rfl,p8,ct.kc,ct.k6,fK6,?_⟩;lk;refine ⟨q,us,rfl,n8 (S7 _ _ gq) (λ_ _ _ z=>nomatch z),λv hv=>⟨n8 (S7 _ _ (oks v hv).1) (λ_ _ _ z=>nomatch z),n8 (S7 _ _ (oks v hv).2) (λ_ _ _ z=>nomatch z)⟩,hlu,λc'' H9 S9=>?_⟩;have p9:=S9 _ _ p8;refine ⟨c3,c'',rfl,rfl,dx,_,p9,Zk,?_⟩;rw [fKp6];dsimp only;lk;refine k _ ts' as' R' _ ⟨⟨w,_,_,_,_,hw,aE⟩,(L8.same S9).inst p9 KL KL,V6,J6,h.tp⟩ ?_ (λt ht=>let ⟨s,hs,e,l⟩:=hk6.2 t ht;⟨s,(cw.mp hs).1,e,l⟩) ?_ ((F8.trans (Fm.of S9)).trans (Fm.upd aw))
 ·rw [hk6.1,← eu1,← eu2,tS];rfl
 ·refine ((P6.same S7).keep λb o _ _ h3 _ e=>S9 _ _ (n8 e h3)).keep λb o _ _ h3 _ e=>?_;rw [aH];exact e;rintro rfl;rw [p9] at e;cases e;exact h3 _ _ _ rfl
def ph (H:Hp) (u:Ti×af):Prop:=H u.2=some (.tup [.int u.1.x,.int u.1.y,.int u.1.cm,.bl u.1.wd])
def Ge (t:Ti):List Int:=[(t.x:Int),(t.y:Int),(t.cm:Int),b2i t.wd]
def pW (u:Ti×af):V:=.ref u.2
inductive oe (K:aa) (C:af) (A:CA) (vs:List V) (H:Hp) (Q:VK) (E:XK):Prop
 | mk (p dx:af) (a:AL) (n T:Nat) (ts:List Ti) (as:Nat->List af) (R:Nat->Nat->List Int):vs=[.ref p]->Dq K C A->KP C A H p dx a n T ts as R->ts.length<99->(∀ (q:af) (us:List (Ti×af)) (o:ft) (H':Hp),H q=none->H' q=some (.lst (us.map pW))->(∀ u∈us,ph H' u)->(us.map (·.1)).Perm ts->us.Pairwise (λu v=>fA (Ge v.1) (Ge u.1)=false)->H' a.d1=some (.frz o (.dT (kl ts)))->a8 a.d1 H H'->Q (.ref q) H')->oe K C A vs H Q E
inductive cj (K:aa) (C:af) (A:CA) (vs:List V) (H:Hp) (Q:VK) (E:XK):Prop
 | mk (p dx:af) (a:AL) (n T:Nat) (ts:List Ti) (as:Nat->List af) (R:Nat->Nat->List Int):vs=[.ref p]->Dq K C A->KP C A H p dx a n T ts as R->ts.length<99->(∀ (q:af) (us:List (Ti×af)) (H':Hp),H q=none->H' q=some (.lst (us.map pW))->(∀ u∈us,ph H' u)->(us.map (·.1)).Perm ts->us.Pairwise (λu v=>fA (Ge v.1) (Ge u.1)=false)->bL H H'->Q (.ref q) H')->cj K C A vs H Q E
def BL:∀ vs H Q E,cj K C A vs H Q E->oe K C A vs H (Sd H Q) E:=by
 rintro vs H Q E ⟨p,dx,a,n,T,ts,as,R,rfl,ct,h,hl,k⟩;refine ⟨p,dx,a,n,T,ts,as,R,rfl,ct,h,hl,λq us o H' hq gq fl pm so gd B=>.inr ⟨a.d1,o,kl ts,(λo' u' e=>by rw [h.lv.e1] at e;cases e),gd,?_⟩⟩;have hqd:q≠a.d1:=Ne.symm (aP h.lv.e1 hq);refine k q us _ hq (by rw [aH hqd];exact gq) (λu hu=>(aH (gh (fl u hu) gd)).trans (fl u hu)) pm so λb ob e=>?_
 by_cases hb:b=a.d1
 ·subst hb;rw [aE,← h.lv.e1,e]
 ·rw [aH hb];exact B _ _ e hb
def BM:Rn (oe K C A) (wq K C A (dt K C A)) ["self"]:=by
 rintro vs H Q E ⟨p,dx,a,n,T,ts,as,R,rfl,ct,h,hl,k⟩;obtain ⟨w,c1,c2,c3,c4,hw,hp⟩:=h.ob;have hnd:=h.iv.nd;unfold wq;lk;refine Tx ?_;refine mi ?_;refine mi ?_;lk;refine ⟨p,A.Keeper,dx,_,_,rfl,hp,ct.kc,ct.k2,Wa,?_⟩;refine ⟨a.q,A.bE,a.dq,_,_,rfl,h.lv.ob,ct.lc,ct.l1,N5,?_⟩;refine ⟨a.d1,kl ts,rfl,.inl ⟨h.lv.e1,λo=>?_⟩⟩;have g1:(upd H a.d1 (.frz o (.dT (kl ts)))) a.d1=some (.frz o (.dT (kl ts))):=aE;have B1:a8 a.d1 H (upd H a.d1 (.frz o (.dT (kl ts)))):=a8.upd;generalize upd H a.d1 (.frz o (.dT (kl ts)))=H1 at g1 B1;have p1:=B1 _ _ hp (gh hp h.lv.e1);have q1:=B1 _ _ h.lv.ob (gh h.lv.ob h.lv.e1);have w1:=B1 _ _ h.lv.e2 (Ne.symm h.lv.ND);intro acc hacc;refine mw (n:=ts.length) (λt ys H4=>H4 acc=some (.lst ys)/\bL H1 H4/\∃ us:List (Ti×af),ys=us.map pW/\us.map (·.1)=ts.take t/\∀ u∈us,ph H4 u) (λZ=>∃ o,Z=[o,some (.ref p)]) ⟨aE,bL.cD hacc,[],rfl,rfl,λz hz=>nomatch hz⟩ ⟨_,rfl⟩ ?_ ?_ ?_ ?_
 ·rintro t ys H4 ⟨e,_⟩;exact e
 ·rintro ys H4 ⟨g4,S4,us,rfl,hu,fl⟩;refine ⟨⟨by rw [kU];exact ar _,S4 _ _ g1⟩,?_⟩;rw [bX (ar _)] at hu
  have hul:us.length=ts.length:=by have:=congrArg dR hu;simpa using this
  lk;refine ⟨acc,us.map (λu=>([(u.1.x:Int),(u.1.y:Int),(u.1.cm:Int),b2i u.1.wd],u.2)),[false,false,true],rfl,by rw [bK];exact c9.of g4,λz hz=>?_,by rw [ag];lia,λl zs' hl4 hperm hso=>?_⟩
  ·obtain ⟨u,hum,rfl⟩:=a6.mp hz;exact ⟨_,fl u hum,.int _ (.int _ (.int _ (.bl _ .nil)))⟩
  obtain ⟨us',hp',rfl⟩:=Sy.perm_map hperm.symm us rfl
  have hlf:H l=none:=by
   cases z:H l with
   | none=>rfl
   | some ob =>
    by_cases hb:l=a.d1
    ·rw [hb,S4 _ _ g1] at hl4;cases hl4
    ·rw [S4 _ _ (B1 _ _ z hb)] at hl4;cases hl4
  have U:∀ {b:af}{u:HO}{xs:List V},H4 b=some u->(upd H4 l (.lst xs)) b=some u:=λe=>by rw [aH (aP e hl4)];exact e
  refine k l us' o _ hlf (by rw [aE,bK];rfl) (λu hum=>U (fl u (hp'.mem_iff.mp hum))) (by rw [← hu];exact hp'.map _) (dj.mp hso) (U (S4 _ _ g1)) λb ob e hb=>U (S4 _ _ (B1 _ _ e hb))
 ·rintro t ys H4 ht ⟨_,S4,_⟩;exact ⟨by rw [kU];exact ht,S4 _ _ g1⟩
 ·rintro t ys σ' H4 x H5 ht ⟨g4,S4,us,rfl,hu,fl⟩ ⟨o',rfl⟩ ⟨eH,key,v,b,hk,ex,hb⟩;subst eH ex
  obtain ⟨u,hu',eu⟩:∃ u,ts[t]?=some u/\(pk u.x u.y,V.int u.cm)=(key,v):=by
   have hk:(ts.map λt=>(pk t.x t.y,V.int t.cm))[t]?=some (key,v):=hk;rw [ax] at hk;exact aW.mp hk
  cases eu;have hum:=aL hu';lk;refine lU ?_;refine xU ?_;refine mi ?_;lk;refine ⟨p,A.Keeper,dx,_,_,rfl,S4 _ _ p1,ct.kc,ct.k2,Wa,?_⟩;refine ⟨a.q,a.dq,_,rfl,S4 _ _ q1,Um,?_⟩;lk;refine ⟨a.q,a.dq,a.d1,a.d2,a.d3,a.L,b,kl ts,kw ts,u.x,u.y,_,_,rfl,ct,S4 _ _ q1,.inr ⟨o,S4 _ _ g1⟩,.inl (S4 _ _ w1),hb,hJ (f:=λt=>V.int t.cm) hnd hum,hJ (f:=λt=>V.bl t.wd) hnd hum,λr hr=>?_⟩;generalize eu_:upd H5 r (.tup [.int u.x,.int u.y,.int u.cm,.bl u.wd])=H6;obtain ⟨T,gr⟩:=jZ eu_ hr
  have hul:us.length=t:=by
   have:=congrArg dR hu;rw [ag,bB] at this;lia
  refine ⟨T _ _ g4,dU (m:=100) (by rw [ag];lia),kF.mk' ht ⟨_,rfl⟩ ⟨aE,λb' ob e=>by rw [aH (aP e hacc)];exact T _ _ (S4 _ _ e),us++[(u,r)],by simp [pW],?_,λz hz'=>?_⟩⟩
  ·rw [aU,hu,dI,hu'];rfl
  ·have tn:∀ {z:Ti×af},ph H6 z->ph (upd H6 acc (.lst (us.map pW++[.ref r]))) z:=λ{z} e=>(aH (gh e (T _ _ g4))).trans e
   rcases aN.mp hz' with hz'|hz'
   ·exact tn (T _ _ (fl z hz'))
   ·rw [aA.mp hz'];exact tn gr
open Uf
def ni (hs:List Nat):List Int:=hs.map λv:Nat=>(v:Int)
def Qo {hs:List Nat}{i v:Nat}(e:hs[i]?=some v):(ni hs)[i]?=some (v:Int):=by unfold ni;rw [ax,e];rfl
def Wb (hs:List Nat) (i v:Nat):((ni hs).map V.int).set i (.int v)=(ni (hs.set i v)).map V.int:=by unfold ni;rw [MK,MK]
inductive gA (K:aa) (C:af) (vs:List V) (H:Hp) (Q:VK) (E:XK):Prop
 | mk (l:af) (hs:List Nat) (n a:Nat):vs=[.ref l,.int a]->H l=some (.lst ((ni hs).map V.int))->Hd n hs->a<n->Q (.int (rt hs a:Nat)) H->gA K C vs H Q E
def Ds:Rn (gA K C) (wg K C) Mh:=by
 rintro vs H Q E ⟨l,hs,n,a,rfl,hl,hd,ha,k⟩;unfold wg;lk;unfold rG;refine vH (λZ H'=>H'=H/\∃ b:Nat,Z=[some (.ref l),some (.int b)]/\b<n/\rt hs b=rt hs a) (λZ _=>match Z with|[_,some (.int b)]=>b.toNat|_=>0) ⟨rfl,a,rfl,ha,rfl⟩ ?_;rintro Z H' ⟨rfl,b,rfl,hb,e⟩;obtain ⟨v,hv,hvb⟩:=hd.get hb;lk;refine yR (c9.of hl) rfl (Qo hv) ?_;lk;refine M5 (λc=>?_) λc=>?_
 ·have hne:v≠b:=λz=>c (by rw [z])
  have er:rt hs v=rt hs a:=by rw [← e,Bj hv,if_pos (by lia)]
  refine ⟨_,LN,?_⟩;lk;refine yR (c9.of hl) rfl (Qo hv) ?_;lk;refine ⟨⟨rfl,v,rfl,by lia,er⟩,?_⟩
  show (v:Int).toNat<(b:Int).toNat
  lia
 ·have c:v=b:=by injection c with c;lia
  have er:rt hs a=b:=by rw [← e,Bj hv,if_neg (by lia)]
  lk;rw [er] at k;exact k
def Uq {ys:List V}{f:Nat->Nat}(hl:ys.length=n) (h:∀ (i:Nat) (y:V),ys[i]?=some y->y=V.int ((f i:Nat):Int)):ys=(ni ((c6 n).map f)).map V.int:=by
 apply jK
 intro i;unfold ni;rw [bK,bK,ax]
 by_cases c:i<n
 ·have e:=ay (l:=ys) (show i<ys.length by lia);rw [e,h i _ e,kI c];rfl
 ·rw [cU (by lia),cU (by simp;lia)];rfl
def pN (z:Zt):Nat×Nat:=(z.1.toNat,z.2.1.toNat)
inductive cQ (K:aa) (C:af) (vs:List V) (H:Hp) (Q:VK) (E:XK):Prop
 | mk (n:Nat) (l:af) (zs:List Zt):vs=[.int n,.ref l]->n<=200->H l=some (.lst (zs.map fo))->(∀ z∈zs,fX H z/\0<=z.1/\z.1<n/\0<=z.2.1/\z.2.1<n)->(∀ (q:af) (hs:List Nat) (H':Hp),bL H H'->H q=none->Jo n hs (zs.map pN)->H' q=some (.lst ((ni ((c6 n).map (rt hs))).map V.int))->Q (.ref q) H')->cQ K C vs H Q E
def BN:Rn (cQ K C) (t8 K C (gA K C)) Yl:=by
 rintro vs H Q E ⟨n,l,zs,rfl,hn,hl,hz,k⟩;unfold t8;lk;refine ⟨by lia,by lia,λp hp=>A4 (n:=n) (E:=λi y _=>y=.int ((i:Nat):Int)) (S:=λZ=>∃ o,Z=[o]) hp ⟨_,rfl⟩ (by lia) (λ_ _ _ _ _ _ _ e=>e) ?_ ?_⟩
 ·rintro i σ' H' G hi S' ⟨o,rfl⟩ go;lk;exact go _ _ _ ⟨_,rfl⟩ (λ_ _ e=>e) (by rw [jq])
 ·intro ys H1 hyl g1 S1 hys;have ey:=Uq (f:=id) hyl λi y e=>hys i y e;rw [List.map_id] at ey;subst ey;lk;unfold ql;lk;have npl:l≠p:=aP hl hp;refine .inl ⟨⟨_,c9.of (S1 _ _ hl)⟩,iY (K:=K) (a:=l) (xs:=zs.map fo) (λi Z H4=>∃ (hs:List Nat) (o3 o4 o5 o6:Option V),Z=[some (.int n),some (.ref l),some (.ref p),o3,o4,o5,o6]/\H4 p=some (.lst ((ni hs).map V.int))/\Jo n hs ((zs.take i).map pN)/\a8 p H1 H4) ⟨_,_,_,_,_,rfl,g1,Jo.start n,a8.refl _ _⟩ ?_ ?_ ?_⟩
  ·rintro i Z H4 _ ⟨hs,o3,o4,o5,o6,_,_,_,B⟩;exact c9.of (B _ _ (S1 _ _ hl) npl)
  ·rintro i v Z H4 hi ⟨hs,o3,o4,o5,o6,rfl,g4,J,B⟩;rw [ax] at hi;obtain ⟨z,hzi,rfl⟩:=aW.mp hi;obtain ⟨pz,b1,b2,b3,b4⟩:=hz z (aL hzi)
   obtain ⟨x,ex⟩:∃ x:Nat,z.1=(x:Int):=⟨z.1.toNat,by lia⟩
   obtain ⟨y,ey⟩:∃ y:Nat,z.2.1=(y:Int):=⟨z.2.1.toNat,by lia⟩
   have hx:x<n:=by lia
   have hy:y<n:=by lia
   have pz:H4 z.2.2=some (.tup [.int x,.int y]):=by
    rw [← ex,← ey];exact B _ _ (S1 _ _ pz) (aP pz hp)
   have et:zs.take (i+1)=zs.take i++[z]:=by rw [dI,hzi];rfl
   refine xP (.of pz) rfl ?_;lk;refine ⟨p,hs,n,x,rfl,g4,J.hd,hx,?_⟩;lk;refine ⟨p,hs,n,y,rfl,g4,J.hd,hy,?_⟩;lk;have lx:=Mc hs x;have ly:=Mc hs y;rw [show (if ((rt hs y:Nat):Int)<(rt hs x:Nat) then ((rt hs y:Nat):Int) else (rt hs x:Nat))=((min (rt hs x) (rt hs y):Nat):Int) by split<;>lia,show (if ((rt hs y:Nat):Int)>(rt hs x:Nat) then ((rt hs y:Nat):Int) else (rt hs x:Nat))=((max (rt hs x) (rt hs y):Nat):Int) by split<;>lia];refine OU g4 (O0 (j:=max (rt hs x) (rt hs y)) rfl (by rw [ag,ni,ag,J.hd.len];lia)) ?_;rw [Wb];refine ⟨_,_,_,_,_,rfl,aE,?_,B.trans a8.upd⟩;rw [et,aU]
   have ep:pN z=(x,y):=by unfold pN;rw [ex,ey];rfl
   show Jo n _ (_++[pN z])
   rw [ep];exact J.add hx hy
  ·rintro Z H4 ⟨hs,o3,o4,o5,o6,rfl,g4,J,B⟩;rw [ag,qM] at J;have S4:bL H H4:=λb o e=>B _ _ (S1 _ _ e) (aP e hp);lk;refine ⟨by lia,by lia,λq hq=>A4 (n:=n) (E:=λi y _=>y=.int ((rt hs i:Nat):Int)) (S:=λZ=>∃ o,Z=[o,some (.ref p)]) hq ⟨_,rfl⟩ (by lia) (λ_ _ _ _ _ _ _ e=>e) ?_ ?_⟩
   ·rintro i σ' H' G hi S' ⟨o,rfl⟩ go;lk;rw [jq];refine ⟨p,hs,n,i,rfl,S' _ _ g4,J.hd,hi,?_⟩;exact go _ _ _ ⟨_,rfl⟩ (λ_ _ e=>e) rfl
   ·intro ys H5 hyl g5 S5 hys;have ey:=Uq (f:=rt hs) hyl hys;subst ey;exact k q hs H5 (S4.trans S5) (S4.free hq) J g5
inductive bC (K:aa) (C:af) (vs:List V) (H:Hp) (Q:VK) (E:XK):Prop
 | mk (a:af) (ns:List Int) (k:Nat):vs=[.ref a,.int k]->c9 K H a (ns.map V.int)->(∀ z:Int,Q (.int z) H)->bC K C vs H Q E
def yd:Rn (bC K C) (qj K C) Mj:=by
 rintro vs H Q E ⟨a,ns,k,rfl,hS,q⟩;unfold qj;lk;refine O5 hS ?_;lk;refine qf (λh=>?_) λh=>?_
 ·lk
  have hk:k<ns.length:=by lia
  refine yR hS rfl (ay hk) ?_;exact q _
 ·lk;exact q _
def em (hn:0<n) (x:Int):∃ j:Nat,x%(n:Int)=(j:Int)/\j<n:=by
 have h1:=Xc x (show (n:Int)≠0 by lia);have h2:=Am x (show (0:Int)<n by lia);exact ⟨(x%(n:Int)).toNat,by lia,by lia⟩
def SD {z:Int}(hn:1<=n) (h0:0<=z) (h1:z<(n:Int)*n):∃ m:Nat,z/(n:Int)=(m:Int)/\m<n:=by
 have a1:=Int.ediv_nonneg h0 (b:=(n:Int)) (by lia);have a2:=Int.ediv_lt_of_lt_mul (a:=z) (b:=(n:Int)) (c:=(n:Int)) (by lia) h1;exact ⟨(z/n).toNat,by lia,by lia⟩
inductive gJ (K:aa) (C:af) (vs:List V) (H:Hp) (Q:VK) (E:XK):Prop
 | mk (c base:Int) (many:Nat):vs=[.int c,.int base,.int many]->0<base->base<1073741824->many<=1000->(∀ l H' ds,bL H H'->H l=none->H' l=some (.lst (Oe V.int ds))->ds.length=many->(∀ d∈ds,0<=d/\d<base)->Q (.ref l) H')->gJ K C vs H Q E
def zV:Rn (gJ K C) (rK K C) Ua:=by
 rintro vs H Q E ⟨c,base,many,rfl,hb,hb2,hm,k⟩;unfold rK;lk;refine ⟨bM (m:=0) (ar 0),λl hl0=>?_⟩;have S0:=bL.cD (o:=.lst []) hl0;lk;unfold oU;lk
 refine ⟨by lia,by lia,oC (λi Z H1=>∃ (c':Int) (ds:List Int) (o4:Option V),Z=[some (.int c'),some (.int base),some (.int many),some (.ref l),o4]/\bL H H1/\H1 l=some (.lst (ds.map V.int))/\ds.length=i/\∀ d∈ds,0<=d/\d<base)
  ⟨c,[],_,rfl,S0,aE,rfl,(λd h=>nomatch h)⟩ ?_ ?_⟩
 ·rintro i Z H1 hi ⟨c',ds,o4,rfl,S,hL,hd,hB⟩;lk;refine ⟨.inl ⟨rfl,_,c9.of hL⟩,?_⟩;lk;refine rg hL (dU (m:=2000) (by rw [ag];lia)) ?_;lk;refine ⟨_,ds++[c'%base],_,rfl,λb o e=>?_,by rw [aE,aU];rfl,by rw [bu,hd];rfl,λd h=>?_⟩
  ·rw [aH (aP e hl0)];exact S b o e
  ·rcases aN.mp h with h|h
   ·exact hB d h
   ·rw [aA.mp h];exact ⟨Xc _ (by lia),Am _ hb⟩
 ·rintro Z H1 ⟨c',ds,o4,rfl,S,hL,hd,hB⟩;lk;exact k l H1 ds S hl0 hL (by lia) hB
def KM (n:Nat) (H:Hp) (z:Zt):Prop:=fX H z/\∃ i j:Nat,z.1=(i:Int)/\z.2.1=(j:Int)/\i<j/\j<n
inductive cg (K:aa) (C:af) (vs:List V) (H:Hp) (Q:VK) (E:XK):Prop
 | mk (s:af) (ns:List Int) (n:Nat):vs=[.ref s,.int n]->c9 K H s (ns.map V.int)->1<=n->n<=24->(∀ (l:af) (zs:List Zt) (H':Hp),bL H H'->H l=none->H' l=some (.lst (zs.map fo))->(∀ z∈zs,KM n H' z)->zs.length<=40->Q (.ref l) H')->cg K C vs H Q E
def ye:Rn (cg K C) (qp K C (gJ K C) (bC K C)) Ug:=by
 rintro vs H Q E ⟨s,ns,n,rfl,hS,hn1,hn2,k⟩
 have hnn:(0:Int)<(n:Int)*n/\(n:Int)*n<=576:=by
  have h1:(n:Int)<=24:=by lia
  constructor
  ·exact Int.mul_pos (by lia) (by lia)
  ·have:=Int.mul_le_mul h1 h1 (by lia) (by lia);lia
 unfold qp;lk;refine ⟨bM (m:=0) (ar 0),λl hl0=>?_⟩;have S1:=bL.cD (o:=.lst []) hl0;have g1:(upd H l (.lst [])) l=some (.lst (([]:List Zt).map fo)):=aE;generalize upd H l (.lst [])=H1 at S1 g1;lk;unfold nN;lk;refine ⟨s,ns,1,rfl,S1.seq hS,λz1=>?_⟩;lk;refine ⟨s,ns,2,rfl,S1.seq hS,λz2=>?_⟩;lk;obtain ⟨many,hmany,hm⟩:=em (n:=41) (by decide) z2;rw [show z2%41=(many:Int) from hmany];refine ⟨z1,(n:Int)*n,many,rfl,hnn.1,by lia,by lia,λdl H2 ds S2 hdl hD hdn hdB=>?_⟩
 have ndl:dl≠l:=λz=>by rw [z,g1] at hdl;cases hdl
 refine ⟨dl,rfl,.inl ⟨⟨_,c9.of hD⟩,iY (K:=K) (a:=dl) (xs:=ds.map V.int) (λi Z H4=>∃ (zs:List Zt) (o:Option V),Z=[some (.ref s),some (.int n),some (.ref l),o]/\H4 l=some (.lst (zs.map fo))/\(∀ z∈zs,KM n H4 z)/\zs.length<=i/\a8 l H2 H4) ⟨[],_,rfl,S2 _ _ g1,(λz hz=>nomatch hz),ar _,a8.refl _ _⟩ ?_ ?_ ?_⟩⟩
 ·rintro i Z H4 _ ⟨zs,o,_,_,_,_,B⟩;exact c9.of (B _ _ hD ndl)
 ·rintro i v Z H4 hi ⟨zs,o,rfl,g4,hzs,hzl,B⟩;rw [ax] at hi;obtain ⟨d,hdi,rfl⟩:=aW.mp hi;obtain ⟨bd1,bd2⟩:=hdB d (aL hdi)
  have hi2:i<41:=by have:=(aC.mp hdi).1;lia
  obtain ⟨a,ea,ha⟩:=SD hn1 bd1 bd2;obtain ⟨b,eb,hb⟩:=em hn1 d;lk;rw [ea,eb];refine M5 (λc=>?_) λ_=>?_
  ·have hab:a≠b:=λz=>c (by rw [z]);lk;refine ⟨.inl ⟨rfl,_,c9.of g4⟩,?_⟩;lk;rw [ea,eb];rw [show (if (b:Int)<a then (b:Int) else a)=((min a b:Nat):Int) by split<;>lia,show (if (b:Int)>a then (b:Int) else a)=((max a b:Nat):Int) by split<;>lia];refine ⟨bM (m:=2) (ar 2),λp hp=>?_⟩;generalize eu_:upd H4 p (.tup [.int (min a b:Nat),.int (max a b:Nat)])=H5;obtain ⟨S5,g5⟩:=jZ eu_ hp;have l5:=S5 _ _ g4;lk;refine rg l5 (dU (m:=100) (by rw [ag];lia)) ?_;have tn:∀ {b:af}{xs:List V}{ys:List V},H5 b=some (.tup xs)->(upd H5 l (.lst ys)) b=some (.tup xs):=λe=>(aH (gh e l5)).trans e;refine ⟨zs++[(((min a b:Nat):Int),((max a b:Nat):Int),p)],_,rfl,by rw [aE,aU];rfl,λz hz=>?_,by rw [bu];simp;lia,λb' o' e hne=>by rw [aH hne];exact S5 _ _ (B _ _ e hne)⟩
   rcases aN.mp hz with hz|hz
   ·exact ⟨tn (S5 _ _ (hzs z hz).1),(hzs z hz).2⟩
   ·rw [aA.mp hz];exact ⟨tn g5,min a b,max a b,rfl,rfl,by lia,by lia⟩
  ·exact ⟨zs,_,rfl,g4,hzs,by lia,B⟩
 ·rintro Z H4 ⟨zs,o,rfl,g4,hzs,hzl,B⟩;rw [ag] at hzl;lk;exact k l zs H4 (λb' o' e=>B _ _ (S2 _ _ (S1 _ _ e)) (aP e hl0)) hl0 g4 hzs (by lia)
def Qp {v w x y:V}:uL [v,w,x,y] none (some 2)=[v,w]:=by rw [uR (show (2:Int)=((2:Nat):Int) from rfl)];rfl
def KN {u:Ti×af}(h:ph H u) (k:∀ q,H q=none->Q (.ref q) (upd H q (.tup [.int u.1.x,.int u.1.y]))):AY K (.ref u.2) none (some 2) H Q :=
 ⟨u.2,_,rfl,ku.of h,(λz=>by have:=z.2;simp [HT.lB] at this),λq hq=>by rw [Qp];exact k q hq⟩
def Gg {tt:TT}{o:Option V}{rest:L2.St}{z acc:af}{R:Hp->Prop}(pf:Ti×af->Bool) (hz:H z=some (.lst (us.map pW))) (fl:∀ u∈us,ph H u) (hl:us.length<100) (ha:H acc=none)
   (turn:∀ (u:Ti×af) (H':Hp) (G:Bool->Hp->Prop),u∈us->ph H' u->bL H H'->(∀ H2,bL H' H2->G (pf u) H2)->tt (some (pW u)::rest) H' G)
   (fin:∀ (zs:List Zt) (H':Hp),bL H H'->H' acc=some (.lst (zs.map fo))->(∀ z∈zs,fX H' z)->zs.map zP=(us.filter pf).map (λu=>u.1.key)->R H') :
  ∃ W:Nat->Nat->List V->L2.St->Hp->Prop,(∃ m,W 0 m [] (o::rest) (upd H acc (.lst [])))/\∀ i m ys σ' H',W i m ys σ' H'->H' acc=some (.lst ys) /\
  (((Hl K z).stop i H'/\R H')\/((Hl K z).go i H'/\∀ x H2,(Hl K z).Hm i H' x H2->(bo 0) x σ' H2 λσ2 H3=>tt σ2 H3 λb H4 =>
   if b=true then (yM (AY K) (aq 0) eX (hZ (tC (.int 2)))) σ2 H4 λy H5=>H5 acc=some (.lst ys)/\ys.length<aT/\∃ m',m'<m/\W (i+1) m' (ys++[y]) σ2 (upd H5 acc (.lst (ys++[y]))) else ∃ m',m'<m/\W (i+1) m' ys σ2 H4)):=by
 refine mw (n:=us.length) (λt ys H4=>H4 acc=some (.lst ys)/\bL H H4/\∃ zs:List Zt,ys=zs.map fo/\zs.map zP=((us.take t).filter pf).map (λu=>u.1.key)/\∀ z∈zs,fX H4 z) (λZ=>∃ o,Z=o::rest) ⟨aE,bL.cD ha,[],rfl,rfl,λz hz=>nomatch hz⟩ ⟨_,rfl⟩ ?_ ?_ ?_ ?_
 ·rintro t ys H4 ⟨e,_⟩;exact e
 ·rintro ys H2 ⟨g2,S2,zs,rfl,hz',pz⟩;rw [bX (ar _)] at hz';exact ⟨⟨_,c9.of (S2 _ _ hz),by rw [ag];exact ar _⟩,fin zs H2 S2 g2 pz hz'⟩
 ·rintro t ys H4 ht ⟨_,S4,_⟩;exact ⟨_,_,c9.of (S4 _ _ hz),ay (by rw [ag];exact ht)⟩
 ·rintro t ys σ' H4 v H5 ht ⟨g4,S4,zs,rfl,hz',pz⟩ ⟨o,rfl⟩ ⟨e2,hv⟩;subst e2;have hv:=hv _ (c9.of (S4 _ _ hz));rw [ax] at hv;obtain ⟨u,hu,rfl⟩:=aW.mp hv;have hum:=aL hu;have r4:=S4 _ _ (fl u hum)
  have et:us.take (t+1)=us.take t++[u]:=by rw [dI,hu];rfl
  have hzl:zs.length<=t:=by
   have:=congrArg dR hz';rw [ag,ag] at this;rw [this];exact bf (cT _ _) (by rw [bB];lia)
  refine FI ?_;refine turn u H5 _ hum r4 S4 λH6 S6=>?_;have S46:=S4.trans S6
  cases hw:pf u with
  | false =>
   refine iQ (kF.mk' ht ⟨_,rfl⟩ ⟨S6 _ _ g4,S46,zs,rfl,?_,pU pz S6⟩)
   rw [et,dv,aU,hz'];simp [hw]
  | true =>
   refine lU ?_;lk;refine KN (S6 _ _ r4) λc hc=>?_;have S7:=bL.cD (o:=.tup [.int u.1.x,.int u.1.y]) hc;have g7:(upd H6 c (.tup [.int u.1.x,.int u.1.y])) c=some (.tup [.int u.1.x,.int u.1.y]):=aE;generalize upd H6 c (.tup [.int u.1.x,.int u.1.y])=H7 at S7 g7 ⊢;have a7:=S7 _ _ (S6 _ _ g4);have tn:∀ {z:Zt}{ys:List V},fX H7 z->fX (upd H7 acc (.lst ys)) z:=λ{z ys} e=>(aH (gh e a7)).trans e;refine ⟨a7,dU (m:=200) (by rw [ag];lia),kF.mk' ht ⟨_,rfl⟩ ⟨aE,λb' o' e=>by rw [aH (aP e ha)];exact S7 _ _ (S46 _ _ e),zs++[((u.1.x:Int),(u.1.y:Int),c)],by rw [aU];rfl,?_,λz hz''=>?_⟩⟩
   ·rw [et,dv,aU,aU,hz'];simp [hw];rfl
   ·rcases aN.mp hz'' with q|q
    ·exact tn (S7 _ _ (S6 _ _ (pz z q)))
    ·rw [aA.mp q];exact tn (z:=((u.1.x:Int),(u.1.y:Int),c)) g7
def Nq {α:Type} {f:α->List Int}(inj:∀ x y,f x=f y->x=y) {xs ys:List α}(p:xs.Perm ys) (h1:xs.Pairwise λx y=>fA (f y) (f x)=false) (h2:ys.Pairwise λx y=>fA (f y) (f x)=false):xs=ys :=
 List.Perm.eq_of_pairwise (le:=λx y=>fA (f y) (f x)=false) (λa b _ _ h h'=>inj _ _ (by
  rcases uS h with q|q
  ·rw [h'] at q;cases q
  ·exact q.symm)) h1 h2 p
def k2 (p:Int×Int):List Int:=[p.1,p.2]
def Asc (l:List (Int×Int)):Prop:=l.Pairwise λp q=>fA (k2 q) (k2 p)=false
def Qq {u v:Ti}(h:fA (Ge v) (Ge u)=false):fA (k2 v.key) (k2 u.key)=false:=by
 simp only [Ge,fA,k2,Ti.key] at h ⊢
 by_cases c:(v.x:Int)=u.x
 ·rw [if_pos c] at h ⊢
  by_cases c':(v.y:Int)=u.y
  ·rw [if_pos c']
  ·rw [if_neg c'] at h ⊢;exact h
 ·rw [if_neg c] at h ⊢;exact h
structure Tb (H:Hp) (l:af) (us:List (Ti×af)) (ts:List Ti):Prop where
 g:H l=some (.lst (us.map pW))
 fl:∀ u∈us,ph H u
 pm:(us.map (·.1)).Perm ts
 so:us.Pairwise (λu v=>fA (Ge v.1) (Ge u.1)=false)
 len:us.length<100
section
def Tb.same (h:Tb H l us ts) (S:bL H H'):Tb H' l us ts:=⟨S _ _ h.g,λu hu=>S _ _ (h.fl u hu),h.pm,h.so,h.len⟩
def Tb.mem (h:Tb H l us ts) {u:Ti×af}(hu:u∈us):u.1∈ts:=h.pm.mem_iff.mp (bq hu)
def Tb.of (h:Tb H l us ts) {t:Ti}(ht:t∈ts):∃ u∈us,u.1=t:=a6.mp (h.pm.mem_iff.mpr ht)
def Tb.up (h:Tb H l us ts) (pf:Ti×af->Bool):Asc ((us.filter pf).map λu=>u.1.key):=dj.mpr ((h.so.sublist iV).imp λq=>Qq q)
def Tb.prs (h:Tb H l us ts) (L:Lv n T ts R) {pf:Ti×af->Bool}{zs:List Zt}(e:zs.map zP=(us.filter pf).map (λu=>u.1.key)):(∀ z∈zs,0<=z.1/\z.1<n/\0<=z.2.1/\z.2.1<n)/\zs.map pN=(us.filter pf).map λu=>u.1.np:=by
 constructor
 ·intro z hz;have:=bq (f:=zP) hz;rw [e] at this;obtain ⟨u,hu,eu⟩:=a6.mp this;obtain ⟨e1,e2⟩:=cB eu;obtain ⟨l1,l2,_⟩:=L.lt _ (h.mem (cw.mp hu).1);lia
 ·have e2:=congrArg (Oe λk:Int×Int=>(k.1.toNat,k.2.toNat)) e;rw [bK,bK] at e2;exact e2
end
def gE (K:aa) (C:af):Sp:=λvs H Q _=>∃ x:Int,vs=[.int x]/\Q (.bl true) H
def BO:Rn (gE K C) (t7 K C) ["_law_found"]:=by
 rintro vs H Q E ⟨x,rfl,k⟩;unfold t7;lk;refine A3 (.int _) OY ?_;refine ⟨true,rfl,lU ?_⟩;lk;refine A3 (.int _) OZ ?_;exact ⟨false,rfl,k⟩
theorem IL:∀ {zs:List Zn}{ps:List (Int×Int)},(∀ z∈zs,Bc [false] H z)->zs.map (·.1)=ps.map k2->eF K H (ps.map BF) (zs.map lF)
 | [],[],_,_=>.nil
 | [],_::_,_,e=>nomatch e
 | _::_,[],_,e=>nomatch e
 | z::zs,p::ps,h,e=>by
  obtain ⟨e1,e2⟩:=kb e;obtain ⟨xs,h1,h2⟩:=h z aw;have e1:z.1=[p.1,p.2]:=e1;rw [e1] at h2
  have:H z.2=some (.tup [.int p.1,.int p.2]):=by
   cases h2 with
   | int i h2 =>
    cases h2 with
    | int j h2=>cases h2;exact h1
  exact .cons (KE this) (IL (λy hy=>h y (aj _ hy)) e2)
def kd (ps:List (Int×Int)):List (List fT×V):=ps.map λp=>([cu p.1,cu p.2],.bl true)
def wC (ts:List Ti):kd (ts.map Ti.key)=kf (λ_=>V.bl true) ts:=by unfold kd kf;rw [bK];rfl
inductive bZ (K:aa) (C:af) (vs:List V) (H:Hp) (Q:VK) (E:XK):Prop
 | mk (l d:af) (us:List (Ti×af)) (ts:List Ti):vs=[.ref l,.ref d]->Tb H l us ts->H d=some (.dT (kd (ts.map Ti.key)))->(∀ H',bL H H'->Q (.bl true) H')->bZ K C vs H Q E
def BP:Rn (bZ K C) (t9 K C (gE K C)) Uc:=by
 rintro vs H Q E ⟨l,d,us,ts,rfl,h,hd,k⟩
 have hul:us.length=ts.length:=by have:=h.pm.length_eq;rwa [ag] at this
 have hlen:=h.len;unfold t9;lk;refine A3 (.lst h.g) VM ?_;refine ⟨true,rfl,iQ ?_⟩;lk;refine pP (c9.of h.g) ?_;lk;refine ⟨d,_,rfl,hd,?_⟩;lk;refine M5 (λc=>absurd (by rw [ag,wC,kU,hul]) c) λ_=>?_;lk;unfold qm;lk;refine pP (c9.of h.g) ?_;rw [ag];lk;refine ⟨by lia,by lia,oC (λi Z H4=>H4=H/\∃ o2 o3,Z=[some (.ref l),some (.ref d),o2,o3]) ⟨rfl,_,_,rfl⟩ ?_ ?_⟩
 ·rintro i Z H4 hi ⟨rfl,o2,o3,rfl⟩;have hu:us[i]?=some us[i]:=ay hi;have hp:=h.fl _ (gZ hi);generalize us[i]=u at hu hp;lk;refine lu (c9.of h.g) (v:=pW u) (eE (jq _) (by rw [ax,hu];rfl)) ?_;lk;refine A3 (.tup hp) VN ?_;refine ⟨true,rfl,iQ ?_⟩;lk;refine VC (.of hp) ?_;lk;refine M5 (λc=>absurd rfl c) λ_=>?_;lk;refine fO (.of hp) (v:=.bl u.1.wd) rfl ?_;lk;refine A3 (.bl _) VL ?_;refine ⟨true,rfl,iQ ?_⟩;lk;refine fO (.of hp) (v:=.int u.1.x) rfl ?_;refine ⟨_,rfl,true,rfl,iQ ?_⟩;lk;refine fO (.of hp) (v:=.int u.1.y) rfl ?_;refine ⟨_,rfl,true,rfl,iQ ?_⟩;lk;refine fO (.of hp) (v:=.int u.1.cm) rfl ?_;refine ⟨_,rfl,true,rfl,iQ ?_⟩;lk;refine fO (.of hp) (v:=.int u.1.cm) rfl ?_;lk;refine qf (λc=>absurd c (by lia)) λ_=>?_;lk;exact ⟨rfl,_,_,rfl⟩
 ·rintro Z H4 ⟨rfl,o2,o3,rfl⟩;lk;refine .inl ⟨⟨_,c9.of h.g⟩,λacc hacc=>Gg (o:=none) (rest:=[]) (λ_=>true) h.g h.fl h.len hacc (λu H' G _ _ _ g=>g _ (λ_ _ e=>e)) λzs H1 S1 g1 pz1 e1=>?_⟩;have up:=h.up λ_=>true;rw [xE.mpr λ_ _=>rfl] at e1 up;lk;refine ⟨d,_,rfl,S1 _ _ hd,λq hq=>?_,by rw [wC,kU];lia,λl' zs' hl' flat perm so'=>?_⟩
  ·unfold kd at hq;obtain ⟨c,_,rfl⟩:=a6.mp hq;exact ⟨_,_,rfl⟩
  ·have S2:=bL.cD (o:=.lst (zs'.map lF)) hl';have g2:(upd H1 l' (.lst (zs'.map lF))) l'=some (.lst (zs'.map lF)):=aE;generalize upd H1 l' (.lst (zs'.map lF))=H2 at S2 g2 ⊢
   have e:zs'.map (·.1)=(us.map λu=>u.1.key).map k2:=by
    refine Nq (f:=id) (λ_ _ e=>e) (perm.trans ?_) (dj.mpr so') (dj.mpr up);unfold kd;rw [bK,bK,bK];have:=(h.pm.map λt=>k2 t.key).symm;rw [bK] at this;exact this
   refine XN (KC (S2 _ _ g1) (pU pz1 S2)) (.lst (c9.of g2) (IL (λz hz=>?_) e)) (wx _) (wx _) ?_
   ·obtain ⟨xs,h1,h2⟩:=flat z hz;exact ⟨xs,S2 _ _ h1,h2⟩
   ·rw [V7 e1];exact k _ (S1.trans S2)
def BQ {t u:TS}{D:qO}{Z:L2.St}(P:L2.St->Hp->Prop) (rest:∀ σ' H',P σ' H'->u D σ' H') (h:(∀ σ' H',P σ' H'->u D σ' H')->t { D with nx:=u D } Z H):bP t u D Z H:=h rest
def Yo (ws:List (Ti×af)) (h:0<ws.length) (z:Int):∃ u∈ws,N4 (ws.map pW) (z%(ws.length:Int))=some (pW u):=by
 obtain ⟨j,ej,hj⟩:=em h z;exact ⟨ws[j],gZ hj,by rw [ej];exact eE rfl (by rw [ax,ay hj];rfl)⟩
def Gh {tt:TT}{o:Option V}{rest:L2.St}{z acc:af}{R:Hp->Prop}(pf:Ti×af->Bool) (hz:H z=some (.lst (us.map pW))) (fl:∀ u∈us,ph H u) (hl:us.length<100) (ha:H acc=none)
   (turn:∀ (u:Ti×af) (H':Hp) (G:Bool->Hp->Prop),u∈us->ph H' u->G (pf u) H'->tt (some (pW u)::rest) H' G)
   (fin:∀ (H':Hp),bL H H'->H' acc=some (.lst ((us.filter pf).map pW))->R H') :
  ∃ W:Nat->Nat->List V->L2.St->Hp->Prop,(∃ m,W 0 m [] (o::rest) (upd H acc (.lst [])))/\∀ i m ys σ' H',W i m ys σ' H'->H' acc=some (.lst ys) /\
  (((Hl K z).stop i H'/\R H')\/((Hl K z).go i H'/\∀ x H2,(Hl K z).Hm i H' x H2->(bo 0) x σ' H2 λσ2 H3=>tt σ2 H3 λb H4 =>
   if b=true then (aq 0) σ2 H4 λy H5=>H5 acc=some (.lst ys)/\ys.length<aT/\∃ m',m'<m/\W (i+1) m' (ys++[y]) σ2 (upd H5 acc (.lst (ys++[y]))) else ∃ m',m'<m/\W (i+1) m' ys σ2 H4)):=by
 refine vJ (K:=K) us pf pW (λZ=>∃ o,Z=o::rest) (by rw [ag]) (c9.of hz) ha ⟨_,rfl⟩ (by rw [ag];lia) ?_ λH2 S2 g2=>fin H2 S2 g2;rintro i u x σ' H' G G' hu hx S' ⟨o,rfl⟩ hG hG';rw [ax,hu] at hx;cases hx;have r4:=S' _ _ (fl u (aL hu));refine FI ?_;refine turn u H' _ (aL hu) r4 ?_
 cases hw:pf u with
 | false=>exact iQ (hG' hw _ ⟨_,rfl⟩)
 | true =>
  refine lU (OS rfl ?_);exact hG hw _ ⟨_,rfl⟩
def KQ {q:af}{ws:List (Ti×af)}(g:H q=some (.lst (ws.map pW))) (k:∀ H',bL H H'->Q (.bl (!ws.isEmpty)) H'):(zF bj) [] H λy H2=>PL K (.ref q) y H2 Q:=by
 lk;refine ⟨bM (m:=0) (ar 0),λe he=>?_⟩;have S:=bL.cD (o:=.lst []) he;have g1:(upd H e (.lst [])) e=some (.lst []):=aE;have k:=k _ S;generalize upd H e (.lst [])=H1 at S g1 k
 cases ws with
 | nil=>exact .inl (XO (.lst (c9.of (S _ _ g)) .nil) (.lst (c9.of g1) .nil) (wx []) (wx []) k)
 | cons u ws=>exact .inr ⟨q,e,_,_,rfl,rfl,S _ _ g,g1,by simp,k⟩
inductive cW (K:aa) (C:af) (vs:List V) (H:Hp) (Q:VK) (E:XK):Prop
 | mk (c:Int) (kk n:Nat) (l:af) (us:List (Ti×af)) (ts:List Ti):vs=[.int c,.int kk,.int n,.ref l]->2<=n->n<=200->kk<=100->Tb H l us ts->(∀ t∈ts,t.x<t.y/\t.y<n)->(∀ (t:af) (x y:Nat) H',bL H H'->H' t=some (.tup [.int x,.int y])->x<y->y<n->Q (.ref t) H')->cW K C vs H Q E
def Dt:Rn (cW K C) (we K C) Yj:=by
 rintro vs H Q E ⟨c,kk,n,l,us,ts,rfl,hn,hn2,hkk,tb,hb,k⟩;have k1:∀ {H1:Hp}{u:Ti×af}{t:af},bL H H1->u∈us->H1 t=none->Q (.ref t) (upd H1 t (.tup [.int u.1.x,.int u.1.y])):=λS hu ht=>k _ _ _ _ (S.trans (bL.cD ht)) aE (hb _ (tb.mem hu)).1 (hb _ (tb.mem hu)).2;unfold we;lk;refine .inl ⟨⟨_,c9.of tb.g⟩,λacc hacc=>Gh (o:=none) (rest:=[]) (λu=>u.1.wd) tb.g tb.fl tb.len hacc (λu H' G hu r4 g=>?_) λH1 S1 g1=>?_⟩
 ·lk;refine fO (ku.of r4) (v:=.bl u.1.wd) rfl ?_;exact ⟨_,rfl,g⟩
 have sub:∀ u∈us.filter λu=>u.1.wd,u∈us:=λu hu=>(cw.mp hu).1;have wl:(us.filter λu=>u.1.wd).length<100:=bw (cT _ _) tb.len;generalize us.filter (λu=>u.1.wd)=ws at g1 sub wl;have fl1:∀ u∈us,ph H1 u:=λu hu=>S1 _ _ (tb.fl u hu);k_ne
 with_reducible refine BQ (λZ H2=>bL H H2/\Z=[some (.int c),some (.int kk),some (.int n),some (.ref l),some (.int (c%4)),some (.ref acc),none,none,none]) ?_ λgo=>?_
 ·rintro Z H2 ⟨S2,rfl⟩
  with_reducible refine BQ (λZ H3=>bL H H3/\Z=[some (.int c),some (.int kk),some (.int n),some (.ref l),some (.int (c%4)),some (.ref acc),none,none,none]) ?_ λgo=>?_
  ·rintro Z H3 ⟨S3,rfl⟩;obtain ⟨a,ea,ha⟩:=em (n:=n) (by lia) (c/4);obtain ⟨r,er,hr⟩:=em (n:=n-1) (by lia) (c/4/(n:Int)+kk);obtain ⟨b,eb,hbn⟩:=em (n:=n) (by lia) ((a:Int)+1+r)
   have hab:a≠b:=λe=>by
    rw [← e] at eb
    by_cases q:(a:Int)+1+r<n
    ·rw [US (by lia) q] at eb;lia
    ·rw [← Int.sub_emod_right,US (by lia) (by lia)] at eb;lia
   lk;rw [ea,show ((n:Int)-1)=((n-1:Nat):Int) by lia,er,eb];rw [show (if (b:Int)<a then (b:Int) else a)=((min a b:Nat):Int) by split<;>lia,show (if (b:Int)>a then (b:Int) else a)=((max a b:Nat):Int) by split<;>lia];refine ⟨bM (m:=2) (ar 2),λt ht=>?_⟩;exact k t (min a b) (max a b) _ (S3.trans (bL.cD ht)) aE (by lia) (by lia)
  ·lk;refine qf (λ_=>?_) λ_=>?_
   ·k_ne;k_ne;k_ne
    refine KQ (S2 _ _ tb.g) λH3 S3=>⟨_,rfl,?_⟩
    have S03:=S2.trans S3
    cases hus:us.isEmpty with
    | true=>exact iQ (go _ _ ⟨S03,rfl⟩)
    | false =>
     have h0:0<us.length:=by
      cases us with
      | nil=>cases hus
      | cons u us=>simp
     obtain ⟨u,hu,hat⟩:=Yo us h0 (c/4+3*kk);refine lU ?_;lk;refine pP (c9.of (S03 _ _ tb.g)) ?_;rw [ag];lk;refine lu (c9.of (S03 _ _ tb.g)) hat ?_;lk;exact KN (S03 _ _ (tb.fl u hu)) λt ht=>k1 S03 hu ht
   ·exact iQ (go _ _ ⟨S2,rfl⟩)
 ·lk;refine qf (λ_=>?_) λ_=>?_
  ·k_ne;k_ne;k_ne
   refine KQ g1 λH3 S3=>⟨_,rfl,?_⟩
   have S03:=S1.trans S3
   cases hws:ws.isEmpty with
   | true=>exact iQ (go _ _ ⟨S03,rfl⟩)
   | false =>
    have h0:0<ws.length:=by
     cases ws with
     | nil=>cases hws
     | cons u us=>simp
    refine lU ?_;have g3:=S3 _ _ g1;have fl3:∀ u∈ws,ph H3 u:=λu hu=>S3 _ _ (fl1 u (sub u hu));lk;refine .inl ⟨⟨_,c9.of g3⟩,λacc2 hacc2=>vJ (K:=K) ws (λ_=>true) (λu=>.int u.1.cm) (λZ=>∃ o,Z=[o]) (by rw [ag]) (c9.of g3) hacc2 ⟨_,rfl⟩ (by rw [ag];lia) ?_ λH4 S4 g4=>?_⟩
    ·rintro i u x σ' H' G G' hu hx S' ⟨o,rfl⟩ hG hG';rw [ax,hu] at hx;cases hx;have r4:=S' _ _ (fl3 u (aL hu));lk;refine lU ?_;lk;refine fO (ku.of r4) (v:=.int u.1.cm) rfl ?_;exact hG rfl _ ⟨_,rfl⟩
    rw [xE.mpr λ_ _=>rfl] at g4;lk;refine ⟨acc2,(ws.map λu=>(u.1.cm:Int)),rfl,by rw [bK];exact c9.of g4,by rw [ag];exact h0,λM hM _=>?_⟩;obtain ⟨u1,hu1,eM⟩:=a6.mp hM;have g5:=S4 _ _ g3;lk;refine .inl ⟨⟨_,c9.of g5⟩,λacc3 hacc3=>Gh (o:=none) (rest:=[some (.int M)]) (λu=>decide ((u.1.cm:Int)=M)) g5 (λu hu=>S4 _ _ (fl3 u hu)) wl hacc3 (λu H' G hu r4 g=>?_) λH5 S5 g5=>?_⟩
    ·lk;refine fO (ku.of r4) (v:=.int u.1.cm) rfl ?_;lk;rw [show decide (V.int u.1.cm=V.int M)=decide ((u.1.cm:Int)=M) from decide_eq_decide.mpr ⟨V.int.inj,congrArg V.int⟩];exact g
    have h5:0<(ws.filter λu=>decide ((u.1.cm:Int)=M)).length:=sW (cw.mpr ⟨hu1,decide_eq_true eM⟩);have sub5:∀ u∈ws.filter λu=>decide ((u.1.cm:Int)=M),u∈us:=λu hu=>sub u (cw.mp hu).1;generalize ws.filter (λu=>decide ((u.1.cm:Int)=M))=xs at g5 h5 sub5;have S05:=S03.trans (S4.trans S5);obtain ⟨u,hu,hat⟩:=Yo xs h5 (c/4+kk);lk;refine pP (c9.of g5) ?_;rw [ag];lk;refine lu (c9.of g5) hat ?_;lk;exact KN (S05 _ _ (tb.fl u (sub5 u hu))) λt ht=>k1 S05 (sub5 u hu) ht
  ·exact iQ (go _ _ ⟨S1,rfl⟩)
def Wc {a:af}{kvs:List (fT×V)}{o:ft}{g:TG}{tb:TS}{D:qO}{Z:L2.St}(Pv:Nat->L2.St->Hp->Prop) (h0:Pv 0 Z H) (hl:∀ i Z H,i<=kvs.length->Pv i Z H->H a=some (.frz o (.dK kvs)))
  (hs:∀ i k v Z H,kvs[i]?=some (k,v)->Pv i Z H->g (kV k) Z H λσ2 H2=>tb { D with nx:=Pv (i+1),ct:=Pv (i+1),bk:=D.nx } σ2 H2) (hd:∀ Z H,Pv kvs.length Z H->D.nx Z H) :
  ∃ W:Nat->Nat->L2.St->Hp->Prop,(∃ m,W 0 m Z H)/\∀ i m Z H,W i m Z H ->
   ((WU a kvs o).stop i H/\D.nx Z H)\/((WU a kvs o).go i H/\∃ N:L2.St->Hp->Prop,(∀ σ' H',N σ' H'->∃ m',m'<m/\W (i+1) m' σ' H')/\∀ x H',(WU a kvs o).Hm i H x H'->g x Z H' λσ2 H2=>tb { D with nx:=N,ct:=N,bk:=D.nx } σ2 H2):=by
 refine ⟨λi m Z H=>m=kvs.length-i/\i<=kvs.length/\Pv i Z H,⟨kvs.length,by simp,aQ _,h0⟩,?_⟩;rintro i m Z H ⟨hm,hi,p⟩
 by_cases e:i=kvs.length
 ·subst e;exact .inl ⟨⟨ar _,hl _ _ _ (ar _) p⟩,hd _ _ p⟩
 ·refine .inr ⟨⟨by lia,hl _ _ _ hi p⟩,Pv (i+1),λσ' H' p'=>⟨kvs.length-(i+1),by lia,rfl,by lia,p'⟩,?_⟩;rintro x H' ⟨rfl,k,v,hk,rfl⟩;exact hs i k v Z H' hk p
def Yp {i:Nat}{Z:L2.St}{a:af}{kvs:List (fT×V)}{R:It->Hp->Prop}(e:Z[i]?=some (some (.ref a))) (g:H a=some (.dK kvs)) (h:∀ o,R (WU a kvs o) (upd H a (.frz o (.dK kvs)))):iDK (aq i) Z H R:=OS e ⟨a,kvs,rfl,g,h⟩
def Yq {c d:TT}{Z:L2.St}{G:Bool->Hp->Prop}(P:Hp->Prop) (go:∀ H',P H'->G true H') (h:(∀ H',P H'->G true H')->Fo c d Z H G):Fo c d Z H G:=h go
def Gi {td ty tx:TE}{Z:L2.St}(h:td Z H λx H1=>∃ a,x=.ref a/\ZV H1 a/\ty Z H1 λy H2=>tx Z H2 λz H3=>∃ o,oh H3 a y o/\Q (o.getD z) H3):FD td ty tx Z H Q:=h
def cnt (hs:List Nat) (i:Nat) (z:Int):Nat:=((c6 i).filter λk=>decide ((rt hs k:Int)=z)).length
def Qr (hs:List Nat) (i:Nat) (z:Int):cnt hs (i+1) z=cnt hs i z+if z=(rt hs i:Int) then 1 else 0:=by
 unfold cnt;rw [List.range_succ,dv,bu]
 by_cases c:z=(rt hs i:Int)
 ·rw [if_pos c,c];simp
 ·rw [if_neg c];simp [Ne.symm c]
def We (L:Lv n T ts R) (J:Jn ts R) {l:Nat}(hl:l<=T) {ps:List (Nat×Nat)}(h1:∀ p∈ps,∃ t∈ts,l<=t.cm/\p=t.np) {hs:List Nat}(Jh:Jo n hs ps) (z:Int):cnt hs n z<=n/2^l:=by
 unfold cnt
 have hm:∀ k∈(c6 n).filter (λk=>decide ((rt hs k:Int)=z)),k<n/\(rt hs k:Int)=z:=λk hk=>by
  obtain ⟨q1,q2⟩:=cw.mp hk;exact ⟨jT.mp q1,of_decide_eq_true q2⟩
 have nd:=UR (n:=n) |>.filter λk=>decide ((rt hs k:Int)=z)
 generalize (c6 n).filter (λk=>decide ((rt hs k:Int)=z))=ks at hm nd
 cases ks with
 | nil=>exact aQ _
 | cons k0 tl =>
  obtain ⟨q1,q2⟩:=hm k0 aw;exact L.Uy J hl h1 nd q1 λk hk=>(Jh.j k0 k q1 (hm k hk).1).mp (by have:=(hm k hk).2;lia)
structure Ct (hs:List Nat) (i:Nat) (kvs:List (fT×V)):Prop where
 v:∀ z:Int,gQ kvs (cu z:fT)=if cnt hs i z=0 then none else some (.int (cnt hs i z:Nat))
 k:∀ p∈kvs,∃ z:Int,p.1=cu z
 l:kvs.length<=i
def Ct.add {hs:List Nat}{i:Nat}{kvs:List (fT×V)}(h:Ct hs i kvs):Ct hs (i+1) (nr kvs (cu (rt hs i:Int)) (.int (cnt hs i (rt hs i:Int)+1:Nat))):=by
 refine ⟨λz=>?_,λp hp=>?_,bf (qW _ _ _) (mO h.l)⟩
 ·rw [OI,Qr,h.v z]
  by_cases c:z=(rt hs i:Int)
  ·rw [if_pos c,if_pos (by rw [c]),c,if_neg (by lia)]
  ·rw [if_neg c,if_neg (λe=>c (Au e)),NT]
 ·unfold nr at hp
  split at hp
  ·obtain ⟨q,hq,rfl⟩:=a6.mp hp;obtain ⟨z,hz⟩:=h.k q hq;exact ⟨z,by split<;>exact hz⟩
  ·rcases aN.mp hp with q|q
   ·exact h.k p q
   ·rw [aA.mp q];exact ⟨_,rfl⟩
def Yr {q:af}{hs:List Nat}{x:Nat}(g:H q=some (.lst ((ni ((c6 n).map (rt hs))).map V.int))) (hx:x<n) (k:Q (.int (rt hs x:Nat)) H):dz K (.ref q) (.int x) H Q :=
 yR (c9.of g) rfl (Qo (by rw [ax,kI hx];rfl)) k
inductive bS (K:aa) (C:af) (vs:List V) (H:Hp) (Q:VK) (E:XK):Prop
 | mk (n:Nat) (l:af) (us:List (Ti×af)) (T:Nat) (ts:List Ti) (R:Nat->Nat->List Int):vs=[.int n,.ref l]->n<=200->Tb H l us ts->Lv n T ts R->Jn ts R->(∀ H',bL H H'->Q (.bl true) H')->bS K C vs H Q E
def zW:Rn (bS K C) (rH K C (cQ K C)) Yi:=by
 rintro vs H Q E ⟨n,l,us,T,ts,R,rfl,hn,h,L,J,k⟩;unfold rH;lk;unfold oQ;refine vH (λZ H1=>bL H H1/\∃ (lv:Nat) (o4 o5 o6 o7:Option V),Z=[some (.int n),some (.ref l),some (.int lv),some (.int (n/2^lv:Nat)),o4,o5,o6,o7]/\lv<=T+1) (λZ _=>match Z with|[_,_,some (.int j),_,_,_,_,_]=>T+1-j.toNat|_=>0) ⟨(λ_ _ e=>e),0,_,_,_,_,by rw [Nat.pow_zero,Nat.div_one];rfl,aQ _⟩ ?_;rintro Z H1 ⟨S1,lv,o4,o5,o6,o7,rfl,hlv⟩;have h1:=h.same S1
 with_reducible refine Yq (λH2=>lv<=T/\bL H H2) ?_ λgo=>?_
 ·rintro H2 ⟨hlv,S2⟩;have h2:=h.same S2;refine lU ⟨_,LN,?_⟩;lk;intro d hd;generalize eu_:upd H2 d (.dK [])=H3;obtain ⟨S3,g3⟩:=jZ eu_ hd;have h3:=h2.same S3;lk;unfold oN;lk;refine .inl ⟨⟨_,c9.of h3.g⟩,λacc hacc=>Gg (o:=none) (rest:=[some (.int lv)]) (λu=>decide ((lv:Int)<=u.1.cm)) h3.g h3.fl h3.len hacc (λu H' G hu r4 _ g=>?_) λzs H4 S4 g4 pz4 e4=>?_⟩
  ·lk;refine fO (ku.of r4) (v:=.int u.1.cm) rfl ?_;lk;exact g _ (λ_ _ e=>e)
  obtain ⟨pr4,np4⟩:=h3.prs L e4;lk;refine ⟨n,acc,zs,rfl,hn,g4,λz hz=>⟨pz4 z hz,pr4 z hz⟩,λq hs H5 S5 hq Jh g5=>?_⟩;rw [np4] at Jh
  have h4:∀ p∈(us.filter λu=>decide ((lv:Int)<=u.1.cm)).map (λu=>u.1.np),∃ t∈ts,lv<=t.cm/\p=t.np:=λp hp=>by
   obtain ⟨u,hu,rfl⟩:=a6.mp hp;obtain ⟨m1,m2⟩:=cw.mp hu;have:=of_decide_eq_true m2;exact ⟨_,h.mem m1,by lia,rfl⟩
  have gd5:H5 d=some (.dK []):=S5 _ _ (S4 _ _ g3);have nqd:d≠q:=aP (S4 _ _ g3) hq;have S05:bL H2 H5:=S3.trans (S4.trans S5);refine ⟨q,rfl,.inl ⟨⟨_,c9.of g5⟩,iY (K:=K) (a:=q) (xs:=(ni ((c6 n).map (rt hs))).map V.int) (λi Z H6=>∃ (kvs:List (fT×V)) (o5:Option V),Z=[some (.int n),some (.ref l),some (.int lv),some (.int (n/2^lv:Nat)),some (.ref d),o5,o6,o7]/\H6 d=some (.dK kvs)/\Ct hs i kvs/\a8 d H5 H6) ⟨[],_,rfl,gd5,⟨λz=>rfl,(λp hp=>nomatch hp),ar _⟩,a8.refl _ _⟩ ?_ ?_ ?_⟩⟩
  ·rintro i Z H6 _ ⟨kvs,o5,_,_,_,B⟩;exact c9.of (B _ _ g5 (Ne.symm nqd))
  ·rintro i v Z H6 hi ⟨kvs,o5,rfl,g6,ct,B⟩;unfold ni at hi;rw [ax,ax,ax] at hi;obtain ⟨v1,hv1,rfl⟩:=aW.mp hi;obtain ⟨v2,hv2,rfl⟩:=aW.mp hv1;obtain ⟨v3,hv3,rfl⟩:=aW.mp hv2
   have hin:i<n:=by
    have:=(aC.mp hv3).1
    rwa [iD] at this
   rw [kI hin] at hv3;obtain rfl:=aV hv3;lk;refine Gi ?_;lk;refine ⟨.inl ⟨_,.inl g6⟩,?_⟩;lk;refine ⟨_,oh.k (k:=cu (rt hs i:Int)) g6,?_⟩
   have ev:(gQ kvs (cu (rt hs i:Int):fT)).getD (.int 0)=.int (cnt hs i (rt hs i:Int):Nat):=by
    rw [ct.v]
    by_cases c:cnt hs i (rt hs i:Int)=0
    ·rw [if_pos c,c];rfl
    ·rw [if_neg c];rfl
   rw [ev];lk;refine VO g6 (dU (m:=200) (by have:=ct.l;lia)) ?_;exact ⟨_,_,rfl,aE,ct.add,B.trans a8.upd⟩
  ·rintro Z H6 ⟨kvs,o5,rfl,g6,ct,B⟩
   have ct:Ct hs n kvs:=by rwa [ag,ni,ag,ag,iD] at ct
   have S6:bL H2 H6:=λb o e=>B _ _ (S05 _ _ e) (aP e hd);lk;unfold oO;lk;refine Yp rfl g6 λo=>Wc (λi Z H7=>H7=upd H6 d (.frz o (.dK kvs))/\∃ o5,Z=[some (.int n),some (.ref l),some (.int lv),some (.int (n/2^lv:Nat)),some (.ref d),o5,o6,o7]) ⟨rfl,_,rfl⟩ ?_ ?_ ?_
   ·rintro i Z H7 _ ⟨rfl,_⟩;exact aE
   ·rintro i kk v Z H7 hi ⟨rfl,o5,rfl⟩;obtain ⟨z,ez⟩:=ct.k _ (aL hi);obtain rfl:kk=cu z:=ez
    have hz:cnt hs n z≠0:=λc=>by
     have e:=ct.v z;rw [if_pos c] at e;have q:=mW (cu z:fT) kvs;rw [e,CV.mpr ⟨_,aL hi,decide_eq_true rfl⟩] at q;cases q
    have hc:=We L J hlv h4 Jh z;lk;refine XR (i:=z) (.inr ⟨o,aE⟩) ((ct.v z).trans (if_neg hz)) ?_;lk;refine qf (λc=>absurd c (mL.mpr (Int.ofNat_le.mpr hc))) λ_=>?_;lk;exact ⟨rfl,_,rfl⟩
   ·rintro Z H7 ⟨rfl,o5,rfl⟩
    have S7:bL H2 (upd H6 d (.frz o (.dK kvs))):=λb o' e=>by rw [aH (aP e hd)];exact S6 _ _ e
    generalize upd H6 d (.frz o (.dK kvs))=H7 at S7;have h7:=h2.same S7;lk;refine .inl ⟨⟨_,c9.of h7.g⟩,λacc hacc=>Gg (o:=none) (rest:=[some (.int lv)]) (λu=>decide ((lv:Int)<=u.1.cm) && u.1.wd) h7.g h7.fl h7.len hacc (λu H' G hu r4 _ g=>?_) λzs H8 S8 g8 pz8 e8=>?_⟩
    ·have g:=g _ (λ_ _ e=>e);lk;refine fO (ku.of r4) (v:=.int u.1.cm) rfl ?_;lk;refine qf (λc=>?_) λc=>?_
     ·rw [decide_eq_true c,Bool.true_and] at g;lk;refine fO (ku.of r4) (v:=.bl u.1.wd) rfl ?_;exact ⟨_,rfl,g⟩
     ·rw [decide_eq_false c,W4] at g;exact g
    obtain ⟨pr8,np8⟩:=h7.prs L e8;lk;refine ⟨n,acc,zs,rfl,hn,g8,λz hz=>⟨pz8 z hz,pr8 z hz⟩,λq2 hs2 H9 S9 hq2 Jh2 g9=>?_⟩;rw [np8] at Jh2;have h9:=(h7.same S8).same S9;lk;unfold oP;lk;refine .inl ⟨⟨_,c9.of h9.g⟩,iY (K:=K) (a:=l) (xs:=us.map pW) (λi Z H4=>H4=H9/\∃ o7,Z=[some (.int n),some (.ref l),some (.int lv),some (.int (n/2^lv:Nat)),some (.ref d),o5,some (.ref q2),o7]) ⟨rfl,_,rfl⟩ ?_ ?_ ?_⟩
    ·rintro i Z H4 _ ⟨rfl,_⟩;exact c9.of h9.g
    ·rintro i v Z H4 hi ⟨rfl,o7,rfl⟩;rw [ax] at hi;obtain ⟨u,hui,rfl⟩:=aW.mp hi;have hum:=aL hui;have r4:=h9.fl u hum;obtain ⟨l1,l2,l3⟩:=L.lt _ (h.mem hum)
     have hx:u.1.x<n:=by lia
     lk;refine fO (ku.of r4) (v:=.int u.1.cm) rfl ?_;lk;refine qf (λc=>?_) λ_=>iQ ⟨rfl,_,rfl⟩
     have c:u.1.cm=lv:=by injection c with c;lia
     lk;refine fO (ku.of r4) (v:=.bl u.1.wd) rfl ?_;refine ⟨_,rfl,?_⟩
     cases u.1.wd with
     | true=>exact iQ (iQ ⟨rfl,_,rfl⟩)
     | false =>
      have er:rt hs2 u.1.x=rt hs2 u.1.y:=(Jh2.j _ _ hx l2).mpr (L.cnw hlv (λt ht hw hle=>by
       obtain ⟨u,hu,rfl⟩:=h.of ht
       exact a6.mpr ⟨u,cw.mpr ⟨hu,by rw [hw,Bool.and_true];exact decide_eq_true (by lia)⟩,rfl⟩) hx (by rw [← c];exact J _ (h.mem hum)))
      refine lU ?_;lk;refine fO (ku.of r4) (v:=.int u.1.x) rfl ?_;refine Yr g9 hx ?_;lk;refine fO (ku.of r4) (v:=.int u.1.y) rfl ?_;refine Yr g9 l2 ?_;lk;refine M5 (λc=>absurd (by rw [er]) c) λ_=>?_;lk;exact ⟨rfl,_,rfl⟩
    ·rintro Z H4 ⟨rfl,o7,rfl⟩;lk
     have e2:((n/2^lv:Nat):Int)/2=((n/2^(lv+1):Nat):Int):=by rw [CK,← Nat.div_div_eq_div_mul];rfl
     rw [e2];refine ⟨⟨S2.trans (S7.trans (S8.trans S9)),lv+1,_,_,_,_,rfl,by lia⟩,?_⟩
     show T+1-((lv:Int)+1).toNat<T+1-(lv:Int).toNat
     lia
 ·lk;refine qf (λc=>?_) λc=>?_
  ·exact go _ ⟨by injection c with c;lia,S1⟩
  ·lk;refine .inl ⟨⟨_,c9.of h1.g⟩,λacc hacc=>Gh (o:=none) (rest:=[some (.int lv)]) (λu=>decide ((lv:Int)<=u.1.cm)) h1.g h1.fl h1.len hacc (λu H' G hu r4 g=>?_) λH2 S2 g2=>?_⟩
   ·lk;refine fO (ku.of r4) (v:=.int u.1.cm) rfl ?_;lk;exact g
   refine KQ g2 λH3 S3=>⟨_,rfl,?_⟩
   have S13:=S1.trans (S2.trans S3)
   cases he:(us.filter λu=>decide ((lv:Int)<=u.1.cm)).isEmpty with
   | true =>
    refine iQ ?_;lk
    exact k _ S13
   | false =>
    refine go _ ⟨?_,S13⟩
    cases hu:us.filter λu=>decide ((lv:Int)<=u.1.cm) with
    | nil=>rw [hu] at he;cases he
    | cons u tl =>
     have hm:u∈us.filter λu=>decide ((lv:Int)<=u.1.cm):=by rw [hu];exact aw
     obtain ⟨m1,m2⟩:=cw.mp hm;have:=(L.lt _ (h.mem m1)).2.2;have:=of_decide_eq_true m2;lia
def tE (ts ts':List Ti):Prop:=∀ t∈ts',(∃ s∈ts,s.key=t.key/\s.cm<=t.cm)\/t.key∉ts.map Ti.key/\t.cm=0
inductive gK (K:aa) (C:af) (vs:List V) (H:Hp) (Q:VK) (E:XK):Prop
 | mk (l l':af) (us us':List (Ti×af)) (ts ts':List Ti):vs=[.ref l,.ref l']->Tb H l us ts->Tb H l' us' ts'->(ts.map Ti.key).Nodup->tE ts ts'->(∀ H',bL H H'->Q (.bl true) H')->gK K C vs H Q E
def zX:Rn (gK K C) (rJ K C) Ue:=by
 rintro vs H Q E ⟨l,l',us,us',ts,ts',rfl,h,h',nd,hr,k⟩;have nd':((us.map (·.1)).map Ti.key).Nodup:=(h.pm.map Ti.key).nodup_iff.mpr nd;unfold rJ;lk;intro d hd;generalize eu_:upd H d (.dT [])=H1;obtain ⟨S1,g1⟩:=jZ eu_ hd;have h1:=h.same S1;have ld:l≠d:=aP h.g hd;lk;unfold oR;lk;refine .inl ⟨⟨_,c9.of h1.g⟩,iY (K:=K) (a:=l) (xs:=us.map pW) (λi Z H4=>(∃ o3,Z=[some (.ref l),some (.ref l'),some (.ref d),o3])/\H4 d=some (.dT (kf (λt=>V.int t.cm) ((us.take i).map (·.1))))/\a8 d H1 H4) ⟨⟨_,rfl⟩,g1,a8.refl _ _⟩ ?_ ?_ ?_⟩
 ·rintro i Z H4 _ ⟨_,_,B⟩;exact c9.of (B _ _ h1.g ld)
 ·rintro i v Z H4 hi ⟨⟨o3,rfl⟩,g4,B⟩;rw [ax] at hi;obtain ⟨u,hui,rfl⟩:=aW.mp hi;have hum:=aL hui;have r4:=B _ _ (h1.fl u hum) (aP (h.fl u hum) hd)
  have et:us.take (i+1)=us.take i++[u]:=by rw [dI,hui];rfl
  have hlt:=h.len;have hil:=(aC.mp hui).1;lk;refine fO (ku.of r4) (v:=.int u.1.cm) rfl ?_;lk;refine KN r4 λc hc=>?_;have S5:=bL.cD (o:=.tup [.int u.1.x,.int u.1.y]) hc;have g5:(upd H4 c (.tup [.int u.1.x,.int u.1.y])) c=some (.tup ((pk u.1.x u.1.y).map kV)):=aE;generalize upd H4 c (.tup [.int u.1.x,.int u.1.y])=H5 at S5 g5
  have hv:gQ (kf (λt=>V.int t.cm) ((us.take i).map (·.1))) (pk u.1.x u.1.y)=none:=sQ (by
   rw [gU,gU]
   exact Md nd' (by rw [ax,ax,hui];rfl))
  refine .inr ⟨d,_,rfl,tF.t (k:=pk u.1.x u.1.y) (S5 _ _ g4) g5 (dU (m:=100) (by rw [kU,ag,bB];lia)),?_⟩;rw [vD _ hv];refine ⟨⟨_,rfl⟩,?_,(B.trans (a8.same S5)).trans a8.upd⟩;rw [aE,et,aU];unfold kf;rw [aU];rfl
 ·rintro Z H4 ⟨⟨o3,rfl⟩,g4,B⟩;rw [ag,qM] at g4;have S4:bL H H4:=λb o e=>B _ _ (S1 _ _ e) (aP e hd);have h4:=h'.same S4;lk;unfold oS;lk;refine .inl ⟨⟨_,c9.of h4.g⟩,iY (K:=K) (a:=l') (xs:=us'.map pW) (λi Z H5=>(∃ o3,Z=[some (.ref l),some (.ref l'),some (.ref d),o3])/\bL H4 H5) ⟨⟨_,rfl⟩,(λ_ _ e=>e)⟩ ?_ ?_ ?_⟩
  ·rintro i Z H5 _ ⟨_,S5⟩;exact c9.of (S5 _ _ h4.g)
  ·rintro i v Z H5 hi ⟨⟨o3,rfl⟩,S5⟩;rw [ax] at hi;obtain ⟨u,hui,rfl⟩:=aW.mp hi;have hum:=aL hui;have r5:=S5 _ _ (h4.fl u hum);lk;refine KN r5 λc hc=>?_;have S6:=bL.cD (o:=.tup [.int u.1.x,.int u.1.y]) hc;have g6:(upd H5 c (.tup [.int u.1.x,.int u.1.y])) c=some (.tup ((pk u.1.x u.1.y).map kV)):=aE;generalize upd H5 c (.tup [.int u.1.x,.int u.1.y])=H6 at S6 g6;have S46:=S5.trans S6;have r6:=S6 _ _ r5;lk;refine .inr ⟨d,_,rfl,oh.t (k:=pk u.1.x u.1.y) (S46 _ _ g4) g6,?_⟩
   rcases hr _ (h'.mem hum) with ⟨s,hs,ek,hle⟩|⟨hk,h0⟩
   ·obtain ⟨w,hw,rfl⟩:=h.of hs;obtain ⟨e1,e2⟩:=cB ek
    have e1:w.1.x=u.1.x:=by lia
    have e2:w.1.y=u.1.y:=by lia
    have hv:gQ (kf (λt=>V.int t.cm) (us.map (·.1))) (pk u.1.x u.1.y)=some (.int w.1.cm):=by
     rw [← e1,← e2];exact hJ (f:=λt=>V.int t.cm) nd' (bq hw)
    rw [hv];lk;refine iQ (iQ ?_);lk;refine fO (ku.of r6) (v:=.int u.1.cm) rfl ?_;refine Gi ?_;lk;refine ⟨.inr ⟨_,.inl (S46 _ _ g4)⟩,?_⟩;lk;refine KN r6 λc hc=>?_;have S7:=bL.cD (o:=.tup [.int u.1.x,.int u.1.y]) hc;have g7:(upd H6 c (.tup [.int u.1.x,.int u.1.y])) c=some (.tup ((pk u.1.x u.1.y).map kV)):=aE;generalize upd H6 c (.tup [.int u.1.x,.int u.1.y])=H7 at S7 g7;lk;refine ⟨_,oh.t (k:=pk u.1.x u.1.y) (S7 _ _ (S46 _ _ g4)) g7,?_⟩;rw [hv,Ru];lk;refine qf (λc=>absurd c (by lia)) λ_=>?_;lk;exact ⟨⟨_,rfl⟩,S46.trans S7⟩
   ·have hv:gQ (kf (λt=>V.int t.cm) (us.map (·.1))) (pk u.1.x u.1.y)=none:=sQ λz=>hk (((h.pm.map Ti.key).mem_iff).mp z);rw [hv];lk;refine lU ?_;lk;refine fO (ku.of r6) (v:=.int u.1.cm) rfl ?_;lk;refine M5 (λc=>absurd (by rw [h0];rfl) c) λ_=>?_;lk;refine fO (ku.of r6) (v:=.int u.1.cm) rfl ?_;refine Gi ?_;lk;refine ⟨.inr ⟨_,.inl (S46 _ _ g4)⟩,?_⟩;lk;refine KN r6 λc hc=>?_;have S7:=bL.cD (o:=.tup [.int u.1.x,.int u.1.y]) hc;have g7:(upd H6 c (.tup [.int u.1.x,.int u.1.y])) c=some (.tup ((pk u.1.x u.1.y).map kV)):=aE;generalize upd H6 c (.tup [.int u.1.x,.int u.1.y])=H7 at S7 g7;lk;refine ⟨_,oh.t (k:=pk u.1.x u.1.y) (S7 _ _ (S46 _ _ g4)) g7,?_⟩;rw [hv,AA];lk;refine qf (λc=>absurd c (by lia)) λ_=>?_;lk;exact ⟨⟨_,rfl⟩,S46.trans S7⟩
  ·rintro Z H5 ⟨⟨o3,rfl⟩,S5⟩;lk;exact k _ (S4.trans S5)
section
def Tb.fm (tb:Tb H l us ts) (h:KP C A H p dx a n T ts as R) (hP:qD Pt H) (hl:l∉fp a) (F:Fm (p::Pt::fp a) H H'):Tb H' l us ts:=by
 obtain ⟨fs,hp⟩:=h.p0;refine ⟨F _ _ (λz=>?_) tb.g,λu hu=>F _ _ (λz=>?_) (tb.fl u hu),tb.pm,tb.so,tb.len⟩
 ·rcases av.mp z with z|z
  ·exact (gh tb.g hp) z
  ·exact (av.mp z).elim (hP.ne tb.g (λ_ z=>nomatch z)) hl
 ·rcases av.mp z with z|z
  ·exact (gh (tb.fl u hu) hp) z
  ·exact (av.mp z).elim (hP.ne (tb.fl u hu) (λ_ z=>nomatch z)) (h.lv.vh (tb.fl u hu))
def KP.WW (h:KP C A H p dx a n T ts as R) (hP:qD Pt H) (F:Fm (p::fp a) H H'):qD Pt H' :=
 hP.keep λb o h1 h2 h3 _ e=>F b o (λz=>by
  rcases av.mp z with rfl|z
  ·obtain ⟨fs,hp⟩:=h.p0;rw [hp] at e;cases e;exact h3 _ _ _ rfl
  ·exact h.lv.out e h1 (λ_ _=>h2 _) z) e
end
section
def KP.keep (h:KP C A H p dx a n T ts as R) {X:List af}(F:Fm X H H') (h1:∀ b∈X,b∉p::a.L::fp a) (h2:∀ b∈X,(∀ c e f,H b=some (.ins c e f)->f.lookup ("rows":bh)=none/\f.lookup ("woods":bh)=none)/\∀ r:List Int,r≠[]->H b≠some (.lst (r.map V.int))):KP C A H' p dx a n T ts as R:=by
 obtain ⟨w,c1,c2,c3,c4,hw,hp⟩:=h.ob;refine ⟨⟨w,c1,c2,c3,c4,hw,F _ _ (λz=>h1 _ z aw) hp⟩,h.lv.keep F (λx f e _ hx hm=>?_) (λb hb z=>h1 b z (aj _ (aj _ hb))) (λz=>h1 _ z (aj _ aw)) (λb r hr e z=>(h2 b z).2 r hr e),h.iv,h.jn,h.tp⟩
 rcases hx with z|⟨v,hv,z⟩
 ·have:=((h2 x hm).1 _ _ _ (by rw [z];exact h.lv.ob)).2;rw [Ul] at this;cases this
 ·obtain ⟨i,_,hi⟩:=h.lv.at hv;have:=((h2 x hm).1 _ _ _ (by rw [z];exact (h.lv.wa i v hi).ob)).1;rw [iI] at this;cases this
def KP.set (h:KP C A H p dx a n T ts as R) {d:af}{u u':List (List fT×V)}(hd:H d=some (.dT u)) (hn:d∉a.L::fp a):KP C A (upd H d (.dT u')) p dx a n T ts as R :=
 h.keep (X:=[d]) (Fm.upd aw) (λb hb z=>by
  rw [aA.mp hb] at z
  rcases av.mp z with rfl|z
  ·obtain ⟨fs,hp⟩:=h.p0;rw [hd] at hp;cases hp
  ·exact hn z) λb hb=>by
  rw [aA.mp hb,hd];exact ⟨(λ_ _ _ z=>nomatch z),(λ_ _ z=>nomatch z)⟩
end
structure Lw (C:af) (A:CA) (Pt p dx d:af) (a:AL) (n T:Nat) (ts:List Ti) (H:Hp):Prop where
 kp:∃ as R,KP C A H p dx a n T ts as R
 hP:qD Pt H
 hd:H d=some (.dT (kd (ts.map Ti.key)))
section
variable {ts':List Ti}{d:af}
def Lw.same (h:Lw C A Pt p dx d a n T ts H) (S:bL H H'):Lw C A Pt p dx d a n T ts H' :=
 let ⟨s,r,k⟩:=h.kp;⟨⟨s,r,k.same S⟩,h.hP.same S,S _ _ h.hd⟩
def Lw.fm (h:Lw C A Pt p dx d a n T ts H) (F:Fm (d::p::Pt::fp a) H H') {b:af}{o:HO}(e:H b=some o) (h1:∀ ks,o≠.dT ks) (h2:∀ x y z,o≠.ins x y z) (h3:∀ ps,o≠.tbl ps) (h4:b∉fp a):H' b=some o:=F _ _ (λz=>by
 obtain ⟨_,_,k⟩:=h.kp;obtain ⟨_,hp⟩:=k.p0
 rcases av.mp z with rfl|z
 ·rw [h.hd] at e;cases e;exact h1 _ rfl
 ·rcases av.mp z with rfl|z
  ·rw [hp] at e;cases e;exact h2 _ _ _ rfl
  ·rcases av.mp z with z|z
   ·exact h.hP.ne e h3 z
   ·exact h4 z) e
def Lw.tup (h:Lw C A Pt p dx d a n T ts H) (F:Fm (d::p::Pt::fp a) H H') {b:af}{xs:List V}(e:H b=some (.tup xs)):H' b=some (.tup xs) :=
 let ⟨_,_,k⟩:=h.kp;h.fm F e (λ_ z=>nomatch z) (λ_ _ _ z=>nomatch z) (λ_ z=>nomatch z) (k.lv.vh e)
def Lw.st (h:Lw C A Pt p dx d a n T ts H) (k:KP C A H p dx a n T ts as R) (dn:d∉a.L::fp a) (u:List (List fT×V)):KP C A (upd H d (.dT u)) p dx a n T ts as R/\qD Pt (upd H d (.dT u))/\(∀ {b:af}{xs:List V},H b=some (.tup xs)->(upd H d (.dT u)) b=some (.tup xs))/\(∀ {l:af}{us:List (Ti×af)}{ts:List Ti},Tb H l us ts->Tb (upd H d (.dT u)) l us ts) /\
  ∀ H',Fm (p::Pt::fp a) (upd H d (.dT u)) H'->H' d=some (.dT u)/\Fm (d::p::Pt::fp a) H H':=by
 have nd:∀ {b:af}{o:HO},H b=some o->(∀ ks,o≠.dT ks)->(upd H d (.dT u)) b=some o:=λ{b o} e q=>by rw [aH];exact e;rintro rfl;rw [h.hd] at e;cases e;exact q _ rfl
 obtain ⟨fs,hp⟩:=k.p0;refine ⟨k.set h.hd dn,h.hP.keep λb o h1 _ _ _ e=>nd e h1,λe=>nd e (λ_ z=>nomatch z),λtb=>⟨nd tb.g (λ_ z=>nomatch z),λv hv=>nd (tb.fl v hv) (λ_ z=>nomatch z),tb.pm,tb.so,tb.len⟩,λH' F=>⟨F _ _ (λz=>?_) aE,(Fm.upd aw).trans F.tail⟩⟩
 rcases av.mp z with z|z
 ·exact (gh h.hd hp) z
 ·exact (av.mp z).elim (h.hP.ne h.hd (λ_ z=>nomatch z)) λz=>dn (aj _ z)
end
def Qs {Pt2:af}{p p2:kM}{q q2:bh}(h:qE Pt p q H) (h2:qE Pt2 p2 q2 H) (hne:Pt≠Pt2) (S:pC Pt2 H H'):qE Pt p q H':=by
 obtain ⟨ps,hp⟩:=h2.tbl
 rcases h with h|⟨c',oc,vs,t,q1,q2,q3,q4⟩
 ·exact .inl (S _ _ hne h)
 ·exact .inr ⟨c',oc,vs,t,S _ _ hne q1,S _ _ (λz=>by rw [z,hp] at q2;cases q2) q2,q3,q4⟩
def kd_new {x y:Nat}{b:Bool}:kd (ts.map Ti.key)++[(pk x y,V.bl true)]=kd ((ts++[(⟨x,y,0,b⟩:Ti)]).map Ti.key):=by
 unfold kd;rw [aU,aU];rfl
inductive cO (K:aa) (C:af) (A:CA) (Pt:af) (vs:List V) (H:Hp) (Q:VK) (E:XK):Prop
 | mk (p dx d:af) (a:AL) (n T:Nat) (ts:List Ti) (t l:af) (us:List (Ti×af)) (x y:Nat):vs=[.ref p,.int n,.ref d,.ref l,.ref t]->Dq K C A->Lw C A Pt p dx d a n T ts H->n<=200->d∉a.L::fp a->x<y->y<n->H t=some (.tup [.int x,.int y])->ts.length<90->Tb H l us ts->l∉fp a->(∀ l' us' ts' H',Lw C A Pt p dx d a n T ts' H'->Tb H' l' us' ts'->l'∉fp a->ts'.length<=ts.length+1->Fm (d::p::Pt::fp a) H H'->Q (.ref l') H')->cO K C A Pt vs H Q E
def Du:Rn (cO K C A Pt) (wj K C A (cj K C A) (jx K C A Pt) (dA K C A) (bZ K C) (bS K C) (gK K C)) Yk:=by
 rintro vs H Q E ⟨p,dx,d,a,n,T,ts,t,l,us,x,y,rfl,ct,L,hn,dn,hxy,hy,ht,hlen,tb,hl,k⟩;obtain ⟨as,R,h⟩:=L.kp;unfold wj;k_ne;k_ne;k_ne;refine xP (.of ht) rfl ?_;k_ne;k_ne;k_ne;k_ne;k_ne
 with_reducible refine BQ (λZ H2=>∃ ts',Lw C A Pt p dx d a n T ts' H2/\ts'.length<=ts.length+1/\Tb H2 l us ts/\tE ts ts'/\Fm (d::p::Pt::fp a) H H2/\Z=[some (.ref p),some (.int n),some (.ref d),some (.ref l),some (.ref t),some (.int x),some (.int y),none]) ?_ λgo=>?_
 ·rintro Z H2 ⟨ts',L2,hl2,tb2,hr,F2,rfl⟩;obtain ⟨as2,R2,h2⟩:=L2.kp;obtain ⟨w,c1,c2,c3,c4,hw,hp⟩:=h2.ob;k_in;refine ⟨p,dx,_,rfl,hp,KL,?_⟩;lk;refine ⟨p,dx,a,n,T,ts',as2,R2,rfl,ct,h2,by lia,λq us' H3 hq gq fl pm so S3=>?_⟩
  have hul:us'.length=ts'.length:=by have:=pm.length_eq;rwa [ag] at this
  have tb3:Tb H3 q us' ts':=⟨gq,fl,pm,so,by lia⟩
  lk;refine ⟨q,d,us',ts',rfl,tb3,S3 _ _ L2.hd,λH4 S4=>⟨true,rfl,iQ ?_⟩⟩;lk;refine ⟨n,q,us',T,ts',R2,rfl,hn,tb3.same S4,h2.iv,h2.jn,λH5 S5=>⟨true,rfl,iQ ?_⟩⟩;have S25:=S3.trans (S4.trans S5);have tb5:=(tb3.same S4).same S5;lk;refine ⟨l,q,us,us',ts,ts',rfl,tb2.same S25,tb5,h.iv.nd,hr,λH6 S6=>⟨true,rfl,iQ ?_⟩⟩;lk;have S26:=S25.trans S6;exact k q us' ts' H6 (L2.same S26) (tb5.same S6) (h2.lv.tG hq) hl2 (F2.trans (Fm.of S26))
 ·lk;refine .inr ⟨d,_,rfl,oh.t (k:=pk x y) L.hd ht,?_⟩
  by_cases hk:((x:Int),(y:Int))∈ts.map Ti.key
  ·obtain ⟨u,hu,eu⟩:=a6.mp hk;obtain ⟨e1,e2⟩:=cB eu
   obtain rfl:u.x=x:=by lia
   obtain rfl:u.y=y:=by lia
   have hv:gQ (kd (ts.map Ti.key)) (pk u.x u.y)=some (.bl true):=by rw [wC];exact hJ (f:=λ_=>V.bl true) h.iv.nd hu
   rw [hv];lk;rw [if_pos (by rfl)];lk;refine ⟨.inr (.inr (.inl ⟨rfl,.inr ⟨_,L.hd⟩⟩)),?_⟩;lk;refine ⟨d,_,pk u.x u.y,t,.bl true,rfl,rfl,L.hd,ht,hv,?_⟩;obtain ⟨h1,P1,tu,tbl,F1⟩:=L.st h dn (nE (kd (ts.map Ti.key)) (pk u.x u.y));have tb1:=tbl tb;obtain ⟨w,c1,c2,c3,c4,hw,hp⟩:=h1.ob;k_in;refine ⟨p,dx,_,rfl,hp,KL,?_⟩;lk
   have em1:min u.y u.x=u.x:=by lia
   have em2:max u.y u.x=u.y:=by lia
   refine ⟨p,dx,a,n,T,ts,as,R,u.y,u.x,rfl,ct,h1,hn,hy,by lia,by lia,by rw [em1,em2];exact hk,by lia,P1,λv ts' as' R' H2 h2 e2 hr P2 F2=>?_⟩;rw [em1,em2] at e2;obtain ⟨d2,F⟩:=F1 H2 F2;have tb2:=tb1.fm h1 P1 hl F2;lk;refine go _ _ ⟨ts',⟨⟨_,_,h2⟩,P2,?_⟩,?_,tb2,λt ht=>.inl (hr t ht),F,rfl⟩
   ·rw [d2,wC,Ar,← wC,e2,tS];rfl
   ·have:=congrArg dR e2;rw [ag] at this;rw [this];refine bf (cT _ _) ?_;rw [ag];exact gW _
  ·have hv:gQ (kd (ts.map Ti.key)) (pk x y)=none:=by rw [wC];exact sQ hk
   rw [hv];lk;rw [if_neg (by simp)];lk;refine .inr ⟨d,_,rfl,tF.t (k:=pk x y) L.hd ht (dU (m:=100) (by rw [wC,kU];lia)),?_⟩;rw [vD _ hv];obtain ⟨h1,P1,tu,tbl,F1⟩:=L.st h dn (kd (ts.map Ti.key)++[(pk x y,.bl true)]);have tb1:=tbl tb;obtain ⟨w,c1,c2,c3,c4,hw,hp⟩:=h1.ob;k_in;refine ⟨p,dx,_,rfl,hp,KL,?_⟩;lk
   have em1:min x y=x:=by lia
   have em2:max x y=y:=by lia
   refine ⟨p,dx,a,n,T,ts,as,R,x,y,rfl,ct,h1,hn,by lia,hy,by lia,by rw [em1,em2];exact hk,by lia,λb as' R' H2 _ h2 F2=>?_⟩;rw [em1,em2] at h2;have F2':Fm (p::Pt::fp a) _ H2:=F2.mono λb hb=>(av.mp hb).elim (λz=>z▸aw) λz=>aj _ (aj _ z);obtain ⟨d2,F⟩:=F1 H2 F2';have tb2:=tb1.fm h1 P1 hl F2';lk;refine go _ _ ⟨_,⟨⟨_,_,h2⟩,h1.WW P1 F2,by rw [d2,kd_new]⟩,by rw [bu];exact ar _,tb2,λt ht=>?_,F,rfl⟩
   rcases aN.mp ht with q|q
   ·exact .inl ⟨t,q,rfl,ar _⟩
   ·rw [aA.mp q];exact .inr ⟨hk,rfl⟩
abbrev Ys (Pt:af) (H:Hp):Prop:=qE Pt ⟨273,37,273,94⟩ ((("_law_shape":bh)++".<locals>.")++"<lambda>") H
def Dv (w n:Int):List Int:=if w=1 then [1,n-1] else if w=3 then [1,2] else if w=4 then [1,2,3] else [1,2,4,8]
def Sh (w n:Int) (k:Int×Int):Prop:=if w=2 then k.2<8 else k.2-k.1∈Dv w n
def Wg {w n:Int}{ks:List (Int×Int)}(nd:ks.Nodup) (h:∀ k∈ks,∃ i j:Nat,k.1=(i:Int)/\k.2=(j:Int)/\i<j/\j<24) (hs:∀ k∈ks,Sh w n k):ks.length<=96:=by
 by_cases c:w=2
 ·refine bf (xX nd (m:=(c6 8).flatMap λa:Nat=>(c6 8).map λb:Nat=>((a:Int),(b:Int))) λk hk=>?_) (by decide);obtain ⟨i,j,e1,e2,h1,h2⟩:=h k hk;have:=hs k hk;unfold Sh at this;rw [if_pos c] at this;exact UT.mpr ⟨i,jT.mpr (by lia),a6.mpr ⟨j,jT.mpr (by lia),Ay e1.symm e2.symm⟩⟩
 ·refine bf (xX nd (m:=(c6 24).flatMap λa:Nat=>(Dv w n).map λd=>((a:Int),(a:Int)+d)) λk hk=>?_) ?_
  ·obtain ⟨i,j,e1,e2,h1,h2⟩:=h k hk;have:=hs k hk;unfold Sh at this;rw [if_neg c] at this;exact UT.mpr ⟨i,jT.mpr (by lia),a6.mpr ⟨_,this,Ay e1.symm (show (i:Int)+(k.2-k.1)=k.2 by lia)⟩⟩
  ·have:(Dv w n).length<=4:=by unfold Dv;(repeat' split)<;>simp
   simp only [List.length_flatMap,ag,List.map_const',List.sum_replicate_nat,iD];lia
structure Zs (n:Nat) (w:Int) (H:Hp) (l:af) (zs:List Zt) (a b:Int):Prop where
 g:H l=some (.lst (zs.map fo))
 pz:∀ z∈zs,KM n H z
 sh:∀ z∈zs,Sh w n (zP z)
 lt:∀ z∈zs,z.1<a\/z.1=a/\z.2.1<b
 nd:(zs.map zP).Nodup
section
variable {w:Int}{a b:Int}
def Zs.len (Zzq:Zs n w H l zs a b) (hn:n<=24):zs.length<=96:=by
 have:=Wg Zzq.nd (w:=w) (n:=n) (λk hk=>by
  obtain ⟨z,hz,rfl⟩:=a6.mp hk;obtain ⟨i,j,e1,e2,h1,h2⟩:=(Zzq.pz z hz).2
  exact ⟨i,j,e1,e2,h1,by lia⟩) λk hk=>by
  obtain ⟨z,hz,rfl⟩:=a6.mp hk;exact Zzq.sh z hz
 rwa [ag] at this
def Zs.same (Zzq:Zs n w H l zs a b) (S:bL H H'):Zs n w H' l zs a b:=⟨S _ _ Zzq.g,λz hz=>⟨S _ _ (Zzq.pz z hz).1,(Zzq.pz z hz).2⟩,Zzq.sh,Zzq.lt,Zzq.nd⟩
def Zs.mono (Zzq:Zs n w H l zs a b) {a' b':Int}(h:∀ x y:Int,(x<a\/x=a/\y<b)->(x<a'\/x=a'/\y<b')\/¬ y<n):Zs n w H l zs a' b':=⟨Zzq.g,Zzq.pz,Zzq.sh,λz hz=>(h _ _ (Zzq.lt z hz)).resolve_right λq=>by
 obtain ⟨i,j,e1,e2,h1,h2⟩:=(Zzq.pz z hz).2
 lia,Zzq.nd⟩
theorem Qt:∀ {ys:List V}{k:Nat},(∀ (i:Nat) (y:V),ys[i]?=some y->∃ c,y=.ref c/\H c=some (.tup [.int ((k+i:Nat):Int),.int ((k+i+1:Nat):Int)]))->∃ zs:List Zt,ys=zs.map fo/\∀ (i:Nat) (z:Zt),zs[i]?=some z->z.1=((k+i:Nat):Int)/\z.2.1=((k+i+1:Nat):Int)/\fX H z
 | [],k,_=>⟨[],rfl,λi z h=>by simp at h⟩
 | y::ys,k,h=>by
  obtain ⟨c,rfl,hc⟩:=h 0 y rfl
  obtain ⟨zs,e,hz⟩:=Qt (ys:=ys) (k:=k+1) λi y hy=>by
   have:=h (i+1) y (by simpa using hy)
   rwa [show k+(i+1)=k+1+i by lia] at this
  refine ⟨(((k:Nat):Int),((k+1:Nat):Int),c)::zs,by rw [e];rfl,λi z hi=>?_⟩
  cases i with
  | zero =>
   cases hi
   exact ⟨rfl,rfl,hc⟩
  | succ i =>
   have:=hz i z (by simpa using hi)
   rwa [show k+(i+1)=k+1+i by lia]
def wD {i hd:Int}{X:TT}{D:qO}{a b:Nat}{o6:Option V}{H0:Hp}(hn:n<=24) (hab:a<b) (hb:b<n) (Zzq:Zs n w H l zs a (if w<i then b+1 else b)) (B:a8 l H0 H)
  (hX:w=i->∀ H G,(∀ (c:Bool) H',bL H H'->(c=true->Sh w n ((a:Int),(b:Int)))->G c H')->X [some (.int hd),some (.int n),some (.ref l),some (.int w),some (.int a),some (.int b),o6] H G)
  (fin:∀ zs' H',Zs n w H' l zs' a (if w<i+1 then b+1 else b)->a8 l H0 H'->D.nx [some (.int hd),some (.int n),some (.ref l),some (.int w),some (.int a),some (.int b),o6] H') :
  iE (qA (cS (cn (kr K) (aq 3) (tC (.int i)))) X) (fe (C2 K "list" kg (aq 2) (aB (mV (aB (aq 4) (aB (aq 5) bj))) bj))) fk D [some (.int hd),some (.int n),some (.ref l),some (.int w),some (.int a),some (.int b),o6] H:=by
 have hl:=Zzq.len hn;lk;refine qf (λc=>?_) λc=>iQ ?_
 ·have c:w=i:=V.int.inj c;rw [if_neg (by lia)] at Zzq;rw [if_pos (by lia)] at fin;refine hX c _ _ λc' H1 S1 hs=>?_;have B1:a8 l H0 H1:=λb o e ne=>S1 _ _ (B _ _ e ne);have Z1:=Zzq.same S1
  cases c' with
  | false=>exact iQ (fin zs H1 (Z1.mono λx y h=>.inl (by lia)) B1)
  | true =>
   refine lU ?_;lk;refine ⟨.inl ⟨rfl,_,c9.of Z1.g⟩,?_⟩;lk;refine ⟨bM (m:=2) (ar 2),λp hp=>?_⟩;generalize eu_:upd H1 p (.tup [.int a,.int b])=H2;obtain ⟨S2,g2⟩:=jZ eu_ hp;have Z2:=Z1.same S2;lk;refine rg Z2.g (dU (m:=100) (by rw [ag];lia)) ?_;have tn:∀ {b:af}{xs:List V}{ys:List V},H2 b=some (.tup xs)->(upd H2 l (.lst ys)) b=some (.tup xs):=λe=>(aH (gh e Z2.g)).trans e
   refine fin (zs++[((a:Int),(b:Int),p)]) _ ⟨by rw [aE,aU];rfl,λz hz=>?_,λz hz=>?_,λz hz=>?_,?_⟩ λb' o' e hne=>by rw [aH hne];exact S2 _ _ (B1 _ _ e hne)
   ·rcases aN.mp hz with hz|hz
    ·exact ⟨tn (Z2.pz z hz).1,(Z2.pz z hz).2⟩
    ·rw [aA.mp hz];exact ⟨tn g2,a,b,rfl,rfl,hab,hb⟩
   ·rcases aN.mp hz with hz|hz
    ·exact Z2.sh z hz
    ·rw [aA.mp hz];exact hs rfl
   ·rcases aN.mp hz with hz|hz
    ·have:=Z2.lt z hz;lia
    ·rw [aA.mp hz];exact .inr ⟨rfl,show (b:Int)<b+1 by lia⟩
   ·rw [aU,gC];refine ⟨Z2.nd,by simp,λk hk k' hk' e=>?_⟩;obtain ⟨z,hz,rfl⟩:=a6.mp hk;rw [oB,aA] at hk';rw [hk'] at e;obtain ⟨e1,e2⟩:=cB e;have e1:z.1=(a:Int):=e1;have e2:z.2.1=(b:Int):=e2;have:=Z2.lt z hz;lia
 ·have c:¬ w=i:=λe=>c (by rw [e]);refine fin zs H ?_ B
  by_cases q:w<i
  ·rw [if_pos q] at Zzq;rw [if_pos (by lia)];exact Zzq
  ·rw [if_neg q] at Zzq;rw [if_neg (by lia)];exact Zzq
end
def bL.rf:bL H H:=λ_ _ e=>e
def KR {a:Nat}{w hd:Int}{H0:Hp}{D:qO}{o5 o6:Option V}(hn:n<=24) (hw:w<6) (ha:a<n) (Zzq:Zs n w H l zs a 0) (B:a8 l H0 H)
  (fin:∀ o5 zs' H',Zs n w H' l zs' (a+1) 0->a8 l H0 H'->D.nx [some (.int hd),some (.int n),some (.ref l),some (.int w),some (.int a),o5,o6] H') :
  md K C Pt D [some (.int hd),some (.int n),some (.ref l),some (.int w),some (.int a),o5,o6] H:=by
 unfold md;lk;unfold Ou;lk;refine ⟨_,_,rfl,⟨by lia,by lia,by lia,by lia⟩,?_⟩;refine oC (λi Z H4=>∃ o5 zs',Z=[some (.int hd),some (.int n),some (.ref l),some (.int w),some (.int a),o5,o6]/\Zs n w H4 l zs' a (a+1+i:Nat)/\a8 l H0 H4) ⟨_,zs,rfl,Zzq.mono λx y h=>.inl (by lia),B⟩ ?_ ?_
 ·rintro i Z H4 hi ⟨o5,zs',rfl,Z4,B4⟩
  obtain ⟨b,eb⟩:∃ b:Nat,b=a+1+i:=⟨_,rfl⟩
  have hab:a<b:=by lia
  have hb:b<n:=by lia
  k_ne;rw [show (a:Int)+1+(i:Int)=(b:Int) by lia];rw [← eb] at Z4
  with_reducible refine HM ?_
  refine wD (i:=1) hn hab hb (by split<;>exact Z4.mono λx y h=>.inl (by lia)) B4 (λe H G go=>?_) λzs1 H1 Z1 B1=>?_
  ·lk;refine qf (λc=>?_) λ_=>?_
   ·have c:=V.int.inj c
    exact go true H bL.rf λ_=>by unfold Sh;rw [if_neg (by lia),e];exact av.mpr (.inl (by show (b:Int)-a=1;lia))
   ·lk;refine go _ H bL.rf λc=>?_;have c:=V.int.inj (of_decide_eq_true c);unfold Sh;rw [if_neg (by lia),e];exact aj _ (aA.mpr (by show (b:Int)-a=n-1;lia))
  dsimp only
  with_reducible refine HM ?_
  refine wD (i:=2) hn hab hb Z1 B1 (λe H G go=>?_) λzs2 H2 Z2 B2=>?_
  ·obtain ⟨m,em',hm⟩:=em (n:=5) (by decide) (hd/6);lk;refine go _ H bL.rf λc=>?_;have c:=of_decide_eq_true c;unfold Sh;rw [if_pos e]
   show (b:Int)<8
   lia
  dsimp only
  with_reducible refine HM ?_
  refine wD (i:=3) hn hab hb Z2 B2 (λe H G go=>?_) λzs3 H3 Z3 B3=>?_
  ·lk;refine qf (λc=>?_) λ_=>?_
   ·have c:=V.int.inj c
    exact go true H bL.rf λ_=>by unfold Sh;rw [if_neg (by lia),e];exact aj _ (aA.mpr (by show (b:Int)-a=2;lia))
   ·lk;refine qf (λc=>?_) λ_=>?_
    ·have c:=V.int.inj c;lk
     exact go _ H bL.rf λ_=>by unfold Sh;rw [if_neg (by lia),e];exact av.mpr (.inl (by show (b:Int)-a=1;lia))
    ·exact go false H bL.rf λq=>nomatch q
  dsimp only
  with_reducible refine HM ?_
  refine wD (i:=4) hn hab hb Z3 B3 (λe H G go=>?_) λzs4 H4 Z4 B4=>?_
  ·lk;refine qf (λc=>?_) λ_=>?_
   ·have hs:Sh w n ((a:Int),(b:Int)):=by
     unfold Sh;rw [if_neg (by lia),e]
     show (b:Int)-a∈[1,2,3]
     simp only [av,dg,or_false];lia
    lk;refine qf (λc=>go true H bL.rf λ_=>hs) λ_=>?_;lk;refine qf (λc=>go true H bL.rf λ_=>hs) λ_=>?_;lk;exact go _ H bL.rf λ_=>hs
   ·exact go false H bL.rf λq=>nomatch q
  dsimp only;refine wD (i:=5) hn hab hb Z4 B4 (λe H G go=>?_) λzs5 H5 Z5 B5=>?_
  ·lk;refine ⟨bM (m:=4) (by decide),λt ht=>?_⟩;have S1:=bL.cD (o:=.tup [.int 1,.int 2,.int 4,.int 8]) ht;have g1:(upd H t (.tup [.int 1,.int 2,.int 4,.int 8])) t=some (.tup (([1,2,4,8]:List Int).map V.int)):=aE;generalize upd H t (.tup [.int 1,.int 2,.int 4,.int 8])=H1 at S1 g1;refine .inl ⟨.int ((b:Int)-a),([1,2,4,8]:List Int).map PyData.int,.int _,.inr (.tup (.of g1) (eF.ints _)),⟨rfl,by simp [qN]⟩,iS _ (uQ _),?_⟩;rw [if_neg bA,any_ints];refine ⟨_,rfl,go _ H1 S1 λc=>?_⟩;unfold Sh;rw [if_neg (by lia),e];exact of_decide_eq_true c
  exact ⟨_,zs5,rfl,by rw [if_pos (by lia)] at Z5;rw [show ((a+1+(i+1):Nat):Int)=(b:Int)+1 by lia];exact Z5,B5⟩
 ·rintro Z H4 ⟨o5,zs',rfl,Z4,B4⟩;exact fin o5 zs' H4 (Z4.mono λx y h=>by lia) B4
inductive ip (K:aa) (C:af) (Pt:af) (vs:List V) (H:Hp) (Q:VK) (E:XK):Prop
 | mk (hd:Int) (n:Nat):vs=[.int hd,.int n]->1<=n->n<=200->Ys Pt H->(∀ (l:af) (zs:List Zt) (H':Hp),pC Pt H H'->H l=none->H' l=some (.lst (zs.map fo))->(∀ z∈zs,KM n H' z)->(zs.map zP).Nodup->zs.length<=60->Q (.ref l) H')->ip K C Pt vs H Q E
def BR:Rn (ip K C Pt) (lO K C Pt) V5:=by
 rintro vs H Q E ⟨hd,n,rfl,hn1,hn2,hT,k⟩;have hw:hd%6<6:=Am _ (by decide);unfold lO;lk;refine ⟨bM (m:=0) (ar 0),λl hl0=>?_⟩;have S1:=bL.cD (o:=.lst []) hl0;have g1:(upd H l (.lst [])) l=some (.lst (([]:List Zt).map fo)):=aE;generalize upd H l (.lst [])=H1 at S1 g1;lk;refine qf (λhbig=>?_) λhn=>?_
 ·lk
  obtain ⟨m,em',hm⟩:∃ m:Nat,(if (n:Int)-1<60 then (n:Int)-1 else 60)=(m:Int)/\(m<=60/\m+1<=n):=by
   split
   ·exact ⟨n-1,by lia,by lia,by lia⟩
   ·exact ⟨60,rfl,by lia,by lia⟩
  rw [em'];refine ⟨by lia,by lia,λacc hacc=>A4 (n:=m) (E:=λi y H'=>∃ c,y=.ref c/\H' c=some (.tup [.int ((i:Nat):Int),.int ((i+1:Nat):Int)])) (S:=λZ=>∃ o,Z=[o]) hacc ⟨_,rfl⟩ (by lia) (λi y H2 H3 zs g B ⟨c,e,h⟩=>⟨c,e,B _ _ h (gh h g)⟩) ?_ ?_⟩
  ·rintro i σ' H' G hi S' ⟨o,rfl⟩ go;lk;rw [jq];refine ⟨bM (m:=2) (ar 2),λc hc=>?_⟩;exact go _ _ _ ⟨_,rfl⟩ (bL.cD hc) ⟨c,rfl,aE⟩
  ·intro ys H2 hyl g2 S2 hys;obtain ⟨zs,rfl,hz⟩:=Qt (k:=0) (ys:=ys) (H:=H2) (by simpa using hys);simp only [Nat.zero_add] at hz;rw [ag] at hyl;refine k acc zs H2 (λb o _ e=>S2 _ _ (S1 _ _ e)) (S1.free hacc) g2 (λz hz'=>?_) ?_ (by lia)
   ·obtain ⟨i,hi⟩:=bx.mp hz';obtain ⟨e1,e2,e3⟩:=hz i z hi;have:=(aC.mp hi).1;exact ⟨e3,i,i+1,e1,e2,by lia,by lia⟩
   ·refine dj.mpr (iA.mpr λi j h1 h2 hij e=>?_);have a1:=(hz i _ (ay h1)).1;have a2:=(hz j _ (ay h2)).1;have:=(cB e).1;lia
 have hn:n<=24:=by lia
 lk;unfold qk;lk;refine ⟨by lia,by lia,oC (λi Z H4=>∃ o4 o5 zs,Z=[some (.int hd),some (.int n),some (.ref l),some (.int (hd%6)),o4,o5,none]/\Zs n (hd%6) H4 l zs i 0/\a8 l H1 H4) ⟨_,_,[],rfl,⟨g1,(λz hz=>nomatch hz),(λz hz=>nomatch hz),(λz hz=>nomatch hz),oz⟩,a8.refl _ _⟩ ?_ ?_⟩
 ·rintro i Z H4 hi ⟨o4,o5,zs,rfl,Z4,B4⟩;k_ne;rw [jq]
  exact KR hn hw hi Z4 B4 λo5 zs' H5 Z5 B5=>⟨_,_,zs',rfl,Z5,B5⟩
 ·rintro Z H4 ⟨o4,o5,zs,rfl,Zzq,B⟩;have hl:=Zzq.len hn;have S4:bL H H4:=λb o e=>B _ _ (S1 _ _ e) (aP e hl0);have T4:Ys Pt H4:=hT.same S4
  have fin:∀ (us:List Zt) (H5:Hp) (p:af),us.Perm zs->pC Pt H4 H5->Ys Pt H5->H5 p=none->Q (.ref p) (upd H5 p (.lst ((us.map fo).take 36))):=λus H5 p pm ST T5 hp=>by
   have S6:=bL.cD (o:=.lst ((us.map fo).take 36)) hp
   have g6:(upd H5 p (.lst ((us.map fo).take 36))) p=some (.lst ((us.take 36).map fo)):=by rw [aE,gU]
   generalize upd H5 p (.lst ((us.map fo).take 36))=H6 at S6 g6;have hm:∀ z∈us.take 36,z∈zs:=λz hz=>pm.mem_iff.mp (Og hz);refine k p (us.take 36) H6 (λb o hb e=>S6 _ _ (ST _ _ hb (S4 _ _ e))) (S4.free (ST.free T5 hp)) g6 (λz hz=>⟨S6 _ _ (ST.tup T4 (Zzq.pz z (hm z hz)).1),(Zzq.pz z (hm z hz)).2⟩) ?_ (by rw [bB];lia);exact (((SW 36 us).map zP).nodup ((pm.map zP).nodup_iff.mpr Zzq.nd))
  lk;refine qf (λ_=>?_) λ_=>?_
  ·lk;unfold Kp;lk;refine ⟨l,zs.map (λz=>(([z.2.1-z.1,z.1],z.2.2):Zn)),rfl,by rw [bK];exact Zzq.g,λz hz=>?_,by rw [ag];lia,T4,λl2 zs2 H2 hn2 ST T2 pm _=>?_⟩
   ·obtain ⟨u,hu,rfl⟩:=a6.mp hz;exact ⟨_,_,rfl,(Zzq.pz u hu).1⟩
   obtain ⟨us,hu,rfl⟩:=Sy.perm_map pm.symm zs rfl;have S5:=bL.cD (o:=.lst (us.map fo)) hn2;have g5:(upd H2 l2 (.lst (us.map fo))) l2=some (.lst (us.map fo)):=aE;rw [show (us.map (λz=>(([z.2.1-z.1,z.1],z.2.2):Zn))).map lF=us.map fo by rw [bK];rfl];generalize upd H2 l2 (.lst (us.map fo))=H5 at S5 g5;lk;refine ⟨l2,_,rfl,c9.of g5,λp hp=>?_⟩;rw [uR (show (36:Int)=((36:Nat):Int) from rfl)];exact fin us H5 p hu (λb o hb e=>S5 _ _ (ST _ _ hb e)) (T2.same S5) hp
  ·lk;refine pP (c9.of Zzq.g) ?_;rw [ag];lk;obtain ⟨j,ej,hj⟩:=em (n:=zs.length+1) (by lia) (hd/30);rw [show ((zs.length:Int)+1)=((zs.length+1:Nat):Int) by lia,ej];refine ⟨l,_,rfl,c9.of Zzq.g,λp1 hp1=>?_⟩;rw [HQ rfl];generalize eu_:upd H4 p1 (.lst ((zs.map fo).drop j))=H5;obtain ⟨S5,g5⟩:=jZ eu_ hp1;lk;refine ⟨l,_,rfl,c9.of (S5 _ _ Zzq.g),λp2 hp2=>?_⟩;rw [uR rfl];generalize eu_:upd H5 p2 (.lst ((zs.map fo).take j))=H6;obtain ⟨S6,g6⟩:=jZ eu_ hp2;refine Tw (S6 _ _ g5) g6 (bM (m:=200) (by rw [cN,bB,ag];lia)) λp3 hp3=>?_;have S7:=bL.cD (o:=.lst ((zs.map fo).drop j++(zs.map fo).take j)) hp3
   have g7:(upd H6 p3 (.lst ((zs.map fo).drop j++(zs.map fo).take j))) p3=some (.lst ((zs.drop j++zs.take j).map fo)):=by rw [aE,aU,yI,gU]
   generalize upd H6 p3 (.lst ((zs.map fo).drop j++(zs.map fo).take j))=H7 at S7 g7;have S47:=S5.trans (S6.trans S7);lk;refine ⟨p3,_,rfl,c9.of g7,λp hp=>?_⟩;rw [uR (show (36:Int)=((36:Nat):Int) from rfl)]
   exact fin _ H7 p (by
    have:=fH (l₁:=zs.drop j) (l₂:=zs.take j)
    rwa [eJ] at this) (λb o _ e=>S47 _ _ e) (T4.same S47) hp
inductive cJ (K:aa) (C:af) (A:CA) (Pt2:af) (vs:List V) (H:Hp) (Q:VK) (E:XK):Prop
 | mk (Pt p dx:af) (a:AL) (n T:Nat) (as:Nat->List af) (R:Nat->Nat->List Int) (hd:Int):vs=[.ref p,.int hd,.int n]->Dq K C A->KP C A H p dx a n T [] as R->1<=n->n<=200->Pt≠Pt2->qD Pt H->Ys Pt2 H->(∀ d ts H',Lw C A Pt p dx d a n T ts H'->d∉a.L::fp a->ts.length<=60->Fm (p::Pt::Pt2::fp a) H H'->Q (.ref d) H')->cJ K C A Pt2 vs H Q E
def BS {Pt2:af}:Rn (cJ K C A Pt2) (ua K C A (ip K C Pt2) (dA K C A)) T7:=by
 rintro vs H Q E ⟨Pt,p,dx,a,n,T,as,R,hd,rfl,ct,h,hn1,hn,hne,hP,hT,k⟩;obtain ⟨ps,hps⟩:=hT.tbl;unfold ua;lk;intro d hd0;generalize eu_:upd H d (.dT [])=H1;obtain ⟨S1,g1⟩:=jZ eu_ hd0
 have dn:d∉a.L::fp a:=λz=>by
  rcases av.mp z with q|q
  ·have:=h.lv.ls;rw [← q,hd0] at this;cases this
  ·exact h.lv.tG hd0 q
 have h1:=h.same S1;lk;unfold qo;lk;refine ⟨hd,n,rfl,hn1,hn,hT.same S1,λl zs H2 ST hl0 gl pz nd hlen=>?_⟩;have tb1:H1 Pt2=some (.tbl ps):=S1 _ _ hps
 have h2:KP C A H2 p dx a n T [] as R:=h1.keep (X:=[Pt2]) (λb o hb e=>ST b o (λz=>hb (aA.mpr z)) e) (λb hb z=>by
  rw [aA.mp hb] at z
  rcases av.mp z with z|z
  ·obtain ⟨fs,hp⟩:=h1.p0;rw [z,hp] at tb1;cases tb1
  ·rcases av.mp z with z|z
   ·rw [z,h1.lv.ls] at tb1;cases tb1
   ·exact h1.lv.out tb1 (λ_ z=>nomatch z) (λ_ _ z=>nomatch z) z) λb hb=>by
  rw [aA.mp hb,tb1];exact ⟨(λ_ _ _ z=>nomatch z),(λ_ _ z=>nomatch z)⟩
 have d2:H2 d=some (.dT []):=ST _ _ (λz=>by rw [z,tb1] at g1;cases g1) g1
 have L2:Lw C A Pt p dx d a n T [] H2:=⟨⟨_,_,h2⟩,Qs (hP.same S1) (hT.same S1) hne ST,d2⟩
 have ln:l∉fp a:=h1.lv.tG hl0;refine ⟨l,rfl,.inl ⟨⟨_,c9.of gl⟩,iY (K:=K) (a:=l) (xs:=zs.map fo) (λi Z H4=>∃ ts o4 o5,Lw C A Pt p dx d a n T ts H4/\ts.map Ti.key=(zs.take i).map zP/\H4 l=some (.lst (zs.map fo))/\(∀ z∈zs,KM n H4 z)/\Fm (d::p::Pt::fp a) H2 H4/\Z=[some (.ref p),some (.int hd),some (.int n),some (.ref d),o4,o5]) ⟨[],_,_,L2,rfl,gl,pz,Fm.refl,rfl⟩ ?_ ?_ ?_⟩⟩
 ·rintro i Z H4 _ ⟨ts,o4,o5,_,_,g4,_⟩;exact c9.of g4
 ·rintro i v Z H4 hi ⟨ts,o4,o5,L4,hk,g4,pz4,F4,rfl⟩;rw [ax] at hi;obtain ⟨w,hw,rfl⟩:=aW.mp hi;have hwm:=aL hw;obtain ⟨gw,x,y,ex,ey,hxy,hy⟩:=pz4 w hwm;unfold fX at gw;rw [ex,ey] at gw
  have et:zs.take (i+1)=zs.take i++[w]:=by rw [dI,hw];rfl
  have ekw:zP w=((x:Int),(y:Int)):=Ay ex ey
  have hnk:((x:Int),(y:Int))∉ts.map Ti.key:=by
   rw [hk,gU,← ekw];exact Md nd (by rw [ax,hw];rfl)
  have hln:ts.length<=i:=by
   have:=congrArg dR hk;rw [ag,ag,bB] at this;lia
  have hi2:=(aC.mp hw).1;obtain ⟨as4,R4,h4⟩:=L4.kp;refine xP (.of gw) rfl ?_;lk;refine ⟨bM (m:=2) (ar 2),λt ht=>?_⟩;have S5:=bL.cD (o:=.tup [.int x,.int y]) ht;have g5:(upd H4 t (.tup [.int x,.int y])) t=some (.tup ((pk x y).map kV)):=aE;generalize upd H4 t (.tup [.int x,.int y])=H5 at S5 g5;have L5:=L4.same S5
  have hv:gQ (kd (ts.map Ti.key)) (pk x y)=none:=by rw [wC];exact sQ hnk
  refine .inr ⟨d,_,rfl,tF.t (k:=pk x y) L5.hd g5 (dU (m:=100) (by rw [wC,kU];lia)),?_⟩;rw [vD _ hv];obtain ⟨h6,P6,tu,_,F6⟩:=L5.st (h4.same S5) dn (kd (ts.map Ti.key)++[(pk x y,.bl true)]);generalize upd H5 d (.dT (kd (ts.map Ti.key)++[(pk x y,.bl true)]))=H6 at h6 P6 tu F6;obtain ⟨w',c1,c2,c3,c4,hw',hp⟩:=h6.ob
  have fin:∀ b as' R' H',KP C A H' p dx a n T (ts++[⟨x,y,0,b⟩]) as' R'->Fm (p::fp a) H6 H'->∃ ts o4 o5,Lw C A Pt p dx d a n T ts H'/\ts.map Ti.key=(zs.take (i+1)).map zP/\H' l=some (.lst (zs.map fo))/\(∀ z∈zs,KM n H' z)/\Fm (d::p::Pt::fp a) H2 H'/\[some (V.ref p),some (.int hd),some (.int n),some (.ref d),some (.int x),some (.int y)]=[some (.ref p),some (.int hd),some (.int n),some (.ref d),o4,o5]:=λb as' R' H7 h7 F7=>by
   obtain ⟨d7,F57⟩:=F6 H7 (F7.mono λb hb=>(av.mp hb).elim (λz=>z▸aw) λz=>aj _ (aj _ z));refine ⟨_,_,_,⟨⟨_,_,h7⟩,h6.WW P6 F7,by rw [d7,kd_new]⟩,?_,L5.fm F57 (S5 _ _ g4) (λ_ z=>nomatch z) (λ_ _ _ z=>nomatch z) (λ_ z=>nomatch z) ln,λz hz=>⟨L5.tup F57 (S5 _ _ (pz4 z hz).1),(pz4 z hz).2⟩,F4.trans ((Fm.of S5).trans F57),rfl⟩;rw [et,aU,aU,hk]
   show _++[_]=_++[zP w]
   rw [ekw];rfl
  lk;refine qf (λ_=>?_) λ_=>?_
  ·k_in;refine ⟨p,dx,_,rfl,hp,KL,?_⟩;lk;refine ⟨p,dx,a,n,T,ts,as4,R4,x,y,rfl,ct,h6,by lia,by lia,hy,by lia,by rw [show min x y=x by lia,show max x y=y by lia];exact hnk,by lia,λb as' R' H7 _ h7 F7=>?_⟩;rw [show min x y=x by lia,show max x y=y by lia] at h7;exact fin b as' R' H7 h7 F7
  ·k_in;refine ⟨p,dx,_,rfl,hp,KL,?_⟩;lk;refine ⟨p,dx,a,n,T,ts,as4,R4,y,x,rfl,ct,h6,by lia,hy,by lia,by lia,by rw [show min y x=x by lia,show max y x=y by lia];exact hnk,by lia,λb as' R' H7 _ h7 F7=>?_⟩;rw [show min y x=x by lia,show max y x=y by lia] at h7;exact fin b as' R' H7 h7 F7
 ·rintro Z H4 ⟨ts,o4,o5,L4,hk,g4,pz4,F4,rfl⟩;lk;refine k d ts H4 L4 dn ?_ λb o hb e=>?_
  ·have:=congrArg dR hk;rw [ag,ag,bB] at this;lia
  ·simp only [av,not_or] at hb;refine F4 _ _ ?_ (ST _ _ hb.2.2.1 (S1 _ _ e));simp only [av,not_or];exact ⟨(λz=>by rw [z,hd0] at e;cases e),hb.1,hb.2.1,hb.2.2.2⟩
inductive BU (K:aa) (Pt1 Pt2:af) (vs:List V) (H:Hp) (Q:VK) (E:XK):Prop
 | mk (a:af) (ns:List Int):vs=[.ref a]->c9 K H a (ns.map V.int)->ns.length<=63->Pt1≠Pt2->qD Pt1 H->Ys Pt2 H->(∀ H',Q (.bl true) H')->BU K Pt1 Pt2 vs H Q E
def Cl (n:Nat) (b:Bool) (H:Hp) (q:af) (m:Nat):Prop:=(b=true/\∃ zs:List Zt,zs.length=m/\H q=some (.lst (zs.map fo))/\∀ z∈zs,KM n H z)\/b=false/\∃ ns:List Int,ns.length=m/\H q=some (.lst (ns.map V.int))
def SE {Pt1 Pt2:af}(ct:Dq K C A):Rn (BU K Pt1 Pt2) (Qk K C A (b0 K C A) (cj K C A) (bC K C) (cg K C) (cJ K C A Pt2) (cO K C A Pt1) (bZ K C) (bS K C) (cW K C)) Yh:=by
 rintro vs H Q E ⟨s,ns,rfl,hS,hlen,hne,hP,hT,k⟩;unfold Qk;lk;refine ⟨s,ns,0,rfl,hS,λz=>?_⟩;lk;refine ⟨s,ns,0,rfl,hS,λz'=>?_⟩;k_ne;k_ne;k_ne;k_ne;k_ne;k_ne;k_ne;k_ne;k_ne;k_ne;k_ne;k_ne;k_ne;generalize hb:decide (V.int (z%2)=V.int 0)=b
 obtain ⟨m,em1,hm1,hm2⟩:∃ m:Nat,(2+z'/2%23:Int)=(m:Int)/\2<=m/\m<=24:=⟨(2+z'/2%23).toNat,by lia,by lia,by lia⟩
 obtain ⟨m2,em2,hm3,hm4⟩:∃ m:Nat,(30+z'/2/184%171:Int)=(m:Int)/\2<=m/\m<=200:=⟨(30+z'/2/184%171).toNat,by lia,by lia,by lia⟩
 with_reducible refine BQ (λZ H1=>H=H1/\∃ n:Nat,2<=n/\n<=200/\(b=true->n<=24)/\Z=[some (.ref s),some (.bl b),some (.int (z'/2)),some (.int n),none,none,none,none,none,none]) ?_ λgo=>?_
 rotate_left
 ·lk;refine ⟨_,rfl,?_⟩
  cases b with
  | true=>exact iQ (iQ (go _ _ ⟨rfl,m,hm1,by lia,λ_=>hm2,by rw [em1];rfl⟩))
  | false =>
   refine lU ?_;lk;refine qf (λ_=>?_) λ_=>?_
   ·lk;exact go _ _ ⟨rfl,m2,hm3,hm4,(λz=>nomatch z),by rw [em2];rfl⟩
   ·exact go _ _ ⟨rfl,m,hm1,by lia,(λz=>nomatch z),by rw [em1];rfl⟩
 rintro Z H1 ⟨rfl,n,hn1,hn2,hb24,rfl⟩;lk;refine KJ ?_;lk;intro p dx hp hdx _
 have T0:bL H (upd (upd H dx (.own p)) p (.ins A.Keeper dx [])):=λb o e=>by rw [aH (aP e hp),aH (aP e hdx)];exact e
 refine ⟨p,dx,n,rfl,aE,ct,by lia,by lia,λa T as H3 k3 B3 fr3=>⟨rfl,?_⟩⟩;have S3:bL H H3:=λb o e=>B3 _ _ (T0 _ _ e) (aP e hp);lk;intro d hd;generalize eu_:upd H3 d (.dT [])=H5;obtain ⟨S5,g5⟩:=jZ eu_ hd;have S05:=S3.trans S5;have h5:=k3.same S5
 have dn:d∉a.L::fp a:=λz=>by
  rcases av.mp z with q|q
  ·have:=k3.lv.ls;rw [← q,hd] at this;cases this
  ·exact k3.lv.tG hd q
 lk;refine EI (S05.seq hS) λq hq=>?_
 obtain ⟨ms,em2,hml⟩:∃ ms:List Int,uL (ns.map V.int) (some 1) (some 25)=ms.map V.int/\ms.length<=24:=by
  refine ⟨(ns.drop 1).take 24,?_,by rw [bB];lia⟩;rw [LQ (show (1:Int)=((1:Nat):Int) from rfl) (show (25:Int)=((25:Nat):Int) from rfl),← yI,← gU]
 rw [em2];generalize eu_:upd H5 q (.lst (ms.map V.int))=H6;obtain ⟨S6,g6⟩:=jZ eu_ hq;have S06:=S05.trans S6;have h6:=h5.same S6;k_ne
 with_reducible refine BQ (λZ H7=>∃ d q m ts,Lw C A Pt1 p dx d a n T ts H7/\d∉a.L::fp a/\ts.length+m<=84/\Cl n b H7 q m/\q∉fp a/\m<=40/\Z=[some (.ref s),some (.bl b),some (.int (z'/2)),some (.int n),some (.ref p),some (.ref d),some (.ref q),none,none,none]) ?_ λgo=>?_
 rotate_left
 ·lk;refine ⟨_,rfl,?_⟩
  cases b with
  | true =>
   refine lU ?_;lk;refine ⟨s,ns,n,rfl,S06.seq hS,by lia,hb24 rfl,λl zs H7 S7 hl g7 pz hzl=>?_⟩;lk
   exact go _ _ ⟨d,l,zs.length,[],⟨⟨_,_,h6.same S7⟩,hP.same (S06.trans S7),S7 _ _ (S6 _ _ g5)⟩,dn,by rw [kW];lia,.inl ⟨rfl,zs,rfl,g7,pz⟩,h6.lv.tG hl,hzl,rfl⟩
  | false =>
   refine iQ ?_;lk;refine ⟨Pt1,p,dx,a,n,T,_,_,z'/2/23,rfl,ct,h6,by lia,hn2,hne,hP.same S06,hT.same S06,λd' ts H7 L7 dn' hl7 F7=>?_⟩;lk;refine go _ _ ⟨d',q,ms.length,ts,L7,dn',by lia,.inr ⟨rfl,ms,rfl,F7 _ _ (λz=>?_) g6⟩,h5.lv.tG hq,by lia,rfl⟩;simp only [av] at z
   rcases z with z|z|z|z
   ·obtain ⟨fs,hp⟩:=h6.p0;exact (gh g6 hp) z
   ·exact (hP.same S06).ne g6 (λ_ z=>nomatch z) z
   ·obtain ⟨ps,e⟩:=(hT.same S06).tbl;exact (gh g6 e) z
   ·exact h5.lv.tG hq z
 rintro Z H7 ⟨d,q,m,ts,L7,dn,hl7,C7,qn,hm,rfl⟩;obtain ⟨as7,R7,h7⟩:=L7.kp;obtain ⟨w,c1,c2,c3,c4,hw,hp⟩:=h7.ob;k_in;refine ⟨p,dx,_,rfl,hp,KL,?_⟩;lk;refine ⟨p,dx,a,n,T,ts,as7,R7,rfl,ct,h7,by lia,λr us H8 hr gr fl pm so S8=>?_⟩
 have hul:us.length=ts.length:=by have:=pm.length_eq;rwa [ag] at this
 have tb8:Tb H8 r us ts:=⟨gr,fl,pm,so,by lia⟩
 lk;refine ⟨r,d,us,ts,rfl,tb8,S8 _ _ L7.hd,λH9 S9=>⟨true,rfl,iQ ?_⟩⟩;lk;refine ⟨n,r,us,T,ts,R7,rfl,hn2,tb8.same S9,h7.iv,h7.jn,λH10 S10=>⟨true,rfl,iQ ?_⟩⟩;have S710:=S8.trans (S9.trans S10)
 have C10:Cl n b H10 q m:=C7.imp (λ⟨e,zs,h1,h2,h3⟩=>⟨e,zs,h1,S710 _ _ h2,λz hz=>⟨S710 _ _ (h3 z hz).1,(h3 z hz).2⟩⟩) λ⟨e,ns,h1,h2⟩=>⟨e,ns,h1,S710 _ _ h2⟩
 lk;unfold IF;lk
 have hlm:∀ {H':Hp},Cl n b H' q m->∃ xs:List V,xs.length=m/\H' q=some (.lst xs):=λ{H'} c=>by
  rcases c with ⟨_,zs,e,g,_⟩|⟨_,ns,e,g⟩
  ·exact ⟨_,by rw [ag];exact e,g⟩
  ·exact ⟨_,by rw [ag];exact e,g⟩
 obtain ⟨xs,hxl,gx⟩:=hlm C10;refine pP (c9.of gx) ?_;rw [hxl];lk;refine ⟨by lia,by lia,oC (λi Z H4=>∃ ts r us o8 o9,Lw C A Pt1 p dx d a n T ts H4/\ts.length+m<=84+i/\Tb H4 r us ts/\r∉fp a/\Cl n b H4 q m/\Z=[some (.ref s),some (.bl b),some (.int (z'/2)),some (.int n),some (.ref p),some (.ref d),some (.ref q),some (.ref r),o8,o9]) ⟨ts,r,us,_,_,L7.same S710,by lia,(tb8.same S9).same S10,h7.lv.tG hr,C10,rfl⟩ ?_ ?_⟩
 ·rintro i Z H4 hi ⟨ts,r,us,o8,o9,L4,hl4,tb4,hr4,C4,rfl⟩;obtain ⟨as4,R4,h4⟩:=L4.kp
  -- one step,by the tie
  have step:∀ (t:af) (x y:Nat) (H5:Hp) (G:VK) (X:XK),bL H4 H5->H5 t=some (.tup [.int x,.int y])->x<y->y<n->(∀ r' ts us H',Lw C A Pt1 p dx d a n T ts H'->ts.length+m<=84+(i+1)->Tb H' r' us ts->r'∉fp a->Cl n b H' q m->G (.ref r') H')->cO K C A Pt1 [.ref p,.int n,.ref d,.ref r,.ref t] H5 G X:=λt x y H5 G X S5 ht hxy hy go=>by
   refine ⟨p,dx,d,a,n,T,ts,t,r,us,x,y,rfl,ct,L4.same S5,hn2,dn,hxy,hy,ht,by lia,tb4.same S5,hr4,λl' us' ts' H' L' tb' hl' hlen' F'=>go l' ts' us' H' L' (by lia) tb' hl' ?_⟩;have L5:=L4.same S5
   refine C4.imp (λ⟨e,zs,h1,h2,h3⟩=>⟨e,zs,h1,L5.fm F' (S5 _ _ h2) (λ_ z=>nomatch z) (λ_ _ _ z=>nomatch z) (λ_ z=>nomatch z) qn,λz hz=>⟨L5.tup F' (S5 _ _ (h3 z hz).1),(h3 z hz).2⟩⟩) λ⟨e,ns,h1,h2⟩=>⟨e,ns,h1,L5.fm F' (S5 _ _ h2) (λ_ z=>nomatch z) (λ_ _ _ z=>nomatch z) (λ_ z=>nomatch z) qn⟩
  lk
  rcases C4 with ⟨rfl,zs,hzl,gz,pz⟩|⟨rfl,ns',hnl,gn⟩
  ·have hj:i<zs.length:=by lia
   have gi:zs[i]?=some zs[i]:=ay hj;obtain ⟨gw,x,y,ex,ey,hxy,hy⟩:=pz _ (gZ hj);generalize zs[i]=w at gi gw ex ey;unfold fX at gw;rw [ex,ey] at gw;refine lu (c9.of gz) (v:=fo w) (eE (jq _) (by rw [ax,gi];rfl)) ?_;lk;refine ⟨_,rfl,iQ ?_⟩;lk;refine step w.2.2 x y H4 _ _ bL.rf gw hxy hy λr' ts us H' q1 q2 q3 q4 q5=>?_;lk;refine qf (λc=>nomatch c) λ_=>?_;exact ⟨ts,r',us,_,_,q1,q2,q3,q4,q5,rfl⟩
  ·have hj:i<ns'.length:=by lia
   have gi:ns'[i]?=some ns'[i]:=ay hj;generalize ns'[i]=c at gi;refine yR (c9.of gn) (jq _) gi ?_;lk;refine ⟨_,rfl,lU ?_⟩;lk;refine yR (c9.of gn) (jq _) gi ?_;lk;refine ⟨c,i+1,n,r,us,ts,by rw [jq];rfl,hn1,hn2,by lia,tb4,λt ht=>⟨(h4.iv.lt t ht).1,(h4.iv.lt t ht).2.1⟩,λt x y H5 S5 gt hxy hy=>?_⟩;lk;refine step t x y H5 _ _ S5 gt hxy hy λr' ts us H' q1 q2 q3 q4 q5=>?_;lk;refine qf (λc=>nomatch c) λ_=>?_;exact ⟨ts,r',us,_,_,q1,q2,q3,q4,q5,rfl⟩
 ·rintro Z H4 ⟨ts,r,us,o8,o9,L4,hl4,tb4,hr4,C4,rfl⟩;lk;exact k _
end K37
namespace K37
local macro_rules | `(tactic| walk_at "oz")=>`(tactic| first|exact rfl|with_reducible assumption|exact qY|exact .inl rfl|exact .inr rfl|exact il _|exact λ_=>rfl|exact λ_ _=>rfl|(exact .inr (.inl rfl))|(exact .inr (.inr rfl))|exact du|assumption|decide|exact hU.mono (by assumption) (by decide)|exact hU.units (by assumption)|with_unfolding_all rfl)
local macro_rules | `(tactic| walk_at "oc")=>`(tactic| first|exact xO|exact A1|exact Ew rfl|exact MR rfl|exact vP|exact Nb|exact FQ rfl|exact ER rfl)
local macro_rules | `(tactic| walk_at "op")=>`(tactic| first|exact jF|exact Fv|exact xJ|exact sL|exact U7|exact Eu|exact LH|exact Ow|exact To|exact lD (hU.units (by assumption))|exact OQ (hU.units (by assumption))|exact OR (hU.units (by assumption))|exact M4 (hU.units (by assumption))|exact op_eqL (hU.units (by assumption))|exact PN (hU.units (by assumption)))
local macro_rules | `(tactic| walk_at "ob")=>`(tactic| first|exact BootT.len|exact BootT.uP|exact BootT.min|exact BootT.max|exact BootT.A2|exact BootT.list|exact BootT.tuple|exact BootT.bool)
local macro_rules | `(tactic| walk_at "om")=>`(tactic| first|exact KB.QQ (by assumption)|exact KB.qd (by assumption)|exact KB.As (by assumption)|exact KB.UE (by assumption)|exact KB.Ut (by assumption)|exact KB.sF (by assumption)|exact KB.QZ (by assumption)|exact KB.SQ (by assumption)|exact KB.Wn (by assumption))
local macro_rules | `(tactic| walk_at "ok")=>`(tactic| first|exact KB.GX (by assumption)|exact KB.Fe (by assumption)|exact KB.Fc (by assumption))
local macro_rules | `(tactic| walk_at "o1")=>`(tactic| first
 | (with_reducible first|exact gp|refine b8 ?_|refine aF ?_ ?_|refine gv ?_|refine kB ?_ ?_ ?_|exact cH|exact Xe|exact UZ|exact dZ|refine U3 ?_|refine qU ?_|refine Kb ?_|exact vA|refine vB ?_|exact An|exact ON|refine AJ ?_ ?_|refine AI ?_|refine qP ?_ ?_|refine AH ?_ ?_|refine pL ?_|refine xF ?_)
 | ((with_reducible refine nB ?_ ?hs);(case hs=>exact rfl))
 | ((with_reducible refine oH ?hN ?_ ?hi ?hx ?hs ?hf);(case hN|hi|hx|hs|hf=>walk_at "oz"))
 | ((with_reducible refine Yd ?_ ?_ ?hK ?hs);(case hK|hs=>exact rfl))
 | ((with_reducible refine Os ?_ ?_ ?hs ?hw ?h1);(case hs|hw|h1=>exact rfl))
 | ((with_reducible refine pv _ ?hN ?hv ?hd ?hc);(case hN|hv|hd|hc=>walk_at "oz"))
 | ((with_reducible refine iO ?ho ?_ ?_);(case ho=>walk_at "op"))
 | ((with_reducible refine OG ?hr ?_ ?_ ?hs);(case hr=>exact Vr (hU.units (by assumption)));(case hs=>exact λ_ _=>rfl))
 | ((with_reducible refine fz ?ho ?_ ?_ ?hm);(case ho=>walk_at "op");(case hm=>walk_at "oz"))
 | ((with_reducible refine LI ?ho ?_ ?_ ?hm);(case ho=>walk_at "op");(case hm=>walk_at "oz"))
 | ((with_reducible refine cf ?_ ?_ ?hs);(case hs=>exact rfl))
 | ((with_reducible refine Yc ?_ ?hK ?hb);(case hK|hb=>exact rfl))
 | ((with_reducible refine Yb ?_ ?hK ?he);(case hK=>exact rfl);(case he=>exact λ_=>rfl))
 | ((with_reducible refine qV ?hr ?_ ?_ ?_);(case hr=>first|exact vC|exact Vd))
 | ((with_reducible refine Ya ?_ ?hK);(case hK=>exact rfl))
 | ((with_reducible refine xI ?hg ?hm ?_ ?hs);(case hg|hs=>exact rfl);(case hm=>walk_at "om"))
 | ((with_reducible refine Et ?hg ?hm ?_ ?hs ?ht);(case hg|hs|ht=>exact rfl);(case hm=>walk_at "om"))
 | ((with_reducible refine gj ?hN ?hi ?hx ?hf);(case hN|hi|hx|hf=>walk_at "oz"))
 | ((with_reducible refine U4 ?_ ?_ ?hs ?ha);(case hs=>exact Xr (hU.units (by assumption)));(case ha=>exact λ_=>rfl))
 | ((with_reducible refine Ye ?hc ?_ ?hK ?hn ?hs);(case hc|hK|hn|hs=>exact rfl))
 | ((with_reducible refine iF ?_ ?_ ?hs);(case hs=>exact rfl))
 | ((with_reducible refine' Fn ?hg ?hm ?hv ?hr ?hn ?hd);(case hg|hr=>exact rfl);(case hm=>walk_at "om");(case hv=>walk_at "ob");(case hn|hd=>decide))
 | ((with_reducible refine' jW ?hc ?hg ?hm ?hv ?_ ?hn ?hd ?he ?hp);(case hc=>walk_at "oc");(case hg|he|hp=>exact rfl);(case hm=>walk_at "om");(case hv=>walk_at "ob");(case hn|hd=>decide))
 | ((with_reducible refine' Zd ?c ?hr ?hg ?hx ?_ ?hd ?he ?hp);(case c=>assumption);(case hr=>walk_at "oz");(case hg|he|hp=>exact rfl);(case hx=>exact qY);(case hd=>decide))
 | ((with_reducible refine' pcm ?c ?cl ?hr ?_ ?hx ?_ ?hs ?hp ?ht);(case c=>assumption);(case cl=>walk_at "ok");(case hr=>walk_at "oz");(case hx=>exact qY);(case hs|hp|ht=>exact rfl))
 | ((with_reducible refine' pcm0 ?c ?cl ?hr ?_ ?hx ?ht);(case c=>assumption);(case cl=>walk_at "ok");(case hr=>walk_at "oz");(case hx=>exact qY);(case ht=>exact rfl))
 | ((with_reducible refine' o_bm ?pa ?sl ?ty ?hm ?_ ?_ ?hK ?hb ?hf ?hl ?hs ?hp);(case pa=>exact cR);(case sl=>exact fR);(case ty=>exact fS);(case hm=>exact lC);(case hK|hb|hf|hl|hs|hp=>exact rfl))
 | with_reducible refine PW.pt ?_
 | (refine qS ?hp ?hc ?_ ?_ ?_ ?hs;(case hp=>exact du);(case hc=>exact rfl);(case hs=>exact λ_=>rfl))
 | (refine vv ?hp ?_ ?_;(case hp=>exact du)))
local macro_rules | `(tactic| w_up)=>`(tactic| repeat' walk_at "o1")
def Wh {l:qx}{w:bH}{K:aa}{h:cb}{mg:bh->Option ai}{fa:af}(X:K.In h) (G:h.Ns bR mg) (hfa:mg "law"=some (.ref fa)) {c1 Pt1 c2 Pt2:af}{C A_Levels A_Keeper:af}
  (Gj:de K bR "Wood"=some (some (.ref C))) (Gk:iL K C MD=true) (Gm:jt K C=true) (Gn:ll K C=true) (Gp:bD K (.ref C) "__setattr__"=some (some (.builtin "object.__setattr__"))) (Gq:kH K C=true) (Gr:eD K (.ref C)=true)
  (sD:bD K (.ref C) "n"=some none)
  (l6:bD K (.ref C) "rows"=some none)
  (yf:de K bR "Levels"=some (some (.ref A_Levels))) (yg:iL K A_Levels MD=true) (yh:jt K A_Levels=true) (yi:ll K A_Levels=true) (yj:bD K (.ref A_Levels) "__setattr__"=some (some (.builtin "object.__setattr__"))) (yk:kH K A_Levels=true) (ym:eD K (.ref A_Levels)=true)
  (ic:bD K (.ref A_Levels) "level_of"=some none)
  (gL:bD K (.ref A_Levels) "weight_of"=some none)
  (i6:bD K (.ref A_Levels) "wooden"=some none)
  (jA:bD K (.ref A_Levels) "woods"=some none)
  (yn:de K bR "Keeper"=some (some (.ref A_Keeper))) (yo:iL K A_Keeper MD=true) (yp:jt K A_Keeper=true) (yq:ll K A_Keeper=true) (yr:bD K (.ref A_Keeper) "__setattr__"=some (some (.builtin "object.__setattr__"))) (yt:kH K A_Keeper=true) (yu:eD K (.ref A_Keeper)=true)
  (j7:bD K (.ref A_Keeper) "came"=some none)
  (i8:bD K (.ref A_Keeper) "levels"=some none)
  (i7:bD K (.ref A_Keeper) "looked"=some none)
  (j9:bD K (.ref A_Keeper) "lost"=some none)
  (nc:bD K (.ref A_Keeper) "n"=some none)
  (jz:bD K (.ref A_Keeper) "risen"=some none)
  (j8:bD K (.ref A_Keeper) "wood"=some none)
  (BV:qw K mg "is_whole" EU yY)
  (BW:qw K mg "is_count" EV yY)
  (BX:qw K mg "is_place" EW yW)
  (Ur:qw K mg "top" stop ["n"])
  (IM:qw K mg "tie_of" Mo ["a","b"])
  (IP:qw K mg "credit" Mp ["n","ties"])
  (Mu:qw K mg "rises" P0 ["trail"])
  (Mv:qw K mg "looks" P8 ["trail"])
  (ug:qw K mg "steps_along" vS ["row"])
  (IQ:qw K mg "turned" Mq ["row","a"])
  (E7:qw K mg "spliced" Ip ["row","other","a","b"])
  (IR:qw K mg "parted" Mr ["row","a","b"])
  (nO:qw K mg "refuse_no_place" oI yW)
  (m8:qw K mg "refuse_no_places" nH yV)
  (pj:qw K mg "refuse_no_pair" qh yV)
  (u6:qw K mg "in_order" xY ET)
  (uh:qw K mg "ends_within" vT Mm)
  (E8:qw K mg "new_tie" Iq Mi)
  (rX:qw K mg "standing_tie" tU Mi)
  (rY:qw K mg "_law_cell_at" tV Mj)
  (wF:qw K mg "_law_whole" yZ ["_law_found"])
  (pX:qw K mg "_law_shape" rA PZ)
  (zg:qw K mg "_law_next" Bk Ud)
  (zh:qw K mg "_law_root" Bl Mh)
  (wG:qw K mg "_law_heads" y3 ["_law_n","_law_pairs"])
  (wH:qw K mg "_law_table" y4 ["_law_found","_law_standing"])
  (wI:qw K mg "_law_begun" y6 Uj)
  (ui:qw K mg "_law_halves" vU ["_law_n","_law_table_here"])
  (uj:qw K mg "_law_rising" vV ["_law_old","_law_new"])
  (uk:qw K mg "_law_digits" vW Ui)
  (rZ:qw K mg "_law_toggles" tW ["_law_script","_law_n"])
  (zj:qw K mg "_law_step" Bn T9)
  (Mw:qw K mg "law" Ym Mn)
  (qt:lK K C "__init__" "Wood.__init__" rB qg)
  (zk:lK K C "keep" "Wood.keep" Bo ["self","row"])
  (zl:lK K C "link" "Wood.link" Bp tq)
  (BY:lK K C "cut" "Wood.cut" EX tq)
  (um:lK K C "joined" "Wood.joined" vX tq)
  (wJ:lK K C "group" "Wood.group" y8 yX)
  (zm:lK K C "size" "Wood.size" Bq yX)
  (nQ:lK K A_Levels "__init__" "Levels.__init__" oJ qg)
  (wK:lK K A_Levels "add" "Levels.add" y9 Io)
  (r0:lK K A_Levels "adopt" "Levels.adopt" tX vR)
  (uo:lK K A_Levels "lift" "Levels.lift" vY vR)
  (uq:lK K A_Levels "drop" "Levels.drop" vZ vR)
  (nR:lK K A_Levels "at_level" "Levels.at_level" oK ["self","level","wooden"])
  (ur:lK K A_Levels "told" "Levels.told" v5 vR)
  (lY:lK K A_Levels "lesser_side" "Levels.lesser_side" mj Ml)
  (uu:lK K A_Levels "look" "Levels.look" v7 Ml)
  (uv:lK K A_Levels "take" "Levels.take" v8 vR)
  (qu:lK K A_Keeper "__init__" "Kept.__init__" rC qg)
  (r9:lK K A_Keeper "receive" "Kept.receive" tY Io)
  (BZ:lK K A_Keeper "out" "Kept.out" EY tq)
  (zq:lK K A_Keeper "ties" "Kept.ties" Br ["self"])
  (wL:lK K A_Keeper "put" "Keeper.put" za tq)
  (u7:u6.d.code=.ref c1)
  (pY:pX.d.code=.ref c2)
  (KU:de K bR "bool"=some none)
  (Qu:de K bR "int"=some none)
  (pZ:de K bR "isinstance"=some none)
  (Qv:de K bR "len"=some none)
  (KW:de K bR "list"=some none)
  (Qw:de K bR "max"=some none)
  (Qx:de K bR "min"=some none)
  (Gs:de K bR "range"=some none)
  (Qy:de K bR "set"=some none)
  (B7:de K bR "sorted"=some none)
  (Qz:de K bR "sum"=some none)
  (Gu:de K bR "tuple"=some none)
  (QB:de K bR "zip"=some none)
  {Dw:SU}(og:de K bR "MOST_PLACES"=some (some (.int 200 Dw)))
  : ∃ fd:eI,(∀ (s:ak) (v:ai),GZ s fd ⟨[v],[]⟩ [("_law_script",v)])/\∀ base:cb,K.In base->base.Ns bR mg->ig base c1 Pt1->base.BuiltinsAt mg Pt1->ig base c2 Pt2->base.BuiltinsAt mg Pt2->lj l.prog w K mg base HI 12 fa fd Mn (BU K Pt1 Pt2):=by
 have e:=Mw.law hfa;subst e
 have T:KB K mg C (⟨A_Levels,A_Keeper⟩:CA):=⟨⟨Gk,Gm,Gn,Gp⟩,pG X G Gj,sD,l6,⟨yg,yh,yi,yj⟩,pG X G yf,ic,gL,i6,jA,⟨yo,yp,yq,yr⟩,pG X G yn,j7,i8,i7,j9,nc,jz,j8,cP X G KU,cP X G Qu,cP X G pZ,cP X G Qv,cP X G KW,cP X G Qw,cP X G Qx,cP X G Gs,cP X G Qy,cP X G B7,cP X G Qz,cP X G Gu,cP X G QB,⟨_,pG X G og⟩⟩
 have ct:Dq K C (⟨A_Levels,A_Keeper⟩:CA):=⟨⟨T.GX,T.sD,T.l6⟩,T.Fe,T.ic,T.i6,T.gL,T.jA,T.Fc,T.nc,T.i8,T.j8,T.j7,T.i7,T.jz,T.j9⟩
 refine ⟨Mw.d,λs v=>Mw.bt s [v] rfl,λbase _ _ CH1 B1 CH2 B2=>?_⟩;have B8:=BV.l7 l.prog w base (BV.F.l0 (k:=0) Kv (@FY K C) λhr nd=>b8 (gv (AJ (jW A1 rfl T.qd BootT.uP (cf (pv 0) (cf (Fn rfl T.UA BootT.int rfl) dZ))) (AI (Oq (by w_up))))));have Us:=Ur.l7 l.prog w base (Ur.F.l0 (k:=0) P9 (@SB K C) λhr nd=>aF (by w_up) (aF (by w_up) (aF (vv du (by w_up) (aF (Ft (i:=1) P9.nd rfl (Or.inl rfl) cH LC) (b8 (Ft (i:=2) P9.nd rfl (Or.inl rfl) cH RI)))) (by w_up))));have IS:=IM.l7 l.prog w base (IM.F.l0 (k:=0) Qa (@KH K C) λhr nd=>b8 (gv (vt (by w_up) (by w_up) (by w_up))));have Mx:=Mu.l7 l.prog w base (Mu.F.l0 (k:=0) Sz (@Nn K C) λhr nd=>b8 (gv (jW (EO rfl) rfl T.Ux BootT.sum (cf (iR C8 (ys:=[]) [] rfl (jN (pv 0)) trivial (λ_ _ _=>Fs rfl (iF (gj (show (C8:List bh).Nodup by decide +kernel)) (iF (gj (show (C8:List bh).Nodup by decide +kernel)) (iF (gj (show (C8:List bh).Nodup by decide +kernel)) (iF (gj (show (C8:List bh).Nodup by decide +kernel)) An))))) (λ_ _ _=>jX) (λ_ _ _=>(by w_up))) dZ))));have uw:=ug.l7 l.prog w base (ug.F.l0 (k:=0) C9 (@zL K C) λhr nd=>b8 (gv (Sa rfl rfl T.QZ rfl T.YJ (by w_up))));have IT:=IQ.l7 l.prog w base (IQ.F.l0 (k:=0) Ir (@KG K C) λhr nd=>aF (oH Ir.nd (nC cR gb kN (sO hr.units) (pv 0) (by w_up))) (by w_up));have u9:=u6.l7 l.prog w base (IE u6.F T u7 CH1 B1 (by walk_at "l") Gb);have ux:=uh.l7 l.prog w base (uh.F.l0 (k:=0) Da (@zN K C) λhr nd=>b8 (gv (jW xO rfl T.QQ BootT.len (cf (iR ["place"] (ys:=["side"]) [1] rfl (jN (pv 0)) ⟨rfl,.inl rfl,rfl,trivial⟩ (λ_ _ _=>gj (show (["place","side"]:List bh).Nodup by decide +kernel)) (λ_ _ _=>jY (by w_up)) (λ_ _ _=>(pv 0))) dZ))));have sd:=rY.l7 l.prog w base (rY.F.l0 (k:=0) Bw (@yd K C) λhr nd=>aF (by w_up) (by w_up));have wM:=wF.l7 l.prog w base (wF.F.l0 (k:=0) FS (@BO K C) λhr nd=>b8 (gv (AJ (jW A1 rfl T.qd BootT.uP (cf (pv 0) (cf (Fn rfl T.UA BootT.int rfl) dZ))) (AI (Oq (by w_up))))));have wO:=pX.l7 l.prog w base (Dj pX.F T pY CH2 B2 (by walk_at "l") BR);have zr:=zg.l7 l.prog w base (zg.F.l0 (k:=0) nI (@Dt K C) λhr nd=>aF (by w_up) (aF (vG (i:=5) tT (ys:=[]) [] rfl nI.nd rfl rfl (jN (pv 3)) trivial (λ_ _ _=>gj (show (tT:List bh).Nodup by decide +kernel)) (λ_ _ _=>jY (by w_up)) (λ_ _ _=>(pv 0))) (aF (kB (by w_up) (aF (AK (i:=6) nI.nd rfl (Or.inr rfl) (jW (ER rfl) rfl T.Ut BootT.max (cf (iR tT (ys:=[]) [] rfl (jN (pv 5)) trivial (λ_ _ _=>gj (show (tT:List bh).Nodup by decide +kernel)) (λ_ _ _=>jX) (λ_ _ _=>(by w_up))) dZ))) (aF (vG (i:=5) tT (ys:=["_law_most"]) [6] rfl nI.nd rfl rfl (jN (pv 5)) ⟨rfl,.inl rfl,rfl,trivial⟩ (λ_ _ _=>gj (show (["_law_row","_law_most"]:List bh).Nodup by decide +kernel)) (λ_ _ _=>jY (by w_up)) (λ_ _ _=>(pv 0))) (by w_up))) gp) (by w_up))));have zt:=zh.l7 l.prog w base (zh.F.l0 (k:=0) Iu (@Ds K C) λhr nd=>aF (by w_up) (by w_up));have uz:=uj.l7 l.prog w base (uj.F.l0 (k:=0) Dc (@zX K C) λhr nd=>aF (by w_up) (aF (by w_up) (aF (qS du rfl (jN (pv 1)) (by w_up) (b8 (kB (PW.pt (AH (by w_up) (xF (fz Eu (by w_up) (HG (tM (Rv (by decide:1<64) _) hr.units) (pv 2) (by w_up) cH ⟨rfl,rfl,rfl,rfl⟩) (il _))))) (by w_up) gp))) (by w_up))));have uA:=uk.l7 l.prog w base (uk.F.l0 (k:=0) De (@zV K C) λhr nd=>aF (by w_up) (by w_up));have i4:=qt.Ws l.prog w base Gq Gr (qt.F.l0 (mg:=mg) (k:=0) zI (@wy K C) λhr nd=>aF (by w_up) (b8 (Fx (pv 0) (iR ["place"] (ys:=[]) [] rfl (by w_up) trivial (λ_ _ _=>gj (show (["place"]:List bh).Nodup by decide +kernel)) (λ_ _ _=>jX) (λ_ _ _=>(by w_up))) rfl)));have zu:=zk.l7 l.prog w base (zk.F.l0 (mg:=mg) (k:=0) Iw (@Dm K C) λhr nd=>b8 (qS du rfl (jN (pv 1)) (by w_up) (by w_up)));have uB:=ur.l7 l.prog w base (ur.F.l0 (mg:=mg) (k:=0) Di (@zO K C ⟨A_Levels,A_Keeper⟩) λhr nd=>b8 (gv (by w_up)));have B9:=BW.l7 l.prog w base (BW.F.l0 (k:=1) Kw (@Ga K C) λhr nd=>b8 (gv (AJ (by w_up) (AI (HA LH LH cH (pv 0) (Ry rfl T.Ei.choose_spec ⟨_,rfl⟩))))));have Ca:=BX.l7 l.prog w base (BX.F.l0 (k:=1) Kx (@FZ K C) λhr nd=>b8 (gv (AJ (by w_up) (AI (HA LH Eu cH (pv 1) (pv 0))))));have IU:=IP.l7 l.prog w base (IP.F.l0 (k:=1) Qb (@KI K C) λhr nd=>b8 (gv (jW (EO rfl) rfl T.Ux BootT.sum (cf (iR ["a","b","level","in_wood"] (ys:=["n"]) [0] rfl (jN (pv 1)) ⟨rfl,.inl rfl,rfl,trivial⟩ (λ_ _ _=>Fs rfl (iF (gj (show (Me:List bh).Nodup by decide +kernel)) (iF (gj (show (Me:List bh).Nodup by decide +kernel)) (iF (gj (show (Me:List bh).Nodup by decide +kernel)) (iF (gj (show (Me:List bh).Nodup by decide +kernel)) An))))) (λ_ _ _=>jX) (λ_ _ _=>(by w_up))) dZ))));have My:=Mv.l7 l.prog w base (Mv.F.l0 (k:=1) Ms (@Np K C) λhr nd=>aF (vG (i:=1) C8 (ys:=[]) [] rfl Ms.nd rfl rfl (jN (pv 0)) trivial (λ_ _ _=>Fs rfl (iF (gj (show (C8:List bh).Nodup by decide +kernel)) (iF (gj (show (C8:List bh).Nodup by decide +kernel)) (iF (gj (show (C8:List bh).Nodup by decide +kernel)) (iF (gj (show (C8:List bh).Nodup by decide +kernel)) An))))) (λ_ _ _=>jY (Oo (RA (pv 3)))) (λ_ _ _=>(pv 3))) (b8 (gv (vt (by w_up) (by w_up) (by w_up)))));have E9:=E7.l7 l.prog w base (E7.F.l0 (k:=1) EZ (@II K C) λhr nd=>aF (oH EZ.nd (nC cR gb kN (sO hr.units) (pv 0) (by w_up))) (by w_up));have IV:=IR.l7 l.prog w base (IR.F.l0 (k:=1) Bt (@KF K C) λhr nd=>aF (by w_up) (aF (oH Bt.nd (nC cR gb kN (sO hr.units) (pv 3) (by w_up))) (aF (oH Bt.nd (nC cR gb kN (sO hr.units) (pv 3) (by w_up))) (aF (by w_up) (aF (by w_up) (aF (by w_up) (aF (by w_up) (b8 (gv (vt (by w_up) (by w_up) (by w_up)))))))))));have mB:=wG.l7 l.prog w base (wG.F.l0 (k:=1) wb (@BN K C) λhr nd=>aF (AK (i:=2) wb.nd rfl (Or.inr rfl) (iR ["_law_k"] (ys:=[]) [] rfl (by w_up) trivial (λ_ _ _=>gj (show (["_law_k"]:List bh).Nodup by decide +kernel)) (λ_ _ _=>jX) (λ_ _ _=>(pv 0)))) (aF (by w_up) (b8 (gv (iR ["_law_k"] (ys:=["_law_heads_here"]) [2] rfl (by w_up) ⟨rfl,.inl rfl,rfl,trivial⟩ (λ_ _ _=>gj (show (["_law_k","_law_heads_here"]:List bh).Nodup by decide +kernel)) (λ_ _ _=>jX) (λ_ _ _=>(by w_up)))))));have wQ:=wH.l7 l.prog w base (wH.F.l0 (k:=1) FT (@BP K C) λhr nd=>aF (by w_up) (aF (by w_up) (b8 (gv (LI (lD hr.units) (iR tT (ys:=[]) [] rfl (jN (pv 0)) trivial (λ_ _ _=>gj (show (tT:List bh).Nodup by decide +kernel)) (λ_ _ _=>jX) (λ_ _ _=>(by w_up))) (by w_up) (il _))))));have se:=rZ.l7 l.prog w base (rZ.F.l0 (k:=1) Bx (@ye K C) λhr nd=>aF (by w_up) (by w_up));have nS:=nR.l7 l.prog w base (lj.NG (nR.F.l0 (mg:=mg) (k:=1) nJ (@rW K C ⟨A_Levels,A_Keeper⟩ Pt1) λhr nd=>aF (vG (i:=3) ["tie"] (ys:=["level","self"]) [1,0] rfl nJ.nd rfl rfl (Tz (by w_up)) ⟨rfl,.inl rfl,rfl,⟨rfl,.inl rfl,rfl,trivial⟩⟩ (λ_ _ _=>gj (show (["tie","level","self"]:List bh).Nodup by decide +kernel)) (λ_ _ _=>jY (by w_up)) (λ_ _ _=>(pv 0))) (b8 (gv (Zd u9 hr.m rfl qY (cf (iR ["tie"] (ys:=["wooden","self"]) [2,0] rfl (jN (pv 3)) ⟨rfl,.inl rfl,rfl,⟨rfl,.inl rfl,rfl,trivial⟩⟩ (λ_ _ _=>gj (show (["tie","wooden","self"]:List bh).Nodup by decide +kernel)) (λ_ _ _=>jY (by w_up)) (λ_ _ _=>(pv 0))) (by w_up)))))) rV);have zw:=zq.l7 l.prog w base (lj.NG (zq.F.l0 (mg:=mg) (k:=1) IA (@BM K C ⟨A_Levels,A_Keeper⟩) λhr nd=>b8 (gv (jW vP rfl T.sF BootT.A2 (cf (iR ["tie"] (ys:=["self"]) [0] rfl (Tz (by w_up)) ⟨rfl,.inl rfl,rfl,trivial⟩ (λ_ _ _=>gj (show (["tie","self"]:List bh).Nodup by decide +kernel)) (λ_ _ _=>jX) (λ_ _ _=>(by w_up))) dZ)))) BL);have nT:=nO.l7 l.prog w base (nO.F.l0 (k:=2) v9 (@tw K C) λhr nd=>b8 (kB (by w_up) (b8 mU) gp));have uC:=ui.l7 l.prog w base (ui.F.l0 (k:=2) j4 (@zW K C) λhr nd=>aF (AK (i:=2) j4.nd rfl (Or.inr rfl) cH) (aF (by w_up) (aF (vv du (PW.pt (AH (by w_up) (xF (fz (PN hr.units) (iR tT (ys:=["_law_level"]) [2] rfl (jN (pv 1)) ⟨rfl,.inl rfl,rfl,trivial⟩ (λ_ _ _=>gj (show (PY:List bh).Nodup by decide +kernel)) (λ_ _ _=>jY (by w_up)) (λ_ _ _=>(pv 0))) (Kb dZ) (il _))))) (aF (oH j4.nd OM) (aF (qS du rfl (jN (Zd mB hr.m rfl qY (cf (pv 0) (cf (iR tT (ys:=["_law_level"]) [2] rfl (jN (pv 1)) ⟨rfl,.inl rfl,rfl,trivial⟩ (λ_ _ _=>gj (show (PY:List bh).Nodup by decide +kernel)) (λ_ _ _=>jY (by w_up)) (λ_ _ _=>(by w_up))) dZ)))) (by w_up) (b8 (Os (iO jF (HG (tM (Rv (by decide:1<64) _) hr.units) (pv 4) (pv 5) cH ⟨rfl,rfl,rfl,rfl⟩) cH) (by w_up)))) (aF (qS du rfl (Yg (pv 4)) (by w_up) (by w_up)) (aF (oH j4.nd (Zd mB hr.m rfl qY (cf (pv 0) (cf (iR tT (ys:=["_law_level"]) [2] rfl (jN (pv 1)) ⟨rfl,.inl rfl,rfl,trivial⟩ (λ_ _ _=>gj (show (PY:List bh).Nodup by decide +kernel)) (λ_ _ _=>jY (by w_up)) (λ_ _ _=>(by w_up))) dZ)))) (aF (by w_up) (aF (Ft (i:=2) j4.nd rfl (Or.inr rfl) cH LC) (by w_up)))))))) (by w_up))));have ib:=nQ.Ws l.prog w base yk ym (nQ.F.l0 (mg:=mg) (k:=2) wc (@tD K C ⟨A_Levels,A_Keeper⟩) λhr nd=>aF (by w_up) (aF (by w_up) (aF (by w_up) (b8 (Fx (pv 0) (iR ["level"] (ys:=["n"]) [1] rfl (by w_up) ⟨rfl,.inl rfl,rfl,trivial⟩ (λ_ _ _=>gj (show (["level","n"]:List bh).Nodup by decide +kernel)) (λ_ _ _=>jX) (λ_ _ _=>Fy i4.m i4.G hr.m rfl T.SR i4.b .nil qY (by w_up))) rfl)))));have m9:=m8.l7 l.prog w base (m8.F.l0 (k:=3) uV (@rT K C) λhr nd=>aF (by w_up) (by w_up));have qa:=wJ.l7 l.prog w base (wJ.F.l0 (mg:=mg) (k:=3) FV (@BG K C) λhr nd=>aF (by w_up) (b8 (gv (Il rfl rfl T.sF rfl T.YH (by w_up)))));have zx:=zm.l7 l.prog w base (zm.F.l0 (mg:=mg) (k:=3) Iz (@Dp K C) λhr nd=>aF (by w_up) (by w_up));have pq:=pj.l7 l.prog w base (pj.F.l0 (k:=4) xZ (@uZ K C) λhr nd=>aF (by w_up) (b8 (kB (by w_up) (b8 mU) gp)));have uD:=um.l7 l.prog w base (um.F.l0 (mg:=mg) (k:=4) Dg (@zM K C) λhr nd=>aF (by w_up) (by w_up));have lZ:=lY.l7 l.prog w base (lY.F.l0 (mg:=mg) (k:=4) rD (@pV K C ⟨A_Levels,A_Keeper⟩) λhr nd=>aF (by w_up) (b8 (gv (pcm qa T.GX hr.m (pv 3) qY (cf (vt (by w_up) (by w_up) (by w_up)) dZ)))));have i5:=qu.Ws l.prog w base yt yu (qu.F.l0 (mg:=mg) (k:=4) zJ (@wB K C ⟨A_Levels,A_Keeper⟩) λhr nd=>aF (kB (by w_up) (b8 mU) gp) (aF (by w_up) (aF (Fx (pv 0) (Fy ib.m ib.G hr.m rfl T.NH ib.b .nil qY (by w_up)) rfl) (by w_up))));have Fb:=E8.l7 l.prog w base (E8.F.l0 (k:=5) Nm (@IK K C) λhr nd=>aF (by w_up) (aF (by w_up) (aF (kB (by w_up) (b8 mU) gp) (by w_up))));have sf:=rX.l7 l.prog w base (rX.F.l0 (k:=5) Bu (@x9 K C) λhr nd=>aF (by w_up) (aF (by w_up) (aF (kB (by w_up) (b8 mU) gp) (by w_up))));have zy:=zl.l7 l.prog w base (zl.F.l0 (mg:=mg) (k:=5) Iy (@Do K C) λhr nd=>aF (by w_up) (aF (kB (by w_up) (b8 mU) gp) (by w_up)));have Cb:=BY.l7 l.prog w base (BY.F.l0 (mg:=mg) (k:=5) Kz (@F9 K C) λhr nd=>aF (by w_up) (aF (kB (by w_up) (b8 mU) gp) (by w_up)));have sg:=r0.l7 l.prog w base (r0.F.l0 (mg:=mg) (k:=6) By (@yb K C ⟨A_Levels,A_Keeper⟩) λhr nd=>aF (by w_up) (by w_up));have uE:=uo.l7 l.prog w base (uo.F.l0 (mg:=mg) (k:=6) Dh (@zQ K C ⟨A_Levels,A_Keeper⟩) λhr nd=>aF (RW (bw (yH (by decide) _) hr.units) (by w_up) (pv 1) cH AS (λ_ _ _=>rfl)) (by w_up));have uF:=uq.l7 l.prog w base (uq.F.l0 (mg:=mg) (k:=6) tZ (@zS K C ⟨A_Levels,A_Keeper⟩) λhr nd=>aF (nB (nC iN lS lT (Ap hr.units) (by w_up) (by w_up))) (aF (oH tZ.nd (nC iN lS lT (Ap hr.units) (by w_up) (by w_up))) (b8 (kB (OV (nC iN lS lT (Ap hr.units) (by w_up) (by w_up)) (λ_=>rfl)) (by w_up) gp))));have wR:=wK.l7 l.prog w base (wK.F.l0 (mg:=mg) (k:=7) FW (@BI K C ⟨A_Levels,A_Keeper⟩) λhr nd=>aF (by w_up) (by w_up));have uG:=uu.l7 l.prog w base (uu.F.l0 (mg:=mg) (k:=7) n6 (@zT K C ⟨A_Levels,A_Keeper⟩ Pt1) λhr nd=>aF (AK (i:=3) n6.nd rfl (Or.inr rfl) (by w_up)) (aF (vG (i:=4) ["other"] (ys:=["side"]) [3] rfl n6.nd rfl rfl (by w_up) ⟨rfl,.inl rfl,rfl,trivial⟩ (λ_ _ _=>gj (show (["other","side"]:List bh).Nodup by decide +kernel)) (λ_ _ _=>jY (by w_up)) (λ_ _ _=>(pv 0))) (by w_up)));have uH:=uv.l7 l.prog w base (uv.F.l0 (mg:=mg) (k:=8) n9 (@zU K C ⟨A_Levels,A_Keeper⟩ Pt1) λhr nd=>aF (by w_up) (aF (by w_up) (aF (by w_up) (aF (by w_up) (aF (vv du (by w_up) (aF (by w_up) (aF (oH n9.nd (U0 (On (OG (Vr hr.units) (OG (Vr hr.units) (pv 4) (Xh U8 cH) (λ_ _=>rfl)) cH (λ_ _=>rfl))))) (b8 (Ft (i:=2) n9.nd rfl (Or.inl rfl) cH RH))))) (by w_up))))));have si:=r9.l7 l.prog w base (r9.F.l0 (mg:=mg) (k:=8) Bz (@yc K C ⟨A_Levels,A_Keeper⟩) λhr nd=>aF (sN (pv 0) cH AS) (by w_up));have Cc:=BZ.l7 l.prog w base (BZ.F.l0 (mg:=mg) (k:=9) KA (@Gd K C ⟨A_Levels,A_Keeper⟩ Pt1) λhr nd=>aF (by w_up) (aF (sN (pv 0) (by w_up) AS) (aF (by w_up) (aF (sN (pv 0) (by w_up) AS) (aF (sN (pv 0) (by w_up) AS) (by w_up))))));have wU:=wL.l7 l.prog w base (wL.F.l0 (mg:=mg) (k:=9) FX (@BK K C ⟨A_Levels,A_Keeper⟩) λhr nd=>b8 (gv (by w_up)));have wV:=wI.l7 l.prog w base (wI.F.l0 (k:=10) FU (@BS K C ⟨A_Levels,A_Keeper⟩ Pt2) λhr nd=>aF (by w_up) (by w_up));have zA:=zj.l7 l.prog w base (zj.F.l0 (k:=10) Iv (@Du K C ⟨A_Levels,A_Keeper⟩ Pt1) λhr nd=>aF (by w_up) (aF (kB (by w_up) (aF (nB (nC iN lS lT (Ap hr.units) (pv 2) (by w_up))) (by w_up)) (by w_up)) (by w_up)));exact Mw.F.l0 (k:=11) Qc (SE ct) λhr nd=>aF (by w_up) (aF (by w_up) (aF (by w_up) (aF (by w_up) (aF (oH Qc.nd (Fy i5.m i5.G hr.m rfl T.NA i5.b .nil qY (by w_up))) (aF (by w_up) (aF (by w_up) (aF (by w_up) (aF (by w_up) (aF (by w_up) (aF (qS du rfl (by w_up) (gj Qc.nd) (aF (by w_up) (aF (by w_up) (aF (by w_up) (b8 (kB (Oo (On (pv 7))) (by w_up) gp)))))) (by w_up)))))))))))
def walk {l:qx}{q:aY}{loose:List bh}{XP:(bh->Option ai)->cb->Prop}{YP:bH->cb->Prop}{d dy1 dy2:DefRec}{K:Params->aa}{c1 Pt1 c2 Pt2:af}(hn:l.most=some 63) (hdf:d.params.defaults=[])
  (hY:∀ (w:bH) (h:cb),YP w h->(K w.params).In h)
  (hrec1:(recsOf q).find? (λe=>e.name == ("in_order":bh))=some dy1) (htab1:∀ w:bH,Q9 (K w.params) "in_order"=some (c1,Pt1))
  (hrec2:(recsOf q).find? (λe=>e.name == ("_law_shape":bh))=some dy2) (htab2:∀ w:bH,Q9 (K w.params) "_law_shape"=some (c2,Pt2))
  (hnt:∀ w:bH,PySem.W.noTabs (K w.params)=true) (hne:Pt1≠Pt2)
  (F:∀ (w:bH) (mg:bh->Option ai) (fa:af) (h:cb),(K w.params).In h->h.Ns bR mg->mg d.name=some (.ref fa) ->
   ∃ fd:eI,(∀ (s:ak) (u:ai),GZ s fd ⟨[u],[]⟩ [("_law_script",u)])/\∀ base:cb,(K w.params).In base->base.Ns bR mg->ig base c1 Pt1->base.BuiltinsAt mg Pt1->ig base c2 Pt2->base.BuiltinsAt mg Pt2->lj l.prog w (K w.params) mg base HI 12 fa fd Mn (BU (K w.params) Pt1 Pt2)) :
  Q3 q loose XP YP l.row.toRowW d [] (λf vs=>Q4 f vs):=by
 have m1:(c1,Pt1)∈[(c1,Pt1),(c2,Pt2)]:=aw;have m2:(c2,Pt2)∈[(c1,Pt1),(c2,Pt2)]:=aj _ aw;refine L2.Pn (n:=63) (k:=12) (x:="_law_script") (Ps:=[(c1,Pt1),(c2,Pt2)]) (sp:=λw=>BU (K w.params) Pt1 Pt2) hn (by decide) hdf ⟨rfl,by decide,by decide⟩ hY (λp hp=>?_) hnt (λw mg fa h a b c=>?_) (λ_ _ a ns hl hT hS=>⟨a,ns,rfl,hS,hl,hne,.inl (hT _ m1),.inl (hT _ m2),λ_=>rfl⟩) λ_ _ _ _ z=>z
 ·rcases av.mp hp with e|hp
  ·subst e;exact ⟨_,dy1,hrec1,htab1⟩
  ·rw [aA.mp hp];exact ⟨_,dy2,hrec2,htab2⟩
 ·obtain ⟨fd,q1,q2⟩:=F w mg fa h a b c;exact ⟨fd,q1,λbase i1 i2 hP=>q2 base i1 i2 (hP _ m1).1 (hP _ m1).2 (hP _ m2).1 (hP _ m2).2⟩
end K37
end
end
local macro_rules | `(tactic| walk_at "b1")=>`(tactic| exact λ_ _ _ _ _ _ us hl=>match us,hl with|[_],_=>rfl)
local macro_rules | `(tactic| walk_at "b2")=>`(tactic| exact λ_ _ _ _ _ _ us hl=>match us,hl with|[_,_],_=>rfl)
local macro_rules | `(tactic| walk_at "b3")=>`(tactic| exact λ_ _ _ _ _ _ us hl=>match us,hl with|[_,_,_],_=>rfl)
local macro_rules | `(tactic| walk_at "b4")=>`(tactic| exact λ_ _ _ _ _ _ us hl=>match us,hl with|[_,_,_,_],_=>rfl)
local macro_rules | `(tactic| walk_at "b5")=>`(tactic| exact λ_ _ _ _ _ _ us hl=>match us,hl with|[_,_,_,_,_],_=>rfl)
structure PySem.W.Fast:Prop where(tw7255828072560699835 tw10058843108086337813 tw2057172646020398099 tw4697753447310786348 tw4791220213510265897 tw10655796760622255697 tw5506405310385023750 tw15438571074656517469 tw12938017743628353765 tw14139194127242958046 tw12170534535387264106 tw14336869756946958824 tw18035012511571076939 tw4258840112468394414 tw15482296043172941049 tw7371026026870646469 tw18212371960973690436 tw6582213652810188938 tw16420684103693300947 tw18298928657993266070 tw6993466596959172919 tw2510365430572658614 tw268309548601926416 tw11762953874064446374 tw15650233369374356096 tw16119937359976724456 tw1236336682393342798 tw3194617063402461778 tw13212657706276907648 tw8920675787580981416 tw14809447164702107791 tw1457265338729049857 tw10286281634616069439 tw8941990092097463270 tw1478311956451323006 tw6282458204999521125 tw958235145541785008 tw3047676816166492706 tw13751859833566563864 tw13743127721099062349 tw1702236504657758196 tw1393173616779414898 tw13802847295860661776 tw12644817918325829060 tw12327371003132654285 tw13183190482876276501 tw10020455811848962431 tw4796152166649040515 tw9546589799950740663 tw12143098778615377173 tw16206068110334157846 tw17150708037165272077 tw4966191704550453705 tw12820221332498324263 tw1337815261728882805 tw1630056796566985843 tw17125044986984688643 tw17450091456804644300 tw9032508820621653149 tw17823556422327210489 tw10167791177711933286 tw10993273915003249869 tw15414573127363473498 tw6168356028229199357 tw9889402134077122744 tw12911298405508671827 tw17804590752630945114 tw4031289761284056446 tw594425141865093280 tw4196196305247412990 tw16640645875196000212 tw7971361434210317401 tw11306452602364758379 tw12627383923005855778 tw4184992009253287265 tw2988186730103909927 tw10597949760836741413 tw4846370145711698033 tw670209024534807644 tw936075731708410744 tw12269572438251018821 tw8021737339089836871 tw6154756763995737808 tw1182264795129571789 tw5986367539156596740 tw16096010971328810066 tw7288143528122215639 tw11866166386090499725 tw275642299857669686 tw15631994685709609544 tw16856786158272674112 tw9739611228720638632 tw18177987390191150547 tw4760979782887361645 tw17062602005437594844 tw678193602738322665 tw1841777338237067320 tw4681763683649484569 tw38904057551029544 tw10704228730420579763 tw11679875969984091573 tw16308771266389627965 tw9207276122369171037 tw12151539795746072768 tw1511448649198609640 tw6493499448898228310 tw14654119716396365096 tw8661459946390280385 tw7757108501150743851 tw15093121043193368951 tw3428201490051343710 tw7527664309093985969 tw3149148012082588542 tw11584693801323206487 tw6253709519498442136 tw3867890781011963288 tw7581643303415221162 tw2597223771620592773 tw525759309833492681 tw6915433959538498808 tw4334264120482195275 tw15885718344859329942 tw2853768674051625158 tw3472042754897454690 tw4535243374837678166 tw8804812426598921597 tw12146675777714823600 tw15071036596343828639 tw3378993849209261236 tw8397754798320499894 tw5575068227934891145 tw10963363436426596320 tw7149170707394972456 tw6082799545557742380 tw11769202783989663714 tw11134872755247511376 tw13169848357783768538 tw5573840470450067645 tw7729884057024326534 tw17463998426985183948 tw13706749706434281641 tw17711444493031909258 tw8227295189197943612 tw10079525249435512525 tw2843297747954620641 tw3156978556547541649 tw11217344079079587306 tw17006643349463336323 tw14738019816367812104 tw4991408338747033796 tw5889826568885738690 tw13703511238330508412 tw10203413706136893934 tw3230662336170216306 tw5782345712768103357 tw10009752409355813709 tw15252628286604409360 tw12268208486789256959 tw18178064436506620600 tw13824544691669760218 tw15340638717192962168 tw17216648843573007606 tw15318337285047428781 tw11742980698584336460 tw6214241475546027384 tw17976103061154645052 tw3631532621975108405 tw11484460851016668603 tw1655670262076266478 tw16304716859353970592 tw12298662202347329475 tw15109867819486401710 tw4551031038222646839 tw2154462304667083529 tw13211494318717270917 tw6263422138209096971 tw910352087808449521 tw14890798184363402634 tw4811917528898422722 tw1148731992971733694 tw9844042396042343724 tw12046706066703342341 tw4562571467269930989 tw17465370364396273732 tw15917477161746658244 tw9983310289737029449 tw3692884901080948602 tw10019152403589721733 tw13027605287963755965 tw2210577201153621950 tw16570006650635554987 tw16581022040057384035 tw5778942950471685757 tw14065414479228118393 tw18287392681443282923 tw13299093986496888805 tw18371895741592261095 tw7139476599442392761 tw6942236508544289454 tw9054222436634739992 tw2610871514021620090 tw15122816841776778659 tw7911419723012598221 tw16471035100166254274 tw12762217195862800683 tw4846593636275330755 tw12225796668434313210 tw5664559026633565030 tw2007201734297706542 tw3608867148275881877 tw1825478207440206993 tw16581662307653266256 tw15627656649900505431 tw10879063021929242987 tw960934229523582004 tw13055428218348884351 tw503919497091395311 tw3923421009584318738 tw7841124106361710831 tw13153281492280568652 tw17542960733200297180 tw9454618536971836395 tw3844666767967815224 tw6502297789989793802 tw642027705483060420 tw9966651792809686263 tw17778618058312582025 tw7651680577528791075 tw4856883146357911835 tw11227894465013148911 tw3639749856327194423 tw14141406234711934966 tw10077731164203015110 tw17860376303204456697 tw2778929481239296573 tw1033360074005615462 tw2103700058423840777 tw10480442557057527826 tw6620436790787545498 tw6786277406267035189 tw12466084174672569238 tw4639660202398653091 tw8384721673402323495 tw12023009992333165860 tw6780672685654210299 tw5979425169056605619 tw4728961883762791075 tw5929855725399912487 tw1461504374019524203 tw10785501272036155041 tw5916687125696471657 tw18276854262744214219 tw16195337384946019015 tw11467124281603013984 tw14449486776175190443 tw11328347470442986285 tw4461402561440481727 tw14645901413434201315 tw11444969684992080238 tw3914702600026021428 tw10631333389300312166 tw3852249593253796018 tw13013168765111398900 tw16036806248593435490 tw13246273947994856996 tw4319303880026385860 tw14603337681389970177 tw11008361727643593151 tw9532754576835991996 tw6825410288183188010 tw14180618191022080989 tw11791809563042736450 tw2455230707660689655 tw17278658269140518877 tw984306723745254009 tw3581078800248961718 tw16507478473662095829 tw315619299839778774 tw12304843573080707915 tw15955641964800821806 tw12619074056045374867 tw14036706020607301730 tw15712387144557991686 tw2041391566444044846 tw12734155778479107699 tw8417206604390259848 tw5466939497288217178 tw901494786640906049 tw4413140773162269330 tw11870284167554184045 tw59591137879026899 tw12819222810825075092 tw1131010630100242629 tw4364564881959475323 tw9324679538099968387 tw3457645957610858679 tw4897512292551134374 tw9090855344724512392 tw14240777379203799351 tw18398873914958677348 tw17886358572312503951 tw7716336735353774851 tw5223403546221519363 tw11100446899482105160 tw12943878568177151800 tw14615302763546849490 tw18126998224518061116 tw12190088954591621146 tw572086961319957783 tw13694232163710147259 tw12322004826096841671 tw10612551697036299726 tw5879322584056081560 tw17118076090720745652 tw10989350212461173662 tw11373918854180913136 tw17932547807022378863 tw10237655589773190171 tw9365008097040232371 tw17441507938582416252 tw5655258913014035945 tw8370028259943012118 tw10814423424433306818 tw7857046247315060675 tw7416427309381877174 tw14694549132816799788 tw3940227875917539144 tw12577532000213661882 tw2308398614373697064 tw759761859463447168 tw16889071781865372439 tw2761410227314016523 tw8482153874110962173 tw6982562778095799276 tw9212748200134037583 tw5701523502605111911 tw12923954425775842867 tw11419833120938992939 tw7526767953639857353 tw3875592464997932823 tw4523124863901072292 tw6579313202178878339 tw11447025774446798240 tw2721510986898687049 tw13120313903676388453 tw6211584884438535765 tw2064751764262697009 tw16700564544908635548 tw9896879066684948257 tw5994502165076068853 tw5009036418996521468 tw11045061635078649440 tw7751874046555849156 tw10210287469604040661 tw14946015360327798505 tw7938371161244691806 tw15278072022780349884 tw1767273435482384093 tw12454888255456952523 tw6818588586818157549 tw6233099171724108733 tw5412272802398005180 tw10241712700740746837 tw4890997607840604925 tw4174851663854028538 tw10190766895939909474 tw4062781565419314756 tw5868353228200999543 tw18349229811446142373 tw5122593002208204387 tw18230398931722689974 tw14625847689018757030 tw17950275354600657473 tw2541202593497540019 tw925842145412794050 tw11443623799012124227 tw8047207401379395252 tw8165779745953915259 tw4232479367710109964 tw10870941621132331414 tw14632812709199565770 tw7154400652889499760 tw2592756955275489611 tw3006792928502931808 tw12271497724713961597 tw4147210265819557515 tw1664499882690181186 tw3419968904649296092 tw2477226764808792053 tw8161846981738611258 tw7941350376358985368 tw101502519169998193 tw4512622150520146569 tw6621050870957864703 tw10110663335119591232 tw5522264666880641941 tw12744065028365764254 tw8928627147835195397 tw16293524846757276884 tw15208073468663977939 tw7553680171345327918 tw5918871182391437373 tw11925489685715458000 tw13086414233587053373 tw14572817773226766132 tw2117564660693579923 tw4570111603414037170 tw18267637607075180343 tw10395024238926399977 tw14881379477457708099 tw5832657946829950474 tw507824379150277906 tw2016089619465477912 tw10530505796756782453 tw16208580259988710402 tw15313456857445774470 tw1963575209135923254 tw1056663192044517106 tw8813150937056511490 tw17191116439874805365 tw11352541729498360954 tw4428537123207541296 tw3842849199457586820 tw4991049174670121613 tw11333669027134464283 tw6905726157516385733 tw9032219646272466281 tw5622628602083056734 tw9045286470037993334 tw6846515689360865998 tw2495887087747799512 tw5980604674692507389 tw153717518118416718 tw2929227229081798049 tw15305750691113686591 tw5297027649335851522 tw6543137446623247378 tw15645633426796479418 tw1318435645304594560 tw7986603995493082051 tw15907293214616100746 tw13837761108613125031 tw6967089328621347220 tw12803726067823707904 tw10674634951303539083 tw7559525625673115342 tw2916457348590069967 tw13303990161751680668 tw5550044161472910782 tw17011407503086606163 tw3759672962782726245 tw18279227442551442577 tw118204435056590902 tw6272916254596042899 tw8110496252697536175 tw16441324762413203502 tw17533574436686145875 tw14673202959022541291 tw2161575177680158667 tw6192608961800519416 tw12743339530023841245 tw14778944508267345155 tw1489518194534971339 tw17814211188512525788 tw4758226397822927957 tw8212055761110528518 tw5113209733438248434 tw14923628348689476135 tw15983308207622365750 tw10576415559615987626 tw2071050897558905428 tw10035332361309952774 tw3802191351347948491 tw4173016570131721252 tw16234859680100980948 tw12292312704438740732 tw7461771753732242619 tw5060596859740253109 tw2472450136650067754 tw15921504675308724994 tw15575436099516041887 tw3323836717273539866 tw5774920832892539870 tw16317116609104947786 tw8439919670589962178 tw15610330803564254730 tw15652206478760375563 tw9110309537379160188 tw5408919054549619960 tw14424945411837741083 tw11138386523308861037 tw16597598012925187961 tw4432613042069369463 tw3233098569773142134 tw3037535293767176921 tw2244138006811120233 tw13155974121148532361 tw15833906504276529414 tw10357979739874433207 tw8657239031388692031 tw3959786711601122039 tw10143033252168943150 tw8884722687453210200 tw5896873894209629426 tw13233165121176573410 tw2269524820296387384 tw12786212532385346611 tw12226561381511731410 tw11119599342237950168 tw17547355679261308209 tw15236976385311243993 tw16161401388446403545 tw11919327369600969694 tw7999452009142981642 tw399595518089141228 tw5295830225800225709 tw13876942431664414146 tw651648008338359184 tw14606363348205135257 tw11056374322716768807 tw11227623144476452924 tw4077637781328058407 tw12957045998147967802 tw5782455042347772484 tw4087952989267772786 tw1033107531007617273 tw3414645049598525358 tw168797471817651471 tw16722807775883471962 tw17394280929102333876 tw9528167571182442914 tw5096698305528488891:True)
open PySem PySem.W PyProof.Rows
set_option maxRecDepth 100000 in
set_option maxHeartbeats 0 in
theorem PySem.Challenge.cw_tiewood_k37_whole_halves_holds : PySem.Challenge.rw_tiewood_k37_whole_halves.Holds := by
  w_on;o_law;k_head;(case hw=>w_witness2)
  k_fill
  refine' K37.walk (l:=PySem.Challenge.rw_tiewood_k37_whole_halves) rfl rfl (λw h Y=>PySem.W.km_in_of Y) ?hrec1 ?htab1 ?hrec2 ?htab2 ?hnt ?hne ?F
  case hrec1=>exact rfl
  case htab1=>intro w;exact rfl
  case hrec2=>exact rfl
  case htab2=>intro w;exact rfl
  case hnt=>intro w;exact rfl
  case hne=>decide
  case F =>
    intro w mg fa h KX G hmg;refine' K37.Wh KX G hmg ?Gj ?Gk ?Gm ?Gn ?Gp ?Gq ?Gr ?sD ?l6 ?yf ?yg ?yh ?yi ?yj ?yk ?ym ?ic ?gL ?i6 ?jA ?yn ?yo ?yp ?yq ?yr ?yt ?yu ?j7 ?i8 ?i7 ?j9 ?nc ?jz ?j8 (L2.tm KX G ?KY ?KZ ?B8 ?K0 (by walk_at "b1")) (L2.tm KX G ?K1 ?K2 ?B9 ?K3 (by walk_at "b1")) (L2.tm KX G ?K4 ?K5 ?Ca ?K6 (by walk_at "b2")) (L2.tm KX G ?Yt ?Yu ?Us ?Yv (by walk_at "b1")) (L2.tm KX G ?QC ?QD ?IS ?QE (by walk_at "b2")) (L2.tm KX G ?QF ?QG ?IU ?QH (by walk_at "b2")) (L2.tm KX G ?SF ?SG ?Mx ?SH (by walk_at "b1")) (L2.tm KX G ?SI ?SJ ?My ?SK (by walk_at "b1")) (L2.tm KX G ?Dx ?Dy ?uw ?Dz (by walk_at "b1")) (L2.tm KX G ?QI ?QJ ?IT ?QK (by walk_at "b2")) (L2.tm KX G ?Nr ?Nt ?E9 ?Nu (by walk_at "b4")) (L2.tm KX G ?QL ?QM ?IV ?QN (by walk_at "b3")) (L2.tm KX G ?wW ?wX ?nT ?wY (by walk_at "b2")) (L2.tm KX G ?vc ?vd ?m9 ?ve (by walk_at "b3")) (L2.tm KX G ?yw ?yz ?pq ?yA (by walk_at "b3")) (L2.tm KX G ?K7 ?K8 ?u9 ?K9 (by walk_at "b2")) (L2.tm KX G ?DA ?DB ?ux ?DC (by walk_at "b2")) (L2.tm KX G ?Nv ?Nw ?Fb ?Ny (by walk_at "b4")) (L2.tm KX G ?Cd ?Ce ?sf ?Cg (by walk_at "b4")) (L2.tm KX G ?Ci ?Cj ?sd ?Ck (by walk_at "b2")) (L2.tm KX G ?Gv ?Gw ?wM ?Gx (by walk_at "b1")) (L2.tm KX G ?Gy ?Gz ?wO ?GA (by walk_at "b2")) (L2.tm KX G ?IW ?IX ?zr ?IY (by walk_at "b4")) (L2.tm KX G ?IZ ?I0 ?zt ?Ja (by walk_at "b2")) (L2.tm KX G ?GB ?GC ?mB ?GD (by walk_at "b2")) (L2.tm KX G ?GE ?GF ?wQ ?GG (by walk_at "b2")) (L2.tm KX G ?GH ?GI ?wV ?GJ (by walk_at "b3")) (L2.tm KX G ?DD ?DE ?uC ?DF (by walk_at "b2")) (L2.tm KX G ?DG ?DH ?uz ?DI (by walk_at "b2")) (L2.tm KX G ?DJ ?DK ?uA ?DL (by walk_at "b3")) (L2.tm KX G ?Cm ?Co ?se ?Cp (by walk_at "b2")) (L2.tm KX G ?Jb ?Jc ?zA ?Jd (by walk_at "b5")) (L2.tm KX G ?Yw ?Yx ?Yy ?Yz (by walk_at "b1")) (L2.CN ?zY ?zZ ?z4 ?i4 ?z6 (by walk_at "b2")) (L2.CN ?Je ?Jg ?Ji ?zu ?Jj (by walk_at "b2")) (L2.CN ?Jk ?Jl ?Jm ?zy ?Jp (by walk_at "b3")) (L2.CN ?La ?Lb ?Lc ?Cb ?Ld (by walk_at "b3")) (L2.CN ?DM ?DN ?DO ?uD ?DP (by walk_at "b3")) (L2.CN ?GK ?GL ?GM ?qa ?GN (by walk_at "b2")) (L2.CN ?Jq ?Jr ?Js ?zx ?Jt (by walk_at "b2")) (L2.CN ?wZ ?w6 ?w8 ?ib ?xa (by walk_at "b2")) (L2.CN ?GO ?GP ?GQ ?wR ?GR (by walk_at "b3")) (L2.CN ?Cq ?Cr ?Cs ?sg ?Cu (by walk_at "b2")) (L2.CN ?DQ ?DR ?DS ?uE ?DT (by walk_at "b2")) (L2.CN ?DU ?DV ?DW ?uF ?DX (by walk_at "b2")) (L2.CN ?xc ?xf ?xg ?nS ?xh (by walk_at "b3")) (L2.CN ?DY ?DZ ?D0 ?uB ?D5 (by walk_at "b2")) (L2.CN ?sj ?sk ?sr ?lZ ?sA (by walk_at "b3")) (L2.CN ?D6 ?D7 ?D8 ?uG ?D9 (by walk_at "b3")) (L2.CN ?Ea ?Eb ?Ec ?uH ?Ee (by walk_at "b2")) (L2.CN ?z7 ?z8 ?z9 ?i5 ?Aa (by walk_at "b2")) (L2.CN ?Cv ?Cw ?Cy ?si ?Cz (by walk_at "b3")) (L2.CN ?Le ?Lg ?Lh ?Cc ?Li (by walk_at "b3")) (L2.CN ?Ju ?Jw ?Jx ?zw ?Jy (by walk_at "b1")) (L2.CN ?GS ?GT ?GU ?wU ?GV (by walk_at "b3")) ?u7 ?pY ?KU ?Qu ?pZ ?Qv ?KW ?Qw ?Qx ?Gs ?Qy ?B7 ?Qz ?Gu ?QB ?og
    case Gj|Gk|Gm|Gn|Gp|Gq|Gr|sD|l6|yf|yg|yh|yi|yj|yk|ym|ic|gL|i6|jA|yn|yo|yp|yq|yr|yt|yu|j7|i8|i7|j9|nc|jz|j8|KY|KZ|B8|K0|K1|K2|B9|K3|K4|K5|Ca|K6|Yt|Yu|Us|Yv|QC|QD|IS|QE|QF|QG|IU|QH|SF|SG|Mx|SH|SI|SJ|My|SK|Dx|Dy|uw|Dz|QI|QJ|IT|QK|Nr|Nt|E9|Nu|QL|QM|IV|QN|wW|wX|nT|wY|vc|vd|m9|ve|yw|yz|pq|yA|K7|K8|u9|K9|DA|DB|ux|DC|Nv|Nw|Fb|Ny|Cd|Ce|sf|Cg|Ci|Cj|sd|Ck|Gv|Gw|wM|Gx|Gy|Gz|wO|GA|IW|IX|zr|IY|IZ|I0|zt|Ja|GB|GC|mB|GD|GE|GF|wQ|GG|GH|GI|wV|GJ|DD|DE|uC|DF|DG|DH|uz|DI|DJ|DK|uA|DL|Cm|Co|se|Cp|Jb|Jc|zA|Jd|Yw|Yx|Yy|Yz|zY|zZ|z4|i4|z6|Je|Jg|Ji|zu|Jj|Jk|Jl|Jm|zy|Jp|La|Lb|Lc|Cb|Ld|DM|DN|DO|uD|DP|GK|GL|GM|qa|GN|Jq|Jr|Js|zx|Jt|wZ|w6|w8|ib|xa|GO|GP|GQ|wR|GR|Cq|Cr|Cs|sg|Cu|DQ|DR|DS|uE|DT|DU|DV|DW|uF|DX|xc|xf|xg|nS|xh|DY|DZ|D0|uB|D5|sj|sk|sr|lZ|sA|D6|D7|D8|uG|D9|Ea|Eb|Ec|uH|Ee|z7|z8|z9|i5|Aa|Cv|Cw|Cy|si|Cz|Le|Lg|Lh|Cc|Li|Ju|Jw|Jx|zw|Jy|GS|GT|GU|wU|GV=>k_is
    case u7|pY=>exact rfl
    case KU|Qu|pZ|Qv|KW|Qw|Qx|Gs|Qy|B7|Qz|Gu|QB|og=>k_is
