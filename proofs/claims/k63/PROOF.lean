import PyProof.Rows.All
import Wide.All
import OpenK.AllK
import Wide.FinOn
import Lean
import PyProof.EqAt
import PyProof.EqKinds
import PyProof.TupleCall
import KE.KMinKey
import KE.KLam
import PyProof.Rows.CallKwBuiltin
import PyProof.Rows.Range3
import PyProof.Rows.SeqMore2
import PyProof.SeqI3
import KE.KSortTup
import PyProof.ZipIter
import KE.KItemsList
import KE.KDictList
import KE.KRevIter
import PyProof.Rows.SetFrom
import PyProof.EnumMake
import PyProof.EnumStmt
import PyProof.EnumFor
import KE.KTryMore
import KE.KTryOn
import KE.KSortKey
import PyProof.ListRange
import PyProof.Rows.SumAny
import KE.KSortTup
import PySem.Challenge.RW_tiewood_k63_whole_the_account
set_option Elab.async false
set_option linter.all false
set_option maxRecDepth 100000
set_option maxHeartbeats 0
open PySem renaming wpAny_bind->aa,Addr->af,Value->aj,wpAny_pure->ak,Shared->ax,wpAny->aH,model->aL,sizeLine->aW,Program->bA,Str->bB,starEach->bE,mainGlobals->bF,World->cg,wpAny_holding->cq,rawInt->cw,Heap->cK,Around->cL,wpAny_call_entry->cO,wpAny_newObj_type->cP,wpAny_callSpecial?_slot->c6,bootBuiltins->dh,compareOp->dk,wpAny_mono->dr,Stmt->dF,wpAny_Call_Name_kw->eC,eval->fo,FuncData->fN,backTo->gM,Builtin->ij,cLine->ip,wpAny_attempt->iq,wpAny_askSetting->iA,Obj->iF,codeAny_builtin->iW,wpAny_truthy_bool->i4,wpAny_setState_of->i5,pyNext->jh,wpAny_rule->jo,wpAny_setField->jx,wpAny_typeNameOfWhole_keyiter->jJ,sysModules->jR,holding->jS,tupleKind_room_in1->jU,wpAny_passesOwn->jY,wpAny_ite_split->jZ,behindInMarks->j4,plainId_quiet->j6,wpAny_dictEntries->ky,mem_of_lookup->kE,wpAny_loadName_local->kQ,wpAny_field->kR,tupleKind->ll,codeAny->lp,codeAny_mono->lu,wpAny_setEntries_of->lO,wpAny_typeNameOf_keyiter->ml,SetTable->mn,NameKind->nK,intKind->nM,wpAny_fieldsOf->nQ,firstArgMember->nR,builtinLookup_eq_fast->oC,assignEach->oH,wpAny_isInstance->oJ,wpAny_newList->pe,sizeLine_eq->pJ,sliceBounds->pK,wpAny_execs_nil->qp,wpAny_updateSeq->qr,Arguments->rJ,Scope->rQ,wpAny_Name->rS,binaryOp->rT,recursionLimit->rW,Pos->ue,standAt->uz,foldedSetIterable->uA,keywordEach->uB,wpAny_standAt->uV,attributeBase->uX,IsPair->u6,Operator->wH,relayAll->wJ,scanBound->wK,Env->yJ,wpAny_nextOf_list_item->yO,letOwnedTupleGo->yT,typeLookup_type->yU,bindArgs->Bt,ZipApart->Bu,wpAny_newTuple->Bw,isSubtype_stop->Bx,layNew->Bz,swapsWith->BO,inplaceOp->BP,getMethod->BQ,pickOrder->BU,seqItems?->BV,wpAny_Tuple_spliced->Eu,rule->FT,setsByText->FW,getItem->IV,BindsTo->IW,backToKw->IX,wpAny_typeOf->IY,valueAt->IZ,atKey->I0,callerA->Ja,wpAny_pyIter_list->Jb,wpAny_pyIter_slot->Je,fits_of_scanBound->Jg,assign->Lq,IsPart->Ls,updateSeq->Lx,frameOf->LB,Sem->LF,seqIndex_of->LI,Fin->LK,wpAny_letGo->LL,wpAny_of_eq->LM,Within->Nl,wpAny_AugAssign_SubscriptAny->Nm,wpAny_specialOf->Np,wpAny_dictEpoch->Nq,setNext->OB,pyIter->PF,wpAny_load->PH,wpAny_call->PJ,setField->PR,isSubtype_type->PV,slotArgs->PX,setEntries->PY,quietNames->P0,checkCount->Qa,call->TV,wpAny_handled->TY,bindL->Ug,bindC->Uh,Tok->VH,setItem->VI,Result->VL,Keyword->VM,wpAny_getItem_list_neg->VO,newExc->VP,collect->VU,entryPlaceOf->VV,wpAny_isTrue_Compare1->W6,wpAny_nextOf_list_end->W9,wpAny_notOrdered_dict->Xb,wpAny_isOneOf_keyiter->Xc,callWith->YU,wpAny_newFunctionEnv->YV,wpAny_pyIter_keyiter->YW,wpAny_throw->YY,excClassObj->Y4,intItems->Y6,wpAny_loadName_cell->Zk,wpAny_loadName_free->Zm
open PySem.W renaming Frag->ae,findIn->bG,nsIn->bX,mg_none_of->cG,keepIn->eL,kia_one->eQ,emptyDict->fq,exmOne->hJ,CodeHd->ik,instObj->il,fnOf->iz,mg_of->iH,plainGet->iS,hasDictIn->jz,hideAll_get->kj,makesIn->kM,plainOver->lK,kitOne->lL,codeIn->oI,OpenLaw->rK,isFn->rV,hideAll->rY,lookIn->uW,plainGet_of->wI,callWith_K->yL,kla_obj->yN,methodObj->z6,takerIn->Et,nsMap_none_of_in->Jj,kat_cons->Jk,kat_yes->Jl,cellsFrom_some->Lr,tabObj->Lu,methodCall_KW->LH,of_hideAll->PD,isNs_of_in->P8,kitx_list->Qn,kitx_dict->Qo,handedIn->TR,WalkO->TU,tabIn->T7,InstAt->VJ,nsOkIn->VW
open List renaming length_map->ag,mem_cons_of_mem->ai,mem_cons->aq,mem_cons_self->aw,mem_singleton->ay,getElem?_eq_getElem->aA,getElem?_map->aB,getElem?_eq_some_iff->aC,size_toArray->aI,mem_of_getElem?->aN,mem_append->aQ,map_cons->aV,nodup_cons->a7,map_append->a9,length_append->bb,mem_map_of_mem->bg,mem_map->bq,mem_iff_getElem?->bC,length_cons->bI,length_take->bM,mem_append_right->bO,take_of_length_le->cf,map_map->cz,lookup_cons->cI,lookup->cR,getLast?_append->cU,length_drop->cY,not_mem_nil->c8,append_assoc->du,length_filter_le->dM,getElem?_eq_none->dN,mem_append_left->dU,getElem?_append_right->dW,mem_filter->dX,take_add_one->eN,take_append_drop->eS,filter_append->ff,count_eq_zero->fg,length->fh,getElem?_append_left->fO,drop_eq_getElem_cons->fQ,perm_append_comm->fR,eq_nil_or_concat->fS,concat_eq_append->fT,idxOf_lt_length_iff->gf,sum_cons->gh,pairwise_append->gA,count_append->gG,nodup_append->gH,range->gK,pairwise_iff_getElem->iE,pairwise_map->iK,filter_eq_self->i7,getElem_mem->i9,zip_cons_cons->jw,map_take->jI,mem_of_mem_head?->jK,replicate->j5,count_cons_self->j7,filter_cons->kx,map_congr_left->kN,filter_sublist->kO,length_nil->lz,find?_cons->lA,mem_filterMap->lD,getElem?_take->lE,append_of_mem->lF,getLast?_cons->lG,getElem?_cons_zero->lN,mem_range->mF,getElem?_set_self->mG,drop_of_length_le->mH,length_replicate->nc,eq_nil_of_length_eq_zero->nX,append_nil->oB,filter_map->oE,nodup_nil->pM,getElem?_drop->pN,map_singleton->pO,getElem?_zip_eq_some->qx,ext_getElem?->qU,length_range->qV,pairwise_singleton->rZ,take_length->r9,length_pos_of_mem->uG,append_eq_nil_iff->uH,append_inj_right'->uI,of_mem_zip->uY,forIn_cons->uZ,length_zip->u7,count_cons->vc,getElem?_zipWith->vW,getElem?_set_ne->wO,filterMap_cons->yS,map_drop->z9,getElem_idxOf->AY,count_pos_iff->AZ,map_nil->BS,reverse_perm->BW,perm_middle->EE,drop_zero->Jr,forIn_nil->Js,nodup_iff_pairwise_ne->Ju,mem_of_find?_eq_some->Ly,any_cons->LJ,length_erase_of_mem->LP,getElem?_replicate->Nn,getElem?_cons_succ->Nr,eraseIdx_cons_succ->Nt,pairwise_lt_range->Oz,length_singleton->PN,countP_mono_left->PQ,getElem?_toArray->PZ,singleton_append->Qb,length_eraseIdx->Qt,mem_iff_getElem->Qu,mem_of_mem_take->Qv,nodup_iff_count->Qw,drop_eq_nil_iff->Qx,length_pos_iff->T8,find?_eq_none->Uk,take_sublist->VN,drop_sublist->V1,all_eq_true->W7,countP_cons->W8,map_snd_zip->Xe,cons_append->Xg,take_append->Xh,any_eq_true->Xi,mem_flatMap->Xk,find?_some->YX,head?_cons->Za,idxOf_cons->Zb,sum_append->Zc,take_succ->Zp,drop_drop->Zq
open PySem.Heap renaming get?_push_of_some->ar,lt_size->aJ,get?_push_size->aK,get?_update_other->bp,get?_update_self->bP,SameBut->gY,size_push->i8,size_update->r0,get?_none_of_le->Qm,ExtBut->Qs
open Nat renaming le_refl->au,zero_le->aO,ne_of_lt->aZ,lt_of_lt_of_le->bj,le_trans->br,lt_of_le_of_lt->bw,ne_of_gt->fe,lt_irrefl->fA,le_add_right->hZ,lt_succ_self->ji,le_succ->jv,le_of_eq->kD,le_of_lt->mY,le_of_not_lt->nO,mul_le_mul_right->oA,lt_succ_of_lt->rL,succ_le_succ->ug,min_eq_left->vV,pow_le_pow_right->yQ,add_le_add_left->z8,min_eq_right->FU,lt_trans->PP,zero_add->P9,add_comm->Qc,pow_succ->Qd,le_zero->T9,le_succ_of_le->Xa,min_le_left->Zo
open PySem.Value renaming ref->aD,none->dC,type->fc,int->fz,bool->pH,str->rR,float->PB,isStrOf->Zj
open Array renaming length_toList->aM,getElem?_eq_getElem->b9,getElem?_eq_some_iff->cB,getElem?_toList->dJ,perm_iff_toList_perm->fu,toList_append->gO,getElem?_eq_none->gX,size_push->iC,toList_inj->km,toList_map->nj,reverse_append->nV,append_assoc->pI,size_append->qy,toList_push->By,toList_zip->Ew,getElem?_reverse->Nu,reverse_reverse->OC,forIn_toList->TX,getD->TZ
open PyProof.Rows renaming wpS_bind->aP,Keyed->aT,wpS_pure->a8,seqObj->b8,pendingOf->cS,SortSt->dG,callWith_type1->eP,IntsAre->eW,wpS_forRange->fP,slot_tuple_getitem->hU,wpS_modify->iI,failedOf->i6,SortKind->jy,envOfC->lM,listUpdate_at->mj,get?_update_seq->mJ,elem'->m6,arrOf->nT,wpS_mono->nU,IsTup->qw,wpS_get->qW,AllBare->ux,minRun'->uF,reverseSlice'_eq->wL,callWith_builtin1->wQ,wpS->wU,subscriptTail_builtinR->yM,entry_list_sort->yW,slot_list_sort->BA,reverseSlice'->EF,listItems_at->Jd,wpS_lift->Jm,plain_sorted->Jo,entry_sorted->Jp,seqEpoch_at->LN,kind_sorted->LO,iadd_int->Ow,Subscript_->PK,Constant_none->TQ,lt_int->Ue,tuples'->VX,minRun'_succ->VY,call_function_entry_kw->V0,mirror_size->Y7,binarySort'->Y8,mergeAt'->Y9,getElem?_mirror_all->Zr,wpAny_call_entry_kw->Zu
open Option.some renaming inj->aU,injEq->f9
open PyProof.Rows.SortSt renaming mk'->aX
open Option renaming map_eq_some_iff->bo,map->yV,isSome_map->AX,map_some->EB,bind_eq_some_iff->Lz,bind_eq_bind->PU,isNone_some->Qr,getD_none->Ui,getD_some->Uj,pure_def->VS
open Bool renaming false_ne_true->bD,false_eq_true->bY,and_eq_true->hV,eq_iff_iff->iG
open PySem.NameKind renaming free->bL,cell->gN
open PySem.Obj renaming mapSeq->bQ,data_mapFields->di,mapFields->iT,isFreed_of_fields->jV,cls_mapFields->rM,putSet->u9,data_mapDictKeys->yP,isFreed_of_dict->Ul
open Prod.mk renaming inj->cJ,injEq->wV
open PySem.F renaming plainAttrs_list->cZ,plain_extend_loop->dY,slot_list_append->fY,type_list_append->fZ,slot_list_index->gv,type_list_index->kT,plainAttrs_dict->kU,slot_dict_pop->mK,type_dict_pop->mL,slot_dict_getitem->GX,args_list_index_2->GZ,entry_extend_loop->G0,entry_list_index->Jc
open Int renaming le_trans->de,le_of_lt->gm,toNat_natCast->gL,pow_succ->mZ,zero_add->m5,le_refl->oz,not_lt->qu,emod_lt_of_pos->BB,natCast_add->Jq,add_zero->Qe,mul_add->Ua,emod_eq_of_lt->Xj,emod_nonneg->Zv
open PySem.Heap.SameBut renaming update->df
open False renaming elim->dD
open PySem.SetTable renaming below->dE,grown->iQ,has->Jt,orStandIn->OA,relaid->T3,fresh->Um,slot->VQ,laid->VR,fits->VT
open PySem.PyData renaming eqv->dH,depthAll->fD,canLayAll0->iB,depth->lU,eqvAll->ni,canLay0->GY,int->Qp
open Sum renaming inl->eh,inr->Es
open PySem.PassesOwn renaming never->eO
open PySem.Str renaming ofString->fB,empty->Ox
open PySem.Builtin.SmallTypes renaming ownedTupleIsFree->fX,nextOf->jl
open PySem.Around renaming under_plainId->gg,under->LG
open PySem.Builtin.List renaming listExtendWith->gC,listUpdate->iD,listLengthHint->jm,listSameRef->jW,listItems->ED
open PySem.Calls renaming spliced_cons->hW,spliced_nil->mi,call_function_entry->qt,Name_function_global->IU,evalArgs_plain->PL
open True renaming intro->iP
open PySem.SeqAt.EqAt renaming int_int->iV
open ForInStep renaming yield->jk
open PySem.Builtin.Slice renaming slicePlaces->jA,sliceAdjust->nN,sliceApplied->z7
open PySem.Builtin.Tuple renaming tupleExact->jT
open List.Perm renaming cons->lB,append_left->lV,refl->uf
open List.cons renaming inj->mI,injEq->Qq
open PySem.SetTable.below renaming go->nS
open List.Pairwise renaming nil->nW
open PySem.Builtin.Dict_items renaming ownsTuple->uC
open PySem.SetTable.probe renaming go->uD
open PySem.EntryCells renaming newEntry->uE
open List.Sublist renaming map->wR
open PySem.Paired renaming length->yK
open Prod renaming ext->BR
open PySem.Builtin.Dict renaming showsAll->FV
open PySem.pickOrder renaming go->Ji
open PySem.readyFrames renaming eq_def->LA
open Sum.inl renaming inj->Nk
open PySem.Code renaming isFrame->Oy
open PyProof.Rows.IntsAre renaming int_at->Uo
open PySem.Heap.Ns renaming of_isNs->Uq
open StateT renaming run_pure->VZ
open PySem.SetTable.Met.empty renaming injEq->Xd
open PySem.Builtin.Frozenset renaming newClass->YZ,updateFrom->Y0,slot0->Y1,addrOf->Y2,sizeOf->Y3
open PySem.W.KatTups renaming cons->Y5
section
open PySem PySem.Spec PyProof.Rows
namespace L2
variable {s s':ax}{pos p pos' tpos apos:ue}{x m qual name:bB}{A:cL}{pins:List (af×iF)}{u v:aj}{a C b dx f L it:af}{h h' g base:cK}{K:ae}{e tg c:Expr}{w:cg}{E Q:aj->ax->Prop}{P prog:bA}{us:List aj}{k t' i n:Nat}{es:List Expr}{o:iF}{op:CmpOp}{M:Model}{pl:LF Bool}{ps N:List bB}{kindOf:bB->Option nK}{ch fp:List af}{body:List dF}{mA mg:bB->Option aj}{kw:List (bB×aj)}{fd:fN}{g':Array GenState}{d':Drawn}{lo j:Int}{outer:List yJ}{scope:rQ}
abbrev iL:=Sum Int bB
def BX:iL->aj->Bool
 | .inl k,v=>Value.isInt k v
 | .inr x,v=>Zj x v
def keyH (w:cg):iL->Int
 | .inl k=>hashInt k
 | .inr x=>hashStr w x
theorem gI:∀ {k:iL}{v:aj},BX k v=true->(∃ i t,k=eh i/\v=fz i t)\/(∃ x t,k=Es x/\v=rR x t)
 | .inl i,v,h=>by
  obtain ⟨t,e⟩:=Value.isInt_shape (k:=i) (v:=v) h
  exact .inl ⟨i,t,rfl,e⟩
 | .inr x,v,h=>by
  obtain ⟨t,e⟩:=Value.isStrOf_shape (x:=x) (v:=v) h;exact .inr ⟨x,t,rfl,e⟩
def OD (i:Int) (t:VH):BX (.inl i) (.int i t)=true:=by simp [BX,Value.isInt]
def OE (x:bB) (t:VH):BX (.inr x) (.str x t)=true:=by simp [BX,Zj]
def Xl (a b:Int):decide ((eh a:iL)=eh b)=(a == b):=by
 by_cases e:a=b
 .subst e;simp
 .have h:¬ (eh a:iL)=eh b:=λq=>e (Nk q);rw [decide_eq_false h];exact (beq_eq_false_iff_ne.mpr e).symm
def Xm (a b:bB):decide ((Es a:iL)=Es b)=decide (a=b):=by
 by_cases e:a=b
 .subst e;simp
 .have h:¬ (Es a:iL)=Es b:=λq=>e (Sum.inr.inj q);rw [decide_eq_false h,decide_eq_false e]
def Xn (a:Int) (b:bB):decide ((eh a:iL)=Es b)=false:=decide_eq_false (λq=>nomatch q)
def Xo (a:bB) (b:Int):decide ((Es a:iL)=eh b)=false:=decide_eq_false (λq=>nomatch q)
def fv (prog:bA) (w:cg):PySem.KeyKind prog w iL where
 is:=BX
 hash:=keyH w
 inj:=λv a b ha hb=>by
  rcases gI ha with ⟨i,t,rfl,rfl⟩|⟨x,t,rfl,rfl⟩
  .rcases gI hb with ⟨j,u,rfl,e⟩|⟨y,u,rfl,e⟩
   .injection e with e1 _;rw [e1]
   .exact nomatch e
  .rcases gI hb with ⟨j,u,rfl,e⟩|⟨y,u,rfl,e⟩
   .exact nomatch e
   .injection e with e1 _;rw [e1]
 byValue:=λk v h=>by
  rcases gI h with ⟨i,t,rfl,rfl⟩|⟨x,t,rfl,rfl⟩<;>rfl
 pyHash:=λhv h=>by
  rcases gI hv with ⟨i,t,rfl,rfl⟩|⟨x,t,rfl,rfl⟩
  .exact wpAny_pyHash_int h
  .exact wpAny_pyHash_str h
 eqBool:=λhu hv h=>by
  rcases gI hu with ⟨i,t,rfl,rfl⟩|⟨x,t,rfl,rfl⟩
  .rcases gI hv with ⟨j,u,rfl,rfl⟩|⟨y,u,rfl,rfl⟩
   .rw [Xl] at h;exact wpAny_eqBool_int h
   .rw [Xn] at h;exact SeqAt.EqAt.int_str i t y u _ _ _ _ h
  .rcases gI hv with ⟨j,u,rfl,rfl⟩|⟨y,u,rfl,rfl⟩
   .rw [Xo] at h;exact SeqAt.EqAt.str_int x t j u _ _ _ _ h
   .rw [Xm] at h;exact wpAny_eqBool_str h
 «strs»:=λk x t v h=>by
  rcases gI h with ⟨i,u,rfl,e⟩|⟨y,u,rfl,e⟩
  .exact nomatch e
  .injection e with e1 _
   subst e1;cases v<;>rfl
def Jw (prog:bA) (w:cg) (i:Int) (t:VH):(fv prog w).is (.inl i) (.int i t)=true:=OD i t
def Jx (prog:bA) (w:cg) (x:bB) (t:VH):(fv prog w).is (.inr x) (.str x t)=true:=OE x t
inductive V where
 | non|bl (b:Bool)|int (i:Int)|str (x:bB)|byt (b:Array UInt8)|flt (b:UInt64)|ref (a:af)|ty (n:String)
 deriving DecidableEq
def RelV:V->aj->Prop
 | .non,u=>u=dC
 | .bl b,u=>u=pH b
 | .int i,u=>∃ t,u=fz i t
 | .str x,u=>∃ t,u=rR x t
 | .byt b,u=>∃ t,u=Value.bytes b t
 | .flt b,u=>∃ t,u=PB b t
 | .ref a,u=>u=aD a
 | .ty n,u=>u=fc n
abbrev Vals:List V->List aj->Prop:=Paired RelV
def Vals.length {xs:List V}(r:Vals xs us):xs.length=us.length:=yK r
theorem Vals.get:∀ {xs:List V}{us:List aj}{i:Nat}{x:V},Vals xs us->xs[i]?=some x->∃ u,us[i]?=some u/\RelV x u
 | _,_,_,_,.nil,e=>by simp at e
 | _,_,0,_,.cons r _,e=>by simp at e;subst e;exact ⟨_,rfl,r⟩
 | _,_,i+1,x,.cons _ t,e=>by
  obtain ⟨u,h1,h2⟩:=Vals.get (i:=i) (x:=x) t (by simpa using e);exact ⟨u,by simpa using h1,h2⟩
theorem Vals.set {x:V}(r:RelV x u):∀ {xs:List V}{us:List aj}(i:Nat),Vals xs us->Vals (xs.set i x) (us.set i u)
 | _,_,_,.nil=>.nil
 | _,_,0,.cons _ t=>.cons r t
 | _,_,i+1,.cons q t=>.cons q (Vals.set r i t)
theorem Vals.append:∀ {xs ys:List V}{us ws:List aj},Vals xs us->Vals ys ws->Vals (xs++ys) (us++ws)
 | _,_,_,_,.nil,s=>s
 | _,_,_,_,.cons r t,s=>.cons r (Vals.append t s)
theorem Vals.take:∀ {xs:List V}{us:List aj}(n:Nat),Vals xs us->Vals (xs.take n) (us.take n)
 | _,_,0,_=>.nil
 | _,_,_+1,.nil=>.nil
 | _,_,n+1,.cons r t=>.cons r (Vals.take n t)
theorem Vals.drop:∀ {xs:List V}{us:List aj}(n:Nat),Vals xs us->Vals (xs.drop n) (us.drop n)
 | _,_,0,r=>r
 | _,_,_+1,.nil=>.nil
 | _,_,n+1,.cons _ t=>Vals.drop n t
def t9:Option V->Option aj->Prop
 | some v,some u=>RelV v u
 | none,none=>True
 | _,_=>False
def KV {κ:Type}:List (κ×V)->List (κ×aj)->Prop:=Paired λ(p:κ×V) (q:κ×aj)=>p.1=q.1/\RelV p.2 q.2
def kV:iL->V
 | .inl i=>.int i
 | .inr x=>.str x
inductive HO where
  | lst (xs:List V)
  | tup (xs:List V)
  | dK (kvs:List (iL×V))|dT (kvs:List (List iL×V))
  | set (S:Int->Bool) (n:Nat)
  | ins (C dx:af) (fs:List (bB×V))
  | own (x:af)
  | xd (fs:List (bB×V))
  | met (f x:af)
  | rng (lo hi:Int)
  | frz (o:iF) (u:HO)
  | tbl (ps:Array aj)
  | ext (φ:cK->Prop)
abbrev Hp:=af->Option HO
def upd (H:Hp) (a:af) (o:HO):Hp:=λb=>if b=a then some o else H b
def aF {H:Hp}{o:HO}:upd H a o a=some o:=by unfold upd;rw [if_pos rfl]
def aG {H:Hp}{o:HO}(h:b≠a):upd H a o b=H b:=by unfold upd;rw [if_neg h]
def gJ {H:Hp}{o u:HO}(h:H a=some o) (h':H b=some u) (d:o≠u:=by intro z;cases z):a≠b:=by
 intro e;subst e;rw [h] at h';exact d (aU h')
def aR {H:Hp}{o:HO}(h:H a=some o) (h':H b=none):a≠b:=by
 intro e;subst e;rw [h] at h';cases h'
section
variable (P:bA) (w:cg)
def eU (H:Hp) (h:cK) (a:af):HO->Prop
 | .lst xs=>xs.length<=aW/\∃ (its:List aj) (n:Nat),Vals xs its/\h.get? a=some { cls:=.type "list",data:=.seq its.toArray n }
 | .tup xs=>xs.length<=aW/\∃ its:List aj,Vals xs its/\qw h a its.toArray
 | .dK kvs=>kvs.length<=aW/\(a == jR)=false/\∃ vs,KV kvs vs/\h.DictOf (fv P w) a vs
 | .dT kvs=>kvs.length<=aW/\(a == jR)=false/\∃ xs:List (List iL×af×aj),
   Paired (λ(p:List iL×V) (q:List iL×af×aj)=>p.1=q.1/\H q.2.1=some (.tup (p.1.map kV))/\RelV p.2 q.2.2) kvs xs /\
   ∃ o es ep,h.get? a=some o/\o.ExactDict/\o.data=.dict es ep/\es.toList=xs.map (entryOfKey (ll (fv P w)))/\(xs.map (·.1)).Nodup
 | .set S n=>h.SetOf (nM P w) a S n
 | .ins C dx fs=>H dx=some (.own a)/\fs.length<=1000/\dx≠a/\h.get? a=some (il C dx) /\
   ∃ mA,h.Ns1 dx mA/\(∀ f,t9 (fs.lookup f) (mA f))/\Nl mA (fs.map (·.1))
 | .own _=>∃ o,h.get? a=some o
 | .xd fs=>∃ mA,h.Ns1 a mA/\∀ f,t9 (fs.lookup f) (mA f)
 | .rng lo hi=>∃ t u v,h.get? a=some { cls:=.type "range",data:=.fields #[.int lo t,.int hi u,.int 1 v] }
 | .frz o u=>h.get? a=some o/\eU H h a u
 | .tbl ps=>h.get? a=some { cls:=.none,data:=.fields ps }
 | .met f x=>h.get? a=some (z6 (.ref f) (.ref x))
 | .ext φ=>φ h/\(∃ o,h.get? a=some o)/\∀ h1 h2:cK,φ h1->(∀ o,h1.get? a=some o->h2.get? a=some o)->φ h2
def rH (H:Hp) (h:cK):Prop:=∀ a o,H a=some o->eU P w H h a o
end
section
variable {H H':Hp}{o:HO}
def eU.lt (x:eU P w H h a o):a<h.objs.size:=by
 cases o with
 | lst xs=>obtain ⟨_,_,_,_,e⟩:=x;exact aJ e
 | tup xs=>obtain ⟨_,_,_,p⟩:=x;exact p.lt
 | dK kvs=>obtain ⟨_,_,_,_,o,_,_,e,_⟩:=x;exact aJ e
 | dT kvs=>obtain ⟨_,_,_,_,o,_,_,e,_⟩:=x;exact aJ e
 | set S n=>obtain ⟨o,_,_,_,e,_⟩:=x;exact aJ e
 | ins C dx fs=>obtain ⟨_,_,_,e,_⟩:=x;exact aJ e
 | own y=>obtain ⟨_,e⟩:=x;exact aJ e
 | xd fs=>obtain ⟨_,⟨_,_,_,e,_⟩,_⟩:=x;exact aJ e
 | rng lo hi=>obtain ⟨_,_,_,e⟩:=x;exact aJ e
 | frz ob u=>obtain ⟨e,_⟩:=x;exact aJ e
 | tbl ps=>exact aJ (show h.get? a=some _ from x)
 | met f y=>exact aJ (show h.get? a=some _ from x)
 | ext φ=>obtain ⟨_,⟨_,e⟩,_⟩:=x;exact aJ e
theorem Paired.Py {α β:Type} {F G:α->β->Prop}:∀ {l₁:List α} {l₂:List β},Paired F l₁ l₂->(∀ a b,F a b->G a b)->Paired G l₁ l₂
 | _,_,.nil,_=>.nil
 | _,_,.cons r t,f=>.cons (f _ _ r) (Paired.Py t f)
def eU.uT (x:eU P w H h a o) (k:∀ b u,(b=a\/H b=some (.own a))->h.get? b=some u->h'.get? b=some u)
  (ho:∀ b,H b=some (.own a)->H' b=some (.own a)) (ht:∀ b xs,H b=some (.tup xs)->H' b=some (.tup xs)):eU P w H' h' a o:=by
 induction o with
 | lst xs=>obtain ⟨z,its,n,r,e⟩:=x;exact ⟨z,its,n,r,k _ _ (.inl rfl) e⟩
 | tup xs=>obtain ⟨z,its,r,ob,e,c⟩:=x;exact ⟨z,its,r,ob,k _ _ (.inl rfl) e,c⟩
 | dK kvs=>obtain ⟨z,y,vs,r,ob,es,ep,e,c⟩:=x;exact ⟨z,y,vs,r,ob,es,ep,k _ _ (.inl rfl) e,c⟩
 | dT kvs =>
  obtain ⟨z,y,xs,r,ob,es,ep,e,c⟩:=x
  exact ⟨z,y,xs,Paired.Py r λp q z=>⟨z.1,ht _ _ z.2.1,z.2.2⟩,ob,es,ep,k _ _ (.inl rfl) e,c⟩
 | set S n=>obtain ⟨ob,es,ep,t,e,c⟩:=x;exact ⟨ob,es,ep,t,k _ _ (.inl rfl) e,c⟩
 | ins C dx fs =>
  obtain ⟨d,z,ne,e,mA,⟨od,es,ep,e2,c⟩,r⟩:=x
  exact ⟨ho _ d,z,ne,k _ _ (.inl rfl) e,mA,⟨od,es,ep,k _ _ (.inr d) e2,c⟩,r⟩
 | own y=>obtain ⟨ob,e⟩:=x;exact ⟨ob,k _ _ (.inl rfl) e⟩
 | xd fs=>obtain ⟨mA,⟨od,es,ep,e,c⟩,r⟩:=x;exact ⟨mA,⟨od,es,ep,k _ _ (.inl rfl) e,c⟩,r⟩
 | rng lo hi=>obtain ⟨t,u,v,e⟩:=x;exact ⟨t,u,v,k _ _ (.inl rfl) e⟩
 | frz ob u ih=>obtain ⟨e,q⟩:=x;exact ⟨k _ _ (.inl rfl) e,ih q⟩
 | tbl ps =>
  have e:h.get? a=some { cls:=.none,data:=.fields ps }:=x
  show h'.get? a=some { cls:=.none,data:=.fields ps }
  exact k a _ (.inl rfl) e
 | met f y =>
  have e:h.get? a=some (z6 (.ref f) (.ref y)):=x
  show h'.get? a=some (z6 (.ref f) (.ref y))
  exact k a _ (.inl rfl) e
 | ext φ=>obtain ⟨p,⟨o,e⟩,st⟩:=x;exact ⟨st _ _ p λo q=>k _ _ (.inl rfl) q,⟨o,k _ _ (.inl rfl) e⟩,st⟩
def rH.lt (x:rH P w H h) (e:H a=some o):a<h.objs.size:=(x a o e).lt
def rH.fresh (x:rH P w H h) (e:h.objs.size<=a):H a=none:=by
 cases q:H a with
 | none=>rfl
 | some u=>exact absurd (bj (x.lt q) e) (fA _)
def rH.kept (x:rH P w H h) (k:∀ b u,h.get? b=some u->h'.get? b=some u):rH P w H h':=λa o e =>
 (x a o e).uT (λb u _ q=>k b u q) (λ_ q=>q) λ_ _ q=>q
def rH.laid (x:rH P w H h) (k:∀ b u,h.get? b=some u->h'.get? b=some u) (hp:h.objs.size<=a) (new:eU P w (upd H a o) h' a o):rH P w (upd H a o) h':=λb u e=>by
 have hn:=x.fresh hp
 by_cases hb:b=a
 .subst hb;rw [aF] at e;cases e;exact new
 .rw [aG hb] at e
  exact (x b u e).uT (λc v _ q=>k c v q) (λc q=>by rw [aG (aR q hn)];exact q) λc xs q=>by rw [aG (aR q hn)];exact q
end
def Rd (H:Hp) (a:af) (u:HO):Prop:=H a=some u\/∃ o,H a=some (.frz o u)
def Rd.ok {H:Hp}{u:HO}(r:Rd H a u) (x:rH P w H h):eU P w H h a u:=by
 rcases r with r|⟨o,r⟩
 .exact x a u r
 .obtain ⟨_,q⟩:=x a _ r;exact q
def Zw:Option HO->Prop
 | some (.lst _)=>True
 | some (.dK _)=>True
 | some (.dT _)=>True
 | some (.set _ _)=>True
 | some (.ins _ _ _)=>True
 | some (.ext _)=>True
 | _=>False
section
variable {H:Hp}{x e:af}{o':HO}
def rH.write (ok:rH P w H h) (mu:Zw (H x)) (he:e=x\/H e=some (.own x)) (k:∀ b u,b≠e->h.get? b=some u->h'.get? b=some u) (heo:∃ u,h'.get? e=some u)
  (new:eU P w (upd H x o') h' x o'):rH P w (upd H x o') h':=λb u q=>by
 have nown:∀ c y,H c=some (.own y)->c≠x:=λc y r z=>by subst z;rw [r] at mu;exact mu
 have ntup:∀ c xs,H c=some (.tup xs)->c≠x:=λc xs r z=>by subst z;rw [r] at mu;exact mu
 by_cases hb:b=x
 .subst hb;rw [aF] at q;cases q;exact new
 .rw [aG hb] at q
  by_cases hbe:b=e
  .have q':H b=some (.own x):=by
    rcases he with z|z
    .exact absurd (hbe.trans z) hb
    .rw [hbe];exact z
   rw [q] at q';cases q';obtain ⟨v,hv⟩:=heo;exact ⟨v,by rw [hbe];exact hv⟩
  .refine (ok b u q).uT (λc v hc r=>k c v ?_ r) (λc r=>by rw [aG (nown c b r)];exact r) λc xs r=>by rw [aG (ntup c xs r)];exact r
   rcases hc with rfl|hc
   .exact hbe
   .rintro rfl
    rcases he with z|z
    .exact nown c b hc z
    .rw [hc] at z;cases z;exact hb rfl
end
structure Un (fs ex:List af) (H H':Hp) (h h':cK):Prop where
 keep:∀ b o,h.get? b=some o->H b=none->b∉fs->b∉ex->h'.get? b=some o
 slot:∀ b o,h.get? b=some o->H b=none->b∈fs->b∉ex->∃ sl,h'.get? b=some { o with slots:=sl }
 free:∀ b o,h.get? b=some o->H b=none->b∉ex->H' b=none
 there:∀ b o,h.get? b=some o->b∉ex->∃ o',h'.get? b=some o'
 wD:∀ b xs,H b=some (.tup xs)->H' b=some (.tup xs)
 uS:∀ b o u,H b=some (.frz o u)->H' b=some (.frz o u)
 uU:∀ b ps,H b=some (.tbl ps)->∃ more,H' b=some (.tbl (ps++more))
section
variable {fs fs' ex ex':List af}{H H1 H2:Hp}{h1 h2:cK}{x e:af}{o:HO}
def Un.any (u:Un fs ex H H1 h h1) {b:af}{ob:iF}(q:h.get? b=some ob) (n:H b=none) (hx:b∉ex):∃ sl,h1.get? b=some { ob with slots:=sl }:=by
 by_cases hb:b∈fs
 .exact u.slot b ob q n hb hx
 .exact ⟨ob.slots,u.keep b ob q n hb hx⟩
def Un.kept (k:∀ b u,h.get? b=some u->h'.get? b=some u):Un fs ex H H h h' :=
 ⟨λb ob q _ _ _=>k b ob q,λb ob q _ _ _=>⟨ob.slots,k b ob q⟩,λ_ _ _ n _=>n,λb ob q _=>⟨ob,k b ob q⟩,λ_ _ q=>q,λ_ _ _ q=>q,λ_ ps q=>⟨#[],by rw [q];simp⟩⟩
def Un.refl:Un fs ex H H h h:=Un.kept λ_ _ q=>q
def Un.laid (k:∀ b u,h.get? b=some u->h'.get? b=some u) (hp:h.objs.size<=a) (hn:H a=none):Un fs ex H (upd H a o) h h' where
 keep:=λb u q _ _ _=>k b u q
 slot:=λb u q _ _ _=>⟨u.slots,k b u q⟩
 free:=λb u q n _=>by rw [aG (aZ (bj (aJ q) hp))];exact n
 there:=λb u q _=>⟨u,k b u q⟩
 wD:=λb xs q=>by rw [aG (aR q hn)];exact q
 uS:=λb u xs q=>by rw [aG (aR q hn)];exact q
 uU:=λb ps q=>⟨#[],by rw [aG (aR q hn),q];simp⟩
def Un.write (mu:Zw (H x)) (he:e=x\/H e=some (.own x)) (k:∀ b u,b≠e->h.get? b=some u->h'.get? b=some u) (heo:∃ u,h'.get? e=some u):Un fs ex H (upd H x o) h h':=by
 have hx:∀ b,H b=none->b≠x:=λb n z=>by subst z;rw [n] at mu;exact mu
 have hb:∀ b,H b=none->b≠e:=λb n z=>by
  subst z
  rcases he with r|r
  .exact hx b n r
  .rw [n] at r;cases r
 have hm:∀ b u,H b=some u->¬ Zw (some u)->b≠x:=λb u q nm z=>by subst z;rw [q] at mu;exact nm mu
 refine ⟨λb u q n _ _=>k b u (hb b n) q,λb u q n _ _=>⟨u.slots,k b u (hb b n) q⟩,λb u q n _=>by rw [aG (hx b n)];exact n,λb u q _=>?_,
  λb xs q=>by rw [aG (hm b _ q λz=>z)];exact q,λb u xs q=>by rw [aG (hm b _ q λz=>z)];exact q,λb ps q=>⟨#[],by rw [aG (hm b _ q λz=>z),q];simp⟩⟩
 by_cases hbe:b=e
 .subst hbe;exact heo
 .exact ⟨u,k b u hbe q⟩
end
def V2 (h:cK) (H:Hp):List af:=(gK h.objs.size).filter λa=>(H a).isSome
def BY (h:cK) (H:Hp):cK:=rY h (V2 h H)
def OF (h:cK) (H:Hp):(BY h H).objs.size=h.objs.size:=PySem.W.hideAll_size _ _
def Qy {H:Hp}(e:h.get? b=some o) (n:H b=none):(BY h H).get? b=some o :=
 kj _ e λhm=>by
  have q:(H b).isSome=true:=(dX.mp hm).2;rw [n] at q;simp at q
def Ur {H:Hp}(e:(BY h H).get? b=some o):h.get? b=some o/\H b=none:=by
 have e':h.get? b=some o:=PD (V2 h H) e;refine ⟨e',?_⟩
 cases q:H b with
 | none=>rfl
 | some x =>
  have hm:b∈V2 h H:=dX.mpr ⟨mF.mpr (aJ e'),by simp [q]⟩;have z:(BY h H).get? b=none:=PySem.W.hideAll_none (V2 h H) hm;rw [z] at e;cases e
def uh (g h:cK) (L:af):List (af×iF):=(gK h.objs.size).filterMap λa=>if a=L\/(g.get? a).isSome=true then none else (h.get? a).map λo=>(a,o)
def Aa (h1:a≠L) (h2:g.get? a=none) (h3:h.get? a=some o):(a,o)∈uh g h L :=
 lD.mpr ⟨a,mF.mpr (aJ h3),by simp [h1,h2,h3]⟩
def BZ {p:af×iF}(hp:p∈uh g h L):p.1≠L/\g.get? p.1=none/\h.get? p.1=some p.2:=by
 obtain ⟨b,_,e⟩:=lD.mp hp
 split at e
 .cases e
 .rename_i hn
  cases q:h.get? b with
  | none=>rw [q] at e;simp at e
  | some u =>
   rw [q] at e;simp only [EB,f9] at e;subst e;refine ⟨λz=>hn (.inl z),?_,q⟩
   show g.get? b=none
   cases r:g.get? b with
   | none=>rfl
   | some v=>exact (hn (.inr (by simp [r]))).elim
def Qz:News g L h (uh g h L):=λp hp=>let ⟨a,b,c⟩:=BZ hp;⟨c,a,b⟩
structure Mod (K:ae) (mg:bB->Option aj) (base:cK):Prop where
 Zi:K.In base
 glob:base.Ns bF mg
 blt:∃ mb,base.Ns builtinsNs mb/\∀ x:bB,x≠"__name__"->mb x=dh x
 nolimit:base.NoLimit
structure Cx where
 prog:bA
 w:cg
 K:ae
 mg:bB->Option aj
 base:cK
 A:cL
 N:List bB
 s₀:ax
 H₀:Hp
 env:yJ
 outer:List yJ
 stack:List yJ
 ex:List af
 fn:bB->Bool
 calm:Bool
 pn:List (af×iF)
 xe:aj->ax->Prop
def vT (l:List yJ):List af:=l.filterMap (·.frame)
abbrev Cx.fs (X:Cx):List af:=vT X.outer
def Vis (sc:rQ) (x:bB):Prop:=sc.names.lookup x=some .local\/sc.names.lookup x=some .cell\/sc.names.lookup x=some .free
def Loc (sc:rQ) (x:bB):Prop:=sc.names.lookup x=some .local\/sc.names.lookup x=some .cell
def Look (env:yJ) (h:cK) (m:bB->Option aj) (x:bB) (u:aj):Prop :=
 (env.kindOf x=some .local/\m x=some u)\/((env.kindOf x=some .cell\/env.kindOf x=some .free)/\∃ c,env.cells.lookup x=some c/\h.IsCell c (some u))
structure Cx.Ok (X:Cx):Prop where
 mod:Mod X.K X.mg X.base
 kind:X.env.scope.kind=.function
 glob:X.env.globals=bF
 blt:X.env.builtins=builtinsNs
 above:X.s₀.heap.objs.size<=X.env.locals
 inj:∀ x y c,X.env.cells.lookup x=some c->X.env.cells.lookup y=some c->x=y
 has:∀ x,(X.env.kindOf x=some .cell\/X.env.kindOf x=some .free)->∃ c,X.env.cells.lookup x=some c
 VC:∀ x c,X.fn x=true->X.env.cells.lookup x=some c->X.s₀.heap.objs.size<=c
 hd:X.calm=true->X.A.handled=none
 frames:X.A.frames=some X.stack
 WX:X.stack=X.outer\/(X.stack=X.env::X.outer/\X.env.frame=some X.env.locals)
 YR:∀ b∈X.ex,b≠X.env.locals/\∀ x c,X.env.cells.lookup x=some c->c≠b
 bs:∀ b o,X.base.get? b=some o->X.s₀.heap.get? b=some o/\X.H₀ b=none
 Nh:X.base.objs.size<=X.s₀.heap.objs.size
 IR:∀ b o,X.base.get? b=some o->b∉X.ex
 IS:∀ b∈X.ex,b∉X.fs
 rO:X.s₀.heap.FunFrames X.base X.outer
 Ou:∀ b∈X.fs,X.H₀ b=none
structure Inv (X:Cx) (pins:List (af×iF)) (Z:List (Option V)) (H:Hp) (s:ax):Prop where
 ok:X.Ok
 os:s.os=X.s₀.os
 bare:ux s.gens
 base:Un X.fs X.ex X.H₀ H X.s₀.heap s.heap
 loc:∃ m,s.heap.Ns X.env.locals m/\∀ (i:Nat) (x:bB) (v:V),X.N[i]?=some x->Z[i]?=some (some v)->Vis X.env.scope x->∃ u,RelV v u/\Look X.env s.heap m x u
 cell:∀ x c,X.env.cells.lookup x=some c->∃ v,s.heap.IsCell c v
 free:H X.env.locals=none
 ow:∀ x c,X.env.cells.lookup x=some c->H c=none
 pin:∀ p∈X.pn++pins,s.heap.get? p.1=some p.2/\H p.1=none/\p.1≠X.env.locals/\p.1∉X.fs/\∀ v,p.2.data≠.cell v
 eJ:rH X.prog X.w H s.heap
 len:Z.length=X.N.length
section
variable {X:Cx}{Z:List (Option V)}{H H':Hp}
def Cx.Ok.nofr (ok:X.Ok) {b:af}{o:iF}(e:X.base.get? b=some o):b∉X.fs:=λhb=>by
 have:=(ok.rO.mem hb).1;rw [e] at this;cases this
def Inv.bs (I:Inv X pins Z H s):∀ b o,X.base.get? b=some o->s.heap.get? b=some o/\H b=none:=λb o e =>
 ⟨I.base.keep b o (I.ok.bs b o e).1 (I.ok.bs b o e).2 (I.ok.nofr e) (I.ok.IR b o e),I.base.free b o (I.ok.bs b o e).1 (I.ok.bs b o e).2 (I.ok.IR b o e)⟩
def Inv.bk (I:Inv X pins Z H s):∀ b o,X.base.get? b=some o->s.heap.get? b=some o:=λb o e=>(I.bs b o e).1
def Inv.mod (I:Inv X pins Z H s):Mod X.K X.mg X.base:=I.ok.mod
def Inv.AW (I:Inv X pins Z H s):X.K.In s.heap:=I.ok.mod.Zi.keeps I.bk
def Inv.fr (I:Inv X pins Z H s):∃ m,Fr X.base X.env.locals s.heap m :=
 let ⟨m,hn,_⟩:=I.loc
 ⟨m,hn,I.bk,br I.ok.Nh I.ok.above⟩
def Inv.lt (I:Inv X pins Z H s):X.env.locals<s.heap.objs.size:=let ⟨_,hn,_⟩:=I.loc;hn.lt
def Inv.sz (I:Inv X pins Z H s):X.s₀.heap.objs.size<=s.heap.objs.size:=br I.ok.above (mY I.lt)
def Inv.nofs (I:Inv X pins Z H s) {a:af}(h:s.heap.objs.size<=a):a∉X.fs:=λhb=>by
 obtain ⟨_,o,ho,_⟩:=I.ok.rO.mem hb;exact absurd (bj (aJ ho) (br I.sz h)) (fA _)
def Inv.YH (I:Inv X pins Z H s):∀ x c,X.env.cells.lookup x=some c->c≠X.env.locals:=λx c e z=>by
 obtain ⟨v,o,ho,hd⟩:=I.cell x c e;obtain ⟨m,⟨o',es,ep,ho',hd',_⟩,_⟩:=I.loc;rw [z,ho'] at ho;cases ho;rw [hd'] at hd;cases hd
def Inv.rO (I:Inv X pins Z H s):s.heap.FunFrames X.base X.outer:=by
 have all:∀ (l:List yJ),(∀ b∈vT l,b∈X.fs)->X.s₀.heap.FunFrames X.base l->s.heap.FunFrames X.base l:=by
  intro l
  induction l with
  | nil=>intro _ _;trivial
  | cons env r ih =>
   intro hs hl;obtain ⟨hk,⟨L,o,hf,hn,ho,hd⟩,hr⟩:=hl;have hL:L∈X.fs:=hs L (by unfold vT;rw [yS,hf];exact aw);obtain ⟨sl,e⟩:=I.base.slot L o ho (I.ok.Ou L hL) hL λz=>I.ok.IS L z hL;exact ⟨hk,⟨L,_,hf,hn,e,hd⟩,ih (λb hb=>hs b (by unfold vT;rw [yS,hf];exact ai _ hb)) hr⟩
 exact all X.outer (λ_ hb=>hb) I.ok.rO
def Inv.stack (I:Inv X pins Z H s):s.heap.FunFrames X.base X.stack:=by
 rcases I.ok.WX with e|⟨e,hf⟩
 .rw [e];exact I.rO
 .rw [e];obtain ⟨m,hn,_⟩:=I.loc;refine .cons (by rw [I.ok.kind];decide) hf hn ?_ I.rO;exact Qm (br I.ok.Nh I.ok.above)
def Inv.Nb (I:Inv X pins Z H s):∀ b∈vT X.stack,b∈X.env.locals::X.fs:=λb hb=>by
 rcases I.ok.WX with e|⟨e,hf⟩
 .rw [e] at hb;exact ai _ hb
 .rw [e] at hb;unfold vT at hb;rw [yS,hf] at hb;exact hb
def Inv.BM (I:Inv X pins Z H s):∀ b∈vT X.stack,H b=none:=λb hb=>by
 rcases aq.mp (I.Nb b hb) with e|hb
 .rw [e];exact I.free
 .obtain ⟨_,o,ho,_⟩:=I.ok.rO.mem hb;exact I.base.free b o ho (I.ok.Ou b hb) λz=>I.ok.IS b z hb
theorem Inv.step (I:Inv X pins Z H s)
  (hch:∀ b∈ch,(b∈X.ex\/X.s₀.heap.objs.size<=b)/\b≠X.env.locals/\(∀ x c,X.env.cells.lookup x=some c->c≠b)/\∀ p∈X.pn++pins,p.1≠b)
  (keep:∀ b o,b≠X.env.locals->b∉X.fs->b∉ch->s.heap.get? b=some o->H b=none->h'.get? b=some o)
  (slot:∀ b o,b≠X.env.locals->b∈X.fs->b∉ch->s.heap.get? b=some o->H b=none->∃ sl,h'.get? b=some { o with slots:=sl }) (free:∀ b o,b∉ch->s.heap.get? b=some o->H b=none->H' b=none)
  (there:∀ b o,b∉ch->s.heap.get? b=some o->∃ o',h'.get? b=some o')
  (wD:∀ b xs,H b=some (.tup xs)->H' b=some (.tup xs)) (uS:∀ b o u,H b=some (.frz o u)->H' b=some (.frz o u)) (uU:∀ b ps,H b=some (.tbl ps)->∃ more,H' b=some (.tbl (ps++more)))
  (ns:∀ m,s.heap.Ns X.env.locals m->h'.Ns X.env.locals m) (eJ:rH X.prog X.w H' h') (hg:ux g') :
  Inv X pins Z H' { s with heap:=h',gens:=g',drawn:=d',toks:=t' }:=by
 have neL:∀ b o,X.s₀.heap.get? b=some o->b≠X.env.locals:=λb o e=>aZ (bj (aJ e) I.ok.above)
 have neC:∀ b o,X.s₀.heap.get? b=some o->b∉X.ex->b∉ch:=λb o e hx hb=>by
  rcases (hch b hb).1 with z|z
  .exact hx z
  .exact absurd (bj (aJ e) z) (fA _)
 have cellK:∀ x c,X.env.cells.lookup x=some c->∀ v,s.heap.IsCell c v->h'.IsCell c v:=λx c e v ⟨o,ho,hd⟩=>by
  have nch:c∉ch:=λz=>(hch c z).2.2.1 x c e rfl
  by_cases hc:c∈X.fs
  .obtain ⟨sl,q⟩:=slot c o (I.YH x c e) hc nch ho (I.ow x c e);exact ⟨_,q,hd⟩
  .exact ⟨o,keep c o (I.YH x c e) hc nch ho (I.ow x c e),hd⟩
 refine ⟨I.ok,I.os,hg,⟨λb o e n hb hx=>?_,λb o e n hb hx=>?_,λb o e n hx=>?_,λb o e hx=>?_,λb xs e=>wD b xs (I.base.wD b xs e),λb o xs e=>uS b o xs (I.base.uS b o xs e),λb ps e=>?_⟩,?_,λx c e=>?_,?_,λx c e=>?_,λp hp=>?_,eJ,I.len⟩
 .exact keep b o (neL b o e) hb (neC b o e hx) (I.base.keep b o e n hb hx) (I.base.free b o e n hx)
 .obtain ⟨sl,e1⟩:=I.base.slot b o e n hb hx;obtain ⟨sl',e2⟩:=slot b _ (neL b o e) hb (neC b o e hx) e1 (I.base.free b o e n hx);exact ⟨sl',e2⟩
 .obtain ⟨o',e1⟩:=I.base.there b o e hx;exact free b o' (neC b o e hx) e1 (I.base.free b o e n hx)
 .obtain ⟨o',e1⟩:=I.base.there b o e hx;exact there b o' (neC b o e hx) e1
 .obtain ⟨m1,e1⟩:=I.base.uU b ps e;obtain ⟨m2,e2⟩:=uU b _ e1;exact ⟨m1++m2,by rw [e2,pI]⟩
 .obtain ⟨m,hn,hl⟩:=I.loc;refine ⟨m,ns m hn,λi x v e1 e2 e3=>?_⟩;obtain ⟨u,r,l⟩:=hl i x v e1 e2 e3;refine ⟨u,r,?_⟩
  rcases l with l|⟨k,c,e,z⟩
  .exact .inl l
  .exact .inr ⟨k,c,e,cellK x c e _ z⟩
 .obtain ⟨v,z⟩:=I.cell x c e;exact ⟨v,cellK x c e v z⟩
 .obtain ⟨m,⟨o,_,_,ho,_⟩,_⟩:=I.loc;exact free _ o (λz=>(hch _ z).2.1 rfl) ho I.free
 .obtain ⟨v,o,ho,hd⟩:=I.cell x c e;exact free c o (λz=>(hch c z).2.2.1 x c e rfl) ho (I.ow x c e)
 .obtain ⟨e,n,ne,nf,d⟩:=I.pin p hp;have nch:p.1∉ch:=λz=>(hch p.1 z).2.2.2 p hp rfl;exact ⟨keep p.1 p.2 ne nf nch e n,free p.1 p.2 nch e n,ne,nf,d⟩
def Inv.un (I:Inv X pins Z H s) (u:Un X.fs [] H H' s.heap h') (eJ:rH X.prog X.w H' h'):Inv X pins Z H' { s with heap:=h',toks:=t' }:=by
 obtain ⟨m,⟨o,es,ep,ho,r⟩,_⟩:=id I.loc;obtain ⟨sl,hL⟩:=u.any ho I.free (by simp)
 exact I.step (g':=s.gens) (d':=s.drawn) (ch:=[]) (λ_ z=>nomatch z) (λb o _ hb _ e n=>u.keep b o e n hb (by simp)) (λb o _ hb _ e n=>u.slot b o e n hb (by simp)) (λb o _ e n=>u.free b o e n (by simp)) (λb o _ e=>u.there b o e (by simp)) u.wD u.uS u.uU (λm' hm=>by
  obtain ⟨o',es',ep',ho',r'⟩:=hm;rw [ho] at ho';cases ho'
  exact ⟨_,es',ep',hL,r'⟩) eJ I.bare
def Inv.call (I:Inv X pins Z H s) (u:Un (vT X.stack) ch H H' s.heap h') (eJ:rH X.prog X.w H' h') (hg:ux g')
  (hch:∀ b∈ch,(b∈X.ex\/X.s₀.heap.objs.size<=b)/\b≠X.env.locals/\(∀ x c,X.env.cells.lookup x=some c->c≠b)/\∀ p∈X.pn++pins,p.1≠b) :
  Inv X pins Z H' { s with heap:=h',gens:=g',drawn:=d',toks:=t' }:=by
 obtain ⟨m,⟨o,es,ep,ho,r⟩,_⟩:=id I.loc;obtain ⟨sl,hL⟩:=u.any ho I.free λz=>(hch _ z).2.1 rfl
 exact I.step (ch:=ch) hch (λb o hL hb hc e n=>u.keep b o e n (λz=>(aq.mp (I.Nb b z)).elim hL hb) hc) (λb o _ _ hc e n=>u.any e n hc) (λb o hc e n=>u.free b o e n hc) (λb o hc e=>u.there b o e hc) u.wD u.uS u.uU (λm' hm=>by
  obtain ⟨o',es',ep',ho',r'⟩:=hm;rw [ho] at ho';cases ho'
  exact ⟨_,es',ep',hL,r'⟩) eJ hg
def Inv.turned (I:Inv X pins Z H s) (k:∀ b o,b≠it->s.heap.get? b=some o->h'.get? b=some o) (hn:H it=none) (hL:it≠X.env.locals)
  (h1:it∈X.ex\/X.s₀.heap.objs.size<=it) (h2:∀ x c,X.env.cells.lookup x=some c->c≠it) (h3:∀ p∈X.pn++pins,p.1≠it):Inv X pins Z H { s with heap:=h',toks:=t' }:=by
 have nit:∀ b u,H b=some u->b≠it:=λb u e z=>by rw [z,hn] at e;cases e
 refine I.step (g':=s.gens) (d':=s.drawn) (ch:=[it]) (λb hb=>?_) (λb o _ _ hc e _=>k b o (λz=>hc (by simp [z])) e) (λb o _ _ hc e _=>⟨o.slots,k b o (λz=>hc (by simp [z])) e⟩) (λ_ _ _ _ n=>n)
  (λb o hc e=>⟨o,k b o (λz=>hc (by simp [z])) e⟩) (λ_ _ e=>e) (λ_ _ _ e=>e) (λb ps e=>⟨#[],by rw [e];simp⟩) (λm hm=>?_) (λb u e=>?_) I.bare
 .have e:b=it:=by simpa using hb
  subst e;exact ⟨h1,hL,h2,h3⟩
 .obtain ⟨o,es,ep,ho,r⟩:=hm;exact ⟨o,es,ep,k _ o (Ne.symm hL) ho,r⟩
 .refine (I.eJ b u e).uT (λc v hc q=>k c v ?_ q) (λ_ q=>q) λ_ _ q=>q
  rcases hc with z|z
  .rw [z];exact nit b u e
  .exact nit c _ z
def Inv.tok (I:Inv X pins Z H s) (t:Nat):Inv X pins Z H { s with toks:=t }:=I.un (h':=s.heap) (t':=t) Un.refl I.eJ
def Inv.kept (I:Inv X pins Z H s) (k:∀ b u,s.heap.get? b=some u->h'.get? b=some u):Inv X pins Z H { s with heap:=h',toks:=t' }:=I.un (Un.kept k) (I.eJ.kept k)
def Inv.laid {o:HO}(I:Inv X pins Z H s) (k:∀ b u,s.heap.get? b=some u->h'.get? b=some u) (hp:s.heap.objs.size<=a) (new:eU X.prog X.w (upd H a o) h' a o) :
  Inv X pins Z (upd H a o) { s with heap:=h',toks:=t' }:=I.un (Un.laid k hp (I.eJ.fresh hp)) (I.eJ.laid k hp new)
def Inv.write {x e:af}{o:HO}(I:Inv X pins Z H s) (mu:Zw (H x)) (he:e=x\/H e=some (.own x)) (k:∀ b u,b≠e->s.heap.get? b=some u->h'.get? b=some u) (heo:∃ u,h'.get? e=some u)
  (new:eU X.prog X.w (upd H x o) h' x o):Inv X pins Z (upd H x o) { s with heap:=h',toks:=t' }:=I.un (Un.write mu he k heo) (I.eJ.write mu he k heo new)
def Inv.Ot {pins':List (af×iF)}(I:Inv X pins Z H s) (h:∀ p∈pins',s.heap.get? p.1=some p.2/\H p.1=none/\p.1≠X.env.locals/\p.1∉X.fs/\∀ v,p.2.data≠.cell v):Inv X pins' Z H s :=
 ⟨I.ok,I.os,I.bare,I.base,I.loc,I.cell,I.free,I.ow,λp hp=>(aQ.mp hp).elim (λz=>I.pin p (dU _ z)) (h p),I.eJ,I.len⟩
def Jy (hN:N.Nodup) {i j:Nat}{x:bB}(a:N[i]?=some x) (b:N[j]?=some x):i=j:=by
 obtain ⟨h1,e1⟩:=aC.mp a;obtain ⟨h2,e2⟩:=aC.mp b;exact (List.getElem_inj hN).mp (e1.trans e2.symm)
theorem FX {v:V}{Q:Unit->ax->Prop}(I:Inv X pins Z H s) (hN:X.N.Nodup) (hi:X.N[i]?=some x) (hx:Loc X.env.scope x) (r:RelV v u)
  (h:∀ s',Inv X pins (Z.set i (some v)) H s'->(∃ a,gY a s.heap s'.heap/\(a=X.env.locals\/X.env.cells.lookup x=some a))->Q () s') (hf:X.fn x=true\/X.env.scope.names.lookup x=some .local:=by first|exact .inl rfl|exact .inr rfl|assumption):aH M A (storeName X.env x u) Q E s:=by
 obtain ⟨m,hn,hl⟩:=id I.loc
 have hcls:(X.env.scope.kind == .class || (X.env.scope.kind == .module && X.env.locals != X.env.globals))=false:=by rw [I.ok.kind];rfl
 have hiσ:i<Z.length:=by rw [I.len];exact (aC.mp hi).1
 have YH:=I.YH
 have tracked:∀ {a:af}{h':cK},(∃ o,s.heap.get? a=some o/\H a=none)->gY a s.heap h'->rH X.prog X.w H h':=λ{a h'} ha hs b ob e=>by
  obtain ⟨_,_,hfree⟩:=ha;refine (I.eJ b ob e).uT (λc w' hc q=>(hs.2 c ?_).trans q) (λ_ q=>q) λ_ _ q=>q;rintro rfl
  rcases hc with rfl|hc
  .rw [hfree] at e;cases e
  .rw [hfree] at hc;cases hc
 rcases hx with hk|hk
 .refine wpAny_storeName_local hk hn (λh' hn' hs=>?_) hcls;obtain ⟨oL,_,_,hoL,_⟩:=id hn;refine h _ ⟨I.ok,I.os,I.bare,⟨λb o e n hb hx=>?_,λb o e n hb hx=>?_,I.base.free,λb o e hx=>?_,I.base.wD,I.base.uS,I.base.uU⟩,⟨_,hn',λj y v' e1 e2 e3=>?_⟩,λy c e=>?_,I.free,I.ow,λp hp=>?_,tracked ⟨oL,hoL,I.free⟩ hs,by simpa using I.len⟩ ⟨_,hs,.inl rfl⟩
  .exact (hs.2 b (aZ (bj (aJ e) I.ok.above))).trans (I.base.keep b o e n hb hx)
  .obtain ⟨sl,e1⟩:=I.base.slot b o e n hb hx;exact ⟨sl,(hs.2 b (aZ (bj (aJ e) I.ok.above))).trans e1⟩
  .obtain ⟨o',e1⟩:=I.base.there b o e hx;exact ⟨o',(hs.2 b (aZ (bj (aJ e) I.ok.above))).trans e1⟩
  .by_cases hj:j=i
   .subst hj;rw [hi] at e1;cases e1;rw [mG hiσ] at e2;cases e2;exact ⟨u,r,.inl ⟨hk,by simp⟩⟩
   .rw [wO (Ne.symm hj)] at e2;obtain ⟨u',r',q⟩:=hl j y v' e1 e2 e3;refine ⟨u',r',?_⟩
    rcases q with ⟨k,e⟩|⟨k,c,e,z⟩
    .refine .inl ⟨k,?_⟩;have:y≠x:=λe=>hj (Jy hN e1 (e▸hi));simp [this,e]
    .exact .inr ⟨k,c,e,z.sameBut hs (YH y c e)⟩
  .obtain ⟨w',z⟩:=I.cell y c e;exact ⟨w',z.sameBut hs (YH y c e)⟩
  .obtain ⟨e,n,ne,nf,d⟩:=I.pin p hp;exact ⟨(hs.2 p.1 ne).trans e,n,ne,nf,d⟩
 .have hfn:X.fn x=true:=by
   rcases hf with z|z
   .exact z
   .rw [z] at hk;cases hk
  obtain ⟨c,hc⟩:=I.ok.has x (.inl hk);obtain ⟨w',z⟩:=I.cell x c hc;refine wpAny_storeName_cell I.ok.kind hk hc z (λh' hc' hs=>?_);obtain ⟨oc,hoc,hocd⟩:=id z;refine h { s with heap:=h' } ⟨I.ok,I.os,I.bare,⟨λb o e n hb hx=>?_,λb o e n hb hx=>?_,I.base.free,λb o e hx=>?_,I.base.wD,I.base.uS,I.base.uU⟩,⟨m,hn.sameBut hs (Ne.symm (YH x c hc)),λj y v' e1 e2 e3=>?_⟩,λy c' e=>?_,I.free,I.ow,λp hp=>?_,tracked ⟨oc,hoc,I.ow x c hc⟩ hs,by simpa using I.len⟩ ⟨c,hs,.inr hc⟩
  .exact (hs.2 b (aZ (bj (aJ e) (I.ok.VC x c hfn hc)))).trans (I.base.keep b o e n hb hx)
  .obtain ⟨sl,e1⟩:=I.base.slot b o e n hb hx;exact ⟨sl,(hs.2 b (aZ (bj (aJ e) (I.ok.VC x c hfn hc)))).trans e1⟩
  .obtain ⟨o',e1⟩:=I.base.there b o e hx;exact ⟨o',(hs.2 b (aZ (bj (aJ e) (I.ok.VC x c hfn hc)))).trans e1⟩
  .by_cases hj:j=i
   .subst hj;rw [hi] at e1;cases e1;rw [mG hiσ] at e2;cases e2;exact ⟨u,r,.inr ⟨.inl hk,c,hc,hc'⟩⟩
   .rw [wO (Ne.symm hj)] at e2;obtain ⟨u',r',q⟩:=hl j y v' e1 e2 e3;refine ⟨u',r',?_⟩
    rcases q with q|⟨k,c',e,z'⟩
    .exact .inl q
    .refine .inr ⟨k,c',e,z'.sameBut hs ?_⟩;rintro rfl;exact hj (Jy hN e1 (I.ok.inj _ _ _ e hc▸hi))
  .by_cases hcc:c'=c
   .subst hcc;exact ⟨_,hc'⟩
   .obtain ⟨w2,z2⟩:=I.cell y c' e;exact ⟨w2,z2.sameBut hs hcc⟩
  .obtain ⟨e,n,ne,nf,d⟩:=I.pin p hp;refine ⟨(hs.2 p.1 ?_).trans e,n,ne,nf,d⟩;intro q;rw [q,hoc] at e;have q':oc=p.2:=aU e;exact d w' (by rw [← q'];exact hocd)
def B8 {v:V}{Q:Unit->ax->Prop}(I:Inv X pins Z H s) (hN:X.N.Nodup) (hi:X.N[i]?=some x) (hx:Loc X.env.scope x) (r:RelV v u)
  (h:∀ s',Inv X pins (Z.set i (some v)) H s'->Q () s') (hf:X.fn x=true\/X.env.scope.names.lookup x=some .local:=by first|exact .inl rfl|exact .inr rfl|assumption):aH M A (storeName X.env x u) Q E s :=
 FX I hN hi hx r (λs' I' _=>h s' I') hf
def Inv.TM (I:Inv X pins Z H s) (ho:s'.os=s.os) (u:Un (vT X.stack) ch H H' s.heap s'.heap) (eJ:rH X.prog X.w H' s'.heap) (hg:ux s'.gens)
  (hch:∀ b∈ch,(b∈X.ex\/X.s₀.heap.objs.size<=b)/\b≠X.env.locals/\(∀ x c,X.env.cells.lookup x=some c->c≠b)/\∀ p∈X.pn++pins,p.1≠b):Inv X pins Z H' s':=by
 obtain ⟨h',g',d',t',o'⟩:=s';have e:o'=s.os:=ho;subst e;exact I.call (g':=g') (t':=t') (d':=d') u eJ hg hch
end
abbrev XK:=aj->Option af->Hp->Prop
abbrev St:=List (Option V)
abbrev VK:=V->Hp->Prop
abbrev TE:=St->Hp->VK->Prop
abbrev TT:=St->Hp->(Bool->Hp->Prop)->Prop
abbrev TA:=St->Hp->(List V->Hp->Prop)->Prop
structure rN where
 nx:St->Hp->Prop
 rt:VK
 bk:St->Hp->Prop:=λ_ _=>False
 ct:St->Hp->Prop:=λ_ _=>False
abbrev TS:=rN->St->Hp->Prop
def EP (X:Cx) (pins:List (af×iF)) (Z:St) (Q:VK) (u:aj) (s':ax):Prop:=∃ v H',Inv X pins Z H' s'/\RelV v u/\Q v H'
def TP (X:Cx) (pins:List (af×iF)) (Z:St) (Q:Bool->Hp->Prop) (b:Bool) (s':ax):Prop:=∃ H',Inv X pins Z H' s'/\Q b H'
def AP (X:Cx) (pins:List (af×iF)) (Z:St) (Q:List V->Hp->Prop) (us:List aj) (s':ax):Prop:=∃ vs H',Inv X pins Z H' s'/\Vals vs us/\Q vs H'
def SP (X:Cx) (pins:List (af×iF)) (D:rN) (f:Flow) (s':ax):Prop :=
 match f with
 | .next=>∃ σ' H',Inv X pins σ' H' s'/\D.nx σ' H'
 | .brk=>∃ σ' H',Inv X pins σ' H' s'/\D.bk σ' H'
 | .cont=>∃ σ' H',Inv X pins σ' H' s'/\D.ct σ' H'
 | .ret u=>∃ v σ' H',Inv X pins σ' H' s'/\RelV v u/\D.rt v H'
def PE (X:Cx) (e:Expr) (t:TE):Prop :=
 ∀ (pins:List (af×iF)) (s:ax) (Z:St) (H:Hp) (Q:VK),Inv X pins Z H s->t Z H Q->aH (aL X.prog X.w) X.A (fo e X.env) (EP X pins Z Q) X.xe s
def PT (X:Cx) (e:Expr) (t:TT):Prop :=
 ∀ (pins:List (af×iF)) (s:ax) (Z:St) (H:Hp) (Q:Bool->Hp->Prop),Inv X pins Z H s->t Z H Q->aH (aL X.prog X.w) X.A (isTrue e X.env (fo e X.env)) (TP X pins Z Q) X.xe s
def PW (X:Cx) (e:Expr) (t:TT):Prop :=
 ∀ (whole:LF aj) (pins:List (af×iF)) (s:ax) (Z:St) (H:Hp) (Q:Bool->Hp->Prop),Inv X pins Z H s->t Z H Q->aH (aL X.prog X.w) X.A (isTrue e X.env whole) (TP X pins Z Q) X.xe s
def PW.pt {X:Cx}{t:TT}(h:PW X e t):PT X e t:=h _
def PA (X:Cx) (es:List Expr) (t:TA):Prop :=
 ∀ (pos:ue) (pins:List (af×iF)) (s:ax) (Z:St) (H:Hp) (Q:List V->Hp->Prop),Inv X pins Z H s->t Z H Q->aH (aL X.prog X.w) X.A (spliced (gM pos (bE es X.env))) (AP X pins Z Q) X.xe s
def PS (X:Cx) (st:dF) (t:TS):Prop :=
 ∀ (pins:List (af×iF)) (s:ax) (Z:St) (H:Hp) (D:rN),Inv X pins Z H s->t D Z H->aH (aL X.prog X.w) X.A (exec st X.env) (SP X pins D) X.xe s
def IT (X:Cx) (st:List dF) (t:TS):Prop :=
 ∀ (pins:List (af×iF)) (s:ax) (Z:St) (H:Hp) (D:rN),Inv X pins Z H s->t D Z H->aH (aL X.prog X.w) X.A (execs st X.env) (SP X pins D) X.xe s
def gp {α:Type} {t:LF α}{Q Q':α->ax->Prop}(h:aH M A t Q E s) (hQ:∀ a s,Q a s->Q' a s):aH M A t Q' E s:=dr h hQ λ_ _ x=>x
section
variable {X:Cx}
def ao (i:Nat):TE:=λZ H Q=>∃ v,Z[i]?=some (some v)/\Q v H
def tC (v:V):TE:=λ_ H Q=>Q v H
def Xp (hN:X.N[i]?=some x) (hv:Vis X.env.scope x) (hd:(x == ("__debug__":bB))=false:=by decide) (hcd:(x == ("__classdict__":bB))=false:=by decide):PE X (.Name x pos) (ao i):=by
 intro pins s Z H Q I h;obtain ⟨v,e,h⟩:=h;obtain ⟨m,hn,hl⟩:=I.loc;obtain ⟨u,r,l⟩:=hl i x v hN e hv
 have fin:EP X pins Z Q u s:=⟨v,H,I,r,h⟩
 rcases l with ⟨hk,hm⟩|⟨hk,c,hc,hcell⟩
 .exact rS (kQ I.ok.kind hk hn hm fin) hd
 .rcases hk with hk|hk
  .exact rS (Zk I.ok.kind hk hc hcell fin) hd
  .exact rS (Zm I.ok.kind hk hc hcell fin hcd) hd
def cA {i j pos}:PE X (.Constant (.int i) j pos) (tC (.int i)):=λ_ _ _ H _ I h=>wpAny_Constant_int ⟨.int i,H,I.tok _,⟨_,rfl⟩,h⟩
def Zx {b j pos}:PE X (.Constant (.bool b) j pos) (tC (.bl b)):=λ_ _ _ H _ I h=>Constant_bool ⟨.bl b,H,I,rfl,h⟩
def Xq {j pos}:PE X (.Constant .none j pos) (tC .non):=λ_ _ _ H _ I h=>TQ ⟨.non,H,I,rfl,h⟩
def Xr {x j pos}:PE X (.Constant (.str x) j pos) (tC (.str x)):=λ_ _ _ H _ I h=>Calls.Constant_str ⟨.str x,H,I.tok _,⟨_,rfl⟩,h⟩
def Gl (X:Cx) (x:bB):Prop:=X.env.kindOf x=some .globalImplicit
def wW {Z:St}{H:Hp}(I:Inv X pins Z H s) (hg:Gl X x) (hm:X.mg x=some u) (h:Q u s)
  (hd:(x == ("__debug__":bB))=false:=by decide):aH (aL X.prog X.w) X.A (fo (.Name x pos) X.env) Q E s :=
 IU I.ok.kind hg (Calls.loadGlobal_global (by rw [I.ok.glob];exact I.mod.glob.keeps I.bk) hm h) hd
def nY {Z:St}{H:Hp}(I:Inv X pins Z H s) (hg:Gl X x) (hm:X.mg x=none) (hv:dh x=some u) (h:Q u s)
  (hn:x≠"__name__":=by decide) (hd:(x == ("__debug__":bB))=false:=by decide):aH (aL X.prog X.w) X.A (fo (.Name x pos) X.env) Q E s:=by
 obtain ⟨mb,h1,h2⟩:=I.mod.blt;exact IU I.ok.kind hg (Calls.loadGlobal_builtin (by rw [I.ok.glob];exact I.mod.glob.keeps I.bk) hm (by rw [I.ok.blt];exact h1.keeps I.bk) ((h2 x hn).trans hv) h) hd
def Us {v:V}(hg:Gl X x) (hm:X.mg x=some u) (r:RelV v u) (hd:(x == ("__debug__":bB))=false:=by decide):PE X (.Name x pos) (tC v) :=
 λ_ _ _ H _ I h=>wW I hg hm ⟨v,H,I,r,h⟩ hd
def G1 {v:V}(hg:Gl X x) (hm:X.mg x=none) (hv:dh x=some u) (r:RelV v u) (hn:x≠"__name__":=by decide) (hd:(x == ("__debug__":bB))=false:=by decide):PE X (.Name x pos) (tC v) :=
 λ_ _ _ H _ I h=>nY I hg hm hv ⟨v,H,I,r,h⟩ hn hd
variable {a b:Expr}{ta tb:TE}
def PC (X:Cx) (op:CmpOp) (a b:Expr) (t:TE):Prop :=
 ∀ (pins:List (af×iF)) (s:ax) (Z:St) (H:Hp) (Q:VK),Inv X pins Z H s->t Z H Q ->
  aH (aL X.prog X.w) X.A (fo a X.env) (λv s₁=>aH (aL X.prog X.w) X.A (fo b X.env) (λu s₂=>aH (aL X.prog X.w) X.A (dk op v u) (EP X pins Z Q) X.xe s₂) X.xe s₁) X.xe s
def Jz (b:Expr) {op:CmpOp}(h:op≠.In) (h2:op≠.NotIn):j4 op b=false:=by
 have e1:(op == CmpOp.In)=false:=by cases op<;>first|rfl|exact absurd rfl h
 have e2:(op == CmpOp.NotIn)=false:=by cases op<;>first|rfl|exact absurd rfl h2
 cases b<;>simp [j4,e1,e2]
def Xs (ta:TE):TE:=λZ H Q=>ta Z H λx H1=>Q (.bl (decide (x=.non))) H1
def Nv (ta:TE):TE:=λZ H Q=>ta Z H λx H1=>Q (.bl (!decide (x=.non))) H1
def RelV.Ll {x:V}(r:RelV x v):(v == dC)=decide (x=.non):=by
 cases x with
 | non=>cases r;rfl
 | bl _=>cases r;rfl
 | int _=>obtain ⟨t,rfl⟩:=r;rfl
 | str _=>obtain ⟨t,rfl⟩:=r;rfl
 | byt _=>obtain ⟨t,rfl⟩:=r;rfl
 | flt _=>obtain ⟨t,rfl⟩:=r;rfl
 | ref _=>cases r;rfl
 | ty _=>cases r;rfl
def Xt {j pos'} (ha:PE X a ta):PC X .Is a (.Constant .none j pos') (Xs ta):=by
 intro pins s Z H Q I h;refine gp (ha pins s Z H _ I h) λv s1 ⟨x,H1,I1,r1,q1⟩=>?_;exact TQ (is_none_gen ⟨.bl _,H1,I1,by rw [r1.Ll];rfl,q1⟩)
def Nw {j pos'} (ha:PE X a ta):PC X .IsNot a (.Constant .none j pos') (Nv ta):=by
 intro pins s Z H Q I h;refine gp (ha pins s Z H _ I h) λv s1 ⟨x,H1,I1,r1,q1⟩=>?_;exact TQ (isnot_none_gen ⟨.bl _,H1,I1,by rw [r1.Ll];rfl,q1⟩)
def tB (t:TE):TT:=λZ H Q=>t Z H λx H1=>∃ c,x=.bl c/\Q c H1
def QB {t:TE}(h:PC X op a b t) (h1:j4 op b=false:=by first|exact Jz _ (by decide) (by decide)|rfl):PE X (.Compare a [op] [b] pos) t:=λpins s Z H Q I hw=>wpAny_Compare1 (h pins s Z H Q I hw) h1
def Xu {t:TE}(h:PC X op a b t) (h1:j4 op b=false:=by first|exact Jz _ (by decide) (by decide)|rfl):PT X (.Compare a [op] [b] pos) (tB t):=by
 intro pins s Z H Q I hw;refine W6 (gp (h pins s Z H _ I hw) λv s1 h1=>gp h1 λu s2 h2=>gp h2 λc s3 ⟨x,H1,I1,r1,q1⟩=>?_) h1;obtain ⟨d,rfl,q⟩:=q1;cases r1;exact i4 ⟨H1,I1,q⟩
variable {tA tB':TT}{rest:List Expr}
def wX (t u:TT):TT:=λZ H Q=>t Z H λc H1=>if c=true then u Z H1 Q else Q false H1
def Ub (t u:TT):TT:=λZ H Q=>t Z H λc H1=>if c=true then Q true H1 else u Z H1 Q
def A1 (t:TT):TT:=λZ H Q=>t Z H λc H1=>Q (!c) H1
def qz (ha:PT X a tA):PW X (.BoolOp .And [a] pos) tA:=by
 intro wh pins s Z H Q I h;refine isTrue_and (gp (ha pins s Z H Q I h) λc s1 e=>?_)
 cases c with
 | true=>exact isTrue_and_nil e
 | false=>exact e
def B9 (ha:PT X a tA):PW X (.BoolOp .Or [a] pos) tA:=by
 intro wh pins s Z H Q I h;refine isTrue_or (gp (ha pins s Z H Q I h) λc s1 e=>?_)
 cases c with
 | false=>exact isTrue_or_nil e
 | true=>exact e
def sd (ha:PT X a tA) (hb:PW X (.BoolOp .And (b::rest) pos) tB'):PW X (.BoolOp .And (a::b::rest) pos) (wX tA tB'):=by
 intro wh pins s Z H Q I h;refine isTrue_and (gp (ha pins s Z H _ I h) λc s1 ⟨H1,I1,q1⟩=>?_)
 cases c with
 | true=>exact hb wh pins s1 Z H1 Q I1 q1
 | false=>exact ⟨H1,I1,q1⟩
def Ab (ha:PT X a tA) (hb:PW X (.BoolOp .Or (b::rest) pos) tB'):PW X (.BoolOp .Or (a::b::rest) pos) (Ub tA tB'):=by
 intro wh pins s Z H Q I h;refine isTrue_or (gp (ha pins s Z H _ I h) λc s1 ⟨H1,I1,q1⟩=>?_)
 cases c with
 | true=>exact ⟨H1,I1,q1⟩
 | false=>exact hb wh pins s1 Z H1 Q I1 q1
def QC (ha:PT X a tA):PT X (.UnaryOp .Not a pos) (A1 tA):=by
 intro pins s Z H Q I h;exact isTrue_not (ha pins s Z H (λc H1=>Q (!c) H1) I h)
def Ca (ta tb:TE):TE:=λZ H Q=>ta Z H λx H1=>∃ c,x=.bl c/\if c=true then tb Z H1 Q else Q (.bl false) H1
def Ny (ta:TE):TE:=λZ H Q=>ta Z H λx H1=>∃ c,x=.bl c/\Q (.bl (!c)) H1
def Cb {op} {t:TE}(h:PE X a t):PE X (.BoolOp op [a] pos) t:=λpins s Z H Q I hw=>BoolOp_one (h pins s Z H Q I hw)
def Cc (ha:PE X a ta) (hb:PE X (.BoolOp .And (b::rest) pos) tb):PE X (.BoolOp .And (a::b::rest) pos) (Ca ta tb):=by
 intro pins s Z H Q I h;refine BoolOp_and (gp (ha pins s Z H _ I h) λv s1 ⟨x,H1,I1,r1,q1⟩=>?_);obtain ⟨c,rfl,q1⟩:=q1;cases r1;refine i4 ?_
 cases c with
 | true=>exact hb pins s1 Z H1 Q I1 q1
 | false=>exact ⟨.bl false,H1,I1,rfl,q1⟩
def QD (ha:PE X a ta):PE X (.UnaryOp .Not a pos) (Ny ta):=by
 intro pins s Z H Q I h;refine UnaryOp_ (gp (ha pins s Z H _ I h) λv s1 ⟨x,H1,I1,r1,q1⟩=>?_);obtain ⟨c,rfl,q1⟩:=q1;cases r1;exact not_of (i4 ⟨.bl (!c),H1,I1,rfl,q1⟩)
def Zd (t:TT) (ta tb:TE):TE:=λZ H Q=>t Z H λc H1=>if c=true then ta Z H1 Q else tb Z H1 Q
def wY (hc:PT X c tA) (ha:PE X a ta) (hb:PE X b tb):PE X (.IfExp c a b pos) (Zd tA ta tb):=by
 intro pins s Z H Q I h;refine wpAny_IfExp (gp (hc pins s Z H _ I h) λd s1 ⟨H1,I1,q1⟩=>?_)
 cases d with
 | true=>exact ha pins s1 Z H1 Q I1 q1
 | false=>exact hb pins s1 Z H1 Q I1 q1
end
def dm (K:ae) (H:Hp) (a:af) (xs:List V):Prop :=
 Rd H a (.lst xs) \/
  ∃ (o:iF) (its:Array aj) (n:Nat),K.lookup a=some o/\o.cls=.type "list"/\o.dict=none/\o.data=.seq its n/\its.size<=aW/\Vals xs its.toList
def jq (K:ae) (H:Hp) (a:af) (xs:List V):Prop :=
 Rd H a (.tup xs) \/
  ∃ (o:iF) (its:Array aj) (n:Nat),K.lookup a=some o/\o.cls=.type "tuple"/\o.data=.seq its n/\its.size<=aW/\Vals xs its.toList
def absV:aj->Option V
 | .none=>some .non
 | .bool b=>some (.bl b)
 | .int i _=>some (.int i)
 | .str x _=>some (.str x)
 | .bytes b _=>some (.byt b)
 | .float b _=>some (.flt b)
 | .ref a=>some (.ref a)
 | .type n=>some (.ty n)
 | _=>none
def RelV.abs {x:V}(r:RelV x u):absV u=some x:=by
 cases x with
 | non=>cases r;rfl
 | bl _=>cases r;rfl
 | int _=>obtain ⟨t,rfl⟩:=r;rfl
 | str _=>obtain ⟨t,rfl⟩:=r;rfl
 | byt _=>obtain ⟨t,rfl⟩:=r;rfl
 | flt _=>obtain ⟨t,rfl⟩:=r;rfl
 | ref _=>cases r;rfl
 | ty _=>cases r;rfl
def RelV.inj {x y:V}(r:RelV x u) (q:RelV y u):x=y:=aU (r.abs.symm.trans q.abs)
def Vals.inj {xs ys:List V}(h:Vals xs us):Vals ys us->xs=ys:=by
 induction h generalizing ys with
 | nil=>intro q;cases q;rfl
 | cons r _ ih =>
  intro q
  cases q with
  | cons r' t'=>rw [r.inj r',ih t']
section
variable {X:Cx}{Z:St}{H:Hp}{xs ys:List V}
def dm.of (h:H a=some (.lst xs)):dm K H a xs:=.inl (.inl h)
def jq.of (h:H a=some (.tup xs)):jq K H a xs:=.inl (.inl h)
def Inv.list (I:Inv X pins Z H s) (h:dm X.K H a xs):∃ its:List aj,Vals xs its/\PlainL s.heap a its.toArray/\xs.length<=aW:=by
 rcases h with h|⟨o,its,n,hk,hc,hd,hs,hz,r⟩
 .obtain ⟨z,its,n,r,e⟩:=h.ok I.eJ;exact ⟨its,r,⟨_,n,e,rfl,rfl,rfl⟩,z⟩
 .refine ⟨its.toList,r,⟨o,n,I.AW a o hk,hc,hd,by simpa using hs⟩,?_⟩;have e:=r.length;simp only [aM] at e;lia
def Inv.tuple (I:Inv X pins Z H s) (h:jq X.K H a xs):∃ its:List aj,Vals xs its/\qw s.heap a its.toArray/\xs.length<=aW:=by
 rcases h with h|⟨o,its,n,hk,hc,hs,hz,r⟩
 .obtain ⟨z,its,r,p⟩:=h.ok I.eJ;exact ⟨its,r,p,z⟩
 .refine ⟨its.toList,r,⟨o,I.AW a o hk,hc,n,by simpa using hs⟩,?_⟩;have e:=r.length;simp only [aM] at e;lia
def Inv.Tv (I:Inv X pins Z H s) (h:dm X.K H a xs) (h':dm X.K H a ys):xs=ys:=by
 obtain ⟨its,r,⟨o,n,e,_,_,d⟩,_⟩:=I.list h;obtain ⟨its',r',⟨o',n',e',_,_,d'⟩,_⟩:=I.list h';rw [e] at e';cases e';rw [d] at d'
 injection d' with d1 _
 have:its=its':=by simpa using congrArg Array.toList d1
 subst this;exact r.inj r'
def Inv.Pw (I:Inv X pins Z H s) (h:jq X.K H a xs) (h':jq X.K H a ys):xs=ys:=by
 obtain ⟨its,r,⟨o,e,_,n,d⟩,_⟩:=I.tuple h;obtain ⟨its',r',⟨o',e',_,n',d'⟩,_⟩:=I.tuple h';rw [e] at e';cases e';rw [d] at d'
 injection d' with d1 _
 have:its=its':=by simpa using congrArg Array.toList d1
 subst this;exact r.inj r'
end
abbrev Cx.FR (X:Cx) (E:aj->ax->Prop):Cx:={ X with xe:=E }
abbrev Cx.W4 (X:Cx):Cx:=X.FR λ_ _=>False
def Cx.Ok.FR {X:Cx}(ok:X.Ok) (E:aj->ax->Prop):(X.FR E).Ok :=
 ⟨ok.mod,ok.kind,ok.glob,ok.blt,ok.above,ok.inj,ok.has,ok.VC,ok.hd,ok.frames,ok.WX,ok.YR,ok.bs,ok.Nh,ok.IR,ok.IS,ok.rO,ok.Ou⟩
def Cx.Ok.ua {X:Cx}(ok:(X.FR E).Ok):X.Ok :=
 ⟨ok.mod,ok.kind,ok.glob,ok.blt,ok.above,ok.inj,ok.has,ok.VC,ok.hd,ok.frames,ok.WX,ok.YR,ok.bs,ok.Nh,ok.IR,ok.IS,ok.rO,ok.Ou⟩
section
variable {X:Cx}{Z:St}{H:Hp}
def Inv.FR (I:Inv X pins Z H s) (E:aj->ax->Prop):Inv (X.FR E) pins Z H s:=⟨I.ok.FR E,I.os,I.bare,I.base,I.loc,I.cell,I.free,I.ow,I.pin,I.eJ,I.len⟩
def Inv.ua (I:Inv (X.FR E) pins Z H s):Inv X pins Z H s:=⟨I.ok.ua,I.os,I.bare,I.base,I.loc,I.cell,I.free,I.ow,I.pin,I.eJ,I.len⟩
def SP.ua {D:rN}{f:Flow}(h:SP (X.FR E) pins D f s'):SP X pins D f s':=by
 cases f with
 | next=>obtain ⟨σ',H',I,q⟩:=h;exact ⟨σ',H',I.ua,q⟩
 | brk=>obtain ⟨σ',H',I,q⟩:=h;exact ⟨σ',H',I.ua,q⟩
 | cont=>obtain ⟨σ',H',I,q⟩:=h;exact ⟨σ',H',I.ua,q⟩
 | ret u=>obtain ⟨v,σ',H',I,r,q⟩:=h;exact ⟨v,σ',H',I.ua,r,q⟩
def IT.W4 {st:List dF}{t:TS}(h:IT X.W4 st t):IT X st t:=λpins s Z H D I hw =>
 dr (h pins s Z H D (I.FR _) hw) (λ_ _ q=>q.ua) λ_ _ z=>dD z
end
section
variable {X:Cx}{st:dF}{rest:List dF}{t u:TS}{te:TE}
def fH:TS:=λD Z H=>D.nx Z H
def bN (t u:TS):TS:=λD Z H=>t { D with nx:=u D } Z H
def fw:IT X [] fH:=λ_ _ Z H _ I h=>qp ⟨Z,H,I,h⟩
def aE (h1:PS X st t) (h2:IT X rest u):IT X (st::rest) (bN t u):=by
 intro pins s Z H D I h;refine wpAny_execs_cons (gp (h1 pins s Z H { D with nx:=u D } I h) λf s1 q=>?_)
 cases f with
 | next =>
  obtain ⟨σ',H',I',q⟩:=q
  exact h2 pins s1 σ' H' D I' q
 | ret v=>exact q
 | brk=>exact q
 | cont=>exact q
def bR (h1:PS X st t):IT X [st] t:=by
 intro pins s Z H D I h;refine wpAny_execs_cons (gp (h1 pins s Z H D I h) λf s1 q=>?_)
 cases f with
 | next=>exact qp q
 | ret v=>exact q
 | brk=>exact q
 | cont=>exact q
def Inv.quiet {Z:St}{H:Hp}(I:Inv X pins Z H s):interactive X.env=false:=by simp [interactive,I.ok.kind]
def eE (te:TE):TS:=λD Z H=>te Z H λ_ H1=>D.nx Z H1
def jL (he:PE X e te) (hs:BO e none pos.line X.env=pure false:=by rfl):PS X (.Expr e pos) (eE te):=by
 intro pins s Z H D I h;exact wpAny_Expr_any (gp (he pins s Z H _ I h) λv s1 ⟨x,H1,I1,r1,q1⟩=>⟨Z,H1,I1,q1⟩) I.quiet hs
def eX (te:TE):TS:=λD Z H=>te Z H D.rt
def fE (he:PE X e te):PS X (.Return (some e) pos) (eX te):=by
 intro pins s Z H D I h;exact wpAny_Return_some (gp (he pins s Z H _ I h) λv s1 ⟨x,H1,I1,r1,q1⟩=>⟨x,Z,H1,I1,r1,q1⟩)
def iM (c:TT) (t u:TS):TS:=λD Z H=>c Z H λb H1=>if b=true then t D Z H1 else u D Z H1
def jt {a b:List dF}{tc:TT}(hc:PT X c tc) (ha:IT X a t) (hb:IT X b u):PS X (.If c a b pos) (iM tc t u):=by
 intro pins s Z H D I h;refine wpAny_If (gp (hc pins s Z H _ I h) λd s1 ⟨H1,I1,q1⟩=>?_)
 cases d with
 | true=>exact ha pins s1 Z H1 D I1 q1
 | false=>exact hb pins s1 Z H1 D I1 q1
def se:TS:=λ_ _ _=>False
def nZ:PS X st se:=λ_ _ _ _ _ _ h=>h.elim
end
abbrev TG:=V->St->Hp->(St->Hp->Prop)->Prop
abbrev Uc:=List V->St->Hp->(St->Hp->Prop)->Prop
def PG (X:Cx) (target:Expr) (t:TG):Prop :=
 ∀ (pins:List (af×iF)) (s:ax) (Z:St) (H:Hp) (v:V) (u:aj) (Q:St->Hp->Prop),Inv X pins Z H s->RelV v u->t v Z H Q ->
  aH (aL X.prog X.w) X.A (Lq target X.env u) (λ_ s'=>∃ σ' H',Inv X pins σ' H' s'/\Q σ' H') X.xe s
def Zy (X:Cx) (ts:List Expr) (t:Uc):Prop :=
 ∀ (pins:List (af×iF)) (s:ax) (Z:St) (H:Hp) (vs:List V) (us:List aj) (Q:St->Hp->Prop),Inv X pins Z H s->Vals vs us->t vs Z H Q ->
  aH (aL X.prog X.w) X.A (assignInOrder ((oH ts X.env).map (·.2)) us) (λ_ s'=>∃ σ' H',Inv X pins σ' H' s'/\Q σ' H') X.xe s
abbrev OG:=V->V->V->Hp->(Hp->Prop)->Prop
def QE (X:Cx) (t:OG):Prop :=
 ∀ (pins:List (af×iF)) (s:ax) (Z:St) (H:Hp) (o i v:V) (ov iv u:aj) (Q:Hp->Prop),Inv X pins Z H s->RelV o ov->RelV i iv->RelV v u->t o i v H Q ->
  aH (aL X.prog X.w) X.A (VI ov iv u) (λ_ s'=>∃ H',Inv X pins Z H' s'/\Q H') X.xe s
abbrev Xv:=V->V->Hp->VK->Prop
def PIp (X:Cx) (op:wH) (t:Xv):Prop :=
 ∀ (pins:List (af×iF)) (s:ax) (Z:St) (H:Hp) (x y:V) (v u:aj) (Q:VK),Inv X pins Z H s->RelV x v->RelV y u->t x y H Q ->
  aH (aL X.prog X.w) X.A (BP op v u) (EP X pins Z Q) X.xe s
section
variable {X:Cx}
def bx (i:Nat):TG:=λv Z H Q=>Q (Z.set i (some v)) H
def Ut (hN:X.N.Nodup) (hi:X.N[i]?=some x) (hx:Loc X.env.scope x) (hf:X.fn x=true\/X.env.scope.names.lookup x=some .local:=by first|exact .inl rfl|exact .inr rfl|assumption):PG X (.Name x pos) (bx i):=by
 intro pins s Z H v u Q I r h;exact wpAny_assign_Name (B8 I hN hi hx r (λs' I'=>⟨_,H,I',h⟩) hf)
def OH:Uc:=λvs Z H Q=>vs=[]/\Q Z H
def nq (t:TG) (u:Uc):Uc:=λvs Z H Q=>∃ v r,vs=v::r/\t v Z H λσ' H'=>u r σ' H' Q
def BC:Zy X [] OH:=by
 intro pins s Z H vs us Q I r h;obtain ⟨e,h⟩:=h;subst e;cases r;exact assignInOrder_nil ⟨Z,H,I,h⟩
def iN {t:TG}{u:Uc}(h1:PG X e t) (h2:Zy X es u)
  (hs:(oH (e::es) X.env).map (·.2)=Lq e X.env::(oH es X.env).map (·.2):=by rfl):Zy X (e::es) (nq t u):=by
 intro pins s Z H vs us Q I r h;obtain ⟨v,vr,e1,h⟩:=h;subst e1
 cases r with
 | cons r rr =>
  rw [hs];refine assignInOrder_cons (gp (h1 pins s Z H _ _ _ I r h) λ_ s1 ⟨σ1,H1,I1,q1⟩=>?_);exact h2 pins s1 σ1 H1 _ _ Q I1 rr q1
def LQ (K:ae) (n:Nat) (t:Uc):TG:=λv Z H Q=>∃ a xs,v=.ref a/\jq K H a xs/\xs.length=n/\t xs Z H Q
def G2 {t:Uc}(hc:X.calm=true) (h:Zy X es t)
  (hn:(oH es X.env).length=n:=by rfl) (hst:(oH es X.env).findIdx? (·.1)=none:=by rfl):PG X (.Tuple es k pos) (LQ X.K n t):=by
 intro pins s Z H v u Q I r hw;obtain ⟨a,xs,e1,hq,hl,hw⟩:=hw;subst e1;cases r;obtain ⟨its,rv,ht,hz⟩:=I.tuple hq;refine assign_Tuple_tuple (I.ok.hd hc) ht (by simp [hn,← hl,rv.length]) hst λh' hx=>?_;have I1:Inv X pins Z H { s with heap:=h' }:=I.kept (t':=s.toks) λb o e=>hx b o (aZ (aJ e)) e;exact h pins _ Z H xs _ Q I1 (by simpa using rv) hw
def EG (to ti:TE) (t:OG):TG:=λv Z H Q=>to Z H λo H1=>ti Z H1 λi H2=>t o i v H2 λH3=>Q Z H3
def Xw {o i:Expr}{to ti:TE}{t:OG}(ho:PE X o to) (hi:PE X i ti) (hs:QE X t)
  (ha:∀ v,Lq (.Subscript o i pos) X.env v=(do
   let ov ← jS [v] (fo o X.env)
   let iv ← jS [v,ov] (fo i X.env)
   uz pos
   jS [v,ov,iv] (VI ov iv v)
   release [v,ov,iv] []):=by intro _;rfl):PG X (.Subscript o i pos) (EG to ti t):=by
 intro pins s Z H v u Q I r h;rw [ha];refine aa (cq (gp (ho pins s Z H _ I h) λov s1 ⟨x,H1,I1,r1,q1⟩=>?_));refine aa (cq (gp (hi pins s1 Z H1 _ I1 q1) λiv s2 ⟨y,H2,I2,r2,q2⟩=>?_));refine aa (uV (aa (cq (gp (hs pins s2 Z H2 x y v ov iv u _ I2 r1 r2 r q2) λ_ s3 ⟨H3,I3,q3⟩=>?_))));exact wpAny_release ⟨Z,H3,I3,q3⟩
def dv (te:TE) (g:TG):TS:=λD Z H=>te Z H λx H1=>g x Z H1 D.nx
def QF {te:TE}{g:TG}(he:PE X e te) (hg:PG X tg g) (hs:swapsWithSole [tg] e pos.line X.env=pure false:=by rfl) (hw:swappedStores [tg] e X.env=pure none:=by rfl)
  (h1:(oH [tg] X.env).map (·.2)=[Lq tg X.env]:=by rfl):PS X (.Assign [tg] e pos) (dv te g):=by
 intro pins s Z H D I h;refine wpAny_Assign_stores (gp (he pins s Z H _ I h) λv s1 ⟨x,H1,I1,r1,q1⟩=>?_) hs hw;rw [h1];exact gp (hg pins s1 Z H1 x v _ I1 r1 q1) λ_ s2 q=>q
def G4 {te:TE}(hN:X.N.Nodup) (hi:X.N[i]?=some x) (hx:Loc X.env.scope x) (he:PE X e te) (hs:BO e (some (.Name x pos')) pos.line X.env=pure false:=by rfl) (hf:X.fn x=true\/X.env.scope.names.lookup x=some .local:=by first|exact .inl rfl|exact .inr rfl|assumption) :
  PS X (.Assign [.Name x pos'] e pos) (dv te (bx i)):=by
 intro pins s Z H D I h;refine wpAny_Assign_Name (gp (he pins s Z H _ I h) λv s1 ⟨y,H1,I1,r1,q1⟩=>?_) hs;exact B8 I1 hN hi hx r1 (λs2 I2=>⟨_,H1,I2,q1⟩) hf
def LR (i:Nat) (te:TE) (ti:Xv):TS:=λD Z H=>∃ x,Z[i]?=some (some x)/\te Z H λy H1=>ti x y H1 λz H2=>D.nx (Z.set i (some z)) H2
def Cd {te:TE}{op:wH}{ti:Xv}(hN:X.N.Nodup) (hi:X.N[i]?=some x) (hx:Loc X.env.scope x) (he:PE X e te) (ho:PIp X op ti) (hf:X.fn x=true\/X.env.scope.names.lookup x=some .local:=by first|exact .inl rfl|exact .inr rfl|assumption) :
  PS X (.AugAssign (.Name x pos') op e pos) (LR i te ti):=by
 intro pins s Z H D I h;obtain ⟨v,e1,h⟩:=h;obtain ⟨m,hn,hl⟩:=I.loc
 have vis:Vis X.env.scope x:=by rcases hx with k|k;exact .inl k;exact .inr (.inl k)
 obtain ⟨u,r,l⟩:=hl i x v hi e1 vis;refine wpAny_AugAssign_Name ?_
 have go:aH (aL X.prog X.w) X.A (fo e X.env) (λw s₂=>aH (aL X.prog X.w) X.A (BP op u w) (λr s₃=>aH (aL X.prog X.w) X.A (storeName X.env x r) (λ_=>SP X pins D .next) X.xe s₃) X.xe s₂) X.xe s:=by
  refine gp (he pins s Z H _ I h) λw s1 ⟨y,H1,I1,r1,q1⟩=>?_;refine gp (ho pins s1 Z H1 v y u w _ I1 r r1 q1) λz s2 ⟨zv,H2,I2,r2,q2⟩=>?_;exact B8 I2 hN hi hx r2 (λs3 I3=>⟨_,H2,I3,q2⟩) hf
 rcases l with ⟨hk,hm⟩|⟨hk,c,hc,hcell⟩
 .exact kQ I.ok.kind hk hn hm go
 .rcases hk with hk|hk
  .exact Zk I.ok.kind hk hc hcell go
  .rcases hx with k|k
   .have:X.env.scope.names.lookup x=some .free:=hk;rw [k] at this;cases this
   .have:X.env.scope.names.lookup x=some .free:=hk;rw [k] at this;cases this
def FY (to ti te:TE) (tget:V->V->Hp->VK->Prop) (tip:Xv) (tset:OG):TS:=λD Z H=>to Z H λo H1=>ti Z H1 λi H2=>tget o i H2 λx H3=>te Z H3 λy H4=>tip x y H4 λz H5=>tset o i z H5 λH6=>D.nx Z H6
def Zz (X:Cx) (t:V->V->Hp->VK->Prop):Prop :=
 ∀ (pins:List (af×iF)) (s:ax) (Z:St) (H:Hp) (o i:V) (ov iv:aj) (Q:VK),Inv X pins Z H s->RelV o ov->RelV i iv->t o i H Q ->
  aH (aL X.prog X.w) X.A (IV ov iv) (EP X pins Z Q) X.xe s
def BD {o i:Expr}{to ti te:TE}{tget:V->V->Hp->VK->Prop}{tip:Xv}{tset:OG}{op:wH}(ho:PE X o to) (hi:PE X i ti) (hg:Zz X tget) (he:PE X e te) (hp:PIp X op tip) (hs:QE X tset)
  (ha:∀ ov iv new,augStore i ov iv new=(do jS [new,ov,iv] (VI ov iv new);release [new,ov,iv] [];pure .next):=by intros;rfl):PS X (.AugAssign (.Subscript o i tpos) op e pos) (FY to ti te tget tip tset):=by
 intro pins s Z H D I h;refine Nm (gp (ho pins s Z H _ I h) λov s1 ⟨x1,H1,I1,r1,q1⟩=>?_) ha;refine gp (hi pins s1 Z H1 _ I1 q1) λiv s2 ⟨x2,H2,I2,r2,q2⟩=>?_;refine gp (hg pins s2 Z H2 x1 x2 ov iv _ I2 r1 r2 q2) λold s3 ⟨x3,H3,I3,r3,q3⟩=>?_;refine gp (he pins s3 Z H3 _ I3 q3) λv s4 ⟨x4,H4,I4,r4,q4⟩=>?_;refine gp (hp pins s4 Z H4 x3 x4 old v _ I4 r3 r4 q4) λnew s5 ⟨x5,H5,I5,r5,q5⟩=>?_
 exact gp (hs pins s5 Z H5 x1 x2 x5 ov iv new _ I5 r1 r2 r5 q5) λ_ s6 ⟨H6,I6,q6⟩=>⟨Z,H6,I6,q6⟩
def Xx (f:Int->Int->Int):Xv:=λx y H Q=>∃ i j,x=.int i/\y=.int j/\Q (.int (f i j)) H
def G5:PIp X .Add (Xx λi j=>i+j):=by
 intro pins s Z H x y v u Q I r1 r2 h;obtain ⟨i,j,e1,e2,q⟩:=h;subst e1;subst e2;obtain ⟨t,rfl⟩:=r1;obtain ⟨t',rfl⟩:=r2;exact Ow ⟨.int _,H,I.tok _,⟨_,rfl⟩,q⟩
end
section
variable {X:Cx}
def Ce (c:TT) (tb:TS):TS:=λD Z H=>∃ W:Nat->St->Hp->Prop,(∃ m,W m Z H)/\∀ m Z H,W m Z H ->
 c Z H λb H1=>if b=true then ∃ N:St->Hp->Prop,(∀ σ' H',N σ' H'->∃ m',m'<m/\W m' σ' H')/\tb { D with nx:=N,ct:=N,bk:=D.nx } Z H1 else D.nx Z H1
def wZ {tc:TT}{tb:TS}(hp:PassesOwn (aL X.prog X.w) X.A X.env X.xe) (hc:PT X c tc) (hb:IT X body tb):PS X (.While c body [] pos) (Ce tc tb):=by
 intro pins s Z H D I h;obtain ⟨W,⟨m0,w0⟩,turn⟩:=h;refine wpAny_While (codeAny_whileLoop (λn s'=>∃ σ' H',Inv X pins σ' H' s'/\W n σ' H') ?_ m0 ⟨Z,H,I,w0⟩);rintro n s1 ⟨σ1,H1,I1,w1⟩;refine jY hp (gp (hc pins s1 σ1 H1 _ I1 (turn n σ1 H1 w1)) λb s2 ⟨H2,I2,q2⟩=>?_)
 cases b with
 | true =>
  obtain ⟨N,hN,q2⟩:=q2;rw [if_pos rfl];refine jY hp (gp (hb pins s2 σ1 H2 _ I2 q2) λf s3 q3=>?_)
  cases f with
  | next =>
   obtain ⟨σ3,H3,I3,n3⟩:=q3;obtain ⟨m',hm,w3⟩:=hN σ3 H3 n3
   exact ⟨m',hm,σ3,H3,I3,w3⟩
  | cont =>
   obtain ⟨σ3,H3,I3,n3⟩:=q3;obtain ⟨m',hm,w3⟩:=hN σ3 H3 n3
   exact ⟨m',hm,σ3,H3,I3,w3⟩
  | brk=>exact q3
  | ret v=>exact q3
 | false =>
  rw [if_neg bD];exact qp ⟨σ1,H2,I2,q2⟩
end
structure It where
 go:Nat->Hp->Prop
 Nd:Nat->Hp->V->Hp->Prop
 stop:Nat->Hp->Prop
def yX (X:Cx) (pins:List (af×iF)) (H:Hp) (b:af):Prop :=
 H b=none/\b≠X.env.locals/\b∉X.fs/\(b∈X.ex\/X.s₀.heap.objs.size<=b)/\(∀ x c,X.env.cells.lookup x=some c->c≠b)/\∀ p∈X.pn++pins,p.1≠b
def Inv.Nc {X:Cx}{Z:St}{H H':Hp}(I:Inv X pins Z H s) (hb:s.heap.objs.size<=b) (hn:H' b=none):yX X pins H' b:=by
 refine ⟨hn,fe (bj I.lt hb),I.nofs hb,.inr (br I.sz hb),λx c e z=>?_,λp hp z=>?_⟩
 .obtain ⟨v,q⟩:=I.cell x c e;exact absurd (bj q.lt (by rw [z];exact hb)) (fA _)
 .exact absurd (bj (aJ (I.pin p hp).1) (by rw [z];exact hb)) (fA _)
structure OI (P:bA) (w:cg) (K:ae) (tg:Expr) (J:It) (fp:List af) (it:af) (tn:Nat->cK->Prop):Prop where
 mem:it∈fp
 obj:∀ i h,tn i h->∀ b∈fp,∃ o,h.get? b=some o/\∀ v,o.data≠.cell v
 keep:∀ i h h',tn i h->(∀ b∈fp,∀ o,h.get? b=some o->h'.get? b=some o)->tn i h'
 item:∀ (X:Cx),X.prog=P->X.w=w->X.K=K->X.calm=true->∀ (i:Nat) (pins:List (af×iF)) (s:ax) (Z:St) (H:Hp) (E:aj->ax->Prop),Inv X pins Z H s->(∀ b∈fp,yX X pins H b)->tn i s.heap->J.go i H ->
  aH (aL P w) X.A (jh (.ref it)) (λr s1=>∃ u,r=some u /\
   aH (aL P w) X.A (yT tg (.ref it) u) (λ_ s2=>∃ x H',Inv X pins Z H' s2/\RelV x u/\J.Nd i H x H'/\tn (i+1) s2.heap/\∀ b∈fp,H' b=none) E s1) E s
 done:∀ (X:Cx),X.prog=P->X.w=w->X.K=K->X.calm=true->∀ (i:Nat) (pins:List (af×iF)) (s:ax) (Z:St) (H:Hp) (E:aj->ax->Prop),Inv X pins Z H s->(∀ b∈fp,yX X pins H b)->tn i s.heap->J.stop i H ->
  aH (aL P w) X.A (jh (.ref it)) (λr s1=>r=none/\Inv X pins Z H s1) E s
 self:∀ (A:cL) (i:Nat) (s:ax) (Q:aj->ax->Prop) (E:aj->ax->Prop),tn i s.heap->Q (.ref it) s->aH (aL P w) A (PF (.ref it)) Q E s
abbrev TI:=St->Hp->(It->Hp->Prop)->Prop
def PIE (X:Cx) (pins:List (af×iF)) (Z:St) (tg:Expr) (R:It->Hp->Prop) (itv:aj) (s2:ax):Prop :=
 ∃ (it:af) (fp:List af) (tn:Nat->cK->Prop) (J:It) (H':Hp),itv=.ref it/\Inv X pins Z H' s2/\OI X.prog X.w X.K tg J fp it tn/\tn 0 s2.heap/\(∀ b∈fp,yX X pins H' b)/\R J H'
def PI (X:Cx) (tg iter:Expr) (wi:TI):Prop :=
 ∀ (pins:List (af×iF)) (s:ax) (Z:St) (H:Hp) (R:It->Hp->Prop),Inv X pins Z H s->wi Z H R ->
  aH (aL X.prog X.w) X.A (fo iter X.env) (λv s1=>aH (aL X.prog X.w) X.A (PF v) (PIE X pins Z tg R) X.xe s1) X.xe s
def JA {n:String}{vs:Array aj}{Q:Unit->ax->Prop}(ho:s.heap.get? it=some o) (hc:o.cls=.type n) (hd:o.data=.fields vs)
    (hn:["enumerate","zip","dict_itemiterator","dict_reverseitemiterator","odict_iterator","itertools.zip_longest","itertools.pairwise"].contains n=false) (hQ:Q () s):aH M A (yT tg (.ref it) u) Q E s:=by
  unfold yT
  cases tg<;>first
    | exact ak hQ
    | (cases u<;>first
        | exact ak hQ
        | (refine aa (PH ho ?_)
           rw [hc,hd]
           show aH M A (if (["enumerate","zip","dict_itemiterator","dict_reverseitemiterator","odict_iterator","itertools.zip_longest","itertools.pairwise"].contains n && vs[0]? == some (cw _))=true then _ else _) Q E s
           rw [if_neg (by intro h;rw [hn,Bool.false_and] at h;cases h)]
           exact ak hQ))
def Qg (K:ae) (a:af):It :=
 ⟨λi H=>∃ xs x,dm K H a xs/\xs[i]?=some x,λi H x H'=>H'=H/\∀ xs,dm K H a xs->xs[i]?=some x,λi H=>∃ xs,dm K H a xs/\xs.length<=i⟩
def Ze (K:ae) (a:af):It :=
 ⟨λi H=>∃ xs x,jq K H a xs/\xs[i]?=some x,λi H x H'=>H'=H/\∀ xs,jq K H a xs->xs[i]?=some x,λi H=>∃ xs,jq K H a xs/\xs.length<=i⟩
def QG (lo:Int) (n:Nat):It:=⟨λi _=>i<n,λi H x H'=>H'=H/\x=.int (lo+i),λi _=>n<=i⟩
def OJ (a it:af):OI P w K tg (Qg K a) [it] it (λi h=>h.IsListIter it a i) where
 mem:=by simp
 obj:=λi h st b hb=>by
  have e:b=it:=by simpa using hb
  subst e;obtain ⟨o,e,c,d⟩:=st;exact ⟨o,e,λv z=>by rw [d] at z;cases z⟩
 keep:=λi h h' st k=>st.at λo e=>k it (by simp) o e
 item:=by
  intro X hP hw hK hc i pins s Z H E I hf st hg;subst hP hw hK;obtain ⟨xs,x,hq,hx⟩:=hg;obtain ⟨its,rv,p,hz⟩:=I.list hq;obtain ⟨u,hu,ru⟩:=rv.get hx;obtain ⟨f0,f1,f2,f3,f4,f5⟩:=hf it (by simp);refine wpAny_pyNext_list_item st p.isList (x:=u) (by simpa using hu) λh' st' sb=>?_;have I1:Inv X pins Z H { s with heap:=h' }:=I.turned (t':=s.toks) (λb o hb e=>(sb.2 b hb).trans e) f0 f1 f3 f4 f5;obtain ⟨o,e,c,d⟩:=id st';exact ⟨u,rfl,JA (s:={ s with heap:=h' }) e c d (by decide) ⟨x,H,I1,ru,⟨rfl,λys hy=>by rw [I.Tv hy hq];exact hx⟩,st',λb hb=>(hf b hb).1⟩⟩
 done:=by
  intro X hP hw hK hc i pins s Z H E I hf st hg;subst hP hw hK;obtain ⟨xs,hq,hx⟩:=hg;obtain ⟨its,rv,p,hz⟩:=I.list hq;obtain ⟨f0,f1,f2,f3,f4,f5⟩:=hf it (by simp);have hl:=rv.length
  exact wpAny_pyNext_list_end (I.ok.hd hc) st p.isList (by simp;lia) λh' eb=>⟨rfl,I.turned (t':=s.toks) (λb o hb e=>eb b o hb e) f0 f1 f3 f4 f5⟩
 self:=λ_ _ _ _ _ st h=>wpAny_pyIter_listiter st h
def LS (a it:af):OI P w K tg (Ze K a) [it] it (λi h=>h.IsTupleIter it a i) where
 mem:=by simp
 obj:=λi h st b hb=>by
  have e:b=it:=by simpa using hb
  subst e;obtain ⟨o,e,c,d⟩:=st;exact ⟨o,e,λv z=>by rw [d] at z;cases z⟩
 keep:=λi h h' st k=>st.at λo e=>k it (by simp) o e
 item:=by
  intro X hP hw hK hc i pins s Z H E I hf st hg;subst hP hw hK;obtain ⟨xs,x,hq,hx⟩:=hg;obtain ⟨its,rv,p,hz⟩:=I.tuple hq;obtain ⟨u,hu,ru⟩:=rv.get hx;obtain ⟨f0,f1,f2,f3,f4,f5⟩:=hf it (by simp);refine wpAny_pyNext_tuple_item st (show s.heap.IsTuple a its.toArray from p) (x:=u) (by simpa using hu) λh' st' sb=>?_;have I1:Inv X pins Z H { s with heap:=h' }:=I.turned (t':=s.toks) (λb o hb e=>(sb.2 b hb).trans e) f0 f1 f3 f4 f5;obtain ⟨o,e,c,d⟩:=id st';exact ⟨u,rfl,JA (s:={ s with heap:=h' }) e c d (by decide) ⟨x,H,I1,ru,⟨rfl,λys hy=>by rw [I.Pw hy hq];exact hx⟩,st',λb hb=>(hf b hb).1⟩⟩
 done:=by
  intro X hP hw hK hc i pins s Z H E I hf st hg;subst hP hw hK;obtain ⟨xs,hq,hx⟩:=hg;obtain ⟨its,rv,p,hz⟩:=I.tuple hq;obtain ⟨f0,f1,f2,f3,f4,f5⟩:=hf it (by simp);have hl:=rv.length
  exact wpAny_pyNext_tuple_end (I.ok.hd hc) st (show s.heap.IsTuple a its.toArray from p) (by simp;lia) λh' eb=>⟨rfl,I.turned (t':=s.toks) (λb o hb e=>eb b o hb e) f0 f1 f3 f4 f5⟩
 self:=λ_ _ _ _ _ st h=>wpAny_pyIter_tupleiter st h
def LU (it:af) (lo:Int) (n:Nat):OI P w K tg (QG lo n) [it] it (λi h=>IsRangeIter h it (lo+(i:Nat)*1) ((n:Int)-(i:Nat)) 1) where
 mem:=by simp
 obj:=λi h st b hb=>by
  have e:b=it:=by simpa using hb
  subst e
  exact ⟨_,st,λv z=>by
   have z':Data.fields _=Data.cell v:=z
   cases z'⟩
 keep:=λi h h' st k=>k it (by simp) _ st
 item:=by
  intro X hP hw hK hc i pins s Z H E I hf st hg;subst hP hw hK;obtain ⟨f0,f1,f2,f3,f4,f5⟩:=hf it (by simp);have W:=Walks.range (prog:=X.prog) (w:=X.w) (I.ok.hd hc) it lo 1 n;refine W.item i s _ _ hg st λv h' tk hv st' kk=>?_;obtain ⟨t,rfl⟩:=hv;have I1:Inv X pins Z H { s with heap:=h',toks:=tk }:=I.turned (λb o hb e=>kk b o (by simpa using hb) e) f0 f1 f3 f4 f5;refine ⟨_,rfl,JA (s:={ s with heap:=h',toks:=tk }) (n:="range_iterator") st' rfl rfl (by decide) ⟨.int (lo+i),H,I1,⟨t,?_⟩,⟨rfl,rfl⟩,st',λb hb=>(hf b hb).1⟩⟩;rw [Int.mul_one]
 done:=by
  intro X hP hw hK hc i pins s Z H E I hf st hg;subst hP hw hK;obtain ⟨f0,f1,f2,f3,f4,f5⟩:=hf it (by simp)
  exact wpAny_pyNext_range_end (I.ok.hd hc) st (by have:n<=i:=hg;lia) λh' eb=>⟨rfl,I.turned (t':=s.toks) (λb o hb e=>eb b o hb e) f0 f1 f3 f4 f5⟩
 self:=λ_ _ _ _ _ st h=>wpAny_pyIter_rangeiter st h
section
variable {X:Cx}
def JB {Z:St}{H:Hp}{R:It->Hp->Prop}{hi:Int}{t u v:VH}{tk:Nat}(I:Inv X pins Z H s) (h1:-(2^62)<=lo) (h2:lo<2^62) (h3:-(2^62)<=hi) (h4:hi<2^62)
  (q:R (QG lo (hi-lo).toNat) H):aH (aL X.prog X.w) X.A (PF (.ref s.heap.objs.size)) (PIE X pins Z tg R) E { s with heap:=s.heap.push { cls:=.type "range",data:=.fields #[.int lo t,.int hi u,.int 1 v] },toks:=tk }:=by
 refine wpAny_pyIter_range (IsRange.new ..) (small_one h1 h2 h3 h4) ?_;have I1:Inv X pins Z H { s with heap:=s.heap.push { cls:=.type "range",data:=.fields #[.int lo t,.int hi u,.int 1 v] },toks:=tk }:=I.kept λb o e=>ar _ e
 refine ⟨(s.heap.push { cls:=.type "range",data:=.fields #[.int lo t,.int hi u,.int 1 v] }).objs.size,[(s.heap.push { cls:=.type "range",data:=.fields #[.int lo t,.int hi u,.int 1 v] }).objs.size],_,_,H,rfl,
  I1.kept (t':=tk) λb o e=>ar _ e,LU _ lo (hi-lo).toNat,?_,λb hb=>?_,q⟩
 .have e1:lo+((0:Nat):Int)*1=lo:=by simp
  have e2:(((hi-lo).toNat:Nat):Int)-((0:Nat):Int)=Builtin.Range.rangeSize lo hi 1:=by rw [rangeSize_one];split<;>lia
  show IsRangeIter _ _ (lo+((0:Nat):Int)*1) ((((hi-lo).toNat:Nat):Int)-((0:Nat):Int)) 1
  rw [e1,e2];exact aK _ rfl
 .have e:b=(s.heap.push { cls:=.type "range",data:=.fields #[.int lo t,.int hi u,.int 1 v] }).objs.size:=by simpa using hb
  subst e;exact I1.Nc (au _) (I1.eJ.fresh (au _))
def Ad (ta:TA):TI:=λZ H R=>ta Z H λvs H1=>∃ j:Int,vs=[.int j]/\-(2^62)<=j/\j<2^62/\R (QG 0 j.toNat) H1
def QH (ta:TA):TI:=λZ H R=>ta Z H λvs H1=>∃ i j:Int,vs=[.int i,.int j]/\(-(2^62)<=i/\i<2^62/\-(2^62)<=j/\j<2^62)/\R (QG i (j-i).toNat) H1
def yY {a:Expr}{ta:TA}(hg:Gl X "range") (hm:X.mg "range"=none) (ha:PA X [a] ta) (hs:bE [a] X.env=[(false,fo a X.env)]:=by rfl):PI X tg (.Call (.Name "range" p) [a] [] pos) (Ad ta):=by
 intro pins s Z H R I h;refine Call_ (nY I hg hm boot_range (eP (gp (ha pos pins s Z H _ I h) λus s1 ⟨vs,H1,I1,r1,q1⟩=>?_) hs rfl));obtain ⟨j,e,q1,q2,q⟩:=q1;subst e
 cases r1 with
 | cons r rr =>
  cases rr;obtain ⟨t,rfl⟩:=r;exact call_range_1 (JB I1 (by lia) (by lia) q1 q2 (by simpa using q))
def FZ {a b:Expr}{ta:TA}(hg:Gl X "range") (hm:X.mg "range"=none) (ha:PA X [a,b] ta) (hs:bE [a,b] X.env=[(false,fo a X.env),(false,fo b X.env)]:=by rfl) (hs2:bE [b] X.env=[(false,fo b X.env)]:=by rfl) :
  PI X tg (.Call (.Name "range" p) [a,b] [] pos) (QH ta):=by
 intro pins s Z H R I h;refine Call_ (nY I hg hm boot_range (eP (gp (ha pos pins s Z H _ I h) λus s1 ⟨vs,H1,I1,r1,q1⟩=>?_) (by rw [hs,hs2]) (by rw [hs2];rfl)));obtain ⟨i,j,e,⟨q1,q2,q3,q4⟩,q⟩:=q1;subst e
 cases r1 with
 | cons r rr =>
  cases rr with
  | cons r' rr =>
   cases rr;obtain ⟨t,rfl⟩:=r;obtain ⟨t',rfl⟩:=r';exact call_range_2 (JB I1 q1 q2 q3 q4 q)
def uJ (wi:TI) (g:TG) (tb:TS):TS:=λD Z H=>wi Z H λJ H1=>∃ W:Nat->Nat->St->Hp->Prop,(∃ m,W 0 m Z H1)/\∀ i m Z H,W i m Z H ->
 (J.stop i H/\D.nx Z H)\/(J.go i H/\∃ N:St->Hp->Prop,(∀ σ' H',N σ' H'->∃ m',m'<m/\W (i+1) m' σ' H')/\∀ x H',J.Nd i H x H'->g x Z H' λσ2 H2=>tb { D with nx:=N,ct:=N,bk:=D.nx } σ2 H2)
def Cg (fp:List af) (h:cK):List (af×iF):=fp.filterMap λb=>(h.get? b).map λo=>(b,o)
def qA (hb:b∈fp) (e:h.get? b=some o):(b,o)∈Cg fp h:=lD.mpr ⟨b,hb,by rw [e];rfl⟩
def OK {p:af×iF}(hp:p∈Cg fp h):p.1∈fp/\h.get? p.1=some p.2:=by
 obtain ⟨b,hb,e⟩:=lD.mp hp
 cases q:h.get? b with
 | none=>rw [q] at e;cases e
 | some o =>
  rw [q] at e;have e':(b,o)=p:=aU e;subst e';exact ⟨hb,q⟩
def Inv.pinned {Z:St}{H:Hp}(I:Inv X pins Z H s) (hf:∀ b∈fp,yX X pins H b) (ho:∀ b∈fp,∃ o,s.heap.get? b=some o/\∀ v,o.data≠.cell v):Inv X (pins++Cg fp s.heap) Z H s :=
 I.Ot λp hp=>(aQ.mp hp).elim (λz=>I.pin p (bO _ z)) λz=>by
  obtain ⟨hb,e⟩:=OK z;obtain ⟨f0,f1,f2,_⟩:=hf p.1 hb;obtain ⟨o,e',d⟩:=ho p.1 hb;rw [e] at e';cases e';exact ⟨e,f0,f1,f2,d⟩
def Inv.yF {pl:List (af×iF)}{Z:St}{H:Hp}(I:Inv X (pins++pl) Z H s):Inv X pins Z H s:=I.Ot λp hp=>I.pin p (bO _ (dU _ hp))
theorem yZ {iter:Expr}{wi:TI}{g:TG}{tb:TS}(hp:PassesOwn (aL X.prog X.w) X.A X.env X.xe) (hc:X.calm=true) (hi:PI X tg iter wi) (hg:PG X tg g) (hb:IT X body tb)
  (hs:∀ x,uA iter X.env x=pure x:=by intro _;rfl):PS X (.For tg iter body [] pos) (uJ wi g tb):=by
 intro pins s Z H D I h;refine wpAny_For (gp (hi pins s Z H _ I h) λv s1 h1=>gp h1 λitv s2 h2=>?_) hs;obtain ⟨it,fp,tn,J,H2,e,I2,T,st2,f2,W,⟨m0,w0⟩,turn⟩:=h2;subst e
 -- what stays true of the iterator's objects through the LW
 have stat:∀ {H':Hp},(∀ b∈fp,H' b=none)->∀ b∈fp,yX X pins H' b:=λhn b hb=>⟨hn b hb,(f2 b hb).2⟩
 refine codeAny_forLoop_any (λn s'=>∃ i σ' H',Inv X pins σ' H' s'/\tn i s'.heap/\(∀ b∈fp,H' b=none)/\W i n σ' H') ?_ m0 ⟨0,Z,H2,I2,st2,λb hb=>(f2 b hb).1,w0⟩;rintro n s3 ⟨i,σ3,H3,I3,st3,fr3,w3⟩
 rcases turn i n σ3 H3 w3 with ⟨stop,qn⟩|⟨go,N,hN,step⟩
 .refine jY hp (gp (T.done X rfl rfl rfl hc i pins s3 σ3 H3 X.xe I3 (stat fr3) st3 stop) λr s4 ⟨hr,I4⟩=>?_);subst hr;exact qp ⟨σ3,H3,I4,qn⟩
 .refine jY hp (gp (T.item X rfl rfl rfl hc i pins s3 σ3 H3 X.xe I3 (stat fr3) st3 go) λr s4 ⟨u,hr,h4⟩=>?_);subst hr;refine jY hp (gp h4 λ_ s5 ⟨x,H5,I5,r5,y5,st5,fr5⟩=>?_);have I5':=I5.pinned (stat fr5) (T.obj _ _ st5);refine jY hp (gp (hg _ s5 σ3 H5 x u _ I5' r5 (step x H5 y5)) λ_ s6 ⟨σ6,H6,I6,q6⟩=>?_);refine jY hp (gp (hb _ s6 σ6 H6 _ I6 q6) λf s7 q7=>?_)
  have again:∀ {σ7:St}{H7:Hp},Inv X (pins++Cg fp s5.heap) σ7 H7 s7->N σ7 H7->∃ m,m<n/\∃ i σ' H',Inv X pins σ' H' s7/\tn i s7.heap/\(∀ b∈fp,H' b=none)/\W i m σ' H':=λ{σ7 H7} I7 n7=>by
   obtain ⟨m',hm,w7⟩:=hN σ7 H7 n7;refine ⟨m',hm,i+1,σ7,H7,I7.yF,T.keep _ _ _ st5 λb hb o e=>(I7.pin (b,o) (bO _ (bO _ (qA hb e)))).1,λb hb=>?_,w7⟩;obtain ⟨o,e,d⟩:=T.obj _ _ st5 b hb;exact (I7.pin (b,o) (bO _ (bO _ (qA hb e)))).2.1
  cases f with
  | next=>obtain ⟨σ7,H7,I7,n7⟩:=q7;exact again I7 n7
  | cont=>obtain ⟨σ7,H7,I7,n7⟩:=q7;exact again I7 n7
  | brk=>obtain ⟨σ7,H7,I7,q7⟩:=q7;exact ⟨σ7,H7,I7.yF,q7⟩
  | ret v=>obtain ⟨x7,σ7,H7,I7,r7,q7⟩:=q7;exact ⟨x7,σ7,H7,I7.yF,r7,q7⟩
end
def kW {xs:List V}{g:TG}{tb:TS}{D:rN}{Z:St}{H:Hp}(Pv:Nat->St->Hp->Prop) (h0:Pv 0 Z H) (hl:∀ i Z H,i<=xs.length->Pv i Z H->dm K H a xs)
  (hs:∀ i x Z H,xs[i]?=some x->Pv i Z H->g x Z H λσ2 H2=>tb { D with nx:=Pv (i+1),ct:=Pv (i+1),bk:=D.nx } σ2 H2) (hd:∀ Z H,Pv xs.length Z H->D.nx Z H) :
  ∃ W:Nat->Nat->St->Hp->Prop,(∃ m,W 0 m Z H)/\∀ i m Z H,W i m Z H ->
   ((Qg K a).stop i H/\D.nx Z H)\/((Qg K a).go i H/\∃ N:St->Hp->Prop,(∀ σ' H',N σ' H'->∃ m',m'<m/\W (i+1) m' σ' H')/\∀ x H',(Qg K a).Nd i H x H'->g x Z H' λσ2 H2=>tb { D with nx:=N,ct:=N,bk:=D.nx } σ2 H2):=by
 refine ⟨λi m Z H=>m=xs.length-i/\i<=xs.length/\Pv i Z H,⟨xs.length,by simp,aO _,h0⟩,?_⟩;rintro i m Z H ⟨rfl,hi,p⟩;have q:=hl i Z H hi p
 by_cases hlt:i<xs.length
 .refine .inr ⟨⟨xs,xs[i],q,by simp [hlt]⟩,Pv (i+1),λσ' H' p'=>⟨xs.length-(i+1),by lia,rfl,hlt,p'⟩,λx H' y=>?_⟩;obtain ⟨e,y⟩:=y;subst e;exact hs i x Z _ (y xs q) p
 .have e:i=xs.length:=by lia
  subst e;exact .inl ⟨⟨xs,q,au _⟩,hd Z H p⟩
def Uu {xs:List V}{g:TG}{tb:TS}{D:rN}{Z:St}{H:Hp}(Pv:Nat->St->Hp->Prop) (h0:Pv 0 Z H) (hl:∀ i Z H,i<=xs.length->Pv i Z H->jq K H a xs)
  (hs:∀ i x Z H,xs[i]?=some x->Pv i Z H->g x Z H λσ2 H2=>tb { D with nx:=Pv (i+1),ct:=Pv (i+1),bk:=D.nx } σ2 H2) (hd:∀ Z H,Pv xs.length Z H->D.nx Z H) :
  ∃ W:Nat->Nat->St->Hp->Prop,(∃ m,W 0 m Z H)/\∀ i m Z H,W i m Z H ->
   ((Ze K a).stop i H/\D.nx Z H)\/((Ze K a).go i H/\∃ N:St->Hp->Prop,(∀ σ' H',N σ' H'->∃ m',m'<m/\W (i+1) m' σ' H')/\∀ x H',(Ze K a).Nd i H x H'->g x Z H' λσ2 H2=>tb { D with nx:=N,ct:=N,bk:=D.nx } σ2 H2):=by
 refine ⟨λi m Z H=>m=xs.length-i/\i<=xs.length/\Pv i Z H,⟨xs.length,by simp,aO _,h0⟩,?_⟩;rintro i m Z H ⟨rfl,hi,p⟩;have q:=hl i Z H hi p
 by_cases hlt:i<xs.length
 .refine .inr ⟨⟨xs,xs[i],q,by simp [hlt]⟩,Pv (i+1),λσ' H' p'=>⟨xs.length-(i+1),by lia,rfl,hlt,p'⟩,λx H' y=>?_⟩;obtain ⟨e,y⟩:=y;subst e;exact hs i x Z _ (y xs q) p
 .have e:i=xs.length:=by lia
  subst e;exact .inl ⟨⟨xs,q,au _⟩,hd Z H p⟩
def ui {g:TG}{tb:TS}{D:rN}{Z:St}{H:Hp}(Pv:Nat->St->Hp->Prop) (h0:Pv 0 Z H)
  (hs:∀ i Z H,i<n->Pv i Z H->g (.int (lo+i)) Z H λσ2 H2=>tb { D with nx:=Pv (i+1),ct:=Pv (i+1),bk:=D.nx } σ2 H2) (hd:∀ Z H,Pv n Z H->D.nx Z H) :
  ∃ W:Nat->Nat->St->Hp->Prop,(∃ m,W 0 m Z H)/\∀ i m Z H,W i m Z H ->
   ((QG lo n).stop i H/\D.nx Z H)\/((QG lo n).go i H/\∃ N:St->Hp->Prop,(∀ σ' H',N σ' H'->∃ m',m'<m/\W (i+1) m' σ' H')/\∀ x H',(QG lo n).Nd i H x H'->g x Z H' λσ2 H2=>tb { D with nx:=N,ct:=N,bk:=D.nx } σ2 H2):=by
 refine ⟨λi m Z H=>m=n-i/\i<=n/\Pv i Z H,⟨n,by simp,aO _,h0⟩,?_⟩;rintro i m Z H ⟨rfl,hi,p⟩
 by_cases hlt:i<n
 .refine .inr ⟨hlt,Pv (i+1),λσ' H' p'=>⟨n-(i+1),by lia,rfl,hlt,p'⟩,λx H' y=>?_⟩;obtain ⟨e,y⟩:=y;subst e y;exact hs i Z _ hlt p
 .have e:i=n:=by lia
  subst e;exact .inl ⟨au _,hd Z H p⟩
abbrev R2:=V->V->Hp->VK->Prop
def qS (X:Cx) (f:aj->aj->LF aj) (r:R2):Prop :=
 ∀ (pins:List (af×iF)) (s:ax) (Z:St) (H:Hp) (x y:V) (v u:aj) (Q:VK),Inv X pins Z H s->RelV x v->RelV y u->r x y H Q ->
  aH (aL X.prog X.w) X.A (f v u) (EP X pins Z Q) X.xe s
def UnR (X:Cx) (f:aj->LF aj) (r:V->Hp->VK->Prop):Prop :=
 ∀ (pins:List (af×iF)) (s:ax) (Z:St) (H:Hp) (x:V) (v:aj) (Q:VK),Inv X pins Z H s->RelV x v->r x H Q ->
  aH (aL X.prog X.w) X.A (f v) (EP X pins Z Q) X.xe s
def lj (X:Cx) (f:aj) (r:List V->Hp->VK->Prop):Prop :=
 ∀ (pins:List (af×iF)) (s:ax) (Z:St) (H:Hp) (xs:List V) (us:List aj) (Q:VK),Inv X pins Z H s->Vals xs us->r xs H Q ->
  aH (aL X.prog X.w) X.A (call f us) (EP X pins Z Q) X.xe s
def TruR (X:Cx) (r:V->Hp->(Bool->Hp->Prop)->Prop):Prop :=
 ∀ (pins:List (af×iF)) (s:ax) (Z:St) (H:Hp) (x:V) (v:aj) (Q:Bool->Hp->Prop),Inv X pins Z H s->RelV x v->r x H Q ->
  aH (aL X.prog X.w) X.A (truthy v) (TP X pins Z Q) X.xe s
def cm (r:R2) (ta tb:TE):TE:=λZ H Q=>ta Z H λx H1=>tb Z H1 λy H2=>r x y H2 Q
def tUn (r:V->Hp->VK->Prop) (ta:TE):TE:=λZ H Q=>ta Z H λx H1=>r x H1 Q
def rI (C:Int->Int->Prop) (g:Int->Int->V):R2:=λx y H Q=>∃ i j,x=.int i/\y=.int j/\C i j/\Q (g i j) H
def pL (g:Int->Int->V):R2:=λx y H Q=>∃ i j,x=.int i/\y=.int j/\Q (g i j) H
def rU (g:Int->V):V->Hp->VK->Prop:=λx H Q=>∃ i,x=.int i/\Q (g i) H
section
variable {X:Cx}{a b:Expr}{ta tb tc:TE}
def Xy (ha:PE X a ta) (hb:PE X b tb) {pins:List (af×iF)}{s:ax}{Z:St}{H:Hp}{R:V->V->Hp->Prop}(I:Inv X pins Z H s)
  (h:ta Z H λx H1=>tb Z H1 λy H2=>R x y H2) {Q:aj->ax->Prop}{f:aj->aj->LF aj}
  (hf:∀ v u s2 x y H2,Inv X pins Z H2 s2->RelV x v->RelV y u->R x y H2->aH (aL X.prog X.w) X.A (f v u) Q X.xe s2) :
  aH (aL X.prog X.w) X.A (fo a X.env) (λv s₁=>aH (aL X.prog X.w) X.A (fo b X.env) (λu s₂=>aH (aL X.prog X.w) X.A (f v u) Q X.xe s₂) X.xe s₁) X.xe s:=by
 refine gp (ha pins s Z H _ I h) λv s1 ⟨x,H1,I1,r1,q1⟩=>?_;refine gp (hb pins s1 Z H1 _ I1 q1) λu s2 ⟨y,H2,I2,r2,q2⟩=>?_;exact hf v u s2 x y H2 I2 r1 r2 q2
def iU {op:wH}{r:R2}(ho:qS X (rT op) r) (ha:PE X a ta) (hb:PE X b tb):PE X (.BinOp a op b pos) (cm r ta tb):=by
 intro pins s Z H Q I h;exact wpAny_BinOp (Xy ha hb I h λv u s2 x y H2 I2 rx ry q=>ho pins s2 Z H2 x y v u Q I2 rx ry q)
def ZA {op:UnaryOp}{r:V->Hp->VK->Prop}(ho:UnR X (unaryOp op) r) (ha:PE X a ta):PE X (.UnaryOp op a pos) (tUn r ta):=by
 intro pins s Z H Q I h;exact UnaryOp_ (gp (ha pins s Z H _ I h) λv s1 ⟨x,H1,I1,r1,q1⟩=>ho pins s1 Z H1 x v Q I1 r1 q1)
def opI {f:aj->aj->LF aj}{C:Int->Int->Prop}{g:Int->Int->Int}
  (FT:∀ (i j:Int) (t u:VH) (s:ax) (Q:aj->ax->Prop) (E:aj->ax->Prop),C i j->Q (.int (g i j) s.toks) { s with toks:=s.toks+1 }->aH (aL X.prog X.w) X.A (f (.int i t) (.int j u)) Q E s) :
  qS X f (rI C λi j=>.int (g i j)):=by
 intro pins s Z H x y v u Q I rx ry h;obtain ⟨i,j,rfl,rfl,hc,q⟩:=h;obtain ⟨t,rfl⟩:=rx;obtain ⟨t',rfl⟩:=ry;exact FT i j t t' s _ _ hc ⟨.int (g i j),H,I.tok _,⟨_,rfl⟩,q⟩
def Uv {f:aj->aj->LF aj}{g:Int->Int->Int}
  (FT:∀ (i j:Int) (t u:VH) (s:ax) (Q:aj->ax->Prop) (E:aj->ax->Prop),Q (.int (g i j) s.toks) { s with toks:=s.toks+1 }->aH (aL X.prog X.w) X.A (f (.int i t) (.int j u)) Q E s) :
  qS X f (pL λi j=>.int (g i j)):=by
 intro pins s Z H x y v u Q I rx ry h;obtain ⟨i,j,rfl,rfl,q⟩:=h;obtain ⟨t,rfl⟩:=rx;obtain ⟨t',rfl⟩:=ry;exact FT i j t t' s _ _ ⟨.int (g i j),H,I.tok _,⟨_,rfl⟩,q⟩
def Uw {f:aj->aj->LF aj}{g:Int->Int->Bool}
  (FT:∀ (i j:Int) (t u:VH) (s:ax) (Q:aj->ax->Prop) (E:aj->ax->Prop),Q (.bool (g i j)) s->aH (aL X.prog X.w) X.A (f (.int i t) (.int j u)) Q E s) :
  qS X f (pL λi j=>.bl (g i j)):=by
 intro pins s Z H x y v u Q I rx ry h;obtain ⟨i,j,rfl,rfl,q⟩:=h;obtain ⟨t,rfl⟩:=rx;obtain ⟨t',rfl⟩:=ry;exact FT i j t t' s _ _ ⟨.bl (g i j),H,I,rfl,q⟩
def pP (i j:Int):Prop:=0<j/\j<1073741824
def FS (i j:Int):Prop:=(-(2^64)<i/\i<2^64)\/(-(2^64)<j/\j<2^64)
def FS.ok {i:Int}(h:FS i j):IntMulOk i j:=by
 rcases h with ⟨h1,h2⟩|⟨h1,h2⟩
 .exact .of_left (intBits_le_64 h1 h2)
 .exact .of_right (intBits_le_64 h1 h2)
def Xz:qS X (rT .Add) (pL λi j=>.int (i+j)):=Uv λ_ _ _ _ _ _ _ q=>add_int q
def G6:qS X (rT .Sub) (pL λi j=>.int (i-j)):=Uv λ_ _ _ _ _ _ _ q=>sub_int q
def XA:qS X (rT .Mult) (rI FS λi j=>.int (i*j)):=opI λ_ _ _ _ _ _ _ hc q=>mul_int q hc.ok
def uj:qS X (rT .FloorDiv) (rI pP λi j=>.int (i/j)):=opI λi j _ _ _ _ _ hc q=>by
 have h1:(0:Int)<j:=hc.1;have h2:j<1073741824:=hc.2;exact floordiv_int (by lia) (by rw [Int.fdiv_eq_ediv_of_nonneg i (by lia)];exact q) (.inl (PyProof.noPylong_small (by lia)))
def y3:qS X (rT .Mod) (rI (λ_ j=>0<j) λi j=>.int (i%j)):=opI λi j _ _ _ _ _ hc q=>by
 have h1:(0:Int)<j:=hc;exact mod_int' (by lia) (by rw [Int.fmod_eq_emod_of_nonneg i (by lia)];exact q)
def G7:qS X (BP .Add) (pL λi j=>.int (i+j)):=Uv λ_ _ _ _ _ _ _ q=>Ow q
def Ux:qS X (BP .Sub) (pL λi j=>.int (i-j)):=Uv λ_ _ _ _ _ _ _ q=>isub_int q
def Uy:qS X (BP .Mult) (rI FS λi j=>.int (i*j)):=opI λ_ _ _ _ _ _ _ hc q=>imul_int q hc.ok
def unI {f:aj->LF aj}{g:Int->Int}
  (FT:∀ (i:Int) (t:VH) (s:ax) (Q:aj->ax->Prop) (E:aj->ax->Prop),Q (.int (g i) s.toks) { s with toks:=s.toks+1 }->aH (aL X.prog X.w) X.A (f (.int i t)) Q E s) :
  UnR X f (rU λi=>.int (g i)):=by
 intro pins s Z H x v Q I rx h;obtain ⟨i,rfl,q⟩:=h;obtain ⟨t,rfl⟩:=rx;exact FT i t s _ _ ⟨.int (g i),H,I.tok _,⟨_,rfl⟩,q⟩
def XB:UnR X (unaryOp .USub) (rU λi=>.int (-i)):=unI λ_ _ _ _ _ q=>neg_int q
end
def ZC:V->V->Bool
 | .non,.non=>true | .non,.int _=>true | .int _,.non=>true | .non,.bl _=>true | .bl _,.non=>true | .non,.str _=>true | .str _,.non=>true
 | .int _,.int _=>true | .bl _,.bl _=>true | .str _,.str _=>true | .byt _,.byt _=>true
 | .int _,.str _=>true | .str _,.int _=>true | .bl _,.str _=>true | .str _,.bl _=>true
 | _,_=>false
def rEq:R2:=λx y H Q=>ZC x y=true/\Q (.bl (decide (x=y))) H
def rNe:R2:=λx y H Q=>ZC x y=true/\Q (.bl (!decide (x=y))) H
def Nz {i:Int}:decide (V.int i=V.int j)=(i == j):=by
 rw [iG];simp
def QI {i j:Bool}:decide (V.bl i=V.bl j)=(i == j):=by
 rw [iG];simp
def NA {i j:bB}:decide (V.str i=V.str j)=(i == j):=by
 rw [iG];simp
def NB {i j:Array UInt8}:decide (V.byt i=V.byt j)=(i.toList == j.toList):=by
 rw [iG];cases i;cases j;simp
section
variable {X:Cx}{a b:Expr}{ta tb tc:TE}
def eY {Z:St}{H:Hp}{Q:VK}{k k':Bool}(I:Inv X pins Z H s) (q:Q (.bl k) H) (e:k=k'):EP X pins Z Q (.bool k') s:=by
 subst e;exact ⟨.bl k,H,I,rfl,q⟩
def ZD:qS X (dk .Eq) rEq:=by
 intro pins s Z H x y v u Q I rx ry h;obtain ⟨hs,q⟩:=h
 cases x with
 | non =>
  cases rx
  cases y with
  | non=>cases ry;exact PySem.EqNone.eq_none_none (eY I q (by simp))
  | bl j=>cases ry;exact PySem.EqNone.eq_none_bool (eY I q (by simp))
  | int j=>obtain ⟨t',rfl⟩:=ry;exact PySem.EqNone.eq_none_int (eY I q (by simp))
  | str j=>obtain ⟨t',rfl⟩:=ry;exact PySem.EqNone.eq_none_str (eY I q (by simp))
  | _=>exact absurd (show false=true from hs) bD
 | bl i =>
  cases rx
  cases y with
  | non=>cases ry;exact PySem.EqNone.eq_bool_none (eY I q (by simp))
  | bl j=>cases ry;exact eq_bool (eY I q QI)
  | str j=>obtain ⟨t',rfl⟩:=ry;exact PySem.EqMixed.eq_bool_str (eY I q (by simp))
  | _=>exact absurd (show false=true from hs) bD
 | int i =>
  obtain ⟨t,rfl⟩:=rx
  cases y with
  | non=>cases ry;exact PySem.EqNone.eq_int_none (eY I q (by simp))
  | int j=>obtain ⟨t',rfl⟩:=ry;exact eq_int (eY I q Nz)
  | str j=>obtain ⟨t',rfl⟩:=ry;exact PySem.EqMixed.eq_int_str (eY I q (by simp))
  | _=>exact absurd (show false=true from hs) bD
 | str i =>
  obtain ⟨t,rfl⟩:=rx
  cases y with
  | non=>cases ry;exact PySem.EqNone.eq_str_none (eY I q (by simp))
  | bl j=>cases ry;exact PySem.EqMixed.eq_str_bool (eY I q (by simp))
  | int j=>obtain ⟨t',rfl⟩:=ry;exact PySem.EqMixed.eq_str_int (eY I q (by simp))
  | str j=>obtain ⟨t',rfl⟩:=ry;exact eq_str (eY I q NA)
  | _=>exact absurd (show false=true from hs) bD
 | byt i =>
  obtain ⟨t,rfl⟩:=rx
  cases y with
  | byt j=>obtain ⟨t',rfl⟩:=ry;exact PySem.W.eq_bytes (eY I q NB)
  | _=>exact absurd (show false=true from hs) bD
 | _=>cases y<;>exact absurd (show false=true from hs) bD
theorem ZE:qS X (dk .NotEq) rNe:=by
 intro pins s Z H x y v u Q I rx ry h;obtain ⟨hs,q⟩:=h
 cases x with
 | non =>
  cases rx
  cases y with
  | non=>cases ry;exact PySem.EqNone.ne_none_none (eY I q (by simp))
  | bl j=>cases ry;exact PySem.EqNone.ne_none_bool (eY I q (by simp))
  | int j=>obtain ⟨t',rfl⟩:=ry;exact PySem.EqNone.ne_none_int (eY I q (by simp))
  | str j=>obtain ⟨t',rfl⟩:=ry;exact PySem.EqNone.ne_none_str (eY I q (by simp))
  | _=>exact absurd (show false=true from hs) bD
 | bl i =>
  cases rx
  cases y with
  | non=>cases ry;exact PySem.EqNone.ne_bool_none (eY I q (by simp))
  | bl j=>cases ry;exact ne_bool (eY I q (congrArg not QI))
  | str j=>obtain ⟨t',rfl⟩:=ry;exact PySem.EqMixed.ne_bool_str (eY I q (by simp))
  | _=>exact absurd (show false=true from hs) bD
 | int i =>
  obtain ⟨t,rfl⟩:=rx
  cases y with
  | non=>cases ry;exact PySem.EqNone.ne_int_none (eY I q (by simp))
  | int j=>obtain ⟨t',rfl⟩:=ry;exact ne_int (eY I q (congrArg not Nz))
  | str j=>obtain ⟨t',rfl⟩:=ry;exact PySem.EqMixed.ne_int_str (eY I q (by simp))
  | _=>exact absurd (show false=true from hs) bD
 | str i =>
  obtain ⟨t,rfl⟩:=rx
  cases y with
  | non=>cases ry;exact PySem.EqNone.ne_str_none (eY I q (by simp))
  | bl j=>cases ry;exact PySem.EqMixed.ne_str_bool (eY I q (by simp))
  | int j=>obtain ⟨t',rfl⟩:=ry;exact PySem.EqMixed.ne_str_int (eY I q (by simp))
  | str j=>obtain ⟨t',rfl⟩:=ry;exact ne_str (eY I q (congrArg not NA))
  | _=>exact absurd (show false=true from hs) bD
 | byt i =>
  obtain ⟨t,rfl⟩:=rx
  cases y with
  | byt j=>obtain ⟨t',rfl⟩:=ry;exact PySem.W.ne_bytes (eY I q (congrArg not NB))
  | _=>exact absurd (show false=true from hs) bD
 | _=>cases y<;>exact absurd (show false=true from hs) bD
def JC:qS X (dk .Lt) (pL λi j=>.bl (decide (i<j))):=Uw λ_ _ _ _ _ _ _ q=>Ue q
def NC:qS X (dk .LtE) (pL λi j=>.bl (decide (i<=j))):=Uw λ_ _ _ _ _ _ _ q=>le_int q
def QJ:qS X (dk .Gt) (pL λi j=>.bl (decide (j<i))):=Uw λ_ _ _ _ _ _ _ q=>gt_int q
def V3:qS X (dk .GtE) (pL λi j=>.bl (decide (j<=i))):=Uw λ_ _ _ _ _ _ _ q=>ge_int q
def qS.or {f:aj->aj->LF aj}{r r':R2}(h:qS X f r) (h':qS X f r'):qS X f (λx y H Q=>r x y H Q\/r' x y H Q):=by
 intro pins s Z H x y v u Q I rx ry q
 rcases q with q|q
 .exact h pins s Z H x y v u Q I rx ry q
 .exact h' pins s Z H x y v u Q I rx ry q
def ir (b:Expr) {op:CmpOp}(h:op≠.In:=by decide) (h2:op≠.NotIn:=by decide):j4 op b=false:=by
 have e1:(op == CmpOp.In)=false:=by cases op<;>first|rfl|exact absurd rfl h
 have e2:(op == CmpOp.NotIn)=false:=by cases op<;>first|rfl|exact absurd rfl h2
 cases b<;>simp [j4,e1,e2]
def Uz {r:R2}(ho:qS X (dk op) r) (ha:PE X a ta) (hb:PE X b tb) (hm:j4 op b=false):PE X (.Compare a [op] [b] pos) (cm r ta tb):=by
 intro pins s Z H Q I h;exact wpAny_Compare1 (Xy ha hb I h λv u s2 x y H2 I2 rx ry q=>ho pins s2 Z H2 x y v u Q I2 rx ry q) hm
def dj (t:TE):TT:=λZ H Q=>t Z H λx H'=>∃ k,x=.bl k/\Q k H'
def eV {r:R2}(ho:qS X (dk op) r) (ha:PE X a ta) (hb:PE X b tb) (hm:j4 op b=false):PT X (.Compare a [op] [b] pos) (dj (cm r ta tb)):=by
 intro pins s Z H Q I h
 refine W6 (gp (ha pins s Z H _ I h) λv s1 ⟨x,H1,I1,r1,q1⟩=>gp (hb pins s1 Z H1 _ I1 q1) λu s2 ⟨y,H2,I2,r2,q2⟩ =>
  gp (ho pins s2 Z H2 x y v u _ I2 r1 r2 q2) λc s3 ⟨z,H3,I3,r3,k,e,q3⟩=>?_) hm
 subst e;cases r3;exact i4 ⟨H3,I3,q3⟩
def G8 (r r':R2) (ta tb tc:TE):TE:=λZ H Q=>ta Z H λx H1=>tb Z H1 λy H2=>r x y H2 λz H3=>∃ k,z=.bl k /\
 (if k=true then tc Z H3 λw' H4=>r' y w' H4 Q else Q (.bl false) H3)
def JD {op':CmpOp}{r r':R2}(ho:qS X (dk op) r) (ho':qS X (dk op') r') (ha:PE X a ta) (hb:PE X b tb) (hc:PE X c tc)
  (hm:lastMarks [op,op'] [b,c]=false:=by with_unfolding_all rfl):PE X (.Compare a [op,op'] [b,c] pos) (G8 r r' ta tb tc):=by
 intro pins s Z H Q I h
 refine Compare_chain (gp (ha pins s Z H _ I h) λv s1 ⟨x,H1,I1,r1,q1⟩=>chain_link (gp (hb pins s1 Z H1 _ I1 q1) λu s2 ⟨y,H2,I2,r2,q2⟩ =>
  gp (ho pins s2 Z H2 x y v u _ I2 r1 r2 q2) λd s3 ⟨z,H3,I3,r3,k,e,q3⟩=>?_)) hm
 subst e;cases r3;refine i4 ?_
 cases k with
 | false=>exact ite_ff ⟨.bl false,H3,I3,rfl,q3⟩
 | true=>exact ite_tt (chain_last (gp (hc pins s3 Z H3 _ I3 q3) λw' s4 ⟨z',H4,I4,r4,q4⟩=>ho' pins s4 Z H4 y z' u w' Q I4 r2 r4 q4))
def UA (K:ae) (x:V) (H:Hp) (k:Bool):Prop :=
 match x with
 | .non=>k=false
 | .bl b=>k=b
 | .int i=>k=(i != 0)
 | .str y=>y.length<=aW/\k=((y.length:Int) != 0)
 | .byt y=>y.size<=aW/\k=((y.size:Int) != 0)
 | .ref p=>(∃ xs,dm K H p xs/\k=!xs.isEmpty)\/(∃ xs,jq K H p xs/\k=!xs.isEmpty)\/∃ kvs,H p=some (.dK kvs)/\k=!kvs.isEmpty
 | _=>False
def LX {κ:Type} {kvs:List (κ×V)}{vs:List (κ×aj)}(r:KV kvs vs):(!vs.isEmpty)=!kvs.isEmpty:=by
 cases r<;>rfl
def Ci {xs:List V}{its:List aj}(r:Vals xs its):(!its.toArray.isEmpty)=!xs.isEmpty:=by
 cases r<;>simp
def qB:(aW:Nat)<2^63:=by rw [pJ];decide
def XC:TruR X (λx H Q=>∃ k,UA X.K x H k/\Q k H):=by
 intro pins s Z H x v Q I rx h;obtain ⟨k,e,q⟩:=h;have hl:=qB;have hs:aW=16777216:=pJ
 cases x with
 | non =>
  cases rx;have e':k=false:=e;subst e'
  exact truthy_none ⟨H,I,q⟩
 | bl b =>
  cases rx;have e':k=b:=e;subst e'
  exact i4 ⟨H,I,q⟩
 | int i =>
  obtain ⟨t,rfl⟩:=rx;have e':k=(i != 0):=e;subst e'
  exact PySem.P.truthy_int ⟨H,I,q⟩
 | str y =>
  obtain ⟨t,rfl⟩:=rx;obtain ⟨hy,e'⟩:y.length<=aW/\k=((y.length:Int) != 0):=e;subst e'
  exact PySem.P.truthy_str (by lia) ⟨H,I.tok _,q⟩
 | byt y =>
  obtain ⟨t,rfl⟩:=rx;obtain ⟨hy,e'⟩:y.size<=aW/\k=((y.size:Int) != 0):=e;subst e'
  exact PySem.W.truthy_bytes (by lia) ⟨H,I.tok _,q⟩
 | ref p =>
  cases rx;have e':(∃ xs,dm X.K H p xs/\k=!xs.isEmpty)\/(∃ xs,jq X.K H p xs/\k=!xs.isEmpty)\/∃ kvs,H p=some (.dK kvs)/\k=!kvs.isEmpty:=e
  rcases e' with ⟨xs,hx,e'⟩|⟨xs,hx,e'⟩|⟨kvs,hx,e'⟩
  .subst e';obtain ⟨its,r,pl,hz⟩:=I.list hx;have hlen:=r.length;exact wpAny_truthy_list pl.isList (by simp only [aI];lia) ⟨H,I.tok _,by rw [Ci r];exact q⟩
  .subst e';obtain ⟨its,r,pl,hz⟩:=I.tuple hx;have hlen:=r.length;exact truthy_tuple pl (by simp only [aI];lia) ⟨H,I.tok _,by rw [Ci r];exact q⟩
  .subst e';obtain ⟨hz,hS,vs,r,m⟩:kvs.length<=aW/\(p == jR)=false/\∃ vs,KV kvs vs/\s.heap.DictOf (fv X.prog X.w) p vs:=I.eJ p _ hx;have hlen:kvs.length=vs.length:=yK r
   exact wpAny_truthy_dict hS m (by lia) ⟨H,I.tok _,by rw [LX r];exact q⟩
 | _=>exact (show False from e).elim
def QK (ha:PE X a ta) (he:∀ whole,isTrue a X.env whole=(do let v ← whole;uz a.pos;jS [v] (truthy v))) :
  PT X a (λZ H Q=>ta Z H λx H'=>∃ k,UA X.K x H' k/\Q k H'):=by
 intro pins s Z H Q I h;exact isTrue_plain (gp (ha pins s Z H _ I h) λv s1 ⟨x,H1,I1,r1,q1⟩=>XC pins s1 Z H1 x v Q I1 r1 q1) (he _)
def vals1 {x:V}(r:Vals [x] us):∃ u,us=[u]/\RelV x u:=by
 cases r with
 | cons r1 r2=>cases r2;exact ⟨_,rfl,r1⟩
def vals2 {x y:V}(r:Vals [x,y] us):∃ u w',us=[u,w']/\RelV x u/\RelV y w':=by
 cases r with
 | cons r1 r2 =>
  cases r2 with
  | cons r3 r4=>cases r4;exact ⟨_,_,rfl,r1,r3⟩
def OL (hc:X.calm=true):lj X (.builtin "max") (λxs H Q=>∃ i j,xs=[.int i,.int j]/\Q (.int (if j>i then j else i)) H):=by
 intro pins s Z H xs us Q I r h;obtain ⟨i,j,rfl,q⟩:=h;obtain ⟨u,w',rfl,⟨t,rfl⟩,⟨t',rfl⟩⟩:=vals2 r
 refine max_two_ints (I.ok.hd hc) λh' tk k=>⟨_,H,I.kept k,?_,q⟩
 by_cases hj:j>i
 .rw [if_pos hj,if_pos hj];exact ⟨_,rfl⟩
 .rw [if_neg hj,if_neg hj];exact ⟨_,rfl⟩
def F0 (hc:X.calm=true):lj X (.builtin "min") (λxs H Q=>∃ i j,xs=[.int i,.int j]/\Q (.int (if j<i then j else i)) H):=by
 intro pins s Z H xs us Q I r h;obtain ⟨i,j,rfl,q⟩:=h;obtain ⟨u,w',rfl,⟨t,rfl⟩,⟨t',rfl⟩⟩:=vals2 r
 refine min_two_ints (I.ok.hd hc) λh' tk k=>⟨_,H,I.kept k,?_,q⟩
 by_cases hj:j<i
 .rw [if_pos hj,if_pos hj];exact ⟨_,rfl⟩
 .rw [if_neg hj,if_neg hj];exact ⟨_,rfl⟩
def Ga:lj X (.type "int") (λxs H Q=>(∃ i,xs=[.int i]/\Q (.int i) H)\/∃ k,xs=[.bl k]/\Q (.int (if k then 1 else 0)) H):=by
 intro pins s Z H xs us Q I r h
 rcases h with ⟨i,rfl,q⟩|⟨k,rfl,q⟩
 .obtain ⟨u,rfl,t,rfl⟩:=vals1 r;exact call_int_int ⟨.int i,H,I,⟨_,rfl⟩,q⟩
 .obtain ⟨u,rfl,r1⟩:=vals1 r;cases r1;exact call_int_bool ⟨.int (if k then 1 else 0),H,I.tok _,⟨_,rfl⟩,q⟩
end
structure Ng (h:cK) (x dx C:af) (mA:bB->Option aj):Prop where
 obj:h.get? x=some (il C dx)
 ns:h.Ns1 dx mA
 ne:dx≠x
def OM (n:h.Ns1 dx mA):∃ od,h.get? dx=some od/\∀ name,uW name od=some (mA name):=by
 obtain ⟨o,es,ep,ho,hd,hk,_,hm⟩:=n;refine ⟨o,ho,λname=>?_⟩;have e:=hm name;unfold nsFind findBy at e;rw [← Array.find?_toList] at e;unfold uW;rw [hd];dsimp only
 split
 .rename_i y q
  rw [q] at e;exact congrArg some e
 .rename_i q
  rw [q] at e
  have a:es.toList.any (·.refKey)=false:=by
   rw [List.any_eq_false];intro y hy;obtain ⟨z,t,hkey⟩:=hk y (Array.mem_toList_iff.mp hy);simp [DictEntry.refKey,hkey]
  have a':¬ es.toList.any (·.refKey)=true:=by rw [a];exact bD
  rw [if_neg a'];exact congrArg some e
def Ng.look {x:af}(I:Ng h x dx C mA):∃ od,VJ h x (il C dx) C (some od)/\∀ name,uW name od=some (mA name) :=
 let ⟨od,ho,hl⟩:=OM I.ns
 ⟨od,⟨I.obj,rfl,rfl,ho⟩,hl⟩
section
variable {x:af}
def UB {expr:Bool}(X:K.In s.heap) (I:Ng s.heap x dx C mA) (hg:iS K C name=true) (hh:jz K C=true)
  (ha:bG K (.ref C) name=some none) (hv:mA name=some v) (hv':TR v=true) (h:Q v { s with toks:=s.toks+1 }) :
  aH (aL prog w) A (getAttr (.ref x) name expr) Q E s:=by
 obtain ⟨od,J,hl⟩:=I.look;exact PySem.W.get_value X J (wI hg).1 (PySem.W.findObj_own hh ha rfl (by rw [hl,hv])) hv' h
def QL {Q:aj×List aj->ax->Prop}(X:K.In s.heap) (I:Ng s.heap x dx C mA) (hg:iS K C name=true)
  (hf:bG K (.ref C) name=some (some (.ref f))) (ht:rV K (.ref f)=true) (hv:mA name=none) (h:Q (.ref f,[.ref x]) s) :
  aH (aL prog w) A (BQ (.ref x) name pl) Q E s:=by
 obtain ⟨od,J,hl⟩:=I.look;exact PySem.W.method_fn X J (wI hg).1 (wI hg).2 hf (beq_iff_eq.mp ht) (by show (uW name od).map (·.isSome)=some false;rw [hl,hv];rfl) h
def UC {ns:List bB}{Q:Unit->ax->Prop}(X:K.In s.heap) (I:Ng s.heap x dx C mA)
  (hs:bG K (.ref C) "__setattr__"=some (some (.builtin "object.__setattr__"))) (hp:lK K C=true) (ht:Et K C name=some none) (hh:jz K C=true)
  (hw:Nl mA ns) (hsz:ns.length<=aW)
  (h:∀ h',Ng h' x dx C (λy=>if y=name then some v else mA y)->gY dx s.heap h'->Q () { s with heap:=h',toks:=s.toks+2 }) :
  aH (aL prog w) A (setAttr (.ref x) name v) Q E s:=by
 obtain ⟨od,J,hl⟩:=I.look;refine PySem.W.set_plain X J hs (PySem.W.osa_open (s:={ s with toks:=s.toks+1 }) (r:=none) X J hp ht λb=>?_);obtain ⟨cd,hc,hd'⟩:=PySem.W.any_some hh;have hx:s.heap.get? x=some ⟨.ref C,some dx,.plain,#[]⟩:=I.obj;refine aa (ak (aa (aa (wpAny_loadPart hx (aa (PySem.W.Looks.here (s:={ s with toks:=s.toks+1 }) (PySem.W.looks_clsIn X hc) ?_))))));rw [hd'];refine ak (a:=some dx) (aa (ak (aa ?_)));refine wpAny_nsSet1 (s:={ s with toks:=s.toks+1 }) I.ns λh' hn2 hs2=>?_;obtain ⟨oD,esD,epD,hoD,hdD,hcD⟩:=hn2.count (PySem.Within.cons name v hw);refine aa (wpAny_lookBehind hoD (by rw [hdD];exact pastItsLine_dict (br hcD (by rw [bI];lia))) ?_);exact ak (h _ ⟨(hs2.2 _ (Ne.symm I.ne)).trans I.obj,hn2,I.ne⟩ hs2)
def QM {R:VL->ax->Prop}{vs:List aj}(X:K.In s.heap) (hm:kM K C=true)
  (hi:bG K (.ref C) "__init__"=some (some (.ref f))) (hf:PySem.W.typeIn K (.ref f)=some (.type "function"))
  (h:lp (aL prog w) (A.under (.builtin "type.__call__" ⟨.ref C::vs,kw⟩)) (.call (.ref f) ⟨.ref (s.heap.objs.size+1)::vs,kw⟩) (PySem.W.InitBack (s.heap.objs.size+1) R)
   { s with heap:=(s.heap.push fq).push (il C s.heap.objs.size) }) :
  lp (aL prog w) A (.call (.ref C) ⟨vs,kw⟩) R s:=by
 obtain ⟨hh,g,d,t,os⟩:=s;exact PySem.W.make_core (PySem.W.makes_of X hm) (PySem.W.looks_findIn X hi) (λself=>PySem.W.bind_fn X self hf) (.inl rfl) h
end
def dR (f:bB) (v:V):List (bB×V)->List (bB×V)
 | []=>[(f,v)]
 | (g,x)::r=>if g=f then (g,v)::r else (g,x)::dR f v r
theorem ft (f g:bB) (v:V):∀ fs:List (bB×V),(dR f v fs).lookup g=if g=f then some v else fs.lookup g
 | []=>by
  show cR g [(f,v)]=_
  by_cases h:g=f
  .have hb:(g == f)=true:=beq_iff_eq.mpr h;simp only [cR,hb,if_pos h]
  .have hb:(g == f)=false:=beq_eq_false_iff_ne.mpr h
   simp only [cR,hb,if_neg h]
 | (k,x)::r=>by
  have ih:=ft f g v r;rw [show dR f v ((k,x)::r)=(if k=f then (k,v)::r else (k,x)::dR f v r) from rfl]
  by_cases hk:k=f
  .rw [if_pos hk]
   by_cases h:g=k
   .have hb:(g == k)=true:=beq_iff_eq.mpr h;simp only [cR,hb,if_pos (h.trans hk)]
   .have hb:(g == k)=false:=beq_eq_false_iff_ne.mpr h;simp only [cR,hb,if_neg (λe:g=f=>h (e.trans hk.symm))]
  .rw [if_neg hk]
   by_cases h:g=k
   .have hb:(g == k)=true:=beq_iff_eq.mpr h;simp only [cR,hb,if_neg (λe:g=f=>hk (h.symm.trans e))]
   .have hb:(g == k)=false:=beq_eq_false_iff_ne.mpr h;simp only [cR,hb];exact ih
theorem y4 (f:bB) (v:V):∀ fs:List (bB×V),f∈(dR f v fs).map (·.1)/\∀ g,g∈fs.map (·.1)->g∈(dR f v fs).map (·.1)
 | []=>⟨by simp [dR],λg h=>by simp at h⟩
 | (k,x)::r=>by
  obtain ⟨i1,i2⟩:=y4 f v r;rw [show dR f v ((k,x)::r)=(if k=f then (k,v)::r else (k,x)::dR f v r) from rfl]
  by_cases hk:k=f
  .rw [if_pos hk];subst hk;exact ⟨by simp,λg h=>by simpa using h⟩
  .rw [if_neg hk];refine ⟨?_,λg h=>?_⟩
   .rw [aV];exact ai _ i1
   .rw [aV] at h ⊢
    rcases aq.mp h with e|e
    .exact aq.mpr (.inl e)
    .exact ai _ (i2 g e)
theorem Ae (f:bB) (v:V):∀ fs:List (bB×V),(dR f v fs).length<=fs.length+1
 | []=>by simp [dR]
 | (k,x)::r=>by
  have ih:=Ae f v r;rw [show dR f v ((k,x)::r)=(if k=f then (k,v)::r else (k,x)::dR f v r) from rfl]
  by_cases hk:k=f
  .rw [if_pos hk,bI,bI];lia
  .rw [if_neg hk,bI,bI];lia
def t9.some_of {v:V}{o:Option aj}(r:t9 (some v) o):∃ u,o=some u/\RelV v u:=by
 cases o with
 | none=>exact (show False from r).elim
 | some u=>exact ⟨u,rfl,r⟩
def t9.none_of {o:Option aj}(r:t9 none o):o=none:=by
 cases o with
 | none=>rfl
 | some u=>exact (show False from r).elim
def ON {v:V}(r:RelV v u):TR u=true:=by
 cases v with
 | non=>cases (show u=dC from r);rfl
 | bl b=>cases (show u=pH b from r);rfl
 | int i=>obtain ⟨t,e⟩:=(show ∃ t,u=fz i t from r);cases e;rfl
 | str x=>obtain ⟨t,e⟩:=(show ∃ t,u=rR x t from r);cases e;rfl
 | byt b=>obtain ⟨t,e⟩:=(show ∃ t,u=Value.bytes b t from r);cases e;rfl
 | flt b=>obtain ⟨t,e⟩:=(show ∃ t,u=PB b t from r);cases e;rfl
 | ref a=>cases (show u=aD a from r);rfl
 | ty n=>cases (show u=fc n from r);rfl
section
variable {H H':Hp}{fs fs':List (bB×V)}
def BE (eJ:rH P w H h) (e:H a=some (.ins C dx fs)):∃ mA,Ng h a dx C mA/\(∀ f,t9 (fs.lookup f) (mA f))/\Nl mA (fs.map (·.1))/\fs.length<=1000/\H dx=some (.own a):=by
 obtain ⟨d,z,ne,ob,mA,n,r,q⟩:=(show eU P w H h a (.ins C dx fs) from eJ a _ e)
 exact ⟨mA,⟨ob,n,ne⟩,r,q,z,d⟩
end
structure EA (K:ae) (C:af):Prop where
 pg:iS K C Ox=true
 hd:jz K C=true
 po:lK K C=true
 sa:bG K (.ref C) "__setattr__"=some (some (.builtin "object.__setattr__"))
def EA.get (c:EA K C) (f:bB):iS K C f=true:=c.pg
def dI (K:ae) (C:af) (f:bB):Prop:=bG K (.ref C) f=some none
def dI.aa1 {f:bB}(n:dI K C f):Et K C f=some none:=by
 unfold Et;rw [show bG K (.ref C) f=some none from n]
 rfl
structure UD (K:ae) (C:af) (m:bB) (f:af):Prop where
 at_:bG K (.ref C) m=some (some (.ref f))
 fn:rV K (.ref f)=true
 kp:eL K (.ref f)=true
section
variable {X:Cx}{Z:St}{H:Hp}{fs:List (bB×V)}{f:bB}{v:V}
def Cj {b:Bool}(I:Inv X pins Z H s) (e:H a=some (.ins C dx fs)) (c:EA X.K C) (n:dI X.K C f) (l:fs.lookup f=some v)
  (h:∀ u s',Inv X pins Z H s'->RelV v u->Q u s'):aH (aL X.prog X.w) A (getAttr (.ref a) f b) Q E s:=by
 obtain ⟨mA,O,r,_,_,_⟩:=BE I.eJ e;obtain ⟨u,hu,ru⟩:=t9.some_of (v:=v) (o:=mA f) (by rw [← l];exact r f);exact UB I.AW O (c.get f) c.hd n hu (ON ru) (h u _ (I.tok _) ru)
def Ck {g:af}{Q:aj×List aj->ax->Prop}(I:Inv X pins Z H s) (e:H a=some (.ins C dx fs)) (c:EA X.K C) (k:UD X.K C m g) (l:fs.lookup m=none)
  (h:Q (.ref g,[.ref a]) s):aH (aL X.prog X.w) A (BQ (.ref a) m pl) Q E s:=by
 obtain ⟨mA,O,r,_,_,_⟩:=BE I.eJ e;have hn:mA m=none:=t9.none_of (by rw [← l];exact r m);exact QL I.AW O (c.get m) k.at_ k.fn hn h
def Cm {y:V}{Q:Unit->ax->Prop}(I:Inv X pins Z H s) (e:H a=some (.ins C dx fs)) (c:EA X.K C) (n:dI X.K C f) (hl:fs.length<1000) (ry:RelV y u)
  (h:∀ s',Inv X pins Z (upd H a (.ins C dx (dR f y fs))) s'->Q () s'):aH (aL X.prog X.w) A (setAttr (.ref a) f u) Q E s:=by
 obtain ⟨mA,O,r,wi,_,ho⟩:=BE I.eJ e
 have hz:(fs.map (·.1)).length<=aW:=by rw [ag,pJ];lia
 refine UC I.AW O c.sa c.po n.aa1 c.hd wi hz λh' O' sb=>h _ ?_
 have hd:∃ o,h'.get? dx=some o:=let ⟨o,_,_,e',_⟩:=O'.ns;⟨o,e'⟩
 refine I.write (x:=a) (e:=dx) (by rw [e];exact iP) (.inr ho) (λb q hb z=>(sb.2 b hb).trans z) hd ?_;refine ⟨by rw [aG O.ne];exact ho,?_,O.ne,O'.obj,_,O'.ns,λg=>?_,λg hg=>?_⟩
 .have:=Ae f y fs;lia
 .show t9 ((dR f y fs).lookup g) (if g=f then some u else mA g)
  rw [ft]
  by_cases q:g=f
  .rw [if_pos q,if_pos q];exact ry
  .rw [if_neg q,if_neg q];exact r g
 .by_cases q:g=f
  .rw [q];exact (y4 f y fs).1
  .refine (y4 f y fs).2 g (wi g λz=>hg ?_)
   show (if g=f then some u else mA g)=none
   rw [if_neg q];exact z
def Inv.made (I:Inv X pins Z H s):Inv X pins Z (upd (upd H s.heap.objs.size (.own (s.heap.objs.size+1))) (s.heap.objs.size+1) (.ins C s.heap.objs.size []))
  { s with heap:=(s.heap.push fq).push (il C s.heap.objs.size) }:=by
 have e1:(s.heap.push fq).get? s.heap.objs.size=some fq:=aK s.heap rfl
 have e2:((s.heap.push fq).push (il C s.heap.objs.size)).get? (s.heap.objs.size+1)=some (il C s.heap.objs.size):=by
  have:=aK (s.heap.push fq) (o:=il C s.heap.objs.size) rfl
  rwa [i8] at this
 have e3:(s.heap.push fq).Ns s.heap.objs.size (λ_=>none):=⟨fq,#[],_,e1,rfl,(λe he=>absurd he (by simp)),λ_=>rfl⟩
 have I1:=I.laid (a:=s.heap.objs.size) (o:=.own (s.heap.objs.size+1)) (h':=s.heap.push fq) (t':=s.toks) (λb u q=>ar _ q) (au _) ⟨_,e1⟩;refine I1.laid (a:=s.heap.objs.size+1) (o:=.ins C s.heap.objs.size []) (t':=s.toks) (λb u q=>ar _ q) (kD (i8 _ _)) ?_;have ne:s.heap.objs.size≠s.heap.objs.size+1:=aZ (ji _);refine ⟨by rw [aG ne,aF],aO _,ne,e2,λ_=>none,(Heap.Ns1.of_empty e3).at λo q=>ar _ q,λ_=>iP,λy hy=>absurd rfl hy⟩
def UE {env:yJ}{f:bB}(hb:uX e f env (fo e env)=fo e env)
  (h:aH (aL prog w) A (fo e env) (λo s₁=>aH (aL prog w) A (getAttr o f true) Q E s₁) E s):aH (aL prog w) A (fo (.Attribute e f pos) env) Q E s :=
 Attribute_any_ h (by rw [arm_eval_Attribute,hb])
end
def dO (K:ae) (ta:TE) (f:bB):TE:=λZ H Q=>ta Z H λx H1=>∃ a C dx fs v,x=.ref a/\H1 a=some (.ins C dx fs)/\EA K C/\dI K C f/\fs.lookup f=some v/\Q v H1
def uK (K:ae) (ta tv:TE) (f:bB):TS:=λD Z H=>tv Z H λy H1=>ta Z H1 λx H2=>∃ a C dx fs,x=.ref a/\H2 a=some (.ins C dx fs)/\EA K C/\dI K C f/\fs.length<1000 /\
 D.nx Z (upd H2 a (.ins C dx (dR f y fs)))
def XD (X:Cx) (op:wH) (rd:V->V->Hp->VK->Prop):Prop :=
 ∀ (pins:List (af×iF)) (s:ax) (Z:St) (H:Hp) (x y:V) (u v:aj) (Q:VK),Inv X pins Z H s->RelV x u->RelV y v->rd x y H Q->aH (aL X.prog X.w) X.A (BP op u v) (EP X pins Z Q) X.xe s
def nB (K:ae) (ta tv:TE) (rd:V->V->Hp->VK->Prop) (f:bB):TS:=λD Z H=>ta Z H λx H1=>∃ a C dx fs v,x=.ref a/\H1 a=some (.ins C dx fs)/\EA K C/\dI K C f/\fs.lookup f=some v /\
 tv Z H1 λy H2=>rd v y H2 λz H3=>∃ dx' fs',H3 a=some (.ins C dx' fs')/\fs'.length<1000/\D.nx Z (upd H3 a (.ins C dx' (dR f z fs')))
section
variable {X:Cx}{o value:Expr}{f:bB}{ta tv:TE}
def ph (he:PE X e ta) (hb:uX e f X.env (fo e X.env)=fo e X.env):PE X (.Attribute e f pos) (dO X.K ta f):=by
 intro pins s Z H Q I h;refine UE hb (gp (he pins s Z H _ I h) λu s1 ⟨x,H1,I1,rx,a,C,dx,fs,v,ex,ea,c,n,l,q⟩=>?_);subst ex;obtain rfl:u=aD a:=rx
 exact Cj I1 ea c n l λu' s2 I2 ru=>⟨v,H1,I2,ru,q⟩
def G9 (ha:PE X o ta) (hv:PE X value tv) (hs:BO value (some (.Attribute o f pos')) pos.line X.env=pure false):PS X (.Assign [.Attribute o f pos'] value pos) (uK X.K ta tv f):=by
 intro pins s Z H D I h;refine plainObj_wpAny_Assign_Attribute (gp (hv pins s Z H _ I h) λu s1 ⟨y,H1,I1,ry,q⟩=>gp (ha pins s1 Z H1 _ I1 q) λov s2 ⟨x,H2,I2,rx,a,C,dx,fs,ex,ea,c,n,l,q2⟩=>?_) hs;subst ex;obtain rfl:ov=aD a:=rx
 exact Cm I2 ea c n l ry λs3 I3=>⟨Z,_,I3,q2⟩
def lW {op:wH}{rd:V->V->Hp->VK->Prop}(ha:PE X o ta) (hv:PE X value tv) (hop:XD X op rd):PS X (.AugAssign (.Attribute o f tpos) op value pos) (nB X.K ta tv rd f):=by
 intro pins s Z H D I h;refine wpAny_AugAssign_AttributeAny (gp (ha pins s Z H _ I h) λov s1 ⟨x,H1,I1,rx,a,C,dx,fs,v,ex,ea,c,n,l,q⟩=>?_);subst ex;obtain rfl:ov=aD a:=rx;refine Cj I1 ea c n l λu s2 I2 ru=>gp (hv pins s2 Z H1 _ I2 q) λw3 s3 ⟨y,H2,I3,ry,q3⟩=>gp (hop pins s3 Z H2 v y u w3 _ I3 ru ry q3) λw4 s4 ⟨z,H3,I4,rz,dx',fs',ea',l',q4⟩=>?_
 exact Cm I4 ea' c n l' rz λs5 I5=>⟨Z,_,I5,q4⟩
def Ha:V->V->Hp->VK->Prop:=λx y H Q=>∃ i j,x=.int i/\y=.int j/\Q (.int (i+j)) H
def sf:XD X .Add Ha:=by
 rintro pins s Z H x y u v Q I rx ry ⟨i,j,rfl,rfl,q⟩
 obtain ⟨t,rfl⟩:=(show ∃ t,u=fz i t from rx)
 obtain ⟨t',rfl⟩:=(show ∃ t',v=fz j t' from ry)
 exact Ow ⟨.int (i+j),H,I.tok _,⟨_,rfl⟩,q⟩
end
section
variable {X:Cx}{Z:St}{H:Hp}{c:aj}{b:Bool}
inductive w6 (K:ae) (H:Hp):V->aj->Prop where
 | non:w6 K H .non (.type "NoneType")
 | bl (x:Bool):w6 K H (.bl x) (.type "bool")
 | int (i:Int):w6 K H (.int i) (.type "int")
 | str (x:bB):w6 K H (.str x) (.type "str")
 | flt (x:UInt64):w6 K H (.flt x) (.type "float")
 | lst {a:af}{xs:List V}(e:H a=some (.lst xs)):w6 K H (.ref a) (.type "list")
 | frz {a:af}{o:iF}{xs:List V}(e:H a=some (.frz o (.lst xs))):w6 K H (.ref a) (.type "list")
 | tup {a:af}{xs:List V}(e:H a=some (.tup xs)):w6 K H (.ref a) (.type "tuple")
 | dK {a:af}{kvs:List (iL×V)}(e:H a=some (.dK kvs)):w6 K H (.ref a) (.type "dict")
 | dT {a:af}{kvs:List (List iL×V)}(e:H a=some (.dT kvs)):w6 K H (.ref a) (.type "dict")
 | ins {a C dx:af}{fs:List (bB×V)}(e:H a=some (.ins C dx fs)) (cl:EA K C) (ha:bG K (.ref C) "__class__"=some (some (.builtin "object.__class__")))
   (hn:PySem.W.specialIn K (.builtin "object.__class__") "__get__"=some (some (.builtin "getset_descriptor.__get__"))) (htk:PySem.W.takesIn K (.builtin "object.__class__")=some true)
   (hm:PySem.W.mroIn K C (.type "object")=some true):w6 K H (.ref a) (.ref C)
theorem OO {x:V}{t:aj}(I:Inv X pins Z H s) (rx:RelV x u) (ty:w6 X.K H x t) (e:lL X.K t c=some b) (h:∀ tk,Q (.bool b) { s with toks:=tk }) :
  aH (aL X.prog X.w) A (call (.builtin "isinstance") [u,c]) Q E s:=by
 cases ty with
 | non=>cases (show u=dC from rx);exact eQ PySem.W.kitx_none I.AW iP e (λz=>nomatch z) h
 | bl y=>cases (show u=pH y from rx);exact eQ PySem.W.kitx_bool I.AW iP e (λz=>nomatch z) h
 | int i=>obtain ⟨t,q⟩:=(show ∃ t,u=fz i t from rx);cases q;exact eQ PySem.W.kitx_int I.AW iP e (λz=>nomatch z) h
 | str y=>obtain ⟨t,q⟩:=(show ∃ t,u=rR y t from rx);cases q;exact eQ PySem.W.kitx_str I.AW iP e (λz=>nomatch z) h
 | flt y=>obtain ⟨t,q⟩:=(show ∃ t,u=PB y t from rx);cases q;exact eQ PySem.W.kitx_float I.AW iP e (λz=>nomatch z) h
 | @lst a xs ea =>
  cases (show u=aD a from rx)
  obtain ⟨_,_,n,_,h1⟩:=(show eU X.prog X.w H s.heap a (.lst xs) from I.eJ a _ ea)
  exact eQ Qn I.AW ⟨_,h1,rfl⟩ e (λz=>nomatch z) h
 | @frz a ob xs ea =>
  cases (show u=aD a from rx)
  obtain ⟨_,_,_,n,_,h1⟩:=(show eU X.prog X.w H s.heap a (.frz ob (.lst xs)) from I.eJ a _ ea)
  exact eQ Qn I.AW ⟨_,h1,rfl⟩ e (λz=>nomatch z) h
 | @tup a xs ea =>
  cases (show u=aD a from rx)
  obtain ⟨_,_,_,p⟩:=(show eU X.prog X.w H s.heap a (.tup xs) from I.eJ a _ ea)
  obtain ⟨o,h1,h2,_⟩:=p
  exact eQ PySem.W.kitx_tuple I.AW ⟨o,h1,h2⟩ e (λz=>nomatch z) h
 | @dK a kvs ea =>
  cases (show u=aD a from rx)
  obtain ⟨_,_,vs,_,p⟩:=(show eU X.prog X.w H s.heap a (.dK kvs) from I.eJ a _ ea)
  obtain ⟨o,es,ep,h1,h2,_⟩:=p
  exact eQ Qo I.AW ⟨o,h1,h2.1⟩ e (λz=>nomatch z) h
 | @dT a kvs ea =>
  cases (show u=aD a from rx)
  obtain ⟨_,_,xs,_,o,es,ep,h1,h2,_⟩:=(show eU X.prog X.w H s.heap a (.dT kvs) from I.eJ a _ ea)
  exact eQ Qo I.AW ⟨o,h1,h2.1⟩ e (λz=>nomatch z) h
 | @ins a C dx fs ea cl ha hn htk hm =>
  cases (show u=aD a from rx);obtain ⟨mA,O,_⟩:=BE I.eJ ea;obtain ⟨od,J,_⟩:=O.look;exact eQ (PySem.W.kitx_own (cl.get _) cl.hd ha hn htk hm) I.AW J e (λz=>nomatch z) h
end
structure gZ (k:Nat) (A:cL):Prop where
 hd:A.handled=none
 dp:A.depth+3*k+5<rW
 un:A.units+16*k+200<ip
def gZ.mono {j:Nat}(r:gZ k A) (h:j<=k):gZ j A:=⟨r.hd,by have:=r.dp;lia,by have:=r.un;lia⟩
def gZ.deeper (r:gZ (k+1) A) (env:yJ):gZ k (A.deeper env) :=
 ⟨r.hd,by have:=r.dp;show A.depth+1+3*k+5<_;lia,by have:=r.un;show A.units+3+16*k+200<_;lia⟩
def LY:(A.under (.builtin "type.__call__" ⟨.ref C::us,kw⟩)).depth=A.depth+1:=by
 first|rfl|simp [LG,Code.weight,Code.isCreation,Code.isGuard,Code.isCaller,Code.frames,Oy,guardIds]
def LZ:(A.under (.builtin "type.__call__" ⟨.ref C::us,kw⟩)).units=A.units+1:=by
 first|rfl|simp [LG,Code.cUnits,Code.frames,Oy]
def gZ.make (r:gZ (k+1) A) (C:af) (us:List aj) (kw:List (bB×aj)):gZ k (A.under (.builtin "type.__call__" ⟨.ref C::us,kw⟩)) :=
 ⟨r.hd,by have:=r.dp;rw [LY];lia,by have:=r.un;rw [LZ];lia⟩
def gZ.depth (r:gZ k A):A.depth<rW:=by have:=r.dp;lia
def gZ.units (r:gZ k A):A.units+64<ip:=by have:=r.un;lia
def aY:TA:=λ_ H Q=>Q [] H
def av (ta:TE) (tr:TA):TA:=λZ H Q=>ta Z H λx H1=>tr Z H1 λxs H2=>Q (x::xs) H2
section
variable {X:Cx}{te:TE}{t:TA}
def cV:PA X [] aY:=λ_ _ _ _ H Q I h=>mi ⟨[],H,I,.nil,h⟩
def bh (ha:PE X e te) (hr:PA X es t) (hs:bE (e::es) X.env=(false,fo e X.env)::bE es X.env:=by rfl):PA X (e::es) (av te t):=by
 intro pos pins s Z H Q I h;rw [hs]
 show aH _ _ (spliced ((false,fo e X.env)::gM pos (bE es X.env))) _ _ s
 refine hW (gp (ha pins s Z H _ I h) λu s1 ⟨x,H1,I1,r1,q1⟩=>?_)
 exact gp (hr pos pins s1 Z H1 _ I1 q1) λus s2 ⟨xs,H2,I2,r2,q2⟩=>⟨x::xs,H2,I2,.cons r1 r2,q2⟩
def nC (t:TA):TE:=λZ H Q=>t Z H λxs H1=>xs.length<=aW/\∀ p,H1 p=none->Q (.ref p) (upd H1 p (.tup xs))
def vX (t:TA):TE:=λZ H Q=>t Z H λxs H1=>xs.length<=aW/\∀ p,H1 p=none->Q (.ref p) (upd H1 p (.lst xs))
def sg {x1} (h:PA X es t):PE X (.Tuple es x1 pos) (nC t):=by
 intro pins s Z H Q I hq;refine Eu (gp (h pos pins s Z H _ I hq) λus s1 ⟨xs,H1,I1,r,z,q⟩=>⟨by rw [← r.length];exact z,?_⟩);have hf:H1 s1.heap.objs.size=none:=I1.eJ.fresh (au _);refine ⟨.ref s1.heap.objs.size,upd H1 s1.heap.objs.size (.tup xs),I1.laid (t':=s1.toks) (λb u e=>ar _ e) (au _) ?_,rfl,q _ hf⟩;exact ⟨z,us,r,⟨_,aK _ rfl,rfl,_,rfl⟩⟩
def L0 (h:PA X es t):PE X (.List es pos) (vX t):=by
 intro pins s Z H Q I hq;refine wpAny_List_spliced (gp (h pos pins s Z H _ I hq) λus s1 ⟨xs,H1,I1,r,z,q⟩=>⟨by rw [← r.length];exact z,?_⟩);have hf:H1 s1.heap.objs.size=none:=I1.eJ.fresh (au _);refine ⟨.ref s1.heap.objs.size,upd H1 s1.heap.objs.size (.lst xs),I1.laid (t':=s1.toks) (λb u e=>ar _ e) (au _) ?_,rfl,q _ hf⟩;exact ⟨z,us,0,r,aK _ rfl⟩
end
abbrev Sp:=List V->Hp->VK->XK->Prop
abbrev JE:=List yJ->Hp->ax->XK->aj->ax->Prop
structure Lk (P:bA) (w:cg) (K:ae) (mg:bB->Option aj) (base:cK) (A:cL) (outer:List yJ) (s:ax) (H:Hp):Prop where
 frames:A.frames=some outer
 mod:Mod K mg base
 bs:∀ b o,base.get? b=some o->s.heap.get? b=some o/\H b=none
 Nh:base.objs.size<=s.heap.objs.size
 rO:s.heap.FunFrames base outer
 Ou:∀ b∈vT outer,H b=none
 eJ:rH P w H s.heap
 bare:ux s.gens
def CE (outer:List yJ) (P:bA) (w:cg) (H:Hp) (s:ax) (Q:VK) (u:aj) (s':ax):Prop :=
 ∃ v H',s'.os=s.os/\ux s'.gens/\Un (vT outer) [] H H' s.heap s'.heap/\rH P w H' s'.heap/\RelV v u/\Q v H'
def CR (CX:JE) (outer:List yJ) (P:bA) (w:cg) (H:Hp) (s:ax) (Q:VK) (E:XK) (r:VL) (s':ax):Prop :=
 match r with
 | .ok (.ret u)=>CE outer P w H s Q u s'
 | .ok _=>False
 | .error e=>CX outer H s E e s'
structure jr (P:bA) (w:cg) (K:ae) (mg:bB->Option aj) (base:cK) (CX:JE) (k:Nat) (f:af) (fd:fN) (ps:List bB) (sp:Sp):Prop where
 len:∀ vs H Q E,sp vs H Q E->vs.length=ps.length
 run:∀ (A:cL) (outer:List yJ) (s:ax) (H:Hp) (args:Args) (us:List aj) (vs:List V) (Q:VK) (E:XK),gZ k A->Lk P w K mg base A outer s H->IW s fd args (ps.zip us)->Vals vs us->sp vs H Q E ->
  lp (aL P w) A (.call (.ref f) args) (CR CX outer P w H s Q E) s
def Lk.make {H:Hp}(e:Lk P w K mg base A outer s H) (C:af) (us:List aj) (kw:List (bB×aj)) :
  Lk P w K mg base (A.under (.builtin "type.__call__" ⟨.ref C::us,kw⟩)) outer s H:=⟨by first|exact e.frames|(simpa [LG,Code.envs,Oy,pushEnvs] using e.frames),e.mod,e.bs,e.Nh,e.rO,e.Ou,e.eJ,e.bare⟩
section
variable {X:Cx}{Z:St}{H:Hp}
def Inv.env0 (I:Inv X pins Z H s):Lk X.prog X.w X.K X.mg X.base X.A X.stack s H :=
 ⟨I.ok.frames,I.ok.mod,I.bs,br I.ok.Nh I.sz,I.stack,I.BM,I.eJ,I.bare⟩
def Inv.after {Q:VK}(I:Inv X pins Z H s) (h:CE X.stack X.prog X.w H s Q u s'):EP X pins Z Q u s':=by
 obtain ⟨v,H',os,bare,un,eJ,r,q⟩:=h;obtain ⟨hh,g,d,t,os'⟩:=s';obtain rfl:os'=s.os:=os;exact ⟨v,H',I.call (h':=hh) (g':=g) (d':=d) (t':=t) (ch:=[]) un eJ bare (λb z=>absurd z (by simp)),r,q⟩
end
def cQ (sp:Sp) (dvs:List V) (E:XK) (t:TA):TE:=λZ H Q=>t Z H λvs H1=>sp (vs++dvs) H1 Q E
def dZ (C:af) (m:bB) (sp:Sp) (dvs:List V) (E:XK) (ta:TE) (t:TA):TE:=λZ H Q=>ta Z H λx H1=>∃ a dx fs,x=.ref a/\H1 a=some (.ins C dx fs)/\fs.lookup m=none /\
 t Z H1 λvs H2=>sp (x::(vs++dvs)) H2 Q E
def JF (C:af) (sp:Sp) (dvs:List V) (E:XK) (t:TA):TE:=λZ H Q=>t Z H λvs H1=>∀ x dx,H1 x=none->H1 dx=none->dx≠x ->
 sp (.ref x::(vs++dvs)) (upd (upd H1 dx (.own x)) x (.ins C dx [])) (λv H2=>v=.non/\Q (.ref x) H2) E
def Binds (K:ae) (fd:fN) (ps:List bB) (ds:List aj):Prop :=
 ∀ (s:ax) (us:List aj),K.In s.heap->(us++ds).length=ps.length->IW s fd ⟨us,[]⟩ (ps.zip (us++ds))
def Binds.all (h:∀ us:List aj,us.length=ps.length->Bt fd ⟨us,[]⟩=pure (ps.zip us)):Binds K fd ps []:=λs us _ hl=>by
 rw [oB] at hl ⊢;exact .of_eq (h us hl)
def lX (CX:JE) (X:Cx) (E:XK):Prop:=∀ (pins:List (af×iF)) (Z:St) (H:Hp) (s:ax) (e:aj) (s':ax),Inv X pins Z H s->CX X.stack H s E e s'->X.xe e s'
section
variable {X:Cx}{CX:JE}{sp:Sp}{dvs:List V}{ds:List aj}{E:XK}{o:Expr}{ta:TE}{t:TA}
def L3 {Z:St}{H:Hp}{Q:VK}{vs:List V}(F:jr X.prog X.w X.K X.mg X.base CX k f fd ps sp) (hr:gZ k X.A) (hb:Binds X.K fd ps ds) (hd:Vals dvs ds) (hx:lX CX X E)
  (I:Inv X pins Z H s) (r:Vals vs us) (h:sp (vs++dvs) H Q E):aH (aL X.prog X.w) X.A (call (.ref f) us) (EP X pins Z Q) X.xe s:=by
 have r2:Vals (vs++dvs) (us++ds):=r.append hd
 have hl:(us++ds).length=ps.length:=by rw [← r2.length];exact F.len _ _ _ _ h
 refine PJ (lu (F.run X.A X.stack s H ⟨us,[]⟩ (us++ds) (vs++dvs) Q E hr I.env0 (hb s us I.AW hl) r2 h) λr s' hq=>?_)
 cases r with
 | error e=>exact hx pins Z H s e s' I hq
 | ok fl =>
  cases fl with
  | ret u=>exact I.after hq
  | next=>exact dD hq
  | brk=>exact dD hq
  | cont=>exact dD hq
def UF (F:jr X.prog X.w X.K X.mg X.base CX k f fd ps sp) (hr:gZ k X.A) (hg:Gl X x) (hm:X.mg x=some (.ref f)) (hk:eL X.K (.ref f)=true) (hb:Binds X.K fd ps ds) (hd:Vals dvs ds) (hx:lX CX X E)
  (ha:PA X (e::es) t) (hdb:(x == ("__debug__":bB))=false:=by decide) (he:bE (e::es) X.env=(false,fo e X.env)::bE es X.env:=by rfl) (hpl:(gM pos (bE es X.env)).any (·.1)=false:=by rfl) :
  PE X (.Call (.Name x p) (e::es) [] pos) (cQ sp dvs E t):=by
 intro pins s Z H Q I h;refine eC (wW I hg hm ?_ hdb);refine yL (h₀:=X.base) I.ok.mod.Zi hk (gp (ha pos pins s Z H _ I h) λus s1 ⟨vs,H1,I1,r,q⟩=>⟨I1.AW,?_⟩) he hpl;exact L3 F hr hb hd hx I1 r q
def UG (he:PE X o ta) (c:EA X.K C) (hm:UD X.K C m f) (F:jr X.prog X.w X.K X.mg X.base CX k f fd ps sp) (hr:gZ k X.A) (hb:Binds X.K fd ps ds) (hd:Vals dvs ds) (hx:lX CX X E) (ha:PA X (e::es) t)
  (hst:bE (e::es) X.env=(false,fo e X.env)::bE es X.env:=by rfl) (hpl:(gM pos (bE es X.env)).any (·.1)=false:=by rfl)
  (ht:fo (.Call (.Attribute o m apos) (e::es) [] pos) X.env=(do
   let ov ← fo o X.env
   uz apos.atName
   let (f,first) ← jS [ov] (BQ ov m pl)
   YU pos f first (gM pos (bE (e::es) X.env)) (IX pos (uB [] X.env))):=by rfl) :
  PE X (.Call (.Attribute o m apos) (e::es) [] pos) (dZ C m sp dvs E ta t):=by
 intro pins s Z H Q I h;refine LH (pl:=pl) (gp (he pins s Z H _ I h) λu s1 ⟨x,H1,I1,rx,a,dx,fs,ex,ea,l,q⟩=>?_) ht;subst ex;obtain rfl:u=aD a:=rx;refine Ck I1 ea c hm l ?_;refine yL (first:=[.ref a]) (h₀:=X.base) I.ok.mod.Zi hm.kp (gp (ha pos pins s1 Z H1 _ I1 q) λus s2 ⟨vs,H2,I2,r,q2⟩=>⟨I2.AW,?_⟩) hst hpl;exact L3 (us:=.ref a::us) (vs:=.ref a::vs) F hr hb hd hx I2 (.cons rfl r) q2
def QN (he:PE X o ta) (c:EA X.K C) (hm:UD X.K C m f) (F:jr X.prog X.w X.K X.mg X.base CX k f fd ps sp) (hr:gZ k X.A) (hb:Binds X.K fd ps ds) (hd:Vals dvs ds) (hx:lX CX X E)
  (ht:fo (.Call (.Attribute o m apos) [] [] pos) X.env=(do
   let ov ← fo o X.env
   uz apos.atName
   let (f,first) ← jS [ov] (BQ ov m pl)
   YU pos f first (gM pos (bE [] X.env)) (IX pos (uB [] X.env))):=by rfl) :
  PE X (.Call (.Attribute o m apos) [] [] pos) (dZ C m sp dvs E ta aY):=by
 intro pins s Z H Q I h;refine LH (pl:=pl) (gp (he pins s Z H _ I h) λu s1 ⟨x,H1,I1,rx,a,dx,fs,ex,ea,l,q⟩=>?_) ht;subst ex;obtain rfl:u=aD a:=rx;refine Ck I1 ea c hm l ?_;exact PySem.W.callWith_K0 (first:=[.ref a]) I1.AW hm.kp (L3 (us:=[.ref a]) (vs:=[.ref a]) F hr hb hd hx I1 (.cons rfl .nil) q)
structure Mk (K:ae) (C f:af):Prop where
 makes:kM K C=true
 init:bG K (.ref C) "__init__"=some (some (.ref f))
 fn:rV K (.ref f)=true
 kp:eL K (.ref C)=true
def QO {Z:St}{H:Hp}{Q:VK}{vs:List V}(M:Mk X.K C f) (F:jr X.prog X.w X.K X.mg X.base CX k f fd ps sp) (hr:gZ (k+1) X.A) (hb:Binds X.K fd ps ds) (hd:Vals dvs ds)
  (hx:lX CX X E) (I:Inv X pins Z H s) (r:Vals vs us)
  (h:∀ x dx,H x=none->H dx=none->dx≠x->sp (.ref x::(vs++dvs)) (upd (upd H dx (.own x)) x (.ins C dx [])) (λv H2=>v=.non/\Q (.ref x) H2) E) :
  aH (aL X.prog X.w) X.A (call (.ref C) us) (EP X pins Z Q) X.xe s:=by
 have hq:=h (s.heap.objs.size+1) s.heap.objs.size (I.eJ.fresh (jv _)) (I.eJ.fresh (au _)) (aZ (ji _));have I2:=Inv.made (C:=C) I;have r2:Vals (V.ref (s.heap.objs.size+1)::(vs++dvs)) (aD (s.heap.objs.size+1)::(us++ds)):=.cons rfl (r.append hd)
 have hl:(aD (s.heap.objs.size+1)::us++ds).length=ps.length:=by
  have e:=r2.length;rw [F.len _ _ _ _ hq] at e;exact e.symm
 refine PJ (QM (f:=f) I.AW M.makes M.init (beq_iff_eq.mp M.fn) (lu (F.run _ X.stack _ _ ⟨aD (s.heap.objs.size+1)::us,[]⟩ (aD (s.heap.objs.size+1)::(us++ds)) _ _ E (hr.make C us [])
  (I2.env0.make C us []) (hb _ (aD (s.heap.objs.size+1)::us) I2.AW hl) r2 hq) λr s' hq'=>?_))
 cases r with
 | error e=>exact hx pins Z _ _ e s' I2 hq'
 | ok fl =>
  cases fl with
  | ret u =>
   obtain ⟨v,H',I3,rv,ev,q3⟩:=I2.after hq';subst ev
   exact ⟨rv,⟨V.ref (s.heap.objs.size+1),H',I3,rfl,q3⟩⟩
  | next=>exact dD hq'
  | brk=>exact dD hq'
  | cont=>exact dD hq'
def Hb (M:Mk X.K C f) (F:jr X.prog X.w X.K X.mg X.base CX k f fd ps sp) (hr:gZ (k+1) X.A) (hg:Gl X x) (hm:X.mg x=some (.ref C)) (hb:Binds X.K fd ps ds) (hd:Vals dvs ds) (hx:lX CX X E)
  (ha:PA X (e::es) t) (hdb:(x == ("__debug__":bB))=false:=by decide) (he:bE (e::es) X.env=(false,fo e X.env)::bE es X.env:=by rfl) (hpl:(gM pos (bE es X.env)).any (·.1)=false:=by rfl) :
  PE X (.Call (.Name x p) (e::es) [] pos) (JF C sp dvs E t):=by
 intro pins s Z H Q I h;refine eC (wW I hg hm ?_ hdb);refine yL (h₀:=X.base) I.ok.mod.Zi M.kp (gp (ha pos pins s Z H _ I h) λus s1 ⟨vs,H1,I1,r,q⟩=>⟨I1.AW,?_⟩) he hpl;exact QO M F hr hb hd hx I1 r q
end
section
variable {X:Cx}{CX:JE}{ks:List bB}{sp:Sp}{E:XK}{kpos:ue}{o:Expr}{kws:List VM}{te ta:TE}{t tk:TA}{nm:Option bB}
variable {g:List aj->List aj->List aj}{gV:List V->List V->List V}
end
structure bH (N P:List bB) (sc:rQ):Prop where
 kind:sc.kind=.function
 co:sc.isCoroutine=false
 gen:sc.isGenerator=false
 nd:N.Nodup
 pre:N.take P.length=P
 par:∀ x∈P,sc.names.lookup x=some .local\/sc.names.lookup x=some .cell
 YS:∀ y∈sc.names,y.2≠.free
theorem Gb:∀ {binds:List (bB×aj)}{m:bB->Option aj},(∀ v,(x,v)∉binds)->Ug kindOf binds m x=m x
 | [],_,_=>rfl
 | (n,v)::r,m,h=>by
  unfold Ug;rw [Gb λw hw=>h w (ai _ hw)]
  split
  .have:x≠n:=by rintro rfl;exact h v aw
   simp [this]
  .rfl
theorem Gc:∀ {binds:List (bB×aj)}{m:bB->Option aj},(∀ v,(x,v)∉binds)->Uh kindOf binds m x=m x
 | [],_,_=>rfl
 | (n,v)::r,m,h=>by
  unfold Uh;rw [Gc λw hw=>h w (ai _ hw)]
  split
  .rfl
  .have:x≠n:=by rintro rfl;exact h v aw
   simp [this]
theorem Gd:∀ {P:List bB}{vs:List aj}{i:Nat}{m:bB->Option aj},P.Nodup->P[i]?=some x->vs[i]?=some v->kindOf x=some .local ->
  Ug kindOf (P.zip vs) m x=some v
 | [],_,_,_,_,h,_,_=>by simp at h
 | _::_,[],_,_,_,_,h,_=>by simp at h
 | p::P,w::vs,0,m,nd,h1,h2,hk=>by
  simp at h1 h2;subst h1;subst h2
  show Ug kindOf ((p,w)::P.zip vs) m p=_
  unfold Ug;rw [Gb λv hv=>(a7.mp nd).1 (uY hv).1,if_pos hk]
  simp
 | p::P,w::vs,i+1,m,nd,h1,h2,hk=>by
  show Ug kindOf ((p,w)::P.zip vs) m x=_
  unfold Ug;exact Gd (i:=i) (a7.mp nd).2 (by simpa using h1) (by simpa using h2) hk
theorem Ge:∀ {P:List bB}{vs:List aj}{i:Nat}{m:bB->Option aj},P.Nodup->P[i]?=some x->vs[i]?=some v->kindOf x≠some .local ->
  Uh kindOf (P.zip vs) m x=some v
 | [],_,_,_,_,h,_,_=>by simp at h
 | _::_,[],_,_,_,_,h,_=>by simp at h
 | p::P,w::vs,0,m,nd,h1,h2,hk=>by
  simp at h1 h2;subst h1;subst h2
  show Uh kindOf ((p,w)::P.zip vs) m p=_
  unfold Uh;rw [Gc λv hv=>(a7.mp nd).1 (uY hv).1,if_neg hk]
  simp
 | p::P,w::vs,i+1,m,nd,h1,h2,hk=>by
  show Uh kindOf ((p,w)::P.zip vs) m x=_
  unfold Uh;exact Ge (i:=i) (a7.mp nd).2 (by simpa using h1) (by simpa using h2) hk
def start (N:List bB) (vs:List V):St:=vs.map some++j5 (N.length-vs.length) none
def lH (CX:JE) (P:bA) (w:cg) (K:ae) (mg:bB->Option aj) (base:cK) (N:List bB) (qual:bB) (scope:rQ) (f:af) (cd:aj) (A:cL) (outer:List yJ) (s:ax) (H:Hp) (E:XK):Cx where
 prog:=P
 w:=w
 K:=K
 mg:=mg
 base:=base
 A:=A.deeper (lM qual scope s.heap.objs.size f cd)
 N:=N
 s₀:=s
 H₀:=H
 env:=lM qual scope s.heap.objs.size f cd
 outer:=outer
 stack:=lM qual scope s.heap.objs.size f cd::outer
 ex:=[]
 calm:=true
 fn:=λ_=>true
 pn:=[]
 xe:=λe s'=>aH (aL P w) (A.deeper (lM qual scope s.heap.objs.size f cd)) (leaving (lM qual scope s.heap.objs.size f cd) e) (λ_ s''=>CX outer H s E e s'') (λe' s''=>CX outer H s E e' s'') s'
def JG {sc:rQ}(h:sc.names.lookup x=some .cell):∃ c,(cellsFrom n sc.names []).lookup x=some c:=by
 have q:=Lr sc.names n [] (.inl h);exact Option.isSome_iff_exists.mp q
theorem OP {CX:JE}{cd:aj}{s1:ax}{H:Hp}{E:XK}{vs:List V}
  (S:bH N ps scope) (hd:A.handled=none) (e0:Lk P w K mg base A outer s H) (hl:vs.length=ps.length) (r:Vals vs us)
  (x:InCallC s s.heap.objs.size (Ug (lM qual scope s.heap.objs.size f cd).kindOf (ps.zip us) λ_=>none) (cellsFrom (s.heap.objs.size+1) scope.names []) (Uh (lM qual scope s.heap.objs.size f cd).kindOf (ps.zip us) λ_=>none) s1) :
  Inv (lH CX P w K mg base N qual scope f cd A outer s H E) [] (start N vs) H s1:=by
 have hpl:ps.length<=N.length:=by have:=congrArg fh S.pre;rw [bM] at this;lia
 obtain ⟨h1,tk,rfl,hk⟩:=x.done;have noA:∀ b:af,b∉(lH CX P w K mg base N qual scope f cd A outer s H E).ex:=λb z=>absurd (show b∈([]:List af) from z) (by simp)
 refine ⟨⟨e0.mod,S.kind,rfl,rfl,au _,λy z c h1 h2=>?_,λy hy=>?_,λy c _ h=>?_,λ_=>hd,Around.frames_deeper e0.frames,.inr ⟨rfl,rfl⟩,λb z=>absurd z (noA b),e0.bs,e0.Nh,λb _ _=>noA b,λb z=>absurd z (noA b),e0.rO,e0.Ou⟩,
  rfl,e0.bare,Un.kept hk,⟨_,x.toInCall.ns,λi y v h1 h2 h3=>?_⟩,λy c h=>⟨_,x.cell y c h⟩,e0.eJ.fresh (au _),λy c h=>?_,λp hp=>absurd (show p∈([]:List (af×iF)) from hp) (by simp),e0.eJ.kept hk,?_⟩
 .exact name_of_addr x.apart (kE h1) (kE h2)
 .have hy:scope.names.lookup y=some .cell\/scope.names.lookup y=some .free:=hy
  rcases hy with hy|hy
  .exact JG hy
  .exact absurd rfl (S.YS _ (kE hy))
 .exact mY (x.above y c (kE h))
 .have hi:i<vs.length:=by
   unfold start at h2
   by_cases hi:i<vs.length
   .exact hi
   .rw [dW (by simpa using hi)] at h2;rw [Nn] at h2
    split at h2<;>cases h2
  have ha:vs[i]?=some v:=by
   unfold start at h2;rw [fO (by simpa using hi),aB] at h2
   cases e:vs[i]? with
   | none=>rw [e] at h2;cases h2
   | some a=>rw [e] at h2;cases h2;rfl
  obtain ⟨u,hu,rv⟩:=r.get ha
  have hp:ps[i]?=some y:=by
   rw [← S.pre,List.getElem?_take_of_lt (by lia)];exact h1
  have ndP:ps.Nodup:=by rw [← S.pre];exact S.nd.sublist (VN _ _)
  refine ⟨u,rv,?_⟩
  rcases S.par y (aN hp) with k|k
  .exact .inl ⟨k,Gd ndP hp hu k⟩
  .obtain ⟨c,e⟩:=JG (n:=s.heap.objs.size+1) k;refine .inr ⟨.inl k,c,e,?_⟩;have q:=x.cell y c e;rw [Ge ndP hp hu (by show scope.names.lookup y≠_;rw [k];decide)] at q;exact q
 .exact e0.eJ.fresh (mY (x.above y c (kE h)))
 .unfold start
  show _=N.length
  rw [bb,ag,nc];lia
theorem QP {CX:JE}{params:rJ}{dV kV doc pm lT ct oc:aj}{an od:Option af}
  {osl:Array (Option aj)}{N ps:List bB}{sp:Sp}(lk:K.lookup f=some ⟨oc,od,.func (iz name qual params body scope dV kV doc pm an lT ct),osl⟩) (hcd:oI K lT qual=true) (S:bH N ps scope)
  (len:∀ vs H Q E,sp vs H Q E->vs.length=ps.length)
  (hbody:∀ (A:cL) (outer:List yJ) (s:ax) (H:Hp) (vs:List V) (Q:VK) (E:XK),gZ k (A.deeper (lM qual scope s.heap.objs.size f lT))->sp vs H Q E ->
   ∃ t,IT (lH CX P w K mg base N qual scope f lT A outer s H E) body t/\t { nx:=λ_ H'=>Q .non H',rt:=Q } (start N vs) H) :
  jr P w K mg base CX (k+1) f (iz name qual params body scope dV kV doc pm an lT ct) ps sp:=by
 refine ⟨len,λA outer s H args us vs Q E hr e0 hb r hsp=>?_⟩;have hl:=len _ _ _ _ hsp;have KX:K.In s.heap:=e0.mod.Zi.keeps λb o e=>(e0.bs b o e).1;have lim:s.heap.NoLimit:=e0.mod.nolimit.keeps λb o e=>(e0.bs b o e).1
 have hkind:∀ y∈ps.zip us,scope.names.lookup y.1=some .local\/(scope.names.lookup y.1=some .cell/\((cellsFrom (s.heap.objs.size+1) scope.names []).lookup y.1).isSome=true):=λ⟨n,v⟩ hy=>by
  rcases S.par n (uY hy).1 with q|q
  .exact .inl q
  .exact .inr ⟨q,Lr _ _ _ (.inl q)⟩
 refine codeAny_call_function hr.depth (KX _ _ lk) rfl S.co S.gen rfl (PySem.W.codeRec_of KX hcd) (hb _ _ _ _ ?_);refine wpAny_newFunctionEnv_cells S.kind hkind λenv he s1 x=>?_;subst he;refine ⟨lim.keeps x.toInCall.keep,codeAny_func ?_⟩;obtain ⟨t,ht,hq⟩:=hbody A outer s H vs Q E (hr.deeper _) hsp;have I:Inv (lH CX P w K mg base N qual scope f lT A outer s H E) [] (start N vs) H s1:=OP S hr.hd e0 hl r x;refine dr (ht [] s1 (start N vs) H _ I hq) (λfl s' hs=>?_) λe s' hs=>hs
 have fin:∀ {σ':St}{H':Hp}{v:V}{u:aj},Inv (lH CX P w K mg base N qual scope f lT A outer s H E) [] σ' H' s'->RelV v u->Q v H'->CE outer P w H s Q u s' :=
  λ{σ' H' v u} J rv q=>⟨v,H',J.os,J.bare,J.base,J.eJ,rv,q⟩
 cases fl with
 | ret u =>
  obtain ⟨v,σ',H',J,rv,q⟩:=hs
  exact fin J rv q
 | next =>
  obtain ⟨σ',H',J,q⟩:=hs
  exact fin (v:=V.non) (u:=dC) J rfl q
 | brk =>
  obtain ⟨_,_,_,q⟩:=hs
  exact dD q
 | cont =>
  obtain ⟨_,_,_,q⟩:=hs;exact dD q
section
variable {X:Cx}{t:TA}{id T:String}{r:List V->Hp->VK->Prop}
def qv (r:List V->Hp->VK->Prop) (t:TA):TE:=λZ H Q=>t Z H λvs H1=>r vs H1 Q
def ja (hc:lj X (.builtin id) r) (hg:Gl X x) (hm:X.mg x=none) (hv:dh x=some (.builtin id)) (ha:PA X (e::es) t) (hn:x≠"__name__":=by decide) (hdb:(x == ("__debug__":bB))=false:=by decide)
  (he:bE (e::es) X.env=(false,fo e X.env)::bE es X.env:=by rfl) (hpl:(gM pos (bE es X.env)).any (·.1)=false:=by rfl):PE X (.Call (.Name x p) (e::es) [] pos) (qv r t):=by
 intro pins s Z H Q I h;refine eC (nY I hg hm hv ?_ hn hdb);exact wQ (gp (ha pos pins s Z H _ I h) λus s1 ⟨vs,H1,I1,r1,q1⟩=>hc pins s1 Z H1 vs us Q I1 r1 q1) he hpl
def uk (hc:lj X (.type T) r) (hg:Gl X x) (hm:X.mg x=none) (hv:dh x=some (.type T)) (ha:PA X (e::es) t) (hn:x≠"__name__":=by decide) (hdb:(x == ("__debug__":bB))=false:=by decide)
  (he:bE (e::es) X.env=(false,fo e X.env)::bE es X.env:=by rfl) (hpl:(gM pos (bE es X.env)).any (·.1)=false:=by rfl):PE X (.Call (.Name x p) (e::es) [] pos) (qv r t):=by
 intro pins s Z H Q I h;refine eC (nY I hg hm hv ?_ hn hdb);exact eP (gp (ha pos pins s Z H _ I h) λus s1 ⟨vs,H1,I1,r1,q1⟩=>hc pins s1 Z H1 vs us Q I1 r1 q1) he hpl
end
end L2
namespace HT
open PySem PyProof.Rows
variable {Q:aj->ax->Prop}{sl:af}
def lexLt:List Int->List Int->Bool
 | [],[]=>false
 | [],_::_=>true
 | _::_,[]=>false
 | x::xs,y::ys=>if x=y then lexLt xs ys else decide (x<y)
def Cn (x y:Int) (xs ys:List Int):lexLt (x::xs) (y::ys)=if x=y then lexLt xs ys else decide (x<y):=rfl
def EH:lexLt [] []=false:=rfl
def Co (y:Int) (ys:List Int):lexLt [] (y::ys)=true:=rfl
def Cp (x:Int) (xs:List Int):lexLt (x::xs) []=false:=rfl
def QQ (A:cL) (s:ax) (a:Int) (t:VH) (c:Int) (u:VH):∃ e,SeqAt.EqAt A s (.int a t) (.int c u) e/\(e=true↔a=c) :=
 ⟨(a == c),iV a t c u,by simp⟩
def QR (A:cL) (s:ax) (a:Int) (t:VH) (c:Int) (u:VH) (prog:bA) (w:cg) (E:aj->ax->Prop) (Q:aj->ax->Prop) (h:Q (.bool (decide (a<c))) s) :
  aH (aL prog w) A (richCompare .Lt (.int a t) (.int c u)) Q E s :=
 (Ue h:aH (aL prog w) A (dk .Lt (.int a t) (.int c u)) Q E s)
section
open PySem.SeqAt
open PySem.AutoSeq1 (wpAny_loadPart')
open PySem.MeetsSeq PySem.MeetsSeq2 PySem.MeetsSeq3
theorem EI (l b:af) (items items2:Array aj) (n n2:Nat) (dd dd2:Option af) (sl sl2:Array (Option aj)) (ns ms:List Int) (hi:eW items.toList ns) (hj:eW items2.toList ms) :
  Meets (ij.«tuple.__lt__» ⟨[.ref l,.ref b],[]⟩)
   (λ_ R s=>s.heap.get? l=some { cls:=.type "tuple",dict:=dd,data:=.seq items n,slots:=sl }/\s.heap.get? b=some { cls:=.type "tuple",dict:=dd2,data:=.seq items2 n2,slots:=sl2 } /\
    R (.ok (.ret (.bool (lexLt ns ms)))) s) :=
 .of_wp λprog w A R s h=>by
  obtain ⟨hp,g,d,tk,os⟩:=s;obtain ⟨hl,hb,h⟩:=h;have f2:=AutoSeq1.sub_tuple_tuple
  have z1:items.size=ns.length:=by rw [← hi.length];simp
  have z2:items2.size=ms.length:=by rw [← hj.length];simp
  wp_walk using wpAny_loadPart' hl,wpAny_loadPart' hb,wpAny_forIn_list _ (λrest b s'=>b.1=none/\s'=⟨hp,g,d,tk,os⟩/\∃ (vs ws:List aj) (ns' ms':List Int),rest=vs.zip ws /\
   eW vs ns'/\eW ws ms'/\ns'.length+items2.size=ms'.length+items.size/\R (.ok (.ret (.bool (lexLt ns' ms')))) ⟨hp,g,d,tk,os⟩) _
  case turn =>
   rintro ⟨y,x⟩ rest b s' ⟨hb',rfl,vs,ws,ns',ms',hz,hvi,hwi,hlen,hR⟩
   cases hvi with
   | nil=>rw [List.zip_nil_left] at hz;cases hz
   | cons a t hvi' =>
    cases hwi with
    | nil=>rw [List.zip_nil_right] at hz;cases hz
    | cons c u hwi' =>
     rw [jw] at hz
     injection hz with hyx hrest
     injection hyx with hy hx
     subst hy hx;rw [Cn] at hR;simp only [bI] at hlen;obtain ⟨e,he,hiff⟩:=QQ A.in1 ⟨hp,g,d,tk,os⟩ a t c u;refine aa (he prog w _ _ ?_)
     cases e with
     | true =>
      rw [if_pos (hiff.mp rfl)] at hR
      wp_walk
      exact ⟨rfl,rfl,_,_,_,_,hrest,hvi',hwi',by lia,hR⟩
     | false =>
      rw [if_neg (λq=>absurd (hiff.mpr q) bD)] at hR;have hri:=QR A.in1 ⟨hp,g,d,tk,os⟩ a t c u prog w
      wp_walk using hri
      exact ⟨_,rfl,by simpa using hR⟩
  case fin =>
   rintro ⟨b1,b2⟩ s' ⟨hb',rfl,vs,ws,ns',ms',hz,hvi,hwi,hlen,hR⟩;simp only at hb';subst hb'
   have hv:lexLt ns' ms'=decide (items.size<items2.size):=by
    cases hvi with
    | nil =>
     cases hwi with
     | nil =>
      simp only [lz] at hlen;rw [EH]
      exact (decide_eq_false (by lia)).symm
     | cons c u hw =>
      simp only [lz,bI] at hlen;rw [Co]
      exact (decide_eq_true (by lia)).symm
    | cons a t hv =>
     cases hwi with
     | nil =>
      simp only [lz,bI] at hlen;rw [Cp]
      exact (decide_eq_false (by lia)).symm
     | cons c u hw =>
      rw [jw] at hz;cases hz
   rw [hv] at hR
   wp_walk
   exact ⟨_,rfl,by simpa [Builtin.Tuple.tupleCompareSizes] using hR⟩
  case h =>
   exact ⟨rfl,rfl,items.toList,items2.toList,ns,ms,rfl,hi,hj,by lia,h⟩
end
section
variable {prog:bA}{w:cg}{A:cL}{E:aj->ax->Prop}{s:ax}
def Ma {l b:af}{items items2:Array aj}{ns ms:List Int}(hl:qw s.heap l items) (hb:qw s.heap b items2) (hi:eW items.toList ns) (hj:eW items2.toList ms)
  (hu:A.units<ip) (h:Q (.bool (lexLt ns ms)) s):aH (aL prog w) A (dk .Lt (.ref l) (.ref b)) Q E s:=by
 obtain ⟨⟨cls,dd,data,sl⟩,ho,hc,n,hd⟩:=id hl;obtain ⟨⟨cls2,dd2,data2,sl2⟩,ho2,hc2,n2,hd2⟩:=id hb;simp only at hc hd hc2 hd2;subst hc hd hc2 hd2
 exact richCompare_meets_room (op:=.Lt) ⟨_,ho,rfl⟩ ⟨_,ho2,rfl⟩ PySem.F.slot_tuple_lt PySem.F.entry_tuple_lt (PySem.F.args_tuple_lt_2 _ _) (EI l b items items2 n n2 dd dd2 sl sl2 ns ms hi hj)
  ⟨ho,ho2,show pH (lexLt ns ms)≠Value.notImplemented/\Q (.bool (lexLt ns ms)) s from ⟨(λx=>nomatch x),h⟩⟩ hu
def lY (n d:Nat):Option Int->Nat
 | none=>d
 | some v=>if v<0 then (v+(n:Int)).toNat else min v.toNat n
def JH (n d:Nat):lY n d none=d:=rfl
def UH (n d k:Nat):lY n d (some (k:Int))=min k n:=by
 show (if (k:Int)<0 then ((k:Int)+(n:Int)).toNat else min (k:Int).toNat n)=min k n
 rw [if_neg (by lia),gL]
def XE (n d:Nat) (hd:d<=n) (o:Option Int):lY n d o<=n:=by
 cases o with
 | none=>exact hd
 | some v =>
  show (if v<0 then (v+(n:Int)).toNat else min v.toNat n)<=n
  by_cases hv:v<0
  .rw [if_pos hv];lia
  .rw [if_neg hv];exact Nat.min_le_right _ _
def ND (v:Int) (n d:Nat):(if v<0 then max (v+(n:Int)) 0 else min v (n:Int))=((lY n d (some v):Nat):Int):=by
 show (if v<0 then max (v+(n:Int)) 0 else min v (n:Int))=(((if v<0 then (v+(n:Int)).toNat else min v.toNat n):Nat):Int)
 by_cases hv:v<0
 .simp only [if_pos hv];lia
 .simp only [if_neg hv];lia
def Mb (lo hi:Option Int) (n:Nat):nN lo hi 1 (n:Int)=(((lY n 0 lo:Nat):Int),((lY n n hi:Nat):Int)):=by
 have h1:¬ ((1:Int)<0):=by lia
 unfold nN;simp only [h1,if_false];refine BR ?_ ?_
 .cases lo with
  | none=>rfl
  | some v=>exact ND v n 0
 .cases hi with
  | none=>rfl
  | some v=>exact ND v n n
def Mc (i j:Nat):jA (i:Int) (j:Int) 1=j-i:=by
 unfold jA
 have h1:(1:Int)>0:=by lia
 simp only [h1,if_true,Int.ediv_one]
 split<;>lia
def Cq {v:aj}{o:Option Int}{Q:Option Int->ax->Prop}(p:Ls v o) (h:Q o s):aH (aL prog w) A (Builtin.Slice.slicePartIndex v) Q E s:=by
 cases p with
 | none=>exact slicePart_none h
 | int i t=>exact slicePart_int h
def y6 {vl vu:aj}{lo hi:Option Int}{n:Nat}{Q:Int×Int×Nat->ax->Prop}(hs:s.heap.IsSliceOf sl vl vu .none) (pl:Ls vl lo) (pu:Ls vu hi)
  (h:Q (((lY n 0 lo:Nat):Int),1,lY n n hi-lY n 0 lo) s):aH (aL prog w) A (z7 (.ref sl) (pure (n:Int))) Q E s:=by
 obtain ⟨os,hos,hcs,hds⟩:=id hs;unfold z7 Builtin.Slice.sliceFields;refine aa (aa (kR hos hds (x:=vl) rfl (aa (kR hos hds (x:=vu) rfl (aa (kR hos hds (x:=.none) rfl (ak ?_)))))));refine aa (slicePart_none ?_)
 show aH _ _ (if ((1:Int) == 0)=true then _ else _) _ _ s
 rw [if_neg (by decide)];refine aa (Cq pl (aa (Cq pu (aa (ak ?_)))))
 show aH _ _ (match nN lo hi 1 (n:Int) with|(lo,hi)=>pure (lo,(1:Int),jA lo hi 1)) _ _ s
 rw [Mb lo hi n]
 show aH _ _ (pure (((lY n 0 lo:Nat):Int),(1:Int),jA ((lY n 0 lo:Nat):Int) ((lY n n hi:Nat):Int) 1)) _ _ s
 rw [Mc];exact ak h
def QS (xs:Array aj) (i k:Nat):((gK k).filterMap λ(m:Nat)=>xs[((i:Int)+(m:Int)*1).toNat]?).toArray=((xs.toList.drop i).take k).toArray:=by
 have e:(λ(m:Nat)=>xs[((i:Int)+(m:Int)*1).toNat]?)=λm=>xs[i+m]?:=by
  funext m
  have:((i:Int)+(m:Int)*1).toNat=i+m:=by lia
  rw [this]
 rw [e];have:=pick_run xs i k;rw [List.filterMap_map] at this;have e2:((λx=>xs[x]?)∘λx=>i+x)=λm=>xs[i+m]?:=rfl;rw [e2] at this;rw [this]
theorem w8 {t:af}{items:Array aj}{vl vu:aj}{lo hi:Option Int}(ht:qw s.heap t items) (hs:s.heap.IsSliceOf sl vl vu .none) (pl:Ls vl lo) (pu:Ls vu hi)
  (hw:¬ (lY items.size 0 lo=0/\lY items.size items.size hi=items.size))
  (h:Q (.ref s.heap.objs.size) { s with heap:=s.heap.push { cls:=.type "tuple",data:=.seq ((items.toList.drop (lY items.size 0 lo)).take (lY items.size items.size hi-lY items.size 0 lo)).toArray } })
  (hsz:items.size<=aW):aH (aL prog w) A (IV (.ref t) (.ref sl)) Q E s:=by
 have htake:sizeOk (.seq ((items.toList.drop (lY items.size 0 lo)).take (lY items.size items.size hi-lY items.size 0 lo)).toArray):=by
  show ((items.toList.drop (lY items.size 0 lo)).take (lY items.size items.size hi-lY items.size 0 lo)).toArray.size<=aW
  rw [aI,bM,cY,aM];lia
 have hj:lY items.size items.size hi<=items.size:=XE _ _ (au _) hi;obtain ⟨os,hos,hcs,hds⟩:=id hs
 have hTs:s.TypeIs (.ref sl) "slice":=⟨os,hos,hcs⟩
 unfold IV
 try with_reducible refine cq ?_
 first|refine aa (ak ?_)|skip
 refine aa (wpAny_sequenceKey ht.typeIs (by decide) ?_)
 refine aa (c6 (name:=fB "__getitem__") ht.typeIs hU
  (cO hU ht.typeIs entry_tuple_getitem ?_ (args_tuple_getitem _ _)))
 show aH _ _ (Builtin.Tuple.tupleItemsOf (.ref t) >>= _) _ _ s
 refine aa (tupleItemsOf_ ht ?_);refine aa (IY hTs ?_);rw [if_pos (by decide)];refine aa (y6 hs pl pu ?_)
 have hno:¬ ((((lY items.size 0 lo:Nat):Int) == 0 && (1:Int) == 1 && (lY items.size items.size hi-lY items.size 0 lo) == items.size)=true):=by
  intro q;rw [hV,hV] at q;have q1:((lY items.size 0 lo:Nat):Int)=0:=eq_of_beq q.1.1;have q2:lY items.size items.size hi-lY items.size 0 lo=items.size:=eq_of_beq q.2;exact hw ⟨by lia,by lia⟩
 show aH _ _ (if (((lY items.size 0 lo:Nat):Int) == 0 && (1:Int) == 1 && (lY items.size items.size hi-lY items.size 0 lo) == items.size)=true then _ else _) _ _ s
 rw [if_neg hno,QS]
 first
  | exact aa (m:=jT _) (cP (ak ⟨_,rfl,ak h⟩) htake)
  | exact aa (m:=jT _) (cP (aa (ak (ak ⟨_,rfl,ak h⟩))) htake)
  | exact aa (aa (m:=jT _) (cP (ak (ak ⟨_,rfl,ak h⟩)) htake))
  | exact aa (aa (m:=jT _) (cP (ak ⟨_,rfl,ak h⟩) htake))
end
end HT
namespace L2
variable {H H':Hp}{X:Cx}{s:ax}{pins:List (af×iF)}{Z:St}{a b p:af}{w:cg}{A:cL}{E Q:aj->ax->Prop}{P:bA}{u:aj}{o:Option V}{y x v:V}{e:Expr}{pos apos cpos:ue}{n t' j:Nat}{xs ys:List V}{its its':List aj}{i:Int}{r:R2}{T:String}{h':cK}
abbrev TO:=St->Hp->(Option Int->Hp->Prop)->Prop
def PO (X:Cx) (e:Option Expr) (t:TO):Prop :=
 ∀ (pins:List (af×iF)) (s:ax) (Z:St) (H:Hp) (Q:Option Int->Hp->Prop),Inv X pins Z H s->t Z H Q ->
  aH (aL X.prog X.w) X.A (evalPart e X.env) (λu s'=>∃ o H',Inv X pins Z H' s'/\Ls u o/\Q o H') X.xe s
def ia:TO:=λ_ H Q=>Q none H
def jB (t:TE):TO:=λZ H Q=>t Z H λx H1=>∃ i,x=.int i/\Q (some i) H1
def intsAre_of {ns:List Int}:∀ {us:List aj},Vals (ns.map V.int) us->eW us ns:=by
 induction ns with
 | nil=>intro us r;rw [BS] at r;cases r;exact .nil
 | cons n ns ih =>
  intro us r;rw [aV] at r
  cases r with
  | cons r1 r2 =>
   obtain ⟨t,e⟩:=r1;subst e;exact .cons n t (ih r2)
section
variable {te:TE}{lo hi:Option Expr}{tl th:TO}{p2:ue}
def xa:PO X none ia:=by
 intro pins s Z H Q I h;rw [evalPart_none];exact ak ⟨none,H,I,.none,h⟩
def xc (h:PE X e te):PO X (some e) (jB te):=by
 intro pins s Z H Q I hw;rw [evalPart_some];refine gp (h pins s Z H _ I hw) λu s1 ⟨x,H1,I1,r1,q1⟩=>?_;obtain ⟨i,rfl,q⟩:=q1;obtain ⟨t,rfl⟩:=r1;exact ⟨some i,H1,I1,.int i t,q⟩
def SlR (X:Cx) (r:V->Option Int->Option Int->Hp->VK->Prop):Prop :=
 ∀ (pins:List (af×iF)) (s:ax) (Z:St) (H:Hp) (x:V) (v vl vu:aj) (lo hi:Option Int) (sl:af) (Q:VK),Inv X pins Z H s->RelV x v->s.heap.IsSliceOf sl vl vu .none->Ls vl lo->Ls vu hi->r x lo hi H Q ->
  ∃ T id,typeLookup (.type T) "__getitem__"=pure (some (.builtin id))/\s.TypeIs v T/\aH (aL X.prog X.w) X.A (IV v (.ref sl)) (EP X pins Z Q) X.xe s
def Gg (r:V->Option Int->Option Int->Hp->VK->Prop) (te:TE) (tl th:TO):TE:=λZ H Q=>te Z H λx H1=>tl Z H1 λl H2=>th Z H2 λu H3=>r x l u H3 Q
def si {r:V->Option Int->Option Int->Hp->VK->Prop}(hr:SlR X r) (he:PE X e te) (hl:PO X lo tl) (hu:PO X hi th):PE X (.Subscript e (.Slice lo hi none p2) pos) (Gg r te tl th):=by
 intro pins s Z H Q I h;refine PK (gp (he pins s Z H _ I h) λv s1 ⟨x,H1,I1,r1,q1⟩=>?_);refine wpAny_Slice (gp (hl pins s1 Z H1 _ I1 q1) λvl s2 ⟨l,H2,I2,pl,q2⟩=>gp (hu pins s2 Z H2 _ I2 q2) λvu s3 ⟨u,H3,I3,pu,q3⟩=>?_);rw [evalPart_none];refine ak ?_;have I4:Inv X pins Z H3 { s3 with heap:=s3.heap.push { cls:=.type "slice",data:=.fields #[vl,vu,.none] } }:=I3.kept (t':=s3.toks) λb ob q=>ar _ q;obtain ⟨T,id,hT,ht,hg⟩:=hr pins { s3 with heap:=s3.heap.push { cls:=.type "slice",data:=.fields #[vl,vu,.none] } } Z H3 x v vl vu l u s3.heap.objs.size Q I4 r1 (Heap.IsSliceOf.new ..) pl pu q3
 show aH (aL X.prog X.w) X.A (subscriptTail e (.Slice lo hi none p2) v (.ref s3.heap.objs.size)) (EP X pins Z Q) X.xe { s3 with heap:=s3.heap.push { cls:=.type "slice",data:=.fields #[vl,vu,.none] } }
 exact tail_any (ops:=[.ref s3.heap.objs.size,v]) ht hT hg (by with_unfolding_all rfl)
def vY (xs:List V) (lo hi:Option Int):List V:=(xs.drop (HT.lY xs.length 0 lo)).take (HT.lY xs.length xs.length hi-HT.lY xs.length 0 lo)
def Ag (xs:List V) (lo hi:Option Int):(vY xs lo hi).length<=xs.length:=by
 unfold vY;rw [bM,cY];lia
def QU (K:ae):V->Option Int->Option Int->Hp->VK->Prop:=λx lo hi H Q=>∃ a xs,x=.ref a/\jq K H a xs /\
 ¬ (HT.lY xs.length 0 lo=0/\HT.lY xs.length xs.length hi=xs.length)/\∀ p,H p=none->Q (.ref p) (upd H p (.tup (vY xs lo hi)))
def XF:SlR X (QU X.K):=by
 intro pins s Z H x v vl vu lo hi sl Q I rx hs pl pu h;obtain ⟨a,xs,rfl,hx,hw,q⟩:=h;cases rx;obtain ⟨its,r,ht,hz⟩:=I.tuple hx
 have hlen:its.toArray.size=xs.length:=by rw [aI];exact r.length.symm
 refine ⟨"tuple",_,hU.lookup,ht.typeIs,?_⟩;refine HT.w8 ht hs pl pu (by rw [hlen];exact hw) ?_ (by rw [hlen];exact hz);rw [hlen];refine ⟨.ref s.heap.objs.size,_,I.laid (t':=s.toks) (o:=.tup (vY xs lo hi)) (λb ob q=>ar _ q) (au _) ?_,rfl,q _ (I.eJ.fresh (au _))⟩;exact ⟨br (Ag xs lo hi) hz,_,(r.drop (HT.lY xs.length 0 lo)).take (HT.lY xs.length xs.length hi-HT.lY xs.length 0 lo),IsTup.new _ _⟩
end
def Qh (n:Nat) (i:Int):Option Nat:=if 0<=i then (if i<n then some i.toNat else none) else if -(n:Int)<=i then some (i+n).toNat else none
def Qi {α:Type} (xs:List α) (i:Int):Option α:=(Qh xs.length i).bind λj=>xs[j]?
def NF (h:Qh n i=some j):seqIndex? i n=some j/\j<n/\-(n:Int)<=i/\i<n:=by
 unfold Qh at h
 by_cases h0:0<=i
 .rw [if_pos h0] at h
  by_cases h1:i<n
  .rw [if_pos h1] at h;have e:i.toNat=j:=aU h;exact ⟨by rw [LI h0 h1,e],by lia,by lia,h1⟩
  .rw [if_neg h1] at h;cases h
 .rw [if_neg h0] at h
  by_cases h1:-(n:Int)<=i
  .rw [if_pos h1] at h;have e:(i+n).toNat=j:=aU h;exact ⟨by rw [seqIndex_neg (by lia) h1,e],by lia,h1,by lia⟩
  .rw [if_neg h1] at h;cases h
def Hc {α:Type} {xs:List α}{v:α}(h:Qi xs i=some v):∃ j,seqIndex? i xs.length=some j/\xs[j]?=some v/\j<xs.length/\-(xs.length:Int)<=i/\i<xs.length:=by
 unfold Qi at h
 cases e:Qh xs.length i with
 | none=>rw [e] at h;cases h
 | some j =>
  rw [e] at h;obtain ⟨h1,h2,h3,h4⟩:=NF e;exact ⟨j,h1,h,h2,h3,h4⟩
def UI {α:Type} {xs:List α}{v:α}(h:xs[j]?=some v):Qi xs (j:Int)=some v:=by
 have hj:j<xs.length:=(aC.mp h).1
 have e:Qh xs.length (j:Int)=some j:=by
  unfold Qh;rw [if_pos (by lia),if_pos (by lia)];simp
 unfold Qi;rw [e];exact h
def QV {α:Type} (xs:List α) (v:α):Qi (xs++[v]) (-1)=some v:=by
 have hl:(xs++[v]).length=xs.length+1:=by simp
 have e:Qh (xs++[v]).length (-1)=some xs.length:=by
  unfold Qh;rw [hl,if_neg (by decide),if_pos (by lia)]
  congr 1
  lia
 unfold Qi;rw [e]
 show (xs++[v])[xs.length]?=some v
 simp
def UJ (b:Expr):Prop:=∀ o i,subscripted b false o i=operate [o,i] (IV o i)
def VA (X:Cx) (r:R2):Prop :=
 ∀ (value slice:Expr) (pins:List (af×iF)) (s:ax) (Z:St) (H:Hp) (x y:V) (v u:aj) (Q:VK),Inv X pins Z H s->RelV x v->RelV y u->r x y H Q ->
  subscripted slice false v u=operate [v,u] (IV v u)->aH (aL X.prog X.w) X.A (subscriptTail value slice v u) (EP X pins Z Q) X.xe s
def MtR (X:Cx) (id:String) (r:V->List V->Hp->VK->Prop):Prop :=
 ∀ (pins:List (af×iF)) (s:ax) (Z:St) (H:Hp) (x:V) (xs:List V) (v:aj) (us:List aj) (Q:VK),Inv X pins Z H s->RelV x v->Vals xs us->r x xs H Q ->
  aH (aL X.prog X.w) X.A (call (.builtin id) (v::us)) (EP X pins Z Q) X.xe s
section
variable {a b:Expr}{ta tb:TE}
def VA.or {r':R2}(h:VA X r) (h':VA X r'):VA X (λx y H Q=>r x y H Q\/r' x y H Q):=by
 intro value slice pins s Z H x y v u Q I rx ry q hs
 rcases q with q|q
 .exact h value slice pins s Z H x y v u Q I rx ry q hs
 .exact h' value slice pins s Z H x y v u Q I rx ry q hs
def QW (hr:VA X r) (ha:PE X a ta) (hb:PE X b tb) (hs:UJ b):PE X (.Subscript a b pos) (cm r ta tb):=by
 intro pins s Z H Q I h;exact PK (Xy ha hb I h λv u s2 x y H2 I2 rx ry q=>hr a b pins s2 Z H2 x y v u Q I2 rx ry q (hs _ _))
def Hd (K:ae):R2:=λx y H Q=>∃ p xs i v,x=.ref p/\y=.int i/\dm K H p xs/\Qi xs i=some v/\Q v H
def ZF (K:ae):R2:=λx y H Q=>∃ p xs i v,x=.ref p/\y=.int i/\jq K H p xs/\Qi xs i=some v/\Q v H
def UK:VA X (Hd X.K):=by
 intro value slice pins s Z H x y v u Q I rx ry h hs;obtain ⟨p,xs,i,z,rfl,rfl,hq,he,q⟩:=h;cases rx;obtain ⟨t,rfl⟩:=ry;obtain ⟨its,r,pl,hz⟩:=I.list hq;obtain ⟨j,h1,h2,h3,h4,h5⟩:=Hc he;obtain ⟨w,ew,rw'⟩:=r.get h2;have hl:=r.length;have hn:=qB
 have fin:EP X pins Z Q w s:=⟨z,H,I,rw',q⟩
 by_cases h0:0<=i
 .have hj:i.toNat=j:=by
   rw [LI h0 h5] at h1;exact aU h1
  exact item_listR pl.isList h0 (by lia) (by rw [hj];simpa using ew) fin hs
 .have hj:(i+(its.toArray.size:Int)).toNat=j:=by
   rw [seqIndex_neg (by lia) h4] at h1;rw [aI,← hl];exact aU h1
  exact yM (x:=w) pl.isList.typeIs slot_list_getitem.lookup
   (VO (Q:=λr s'=>r=w/\EP X pins Z Q r s') pl.isList (by lia) (by rw [aI]<;>lia) (by lia) (by rw [hj];simpa using ew) ⟨rfl,fin⟩) hs
def XG:VA X (ZF X.K):=by
 intro value slice pins s Z H x y v u Q I rx ry h hs;obtain ⟨p,xs,i,z,rfl,rfl,hq,he,q⟩:=h;cases rx;obtain ⟨t,rfl⟩:=ry;obtain ⟨its,r,pl,hz⟩:=I.tuple hq;obtain ⟨j,h1,h2,h3,h4,h5⟩:=Hc he;obtain ⟨w,ew,rw'⟩:=r.get h2;have hl:=r.length;have hn:=qB
 have fin:EP X pins Z Q w s:=⟨z,H,I,rw',q⟩
 exact yM (x:=w) pl.typeIs hU.lookup
  (getItem_tuple (j:=j) (Q:=λr s'=>r=w/\EP X pins Z Q r s') pl (by lia) (by lia) (by rw [aI,← hl];exact h1) (by simpa using ew) ⟨rfl,fin⟩) hs
def Md (its:List aj) (n j:Nat) (u:aj):bQ (·.setIfInBounds j u) { cls:=.type "list",data:=.seq its.toArray n }={ cls:=.type "list",data:=.seq (its.set j u).toArray n }:=by
 simp [bQ]
def Inv.lst (I:Inv X pins Z H s) (h:H p=some (.lst xs)) :
  ∃ (its:List aj) (n:Nat),Vals xs its/\s.heap.get? p=some { cls:=.type "list",data:=.seq its.toArray n }/\xs.length<=aW:=by
 obtain ⟨z,its,n,r,e⟩:=I.eJ p _ h;exact ⟨its,n,r,e,z⟩
def Inv.YQ {n':Nat}{f:iF->iF}(I:Inv X pins Z H s) (h:H p=some (.lst xs))
  (ho:s.heap.get? p=some { cls:=.type "list",data:=.seq its.toArray n }) (hf:f { cls:=.type "list",data:=.seq its.toArray n }={ cls:=.type "list",data:=.seq its'.toArray n' }) (r:Vals ys its') (hz:ys.length<=aW) (t:Nat) :
  Inv X pins Z (upd H p (.lst ys)) { s with heap:=s.heap.update p f,toks:=t }:=by
 have e:(s.heap.update p f).get? p=some { cls:=.type "list",data:=.seq its'.toArray n' }:=by
  rw [bP f ho (by rw [hf]<;>rfl),hf]
 refine I.write (x:=p) (e:=p) (by rw [h];trivial) (.inl rfl) (λb u hb q=>(bp _ _ (Ne.symm hb)).trans q) ⟨_,e⟩ ?_;exact ⟨hz,its',n',r,e⟩
def Ah:V->V->V->Hp->(Hp->Prop)->Prop:=λo i v H Q=>∃ p xs k j,o=.ref p/\i=.int k/\H p=some (.lst xs)/\Qh xs.length k=some j/\Q (upd H p (.lst (xs.set j v)))
def sj:QE X Ah:=by
 intro pins s Z H o i v ov iv u Q I ro ri rv h;obtain ⟨p,xs,k,j,rfl,rfl,hp,hj,q⟩:=h;cases ro;obtain ⟨t,rfl⟩:=ri;obtain ⟨its,n,r,ho,hz⟩:=I.lst hp;obtain ⟨h1,h2,h3,h4⟩:=NF hj;have hl:=r.length;have hn:=qB
 have I':Inv X pins Z (upd H p (.lst (xs.set j v))) { s with heap:=s.heap.update p (bQ (·.setIfInBounds j u)) } :=
  I.YQ hp ho (Md its n j u) (r.set rv j) (by rw [List.length_set];exact hz) s.toks
 by_cases h0:0<=k
 .have hk:k.toNat=j:=by
   rw [LI h0 h4] at h1;exact aU h1
  exact PySem.W.ki_setAt ho h0 (by lia) (by rw [aI,← hl];exact h4) (by rw [hk];exact ⟨_,I',q⟩)
 .have hk:(k+(its.toArray.size:Int)).toNat=j:=by
   rw [seqIndex_neg (by lia) h3] at h1;rw [aI,← hl];exact aU h1
  exact PySem.W.ki_setBack ho (by lia) (by rw [aI,← hl];exact h3) (by lia) (by rw [hk];exact ⟨_,I',q⟩)
def He (lo hi:Option Int) (n:Nat):(pK lo hi none n).1=((HT.lY n 0 lo:Nat):Int)/\(pK lo hi none n).2.1=((HT.lY n n hi:Nat):Int)/\(pK lo hi none n).2.2=1:=by
 refine ⟨?_,?_,rfl⟩
 .cases lo with
  | none=>simp [pK,HT.lY]
  | some i =>
   simp only [pK,HT.lY,Ui,show (1:Int)>0 by decide,if_true]
   by_cases h:i<0
   .simp only [h,if_true]<;>lia
   .simp only [h,if_false]<;>lia
 .cases hi with
  | none=>simp [pK,HT.lY]
  | some i =>
   simp only [pK,HT.lY,Ui,show (1:Int)>0 by decide,if_true]
   by_cases h:i<0
   .simp only [h,if_true]<;>lia
   .simp only [h,if_false]<;>lia
def EJ (its:List aj) (lo hi:Option Int):slicePick its.toArray lo hi none=((its.drop (HT.lY its.length 0 lo)).take (HT.lY its.length its.length hi-HT.lY its.length 0 lo)).toArray:=by
 obtain ⟨h1,h2,h3⟩:=He lo hi its.toArray.size;unfold slicePick;rw [h1,h2,h3];simp only [sliceRange_one,pick_run,aI]<;>rfl
def pQ (K:ae):V->Option Int->Option Int->Hp->VK->Prop:=λx lo hi H Q=>∃ a xs,x=.ref a/\dm K H a xs/\∀ p,H p=none->Q (.ref p) (upd H p (.lst (vY xs lo hi)))
def xf:SlR X (pQ X.K):=by
 intro pins s Z H x v vl vu lo hi sl Q I rx hs pl pu h;obtain ⟨a,xs,rfl,hx,q⟩:=h;cases rx;obtain ⟨its,r,ht,hz⟩:=I.list hx;have hlen:=r.length;refine ⟨"list",_,slot_list_getitem.lookup,ht.isList.typeIs,?_⟩;refine wpAny_getItem_list_slice ht.isList hs pl pu .none (by simp) ?_ (by rw [aI]<;>lia);rw [EJ,← hlen];refine ⟨.ref s.heap.objs.size,_,I.laid (t':=s.toks) (o:=.lst (vY xs lo hi)) (λb ob q=>ar _ q) (au _) ?_,rfl,q _ (I.eJ.fresh (au _))⟩;exact ⟨br (Ag xs lo hi) hz,_,0,(r.drop (HT.lY xs.length 0 lo)).take (HT.lY xs.length xs.length hi-HT.lY xs.length 0 lo),aK _ rfl⟩
def Hg:lj X (.builtin "len") (λxs H Q=>∃ p ys,xs=[.ref p]/\(dm X.K H p ys\/jq X.K H p ys)/\Q (.int ys.length) H):=by
 intro pins s Z H xs us Q I r h;obtain ⟨p,ys,rfl,hq,q⟩:=h;obtain ⟨u,rfl,rx⟩:=vals1 r;cases rx;have hn:=qB
 rcases hq with hq|hq
 .obtain ⟨its,r',pl,hz⟩:=I.list hq;have hlen:=r'.length;exact Calls.call_len_list pl.isList (by simp only [aI]<;>lia) ⟨.int ys.length,H,I.tok _,⟨s.toks+1,by rw [aI,hlen]⟩,q⟩
 .obtain ⟨its,r',pl,hz⟩:=I.tuple hq;have hlen:=r'.length;exact len_tuple pl (by simp only [aI]<;>lia) ⟨.int ys.length,H,I.tok _,⟨s.toks+1,by rw [aI,hlen]⟩,q⟩
def lj.or {f:aj}{r r':List V->Hp->VK->Prop}(h:lj X f r) (h':lj X f r'):lj X f (λxs H Q=>r xs H Q\/r' xs H Q):=by
 intro pins s Z H xs us Q I rs q
 rcases q with q|q
 .exact h pins s Z H xs us Q I rs q
 .exact h' pins s Z H xs us Q I rs q
def xg:lj X (.type "list") (λxs H Q=>∃ p ys,xs=[.ref p]/\(dm X.K H p ys\/jq X.K H p ys)/\∀ l,H l=none->Q (.ref l) (upd H l (.lst ys))):=by
 intro pins s Z H xs us Q I r h;obtain ⟨p,ys,rfl,hq,q⟩:=h;obtain ⟨u,rfl,rx⟩:=vals1 r;cases rx
 have fin:∀ (its:List aj),Vals ys its->ys.length<=aW->∀ (h':cK) (c':Nat),(∀ b o',s.heap.get? b=some o'->h'.get? b=some o') ->
   h'.get? s.heap.objs.size=some { cls:=.type "list",dict:=none,data:=.seq its.toArray c',slots:=#[] }->EP X pins Z Q (.ref s.heap.objs.size) { s with heap:=h' }:=λits r' hz h' c' kp e =>
  ⟨.ref s.heap.objs.size,_,I.laid (t':=s.toks) kp (au _) (show eU X.prog X.w _ h' _ (.lst ys) from ⟨hz,its,c',r',e⟩),rfl,q _ (I.eJ.fresh (au _))⟩
 rcases hq with hq|hq
 .obtain ⟨its,r',pl,hz⟩:=I.list hq;have hlen:=r'.length;obtain ⟨o,ho,hc,n,hd⟩:=pl.isList;exact call_list_seq p (.inl rfl) ho hc hd (λh' c' kp e=>fin its r' hz h' c' kp e) (by simp only [aI]<;>lia)
 .obtain ⟨its,r',pl,hz⟩:=I.tuple hq;have hlen:=r'.length;obtain ⟨o,ho,hc,n,hd⟩:=pl;exact call_list_seq p (.inr rfl) ho hc hd (λh' c' kp e=>fin its r' hz h' c' kp e) (by simp only [aI]<;>lia)
def tyV (K:ae) (T:String) (x:V) (H:Hp):Prop:=match x with
 | .str _=>T="str"
 | .int _=>T="int"
 | .ref p=>(T="list"/\∃ xs,dm K H p xs)\/(T="tuple"/\∃ o,K.lookup p=some o/\o.cls=.type "tuple"/\o.dict=none) \/
   (T="dict"/\((∃ kvs,H p=some (.dK kvs))\/∃ kvs,H p=some (.dT kvs)))\/(T="set"/\∃ S n,H p=some (.set S n))
 | _=>False
def XH {v:aj}(I:Inv X pins Z H s) (r:RelV x v) (ty:tyV X.K T x H) :
  s.TypeIs v T/\∀ a,v=.ref a->∃ ob,s.heap.get? a=some ob/\ob.dict=none:=by
 cases x with
 | str z =>
  obtain ⟨t,rfl⟩:=r;cases (show T="str" from ty)
  exact ⟨typeIs_str s z t,λ_ e=>nomatch e⟩
 | int i =>
  obtain ⟨t,rfl⟩:=r;cases (show T="int" from ty)
  exact ⟨typeIs_int s i t,λ_ e=>nomatch e⟩
 | ref p =>
  cases r
  rcases ty with ⟨rfl,xs,hq⟩|⟨rfl,o,hk,hc,hd⟩|⟨rfl,hk⟩|⟨rfl,S,n,hk⟩
  .obtain ⟨its,_,pl,_⟩:=I.list hq;refine ⟨pl.isList.typeIs,λa e=>?_⟩;cases e;obtain ⟨o,n,e,c,hd,_⟩:=pl;exact ⟨o,e,hd⟩
  .refine ⟨⟨o,I.AW p o hk,hc⟩,λa e=>?_⟩;cases e;exact ⟨o,I.AW _ o hk,hd⟩
  .have z:∃ o,s.heap.get? p=some o/\o.ExactDict:=by
    rcases hk with ⟨kvs,hk⟩|⟨kvs,hk⟩
    .obtain ⟨_,_,_,_,o,_,_,e,ex,_⟩:=I.eJ p _ hk;exact ⟨o,e,ex⟩
    .obtain ⟨_,_,_,_,o,_,_,e,ex,_⟩:=I.eJ p _ hk;exact ⟨o,e,ex⟩
   obtain ⟨o,e,ex⟩:=z;refine ⟨⟨o,e,ex.1⟩,λa e2=>?_⟩;cases e2;exact ⟨o,e,ex.2.1⟩
  .obtain ⟨o,_,_,_,e,ex,_⟩:=I.eJ p _ hk;refine ⟨⟨o,e,ex.1⟩,λa e2=>?_⟩;cases e2
   exact ⟨o,e,ex.2.1⟩
 | _=>exact dD ty
def EK (K:ae) (T:String) (r:V->List V->Hp->VK->Prop) (to:TE) (t:TA):TE:=λZ H Q=>to Z H λx H1=>tyV K T x H1/\t Z H1 λxs H2=>r x xs H2 Q
variable {o:Expr}{es:List Expr}{to:TE}{t:TA}{name:bB}{id:String}{r:V->List V->Hp->VK->Prop}
def oK (pa:PlainAttrs T) (slot:Slot T name id) (hty:typeOf (.builtin id)=pure (.type "method_descriptor")) (hm:MtR X id r) (ho:PE X o to) (ha:PA X (e::es) t)
  (hbase:uX o name X.env (fo o X.env)=fo o X.env:=by rfl)
  (hfew:((gM cpos (bE (e::es) X.env)).all (λx=>!x.1) && (IX cpos (uB [] X.env)).all (λx=>x.1.isSome)
   && decide ((e::es).length+([]:List VM).length+(if ([]:List VM).isEmpty then 0 else 1)<30))=true:=by rfl)
  (hline:(apos.endLine == cpos.line)=true:=by rfl) (hs:bE (e::es) X.env=(false,fo e X.env)::bE es X.env:=by rfl) (hplain:(gM cpos (bE es X.env)).any (·.1)=false:=by rfl) :
  PE X (.Call (.Attribute o name apos) (e::es) [] cpos) (EK X.K T r to t):=by
 intro pins s Z H Q I h;refine wpAny_Call_method_late hbase hfew hline rfl (gp (ho pins s Z H _ I h) λv s1 ⟨x,H1,I1,r1,ty,q1⟩=>?_);obtain ⟨h1,h2⟩:=XH I1 r1 ty;refine ⟨T,id,pa,slot,hty,h1,h2,?_⟩;have hA:=ha cpos pins s1 Z H1 _ I1 q1;rw [hs] at hA ⊢;refine Calls.callWith_builtin (by show (false || (gM cpos (bE es X.env)).any (·.1))=false;rw [hplain]<;>rfl) (PL ?_);exact gp hA λus s2 ⟨vs,H2,I2,r2,q2⟩=>hm pins s2 Z H2 x vs v us Q I2 r1 r2 q2
end
def VE (X:Cx) (id:String) (r:V->List V->Hp->VK->Prop):Prop :=
 ∀ (pins:List (af×iF)) (s:ax) (Z:St) (H:Hp) (x:V) (xs:List V) (v:aj) (us:List aj) (Q:VK),Inv X pins Z H s->RelV x v->Vals xs us->r x xs H Q ->
  aH (aL X.prog X.w) X.A (call (.builtin id) (v::us)) (EP X pins Z Q) X.xe s
def Vals.one {us:List aj}(h:Vals [x] us):∃ u,us=[u]/\RelV x u:=by
 cases h with
 | cons r t=>cases t;exact ⟨_,rfl,r⟩
section
variable {l:af}{zs:List V}
def Inv.lset {f:Array aj->Array aj}(I:Inv X pins Z H s) (hH:H l=some (.lst xs))
  (e:s.heap.get? l=some { cls:=.type "list",data:=.seq its.toArray n }) (hf:f its.toArray=its'.toArray) (hv:Vals ys its') (hz:ys.length<=aW) :
  Inv X pins Z (upd H l (.lst ys)) { s with heap:=s.heap.update l (bQ f),toks:=t' }:=by
 have q:=PySem.IsL.update e f;rw [hf] at q;refine I.write (x:=l) (e:=l) (by rw [hH];exact trivial) (.inl rfl) (λb' u hb hu=>(bp s.heap (bQ f) (Ne.symm hb)).trans hu) ⟨_,q⟩ ?_;exact ⟨hz,its',_,hv,q⟩
def Inv.lnew (I:Inv X pins Z H s) (hv:Vals ys its) (hz:ys.length<=aW) :
  Inv X pins Z (upd H s.heap.objs.size (.lst ys)) { s with heap:=s.heap.push { cls:=.type "list",data:=.seq its.toArray },toks:=t' } :=
 I.laid (λ_ _ q=>ar _ q) (au _) ⟨hz,its,0,hv,aK _ rfl⟩
def Inv.fresh (I:Inv X pins Z H s):H s.heap.objs.size=none:=I.eJ.fresh (au _)
def Inv.YI (I:Inv X pins Z H s) (hH:H l=some (.lst xs)):xs.length<=aW/\∃ (its:List aj) (n:Nat),Vals xs its/\xs.length=its.length/\s.heap.get? l=some { cls:=.type "list",data:=.seq its.toArray n }:=by
 obtain ⟨z,its,n,r,e⟩:=I.eJ l _ hH;exact ⟨z,its,n,r,r.length,e⟩
end
def kq:V->List V->Hp->VK->Prop:=λx vs H Q=>∃ l xs y,x=.ref l/\vs=[y]/\H l=some (.lst xs)/\xs.length<aW/\Q .non (upd H l (.lst (xs++[y])))
def lZ:VE X "list.append" kq:=by
 intro pins s Z H x vs v us Q I rx rv h;obtain ⟨l,xs,y,rfl,rfl,hH,hz,q⟩:=h;cases rx;obtain ⟨u,rfl,ru⟩:=rv.one;obtain ⟨z,its,n,r,hl,e⟩:=I.YI hH;refine call_meets F.slot_list_append ⟨_,e,rfl⟩ F.entry_list_append (F.args_list_append_2 _ _) (PySem.list_append l its.toArray n u (by rw [aI];lia)) ⟨e,?_⟩;refine ⟨.non,_,I.lset (its':=its++[u]) hH e (by simp) (r.append (.cons ru .nil)) ?_,rfl,q⟩;rw [bb,PN];lia
def ZG:R2:=λx y H Q=>∃ l b xs zs,x=.ref l/\y=.ref b/\H l=some (.lst xs)/\H b=some (.lst zs)/\xs.length+zs.length<=aW/\∀ p,H p=none->Q (.ref p) (upd H p (.lst (xs++zs)))
def XI:qS X (rT .Add) ZG:=by
 intro pins s Z H x y v u Q I rx ry h;obtain ⟨l,b,xs,zs,rfl,rfl,hH,hB,hz,q⟩:=h;cases rx;cases ry;obtain ⟨z,its,n,r,hl,e⟩:=I.YI hH;obtain ⟨z2,its2,n2,r2,hl2,e2⟩:=I.YI hB;refine PySem.P.add_list e e2 ?_ (by rw [aI,aI];lia)
 have ea:its.toArray++its2.toArray=(its++its2).toArray:=by simp
 rw [ea];exact ⟨.ref _,_,I.lnew (t':=s.toks) (r.append r2) (by rw [bb];lia),rfl,q _ I.fresh⟩
section
variable {prog:bA}
end
section
variable {κ:Type} [DecidableEq κ]
def iR (kvs:List (κ×V)) (k:κ):Option V:=(kvs.find? λkv=>decide (kv.1=k)).map (·.2)
def uL (kvs:List (κ×V)) (k:κ) (v:V):List (κ×V) :=
 if (kvs.any λkv=>decide (kv.1=k))=true then kvs.map (λkv=>if kv.1=k then (kv.1,v) else kv) else kvs++[(k,v)]
def mM (kvs:List (κ×V)) (k:κ):List (κ×V):=kvs.filter λkv=>decide (kv.1≠k)
def sk {p:κ×V}{r:List (κ×V)}{k:κ}(e:p.1=k):iR (p::r) k=some p.2:=by simp [iR,lA,e]
def pR {p:κ×V}{r:List (κ×V)}{k:κ}(e:¬ p.1=k):iR (p::r) k=iR r k:=by simp [iR,lA,e]
theorem xh (k:κ):∀ kvs:List (κ×V),(kvs.any λkv=>decide (kv.1=k))=(iR kvs k).isSome
 | []=>rfl
 | p::r=>by
  rw [LJ]
  by_cases e:p.1=k
  .simp only [sk e,decide_eq_true e,Bool.true_or,Option.isSome_some]
  .rw [pR e,decide_eq_false e,Bool.false_or];exact xh k r
def Ai (kvs:List (κ×V)) (k:κ) (v:V):(uL kvs k v).length<=kvs.length+1:=by
 unfold uL
 split
 .rw [ag];lia
 .rw [bb,bI,lz];lia
def Cr {kvs:List (κ×V)}{k:κ}(v:V) (h:iR kvs k=none):uL kvs k v=kvs++[(k,v)]:=by
 unfold uL;rw [xh,h];exact if_neg (by decide)
def t9.qo {u:Option aj}(r:t9 o u):o.isSome=u.isSome:=by
 cases o with
 | none=>cases u with
  | none=>rfl
  | some _=>exact (show False from r).elim
 | some _=>cases u with
  | none=>exact (show False from r).elim
  | some _=>rfl
def KV.val {kvs:List (κ×V)}{vs:List (κ×aj)}(r:KV kvs vs) (k:κ):t9 (iR kvs k) (IZ vs k):=by
 unfold KV at r
 induction r with
 | nil=>exact iP
 | @cons p q ps qs h t ih =>
  obtain ⟨h1,h2⟩:=h
  by_cases e:p.1=k
  .have e':q.1=k:=h1.symm.trans e
   have b:IZ (q::qs) k=some q.2:=by simp [IZ,lA,e']
   rw [sk e,b];exact h2
  .have e':¬ q.1=k:=λz=>e (h1.trans z)
   have b:IZ (q::qs) k=IZ qs k:=by simp [IZ,lA,e']
   rw [pR e,b];exact ih
def KV.any {kvs:List (κ×V)}{vs:List (κ×aj)}(r:KV kvs vs) (k:κ):(kvs.any λkv=>decide (kv.1=k))=vs.any λkv=>decide (kv.1=k):=by
 unfold KV at r
 induction r with
 | nil=>rfl
 | cons h t ih=>rw [LJ,LJ,ih,h.1]
def KV.YL {kvs:List (κ×V)}{vs:List (κ×aj)}(r:KV kvs vs) (k:κ) {y:V}{u:aj}(ry:RelV y u) :
  KV (kvs.map λkv=>if kv.1=k then (kv.1,y) else kv) (vs.map λkv=>if kv.1=k then (kv.1,u) else kv):=by
 unfold KV at r ⊢
 induction r with
 | nil=>exact .nil
 | @cons p q ps qs h t ih =>
  rw [aV,aV];refine .cons ?_ ih;obtain ⟨h1,h2⟩:=h
  by_cases e:p.1=k
  .rw [if_pos e,if_pos (h1.symm.trans e)];exact ⟨h1,ry⟩
  .rw [if_neg e,if_neg (λz=>e (h1.trans z))];exact ⟨h1,h2⟩
def KV.put {kvs:List (κ×V)}{vs:List (κ×aj)}(r:KV kvs vs) (k:κ) {y:V}{u:aj}(ry:RelV y u):KV (uL kvs k y) (stored vs k u):=by
 unfold uL stored;rw [r.any k]
 by_cases e:(vs.any λkv=>decide (kv.1=k))=true
 .rw [if_pos e,if_pos e];exact r.YL k ry
 .rw [if_neg e,if_neg e];exact Paired.snoc r ⟨rfl,ry⟩
def KV.length {kvs:List (κ×V)}{vs:List (κ×aj)}(r:KV kvs vs):kvs.length=vs.length:=yK r
end
def JI {k:iL}(r:RelV (kV k) u):(fv P w).is k u=true:=by
 cases k with
 | inl i=>obtain ⟨t,e⟩:=(show ∃ t,u=fz i t from r);subst e;exact Jw P w i t
 | inr x=>obtain ⟨t,e⟩:=(show ∃ t,u=rR x t from r);subst e;exact Jx P w x t
theorem Gh:∀ {ks:List iL}{us:List aj},Vals (ks.map kV) us->ItemsAre (fv P w) ks us
 | [],_,r=>by rw [BS] at r;cases r;exact .nil
 | k::ks,_,r=>by
  rw [aV] at r
  cases r with
  | cons h t=>exact .cons (JI h) (Gh t)
abbrev KT (H:Hp):List (List iL×V)->List (List iL×af×aj)->Prop:=Paired λp q=>p.1=q.1/\H q.2.1=some (.tup (p.1.map kV))/\RelV p.2 q.2.2
def KT.val {kvs:List (List iL×V)}{xs:List (List iL×af×aj)}(r:KT H kvs xs) (k:List iL):t9 (iR kvs k) ((I0 xs k).map (·.2)):=by
 induction r with
 | nil=>exact iP
 | @cons p q ps qs h t ih =>
  obtain ⟨h1,_,h2⟩:=h
  by_cases e:p.1=k
  .have e':q.1=k:=h1.symm.trans e
   have b:I0 (q::qs) k=some q.2:=by simp [I0,lA,e']
   rw [sk e,b];exact h2
  .have e':¬ q.1=k:=λz=>e (h1.trans z)
   have b:I0 (q::qs) k=I0 qs k:=by simp [I0,lA,e']
   rw [pR e,b];exact ih
def KT.YL {kvs:List (List iL×V)}{xs:List (List iL×af×aj)}(r:KT H kvs xs) (k:List iL) {y:V}{u:aj}(ry:RelV y u) :
  KT H (kvs.map λkv=>if kv.1=k then (kv.1,y) else kv) (xs.map (putAt k u)):=by
 induction r with
 | nil=>exact .nil
 | @cons p q ps qs h t ih =>
  rw [aV,aV];refine .cons ?_ ih;obtain ⟨h1,h2,h3⟩:=h;unfold putAt
  by_cases e:p.1=k
  .rw [if_pos e,if_pos (h1.symm.trans e)];exact ⟨h1,h2,ry⟩
  .rw [if_neg e,if_neg (λz=>e (h1.trans z))];exact ⟨h1,h2,h3⟩
def KT.put {kvs:List (List iL×V)}{xs:List (List iL×af×aj)}(r:KT H kvs xs) (k:List iL) {b:af}{y:V}{u:aj}(hb:H b=some (.tup (k.map kV))) (ry:RelV y u) :
  KT H (uL kvs k y) (storedH xs k b u):=by
 have e:(kvs.any λkv=>decide (kv.1=k))=(I0 xs k).isSome:=by
  rw [xh,(r.val k).qo,AX]
 unfold uL storedH;rw [e]
 by_cases q:(I0 xs k).isSome=true
 .rw [if_pos q,if_pos q];exact r.YL k ry
 .rw [if_neg q,if_neg q];exact Paired.snoc r ⟨rfl,hb,ry⟩
def KT.keeps {kvs:List (List iL×V)}{xs:List (List iL×af×aj)}(r:KT H kvs xs) (ht:∀ b ys,H b=some (.tup ys)->H' b=some (.tup ys)):KT H' kvs xs :=
 Paired.Py r λ_ _ z=>⟨z.1,ht _ _ z.2.1,z.2.2⟩
section
variable {h:cK}
def V4 {u:HO}(ok:rH P w H h) (e:Rd H a u):eU P w H h a u:=e.ok ok
def Gi {kvs:List (iL×V)}(ok:rH P w H h) (e:Rd H a (.dK kvs)):kvs.length<=aW/\(a == jR)=false/\∃ vs,KV kvs vs/\h.DictOf (fv P w) a vs :=
 show eU P w H h a (.dK kvs) from V4 ok e
def V5 {kvs:List (iL×V)}(ok:rH P w H h) (e:H a=some (.dK kvs)):kvs.length<=aW/\(a == jR)=false/\∃ vs,KV kvs vs/\h.DictOf (fv P w) a vs:=Gi ok (.inl e)
def sr {ks:List iL}(ok:rH P w H h) (e:H a=some (.tup (ks.map kV))):(ll (fv P w)).is h ks a:=by
 obtain ⟨_,its,r,o,h1,h2,n,h3⟩:=(show eU P w H h a (.tup (ks.map kV)) from ok a _ e)
 exact ⟨o,its.toArray,n,h1,h2,h3,by simpa using Gh r⟩
def Gj {kvs:List (List iL×V)}(ok:rH P w H h) (e:Rd H a (.dT kvs)):kvs.length<=aW/\(a == jR)=false /\
  ∃ xs,KT H kvs xs/\h.DictOfH (ll (fv P w)) a xs:=by
 obtain ⟨z,y,xs,r,o,es,ep,h1,h2,h3,h4,h5⟩:=(show eU P w H h a (.dT kvs) from V4 ok e)
 refine ⟨z,y,xs,r,o,es,ep,h1,h2,h3,h4,λx hx=>?_,h5⟩
 have all:∀ {l:List (List iL×V)}{m:List (List iL×af×aj)},KT H l m->∀ x∈m,(ll (fv P w)).is h x.1 x.2.1:=by
  intro l m q
  induction q with
  | nil=>intro x hx;exact nomatch hx
  | @cons p q ps qs hq t ih =>
   intro x hx
   rcases aq.mp hx with e|hx
   .subst e;exact sr ok (by rw [← hq.1];exact hq.2.1)
   .exact ih x hx
 exact all r x hx
def ZH {kvs:List (List iL×V)}(ok:rH P w H h) (e:H a=some (.dT kvs)):kvs.length<=aW/\(a == jR)=false /\
  ∃ xs,KT H kvs xs/\h.DictOfH (ll (fv P w)) a xs:=Gj ok (.inl e)
end
def wG (H:Hp) (a:af) (y:V) (r:Option V):Prop :=
 (∃ kvs k,Rd H a (.dK kvs)/\y=kV k/\r=iR kvs k)\/∃ kvs k b,Rd H a (.dT kvs)/\y=.ref b/\H b=some (.tup (k.map kV))/\r=iR kvs k
def Br (H:Hp) (a:af) (y v:V) (H':Hp):Prop :=
 (∃ kvs k,H a=some (.dK kvs)/\y=kV k/\kvs.length<aW/\H'=upd H a (.dK (uL kvs k v))) \/
 ∃ kvs k b,H a=some (.dT kvs)/\y=.ref b/\H b=some (.tup (k.map kV))/\kvs.length<aW/\H'=upd H a (.dT (uL kvs k v))
def wG.t {kvs:List (List iL×V)}{k:List iL}(e:H a=some (.dT kvs)) (eb:H b=some (.tup (k.map kV))):wG H a (.ref b) (iR kvs k):=.inr ⟨kvs,k,b,.inl e,rfl,eb,rfl⟩
def Br.t {kvs:List (List iL×V)}{k:List iL}(e:H a=some (.dT kvs)) (eb:H b=some (.tup (k.map kV))) (hl:kvs.length<aW) :
  Br H a (.ref b) v (upd H a (.dT (uL kvs k v))):=.inr ⟨kvs,k,b,e,rfl,eb,hl,rfl⟩
section
variable {r:aj}
def Inv.big (I:Inv X pins Z H s):jR<s.heap.objs.size:=by
 have h:bF<s.heap.objs.size:=(I.mod.glob.keeps I.bk).lt;exact PP (by decide) h
def Gk (hu:A.units+1<ip) (I:Inv X pins Z H s) (g:wG H a y (some v)) (ry:RelV y u) (h:∀ w' s',Inv X pins Z H s'->RelV v w'->Q w' s') :
  aH (aL X.prog X.w) A (IV (.ref a) u) Q E s:=by
 rcases g with ⟨kvs,k,e,ey,l⟩|⟨kvs,k,b,e,ey,eb,l⟩
 .subst ey;obtain ⟨z,hd,vs,rel,dd⟩:=Gi I.eJ e;obtain ⟨w',hw,rw'⟩:=t9.some_of (v:=v) (o:=IZ vs k) (by rw [l];exact rel.val k);exact wpAny_getItem_of (JI ry) dd.mapOf hw (h w' _ (I.tok _) rw')
 .subst ey;cases (show u=aD b from ry);obtain ⟨z,hd,xs,rel,dd⟩:=Gj I.eJ e;obtain ⟨w',hw,rw'⟩:=t9.some_of (v:=v) (o:=(I0 xs k).map (·.2)) (by rw [l];exact rel.val k);obtain ⟨p,hp,hp2⟩:=bo.mp hw;refine wpAny_getItem_heap (jU hu) (sr I.eJ eb) dd hp ?_;rw [hp2];exact h w' _ (I.tok _) rw'
def d_in (hu:A.units+1<ip) (I:Inv X pins Z H s) (g:wG H a y o) (ry:RelV y u) (h:∀ s',Inv X pins Z H s'->Q (.bool o.isSome) s') :
  aH (aL X.prog X.w) A (dk .In u (.ref a)) Q E s:=by
 rcases g with ⟨kvs,k,e,ey,l⟩|⟨kvs,k,b,e,ey,eb,l⟩
 .subst ey;obtain ⟨z,hd,vs,rel,dd⟩:=Gi I.eJ e;refine wpAny_in_of (JI ry) hd dd.mapOf ?_;rw [← (rel.val k).qo,← l];exact h _ (I.tok _)
 .subst ey;cases (show u=aD b from ry);obtain ⟨z,hd,xs,rel,dd⟩:=Gj I.eJ e;refine wpAny_in_heap (jU hu) (sr I.eJ eb) hd dd ?_;have q:=(rel.val k).qo;rw [AX] at q;rw [← q,← l];exact h _ (I.tok _)
def UL (hu:A.units+1<ip) (I:Inv X pins Z H s) (g:wG H a y o) (ry:RelV y u) (h:∀ s',Inv X pins Z H s'->Q (.bool (!o.isSome)) s') :
  aH (aL X.prog X.w) A (dk .NotIn u (.ref a)) Q E s:=by
 rcases g with ⟨kvs,k,e,ey,l⟩|⟨kvs,k,b,e,ey,eb,l⟩
 .subst ey;obtain ⟨z,hd,vs,rel,dd⟩:=Gi I.eJ e;refine wpAny_notIn_of (JI ry) hd dd.mapOf ?_;rw [← (rel.val k).qo,← l];exact h _ (I.tok _)
 .subst ey;cases (show u=aD b from ry);obtain ⟨z,hd,xs,rel,dd⟩:=Gj I.eJ e;refine wpAny_notIn_heap (jU hu) (sr I.eJ eb) hd dd ?_;have q:=(rel.val k).qo;rw [AX] at q;rw [← q,← l];exact h _ (I.tok _)
def Hh {ob:HO}(I:Inv X pins Z H s) (mu:Zw (H a)) (hs:gY a s.heap h') (he:∃ q,h'.get? a=some q) (new:eU X.prog X.w (upd H a ob) h' a ob) :
  Inv X pins Z (upd H a ob) { s with heap:=h',toks:=t' } :=
 I.write (x:=a) (e:=a) mu (.inl rfl) (λb q hb z=>(hs.2 b hb).trans z) he new
def XJ {kvs:List (iL×V)}{vs:List (iL×aj)}(z:kvs.length<=aW) (hd:(a == jR)=false) (rel:KV kvs vs) (dd:h'.DictOf (fv P w) a vs) :
  eU P w H' h' a (.dK kvs):=⟨z,hd,vs,rel,dd⟩
def Gm {Q:Unit->ax->Prop}(hu:A.units+1<ip) (I:Inv X pins Z H s) (g:Br H a y v H') (ry:RelV y u) (rv:RelV v r) (h:∀ s',Inv X pins Z H' s'->Q () s') :
  aH (aL X.prog X.w) A (VI (.ref a) u r) Q E s:=by
 rcases g with ⟨kvs,k,e,ey,l,eH⟩|⟨kvs,k,b,e,ey,eb,l,eH⟩
 .subst ey eH;obtain ⟨z,hd,vs,rel,dd⟩:=V5 I.eJ e
  have hz:vs.length<=aW:=by rw [← rel.length];exact z
  have hl:(uL kvs k v).length<=aW:=by have:=Ai kvs k v;lia
  refine wpAny_setItem_pairs (hsz:=hz) (JI ry) dd λh' dd' hs=>h _ ?_
  have he:∃ q,h'.get? a=some q:=let ⟨q,_,_,hq,_⟩:=dd';⟨q,hq⟩
  exact Hh I (by rw [e];exact iP) hs he (XJ hl hd (rel.put k rv) dd')
 .subst ey eH;cases (show u=aD b from ry);obtain ⟨z,hd,xs,rel,dd⟩:=ZH I.eJ e
  have hz:xs.length<=aW:=by rw [← yK rel];exact z
  have hl:(uL kvs k v).length<=aW:=by have:=Ai kvs k v;lia
  refine wpAny_setItem_heap (hsz:=hz) (jU hu) (sr I.eJ eb) dd λh' dd' hs=>h _ ?_;obtain ⟨q,es,ep,hq,h2,h3,h4,_,h5⟩:=dd';refine Hh I (by rw [e];exact iP) hs ⟨q,hq⟩ ⟨hl,hd,_,(rel.put k eb rv).keeps λc ys ec=>?_,q,es,ep,hq,h2,h3,h4,h5⟩;rw [aG (gJ ec e (λz=>nomatch z))];exact ec
end
section
variable {kvs:List (iL×V)}{k:iL}
def ZI (I:Inv X pins Z H s) (e:Rd H a (.dK kvs)) (h:∀ t s',Inv X pins Z H s'->Q (.int kvs.length t) s'):aH (aL X.prog X.w) A (call (.builtin "len") [.ref a]) Q E s:=by
 obtain ⟨z,hd,vs,rel,dd⟩:=Gi I.eJ e;refine call_len_dict hd dd (by rw [← rel.length];rw [pJ] at z;lia) ?_;rw [← rel.length];exact h _ _ (I.tok _)
end
def JJ (I:Inv X pins Z H s) (g:wG H a y o):s.TypeIs (.ref a) "dict":=by
 rcases g with ⟨kvs,k,e,_,_⟩|⟨kvs,k,b,e,_,_,_⟩
 .obtain ⟨_,_,vs,_,dd⟩:=Gi I.eJ e;exact dd.typeIs
 .obtain ⟨_,_,xs,_,dd⟩:=Gj I.eJ e;exact dd.typeIs
def V7 (td ty tv:TE) (rd:V->V->Hp->VK->Prop):TS:=λD Z H=>td Z H λx H1=>ty Z H1 λy H2=>∃ a v,x=.ref a/\wG H2 a y (some v) /\
 tv Z H2 λy2 H3=>rd v y2 H3 λz H4=>∃ H5,Br H4 a y z H5/\D.nx Z H5
section
variable {o i value:Expr}{pos' tpos:ue}{td ty tv:TE}
def UM {op:wH}{rd:V->V->Hp->VK->Prop}(hu:X.A.units+1<ip) (ho:PE X o td) (hi:PE X i ty) (hv:PE X value tv) (hop:XD X op rd)
  (ha:∀ ov iv new,augStore i ov iv new=(do jS [new,ov,iv] (VI ov iv new);release [new,ov,iv] [];pure .next)):PS X (.AugAssign (.Subscript o i tpos) op value pos) (V7 td ty tv rd):=by
 intro pins s Z H D I h;refine Nm (gp (ho pins s Z H _ I h) λu s1 ⟨x,H1,I1,rx,q1⟩=>gp (hi pins s1 Z H1 _ I1 q1) λiv s2 ⟨y,H2,I2,ry,a,v,ex,g,q2⟩=>?_) ha;subst ex;obtain rfl:u=aD a:=rx;refine Gk hu I2 g ry λw' s3 I3 rw'=>gp (hv pins s3 Z H2 _ I3 q2) λw2 s4 ⟨y2,H3,I4,ry2,q3⟩=>gp (hop pins s4 Z H3 v y2 w' w2 _ I4 rw' ry2 q3) λw3 s5 ⟨z,H4,I5,rz,H5,g5,q4⟩=>?_
 exact Gm hu I5 g5 ry rz λs6 I6=>⟨Z,H5,I6,q4⟩
end
def QX (h:cK) (hb:jR<h.objs.size):eU P w H (h.push { cls:=.type "dict",data:=.dict #[] }) h.objs.size (.dT []) :=
 ⟨aO _,beq_eq_false_iff_ne.mpr (Ne.symm (aZ hb)),[],.nil,_,#[],0,aK _ rfl,⟨rfl,rfl,rfl⟩,rfl,rfl,pM⟩
def vZ:TE:=λ_ H Q=>∀ p,H p=none->Q (.ref p) (upd H p (.dT []))
def QY:PE X (.Dict [] [] pos) vZ:=λpins s Z H Q I h =>
 wpAny_Dict_empty ⟨.ref s.heap.objs.size,_,I.laid (a:=s.heap.objs.size) (o:=.dT []) (t':=s.toks) (λ_ _ q=>ar _ q) (au _) (QX s.heap I.big),rfl,h _ (I.eJ.fresh (au _))⟩
section
variable {d:V}{r:aj}
end
section
variable {o f:Expr}{td ty tx:TE}
end
section
variable {kvs:List (iL×V)}
end
end L2
namespace Att
open PySem PySem.W PySem.Calls PyProof.Rows
def A2 {P:Params}{h:cK}:∀ (ns:List Int) (vs:List aj),WellAll P h vs (ns.map WData.int)->eW vs ns:=by
 intro ns
 induction ns with
 | nil =>
  intro vs w;rw [BS] at w;cases w
  exact .nil
 | cons n ns ih =>
  intro vs w;rw [aV] at w
  cases w with
  | cons a b =>
   cases a;exact .cons _ _ (ih _ b)
def OQ {l:rK}{n:Nat}(hn:l.most=some n) {P:Params}{h:cK}{args:List WData}{vals:List aj}
  (hpre:l.row.toRowW.claim.pre args=true) (hwl:WellAll P h vals args) :
  ∃ a vs ns,vals=[aD a]/\args=[WData.list (ns.map WData.int)]/\h.get? a=some { cls:=.type "list",data:=.seq vs.toArray }/\eW vs ns/\ns.length<=n:=by
 have hsh:WShape.hasAll [] args [.list .int]=true:=(pre_splitW hpre).1;have hc:l.pre.holds [] { args:=args }=true:=(pre_splitW hpre).2;obtain ⟨d,r,rfl,h1,h2⟩:=hasAllW_cons hsh;obtain rfl:=hasAllW_nil h2;obtain ⟨xs,rfl,h3⟩:=hasW_list h1;obtain ⟨ns,rfl⟩:=items_int h3
 have hlen:ns.length<=n:=by
  unfold OpenLaw.pre at hc
  have h4:(WTm.not (.lt (.lit (.int (n:Int))) (.len (.arg 0)))).holds [] { args:=[.list (ns.map .int)] }=true:=by
   have h4:=(holds_andW hc).1;rw [hn] at h4;exact h4
  have h5:=condW_of h4 (w_not (w_lt w_lit (w_len_list (w_arg rfl))));rw [ag] at h5;refine nO λq=>?_
  have q':(n:Int)<((ns.length:Nat):Int):=by lia
  first
   | (rw [decide_eq_true q'] at h5;exact absurd h5 (by decide))
   | (simp at h5;lia)
 cases hwl with
 | cons w1 w2 =>
  cases w2
  cases w1 with
  | list ho hall=>exact ⟨_,_,ns,rfl,rfl,ho,A2 ns _ hall,hlen⟩
def OR (l:rK) (args:List WData):l.row.toRowW.claim.post args (.bool true) args=true :=
 postW_of (r:=l.row.toRowW) (X:=(true == true))
  (show WShape.has [] (.bool true) .bool=true by first|rfl|decide|simp [WShape.has,WShape.arms,WShape.armsAll])
  (show (WTm.eq .res (.lit (.bool true))).value [] { args:=args,res:=some (.bool true),after:=args }=some (.bool (true == true)) from w_eq_bool (w_res rfl) w_lit) rfl
def JK {l:rK}{n:Nat}{q:bA}{loose:List bB}{XP:(bB->Option aj)->cK->Prop}{YP:cg->cK->Prop}{d:DefRec}
  (hn:l.most=some n) (hdf:d.params.defaults=[])
  (call:∀ (w:cg) (s₀ s₁:ax) (mg mb:bB->Option aj) (fa:af) (o:iF) (pm cd doc:aj) (a:af) (vs:List aj) (ns:List Int),
   Ground q loose [] XP w s₀ mg mb s₁.heap->YP w s₁.heap ->
   s₁.heap.get? fa=some o->o.data=.func (docDef d.name d.params d.body d.scope pm cd doc)->s₁.heap.CodeRec cd d.name->mg d.name=some (.ref fa) ->
   s₁.heap.get? a=some { cls:=.type "list",data:=.seq vs.toArray }->eW vs ns->ns.length<=n->s₁.gens=#[] ->
   lp (aL l.prog w) Ja (.call (.ref fa) ⟨[.ref a],[]⟩) (λr s'=>r=.ok (.ret (.bool true))/\OldK s₁.heap s'.heap/\s'.os=s₁.os/\ux s'.gens) s₁) :
  TU q loose XP YP l.row.toRowW d [] (λf vs=>TV f vs):=by
 intro w s₀ s₁ mg mb G Y fa o pm cd doc dV kV ho hd hcd hD hmg hg args vals as hpre hlay hrd hwl hlo;obtain rfl:dV=.none:=Dflts.none hD hdf;obtain rfl:kV=.none:=Dflts.noKw hD;obtain ⟨a,vs,ns,rfl,rfl,hobj,hints,hlen⟩:=OQ hn hpre hwl;refine enter_call (lu (call w s₀ s₁ mg mb fa o pm cd doc a vs ns G Y ho (fd_plain hd) hcd hmg hobj hints hlen hg) λr s' hq=>?_);obtain ⟨rfl,h2,h3,h4⟩:=hq;exact ⟨.inl ⟨.bool true,.bool true,[],rfl,λ_=>rfl,.bool true,OR l _,λ_=>⟨nW,λ_ hm=>(nomatch hm)⟩⟩,h2,h3,h4⟩
section
variable {prog:bA}{w:cg}{A:cL}{E:aj->ax->Prop}{s:ax}{K:ae}
end
end Att
namespace L2
variable {H H':Hp}{K:ae}{X:Cx}{xs:List V}{scope:rQ}{v:V}{i j:Int}{Z:St}{x qual y:bB}{s:ax}{pins:List (af×iF)}{p a f:af}{elt iter tg:Expr}{ifs:List Expr}{pos:ue}{st:dF}{N ps own ys:List bB}{env:yJ}{ds:List PyData}{fd:fN}{sp:Sp}{cells:List (bB×af)}{js:List Nat}{g:TG}{te to:TE}{Q:VK}{R:St->Hp->Prop}{w:cg}
theorem y8:∀ {vs:List aj}{ns:List Int},eW vs ns->Vals (ns.map V.int) vs
 | _,_,.nil=>.nil
 | _,_,.cons n t h=>.cons ⟨t,rfl⟩ (y8 h)
def fi (s:dF) (j:Nat):dF:=match s with
 | .ClassDef _ _ _ body _ _ _ _ _ _ _=>body.getD j (.Pass ⟨0,0,0,0⟩)
 | _=>.Pass ⟨0,0,0,0⟩
def oM (s:dF):rJ:=match s with
 | .FunctionDef _ a _ _ _ _ _ _ _ _=>a
 | _=>{ posonlyargs:=[],args:=[],vararg:=none,kwonlyargs:=[],kw_defaults:=[],kwarg:=none,defaults:=[] }
def jM (s:dF):List dF:=match s with
 | .FunctionDef _ _ b _ _ _ _ _ _ _=>b
 | _=>[]
def aS (s:dF):rQ:=match s with
 | .FunctionDef _ _ _ _ _ _ sc _ _ _=>sc
 | _=>{ kind:=.function,names:=[],isGenerator:=false,isCoroutine:=false }
abbrev wM:JE:=λ_ _ _ _ _ _=>False
abbrev E0:XK:=λ_ _ _=>False
def lP:lX wM X E0:=λ_ _ _ _ _ _ _ h=>h.elim
structure Ez (K:ae) (x qual:bB) (st:dF) (f:af) (fd:fN):Prop where
 ex:∃ (oc:aj) (od:Option af) (kV doc pm:aj) (an:Option af) (lT ct:aj) (osl:Array (Option aj)),
  fd=iz x qual (oM st) (jM st) (aS st) .none kV doc pm an lT ct/\K.lookup f=some ⟨oc,od,.func fd,osl⟩/\oI K lT qual=true
 kp:eL K (.ref f)=true
section
variable {P:bA}{mg:bB->Option aj}{base:cK}
def Ez.ok {k:Nat}(F:Ez K x qual st f fd) (S:bH N ps (aS st)) (len:∀ vs H Q E,sp vs H Q E->vs.length=ps.length)
  (hbody:∀ (lT:aj) (A:cL) (outer:List yJ) (s:ax) (H:Hp) (vs:List V) (Q:VK) (E:XK),gZ k (A.deeper (lM qual (aS st) s.heap.objs.size f lT))->sp vs H Q E ->
   ∃ t,IT (lH wM P w K mg base N qual (aS st) f lT A outer s H E).W4 (jM st) t/\t { nx:=λ_ H'=>Q .non H',rt:=Q } (start N vs) H):jr P w K mg base wM (k+1) f fd ps sp:=by
 obtain ⟨oc,od,kV,doc,pm,an,lT,ct,osl,rfl,lk,hcd⟩:=F.ex;refine QP lk hcd S len λA outer s H vs Q E hr hsp=>?_;obtain ⟨t,h,q⟩:=hbody lT A outer s H vs Q E hr hsp;exact ⟨t,h.W4,q⟩
def Ez.binds (F:Ez K x qual st f fd)
  (h:∀ (kV doc pm:aj) (an:Option af) (lT ct:aj) (us:List aj),us.length=ps.length->Bt (iz x qual (oM st) (jM st) (aS st) .none kV doc pm an lT ct) ⟨us,[]⟩=pure (ps.zip us)):Binds K fd ps []:=by
 obtain ⟨oc,od,kV,doc,pm,an,lT,ct,osl,rfl,lk,hcd⟩:=F.ex;exact .all (h kV doc pm an lT ct)
def Hi {oc:aj}{od an:Option af}{osl:Array (Option aj)}{kV doc pm lT ct:aj}(l:K.lookup f=some ⟨oc,od,.func (iz x qual (oM st) (jM st) (aS st) .none kV doc pm an lT ct),osl⟩)
  (c:oI K lT qual=true) (k:eL K (.ref f)=true):Ez K x qual st f (iz x qual (oM st) (jM st) (aS st) .none kV doc pm an lT ct):=⟨⟨oc,od,kV,doc,pm,an,lT,ct,osl,rfl,l,c⟩,k⟩
end
def pv (i:Nat) {x:bB}{pos:ue}(hN:X.N[i]?=some x:=by rfl) (hv:Vis X.env.scope x:=by first|exact Or.inl rfl|exact Or.inr (Or.inl rfl)|exact Or.inr (Or.inr rfl)) (hd:(x == ("__debug__":bB))=false:=by decide)
  (hcd:(x == ("__classdict__":bB))=false:=by decide):PE X (.Name x pos) (ao i):=Xp hN hv hd hcd
def lI {A B:Prop}(h:B):if false=true then A else B:=by
 rw [if_neg bD];exact h
def l0 {A B:Prop}(h:A):if true=true then A else B:=by
 rw [if_pos rfl];exact h
def bJ (H H':Hp):Prop:=∀ b o,H b=some o->H' b=some o
def bJ.trans {H1 H2:Hp}(a:bJ H H1) (b:bJ H1 H2):bJ H H2:=λc o h=>b c o (a c o h)
def bJ.free (e:bJ H H') {l:af}(h:H' l=Option.none):H l=Option.none:=by
 cases q:H l with
 | none=>rfl
 | some o =>
  rw [e l o q] at h;cases h
def bJ.seq (e:bJ H H') (h:dm K H a xs):dm K H' a xs:=by
 rcases h with (h|⟨o,h⟩)|h
 .exact .inl (.inl (e _ _ h))
 .exact .inl (.inr ⟨o,e _ _ h⟩)
 .exact .inr h
def OS:lj X (.builtin "len") (λxs H Q=>∃ a kvs,xs=[V.ref a]/\H a=some (.dK kvs)/\Q (.int kvs.length) H):=by
 intro pins s Z H xs us Q I r h;obtain ⟨a,kvs,rfl,ha,q⟩:=h;obtain ⟨u,rfl,ru⟩:=vals1 r;cases ru
 exact ZI I (.inl ha) λt s' I'=>⟨.int kvs.length,H,I',⟨t,rfl⟩,q⟩
section
variable {κ:Type} [DecidableEq κ]
theorem NG:∀ {l:List κ}{k:κ},l.Nodup->¬ k∈l->(l++[k]).Nodup
 | [],k,_,_=>by simp
 | a::r,k,h,hk=>by
  obtain ⟨h1,h2⟩:=a7.mp h
  show (a::(r++[k])).Nodup
  refine a7.mpr ⟨λm=>?_,NG h2 λm=>hk (aq.mpr (Or.inr m))⟩
  rcases aQ.mp m with q|q
  .exact h1 q
  .exact hk (aq.mpr (Or.inl (ay.mp q).symm))
def OT {p:κ×V}{r:List (κ×V)}{k:κ}(e:p.1=k):mM (p::r) k=mM r k:=by
 unfold mM;rw [kx,if_neg (by simp [e])]
def Gn {p:κ×V}{r:List (κ×V)}{k:κ}(e:¬ p.1=k):mM (p::r) k=p::mM r k:=by
 unfold mM;rw [kx,if_pos (by simp [e])]
theorem JL:∀ {kvs:List (κ×V)}{k:κ},¬ k∈kvs.map (·.1)->mM kvs k=kvs
 | [],_,_=>rfl
 | p::r,k,h=>by
  have h':¬ k∈r.map (·.1):=λm=>by
   obtain ⟨q,hq,e⟩:=bq.mp m;exact h (bq.mpr ⟨q,aq.mpr (Or.inr hq),e⟩)
  rw [Gn λe=>h (bq.mpr ⟨p,aq.mpr (Or.inl rfl),e⟩),JL h']
end
def oF (cells:List (bB×af)):List (bB×nK)->List (bB×af)->List (bB×af)
 | [],acc=>acc
 | (n,k)::r,acc=>oF cells r (if k == .free then (n,(cells.lookup n).getD 0)::acc else acc)
theorem v5:∀ (names:List (bB×nK)) (acc:List (bB×af)),(∀ n,(n,bL)∈names->∃ c,env.cells.lookup n=some c) ->
  (forIn names acc λ(x:bB×nK) (r:List (bB×af))=>(if x.2 == .free then (cellOf env x.1 >>= λc=>pure (jk ((x.1,c)::r))) else pure (jk r):LF (ForInStep (List (bB×af)))))=pure (oF env.cells names acc)
 | [],acc,_=>rfl
 | (n,k)::r,acc,h=>by
  rw [uZ];have hr:∀ n,(n,bL)∈r->∃ c,env.cells.lookup n=some c:=λn hn=>h n (ai _ hn)
  cases hk:k == bL with
  | false =>
   simp only [hk,bY,if_false,pure_bind];rw [v5 r acc hr]
   show _=pure (oF env.cells r (if k == bL then _ else acc))
   rw [hk];rfl
  | true =>
   have e:k=.free:=by simpa using hk
   subst e;obtain ⟨c,hc⟩:=h n aw
   have e2:cellOf env n=pure c:=by unfold cellOf;rw [hc]
   simp only [hk,if_true,e2,pure_bind];rw [v5 r _ hr]
   show _=pure (oF env.cells r (if bL == bL then (n,(env.cells.lookup n).getD 0)::acc else acc))
   rw [hc];rfl
def v7 (h:∀ n,(n,bL)∈scope.names->∃ c,env.cells.lookup n=some c):closureFor scope env=pure (oF env.cells scope.names []):=by
 have e:=v5 (env:=env) scope.names [] h;unfold closureFor;rw [← bind_pure (pure (oF env.cells scope.names []):LF _),← e]
theorem kF {c:af}:∀ (names:List (bB×nK)) (acc:List (bB×af)),(∀ n,(n,bL)∈names->∃ c,cells.lookup n=some c) ->
  (oF cells names acc).lookup x=some c->cells.lookup x=some c\/acc.lookup x=some c
 | [],acc,_,h=>.inr h
 | (n,k)::r,acc,hf,h=>by
  have hr:∀ n,(n,bL)∈r->∃ c,cells.lookup n=some c:=λn hn=>hf n (ai _ hn);unfold oF at h
  rcases kF r _ hr h with z|z
  .exact .inl z
  .cases hk:k == bL with
   | false=>rw [hk] at z;exact .inr z
   | true =>
    have e:k=.free:=by simpa using hk
    subst e;obtain ⟨d,hd⟩:=hf n aw;rw [hk,if_pos rfl,hd] at z
    by_cases hx:x=n
    .subst hx;rw [cI,beq_self_eq_true] at z;exact .inl (by rw [hd];exact z)
    .rw [cI,beq_false_of_ne hx] at z;exact .inr z
theorem xi:∀ (names:List (bB×nK)) (acc:List (bB×af)),((x,bL)∈names\/∃ c,acc.lookup x=some c)->∃ c,(oF cells names acc).lookup x=some c
 | [],acc,h=>h.elim (λz=>nomatch z) λz=>z
 | (n,k)::r,acc,h=>by
  unfold oF;refine xi r _ ?_
  rcases h with z|⟨c,z⟩
  .rcases aq.mp z with e|z
   .have e1:n=x:=(cJ e).1.symm;have e2:k=.free:=(cJ e).2.symm;subst e1 e2;exact .inr ⟨_,by rw [if_pos (by rfl),cI,beq_self_eq_true]⟩
   .exact .inl z
  .refine .inr ?_
   split
   .rw [cI];cases x == n
    .exact ⟨c,z⟩
    .exact ⟨_,rfl⟩
   .exact ⟨c,z⟩
theorem xj {env:yJ}{x:bB}{k:nK}:∀ {names:List (bB×nK)},
  (names.map λ(n,k)=>if (k == bL && env.scope.kind == .function && env.kindOf n == some .cell) then (n,gN) else (n,k)).lookup x=some k ->
   ∃ k0,names.lookup x=some k0/\(k=k0\/(k0=.free/\k=.cell))
 | [],h=>by simp at h
 | (n,k1)::r,h=>by
  have ih:=@xj env x k r;have h:cR x ((if (k1 == bL && env.scope.kind == .function && env.kindOf n == some .cell)=true then (n,gN) else (n,k1))::r.map λ(n,k)=>if (k == bL && env.scope.kind == .function && env.kindOf n == some .cell) then (n,gN) else (n,k))=some k:=h
  by_cases hc:(k1 == bL && env.scope.kind == .function && env.kindOf n == some .cell)=true
  .rw [if_pos hc,cI] at h;rw [cI]
   have e:k1=.free:=by
    rw [hV,hV] at hc
    simpa using hc.1.1
   cases hx:x == n with
   | true=>rw [hx] at h;exact ⟨k1,rfl,.inr ⟨e,(aU h).symm⟩⟩
   | false=>rw [hx] at h;exact ih h
  .rw [if_neg hc,cI] at h;rw [cI]
   cases hx:x == n with
   | true=>rw [hx] at h;exact ⟨k1,rfl,.inl (aU h).symm⟩
   | false=>rw [hx] at h;exact ih h
theorem Aj {env:yJ}{x:bB}:∀ {names:List (bB×nK)},names.lookup x=some .free ->
  (names.map λ(n,k)=>if (k == bL && env.scope.kind == .function && env.kindOf n == some .cell) then (n,gN) else (n,k)).lookup x=some .free \/
  (names.map λ(n,k)=>if (k == bL && env.scope.kind == .function && env.kindOf n == some .cell) then (n,gN) else (n,k)).lookup x=some .cell
 | [],h=>by simp at h
 | (n,k1)::r,h=>by
  have ih:=@Aj env x r
  show cR x ((if (k1 == bL && env.scope.kind == .function && env.kindOf n == some .cell)=true then (n,gN) else (n,k1))::r.map λ(n,k)=>if (k == bL && env.scope.kind == .function && env.kindOf n == some .cell) then (n,gN) else (n,k))=some .free \/
   cR x ((if (k1 == bL && env.scope.kind == .function && env.kindOf n == some .cell)=true then (n,gN) else (n,k1))::r.map λ(n,k)=>if (k == bL && env.scope.kind == .function && env.kindOf n == some .cell) then (n,gN) else (n,k))=some .cell
  rw [cI] at h
  by_cases hc:(k1 == bL && env.scope.kind == .function && env.kindOf n == some .cell)=true
  .rw [if_pos hc,cI]
   cases hx:x == n with
   | true=>exact .inr rfl
   | false=>rw [hx] at h;exact ih h
  .rw [if_neg hc,cI]
   cases hx:x == n with
   | true=>rw [hx] at h;exact .inl h
   | false=>rw [hx] at h;exact ih h
theorem mem_of_lookup {k:nK}:∀ {names:List (bB×nK)},names.lookup x=some k->(x,k)∈names
 | [],h=>by simp at h
 | (n,k1)::r,h=>by
  rw [cI] at h
  cases hx:x == n with
  | true =>
   rw [hx] at h
   have e:x=n:=by simpa using hx
   rw [e,aU h];exact aw
  | false=>rw [hx] at h;exact ai _ (mem_of_lookup h)
def Hj (X:Cx) (N:List bB) (scope:rQ) (s:ax) (H:Hp) (fp:List af):Cx where
 prog:=X.prog
 w:=X.w
 K:=X.K
 mg:=X.mg
 base:=X.base
 A:=X.A
 N:=N
 s₀:=s
 H₀:=H
 env:=compEnvC scope (oF X.env.cells scope.names []) s.heap.objs.size X.env
 outer:=X.stack
 stack:=X.stack
 ex:=fp
 fn:=λ_=>false
 calm:=X.calm
 pn:=[]
 xe:=λ_ _=>False
def Er (X:Cx) (scope:rQ):List Nat->List bB->Prop
 | [],[]=>True
 | j::js,y::ys=>X.N[j]?=some y/\(X.env.kindOf y=some .cell\/X.env.kindOf y=some .free)/\scope.names.lookup y=some .free/\Er X scope js ys
 | _,_=>False
def JM (Z:St) (js:List Nat):St:=js.map λj=>(Z[j]?).join
theorem Er.len:∀ {js:List Nat}{ys:List bB},Er X scope js ys->js.length=ys.length
 | [],[],_=>rfl
 | _::_,_::_,h=>by rw [bI,bI,Er.len h.2.2.2]
 | [],_::_,h=>h.elim
 | _::_,[],h=>h.elim
theorem Er.get:∀ {js:List Nat}{ys:List bB}{i:Nat},Er X scope js ys->ys[i]?=some y->(JM Z js)[i]?=some (some v) ->
  ∃ j:Nat,X.N[j]?=some y/\Z[j]?=some (some v)/\(X.env.kindOf y=some .cell\/X.env.kindOf y=some .free)/\scope.names.lookup y=some .free
 | [],[],i,_,e,_=>by simp at e
 | j::js,z::ys,0,h,e,q=>by
  simp only [lN,f9] at e;subst e;refine ⟨j,h.1,?_,h.2.1,h.2.2.1⟩
  have q':(Z[j]?).join=some v:=by simpa [JM] using q
  cases hj:Z[j]? with
  | none=>rw [hj] at q';simp at q'
  | some o=>rw [hj] at q';rw [← q'];rfl
 | j::js,z::ys,i+1,h,e,q=>Er.get (i:=i) h.2.2.2 (by simpa using e) (by simpa [JM] using q)
 | [],_::_,_,h,_,_=>h.elim
 | _::_,[],_,h,_,_=>h.elim
section
variable {s':ax}{fp:List af}
def Me (I:Inv X pins Z H s) (hf:∀ b∈fp,yX X pins H b) (hlt:∀ b∈fp,b<s.heap.objs.size) (hkind:scope.kind=.function) (hcell:∀ y∈scope.names,y.2≠.cell)
  (hfr:∀ n,(n,bL)∈scope.names->∃ c,X.env.cells.lookup n=some c):(Hj X N scope s H fp).Ok where
 mod:=I.mod
 kind:=hkind
 glob:=I.ok.glob
 blt:=I.ok.blt
 above:=au _
 inj:=λx y c h1 h2=>I.ok.inj x y c ((kF _ _ hfr h1).resolve_right (by simp)) ((kF _ _ hfr h2).resolve_right (by simp))
 has:=λx hx=>by
  refine xi _ _ (.inl ?_)
  have key:∀ k,(k=gN\/k=bL)->(relabel scope X.env).names.lookup x=some k->(x,bL)∈scope.names:=λk hk e=>by
   obtain ⟨k0,e0,z⟩:=xj e
   rcases z with z|⟨z,_⟩
   .subst z
    rcases hk with hk|hk
    .subst hk;exact absurd rfl (hcell _ (mem_of_lookup e0))
    .subst hk;exact mem_of_lookup e0
   .subst z;exact mem_of_lookup e0
  rcases hx with hx|hx
  .exact key _ (.inl rfl) hx
  .exact key _ (.inr rfl) hx
 VC:=λx c h=>by cases h
 hd:=I.ok.hd
 frames:=I.ok.frames
 WX:=.inl rfl
 YR:=λb hb=>⟨aZ (hlt b hb),λx c e=>(hf b hb).2.2.2.2.1 x c ((kF _ _ hfr e).resolve_right (by simp))⟩
 bs:=I.bs
 Nh:=br I.ok.Nh I.sz
 IR:=λb o e hb=>by
  rcases (hf b hb).2.2.2.1 with z|z
  .exact I.ok.IR b o e z
  .exact absurd (bj (aJ e) (br I.ok.Nh z)) (fA _)
 IS:=λb hb hs=>by
  rcases aq.mp (I.Nb b hs) with z|z
  .exact (hf b hb).2.1 z
  .exact (hf b hb).2.2.1 z
 rO:=I.stack
 Ou:=I.BM
theorem UN {h1:cK}{tk:Nat}{m:bB->Option aj}(I:Inv X pins Z H s) (hf:∀ b∈fp,yX X pins H b) (hlt:∀ b∈fp,b<s.heap.objs.size) (hkind:scope.kind=.function)
  (hcell:∀ y∈scope.names,y.2≠.cell) (hfr:∀ n,(n,bL)∈scope.names->∃ c,X.env.cells.lookup n=some c) (hc:Er X scope js ys)
  (hn:h1.Ns s.heap.objs.size m) (hk:∀ b o,s.heap.get? b=some o->h1.get? b=some o) :
  Inv (Hj X (own++ys) scope s H fp) [] (j5 own.length none++JM Z js) H { s with heap:=h1,toks:=tk }:=by
 have hcl:∀ x c,(oF X.env.cells scope.names []).lookup x=some c->X.env.cells.lookup x=some c:=λx c e=>(kF _ _ hfr e).resolve_right (by simp);refine ⟨Me I hf hlt hkind hcell hfr,rfl,I.bare,Un.kept hk,⟨m,hn,λi x v e1 e2 e3=>?_⟩,λx c e=>?_,I.fresh,λx c e=>I.ow x c (hcl x c e),(λp hp=>nomatch hp),I.eJ.kept hk,?_⟩
 .have e1':(own++ys)[i]?=some x:=e1
  by_cases hi:i<own.length
  .rw [fO (by simpa using hi)] at e2;rw [Nn] at e2
   split at e2
   .cases aU e2
   .cases e2
  .have hi':own.length<=i:=nO hi;rw [dW hi'] at e1';rw [dW (by simpa using hi'),nc] at e2;obtain ⟨j,q1,q2,q3,q4⟩:=hc.get e1' e2;obtain ⟨m0,_,hl⟩:=I.loc
   obtain ⟨u,r,l⟩:=hl j x v q1 q2 (by
    rcases q3 with q3|q3
    .exact .inr (.inl q3)
    .exact .inr (.inr q3))
   refine ⟨u,r,.inr ⟨?_,?_⟩⟩
   .rcases Aj (env:=X.env) q4 with z|z
    .exact .inr z
    .exact .inl z
   .rcases l with ⟨k,_⟩|⟨_,c,hc1,hc2⟩
    .rcases q3 with q3|q3<;>rw [k] at q3<;>cases aU q3
    .obtain ⟨d,hd⟩:=xi (cells:=X.env.cells) (x:=x) scope.names [] (.inl (mem_of_lookup q4));have hd':=hcl x d hd;rw [hc1] at hd';cases aU hd';obtain ⟨o,ho,hod⟩:=hc2;exact ⟨c,hd,o,hk c o ho,hod⟩
 .obtain ⟨v,o,ho,hod⟩:=I.cell x c (hcl x c e);exact ⟨v,o,hk c o ho,hod⟩
 .show (j5 own.length none++JM Z js).length=(own++ys).length
  rw [bb,bb,nc,JM,ag,hc.len]
def QZ {σ':St}(I:Inv X pins Z H s) (hf:∀ b∈fp,yX X pins H b) (J:Inv (Hj X N scope s H fp) [] σ' H' s'):Inv X pins Z H' s' :=
 I.TM (ch:=fp) J.os J.base J.eJ J.bare λb hb=>⟨(hf b hb).2.2.2.1,(hf b hb).2.1,(hf b hb).2.2.2.2.1,(hf b hb).2.2.2.2.2⟩
end
section
variable {prog:bA}{A:cL}{R:VL->ax->Prop}
def Hk {target:Expr}{it acc:aj}(I:Nat->ax->Prop)
  (turn:∀ n s,I n s->aH (aL prog w) A (jh it) (λr s₁=>match r with
   | none=>R (.ok .next) s₁
   | some v=>aH (aL prog w) A (yT target it v) (λ_ s₁'=>aH (aL prog w) A (Lq target env v) (λ_ s₂ =>
     aH (aL prog w) A (forIn ifs true λc r=>if r=true then do let ok ← isTrue c env (fo c env);pure (jk ok) else pure (jk r)) (λok s₃ =>
      if ok=true then aH (aL prog w) A (fo elt env) (λx s₄ =>
       aH (aL prog w) A (call (.builtin "list.append") [acc,x]) (λ_ s₅=>∃ m,m<n/\I m s₅) (λ_ _=>False) s₄) (λ_ _=>False) s₃
      else ∃ m,m<n/\I m s₃) (λ_ _=>False) s₂) (λ_ _=>False) s₁') (λ_ _=>False) s₁) (λ_ _=>False) s)
  (n:Nat) (h:I n s) :
  lp (aL prog w) A (.compLoop (.ListComp elt [⟨target,iter,ifs,0⟩] scope pos) 0 it acc env) R s:=by
 refine codeAny_loop rfl I (λn s hI=>?_) n h
 show aH _ A ((compTurn (.ListComp elt [⟨target,iter,ifs,0⟩] scope pos) 0 it acc env).onRaise (λx=>do noteFrame x env;theTreesLotGoes x)) _ _ s
 refine wpAny_noted ?_;rw [compTurn_list];refine aa (uV (aa (dr (turn n s hI) (λr s₁ h₁=>?_) λ_ _ h'=>h'.elim)))
 cases r with
 | none=>exact ak h₁
 | some v =>
  refine aa (dr h₁ (λ_ s₁' h₁'=>?_) λ_ _ h'=>h'.elim);refine aa (dr h₁' (λ_ s₂ h₂=>aa (dr h₂ (λok s₃ h₃=>?_) λ_ _ h'=>h'.elim)) λ_ _ h'=>h'.elim)
  cases ok with
  | false=>exact ak ⟨rfl,h₃⟩
  | true =>
   exact aa (aa (dr h₃ (λx s₄ h₄=>aa (dr h₄ (λ_ s₅ h₅=>ak (ak ⟨rfl,h₅⟩)) λ_ _ h'=>h'.elim)) λ_ _ h'=>h'.elim))
end
def Q0 (X:Cx) (ifs:List Expr) (t:TT):Prop :=
 ∀ (pins:List (af×iF)) (s:ax) (Z:St) (H:Hp) (Q:Bool->Hp->Prop),Inv X pins Z H s->t Z H Q ->
  aH (aL X.prog X.w) X.A (forIn ifs true λc r=>if r=true then do let ok ← isTrue c X.env (fo c X.env);pure (jk ok) else pure (jk r)) (TP X pins Z Q) X.xe s
def xk:TT:=λ_ H Q=>Q true H
def kX:Q0 X [] xk:=λ_ _ _ H _ I h=>wpAny_tests_nil ⟨H,I,h⟩
def n0 {c:Expr}{t:TT}(h:PT X c t):Q0 X [c] t:=λpins s Z H Q I q=>wpAny_tests_one (h pins s Z H Q I q)
def kH (own:Nat) (js:List Nat) (wi:TI) (g:TG) (tt:TT) (te:TE):TE:=λZ H Q=>wi Z H λJ H1=>∀ acc,H1 acc=none ->
 ∃ W:Nat->Nat->List V->St->Hp->Prop,(∃ m,W 0 m [] (j5 own none++JM Z js) (upd H1 acc (.lst [])))/\∀ i m ys σ' H',W i m ys σ' H'->H' acc=some (.lst ys) /\
  ((J.stop i H'/\Q (.ref acc) H')\/(J.go i H'/\∀ x H2,J.Nd i H' x H2->g x σ' H2 λσ2 H3=>tt σ2 H3 λb H4 =>
   if b=true then te σ2 H4 λy H5=>H5 acc=some (.lst ys)/\ys.length<aW/\∃ m',m'<m/\W (i+1) m' (ys++[y]) σ2 (upd H5 acc (.lst (ys++[y]))) else ∃ m',m'<m/\W (i+1) m' ys σ2 H4))
theorem JN {wi:TI}{tt:TT}
  {use:Option (aj->LF Unit)}{Q':aj->ax->Prop}{p:ue}(hcalm:X.calm=true)
  (hi:PI X tg iter wi) (hkind:scope.kind=.function) (hcell:∀ y∈scope.names,y.2≠.cell) (hnames:∀ y∈scope.names,y.2=.local->scope.names.lookup y.1=some .local)
  (hfr:∀ n,(n,bL)∈scope.names->∃ c,X.env.cells.lookup n=some c) (hc:Er X scope js ys)
  (hg:∀ s0 H0 fp,PG (Hj X (own++ys) scope s0 H0 fp) tg g) (ht:∀ s0 H0 fp,Q0 (Hj X (own++ys) scope s0 H0 fp) ifs tt) (he:∀ s0 H0 fp,PE (Hj X (own++ys) scope s0 H0 fp) elt te)
  (I:Inv X pins Z H s) (h:kH own.length js wi g tt te Z H Q)
  (hu:∀ (D C:af) (H':Hp) (s':ax),Inv X pins Z H' s'->Q (.ref D) H'->yX X pins H' C->(∃ m,s'.heap.Ns C m)->compPost (aL X.prog X.w) X.A X.xe use Q' (.ref D) C (.ok .next) s')
  (hs:∀ x,uA iter X.env x=pure x) :
  aH (aL X.prog X.w) X.A (comprehension (.ListComp elt [⟨tg,iter,ifs,0⟩] scope pos) scope X.env p (newList []) false (fo iter X.env) use) Q' X.xe s:=by
 refine wpAny_comprehension_free (g:=⟨tg,iter,ifs,0⟩) (gs:=[]) rfl hs (v7 hfr) hkind hnames (gp (hi pins s Z H _ I h) λv s1 h1=>gp h1 λitv s2 h2=>?_);obtain ⟨it,fp,tn,J,H2,e,I2,T,st2,f2,q⟩:=h2;subst e;refine cP (YV hcell (by intro y hy;simp at hy) (λh₁ hns₁ hsb₁=>?_) hkind);dsimp only at hns₁ hsb₁ ⊢;have nD:H2 s2.heap.objs.size=none:=I2.fresh;have I3:Inv X pins Z (upd H2 s2.heap.objs.size (.lst [])) { s2 with heap:=s2.heap.push { cls:=.type "list",data:=.seq ([]:List aj).toArray },toks:=s2.toks }:=I2.lnew (its:=[]) .nil (aO _)
 have hlt2:∀ b∈fp,b<s2.heap.objs.size:=λb hb=>let ⟨o,e,_⟩:=T.obj _ _ st2 b hb;aJ e
 obtain ⟨W,⟨m0,w0⟩,turn⟩:=q _ nD;generalize hs3:({ s2 with heap:=s2.heap.push { cls:=.type "list",data:=.seq ([]:List aj).toArray },toks:=s2.toks }:ax)=s3 at I3
 have hh3:s2.heap.push { cls:=.type "list",dict:=none,data:=.seq ([]:List aj).toArray }=s3.heap:=by rw [← hs3]
 have hsz3:s3.heap.objs.size=s2.heap.objs.size+1:=by rw [← hh3,i8]
 have hlt3:∀ b∈fp,b<s3.heap.objs.size:=λb hb=>by rw [hsz3];exact rL (hlt2 b hb)
 have f3:∀ b∈fp,yX X pins (upd H2 s2.heap.objs.size (.lst [])) b:=λb hb=>⟨by rw [aG (aZ (hlt2 b hb))];exact (f2 b hb).1,(f2 b hb).2⟩
 have fC:yX X pins (upd H2 s2.heap.objs.size (.lst [])) s3.heap.objs.size:=I3.Nc (au _) I3.fresh;rw [hh3] at hns₁ hsb₁ ⊢;have hk3:∀ b o,s3.heap.get? b=some o->h₁.get? b=some o:=λb o e=>hsb₁.extBut b o (aZ (aJ e)) (ar _ e)
 have es4:({ s2 with heap:=h₁,toks:=s2.toks+([]:List (bB×aj)).length }:ax)={ s3 with heap:=h₁,toks:=s2.toks+([]:List (bB×aj)).length }:=by rw [← hs3]
 have I4:=UN (own:=own) (h1:=h₁) (tk:=s2.toks+([]:List (bB×aj)).length) I3 f3 hlt3 hkind hcell hfr hc hns₁ hk3;have st4:tn 0 h₁:=T.keep _ _ _ st2 λb hb o e=>hk3 b o (by rw [← hh3];exact ar _ e)
 have stat:∀ {H':Hp},(∀ b∈fp,H' b=none)->∀ b∈fp,yX (Hj X (own++ys) scope s3 (upd H2 s2.heap.objs.size (.lst [])) fp) [] H' b:=λhn b hb =>
  ⟨hn b hb,aZ (hlt3 b hb),(Me (N:=own++ys) I3 f3 hlt3 hkind hcell hfr).IS b hb,.inl hb,λx c e=>((Me (N:=own++ys) I3 f3 hlt3 hkind hcell hfr).YR b hb).2 x c e,λp hp=>nomatch hp⟩
 have LW:∀ s4:ax,s4={ s3 with heap:=h₁,toks:=s2.toks+([]:List (bB×aj)).length } ->
   lp (aL X.prog X.w) X.A (.compLoop (.ListComp elt [⟨tg,iter,ifs,0⟩] scope pos) 0 (.ref it) (.ref s2.heap.objs.size) (compEnvC scope (oF X.env.cells scope.names []) s3.heap.objs.size X.env))
    (compPost (aL X.prog X.w) X.A X.xe use Q' (.ref s2.heap.objs.size) s3.heap.objs.size) s4:=by
  rintro s4 rfl
  refine Hk (λn s'=>∃ i ys' σ' H',Inv (Hj X (own++ys) scope s3 (upd H2 s2.heap.objs.size (.lst [])) fp) [] σ' H' s'/\tn i s'.heap/\(∀ b∈fp,H' b=none)/\W i n ys' σ' H') ?_ m0
   ⟨0,[],_,_,I4,st4,λb hb=>(f3 b hb).1,w0⟩
  rintro n s5 ⟨i,ys',σ5,H5,I5,st5,fr5,w5⟩;obtain ⟨hacc,rest⟩:=turn i n ys' σ5 H5 w5
  rcases rest with ⟨stop,qn⟩|⟨go,step⟩
  .refine gp (T.done (Hj X (own++ys) scope s3 (upd H2 s2.heap.objs.size (.lst [])) fp) rfl rfl rfl hcalm i [] s5 σ5 H5 _ I5 (stat fr5) st5 stop) λr s6 ⟨hr,I6⟩=>?_;subst hr;exact hu _ _ H5 s6 (QZ I3 f3 I6) qn ⟨I6.free,fC.2⟩ (let ⟨m,hn,_⟩:=I6.loc;⟨m,hn⟩)
  .refine gp (T.item (Hj X (own++ys) scope s3 (upd H2 s2.heap.objs.size (.lst [])) fp) rfl rfl rfl hcalm i [] s5 σ5 H5 _ I5 (stat fr5) st5 go) λr s6 ⟨u,hr,h6⟩=>?_;subst hr;refine gp h6 λ_ s7 ⟨x,H7,I7,r7,y7,st7,fr7⟩=>?_;have I7':=I7.pinned (stat fr7) (T.obj _ _ st7);refine gp (hg _ _ _ _ s7 σ5 H7 x u _ I7' r7 (step x H7 y7)) λ_ s8 ⟨σ8,H8,I8,q8⟩=>?_;refine gp (ht _ _ _ _ s8 σ8 H8 _ I8 q8) λok s9 ⟨H9,I9,q9⟩=>?_
   have kept:∀ {s10:ax}{σ10:St}{H10:Hp},Inv (Hj X (own++ys) scope s3 (upd H2 s2.heap.objs.size (.lst [])) fp) ([]++Cg fp s7.heap) σ10 H10 s10 ->
     Inv (Hj X (own++ys) scope s3 (upd H2 s2.heap.objs.size (.lst [])) fp) [] σ10 H10 s10/\tn (i+1) s10.heap/\∀ b∈fp,H10 b=none:=λ{s10 σ10 H10} I10=>by
    refine ⟨I10.yF,T.keep _ _ _ st7 λb hb o e=>(I10.pin (b,o) (bO _ (bO _ (qA hb e)))).1,λb hb=>?_⟩;obtain ⟨o,e,d⟩:=T.obj _ _ st7 b hb;exact (I10.pin (b,o) (bO _ (bO _ (qA hb e)))).2.1
   cases ok with
   | false =>
    simp only [bY,if_false] at q9 ⊢;obtain ⟨m',hm,w9⟩:=q9;obtain ⟨k1,k2,k3⟩:=kept I9
    exact ⟨m',hm,i+1,ys',σ8,H9,k1,k2,k3,w9⟩
   | true =>
    simp only [if_true] at q9 ⊢;refine gp (he _ _ _ _ s9 σ8 H9 _ I9 q9) λyv s10 ⟨y,H10,I10,r10,a10,l10,m',hm,w10⟩=>?_;refine gp (lZ (X:=Hj X (own++ys) scope s3 (upd H2 s2.heap.objs.size (.lst [])) fp) _ s10 σ8 H10 (.ref s2.heap.objs.size) [y] (.ref s2.heap.objs.size) [yv] (λv H'=>v=.non/\H'=upd H10 s2.heap.objs.size (.lst (ys'++[y]))) I10 rfl (.cons r10 .nil) ⟨_,_,_,rfl,rfl,a10,l10,rfl,rfl⟩) λ_ s11 ⟨_,H11,I11,_,_,e11⟩=>?_;subst e11;obtain ⟨k1,k2,k3⟩:=kept I11;exact ⟨m',hm,i+1,_,σ8,_,k1,k2,k3,w10⟩
 have fin:=codeAny_compStart_list (R:=compPost (aL X.prog X.w) X.A X.xe use Q' (.ref s2.heap.objs.size) s3.heap.objs.size) (LW _ rfl) (T.self X.A 0 { s3 with heap:=h₁,toks:=s2.toks+([]:List (bB×aj)).length } _ _ st4 (LW _ rfl));rw [← hs3] at fin ⊢;exact fin
def sA (I:Inv X pins Z H s) (h:(scope.names.all λy=>y.2 != .free || X.env.kindOf y.1 == some .cell || X.env.kindOf y.1 == some .free)=true) :
  ∀ n,(n,bL)∈scope.names->∃ c,X.env.cells.lookup n=some c:=λn hn=>by
 have q:=W7.mp h _ hn;simp only [bne_self_eq_false,Bool.false_or,Bool.or_eq_true,beq_iff_eq] at q;exact I.ok.has n q
def kY (own:List bB) {ys:List bB}(js:List Nat) {wi:TI}{g:TG}{tt:TT}{te:TE}(hcalm:X.calm=true)
  (hi:PI X tg iter wi) (hc:Er X scope js ys)
  (hg:∀ s0 H0 fp,PG (Hj X (own++ys) scope s0 H0 fp) tg g) (ht:∀ s0 H0 fp,Q0 (Hj X (own++ys) scope s0 H0 fp) ifs tt) (he:∀ s0 H0 fp,PE (Hj X (own++ys) scope s0 H0 fp) elt te)
  (hfr:(scope.names.all λy=>y.2 != .free || X.env.kindOf y.1 == some .cell || X.env.kindOf y.1 == some .free)=true:=by rfl)
  (hkind:scope.kind=.function:=by rfl) (hcell:∀ y∈scope.names,y.2≠.cell:=by decide +kernel) (hnames:∀ y∈scope.names,y.2=.local->scope.names.lookup y.1=some .local:=by decide +kernel)
  (hs:∀ x,uA iter X.env x=pure x:=by intro _;rfl):PE X (.ListComp elt [⟨tg,iter,ifs,0⟩] scope pos) (kH own.length js wi g tt te):=by
 intro pins s Z H Q I h;rw [eval_ListComp];refine JN (use:=none) hcalm hi hkind hcell hnames (sA I hfr) hc hg ht he I h (λD C H' s' I' q fC ⟨m,hn⟩=>⟨m,hn,λh' hs'=>⟨.ref D,H',?_,rfl,q⟩⟩) hs;exact I'.turned (t':=s'.toks) (λb o hb e=>(hs'.2 b hb).trans e) fC.1 fC.2.1 fC.2.2.2.1 fC.2.2.2.2.1 fC.2.2.2.2.2
theorem xm {spos py:ue}{i:Nat}(own:List bB) {ys:List bB}(js:List Nat) {wi:TI}{g:TG}{tt:TT}{te:TE}(hcalm:X.calm=true)
  (hN:X.N.Nodup) (hy:X.N[i]?=some y) (hl:X.env.scope.names.lookup y=some .local)
  (hi:PI X tg iter wi) (hc:Er X scope js ys)
  (hg:∀ s0 H0 fp,PG (Hj X (own++ys) scope s0 H0 fp) tg g) (ht:∀ s0 H0 fp,Q0 (Hj X (own++ys) scope s0 H0 fp) ifs tt) (he:∀ s0 H0 fp,PE (Hj X (own++ys) scope s0 H0 fp) elt te)
  (hfr:(scope.names.all λy=>y.2 != .free || X.env.kindOf y.1 == some .cell || X.env.kindOf y.1 == some .free)=true:=by rfl)
  (hsw:BO (.ListComp elt [⟨tg,iter,ifs,0⟩] scope pos) (some (.Name y py)) spos.line X.env=pure true:=by rfl)
  (hkind:scope.kind=.function:=by rfl) (hcell:∀ y∈scope.names,y.2≠.cell:=by decide +kernel) (hnames:∀ y∈scope.names,y.2=.local->scope.names.lookup y.1=some .local:=by decide +kernel)
  (hs:∀ x,uA iter X.env x=pure x:=by intro _;rfl) :
  PS X (.Assign [.Name y py] (.ListComp elt [⟨tg,iter,ifs,0⟩] scope pos) spos) (dv (kH own.length js wi g tt te) (bx i)):=by
 intro pins s Z H D I h;rw [exec_Assign_Name_used _ _ _ _ hsw];refine aa (uV (aa ?_))
 show aH _ X.A (do let _ ← comprehension (.ListComp elt [⟨tg,iter,ifs,0⟩] scope pos) scope X.env _ (newList []) false (fo iter X.env) (some (Lq (.Name y py) X.env))) _ _ s
 refine aa (dr (JN (Q:=λx H1=>bx i x Z H1 D.nx) (Q':=λ_ s'=>SP X pins D .next s') (use:=some (Lq (.Name y py) X.env)) hcalm hi hkind hcell hnames (sA I hfr) hc hg ht he I h (λDd C H' s' I' q fC ⟨m,hn⟩=>?_) hs) (λ_ s' hq=>ak (ak hq)) λ_ _ e=>e)
 show aH _ X.A (Lq (.Name y py) X.env (.ref Dd)) _ _ _
 refine wpAny_assign_Name (FX (v:=.ref Dd) I' hN hy (.inl hl) rfl (λs'' I'' ⟨a,sb,ha⟩=>?_) (.inr hl))
 have hCa:C≠a:=by
  rcases ha with z|z
  .rw [z];exact fC.2.1
  .exact Ne.symm (fC.2.2.2.2.1 _ _ z)
 refine ⟨m,hn.sameBut sb hCa,λh' hs'=>?_⟩;exact ⟨_,H',I''.turned (t':=s''.toks) (λb o hb e=>(hs'.2 b hb).trans e) fC.1 fC.2.1 fC.2.2.2.1 fC.2.2.2.2.1 fC.2.2.2.2.2,q⟩
mutual
def Rep (K:ae) (H:Hp):PyData->V->Prop
 | .none,v=>v=.non
 | .bool b,v=>v=.bl b
 | .int i,v=>v=.int i
 | .str x,v=>v=.str x
 | .list ds,v=>∃ a xs,v=.ref a/\dm K H a xs/\e9 K H ds xs
 | .tuple ds,v=>∃ a xs,v=.ref a/\jq K H a xs/\e9 K H ds xs
 | .dict _,_=>False
def e9 (K:ae) (H:Hp):List PyData->List V->Prop
 | [],vs=>vs=[]
 | d::ds,vs=>∃ v r,vs=v::r/\Rep K H d v/\e9 K H ds r
end
mutual
theorem Rep.reads (I:Inv X pins Z H s):∀ (d:PyData) (v:V) (u:aj),Rep X.K H d v->RelV v u->∃ as,Reads s.heap u d as
 | .none,v,u,h,r=>by
  cases (show v=.non by simpa only [Rep] using h)
  cases (show u=dC from r);exact ⟨_,.none⟩
 | .bool b,v,u,h,r=>by
  cases (show v=.bl b by simpa only [Rep] using h)
  cases (show u=pH b from r);exact ⟨_,.bool b⟩
 | .int i,v,u,h,r=>by
  cases (show v=.int i by simpa only [Rep] using h)
  obtain ⟨t,rfl⟩:=(show ∃ t,u=fz i t from r);exact ⟨_,.int i t⟩
 | .str x,v,u,h,r=>by
  cases (show v=.str x by simpa only [Rep] using h)
  obtain ⟨t,rfl⟩:=(show ∃ t,u=rR x t from r);exact ⟨_,.str x t⟩
 | .list ds,v,u,h,r=>by
  obtain ⟨a,xs,rfl,hq,ha⟩:=(show ∃ a xs,v=.ref a/\dm X.K H a xs/\e9 X.K H ds xs by simpa only [Rep] using h)
  cases (show u=aD a from r);obtain ⟨its,rv,⟨o,n,e1,e2,_,e3⟩,_⟩:=I.list hq;obtain ⟨as,ra⟩:=e9.reads I ds xs its ha rv
  exact ⟨_,.list e1 e2 e3 (by simpa using ra)⟩
 | .tuple ds,v,u,h,r=>by
  obtain ⟨a,xs,rfl,hq,ha⟩:=(show ∃ a xs,v=.ref a/\jq X.K H a xs/\e9 X.K H ds xs by simpa only [Rep] using h)
  cases (show u=aD a from r);obtain ⟨its,rv,⟨o,e1,e2,n,e3⟩,_⟩:=I.tuple hq;obtain ⟨as,ra⟩:=e9.reads I ds xs its ha rv
  exact ⟨_,.tuple e1 e2 e3 (by simpa using ra)⟩
 | .dict _,v,u,h,r=>absurd h (by simp only [Rep];exact λz=>z)
theorem e9.reads (I:Inv X pins Z H s):∀ (ds:List PyData) (vs:List V) (us:List aj),e9 X.K H ds vs->Vals vs us->∃ as,ReadsAll s.heap us ds as
 | [],vs,us,h,r=>by
  cases (show vs=[] by simpa only [e9] using h)
  cases r;exact ⟨_,.nil⟩
 | d::ds,vs,us,h,r=>by
  obtain ⟨v,rr,rfl,h1,h2⟩:=(show ∃ v r,vs=v::r/\Rep X.K H d v/\e9 X.K H ds r by simpa only [e9] using h)
  cases r with
  | cons ru rs =>
   obtain ⟨as,r1⟩:=Rep.reads I d v _ h1 ru;obtain ⟨bs,r2⟩:=e9.reads I ds rr _ h2 rs;exact ⟨_,.cons r1 r2⟩
end
def bJ.YO (e:bJ H H') (h:jq K H a xs):jq K H' a xs:=by
 rcases h with (h|⟨o,h⟩)|h
 .exact .inl (.inl (e _ _ h))
 .exact .inl (.inr ⟨o,e _ _ h⟩)
 .exact .inr h
def e9.cons {d:PyData}{vs:List V}(h1:Rep K H d v) (h2:e9 K H ds vs):e9 K H (d::ds) (v::vs):=by
 simp only [e9];exact ⟨v,vs,rfl,h1,h2⟩
def e9.nil:e9 K H [] []:=by simp only [e9]
def Rep.int (i:Int):Rep K H (.int i) (.int i):=by simp only [Rep]
def Rep.lst (h:dm K H a xs) (r:e9 K H ds xs):Rep K H (.list ds) (.ref a):=by
 simp only [Rep];exact ⟨a,xs,rfl,h,r⟩
def Rep.tup (h:jq K H a xs) (r:e9 K H ds xs):Rep K H (.tuple ds) (.ref a):=by
 simp only [Rep];exact ⟨a,xs,rfl,h,r⟩
theorem e9.ints:∀ (ns:List Int),e9 K H (ns.map .int) (ns.map V.int)
 | []=>e9.nil
 | n::ns=>e9.cons (Rep.int n) (e9.ints ns)
structure y9 (d:PyData):Prop where
 lay:d.canLay0=true
 dep:d.depth<=60
def UO (K:ae) (neg:Bool):R2:=λx y H Q=>∃ dx dy,Rep K H dx x/\Rep K H dy y/\y9 dx/\y9 dy/\Q (.bl (if neg then !PyData.eqv dx dy else dH dx dy)) H
def XM (hu:X.A.units+64<ip):qS X (dk .Eq) (UO X.K false):=by
 intro pins s Z H x y v u Q I rx ry h;obtain ⟨dx,dy,h1,h2,f1,f2,q⟩:=h;obtain ⟨as,r1⟩:=Rep.reads I dx x v h1 rx;obtain ⟨bs,r2⟩:=Rep.reads I dy y u h2 ry;have:=f1.dep;exact SeqAt.compareEq_reads r1 r2 f1.lay f2.lay (bw (z8 (br (Zo _ _) (br f1.dep (by decide))) _) hu) ⟨.bl _,H,I,rfl,q⟩
def XN (hu:X.A.units+64<ip):qS X (dk .NotEq) (UO X.K true):=by
 intro pins s Z H x y v u Q I rx ry h;obtain ⟨dx,dy,h1,h2,f1,f2,q⟩:=h;obtain ⟨as,r1⟩:=Rep.reads I dx x v h1 rx;obtain ⟨bs,r2⟩:=Rep.reads I dy y u h2 ry;exact SeqAt.compareNe_reads r1 r2 f1.lay f2.lay (bw (z8 (br (Zo _ _) (br f1.dep (by decide))) _) hu) ⟨.bl _,H,I,rfl,q⟩
def kA (K:ae):R2:=λx y H Q=>rEq x y H Q\/UO K false x y H Q
def JO (K:ae):R2:=λx y H Q=>rNe x y H Q\/UO K true x y H Q
def l6 (hu:X.A.units+64<ip):qS X (dk .Eq) (kA X.K):=ZD.or (XM hu)
def Hl (hu:X.A.units+64<ip):qS X (dk .NotEq) (JO X.K):=ZE.or (XN hu)
def XO (K:ae) (neg:Bool):R2:=λx y H Q=>∃ d ds,Rep K H d x/\(Rep K H (.list ds) y\/Rep K H (.tuple ds) y)/\y9 d/\iB ds=true/\Q (.bl (if neg then !(ds.any λe=>dH e d) else ds.any λe=>dH e d)) H
def XQ (hu:X.A.units+64<ip):qS X (dk .In) (XO X.K false):=by
 intro pins s Z H x y v u Q I rx ry h;obtain ⟨d,ds,h1,h2,f1,f2,q⟩:=h;obtain ⟨as,r1⟩:=Rep.reads I d x v h1 rx;have hb:X.A.units+1+min (fD ds) d.depth<ip:=bw (by have:=f1.dep;lia) hu
 rcases h2 with h2|h2
 .obtain ⟨bs,r2⟩:=Rep.reads I _ y u h2 ry;exact SeqAt.in_list_reads r2 r1 f2 f1.lay hb ⟨.bl _,H,I,rfl,q⟩
 .obtain ⟨bs,r2⟩:=Rep.reads I _ y u h2 ry;exact SeqAt.in_tuple_reads r2 r1 f2 f1.lay hb ⟨.bl _,H,I,rfl,q⟩
def OU (hu:X.A.units+64<ip):qS X (dk .NotIn) (XO X.K true):=by
 intro pins s Z H x y v u Q I rx ry h;obtain ⟨d,ds,h1,h2,f1,f2,q⟩:=h;obtain ⟨as,r1⟩:=Rep.reads I d x v h1 rx;have hb:X.A.units+1+min (fD ds) d.depth<ip:=bw (by have:=f1.dep;lia) hu
 rcases h2 with h2|h2
 .obtain ⟨bs,r2⟩:=Rep.reads I _ y u h2 ry;exact SeqAt.notIn_list_reads r2 r1 f2 f1.lay hb ⟨.bl _,H,I,rfl,q⟩
 .obtain ⟨bs,r2⟩:=Rep.reads I _ y u h2 ry;exact SeqAt.notIn_tuple_reads r2 r1 f2 f1.lay hb ⟨.bl _,H,I,rfl,q⟩
def XR (neg:Bool):R2:=λy x H Q=>∃ a o,x=.ref a/\wG H a y o/\Q (.bl (if neg then !o.isSome else o.isSome)) H
def XS (hu:X.A.units+64<ip):qS X (dk .In) (XR false):=by
 intro pins s Z H y x iv u Q I ry rx h;obtain ⟨a,o,rfl,g,q⟩:=h;cases rx
 exact d_in (bw (by lia) hu) I g ry λs' I'=>⟨.bl _,H,I',rfl,q⟩
def OV (hu:X.A.units+64<ip):qS X (dk .NotIn) (XR true):=by
 intro pins s Z H y x iv u Q I ry rx h;obtain ⟨a,o,rfl,g,q⟩:=h;cases rx
 exact UL (bw (by lia) hu) I g ry λs' I'=>⟨.bl _,H,I',rfl,q⟩
def za (K:ae) (neg:Bool):R2:=λx y H Q=>XO K neg x y H Q\/XR neg x y H Q
def Mg (hu:X.A.units+64<ip):qS X (dk .In) (za X.K false):=(XQ hu).or (XS hu)
def Gp (hu:X.A.units+64<ip):qS X (dk .NotIn) (za X.K true):=(OU hu).or (OV hu)
def d8:R2:=λx y H Q=>pL (λi j=>.int (i+j)) x y H Q\/ZG x y H Q
def jN:qS X (rT .Add) d8:=Xz.or XI
def ZJ:R2:=λx y H Q=>∃ a v,x=.ref a/\wG H a y (some v)/\Q v H
def UP (hu:X.A.units+64<ip):VA X ZJ:=by
 intro value slice pins s Z H x y v u Q I rx ry h hs;obtain ⟨a,z,rfl,g,q⟩:=h;cases rx;exact tail_any (JJ I g) GX.lookup (Gk (bw (by lia) hu) I g ry λw' s' I' r'=>⟨z,H,I',r',q⟩) hs
def dS (K:ae):R2:=λx y H Q=>(Hd K x y H Q\/ZF K x y H Q)\/ZJ x y H Q
def XT (hu:X.A.units+64<ip):VA X (dS X.K):=(UK.or XG).or (UP hu)
def V8:V->V->V->Hp->(Hp->Prop)->Prop:=λo i v H Q=>∃ a H',o=.ref a/\Br H a i v H'/\Q H'
def set_dict (hu:X.A.units+64<ip):QE X V8:=by
 intro pins s Z H o i v ov iv u Q I ro ri rv h;obtain ⟨a,H',rfl,g,q⟩:=h;cases ro
 exact Gm (bw (by lia) hu) I g ri rv λs' I'=>⟨H',I',q⟩
def vd:V->V->V->Hp->(Hp->Prop)->Prop:=λo i v H Q=>Ah o i v H Q\/V8 o i v H Q
def ZK (hu:X.A.units+64<ip):QE X vd:=by
 intro pins s Z H o i v ov iv u Q I ro ri rv h
 rcases h with h|h
 .exact sj pins s Z H o i v ov iv u Q I ro ri rv h
 .exact set_dict hu pins s Z H o i v ov iv u Q I ro ri rv h
def v8 (K:ae):List V->Hp->VK->Prop:=λxs H Q=>(∃ p ys,xs=[.ref p]/\(dm K H p ys\/jq K H p ys)/\Q (.int ys.length) H)\/(∃ a kvs,xs=[V.ref a]/\H a=some (.dK kvs)/\Q (.int kvs.length) H)
def zb:lj X (.builtin "len") (v8 X.K):=Hg.or OS
def Mh (K:ae):List V->Hp->VK->Prop:=λxs H Q=>∃ x T t b,xs=[x,.ty T]/\w6 K H x t/\lL K t (.type T)=some b/\Q (.bl b) H
def Cs:lj X (.builtin "isinstance") (Mh X.K):=by
 intro pins s Z H xs us Q I r h;obtain ⟨x,T,t,b,rfl,ty,e,q⟩:=h;obtain ⟨u,w',rfl,ru,rw'⟩:=vals2 r;cases (show w'=fc T from rw')
 exact OO I ru ty e λtk=>⟨.bl b,H,I.tok tk,rfl,q⟩
def Inv.vT (I:Inv X pins Z H s):∃ m,Fr X.base X.env.locals s.heap m/\News X.base X.env.locals s.heap (uh X.base s.heap X.env.locals) :=
 let ⟨m,F⟩:=I.fr
 ⟨m,F,Qz⟩
def ZL (K:ae):List V->Hp->VK->Prop:=λxs H Q=>∃ (p:af) (bs:List Bool),xs=[.ref p]/\dm K H p (bs.map V.bl)/\Q (.bl (bs.all id)) H
theorem Ak:∀ {bs:List Bool}{us:List aj},Vals (bs.map V.bl) us->LSm.BoolsAre us bs
 | [],_,r=>by cases r;exact .nil
 | b::bs,_,r=>by
  rw [aV] at r
  cases r with
  | cons h t =>
   cases (show _=pH b from h);exact .cons b (Ak t)
def Q1 (hc:X.calm=true):lj X (.builtin "all") (ZL X.K):=by
 intro pins s Z H xs us Q I r h;obtain ⟨p,bs,rfl,hq,q⟩:=h;obtain ⟨u,rfl,ru⟩:=vals1 r;cases ru;obtain ⟨its,rv,pl,hz⟩:=I.list hq;have hb:=Ak rv;have hl:=pl.isList
 have hlt:p<s.heap.objs.size:=by obtain ⟨_,e,_⟩:=hl;exact aJ e
 refine call_all_walk (Jb hl ?_)
 refine ⟨s.heap.objs.size,[s.heap.objs.size,p],[s.heap.objs.size],its.toArray.size,_,_,λi=>(bs[i]?).getD true,rfl,Walks.list (A:=X.A.in1) (I.ok.hd hc) _ p (aZ hlt) its.toArray,
  ⟨⟨_,aK _ rfl,rfl,rfl⟩,hl.push _⟩,λi v s' Q' E' hP hQ=>?_,λh' tk hk=>?_⟩
 .obtain ⟨b,e,rfl⟩:=hb.get i v (by simpa using hP);simp only [e,Uj] at hQ;exact i4 hQ
 .have e:((gK its.toArray.size).all λi=>(bs[i]?).getD true)=bs.all id:=by
   rw [aI,hb.length];exact LSm.range_all bs
  rw [e];exact ⟨.bl _,H,I.kept (LSm.kept_iter hk),rfl,q⟩
section
variable {D:rN}{ta tb:TE}{t u:TS}{c c':TT}{tA:TA}{QT:Bool->Hp->Prop}{QA:List V->Hp->Prop}
def Gq (h:t { D with nx:=u D } Z H):bN t u D Z H:=h
def ZM (h:te Z H λx H1=>g x Z H1 D.nx):dv te g D Z H:=h
def NH {i:Nat}(h:R (Z.set i (some v)) H):bx i v Z H R:=h
def XU {ti:TE}{ts:OG}(h:to Z H λo H1=>ti Z H1 λi H2=>ts o i v H2 λH3=>R Z H3):EG to ti ts v Z H R:=h
def V9 {i:Nat}(h:Z[i]?=some (some v)) (k:Q v H):ao i Z H Q:=⟨v,h,k⟩
def x_c (k:Q v H):tC v Z H Q:=k
def x_op {r:R2}(h:ta Z H λx H1=>tb Z H1 λy H2=>r x y H2 Q):cm r ta tb Z H Q:=h
def x_un {r:V->Hp->VK->Prop}(h:ta Z H λx H1=>r x H1 Q):tUn r ta Z H Q:=h
def ZN (h:te Z H D.rt):eX te D Z H:=h
def XX (h:te Z H λ_ H1=>D.nx Z H1):eE te D Z H:=h
def XY (h:D.nx Z H):fH D Z H:=h
def ZO (h:c Z H λb H1=>if b=true then t D Z H1 else u D Z H1):iM c t u D Z H:=h
def x_if (h:c Z H λb H1=>if b=true then ta Z H1 Q else tb Z H1 Q):Zd c ta tb Z H Q:=h
def XZ (h:te Z H λx H'=>∃ k,x=.bl k/\QT k H'):dj te Z H QT:=h
def ZP (h:c Z H λb H1=>if b=true then c' Z H1 QT else QT false H1):wX c c' Z H QT:=h
def x_or (h:c Z H λb H1=>if b=true then QT true H1 else c' Z H1 QT):Ub c c' Z H QT:=h
def ZQ (h:c Z H λb H1=>QT (!b) H1):A1 c Z H QT:=h
def X0 (h:ta Z H λx H1=>∃ c,x=.bl c/\if c=true then tb Z H1 Q else Q (.bl false) H1):Ca ta tb Z H Q:=h
def X1 (h:ta Z H λx H1=>∃ c,x=.bl c/\Q (.bl (!c)) H1):Ny ta Z H Q:=h
def ZR (h:QT true H):xk Z H QT:=h
def ZT (h:QA [] H):aY Z H QA:=h
def X2 (h:te Z H λx H1=>tA Z H1 λxs H2=>QA (x::xs) H2):av te tA Z H QA:=h
def ZU (h:tA Z H λxs H1=>xs.length<=aW/\∀ p,H1 p=none->Q (.ref p) (upd H1 p (.tup xs))):nC tA Z H Q:=h
def ZV (h:tA Z H λxs H1=>xs.length<=aW/\∀ p,H1 p=none->Q (.ref p) (upd H1 p (.lst xs))):vX tA Z H Q:=h
def X3 {dvs:List V}{E:XK}(h:tA Z H λvs H1=>sp (vs++dvs) H1 Q E):cQ sp dvs E tA Z H Q:=h
def x_cb {r:List V->Hp->VK->Prop}(h:tA Z H λvs H1=>r vs H1 Q):qv r tA Z H Q:=h
def x_bm {T:String}{r:V->List V->Hp->VK->Prop}(h:to Z H λx H1=>tyV K T x H1/\tA Z H1 λxs H2=>r x xs H2 Q):EK K T r to tA Z H Q:=h
def x_sl {r:V->Option Int->Option Int->Hp->VK->Prop}{tl th:TO}(h:te Z H λx H1=>tl Z H1 λl H2=>th Z H2 λu H3=>r x l u H3 Q):Gg r te tl th Z H Q:=h
def Q2 {R:Option Int->Hp->Prop}(h:R none H):ia Z H R:=h
def X4 {R:Option Int->Hp->Prop}(h:te Z H λx H1=>∃ i,x=.int i/\R (some i) H1):jB te Z H R:=h
def ZW {g:Int->Int->V}(h:Q (g i j) H):pL g (.int i) (.int j) H Q:=⟨i,j,rfl,rfl,h⟩
def x_rI {C:Int->Int->Prop}{g:Int->Int->V}(hc:C i j) (h:Q (g i j) H):rI C g (.int i) (.int j) H Q:=⟨i,j,rfl,rfl,hc,h⟩
def X5 (h:Q (.int (i+j)) H):d8 (.int i) (.int j) H Q:=.inl ⟨i,j,rfl,rfl,h⟩
def ZX (h:Q (.bl (decide (V.int i=V.int j))) H):kA K (.int i) (.int j) H Q:=.inl ⟨rfl,h⟩
def ZY (h:Q (.bl (!decide (V.int i=V.int j))) H):JO K (.int i) (.int j) H Q:=.inl ⟨rfl,h⟩
def mO (h:dm K H p xs) (e:Qi xs i=some v) (k:Q v H):dS K (.ref p) (.int i) H Q:=.inl (.inl ⟨p,xs,i,v,rfl,rfl,h,e,k⟩)
def fU (h:jq K H p xs) (e:Qi xs i=some v) (k:Q v H):dS K (.ref p) (.int i) H Q:=.inl (.inr ⟨p,xs,i,v,rfl,rfl,h,e,k⟩)
def qC (h:dm K H p xs) (k:Q (.int xs.length) H):v8 K [.ref p] H Q:=.inl ⟨p,xs,rfl,.inl h,k⟩
def X6 (h:jq K H p xs) (k:Q (.int xs.length) H):v8 K [.ref p] H Q:=.inl ⟨p,xs,rfl,.inr h,k⟩
def sC {l:af}{y:V}(h:H l=some (.lst xs)) (hl:xs.length<aW) (k:Q .non (upd H l (.lst (xs++[y])))):kq (.ref l) [y] H Q:=⟨l,xs,y,rfl,rfl,h,hl,k⟩
def Q3 {k:Int}{j:Nat}{R:Hp->Prop}(h:H p=some (.lst xs)) (e:Qh xs.length k=some j) (q:R (upd H p (.lst (xs.set j v)))):vd (.ref p) (.int k) v H R:=.inl ⟨p,xs,k,j,rfl,rfl,h,e,q⟩
def sD {p A B:Prop} [Decidable p] (h1:p->A) (h2:¬ p->B):if decide p=true then A else B:=by
 by_cases h:p
 .rw [if_pos (decide_eq_true h)];exact h1 h
 .rw [if_neg (by rw [decide_eq_false h];decide)];exact h2 h
def ZZ {p A B:Prop} [Decidable p] (h1:¬ p->A) (h2:p->B):if (!decide p)=true then A else B:=by
 by_cases h:p
 .rw [if_neg (by rw [decide_eq_true h];decide)];exact h2 h
 .rw [if_pos (by rw [decide_eq_false h];decide)];exact h1 h
def kC:(V.int i=V.int j)↔i=j:=⟨λh=>by injection h,λh=>by rw [h]⟩
end
end L2
namespace BootT
open PySem
def len:dh "len"=some (.builtin "len"):=by decide +kernel
def v9:dh "isinstance"=some (.builtin "isinstance"):=by decide +kernel
def Ct:dh "sorted"=some (.builtin "sorted"):=by decide +kernel
def all:dh "all"=some (.builtin "all"):=by decide +kernel
def min:dh "min"=some (.builtin "min"):=by decide +kernel
def max:dh "max"=some (.builtin "max"):=by decide +kernel
def int:dh "int"=some (.type "int"):=by decide +kernel
def bool:dh "bool"=some (.type "bool"):=by decide +kernel
def list:dh "list"=some (.type "list"):=by decide +kernel
def tuple:dh "tuple"=some (.type "tuple"):=by decide +kernel
end BootT
namespace L2
variable {H:Hp}{K:ae}{Z:St}{n m:Nat}{x y:V}{i j:Int}{g:TG}{ta tl te:TE}{xs:List V}{R:St->Hp->Prop}{c a l:af}{Q:VK}{tg:Expr}{tt:TT}{D:rN}{wi:TI}{d:PyData}{ds:List PyData}{o:HO}{X:Cx}
def JP:List V->Hp->VK->Prop:=λxs H Q=>∃ i j,xs=[.int i,.int j]/\Q (.int (if j<i then j else i)) H
def NI:List V->Hp->VK->Prop:=λxs H Q=>∃ i j,xs=[.int i,.int j]/\Q (.int (if j>i then j else i)) H
def Wa (K:ae):List V->Hp->VK->Prop:=λxs H Q=>∃ p ys,xs=[.ref p]/\(dm K H p ys\/jq K H p ys)/\∀ l,H l=none->Q (.ref l) (upd H l (.lst ys))
def pj (K:ae) (ta:TE):TT:=λZ H Q=>ta Z H λx H'=>∃ k,UA K x H' k/\Q k H'
def Z0 {Q:Bool->Hp->Prop}(h:ta Z H λx H'=>∃ k,UA K x H' k/\Q k H'):pj K ta Z H Q:=h
section
variable {a:Expr}
def Mi (ha:PE X a ta) (he:∀ whole,isTrue a X.env whole=(do let v ← whole;uz a.pos;jS [v] (truthy v))):PT X a (pj X.K ta):=QK ha he
end
def Itd (a:af) (kvs:List (iL×V)) (o:iF):It :=
 ⟨λi H=>i<kvs.length/\H a=some (.frz o (.dK kvs)),λi H x H'=>H'=H/\∃ k v,kvs[i]?=some (k,v)/\x=kV k,λi H=>kvs.length<=i/\H a=some (.frz o (.dK kvs))⟩
def X7 {k:iL}{u:aj}(h:BX k u=true):RelV (kV k) u:=by
 rcases gI h with ⟨i,t,rfl,rfl⟩|⟨x,t,rfl,rfl⟩
 .exact ⟨t,rfl⟩
 .exact ⟨t,rfl⟩
def KV.get {kvs:List (iL×V)}{vs:List (iL×aj)}(r:KV kvs vs) {i:Nat}{k:iL}{v:V}(e:kvs[i]?=some (k,v)):∃ u,vs[i]?=some (k,u)/\RelV v u:=by
 unfold KV at r
 induction r generalizing i with
 | nil=>simp at e
 | @cons p q ps qs h t ih =>
  cases i with
  | zero =>
   simp at e;subst e;obtain ⟨q1,q2⟩:=q;obtain ⟨h1,h2⟩:=h;simp only at h1 h2;subst h1
   exact ⟨q2,rfl,h2⟩
  | succ i =>
   obtain ⟨u,e1,e2⟩:=ih (by simpa using e);exact ⟨u,by simpa using e1,e2⟩
def OW {P:bA}{w:cg}(a it:af) (o:iF) (kvs:List (iL×V)) (vs:List (iL×aj)) (ep:Nat) (rel:KV kvs vs)
  (od:∀ h:cK,h.get? a=some o->h.DictAt (fv P w) a vs ep):OI P w K tg (Itd a kvs o) [it] it (λi h=>h.IsKeyIter it a i vs.length ep) where
 mem:=by simp
 obj:=λi h st b hb=>by
  have e:b=it:=by simpa using hb
  subst e;obtain ⟨o,e,c,d⟩:=st;exact ⟨o,e,λv z=>by rw [d] at z;cases z⟩
 keep:=λi h h' st k=>st.at λo e=>k it (by simp) o e
 item:=by
  intro X hP hw hK hc i pins s Z H E I hf st hg;subst hP hw hK;obtain ⟨hlt,hq⟩:=hg
  obtain ⟨e0,_⟩:=(show eU X.prog X.w H s.heap a (.frz o (.dK kvs)) from I.eJ a _ hq)
  obtain ⟨⟨k,v⟩,hx⟩:∃ p,kvs[i]?=some p:=⟨kvs[i],by simp [hlt]⟩
  obtain ⟨u,hu,ru⟩:=rel.get hx;obtain ⟨f0,f1,f2,f3,f4,f5⟩:=hf it (by simp);refine wpAny_pyNext_dict_item st (od _ e0) hu λkey h' hkey st' sb=>?_;have I1:Inv X pins Z H { s with heap:=h' }:=I.turned (t':=s.toks) (λb o hb e=>(sb.2 b hb).trans e) f0 f1 f3 f4 f5;obtain ⟨o',e,c,d⟩:=id st';exact ⟨key,rfl,JA (s:={ s with heap:=h' }) e c d (by decide) ⟨kV k,H,I1,X7 hkey,⟨rfl,k,v,hx,rfl⟩,st',λb hb=>(hf b hb).1⟩⟩
 done:=by
  intro X hP hw hK hc i pins s Z H E I hf st hg;subst hP hw hK;obtain ⟨hle,hq⟩:=hg
  obtain ⟨e0,_⟩:=(show eU X.prog X.w H s.heap a (.frz o (.dK kvs)) from I.eJ a _ hq)
  obtain ⟨f0,f1,f2,f3,f4,f5⟩:=hf it (by simp);have hl:=rel.length
  exact wpAny_pyNext_dict_end (I.ok.hd hc) st (od _ e0) (by simp;lia) λh' eb=>⟨rfl,I.turned (t':=s.toks) (λb o hb e=>eb b o hb e) f0 f1 f3 f4 f5⟩
 self:=λ_ _ _ _ _ st h=>YW st h
def nE (K:ae) (tl:TE):TI:=λZ H R=>tl Z H λx H1=>∃ a,x=.ref a/\(((∃ xs,dm K H1 a xs)/\R (Qg K a) H1)\/((∃ xs,jq K H1 a xs)/\R (Ze K a) H1) \/
 ∃ kvs,H1 a=some (.dK kvs)/\∀ o,R (Itd a kvs o) (upd H1 a (.frz o (.dK kvs))))
def X8 {R:It->Hp->Prop}(h:tl Z H λx H1=>∃ a,x=.ref a/\(((∃ xs,dm K H1 a xs)/\R (Qg K a) H1)\/((∃ xs,jq K H1 a xs)/\R (Ze K a) H1) \/
 ∃ kvs,H1 a=some (.dK kvs)/\∀ o,R (Itd a kvs o) (upd H1 a (.frz o (.dK kvs))))):nE K tl Z H R:=h
theorem l7 {l:Expr}(hl:PE X l tl):PI X tg l (nE X.K tl):=by
 intro pins s Z H R I h;refine gp (hl pins s Z H _ I h) λv s1 ⟨x,H1,I1,r1,q1⟩=>?_;obtain ⟨a,e,q1⟩:=q1;subst e;cases r1
 rcases q1 with ⟨⟨xs,hq⟩,q⟩|⟨⟨xs,hq⟩,q⟩|⟨kvs,hq,q⟩
 .obtain ⟨its,rv,p,hz⟩:=I1.list hq;refine Jb p.isList ?_;refine ⟨s1.heap.objs.size,[s1.heap.objs.size],_,_,H1,rfl,I1.kept (t':=s1.toks) λb o e=>ar _ e,OJ a _,⟨_,aK _ rfl,rfl,rfl⟩,λb hb=>?_,q⟩
  have e:b=s1.heap.objs.size:=by simpa using hb
  subst e;exact I1.Nc (au _) (I1.eJ.fresh (au _))
 .obtain ⟨its,rv,p,hz⟩:=I1.tuple hq;refine wpAny_pyIter_tuple (show s1.heap.IsTuple a its.toArray from p) ?_;refine ⟨s1.heap.objs.size,[s1.heap.objs.size],_,_,H1,rfl,I1.kept (t':=s1.toks) λb o e=>ar _ e,LS a _,⟨_,aK _ rfl,rfl,rfl⟩,λb hb=>?_,q⟩
  have e:b=s1.heap.objs.size:=by simpa using hb
  subst e;exact I1.Nc (au _) (I1.eJ.fresh (au _))
 .obtain ⟨hz,hsys,vs,rel,dd⟩:=V5 I1.eJ hq;obtain ⟨ep,da⟩:=dd.dictAt;obtain ⟨ob,es,ho,rr⟩:=id da
  have od:∀ h:cK,h.get? a=some ob->h.DictAt (fv X.prog X.w) a vs ep:=λh e=>⟨ob,es,e,rr⟩
  have un:Un X.fs [] H1 (upd H1 a (.frz ob (.dK kvs))) s1.heap s1.heap:=by
   have hne:∀ b u,H1 b=some u->u≠.dK kvs->b≠a:=λb u e n z=>by subst z;rw [hq] at e;exact n (aU e).symm
   refine ⟨λb o e _ _ _=>e,λb o e _ _ _=>⟨o.slots,e⟩,λb o e n _=>?_,λb o e _=>⟨o,e⟩,λb ys e=>?_,λb o u e=>?_,λb ps e=>?_⟩
   .rw [aG (λz=>by subst z;rw [hq] at n;cases n)];exact n
   .rw [aG (hne b _ e (by intro z;cases z))];exact e
   .rw [aG (hne b _ e (by intro z;cases z))];exact e
   .exact ⟨#[],by rw [aG (hne b _ e (by intro z;cases z)),e];simp⟩
  have eJ:rH X.prog X.w (upd H1 a (.frz ob (.dK kvs))) s1.heap:=λb u e=>by
   by_cases hb:b=a
   .subst hb;rw [aF] at e;cases e;exact ⟨ho,hz,hsys,vs,rel,dd⟩
   .rw [aG hb] at e;refine (I1.eJ b u e).uT (λc v _ q=>q) (λc q0=>?_) λc ys q0=>?_
    .rw [aG (λz=>by rw [z,hq] at q0;cases q0)];exact q0
    .rw [aG (λz=>by rw [z,hq] at q0;cases q0)];exact q0
  have I2:Inv X pins Z (upd H1 a (.frz ob (.dK kvs))) { s1 with heap:=s1.heap,toks:=s1.toks }:=I1.un un eJ;refine wpAny_pyIter_dict hsys da ?_;refine ⟨s1.heap.objs.size,[s1.heap.objs.size],_,_,_,rfl,I2.kept (t':=s1.toks) λb o e=>ar _ e,OW a _ ob kvs vs ep rel od,⟨_,aK _ rfl,rfl,rfl⟩,λb hb=>?_,q ob⟩
  have e:b=s1.heap.objs.size:=by simpa using hb
  subst e;exact I2.Nc (au _) (I2.eJ.fresh (au _))
structure lh (n i:Nat) (S:St->Prop) (Pv:List V->Hp->Prop) (m:Nat) (ys:List V) (Z:St) (H:Hp):Prop where
 m:m=n-i
 le:i<=n
 s:S Z
 p:Pv ys H
def lh.mk' {i:Nat}{S:St->Prop}{Pv:List V->Hp->Prop}{ys:List V}(hi:i<n) (s:S Z) (p:Pv ys H):∃ m',m'<n-i/\lh n (i+1) S Pv m' ys Z H:=⟨n-(i+1),by lia,rfl,hi,s,p⟩
def nF {σ0:St}{J:It}{acc:af}{R:Hp->Prop}(Pv:Nat->List V->Hp->Prop) (S:St->Prop) (h0:Pv 0 [] (upd H acc (.lst []))) (s0:S σ0)
  (ha:∀ i ys H,Pv i ys H->H acc=some (.lst ys)) (hst:∀ ys H,Pv n ys H->J.stop n H/\R H) (hgo:∀ i ys H,i<n->Pv i ys H->J.go i H)
  (hs:∀ i ys σ' H x H2,i<n->Pv i ys H->S σ'->J.Nd i H x H2->g x σ' H2 λσ2 H3=>tt σ2 H3 λb H4=>if b=true then te σ2 H4 λy H5=>H5 acc=some (.lst ys)/\ys.length<aW/\∃ m',m'<n-i/\lh n (i+1) S (Pv (i+1)) m' (ys++[y]) σ2 (upd H5 acc (.lst (ys++[y]))) else ∃ m',m'<n-i/\lh n (i+1) S (Pv (i+1)) m' ys σ2 H4) :
  ∃ W:Nat->Nat->List V->St->Hp->Prop,(∃ m,W 0 m [] σ0 (upd H acc (.lst [])))/\∀ i m ys σ' H',W i m ys σ' H'->H' acc=some (.lst ys) /\
  ((J.stop i H'/\R H')\/(J.go i H'/\∀ x H2,J.Nd i H' x H2->g x σ' H2 λσ2 H3=>tt σ2 H3 λb H4 =>
   if b=true then te σ2 H4 λy H5=>H5 acc=some (.lst ys)/\ys.length<aW/\∃ m',m'<m/\W (i+1) m' (ys++[y]) σ2 (upd H5 acc (.lst (ys++[y]))) else ∃ m',m'<m/\W (i+1) m' ys σ2 H4)):=by
 refine ⟨λi m ys σ' H'=>lh n i S (Pv i) m ys σ' H',⟨n,by simp,aO _,s0,h0⟩,?_⟩;rintro i m ys σ' H' ⟨rfl,hi,hS,p⟩;refine ⟨ha i ys H' p,?_⟩
 by_cases hlt:i<n
 .exact .inr ⟨hgo i ys H' hlt p,λx H2 y=>hs i ys σ' H' x H2 hlt p hS y⟩
 .have e:i=n:=by lia
  subst e;exact .inl (hst ys H' p)
structure Q4 (Pv:St->Hp->Prop) (μ:St->Hp->Nat) (m:Nat) (Z:St) (H:Hp):Prop where
 m:m=μ Z H
 p:Pv Z H
def Cu {c:TT}{tb:TS}(Pv:St->Hp->Prop) (μ:St->Hp->Nat) (h0:Pv Z H)
  (hs:∀ Z H,Pv Z H->c Z H λb H1=>if b=true then ∃ N:St->Hp->Prop,(∀ σ' H',N σ' H'->∃ m',m' < μ Z H/\Q4 Pv μ m' σ' H')/\tb { D with nx:=N,ct:=N,bk:=D.nx } Z H1 else D.nx Z H1):Ce c tb D Z H:=by
 refine ⟨Q4 Pv μ,⟨_,rfl,h0⟩,?_⟩;rintro m Z H ⟨rfl,p⟩;exact hs Z H p
def wN (Pv:St->Hp->Prop) (μ:St->Hp->Nat) (b:Nat):St->Hp->Prop:=λZ H=>Pv Z H/\μ Z H<b
def Q5 {Pv:St->Hp->Prop}{μ:St->Hp->Nat} {b:Nat}:∀ σ' H',wN Pv μ b σ' H'->∃ m',m'<b/\Q4 Pv μ m' σ' H':=λσ' H' ⟨p,l⟩=>⟨_,l,rfl,p⟩
section
variable {tb:TE}{t u:TS}{tA:TA}{QT:Bool->Hp->Prop}{QA:List V->Hp->Prop}
def UQ {r r':R2}{tc:TE}(h:ta Z H λx H1=>tb Z H1 λy H2=>r x y H2 λz H3=>∃ k,z=.bl k/\(if k=true then tc Z H3 λw' H4=>r' y w' H4 Q else Q (.bl false) H3)):G8 r r' ta tb tc Z H Q:=h
def x_rU {g:Int->V}(h:Q (g i) H):rU g (.int i) H Q:=⟨i,rfl,h⟩
def Z6 {i j:Bool}(h:Q (.bl (decide (V.bl i=V.bl j))) H):kA K (.bl i) (.bl j) H Q:=.inl ⟨rfl,h⟩
def x_tB (h:te Z H λx H1=>∃ c,x=.bl c/\QT c H1):tB te Z H QT:=h
def Z7 (h:ta Z H λx H1=>Q (.bl (decide (x=.non))) H1):Xs ta Z H Q:=h
def X9 (h:ta Z H λx H1=>Q (.bl (!decide (x=.non))) H1):Nv ta Z H Q:=h
def Ya {R:It->Hp->Prop}(h:tA Z H λvs H1=>∃ j:Int,vs=[.int j]/\-(2^62)<=j/\j<2^62/\R (QG 0 j.toNat) H1):Ad tA Z H R:=h
def Z8 {tb:TS}(h:wi Z H λJ H1=>∃ W:Nat->Nat->St->Hp->Prop,(∃ m,W 0 m Z H1)/\∀ i m Z H,W i m Z H ->
 (J.stop i H/\D.nx Z H)\/(J.go i H/\∃ N:St->Hp->Prop,(∀ σ' H',N σ' H'->∃ m',m'<m/\W (i+1) m' σ' H')/\∀ x H',J.Nd i H x H'->g x Z H' λσ2 H2=>tb { D with nx:=N,ct:=N,bk:=D.nx } σ2 H2)):uJ wi g tb D Z H:=h
def Yb {own:Nat}{js:List Nat}(h:wi Z H λJ H1=>∀ acc,H1 acc=none ->
 ∃ W:Nat->Nat->List V->St->Hp->Prop,(∃ m,W 0 m [] (j5 own none++JM Z js) (upd H1 acc (.lst [])))/\∀ i m ys σ' H',W i m ys σ' H'->H' acc=some (.lst ys) /\
  ((J.stop i H'/\Q (.ref acc) H')\/(J.go i H'/\∀ x H2,J.Nd i H' x H2->g x σ' H2 λσ2 H3=>tt σ2 H3 λb H4 =>
   if b=true then te σ2 H4 λy H5=>H5 acc=some (.lst ys)/\ys.length<aW/\∃ m',m'<m/\W (i+1) m' (ys++[y]) σ2 (upd H5 acc (.lst (ys++[y]))) else ∃ m',m'<m/\W (i+1) m' ys σ2 H4))):kH own js wi g tt te Z H Q:=h
def Z9 {i:Nat}{ti:Xv}(hx:Z[i]?=some (some x)) (h:te Z H λy H1=>ti x y H1 λz H2=>D.nx (Z.set i (some z)) H2):LR i te ti D Z H:=⟨x,hx,h⟩
def Hm {ts:Uc}(h:jq K H a xs) (hn:xs.length=n) (k:ts xs Z H R):LQ K n ts (.ref a) Z H R:=⟨a,xs,rfl,h,hn,k⟩
def UR {gs:Uc}{v:V}{r:List V}(h:g v Z H λσ' H'=>gs r σ' H' R):nq g gs (v::r) Z H R:=⟨v,r,rfl,h⟩
def Yc (h:R Z H):OH [] Z H R:=⟨rfl,h⟩
def Wb {b:af}{zs:List V}(h:H l=some (.lst xs)) (h':H b=some (.lst zs)) (hl:xs.length+zs.length<=aW) (k:∀ p,H p=none->Q (.ref p) (upd H p (.lst (xs++zs)))):d8 (.ref l) (.ref b) H Q:=.inr ⟨l,b,xs,zs,rfl,rfl,h,h',hl,k⟩
def aaa (k:Q (.int (if j<i then j else i)) H):JP [.int i,.int j] H Q:=⟨i,j,rfl,k⟩
def aab (k:Q (.int (if j>i then j else i)) H):NI [.int i,.int j] H Q:=⟨i,j,rfl,k⟩
def JQ {T:String}{t:aj}{b:Bool}(ty:w6 K H x t) (e:lL K t (.type T)=some b) (k:Q (.bl b) H):Mh K [x,.ty T] H Q:=⟨x,T,t,b,rfl,ty,e,k⟩
def Gr {lo hi:Option Int}(h:dm K H a xs) (k:∀ p,H p=none->Q (.ref p) (upd H p (.lst (vY xs lo hi)))):pQ K (.ref a) lo hi H Q:=⟨a,xs,rfl,h,k⟩
def aac {dx dy:PyData}(h1:Rep K H dx x) (h2:Rep K H dy y) (f1:y9 dx) (f2:y9 dy) (k:Q (.bl (dH dx dy)) H):kA K x y H Q:=.inr ⟨dx,dy,h1,h2,f1,f2,k⟩
def Q6 {dx dy:PyData}(h1:Rep K H dx x) (h2:Rep K H dy y) (f1:y9 dx) (f2:y9 dy) (k:Q (.bl (!PyData.eqv dx dy)) H):JO K x y H Q:=.inr ⟨dx,dy,h1,h2,f1,f2,k⟩
def Q7 (h1:Rep K H d x) (h2:Rep K H (.list ds) y) (f1:y9 d) (f2:iB ds=true) (k:Q (.bl (!(ds.any λe=>dH e d))) H):za K true x y H Q:=.inl ⟨d,ds,h1,.inl h2,f1,f2,k⟩
def aad (h1:Rep K H d x) (h2:Rep K H (.list ds) y) (f1:y9 d) (f2:iB ds=true) (k:Q (.bl (ds.any λe=>dH e d)) H):za K false x y H Q:=.inl ⟨d,ds,h1,.inl h2,f1,f2,k⟩
end
def Q8:lL K (.type "int") (.type "int")=some true:=by rfl
def Q9:lL K (.type "int") (.type "bool")=some false:=by rfl
def Yd:lL K (.type "tuple") (.type "tuple")=some true:=by rfl
def bJ.cH (h:H l=none):bJ H (upd H l o):=λb u e=>by rw [aG (aR e h)];exact e
def bf (c:af) (H H':Hp):Prop:=∀ b o,H b=some o->b≠c->H' b=some o
def bf.refl (c:af) (H:Hp):bf c H H:=λ_ _ h _=>h
def bf.trans {H1 H2:Hp}(a:bf c H H1) (b:bf c H1 H2):bf c H H2:=λx o h n=>b x o (a x o h n) n
def bf.same {H':Hp}(e:bJ H H'):bf c H H':=λb o h _=>e b o h
def bf.upd:bf c H (upd H c o):=λb u e n=>by rw [aG n];exact e
def eZ {α:Type} {xs:List α}{j:Nat}{v:α}(hi:i=(j:Int)) (h:xs[j]?=some v):Qi xs i=some v:=by subst hi;exact UI h
def Ra {j:Nat}(hi:i=(j:Int)) (h:j<n):Qh n i=some j:=by
 subst hi;unfold Qh;rw [if_pos (by lia),if_pos (by lia)]
 rfl
def bK (h:n<=m) (hm:m<=100000:=by decide):n<=aW:=br h (br hm (by rw [pJ];decide))
def eT (h:n<m) (hm:m<=100000:=by decide):n<aW:=bj h (br hm (by rw [pJ];decide))
mutual
def l8:PyData->Bool
 | .int _=>true
 | .list xs=>jC xs
 | .tuple xs=>jC xs
 | _=>false
def jC:List PyData->Bool
 | []=>true
 | x::xs=>l8 x && jC xs
end
mutual
theorem um:∀ d:PyData,l8 d=true->d.canLay0=true
 | .int _,_=>by simp [GY]
 | .list xs,h=>by simp only [l8] at h;simp only [GY];exact iX xs h
 | .tuple xs,h=>by simp only [l8] at h;simp only [GY];exact iX xs h
 | .none,h=>by simp [l8] at h
 | .bool _,h=>by simp [l8] at h
 | .str _,h=>by simp [l8] at h
 | .dict _,h=>by simp [l8] at h
theorem iX:∀ ds:List PyData,jC ds=true->iB ds=true
 | [],_=>by simp [iB]
 | d::ds,h=>by
  simp only [jC,hV] at h;simp only [iB,hV];exact ⟨um d h.1,iX ds h.2⟩
end
end L2
namespace L2
open PySem.Calls
open PySem.W (kla_fn kla_obj tabObj CodeHd)
variable {pos:ue}{H:Hp}{params:rJ}{scope:rQ}{X:Cx}
def qk (Pt:af) (H H':Hp):Prop:=∀ b o,b≠Pt->H b=some o->H' b=some o
def rP (Pt:af) (pos:ue) (qual:bB) (H:Hp):Prop :=
 H Pt=some (.tbl #[])\/∃ c' oc vs t,H Pt=some (.tbl #[cw pos.line,cw pos.col,.ref c'])/\H c'=some (.frz oc (.ext λ_=>True))/\oc.data=.fields vs/\vs[1]?=some (rR qual t)
def rP.tbl {Pt:af}{qual:bB}(h:rP Pt pos qual H):∃ ps,H Pt=some (.tbl ps):=by
 rcases h with h|⟨_,_,_,_,h,_⟩
 .exact ⟨_,h⟩
 .exact ⟨_,h⟩
section
variable {pins:List (af×iF)}{Z:St}{s:ax}{c Pt:af}
theorem JR {E:aj->ax->Prop}{Q:aj->ax->Prop}{body:Expr}(I:Inv X pins Z H s) (hcode:X.env.code=.ref c) (C:ik X.base c Pt) (B:X.base.BuiltinsAt X.mg Pt)
  (hdef:defaultsOf params X.env=([],[])) (hfr:∀ n,(n,bL)∈scope.names->∃ c,X.env.cells.lookup n=some c) (hT:rP Pt pos (X.env.qual++"<lambda>") H)
  (h:∀ f c' ctv h' tk H2,Inv X pins Z H2 { s with heap:=h',toks:=tk }->h'.get? f=some (yN "<lambda>" (X.env.qual++"<lambda>") params body scope (oF X.env.cells scope.names []) ((X.mg "__name__").getD .none) c' ctv)->h'.CodeRec (.ref c') (X.env.qual++"<lambda>") ->
   qk Pt H H2->rP Pt pos (X.env.qual++"<lambda>") H2->(∀ b o,b≠Pt->s.heap.get? b=some o->h'.get? b=some o)->Q (.ref f) { s with heap:=h',toks:=tk }) :
  aH (aL X.prog X.w) X.A (fo (.Lambda params body scope pos) X.env) Q E s:=by
 have hg:s.heap.Ns bF X.mg:=I.mod.glob.keeps I.bk;have C1:=C.keeps I.bk
 have B1:s.heap.BuiltinsAt X.mg Pt:=let ⟨bm,o,b1,b2,b3,b4,b5,b6⟩:=B;⟨bm,o,b1,b2,b3,b4,I.bk _ _ b5,b6⟩
 refine PySem.W.kla_eval hdef ?_
 rcases hT with hT|⟨c',oc,vs,t,hT,hc',hd,hv⟩
 .have hP:s.heap.get? Pt=some (Lu #[]):=I.eJ Pt _ hT
  have hgP:bF≠Pt:=λq=>by
   obtain ⟨o,es,ep,e,hd,_⟩:=hg;rw [q,hP] at e;cases e;cases hd
  refine PySem.W.kla_makeFunction (mg:=X.mg) (v7 hfr) I.ok.glob hg hcode C1 hP trivial rfl hgP B1 λc' ctv h' tk hx hge hlt hrec htb=>?_;obtain ⟨c₂,oc,vs,t,e2,hoc,hd,hv⟩:=id hrec;cases e2;have hn:H c'=none:=I.eJ.fresh hge
  have ncP:c'≠Pt:=λq=>by rw [q,hT] at hn;cases hn
  have hL:X.env.locals≠Pt:=λq=>by have:=I.free;rw [q,hT] at this;cases this
  have k:∀ b o,b≠Pt->s.heap.get? b=some o->(h'.push (yN "<lambda>" (X.env.qual++"<lambda>") params body scope (oF X.env.cells scope.names []) ((X.mg "__name__").getD .none) c' ctv)).get? b=some o:=λb o hb e=>ar _ (hx b o hb e);have hP':(h'.push (yN "<lambda>" (X.env.qual++"<lambda>") params body scope (oF X.env.cells scope.names []) ((X.mg "__name__").getD .none) c' ctv)).get? Pt=some (Lu #[cw pos.line,cw pos.col,.ref c']):=ar _ htb;have hoc':(h'.push (yN "<lambda>" (X.env.qual++"<lambda>") params body scope (oF X.env.cells scope.names []) ((X.mg "__name__").getD .none) c' ctv)).get? c'=some oc:=ar _ hoc;have hf:(h'.push (yN "<lambda>" (X.env.qual++"<lambda>") params body scope (oF X.env.cells scope.names []) ((X.mg "__name__").getD .none) c' ctv)).get? h'.objs.size=some (yN "<lambda>" (X.env.qual++"<lambda>") params body scope (oF X.env.cells scope.names []) ((X.mg "__name__").getD .none) c' ctv):=aK _ rfl;generalize h'.push (yN "<lambda>" (X.env.qual++"<lambda>") params body scope (oF X.env.cells scope.names []) ((X.mg "__name__").getD .none) c' ctv)=h2 at k hP' hoc' hf
  have st:∀ b o,b≠Pt->H b=some o->upd (upd H Pt (.tbl #[cw pos.line,cw pos.col,.ref c'])) c' (.frz oc (.ext λ_=>True)) b=some o:=λb o hb e=>by
   rw [aG (aR e hn),aG hb];exact e
  refine h _ c' ctv h2 tk (upd (upd H Pt (.tbl #[cw pos.line,cw pos.col,.ref c'])) c' (.frz oc (.ext λ_=>True))) ?_ hf ⟨c',oc,vs,t,rfl,hoc',hd,hv⟩ st (.inr ⟨c',oc,vs,t,by rw [aG (Ne.symm ncP)];exact aF,aF,hd,hv⟩) k
  have nP:∀ b,H b=none->b≠Pt:=λb e q=>by rw [q,hT] at e;cases e
  refine I.step (g':=s.gens) (d':=s.drawn) (ch:=[]) (λ_ z=>nomatch z) (λb o _ _ _ e n=>k b o (nP b n) e) (λb o _ _ _ e n=>⟨o.slots,k b o (nP b n) e⟩) (λb o _ e n=>?_) (λb o _ e=>?_) (λb xs e=>?_) (λb o u e=>?_)
   (λb ps e=>?_) (λm' hm'=>?_) (λb u e=>?_) I.bare
  .rw [aG (aZ (bj (aJ e) hge)),aG (nP b n)];exact n
  .by_cases hb:b=Pt
   .exact ⟨_,hb▸hP'⟩
   .exact ⟨o,k b o hb e⟩
  .exact st b _ (λq=>by rw [q,hT] at e;cases e) e
  .exact st b _ (λq=>by rw [q,hT] at e;cases e) e
  .by_cases hb:b=Pt
   .subst hb;rw [hT] at e;cases e;exact ⟨#[cw pos.line,cw pos.col,.ref c'],by rw [aG (Ne.symm ncP),aF];simp⟩
   .exact ⟨#[],by rw [st b _ hb e];simp⟩
  .obtain ⟨o,es,ep,e,r⟩:=hm';exact ⟨o,es,ep,k _ o hL e,r⟩
  .by_cases hb:b=c'
   .subst hb;rw [aF] at e;cases e;exact ⟨hoc',trivial,⟨oc,hoc'⟩,λ_ _ _ _=>trivial⟩
   .rw [aG hb] at e
    by_cases hb2:b=Pt
    .subst hb2;rw [aF] at e;cases e;exact hP'
    .rw [aG hb2] at e;refine (I.eJ b u e).uT (λd v hc q=>k d v ?_ q) (λd q=>st d _ (λz=>by rw [z,hT] at q;cases q) q) λd xs q=>st d _ (λz=>by rw [z,hT] at q;cases q) q;rintro rfl
     rcases hc with hc|hc
     .exact hb2 hc.symm
     .rw [hT] at hc;cases hc
 .have hP:s.heap.get? Pt=some (Lu #[cw pos.line,cw pos.col,.ref c']):=I.eJ Pt _ hT;refine PySem.W.kla_makeFunctionHit (mg:=X.mg) (cv:=.ref c') (v7 hfr) I.ok.glob hg hcode C1 hP (by simp [TriplesOk,cw]) (by simp [codeAmong,cw]) B1 λctv h' tk hk hsz=>?_;have k:∀ b o,s.heap.get? b=some o->(h'.push (yN "<lambda>" (X.env.qual++"<lambda>") params body scope (oF X.env.cells scope.names []) ((X.mg "__name__").getD .none) c' ctv)).get? b=some o:=λb o e=>ar _ (hk b o e);refine h h'.objs.size c' ctv _ tk H (I.kept k) (aK _ rfl) ⟨c',oc,vs,t,rfl,k _ _ (I.eJ c' _ hc').1,hd,hv⟩ (λ_ _ _ e=>e) (.inr ⟨c',oc,vs,t,hT,hc',hd,hv⟩) λb o _ e=>k b o e
end
section
variable {c Pt:af}{e:Expr}{tx:TA}{x y:bB}{j:Nat}{p0 p1 p2 p3 lpos kpos:ue}
end
end L2
namespace L2
open PySem.Calls
open PySem.W (tabObj CodeHd noTabs tabIn)
end L2
namespace L2
variable {H H':Hp}{Pt:af}{p:ue}{q:bB}{K:ae}
def Ez.okC {P:bA}{w:cg}{mg:bB->Option aj}{base:cK}{x qual:bB}{st:dF}{f:af}{fd:fN}{N ps:List bB}{k:Nat}{sp:Sp}{lT:aj}(F:Ez K x qual st f fd) (hc:fd.code=lT) (S:bH N ps (aS st)) (len:∀ vs H Q E,sp vs H Q E->vs.length=ps.length)
  (hbody:∀ (A:cL) (outer:List yJ) (s:ax) (H:Hp) (vs:List V) (Q:VK) (E:XK),gZ k (A.deeper (lM qual (aS st) s.heap.objs.size f lT))->sp vs H Q E ->
   ∃ t,IT (lH wM P w K mg base N qual (aS st) f lT A outer s H E).W4 (jM st) t/\t { nx:=λ_ H'=>Q .non H',rt:=Q } (start N vs) H):jr P w K mg base wM (k+1) f fd ps sp:=by
 obtain ⟨oc,od,kV,doc,pm,an,cdv',ct,osl,rfl,lk,hcd⟩:=F.ex;have e:cdv'=lT:=hc;subst e;refine QP lk hcd S len λA outer s H vs Q E hr hsp=>?_;obtain ⟨t,h,q⟩:=hbody A outer s H vs Q E hr hsp;exact ⟨t,h.W4,q⟩
def rP.same (h:rP Pt p q H) (e:bJ H H'):rP Pt p q H':=by
 rcases h with h|⟨c',oc,vs,t,h1,h2,h3,h4⟩
 .exact .inl (e _ _ h)
 .exact .inr ⟨c',oc,vs,t,e _ _ h1,e _ _ h2,h3,h4⟩
def qk.tup (S:qk Pt H H') (L:rP Pt p q H) {b:af}{xs:List V}(e:H b=some (.tup xs)):H' b=some (.tup xs):=by
 obtain ⟨ps,h⟩:=L.tbl;exact S b _ (λz=>by rw [z,h] at e;cases e) e
def qk.free (S:qk Pt H H') (L':rP Pt p q H') {b:af}(e:H' b=none):H b=none:=by
 cases h:H b with
 | none=>rfl
 | some o =>
  obtain ⟨ps,ht⟩:=L'.tbl;rw [S b o (λz=>by rw [z,ht] at e;cases e) h] at e;cases e
section
variable {Z:St}{Q:VK}
theorem qD {σ0:St}{g:TG}{tt:TT}{te:TE}{z acc:af}{xs:List V}{R:Hp->Prop}{α:Type} (items:List α) (p:α->Bool) (f:α->V) (S:St->Prop) (hlen:items.length=xs.length) (hz:dm K H z xs) (ha:H acc=none) (s0:S σ0) (hs:xs.length<=100000)
  (turn:∀ (i:Nat) (a:α) (x:V) (σ':St) (H':Hp) (G:V->St->Hp->Prop) (G':St->Hp->Prop),items[i]?=some a->xs[i]?=some x->bJ H H'->S σ'->(p a=true->∀ σ2,S σ2->G (f a) σ2 H')->(p a=false->∀ σ2,S σ2->G' σ2 H') ->
   g x σ' H' λσ2 H3=>tt σ2 H3 λb H4=>if b=true then te σ2 H4 λy H5=>G y σ2 H5 else G' σ2 H4)
  (fin:∀ H',bJ H H'->H' acc=some (.lst ((items.filter p).map f))->R H') :
  ∃ W:Nat->Nat->List V->St->Hp->Prop,(∃ m,W 0 m [] σ0 (upd H acc (.lst [])))/\∀ i m ys σ' H',W i m ys σ' H'->H' acc=some (.lst ys) /\
  (((Qg K z).stop i H'/\R H')\/((Qg K z).go i H'/\∀ x H2,(Qg K z).Nd i H' x H2->g x σ' H2 λσ2 H3=>tt σ2 H3 λb H4 =>
   if b=true then te σ2 H4 λy H5=>H5 acc=some (.lst ys)/\ys.length<aW/\∃ m',m'<m/\W (i+1) m' (ys++[y]) σ2 (upd H5 acc (.lst (ys++[y]))) else ∃ m',m'<m/\W (i+1) m' ys σ2 H4)):=by
 refine nF (n:=xs.length) (λi ys H'=>ys=((items.take i).filter p).map f/\H' acc=some (.lst ys)/\bJ H H') S ⟨by simp,aF,bJ.cH ha⟩ s0 ?_ ?_ ?_ ?_
 .rintro i ys H' ⟨_,h,_⟩;exact h
 .rintro ys H' ⟨e,h,S'⟩;refine ⟨⟨_,S'.seq hz,au _⟩,fin H' S' ?_⟩;rw [h,e,cf (by lia)]
 .rintro i ys H' hi ⟨e,h,S'⟩;exact ⟨_,_,S'.seq hz,aA hi⟩
 .rintro i ys σ' H' x H2 hi ⟨e,h,S'⟩ hσ ⟨e2,hx⟩;subst e2;have hxi:=hx _ (S'.seq hz)
  obtain ⟨a,hai⟩:∃ a,items[i]?=some a:=⟨_,aA (by lia)⟩
  have et:items.take (i+1)=items.take i++[a]:=by rw [eN,hai];rfl
  refine turn i a x σ' H2 _ _ hai hxi S' hσ (λhp σ2 h2=>?_) λhp σ2 h2=>?_
  .refine ⟨h,bw (m:=i) ?_ (bj hi (bK hs)),lh.mk' hi h2 ⟨?_,aF,λb o q=>by rw [aG (aR q ha)];exact S' _ _ q⟩⟩
   .rw [e,ag];exact br (dM _ _) (by rw [bM];lia)
   .rw [et,e,ff,a9];simp [hp]
  .refine lh.mk' hi h2 ⟨?_,h,S'⟩;rw [et,e,ff,a9];simp [hp]
theorem qF:∀ ns:List Int,jC (ns.map .int)=true
 | []=>rfl
 | n::ns=>by simp only [aV,jC,hV];exact ⟨by simp [l8],qF ns⟩
theorem Cv:∀ ns:List Int,fD (ns.map .int)<=1
 | []=>by simp [fD]
 | n::ns=>by
  have:=Cv ns;simp only [aV,fD]
  have e:(Qp n).depth<=1:=by simp [lU]
  lia
def uo (ns:List Int):y9 (.list (ns.map .int)):=⟨um _ (by simp only [l8];exact qF ns),by have:=Cv ns;simp only [lU];lia⟩
theorem Al:∀ ns ms:List Int,ni (ns.map .int) (ms.map .int)=decide (ns=ms)
 | [],[]=>by simp [ni]
 | [],_::_=>by simp [ni]
 | _::_,[]=>by simp [ni]
 | n::ns,m::ms=>by
  simp only [aV,ni,Al ns ms,Qq];rw [iG];simp [dH]
def JS (ns ms:List Int):dH (.list (ns.map .int)) (.list (ms.map .int))=decide (ns=ms):=by
 simp only [dH];exact Al ns ms
def sE {a:af}{ns:List Int}(h:dm K H a (ns.map V.int)):Rep K H (.list (ns.map .int)) (.ref a):=.lst h (e9.ints ns)
end
end L2
namespace BootT
open PySem
def sum:dh "sum"=some (.builtin "sum"):=by decide +kernel
def zip:dh "zip"=some (.type "zip"):=by decide +kernel
def set:dh "set"=some (.type "set"):=by decide +kernel
end BootT
namespace L2
open PySem PySem.Spec PyProof.Rows PySem.SeqAt
section
variable {X:Cx}
def Rb (K:ae):V->List V->Hp->VK->Prop:=λx vs H Q=>∃ (l:af) (ns:List Int) (k:Int),x=.ref l/\vs=[.int k]/\dm K H l (ns.map V.int)/\k∈ns/\Q (.int (ns.idxOf k:Nat)) H
def Rc:VE X "list.index" (Rb X.K):=by
 intro pins s Z H x vs v us Q I rx rv h;obtain ⟨l,ns,k,rfl,rfl,hq,hk,q⟩:=h;cases rx;obtain ⟨u,rfl,t,rfl⟩:=rv.one;obtain ⟨its,r,pl,hz⟩:=I.list hq;have hi:eW its ns:=intsAre_of r;have hlen:=hi.length;have hl2:=r.length;have hj:ns.idxOf k<ns.length:=gf.mpr hk;have h63:=qB;rw [ag] at hz hl2;obtain ⟨⟨cls,dd,data,sl⟩,ho,hc,n,hd⟩:=pl.isList;simp only at hc hd;subst hc hd
 refine call_meets gv ⟨_,ho,rfl⟩ Jc (GZ _ _)
  (list_indexAt l its.toArray n dd sl (.int k t) (isInt k) (ns.idxOf k) (by rw [aI];lia) (by lia) ?_ ?_) ⟨ho,λy hy=>(eq_isInt k t hi y (by simpa using hy)).at _ _,⟨.int _,H,I.tok _,⟨_,rfl⟩,q⟩⟩
 .show isInt k its[ns.idxOf k]=true
  rw [isInt_at k hi _ (by lia) hj]
  simpa using AY hj
 .intro j hjs hlt
  show isInt k its[j]=false
  rw [isInt_at k hi j (by simpa using hjs) (by lia)];exact ne_of_lt_idxOf hlt _
def NJ (K:ae):V->List V->Hp->VK->Prop:=λx vs H Q=>∃ (l:af) (y:V) (ds:List PyData) (d:PyData) (j:Nat) (ej:PyData),x=.ref l/\vs=[y]/\Rep K H (.list ds) (.ref l)/\Rep K H d y/\y9 d/\iB ds=true /\
 ds.length<=aW/\ds[j]?=some ej/\dH ej d=true/\(∀ m e,m<j->ds[m]?=some e->dH e d=false)/\Q (.int (j:Nat)) H
def OX (hu:X.A.units+64<ip):VE X "list.index" (NJ X.K):=by
 intro pins s Z H x vs v us Q I rx rv h;obtain ⟨l,y,ds,d,j,ej,rfl,rfl,hR,hd,hf,hc,hz,hj,he,hno,q⟩:=h;cases rx;obtain ⟨u,rfl,ru⟩:=rv.one;obtain ⟨as,r1⟩:=Rep.reads I _ _ _ hR rfl;obtain ⟨bs,r2⟩:=Rep.reads I d y u hd ru;have h63:=qB;have hdep:=hf.dep;have hjl:j<ds.length:=(aC.mp hj).1
 cases r1 with
 | @list _ o items n _ as2 h1 h2 h3 h4 =>
  obtain ⟨cls,dd,data,sl⟩:=o;have h2':cls=_:=h2;have h3':data=_:=h3;subst h2' h3';have hm:=readsAll_map _ _ _ hc h4
  have hsz:items.size=ds.length:=by rw [← hm,ag,aM]
  have at_:∀ (m:Nat) (hm':m<items.size) (e:PyData),ds[m]?=some e->readOf s.heap items[m]=e:=λm hm' e z=>by
   rw [← hm,aB,dJ,b9 hm'] at z;exact aU z
  refine call_meets gv ⟨_,h1,rfl⟩ Jc (GZ _ _)
   (list_indexAt l items n dd sl u (λy=>dH (readOf s.heap y) d) j (by lia) (by lia) ?_ ?_) ⟨h1,items_eqAt h4 r2 hc hf.lay (by lia),⟨.int _,H,I.tok _,⟨_,rfl⟩,q⟩⟩
  .show dH (readOf s.heap items[j]) d=true
   rw [at_ j (by lia) _ hj];exact he
  .intro m hm' hlt
   obtain ⟨e,z⟩:∃ e,ds[m]?=some e:=⟨_,aA (by lia)⟩
   show dH (readOf s.heap items[m]) d=false
   rw [at_ m hm' e z];exact hno m e hlt z
def VE.or {id:String}{r r':V->List V->Hp->VK->Prop}(h:VE X id r) (h':VE X id r'):VE X id (λx vs H Q=>r x vs H Q\/r' x vs H Q):=by
 intro pins s Z H x vs v us Q I rx rv z
 rcases z with z|z
 .exact h pins s Z H x vs v us Q I rx rv z
 .exact h' pins s Z H x vs v us Q I rx rv z
def qG (K:ae):V->List V->Hp->VK->Prop:=λx vs H Q=>Rb K x vs H Q\/NJ K x vs H Q
def uq (hu:X.A.units+64<ip):VE X "list.index" (qG X.K):=Rc.or (OX hu)
variable {tg:Expr}
def NK {K:ae}{l:af}{ns:List Int}{k:Int}{H:Hp}{Q:VK}(h:dm K H l (ns.map V.int)) (hk:k∈ns) (q:Q (.int (ns.idxOf k:Nat)) H):qG K (.ref l) [.int k] H Q:=.inl ⟨l,ns,k,rfl,rfl,h,hk,q⟩
end
end L2
namespace L2
variable {n j:Nat}{v:Int}{σ0:St}{g:TG}{te:TE}{acc:af}{R:Hp->Prop}{K:ae}{H:Hp}{Q:VK}
def Wc:List V->Hp->VK->Prop:=λxs H Q=>(∃ i,xs=[.int i]/\Q (.int i) H)\/∃ k,xs=[.bl k]/\Q (.int (if k then 1 else 0)) H
section
variable {a:af}{xs:List V}{ns:List Int}{i i':Int}{j':Nat}
def Hn {d:Nat}(h:i=(j:Int)):HT.lY n d (some i)=min j n:=by subst h;exact HT.UH n d j
def JT (h:i=(j:Int)):vY xs (some i) none=xs.drop j:=by
 unfold vY;rw [Hn h,HT.JH]
 by_cases e:j<=xs.length
 .rw [vV e,cf (by rw [cY];lia)]
 .rw [FU (by lia),mH (au _),mH (by lia)];simp
def wb (h:i=(j:Int)):vY xs none (some i)=xs.take j:=by
 unfold vY;rw [Hn h,HT.JH,Jr,Nat.sub_zero]
 by_cases e:j<=xs.length
 .rw [vV e]
 .rw [FU (by lia),cf (au _),cf (by lia)]
def NL (h:i=(j:Int)) (h':i'=(j':Int)):vY xs (some i) (some i')=(xs.drop j).take (j'-j):=by
 unfold vY;rw [Hn h,Hn h']
 by_cases e:j<=xs.length
 .rw [vV e]
  by_cases e':j'<=xs.length
  .rw [vV e']
  .rw [FU (by lia),cf (by rw [cY];lia),cf (by rw [cY];lia)]
 .rw [mH (show xs.length<=min j xs.length by lia),mH (show xs.length<=j by lia)];simp
def xn (h:dm K H a (ns.map V.int)) (e:i=(j:Int)) (k:∀ p,H p=none->Q (.ref p) (upd H p (.lst ((ns.drop j).map V.int)))):pQ K (.ref a) (some i) none H Q :=
 Gr h λp hp=>by rw [JT e,← z9];exact k p hp
def Re (h:dm K H a (ns.map V.int)) (e:i=(j:Int)) (k:∀ p,H p=none->Q (.ref p) (upd H p (.lst ((ns.take j).map V.int)))):pQ K (.ref a) none (some i) H Q :=
 Gr h λp hp=>by rw [wb e,← jI];exact k p hp
def NM (h:dm K H a (ns.map V.int)) (e:i=(j:Int)) (e':i'=(j':Int)) (k:∀ p,H p=none->Q (.ref p) (upd H p (.lst (((ns.drop j).take (j'-j)).map V.int)))):pQ K (.ref a) (some i) (some i') H Q :=
 Gr h λp hp=>by rw [NL e e',← z9,← jI];exact k p hp
def Ho {l b:af}{ms:List Int}(h:H l=some (.lst (ns.map V.int))) (h':H b=some (.lst (ms.map V.int))) (hl:ns.length+ms.length<=100000) (k:∀ p,H p=none->Q (.ref p) (upd H p (.lst ((ns++ms).map V.int)))):d8 (.ref l) (.ref b) H Q :=
 Wb h h' (by rw [ag,ag];exact bK hl) λp hp=>by rw [← a9];exact k p hp
def US (h:ns[j]?=some v):(ns.map V.int)[j]?=some (.int v):=by rw [aB,h];rfl
def JU (h:dm K H a (ns.map V.int)) (e:i=(j:Int)) (g:ns[j]?=some v) (k:Q (.int v) H):dS K (.ref a) (.int i) H Q:=mO h (eZ e (US g)) k
def Rg (h:dm K H a (ns.map V.int)) (k:Q (.int ns.length) H):v8 K [.ref a] H Q:=qC h (by rw [ag];exact k)
end
section
variable {Z:St}
theorem Rh {J:It}(E:Nat->V->Hp->Prop) (X:Nat->V->Prop) (S:St->Prop) (ha:H acc=none) (s0:S σ0) (hn:n<=100000)
  (hgo:∀ i H',bJ H H'->i<n->J.go i H') (hstop:∀ H',bJ H H'->J.stop n H') (hy:∀ i H' x H2,bJ H H'->i<n->J.Nd i H' x H2->H2=H'/\X i x)
  (st:∀ i y H1 H2 zs,H1 acc=some (.lst zs)->bf acc H1 H2->E i y H1->E i y H2)
  (turn:∀ (i:Nat) (x:V) (σ':St) (H':Hp) (G:V->St->Hp->Prop),i<n->X i x->bJ H H'->S σ'->(∀ y σ2 H5,S σ2->bJ H' H5->E i y H5->G y σ2 H5)->g x σ' H' λσ2 H3=>te σ2 H3 λy H5=>G y σ2 H5)
  (fin:∀ ys H',ys.length=n->H' acc=some (.lst ys)->bJ H H'->(∀ i y,ys[i]?=some y->E i y H')->R H') :
  ∃ W:Nat->Nat->List V->St->Hp->Prop,(∃ m,W 0 m [] σ0 (upd H acc (.lst [])))/\∀ i m ys σ' H',W i m ys σ' H'->H' acc=some (.lst ys) /\
  ((J.stop i H'/\R H')\/(J.go i H'/\∀ x H2,J.Nd i H' x H2->g x σ' H2 λσ2 H3=>xk σ2 H3 λb H4 =>
   if b=true then te σ2 H4 λy H5=>H5 acc=some (.lst ys)/\ys.length<aW/\∃ m',m'<m/\W (i+1) m' (ys++[y]) σ2 (upd H5 acc (.lst (ys++[y]))) else ∃ m',m'<m/\W (i+1) m' ys σ2 H4)):=by
 refine nF (n:=n) (tt:=xk) (λi ys H'=>ys.length=i/\H' acc=some (.lst ys)/\bJ H H'/\∀ j y,ys[j]?=some y->E j y H') S ⟨rfl,aF,bJ.cH ha,λj y e=>by simp at e⟩ s0 ?_ ?_ ?_ ?_
 .rintro i ys H' ⟨_,h,_⟩;exact h
 .rintro ys H' ⟨e,h,S',hE⟩;exact ⟨hstop H' S',fin ys H' e h S' hE⟩
 .rintro i ys H' hi ⟨e,h,S',hE⟩;exact hgo i H' S' hi
 .rintro i ys σ' H' x H2 hi ⟨e,h,S',hE⟩ hσ hyl;obtain ⟨rfl,hX⟩:=hy i H' x H2 S' hi hyl;have z:=turn i x σ' H2 (λy σ2 H5=>H5 acc=some (.lst ys)/\ys.length<aW/\∃ m',m'<n-i/\lh n (i+1) S (λys H'=>ys.length=i+1/\H' acc=some (.lst ys)/\bJ H H'/\∀ j y,ys[j]?=some y->E j y H') m' (ys++[y]) σ2 (upd H5 acc (.lst (ys++[y])))) hi hX S' hσ ?_
  .exact z
  .intro y σ2 H5 h2 S5 hE5;refine ⟨S5 _ _ h,eT (m:=100000) (by lia),lh.mk' hi h2 ⟨by rw [bb,e];rfl,aF,λb o q=>by rw [aG (aR q ha)];exact S5 _ _ (S' _ _ q),λj v hv=>?_⟩⟩;have hb:bf acc H5 (upd H5 acc (.lst (ys++[y]))):=bf.upd
   by_cases hj:j<ys.length
   .rw [fO hj] at hv;exact st j v _ _ _ (S5 _ _ h) hb (st j v _ _ _ h (bf.same S5) (hE j v hv))
   .rw [dW (by lia)] at hv
    have ej:j=i:=by
     by_cases z:j-ys.length=0
     .lia
     .rw [dN (by simp;lia)] at hv;cases hv
    subst ej;rw [e,Nat.sub_self] at hv
    have ev:y=v:=by simpa using hv
    subst ev;exact st j y _ _ _ (S5 _ _ h) hb hE5
def Ri {lo:Int}(E:Nat->V->Hp->Prop) (S:St->Prop) (ha:H acc=none) (s0:S σ0) (hn:n<=100000)
  (st:∀ i y H1 H2 zs,H1 acc=some (.lst zs)->bf acc H1 H2->E i y H1->E i y H2)
  (turn:∀ (i:Nat) (σ':St) (H':Hp) (G:V->St->Hp->Prop),i<n->bJ H H'->S σ'->(∀ y σ2 H5,S σ2->bJ H' H5->E i y H5->G y σ2 H5)->g (.int (lo+i)) σ' H' λσ2 H3=>te σ2 H3 λy H5=>G y σ2 H5)
  (fin:∀ ys H',ys.length=n->H' acc=some (.lst ys)->bJ H H'->(∀ i y,ys[i]?=some y->E i y H')->R H') :
  ∃ W:Nat->Nat->List V->St->Hp->Prop,(∃ m,W 0 m [] σ0 (upd H acc (.lst [])))/\∀ i m ys σ' H',W i m ys σ' H'->H' acc=some (.lst ys) /\
  (((QG lo n).stop i H'/\R H')\/((QG lo n).go i H'/\∀ x H2,(QG lo n).Nd i H' x H2->g x σ' H2 λσ2 H3=>xk σ2 H3 λb H4 =>
   if b=true then te σ2 H4 λy H5=>H5 acc=some (.lst ys)/\ys.length<aW/\∃ m',m'<m/\W (i+1) m' (ys++[y]) σ2 (upd H5 acc (.lst (ys++[y]))) else ∃ m',m'<m/\W (i+1) m' ys σ2 H4)) :=
 Rh E (λi x=>x=.int (lo+i)) S ha s0 hn (λi H' _ h=>h) (λH' _=>au n) (λi H' x H2 _ _ h=>h) st (λi x σ' H' G hi hX S' hσ k=>by subst hX;exact turn i σ' H' G hi S' hσ k) fin
end
end L2
namespace Sx
open PySem.W
variable {n:Nat}{k:Nat->Int}
end Sx
namespace L2
open PySem.W
variable {X:Cx}{h:cK}{a:af}{m:bB->Option aj}{w:cg}{H:Hp}{o:HO}{s:ax}
def Ye {m':bB->Option aj}(x:h.Ns a m) (y:h.Ns a m'):m=m':=by
 obtain ⟨o,es,ep,e,d,_,r⟩:=x;obtain ⟨o',es',ep',e',d',_,r'⟩:=y;rw [e] at e';cases e';rw [d] at d';cases d'
 funext n
 rw [← r n,← r' n]
def eU.obj {P:bA}(x:eU P w H h a o):∃ ob,h.get? a=some ob:=by
 cases o with
 | lst xs=>obtain ⟨_,_,_,_,e⟩:=x;exact ⟨_,e⟩
 | tup xs=>obtain ⟨_,_,_,ob,e,_⟩:=x;exact ⟨_,e⟩
 | dK kvs=>obtain ⟨_,_,_,_,ob,_,_,e,_⟩:=x;exact ⟨_,e⟩
 | dT kvs=>obtain ⟨_,_,_,_,ob,_,_,e,_⟩:=x;exact ⟨_,e⟩
 | set S n=>obtain ⟨ob,_,_,_,e,_⟩:=x;exact ⟨_,e⟩
 | ins C dx fs=>obtain ⟨_,_,_,e,_⟩:=x;exact ⟨_,e⟩
 | own y=>exact x
 | xd fs=>obtain ⟨_,⟨ob,_,_,e,_⟩,_⟩:=x;exact ⟨_,e⟩
 | rng lo hi=>obtain ⟨_,_,_,e⟩:=x;exact ⟨_,e⟩
 | frz ob u=>exact ⟨_,x.1⟩
 | tbl ps=>exact ⟨_,x⟩
 | met f y=>exact ⟨_,x⟩
 | ext φ=>exact x.2.1
section
variable {pins:List (af×iF)}{Z:St}
theorem Inv.TJ {h':cK}{t':Nat}{D:af}{ob:iF}(I:Inv X pins Z H s) (hm:s.heap.Ns X.env.locals m) (F:Fr X.base X.env.locals h' m)
  (N:News X.base X.env.locals h' ((D,ob)::uh X.base s.heap X.env.locals)) (hD:∀ q∈uh X.base s.heap X.env.locals,q.1<D) (new:eU X.prog X.w (upd H D o) h' D o):H D=none/\Inv X pins Z (upd H D o) { s with heap:=h',toks:=t' }:=by
 have nd:=N (D,ob) aw
 have gD:s.heap.get? D=none:=by
  cases q:s.heap.get? D with
  | none=>rfl
  | some u=>exact absurd (hD (D,u) (Aa nd.2.1 nd.2.2 q)) (fA _)
 have hn:H D=none:=by
  cases q:H D with
  | none=>rfl
  | some u =>
   obtain ⟨w,e⟩:∃ w,s.heap.get? D=some w:=(I.eJ D u q).obj;rw [gD] at e;cases e
 have k:∀ b o,b≠X.env.locals->s.heap.get? b=some o->h'.get? b=some o:=λb o h1 e=>by
  cases q:X.base.get? b with
  | some u =>
   have z:=I.bk b u q;rw [e] at z;cases z
   exact F.keep b _ q
  | none=>exact (N (b,o) (ai _ (Aa h1 q e))).1
 have nD:∀ b o,s.heap.get? b=some o->b≠D:=λb o e z=>by rw [z,gD] at e;cases e
 have hH:∀ b u,H b=some u->b≠D:=λb u e=>aR e hn
 refine ⟨hn,I.step (g':=s.gens) (d':=s.drawn) (ch:=[]) (λ_ z=>nomatch z) (λb o h1 _ _ e _=>k b o h1 e) (λb o h1 _ _ e _=>⟨o.slots,k b o h1 e⟩) (λb o _ e n=>by rw [aG (nD b o e)];exact n) (λb o _ e=>?_)
  (λb _ e=>by rw [aG (hH b _ e)];exact e) (λb _ _ e=>by rw [aG (hH b _ e)];exact e) (λb ps e=>⟨#[],by rw [aG (hH b _ e),e];simp⟩) (λm' hm'=>by rw [← Ye hm hm'];exact F.ns) (λb u e=>?_) I.bare⟩
 .by_cases hb:b=X.env.locals
  .subst hb;obtain ⟨o',_,_,e',_⟩:=F.ns;exact ⟨o',e'⟩
  .exact ⟨o,k b o hb e⟩
 .by_cases hb:b=D
  .subst hb;rw [aF] at e;cases e;exact new
  .rw [aG hb] at e
   refine (I.eJ b u e).uT (λc v hc q=>k c v ?_ q) (λc q=>by rw [aG (hH c _ q)];exact q) λc _ q=>by rw [aG (hH c _ q)];exact q
   rintro rfl
   rcases hc with hc|hc
   .rw [← hc,I.free] at e;cases e
   .rw [I.free] at hc;cases hc
end
theorem JV {α:Type} {p q:α->Bool}:∀ {l:List α}{x:α},(∀ y∈l,p y=true->q y=true)->x∈l->p x=false->q x=true->l.countP p<l.countP q
 | y::l,x,h,hx,h1,h2=>by
  have hl:∀ y∈l,p y=true->q y=true:=λy hy=>h y (ai _ hy);have hle:l.countP p<=l.countP q:=PQ hl;rw [W8,W8]
  rcases aq.mp hx with e|hx
  .subst e;rw [h1,h2];simp;lia
  .have hlt:=JV hl hx h1 h2
   by_cases hp:p y=true
   .rw [if_pos hp,if_pos (h y aw hp)];lia
   .rw [if_neg hp];lia
abbrev Zt:=Int×Int×af
def zP (z:Zt):Int×Int:=(z.1,z.2.1)
def fV (z:Zt):V:=.ref z.2.2
def iY (H:Hp) (z:Zt):Prop:=H z.2.2=some (.tup [.int z.1,.int z.2.1])
section
variable {prog:bA}{A:cL}
end
theorem Gs:∀ zs:List Zt,Vals (zs.map fV) (zs.map λz=>aD z.2.2)
 | []=>.nil
 | z::zs=>.cons rfl (Gs zs)
end L2
namespace Zl
open PySem.W
variable {T S:af}{f:Bool}{oT:iF}{n:Nat}{Q:Bool->ax->Prop}{R:VL->ax->Prop}
section
variable {prog:bA}{w:cg}{A:cL}{E:aj->ax->Prop}{s:ax}{z TI TO i1 i2 l1 l2:af}{xs ys:Array aj}{k:Nat}
abbrev Cw (h:cK) (z TI TO T:af) (f:Bool):Prop:=h.get? z=some { cls:=.type "zip",dict:=none,data:=.fields #[cw T,.bool f,.bool false,.ref TI,.ref TO],slots:=#[] }
def JW (hz:Cw s.heap z TI TO T f) (hT:s.heap.get? T=some oT)
  (hQ:∀ h',Cw h' z TI TO T true->gY z s.heap h'->Q false { s with heap:=h' }):aH (aL prog w) A (fX (.ref z)) Q E s:=by
 unfold fX;refine aa (kR hz rfl (x:=cw T) rfl ?_);unfold cw;dsimp only;refine aa (kdx_alive (a:=T) hT ?_);simp only [Qr,bY,if_false];refine aa (kR hz rfl (x:=.bool f) rfl ?_)
 cases f with
 | true =>
  rw [if_neg (by decide)]
  exact ak (hQ s.heap hz ⟨rfl,λb hb=>rfl⟩)
 | false =>
  rw [if_pos (by decide)];exact aa (wpAny_setField_rec hz (by simp) λh' hz' hs'=>ak (hQ h' hz' hs'))
theorem Rj {x y:aj}{Q:aj->ax->Prop}(D:Bu z TI TO i1 i2 l1 l2) (hz:Cw s.heap z TI TO T f) (hT:s.heap.get? T=some oT) (hTI:u6 s.heap TI (.ref i1) (.ref i2))
  (h1:s.heap.IsListIter i1 l1 k) (h2:s.heap.IsListIter i2 l2 k) (hl1:s.heap.IsList l1 xs) (hl2:s.heap.IsList l2 ys) (hx:xs[k]?=some x) (hy:ys[k]?=some y)
  (hQ:∀ h',Cw h' z TI TO T true->h'.IsListIter i1 l1 (k+1)->h'.IsListIter i2 l2 (k+1)->u6 h' s.heap.objs.size x y ->
   (∀ c o,c≠z->c≠i1->c≠i2->s.heap.get? c=some o->h'.get? c=some o)->Q (.ref s.heap.objs.size) { s with heap:=h' }) :
  aH (aL prog w) A (ij.«zip.__next__» ⟨[.ref z],[]⟩) (λfin s'=>∃ v,fin=.done (.ret v)/\Q v s') E s:=by
 show aH _ _ (field (.ref z) 2 >>= _) _ _ _
 refine aa (kR hz rfl (x:=.bool false) rfl ?_)
 show aH _ _ (field (.ref z) 3 >>= _) _ _ _
 refine aa (kR hz rfl (x:=.ref TI) rfl (aa (wpAny_seqItems hTI rfl ?_)))
 show aH _ _ (fX (.ref z) >>= _) _ _ _
 refine aa (JW hz hT λh₀ z₀ s₀=>?_);simp only [bY,if_false];refine aa ?_;rw [← TX];simp only [uZ,Js];refine aa (aa (cq ?_))
 show aH _ _ (jl (.ref i1) >>= _) _ _ _
 refine aa (yO (s:={ s with heap:=h₀ }) (h1.extBut s₀.extBut D.i1z) (hl1.extBut s₀.extBut D.l1z) hx λh₁ j₁ s₁=>ak (ak ?_));refine aa (aa (cq ?_))
 show aH _ _ (jl (.ref i2) >>= _) _ _ _
 refine aa (yO (s:={ s with heap:=h₁ }) ((h2.extBut s₀.extBut D.i2z).extBut s₁.extBut D.i12.symm) ((hl2.extBut s₀.extBut D.l2z).extBut s₁.extBut D.l2i1) hy λh₂ j₂ s₂=>ak (ak (ak ?_)))
 have sz:h₂.objs.size=s.heap.objs.size:=by rw [s₂.1,s₁.1,s₀.1]
 have zz:Cw h₂ z TI TO T true:=s₂.extBut _ _ D.i2z.symm (s₁.extBut _ _ D.i1z.symm z₀);have kp:∀ c o,c≠z->c≠i1->c≠i2->s.heap.get? c=some o->h₂.get? c=some o:=λc o c1 c2 c3 e=>s₂.extBut _ _ c3 (s₁.extBut _ _ c2 (s₀.extBut _ _ c1 e));refine aa (Bw ?_ (by show 2<=aW;exact L2.bK (m:=2) (au 2)));refine ak ⟨_,rfl,?_⟩
 show Q (.ref h₂.objs.size) { s with heap:=h₂.push { cls:=.type "tuple",data:=.seq #[x,y] } }
 rw [sz];refine hQ _ (ar _ zz) ((Heap.IsListIter.extBut j₁ s₂.extBut D.i12).at λo e=>ar _ e) (j₂.at λo e=>ar _ e) (by rw [← sz];exact aK _ rfl) λc o c1 c2 c3 e=>ar _ (kp c o c1 c2 c3 e)
def UT {Q:LK->ax->Prop}(hh:A.handled=none) (D:Bu z TI TO i1 i2 l1 l2) (hz:Cw s.heap z TI TO T f) (hT:s.heap.get? T=some oT) (hTI:u6 s.heap TI (.ref i1) (.ref i2))
  (h1:s.heap.IsListIter i1 l1 k) (h2:s.heap.IsListIter i2 l2 k) (hl1:s.heap.IsList l1 xs) (hl2:s.heap.IsList l2 ys) (hend:xs[k]?=none\/ys[k]?=none)
  (hE:∀ h' e,(∀ c o,c≠z->c≠i1->c≠i2->s.heap.get? c=some o->h'.get? c=some o)->(∃ o,h'.get? e=some o/\o.cls=.type "StopIteration")->E (.ref e) { s with heap:=h' }) :
  aH (aL prog w) A (ij.«zip.__next__» ⟨[.ref z],[]⟩) Q E s:=by
 show aH _ _ (field (.ref z) 2 >>= _) _ _ _
 refine aa (kR hz rfl (x:=.bool false) rfl ?_)
 show aH _ _ (field (.ref z) 3 >>= _) _ _ _
 refine aa (kR hz rfl (x:=.ref TI) rfl (aa (wpAny_seqItems hTI rfl ?_)))
 show aH _ _ (fX (.ref z) >>= _) _ _ _
 refine aa (JW hz hT λh₀ z₀ s₀=>?_);simp only [bY,if_false];refine aa ?_;rw [← TX];simp only [uZ,Js];refine aa (aa (cq ?_))
 show aH _ _ (jl (.ref i1) >>= _) _ _ _
 cases hx:xs[k]? with
 | none=>exact aa (W9 (s:={ s with heap:=h₀ }) hh (h1.extBut s₀.extBut D.i1z) (hl1.extBut s₀.extBut D.l1z) hx λh₁ e s₁ he=>hE h₁ e (λc o c1 c2 c3 q=>s₁ _ _ c2 (s₀.extBut _ _ c1 q)) he)
 | some x =>
  have hy:ys[k]?=none:=by rcases hend with q|q;rw [hx] at q;cases q;exact q
  refine aa (yO (s:={ s with heap:=h₀ }) (h1.extBut s₀.extBut D.i1z) (hl1.extBut s₀.extBut D.l1z) hx λh₁ j₁ s₁=>ak (ak ?_));refine aa (aa (cq ?_))
  show aH _ _ (jl (.ref i2) >>= _) _ _ _
  exact aa (W9 (s:={ s with heap:=h₁ }) hh ((h2.extBut s₀.extBut D.i2z).extBut s₁.extBut D.i12.symm) ((hl2.extBut s₀.extBut D.l2z).extBut s₁.extBut D.l2i1) hy λh₂ e s₂ he =>
   hE h₂ e (λc o c1 c2 c3 q=>s₂ _ _ c3 (s₁.extBut _ _ c2 (s₀.extBut _ _ c1 q))) he)
structure ZS (h:cK) (z TI TO i1 i2 l1 l2 S:af) (xs ys:Array aj) (k:Nat):Prop where
 zz:(k=0/\IsZip h z TI TO .none/\∃ a b,u6 h TO a b)\/∃ T f oT,Cw h z TI TO T f/\h.get? T=some oT/\T≠z/\T≠i1/\T≠i2/\T≠S
 ti:u6 h TI (.ref i1) (.ref i2)
 a1:h.IsListIter i1 l1 k
 a2:h.IsListIter i2 l2 k
 b1:h.IsList l1 xs
 b2:h.IsList l2 ys
structure Off (z TI TO i1 i2 l1 l2 S:af):Prop where
 z:z≠S
 ti:TI≠S
 to:TO≠S
 i1:i1≠S
 i2:i2≠S
 l1:l1≠S
 l2:l2≠S
def ZS.keep {h h':cK}(x:ZS h z TI TO i1 i2 l1 l2 S xs ys k) (O:Off z TI TO i1 i2 l1 l2 S) (hk:∀ b o,b≠S->h.get? b=some o->h'.get? b=some o):ZS h' z TI TO i1 i2 l1 l2 S xs ys k where
 zz:=by
  rcases x.zz with ⟨e,hz,a,b,hp⟩|⟨T,f,oT,hz,hT,n1,n2,n3,n4⟩
  .exact .inl ⟨e,hk _ _ O.z hz,a,b,hk _ _ O.to hp⟩
  .exact .inr ⟨T,f,oT,hk _ _ O.z hz,hk _ _ n4 hT,n1,n2,n3,n4⟩
 ti:=hk _ _ O.ti x.ti
 a1:=x.a1.at λo e=>hk _ o O.i1 e
 a2:=x.a2.at λo e=>hk _ o O.i2 e
 b1:=x.b1.at λo e=>hk _ o O.l1 e
 b2:=x.b2.at λo e=>hk _ o O.l2 e
def ZS.item {x y:aj}{Q:Option aj->ax->Prop}(D:Bu z TI TO i1 i2 l1 l2) (st:ZS s.heap z TI TO i1 i2 l1 l2 S xs ys k) (hS:S<s.heap.objs.size) (hx:xs[k]?=some x) (hy:ys[k]?=some y)
  (hQ:∀ h',ZS h' z TI TO i1 i2 l1 l2 S xs ys (k+1)->u6 h' s.heap.objs.size x y->(∀ c o,c≠z->c≠TO->c≠i1->c≠i2->s.heap.get? c=some o->h'.get? c=some o)->Q (some (.ref s.heap.objs.size)) { s with heap:=h' }) :
  aH (aL prog w) A (jh (.ref z)) Q E s:=by
 have Zh:i1<s.heap.objs.size:=by obtain ⟨_,e,_⟩:=st.a1;exact aJ e
 have lt2:i2<s.heap.objs.size:=by obtain ⟨_,e,_⟩:=st.a2;exact aJ e
 rcases st.zz with ⟨e,hz,a,b,hp⟩|⟨T,f,oT,hz,hT,n1,n2,n3,n4⟩
 .refine wpAny_pyNext_zip_item D hz st.ti hp st.a1 st.a2 st.b1 st.b2 hx hy λh' q1 q2 q3 q4 q5 q6 q7=>?_;refine hQ h' ⟨.inr ⟨_,false,_,q1,q5,fe (aJ hz),fe Zh,fe lt2,fe hS⟩,q7 _ _ D.TIz D.TITO D.TIi1 D.TIi2 st.ti,q3,q4,st.b1.at λo e=>q7 _ o D.l1z D.l1TO D.l1i1 D.l1i2 e,st.b2.at λo e=>q7 _ o D.l2z D.l2TO D.l2i1 D.l2i2 e⟩ q5 q7
 .have ty:s.TypeIs (.ref z) "zip":=⟨_,hz,rfl⟩
  unfold jh
  refine aa (iq (c6 (name:=fB "__next__") ty F.slot_zip_next (cO F.slot_zip_next ty F.entry_zip_next
   (Rj D hz hT st.ti st.a1 st.a2 st.b1 st.b2 hx hy λh' q1 q3 q4 q5 q7=>ak ?_) (F.args_zip_next_1 _))))
  refine hQ h' ⟨.inr ⟨T,true,oT,q1,q7 _ _ n1 n2 n3 hT,n1,n2,n3,n4⟩,q7 _ _ D.TIz D.TIi1 D.TIi2 st.ti,q3,q4,st.b1.at λo e=>q7 _ o D.l1z D.l1i1 D.l1i2 e,st.b2.at λo e=>q7 _ o D.l2z D.l2i1 D.l2i2 e⟩ q5 λc o c1 _ c3 c4 e=>q7 c o c1 c3 c4 e
def ZS.done {Q:Option aj->ax->Prop}(hh:A.handled=none) (D:Bu z TI TO i1 i2 l1 l2) (st:ZS s.heap z TI TO i1 i2 l1 l2 S xs ys k) (hend:xs[k]?=none\/ys[k]?=none)
  (hQ:∀ h',(∀ c o,c≠z->c≠TO->c≠i1->c≠i2->s.heap.get? c=some o->h'.get? c=some o)->Q none { s with heap:=h' }):aH (aL prog w) A (jh (.ref z)) Q E s:=by
 rcases st.zz with ⟨e,hz,a,b,hp⟩|⟨T,f,oT,hz,hT,n1,n2,n3,n4⟩
 .exact wpAny_pyNext_zip_end hh D hz st.ti hp st.a1 st.a2 st.b1 st.b2 hend hQ
 .have ty:s.TypeIs (.ref z) "zip":=⟨_,hz,rfl⟩
  unfold jh
  refine aa (iq (c6 (name:=fB "__next__") ty F.slot_zip_next (cO F.slot_zip_next ty F.entry_zip_next
   (UT hh D hz hT st.ti st.a1 st.a2 st.b1 st.b2 hend λh' e hk he=>?_) (F.args_zip_next_1 _))))
  obtain ⟨o,ho,hc⟩:=he;exact aa (oJ (T:="StopIteration") (b:=true) ⟨o,ho,hc⟩ Bx (ak (hQ _ λc o c1 _ c3 c4 q=>hk c o c1 c3 c4 q)))
structure Made (h:cK) (lo:af) (xs ys:Array aj) (as:List af):Prop where
 up:as.Pairwise (· < ·)
 lo:∀ a∈as,lo<a
 pr:∀ (j:Nat) (a:af),as[j]?=some a->∃ x y,xs[j]?=some x/\ys[j]?=some y/\u6 h a x y
theorem LW {S:Nat}(hh:A.handled=none) (D:Bu z TI TO i1 i2 l1 l2) (O:Off z TI TO i1 i2 l1 l2 S) (hn:min xs.size ys.size=n) (hn2:n<=100000) (res:aj) (lo:af) (hlo:z<=lo/\TO<=lo/\i1<=lo/\i2<=lo/\S<=lo) {h₀:cK}
  (hR:∀ h' tk acc c as,(∀ b o,b≠S->b≠z->b≠TO->b≠i1->b≠i2->h₀.get? b=some o->h'.get? b=some o)->h'.get? S=some { cls:=.type "list",dict:=none,data:=.seq acc c,slots:=#[] }->acc.toList=as.map aD->as.length=n->Made h' lo xs ys as->R (.ok (.ret res)) { s with heap:=h',toks:=tk }) :
  ∀ (m i:Nat) (h:cK) (tk c:Nat) (acc:Array aj) (as:List af),n-i=m->i<=n->ZS h z TI TO i1 i2 l1 l2 S xs ys i->(∀ b o,b≠S->b≠z->b≠TO->b≠i1->b≠i2->h₀.get? b=some o->h.get? b=some o) ->
   h.get? S=some { cls:=.type "list",dict:=none,data:=.seq acc c,slots:=#[] }->acc.toList=as.map aD->as.length=i->Made h lo xs ys as->lo<h.objs.size ->
   lp (aL prog w) A (.builtin "list.extend.loop" ⟨[.ref S,.ref z,res],[]⟩) R { s with heap:=h,toks:=tk }:=by
 intro m
 induction m with
 | zero =>
  intro i h tk c acc as hm hi st kp hS hacc hal hM hlh
  have ei:i=n:=by lia
  subst ei;refine iW G0 ?_;rw [gg dY _]
  show aH _ A.in1 (jh (.ref z) >>= _) _ _ _
  have hend:xs[i]?=none\/ys[i]?=none:=by
   by_cases q:xs.size<=i
   .exact .inl (gX q)
   .exact .inr (gX (by lia))
  refine aa (ZS.done (s:={ s with heap:=h,toks:=tk }) (A:=A.in1) hh D st hend λh' he=>?_);refine ak (hR h' tk acc c as (λb o b1 b2 b3 b4 b5 e=>he b o b2 b3 b4 b5 (kp b o b1 b2 b3 b4 b5 e)) (he S _ (Ne.symm O.z) (Ne.symm O.to) (Ne.symm O.i1) (Ne.symm O.i2) hS) hacc hal ⟨hM.up,hM.lo,λj a hj=>?_⟩);obtain ⟨x,y,q1,q2,q3⟩:=hM.pr j a hj;have far:∀ {b:af},b<=lo->a≠b:=λhb=>fe (bw hb (hM.lo a (aN hj)))
  exact ⟨x,y,q1,q2,he a _ (far hlo.1) (far hlo.2.1) (far hlo.2.2.1) (far hlo.2.2.2.1) q3⟩
 | succ m ih =>
  intro i h tk c acc as hm hi st kp hS hacc hal hM hlh
  have hlt:i<n:=by lia
  obtain ⟨x,hx⟩:∃ x,xs[i]?=some x:=⟨_,b9 (by lia)⟩
  obtain ⟨y,hy⟩:∃ y,ys[i]?=some y:=⟨_,b9 (by lia)⟩
  refine iW G0 ?_;rw [gg dY _]
  show aH _ A.in1 (jh (.ref z) >>= _) _ _ _
  refine aa (ZS.item (s:={ s with heap:=h,toks:=tk }) (A:=A.in1) D st (aJ hS) hx hy λh' st' hp kk=>?_);have hS':=kk S _ (Ne.symm O.z) (Ne.symm O.to) (Ne.symm O.i1) (Ne.symm O.i2) hS
  have hsz:acc.size=i:=by rw [← aM,hacc,ag,hal]
  show aH _ A.in1 (Lx S (·.push (aD h.objs.size)) >>= _) _ _ _
  refine aa (qr hS' rfl (ak ⟨j6 dY _,?_⟩) (by rw [hsz];exact L2.bK (m:=100000) (by lia)) (by rw [iC,hsz];exact Xa (L2.bK (m:=100000) (by lia))));have oth:∀ b o,b≠S->h'.get? b=some o->(h'.update S (bQ (·.push (aD h.objs.size)))).get? b=some o:=λb o hb e=>(bp _ _ (Ne.symm hb)).trans e;have hnS:h.objs.size≠S:=fe (aJ hS);refine ih (i+1) _ tk _ (acc.push (aD h.objs.size)) (as++[h.objs.size]) (by lia) hlt (st'.keep O oth) (λb o b1 b2 b3 b4 b5 e=>oth b o b1 (kk b o b2 b3 b4 b5 (kp b o b1 b2 b3 b4 b5 e))) (bP _ hS' rfl) (by rw [By,hacc,a9];rfl) (by rw [bb,hal];rfl) ⟨?_,λa ha=>?_,λj a hj=>?_⟩ ?_
  .refine gA.mpr ⟨hM.up,rZ _ _,λa ha b hb=>?_⟩;rw [ay.mp hb];obtain ⟨j,hj⟩:=bC.mp ha;obtain ⟨_,_,_,_,q⟩:=hM.pr j a hj;exact aJ q
  .rcases aQ.mp ha with q|q
   .exact hM.lo a q
   .rw [ay.mp q];exact hlh
  .by_cases q:j<as.length
   .rw [fO q] at hj;obtain ⟨x',y',q1,q2,q3⟩:=hM.pr j a hj;have far:∀ {b:af},b<=lo->a≠b:=λhb=>fe (bw hb (hM.lo a (aN hj)));exact ⟨x',y',q1,q2,oth a _ (far hlo.2.2.2.2) (kk a _ (far hlo.1) (far hlo.2.1) (far hlo.2.2.1) (far hlo.2.2.2.1) q3)⟩
   .rw [dW (by lia)] at hj
    have ej:j-as.length=0:=by
     by_cases w:j-as.length=0
     .exact w
     .rw [dN (by simp;lia)] at hj;cases hj
    rw [ej] at hj
    have ea:h.objs.size=a:=by simpa using hj
    have ej':j=i:=by lia
    subst ea ej';exact ⟨x,y,hx,hy,oth _ _ hnS hp⟩
  .rw [r0];exact bj hlh (mY (aJ hp))
def Yg:typeLookup (.type "zip") "__len__"=pure none:=by rw [yU,oC];kernel_rfl
def UU:typeLookup (.type "zip") "__length_hint__"=pure none:=by rw [yU,oC];kernel_rfl
def Yh (ty:s.TypeIs (.ref z) "zip") (h:Q true s):aH (aL prog w) A (jm (.ref z)) Q E s:=by
 unfold jm;refine aa (Np ty Yg ?_);refine aa (Np ty UU ?_);exact ak h
theorem Yi {S c₀:Nat} {va vb:aj}(hh:A.handled=none) (D:Bu z TI TO i1 i2 l1 l2) (O:Off z TI TO i1 i2 l1 l2 S) (hn:min xs.size ys.size=n) (hn2:n<=100000) (res:aj) (hz:IsZip s.heap z TI TO .none) (hTO:u6 s.heap TO va vb)
  (st:ZS s.heap z TI TO i1 i2 l1 l2 S xs ys 0) (hS:s.heap.get? S=some { cls:=.type "list",data:=.seq #[] c₀ })
  (hR:∀ h' tk acc c as,(∀ b o,b≠S->b≠z->b≠TO->b≠i1->b≠i2->s.heap.get? b=some o->h'.get? b=some o)->h'.get? S=some { cls:=.type "list",dict:=none,data:=.seq acc c,slots:=#[] }->acc.toList=as.map aD->as.length=n->Made h' (s.heap.objs.size-1) xs ys as->R (.ok (.ret res)) { s with heap:=h',toks:=tk }) :
  aH (aL prog w) A.in1 (gC (.ref S) (.ref z) res) (λfin s'=>match fin with | .done f=>R (.ok f) s' | .again c'=>c'.quiet=true/\lp (aL prog w) A c' R s') (λe s'=>R (.error e) s') s:=by
 have ty:s.TypeIs (.ref z) "zip":=⟨_,hz,rfl⟩
 have lts:∀ {b:af}{o:iF},s.heap.get? b=some o->b<=s.heap.objs.size-1:=λe=>Nat.le_sub_one_of_lt (aJ e)
 have Zh:i1<=s.heap.objs.size-1:=by obtain ⟨_,e,_⟩:=st.a1;exact lts e
 have lt2:i2<=s.heap.objs.size-1:=by obtain ⟨_,e,_⟩:=st.a2;exact lts e
 have pos:0<s.heap.objs.size:=bw (aO _) (aJ hz)
 have key:∀ (h:cK) (c₁ tk:Nat),h.objs.size=s.heap.objs.size->(∀ b o,b≠S->s.heap.get? b=some o->h.get? b=some o)->h.get? S=some { cls:=.type "list",data:=.seq #[] c₁ } ->
   lp (aL prog w) A (.builtin "list.extend.loop" ⟨[.ref S,.ref z,res],[]⟩) R { s with heap:=h,toks:=tk }:=λh c₁ tk hsz kp hS₁ =>
  LW (h₀:=s.heap) hh D O hn hn2 res (s.heap.objs.size-1) ⟨lts hz,lts hTO,Zh,lt2,lts hS⟩ hR n 0 h tk c₁ #[] [] rfl (aO _) (st.keep O kp) (λb o b1 _ _ _ _ e=>kp b o b1 e) hS₁ rfl rfl ⟨nW,(λa ha=>nomatch ha),λj a hj=>by simp at hj⟩ (by rw [hsz];exact Nat.sub_lt pos (by decide))
 unfold gC;refine aa (IY (T:="zip") ty ?_)
 have e1:jW (.ref S) (.ref z)=false:=by simp [jW,Ne.symm O.z]
 have e2:(fc "zip" == fc "list")=false:=by decide
 have e3:(fc "zip" == fc "tuple")=false:=by decide
 simp only [e1,e2,e3,Bool.or_false,bY,if_false];refine aa (wpAny_pyIter_zip hz (aa (cq (Yh ty ?_))));refine jZ (λ_=>aa (jo (aa ?_))) (λ_=>ak ⟨j6 dY _,key _ c₀ _ rfl (λb o _ e=>e) hS⟩)
 show aH _ _ (Lx S (·.push .none) >>= λ_=>Lx S (·.pop)) _ _ _
 have g₂:=bP (bQ (·.push dC)) hS rfl;have g₃:=bP (bQ (·.pop)) g₂ rfl;refine aa (qr hS rfl (qr (hz:=by seq_fits) g₂ rfl (ak ⟨j6 dY _,key _ _ _ ?_ (λb o hb e=>?_) g₃⟩)))
 .rw [r0,r0]
 .exact (bp _ _ (Ne.symm hb)).trans ((bp _ _ (Ne.symm hb)).trans e)
theorem OY {Q:aj->ax->Prop}{va vb:aj}(hh:A.handled=none) (D:Bu z TI TO i1 i2 l1 l2) (hn:min xs.size ys.size=n) (hn2:n<=100000) (hz:IsZip s.heap z TI TO .none) (hTO:u6 s.heap TO va vb) (hTI:u6 s.heap TI (.ref i1) (.ref i2))
  (a1:s.heap.IsListIter i1 l1 0) (a2:s.heap.IsListIter i2 l2 0) (b1:s.heap.IsList l1 xs) (b2:s.heap.IsList l2 ys)
  (hQ:∀ h' tk acc c as,(∀ b o,b≠z->b≠TO->b≠i1->b≠i2->s.heap.get? b=some o->h'.get? b=some o)->h'.get? s.heap.objs.size=some { cls:=.type "list",dict:=none,data:=.seq acc c,slots:=#[] }->acc.toList=as.map aD->as.length=n->Made h' s.heap.objs.size xs ys as->Q (.ref s.heap.objs.size) { s with heap:=h',toks:=tk }) :
  aH (aL prog w) A (call (.type "list") [.ref z]) Q E s:=by
 refine callType_codes (Q₁:=λobj s₁=>obj=.ref s.heap.objs.size/\s₁={ s with heap:=s.heap.push { cls:=.type "list",data:=.seq #[] } }) PySem.F.called_list (PySem.F.typeCall_list_1 _) PySem.F.entry_list_init (code_list_new _ ⟨rfl,rfl⟩) ?_;rintro obj s₁ ⟨rfl,rfl⟩;have hS:(s.heap.push { cls:=.type "list",data:=.seq #[] }).get? s.heap.objs.size=some { cls:=.type "list",data:=.seq #[] }:=aK _ rfl;refine ⟨⟨_,hS,rfl⟩,PySem.F.args_list_init_2 _ _,?_⟩;have ne:∀ {b:af}{o:iF},s.heap.get? b=some o->b≠s.heap.objs.size:=λe=>aZ (aJ e)
 have O:Off z TI TO i1 i2 l1 l2 s.heap.objs.size:=⟨ne hz,ne hTI,ne hTO,by obtain ⟨_,e,_⟩:=a1;exact ne e,by obtain ⟨_,e,_⟩:=a2;exact ne e,by obtain ⟨_,e,_⟩:=b1;exact ne e,by obtain ⟨_,e,_⟩:=b2;exact ne e⟩
 show aH _ _ (do let old ← ED (.ref s.heap.objs.size);iD (.ref s.heap.objs.size) (λ_=>#[]);letGo old.toList.reverse;gC (.ref s.heap.objs.size) (.ref z) .none) _ _ _
 refine aa (Jd hS rfl (aa (mj hS rfl (aa (LL ?_)) (aO _) (aO _))));have g₂:=bP (bQ (λ_=>(#[]:Array aj))) hS rfl;have kp:∀ b o,s.heap.get? b=some o->((s.heap.push { cls:=.type "list",data:=.seq #[] }).update s.heap.objs.size (bQ (λ_=>(#[]:Array aj)))).get? b=some o:=λb o e=>(bp _ _ (Ne.symm (ne e))).trans (ar _ e)
 have sz:((s.heap.push { cls:=.type "list",data:=.seq #[] }).update s.heap.objs.size (bQ (λ_=>(#[]:Array aj)))).objs.size-1=s.heap.objs.size:=by rw [r0,i8];rfl
 refine Yi (s:={ s with heap:=(s.heap.push { cls:=.type "list",data:=.seq #[] }).update s.heap.objs.size (bQ (λ_=>(#[]:Array aj))) }) (A:=A.in1) hh D O hn hn2 .none (kp _ _ hz) (kp _ _ hTO) ⟨.inl ⟨rfl,kp _ _ hz,_,_,kp _ _ hTO⟩,kp _ _ hTI,a1.at λo e=>kp _ o e,a2.at λo e=>kp _ o e,b1.at λo e=>kp _ o e,b2.at λo e=>kp _ o e⟩ g₂ λh' tk acc c as k1 k2 k3 k4 k5=>?_;have k5':Made h' s.heap.objs.size xs ys as:=sz▸k5;exact ⟨rfl,hQ h' tk acc c as (λb o c1 c2 c3 c4 e=>k1 b o (ne e) c1 c2 c3 c4 (kp b o e)) k2 k3 k4 k5'⟩
end
end Zl
namespace L2
open PySem.W
variable {H H':Hp}{X:Cx}{h h':cK}{Z:St}{w:cg}{K:ae}{t:TA}{Q:Option aj->ax->Prop}{P:bA}{tg:Expr}{tl:TE}{a:af}{o:iF}{s:ax}
section
variable {pins:List (af×iF)}
def Inv.grow {t':Nat}(I:Inv X pins Z H s) (k:∀ b u,s.heap.get? b=some u->h'.get? b=some u) (sub:bJ H H') (new:∀ b,b<s.heap.objs.size->H b=none->H' b=none) (ok:rH X.prog X.w H' h'):Inv X pins Z H' { s with heap:=h',toks:=t' } :=
 I.un ⟨λb o e _ _ _=>k b o e,λb o e _ _ _=>⟨o.slots,k b o e⟩,λb o e n _=>new b (aJ e) n,λb o e _=>⟨o,k b o e⟩,λb _ e=>sub _ _ e,λb _ _ e=>sub _ _ e,λb ps e=>⟨#[],by rw [sub _ _ e];simp⟩⟩ ok
end
def EL (H:Hp) (zs:List Zt):Hp:=λb=>match zs.find? (λz=>z.2.2 == b) with|some z=>some (.tup [.int z.1,.int z.2.1])|none=>H b
def Rk {zs:List Zt}{b:af}(h:∀ z∈zs,z.2.2≠b):EL H zs b=H b:=by
 unfold EL;rw [Uk.mpr λz hz=>by simpa using h z hz]
theorem JX:∀ {zs:List Zt}{z:Zt},(zs.map λz=>z.2.2).Nodup->z∈zs->EL H zs z.2.2=some (.tup [.int z.1,.int z.2.1])
 | y::zs,z,hn,hz=>by
  unfold EL;rw [aV,a7] at hn
  rcases aq.mp hz with e|hz
  .subst e;rw [List.find?_cons_of_pos (by simp)]
  .have hne:¬ (y.2.2 == z.2.2)=true:=λq=>hn.1 (by
    have e:y.2.2=z.2.2:=by simpa using q
    rw [e];exact bg hz)
   rw [List.find?_cons_of_neg (p:=λw:Zt=>w.2.2 == z.2.2) hne];exact JX hn.2 hz
def Ro (K:ae) (t:TA):TE:=λZ H Q=>t Z H λvs H1=>∃ (a b:af) (ns ms:List Int),vs=[.ref a,.ref b]/\dm K H1 a (ns.map V.int)/\dm K H1 b (ms.map V.int)/\ns.length<=100000 /\
 ∀ (l:af) (zs:List Zt) (H2:Hp),bJ H1 H2->H1 l=none->H2 l=some (.lst (zs.map fV))->(∀ z∈zs,iY H2 z)->zs.map zP=ns.zip ms->Q (.ref l) H2
theorem Hq:∀ {vs:List aj}{ns:List Int}{j:Nat}{v:aj},eW vs ns->vs[j]?=some v->∃ i t,ns[j]?=some i/\v=.int i t
 | _,_,0,v,.cons n t r,e=>by simp at e;exact ⟨n,t,rfl,e.symm⟩
 | _,_,j+1,v,.cons n t r,e=>Hq (j:=j) r (by simpa using e)
 | _,_,j,v,.nil,e=>by simp at e
def Rp {lo:af}{xs ys:List aj}{ns ms:List Int}(hx:eW xs ns) (hy:eW ys ms):∀ {as:List af},(∀ (j:Nat) (a:af),as[j]?=some a->∃ x y,xs.toArray[j]?=some x/\ys.toArray[j]?=some y/\u6 h a x y)->as.length=min ns.length ms.length ->
  ∃ zs:List Zt,zs.map (λz=>z.2.2)=as/\zs.map zP=ns.zip ms/\∀ z∈zs,∃ t u,u6 h z.2.2 (.int z.1 t) (.int z.2.1 u):=by
 intro as hp hl;have hlx:=hx.length;have hly:=hy.length;refine ⟨(ns.zip ms).zipWith (λt a=>(t.1,t.2,a)) as,?_,?_,λz hz=>?_⟩
 .apply qU
  intro j;rw [aB,vW]
  by_cases hj:j<as.length
  .rw [aA hj,aA (by rw [u7];lia)];rfl
  .rw [dN (nO hj)];cases (ns.zip ms)[j]?<;>rfl
 .apply qU
  intro j;rw [aB,vW]
  by_cases hj:j<as.length
  .rw [aA hj,aA (by rw [u7];lia)];rfl
  .rw [dN (nO hj),dN (by rw [u7];lia)];rfl
 .obtain ⟨j,hj⟩:=bC.mp hz;rw [vW] at hj
  cases ea:as[j]? with
  | none =>
   rw [ea] at hj
   cases ew:(ns.zip ms)[j]? with
   | none=>rw [ew] at hj;cases hj
   | some w=>rw [ew] at hj;cases hj
  | some a =>
   obtain ⟨x,y,q1,q2,q3⟩:=hp j a ea;obtain ⟨i,t,e1,rfl⟩:=Hq (j:=j) hx (by simpa using q1);obtain ⟨i',u,e2,rfl⟩:=Hq (j:=j) hy (by simpa using q2)
   have ez:(ns.zip ms)[j]?=some (i,i'):=by rw [qx];exact ⟨e1,e2⟩
   rw [ea,ez] at hj;have:z=(i,i',a):=(aU hj).symm;subst this;exact ⟨t,u,q3⟩
section
variable {x y:Expr}{p1 p2 q1 q2:ue}
theorem UV (hc:X.calm=true) (hgl:Gl X "list") (hml:X.mg "list"=none) (hgz:Gl X "zip") (hmz:X.mg "zip"=none) (ha:PA X [x,y] t)
  (he:bE [.Call (.Name "zip" p1) [x,y] [] p2] X.env=[(false,fo (.Call (.Name "zip" p1) [x,y] [] p2) X.env)]:=by rfl) (he2:bE [x,y] X.env=(false,fo x X.env)::bE [y] X.env:=by rfl) (hpl:(gM p2 (bE [y] X.env)).any (·.1)=false:=by rfl) :
  PE X (.Call (.Name "list" q1) [.Call (.Name "zip" p1) [x,y] [] p2] [] q2) (Ro X.K t):=by
 intro pins s Z H Q I h;refine eC (nY I hgl hml BootT.list (eP ?_ he rfl));rw [he]
 show aH _ _ (spliced ((false,fo (.Call (.Name "zip" p1) [x,y] [] p2) X.env)::gM q2 (bE [] X.env))) _ _ s
 refine hW (eC (nY I hgz hmz BootT.zip (eP (gp (ha p2 pins s Z H _ I h) λus s1 ⟨vs,H1,I1,r1,q⟩=>?_) he2 hpl)));obtain ⟨a,b,ns,ms,rfl,hA,hB,hle,k⟩:=q;obtain ⟨u,v,rfl,ru,rv⟩:=vals2 r1;cases ru;cases rv;obtain ⟨xs,vx,px,_⟩:=I1.list hA;obtain ⟨ys,vy,py,_⟩:=I1.list hB;have ix:=intsAre_of vx;have iy:=intsAre_of vy;have lx:=ix.length;have ly:=iy.length
 have al:a<s1.heap.objs.size:=by obtain ⟨_,e,_⟩:=px.isList;exact aJ e
 have bl:b<s1.heap.objs.size:=by obtain ⟨_,e,_⟩:=py.isList;exact aJ e
 refine call_zip_2 px.isList py.isList λh' hz hTI hTO j1 j2 hsz hk=>mi ?_;refine Zl.OY (s:={ s1 with heap:=h' }) (n:=min ns.length ms.length) (I1.ok.hd hc) (zipApart_new al bl) (by rw [aI,aI,lx,ly]) (by lia) hz hTO hTI j1 j2 (px.isList.at λo e=>hk _ o e) (py.isList.at λo e=>hk _ o e) λh2 tk acc c as k1 k2 k3 k4 k5=>?_;obtain ⟨zs,e1,e2,e3⟩:=Rp (lo:=0) ix iy k5.pr k4
 have old:∀ b o,s1.heap.get? b=some o->h2.get? b=some o:=λb o e=>by
  have hb:=aJ e;refine k1 b o (aZ (bj hb (hZ _ _))) (aZ (bj hb (hZ _ _))) (aZ hb) (aZ (bj hb (hZ _ _))) (hk b o e)
 have up:∀ z∈zs,h'.objs.size<z.2.2:=λz hz=>k5.lo _ (by rw [← e1];exact bg hz);have hs5:h'.objs.size=s1.heap.objs.size+5:=hsz
 have nd:(zs.map λz=>z.2.2).Nodup:=by rw [e1];exact k5.up.imp λq=>aZ q
 have far:∀ z∈zs,∀ b:af,b<s1.heap.objs.size->z.2.2≠b:=λz hz b hb=>fe (PP (bj hb (by rw [hs5];exact hZ _ _)) (up z hz));have lf:∀ b:af,b<s1.heap.objs.size->b≠h'.objs.size:=λb hb=>aZ (bj hb (by rw [hs5];exact hZ _ _))
 have hold:∀ b:af,b<s1.heap.objs.size->upd (EL H1 zs) h'.objs.size (.lst (zs.map fV)) b=H1 b:=λb hb=>by rw [aG (lf b hb),Rk λz hz=>far z hz b hb]
 have S:bJ H1 (upd (EL H1 zs) h'.objs.size (.lst (zs.map fV))):=λb o e=>by rw [hold b (I1.eJ.lt e)];exact e
 have hpair:∀ z∈zs,iY (upd (EL H1 zs) h'.objs.size (.lst (zs.map fV))) z:=λz hz=>by
  show upd (EL H1 zs) h'.objs.size (.lst (zs.map fV)) z.2.2=_
  rw [aG (fe (up z hz))];exact JX nd hz
 have hlz:zs.length<=100000:=by
  have:=congrArg fh e2;rw [ag,u7] at this;lia
 have I2:Inv X pins Z (upd (EL H1 zs) h'.objs.size (.lst (zs.map fV))) { s1 with heap:=h2,toks:=tk }:=I1.grow old S (λb hb n=>by rw [hold b hb];exact n) λb o e=>by
  by_cases hb:b<s1.heap.objs.size
  .rw [hold b hb] at e;exact (I1.eJ b o e).uT (λc v _ q=>old c v q) (λc q=>S _ _ q) λc _ q=>S _ _ q
  .by_cases hl:b=h'.objs.size
   .subst hl;rw [aF] at e;cases e;refine ⟨by rw [ag];exact bK hlz,acc.toList,c,?_,by rw [Array.toArray_toList];exact k2⟩;rw [k3,← e1,cz];exact Gs zs
   .rw [aG hl] at e;unfold EL at e
    cases w:zs.find? (λz=>z.2.2 == b) with
    | none =>
     rw [w] at e;have e:H1 b=some o:=e;rw [I1.eJ.fresh (nO hb)] at e
     cases e
    | some z =>
     rw [w] at e;cases e;have hz':=Ly w
     have eb:z.2.2=b:=by simpa using YX w
     subst eb;obtain ⟨t,u,hp⟩:=e3 z hz';exact ⟨bK (m:=2) (au 2),[.int z.1 t,.int z.2.1 u],.cons ⟨t,rfl⟩ (.cons ⟨u,rfl⟩ .nil),⟨_,hp,rfl,_,rfl⟩⟩
 exact ⟨.ref h'.objs.size,_,I2,rfl,k _ zs _ S (I1.eJ.fresh (by rw [hs5];exact hZ _ _)) aF hpair e2⟩
def Yj {Q:VK}(h:t Z H λvs H1=>∃ (a b:af) (ns ms:List Int),vs=[.ref a,.ref b]/\dm K H1 a (ns.map V.int)/\dm K H1 b (ms.map V.int)/\ns.length<=100000 /\
 ∀ (l:af) (zs:List Zt) (H2:Hp),bJ H1 H2->H1 l=none->H2 l=some (.lst (zs.map fV))->(∀ z∈zs,iY H2 z)->zs.map zP=ns.zip ms->Q (.ref l) H2):Ro K t Z H Q:=h
end
def TF (h:cK) (d:af) (ks:List aj) (ep:Nat):Prop:=∃ o es,h.get? d=some o/\o.ExactDict/\o.data=.dict es ep/\es.toList.map (·.key)=ks
section
variable {prog:bA}{A:cL}{E:aj->ax->Prop}{d it:af}{ks:List aj}{ep i:Nat}
def TF.typeIs (x:TF s.heap d ks ep):s.TypeIs (.ref d) "dict":=let ⟨o,_,e,c,_⟩:=x;⟨o,e,c.1⟩
def JY {Q:aj->ax->Prop}(hd:(d == jR)=false) (x:TF s.heap d ks ep)
  (q:Q (.ref s.heap.objs.size) { s with heap:=s.heap.push { cls:=.type "dict_keyiterator",data:=.fields #[.ref d,.int 0 0,.int ks.length 0,.int ep 0] } }):aH (aL prog w) A (PF (.ref d)) Q E s:=by
 have hT:=x.typeIs;obtain ⟨o,es,e,c,da,hk⟩:=x
 have hs:es.size=ks.length:=by rw [← hk,ag,aM]
 refine Je hT F.slot_dict_iter (cO F.slot_dict_iter hT F.entry_dict_iter ?_ (F.args_dict_iter_1 _));unfold ij.«dict.__iter__» Builtin.Dict.dictSlotNone;refine aa (aa (Xb hT ?_))
 show aH _ _ (pure (aD d)) _ _ s
 refine ak ?_
 show aH _ _ (FV d >>= _) _ _ s
 unfold FV;rw [if_neg (by rw [hd];exact bD)];refine aa (ak (aa (ky e da (aa (Nq e da ?_)))));refine aa (cP (ak ⟨_,rfl,"dict_keyiterator",_,⟨_,aK _ rfl,rfl⟩,F.slot_dict_keyiterator_next.lookup,?_⟩))
 simpa [cw,hs] using q
def Rq {v:aj}(t:s.heap.IsKeyIter it d i ks.length ep) (x:TF s.heap d ks ep) (hv:ks[i]?=some v)
  (q:∀ h',h'.IsKeyIter it d (i+1) ks.length ep->gY it s.heap h'->Q (some v) { s with heap:=h' }):aH (aL prog w) A (jh (.ref it)) Q E s:=by
 have tt:=t.typeIs;obtain ⟨ob,g,gc,gd⟩:=id t;obtain ⟨o,es,e,c,da,hk⟩:=x
 have hs:es.size=ks.length:=by rw [← hk,ag,aM]
 have hi:i<es.size:=by rw [hs];exact (aC.mp hv).1
 have ev:es[i].key=v:=by
  rw [← hk,aB] at hv
  simpa [hi] using hv
 unfold jh;refine aa (iq (c6 (name:=fB "__next__") tt F.slot_dict_keyiterator_next (cO F.slot_dict_keyiterator_next tt F.entry_dict_keyiterator_next ?_ (F.args_dict_keyiterator_next_1 _))));refine aa (ak (aa (aa ?_)))
 first|refine aa (jJ tt (ak ?_))|refine aa (ml tt (ak ?_))
 refine aa (nQ g gd ?_);simp only [show uC "dict_keyiterator"=false by decide,bY,if_false]
 show aH _ _ (if (aD d == dC)=true then _ else _) _ _ s
 rw [if_neg (show ¬ ((aD d == dC)=true) from bD)];refine aa (ak (aa (ky e da ?_)));rw [if_neg (by rw [hs];simp)];refine aa (ak (aa (Nq e da ?_)));rw [if_neg (by simp)];refine ak ?_;simp only [show ¬ ((i:Int)<0) from by lia,if_false,gL,b9 hi];refine aa ?_
 first|refine aa (jJ tt (ak ?_))|refine aa (ml tt (ak ?_))
 refine aa (Xc tt ?_)
 show aH _ _ (PR (.ref it) 1 (cw ((i:Int)+1)) >>= _) _ _ s
 refine aa (jx g gd (by simp) ?_)
 have t':(s.heap.update it (iT (·.setIfInBounds 1 (cw ((i:Int)+1))))).IsKeyIter it d (i+1) ks.length ep :=
  ⟨_,bP _ g (jV (di gd _)),(rM ..).trans gc,by rw [di gd];simp [cw]⟩
 refine aa (cq ?_);refine aa (Xc (s:={ s with heap:=s.heap.update it (iT (·.setIfInBounds 1 (cw ((i:Int)+1)))) }) t'.typeIs ?_)
 show aH _ _ (pure es[i].key) _ _ _
 rw [ev];exact ak (ak ⟨_,rfl,ak (q _ t' (df ..))⟩)
def UW (hh:A.handled=none) (hi:ks.length<=i) (t:s.heap.IsKeyIter it d i ks.length ep) (x:TF s.heap d ks ep) (q:∀ h',Qs it s.heap h'->Q none { s with heap:=h' }):aH (aL prog w) A (jh (.ref it)) Q E s:=by
 have tt:=t.typeIs;obtain ⟨ob,g,gc,gd⟩:=id t;obtain ⟨o,es,e,c,da,hk⟩:=x
 have hs:es.size=ks.length:=by rw [← hk,ag,aM]
 unfold jh;refine aa (iq (c6 (name:=fB "__next__") tt F.slot_dict_keyiterator_next (cO F.slot_dict_keyiterator_next tt F.entry_dict_keyiterator_next ?_ (F.args_dict_keyiterator_next_1 _))));refine aa (ak (aa (aa ?_)))
 first|refine aa (jJ tt (ak ?_))|refine aa (ml tt (ak ?_))
 refine aa (nQ g gd ?_);simp only [show uC "dict_keyiterator"=false by decide,bY,if_false]
 show aH _ _ (if (aD d == dC)=true then _ else _) _ _ s
 rw [if_neg (show ¬ ((aD d == dC)=true) from bD)];refine aa (ak (aa (ky e da ?_)));rw [if_neg (by rw [hs];simp)];refine aa (ak (aa (Nq e da ?_)));rw [if_neg (by simp)];refine ak ?_;simp only [show ¬ ((i:Int)<0) from by lia,if_false,gL,gX (br (kD hs) hi)];refine aa ?_
 first|refine aa (jJ tt (ak ?_))|refine aa (ml tt (ak ?_))
 show aH _ _ (PR (.ref it) 0 .none >>= _) _ _ s
 refine aa (jx g gd (by simp) ?_)
 show aH _ _ (VP (.type "StopIteration") [] >>= _) _ _ _
 refine aa ?_;simp only [VP,newTuple];refine aa (cP ?_ (by size_fits));refine aa (m:=nR _ _) (LM (a:=dC) (by first|rfl|(simp only [nR];rfl)) ?_);refine cP ?_ (by size_fits);simp only [raiseNew];refine aa (TY ?_);rw [show A.in1.handled=none from hh];refine aa (ak (YY ?_));refine aa (oJ (T:="StopIteration") (b:=true) ⟨_,aK _ rfl,rfl⟩ Bx ?_);exact ak (q _ (((df ..).extBut.push _).push _))
def Rr {acc:Array aj}(h:ItemsOf (λi v=>ks[i]?=some v) acc ks.length):acc.toList=ks:=by
 apply qU
 intro j
 cases e:acc.toList[j]? with
 | some v=>exact (h.2 j v (by rw [← dJ];exact e)).symm
 | none =>
  have:ks.length<=j:=by have:=List.getElem?_eq_none_iff.mp e;rw [aM,h.1] at this;exact this
  exact (dN this).symm
end
def Paired.at {α β:Type} {F:α->β->Prop}{l₁:List α} {l₂:List β} (r:Paired F l₁ l₂):∀ {i:Nat}{a:α},l₁[i]?=some a->∃ b,l₂[i]?=some b/\F a b:=by
 induction r with
 | nil=>intro i a e;simp at e
 | cons h t ih =>
  intro i a e
  cases i with
  | zero =>
   simp only [lN,f9] at e;subst e
   exact ⟨_,rfl,h⟩
  | succ i=>exact ih (by simpa using e)
def Paired.len {α β:Type} {F:α->β->Prop}{l₁:List α} {l₂:List β} (r:Paired F l₁ l₂):l₁.length=l₂.length:=by
 induction r with
 | nil=>rfl
 | cons h t ih=>simp [ih]
def ItT (a:af) (kvs:List (List iL×V)) (o:iF):It :=
 ⟨λi H=>i<kvs.length/\H a=some (.frz o (.dT kvs)),λi H x H'=>H'=H/\∃ k v b,kvs[i]?=some (k,v)/\x=.ref b/\H b=some (.tup (k.map kV)),λi H=>kvs.length<=i/\H a=some (.frz o (.dT kvs))⟩
theorem NN (a it:af) (o:iF) (kvs:List (List iL×V)) (es:Array DictEntry) (ep:Nat) (hx:o.ExactDict) (hd:o.data=.dict es ep) (hl:es.size=kvs.length) :
  OI P w K tg (ItT a kvs o) [it] it (λi h=>h.IsKeyIter it a i (es.toList.map (·.key)).length ep) where
 mem:=by simp
 obj:=λi h st b hb=>by
  have e:b=it:=by simpa using hb
  subst e;obtain ⟨o,e,c,d⟩:=st;exact ⟨o,e,λv z=>by rw [d] at z;cases z⟩
 keep:=λi h h' st k=>st.at λo e=>k it (by simp) o e
 item:=by
  intro X hP hw hK hc i pins s Z H E I hf st hg;subst hP hw hK;obtain ⟨hlt,hq⟩:=hg
  obtain ⟨e0,_,_,xs,rel,o',es',ep',e1,e2,e3,e4,e5⟩:=(show eU X.prog X.w H s.heap a (.frz o (.dT kvs)) from I.eJ a _ hq)
  rw [e0] at e1;cases e1;rw [hd] at e3
  injection e3 with e3 e3'
  subst e3 e3'
  obtain ⟨⟨k,v⟩,hkv⟩:∃ p,kvs[i]?=some p:=⟨kvs[i],by simp [hlt]⟩
  obtain ⟨q,hq2,rq⟩:=L2.Paired.at rel hkv
  have hkey:(es.toList.map (·.key))[i]?=some (.ref q.2.1):=by rw [e4,cz,aB,hq2];rfl
  obtain ⟨f0,f1,f2,f3,f4,f5⟩:=hf it (by simp);refine Rq st ⟨o,es,e0,hx,hd,rfl⟩ hkey λh' st' sb=>?_;have I1:Inv X pins Z H { s with heap:=h' }:=I.turned (t':=s.toks) (λb o hb e=>(sb.2 b hb).trans e) f0 f1 f3 f4 f5;obtain ⟨o',e,c,d⟩:=id st';exact ⟨_,rfl,JA (s:={ s with heap:=h' }) e c d (by decide) ⟨.ref q.2.1,H,I1,rfl,⟨rfl,k,v,q.2.1,hkv,rfl,rq.2.1⟩,st',λb hb=>(hf b hb).1⟩⟩
 done:=by
  intro X hP hw hK hc i pins s Z H E I hf st hg;subst hP hw hK;obtain ⟨hle,hq⟩:=hg
  obtain ⟨e0,_⟩:=(show eU X.prog X.w H s.heap a (.frz o (.dT kvs)) from I.eJ a _ hq)
  obtain ⟨f0,f1,f2,f3,f4,f5⟩:=hf it (by simp)
  have hn:(es.toList.map (·.key)).length=kvs.length:=by rw [ag,aM,hl]
  exact UW (I.ok.hd hc) (by lia) st ⟨o,es,e0,hx,hd,rfl⟩ λh' eb=>⟨rfl,I.turned (t':=s.toks) (λb o hb e=>eb b o hb e) f0 f1 f3 f4 f5⟩
 self:=λ_ _ _ _ _ st h=>YW st h
def iDT (tl:TE):TI:=λZ H R=>tl Z H λx H1=>∃ a kvs,x=.ref a/\((H1 a=some (.dT kvs)/\∀ o,R (ItT a kvs o) (upd H1 a (.frz o (.dT kvs))))\/∃ o,H1 a=some (.frz o (.dT kvs))/\R (ItT a kvs o) H1)
def We {R:It->Hp->Prop}(h:tl Z H λx H1=>∃ a kvs,x=.ref a/\((H1 a=some (.dT kvs)/\∀ o,R (ItT a kvs o) (upd H1 a (.frz o (.dT kvs))))\/∃ o,H1 a=some (.frz o (.dT kvs))/\R (ItT a kvs o) H1)):iDT tl Z H R:=h
theorem Wg {l:Expr}(hl:PE X l tl):PI X tg l (iDT tl):=by
 intro pins s Z H R I h;refine gp (hl pins s Z H _ I h) λv s1 ⟨x,H1,I1,r1,q1⟩=>?_;obtain ⟨a,kvs,e,q1⟩:=q1;subst e;cases r1
 rcases q1 with ⟨hq,q⟩|⟨ob,hq,q⟩
 rotate_left
 .obtain ⟨ho,hz,hsys,xs,rel,ob',es,ep,ho',hx,hd,he,hn⟩:=(show eU X.prog X.w H1 s1.heap a (.frz ob (.dT kvs)) from I1.eJ a _ hq)
  rw [ho] at ho';cases ho'
  have hl:es.size=kvs.length:=by rw [← aM,he,ag,Paired.len rel]
  refine JY hsys ⟨ob,es,ho,hx,hd,rfl⟩ ?_;refine ⟨s1.heap.objs.size,[s1.heap.objs.size],_,_,_,rfl,I1.kept (t':=s1.toks) λb o e=>ar _ e,NN a _ ob kvs es ep hx hd hl,⟨_,aK _ rfl,rfl,rfl⟩,λb hb=>?_,q⟩
  have e:b=s1.heap.objs.size:=by simpa using hb
  subst e;exact I1.Nc (au _) (I1.eJ.fresh (au _))
 obtain ⟨hz,hsys,xs,rel,ob,es,ep,ho,hx,hd,he,hn⟩:=(show eU X.prog X.w H1 s1.heap a (.dT kvs) from I1.eJ a _ hq)
 have un:Un X.fs [] H1 (upd H1 a (.frz ob (.dT kvs))) s1.heap s1.heap:=by
  have hne:∀ b u,H1 b=some u->u≠.dT kvs->b≠a:=λb u e n z=>by subst z;rw [hq] at e;exact n (aU e).symm
  refine ⟨λb o e _ _ _=>e,λb o e _ _ _=>⟨o.slots,e⟩,λb o e n _=>?_,λb o e _=>⟨o,e⟩,λb ys e=>?_,λb o u e=>?_,λb ps e=>?_⟩
  .rw [aG (λz=>by subst z;rw [hq] at n;cases n)];exact n
  .rw [aG (hne b _ e (by intro z;cases z))];exact e
  .rw [aG (hne b _ e (by intro z;cases z))];exact e
  .exact ⟨#[],by rw [aG (hne b _ e (by intro z;cases z)),e];simp⟩
 have nt:∀ c ys,H1 c=some (.tup ys)->(upd H1 a (.frz ob (.dT kvs))) c=some (.tup ys):=λc ys q0=>by
  rw [aG (λz=>by rw [z,hq] at q0;cases q0)];exact q0
 have eJ:rH X.prog X.w (upd H1 a (.frz ob (.dT kvs))) s1.heap:=λb u e=>by
  by_cases hb:b=a
  .subst hb;rw [aF] at e;cases e;exact ⟨ho,hz,hsys,xs,Paired.Py rel λp q z=>⟨z.1,nt _ _ z.2.1,z.2.2⟩,ob,es,ep,ho,hx,hd,he,hn⟩
  .rw [aG hb] at e;refine (I1.eJ b u e).uT (λc v _ q=>q) (λc q0=>?_) nt;rw [aG (λz=>by rw [z,hq] at q0;cases q0)];exact q0
 have I2:Inv X pins Z (upd H1 a (.frz ob (.dT kvs))) { s1 with heap:=s1.heap,toks:=s1.toks }:=I1.un un eJ
 have hl:es.size=kvs.length:=by rw [← aM,he,ag,Paired.len rel]
 refine JY hsys ⟨ob,es,ho,hx,hd,rfl⟩ ?_;refine ⟨s1.heap.objs.size,[s1.heap.objs.size],_,_,_,rfl,I2.kept (t':=s1.toks) λb o e=>ar _ e,NN a _ ob kvs es ep hx hd hl,⟨_,aK _ rfl,rfl,rfl⟩,λb hb=>?_,q ob⟩
 have e:b=s1.heap.objs.size:=by simpa using hb
 subst e;exact I2.Nc (au _) (I2.eJ.fresh (au _))
def UX (H:Hp) (Q:VK):VK:=λx H'=>Q x H'\/∃ a o kvs,(∀ o' u',H a≠some (.frz o' u'))/\H' a=some (.frz o (.dT kvs))/\Q x (upd H' a (.dT kvs))
def Un.Px {fs ex:List af}{kvs:List (List iL×V)}(u:Un fs ex H H' h h') (hn:∀ o' u',H a≠some (.frz o' u')) (ha:H' a=some (.frz o (.dT kvs))):Un fs ex H (upd H' a (.dT kvs)) h h' where
 keep:=u.keep
 slot:=u.slot
 free:=λb ob e n hx=>by
  have q:=u.free b ob e n hx;rw [aG (λz=>by rw [z,ha] at q;cases q)];exact q
 there:=u.there
 wD:=λb xs e=>by
  have q:=u.wD b xs e;rw [aG (λz=>by rw [z,ha] at q;cases q)];exact q
 uS:=λb ob w e=>by
  have q:=u.uS b ob w e;rw [aG (λz=>hn ob w (by rw [← z];exact e))];exact q
 uU:=λb ps e=>by
  obtain ⟨more,q⟩:=u.uU b ps e;exact ⟨more,by rw [aG (λz=>by rw [z,ha] at q;cases q)];exact q⟩
def rH.Px {kvs:List (List iL×V)}(k:rH P w H h) (ha:H a=some (.frz o (.dT kvs))):rH P w (upd H a (.dT kvs)) h:=by
 have nt:∀ c ys,H c=some (.tup ys)->(upd H a (.dT kvs)) c=some (.tup ys):=λc ys q0=>by
  rw [aG (λz=>by rw [z,ha] at q0;cases q0)];exact q0
 intro b u e
 by_cases hb:b=a
 .subst hb;rw [aF] at e;cases e
  obtain ⟨_,hz,hsys,xs,rel,ob,es,ep,r⟩:=(show eU P w H h b (.frz o (.dT kvs)) from k b _ ha)
  exact ⟨hz,hsys,xs,Paired.Py rel λp q z=>⟨z.1,nt _ _ z.2.1,z.2.2⟩,ob,es,ep,r⟩
 .rw [aG hb] at e;refine (k b u e).uT (λc v _ q=>q) (λc q0=>?_) nt;rw [aG (λz=>by rw [z,ha] at q0;cases q0)];exact q0
end L2
namespace BootT
end BootT
namespace L2
open PySem.W
variable {w:cg}{X:Cx}
def jr.Px {P:bA}{K:ae}{mg:bB->Option aj}{base:cK}{CX:JE}{k:Nat}{f:af}{fd:fN}{ps:List bB}{sp sp':Sp}(F:jr P w K mg base CX k f fd ps sp')
  (h:∀ vs H Q E,sp vs H Q E->sp' vs H (UX H Q) E):jr P w K mg base CX k f fd ps sp:=by
 refine ⟨λvs H Q E q=>F.len vs H _ E (h _ _ _ _ q),λA outer s H args us vs Q E hr he hb hv hs=>?_⟩;refine lu (F.run A outer s H args us vs _ E hr he hb hv (h _ _ _ _ hs)) λr s' q=>?_
 cases r with
 | error e=>exact q
 | ok fl =>
  cases fl with
  | ret u =>
   obtain ⟨v,H',h1,h2,h3,h4,h5,q⟩:=(show CE outer P w H s (UX H Q) u s' from q)
   rcases q with q|⟨a,o,kvs,hn,ha,q⟩
   .exact (show CE outer P w H s Q u s' from ⟨v,H',h1,h2,h3,h4,h5,q⟩)
   .exact (show CE outer P w H s Q u s' from ⟨v,_,h1,h2,h3.Px hn ha,h4.Px ha,h5,q⟩)
  | _=>exact q
def Paired.eraseIdx {α β:Type} {F:α->β->Prop}{l₁:List α} {l₂:List β} (r:Paired F l₁ l₂):∀ j,Paired F (l₁.eraseIdx j) (l₂.eraseIdx j):=by
 induction r with
 | nil=>intro j;exact .nil
 | cons h t ih =>
  intro j
  cases j with
  | zero=>exact t
  | succ j=>exact .cons h (ih j)
theorem Cy {κ:Type} [DecidableEq κ] {k:κ}{v:V}:∀ {kvs:List (κ×V)}{j:Nat},(kvs.map (·.1)).Nodup->kvs[j]?=some (k,v)->kvs.eraseIdx j=mM kvs k
 | [],j,_,e=>by simp at e
 | p::r,0,hn,e=>by
  simp only [lN,f9] at e;subst e;have h1:=(a7.mp hn).1
  rw [OT rfl,JL h1];rfl
 | p::r,j+1,hn,e=>by
  simp only [Nr] at e;have h1:=(a7.mp hn).1;have hm:k∈r.map (·.1):=bq.mpr ⟨_,aN e,rfl⟩;have hne:¬ p.1=k:=λz=>h1 (by rw [show (λx:κ×V=>x.1) p=k from z];exact hm);rw [Gn hne,Nt,Cy (a7.mp hn).2 e]
theorem Am {κ:Type} [DecidableEq κ] {k:κ}{v:V}:∀ {kvs:List (κ×V)}{j:Nat},(kvs.map (·.1)).Nodup->kvs[j]?=some (k,v)->iR kvs k=some v
 | [],j,_,e=>by simp at e
 | p::r,0,hn,e=>by
  simp only [lN,f9] at e;subst e
  exact sk rfl
 | p::r,j+1,hn,e=>by
  simp only [Nr] at e;have h1:=(a7.mp hn).1;have hm:k∈r.map (·.1):=bq.mpr ⟨_,aN e,rfl⟩;have hne:¬ p.1=k:=λz=>h1 (by rw [show (λx:κ×V=>x.1) p=k from z];exact hm);rw [pR hne];exact Am (a7.mp hn).2 e
theorem Gu {α β:Type} (f:α->β):∀ (l:List α) (j:Nat),(l.map f).eraseIdx j=(l.eraseIdx j).map f
 | [],_=>by simp
 | a::l,0=>rfl
 | a::l,j+1=>by simp [Nt,Gu f l j]
def OZ {H:Hp}{kvs:List (List iL×V)}{xs:List (List iL×af×aj)}(r:KT H kvs xs):kvs.map (·.1)=xs.map (·.1):=by
 induction r with
 | nil=>rfl
 | cons h t ih=>simp [h.1,ih]
def Rt:List V->Hp->VK->Prop:=λxs H Q=>∃ a kvs,xs=[V.ref a]/\H a=some (.dT kvs)/\Q (.int kvs.length) H
def O0:lj X (.builtin "len") Rt:=by
 intro pins s Z H xs us Q I r h;obtain ⟨a,kvs,rfl,ha,q⟩:=h;obtain ⟨u,rfl,ru⟩:=vals1 r;cases ru
 obtain ⟨hz,lo,ys,rel,o,es,ep,e1,e2,e3,e4,e5⟩:=(show eU X.prog X.w H s.heap a (.dT kvs) from I.eJ a _ ha)
 have hl:es.size=kvs.length:=by rw [← aM,e4,ag,Paired.len rel]
 have hT:s.TypeIs (.ref a) "dict":=⟨o,e1,e2.1⟩
 have hfit:(kvs.length:Int)<2^63:=by rw [pJ] at hz;lia
 refine qt kind_len plain_len entry_len (args_len1 _) ?_;unfold ij.«len»;refine aa (m:=oneArg "len" _) (ak ?_);refine aa (m:=callSpecial? (.ref a) (fB "__len__")) (c6 (name:=fB "__len__") hT F.slot_dict_len (cO F.slot_dict_len hT F.entry_dict_len ?_ (F.args_dict_len_1 _)))
 show aH _ _ (dictSize a >>= _) _ _ s
 unfold dictSize;refine aa (aa (ky e1 e3 (ak ?_)))
 show aH _ _ (Builtin.Dict.pendingCount a >>= _) _ _ s
 refine aa (wpAny_pendingCount_other lo (wpAny_ret_mkInt ?_));rw [Nat.add_zero,hl]
 show aH _ _ _ _ _ { s with toks:=s.toks+1 }
 refine aa (cq (ak (aa (LL ?_))))
 show aH _ _ (if ((kvs.length:Nat):Int)<0 then _ else _) _ _ _
 rw [if_neg (by lia)]
 show aH _ _ (if ((kvs.length:Nat):Int)>=2^63 then _ else _) _ _ _
 rw [if_neg (by lia)];exact aa (wpAny_mkInt (ak ⟨_,rfl,.int kvs.length,H,(I.tok _).tok _,⟨_,rfl⟩,q⟩))
def JZ:V->List V->Hp->VK->Prop:=λx vs H Q=>∃ a kvs k b v,x=.ref a/\vs=[.ref b]/\H a=some (.dT kvs)/\H b=some (.tup (k.map kV))/\iR kvs k=some v/\Q v (upd H a (.dT (mM kvs k)))
theorem BF (hu:X.A.units+64<ip):VE X "dict.pop" JZ:=by
 intro pins s Z H x xs v us Q I rx rs h;obtain ⟨a,kvs,k,b,y,rfl,rfl,ha,hb,hy,q⟩:=h;cases rx;obtain ⟨u,rfl,ru⟩:=vals1 rs;cases ru
 obtain ⟨hz,lo,ys,rel,o,es,ep,e1,e2,e3,e4,e5⟩:=(show eU X.prog X.w H s.heap a (.dT kvs) from I.eJ a _ ha)
 have hl:es.size=kvs.length:=by rw [← aM,e4,ag,Paired.len rel]
 have hT:s.TypeIs (.ref a) "dict":=⟨o,e1,e2.1⟩
 have hes:es.size<=aW:=by rw [hl];exact hz
 have hkey:=sr (P:=X.prog) (w:=X.w) I.eJ hb
 have his:∀ x∈ys,(ll (fv X.prog X.w)).is s.heap x.1 x.2.1:=λx hx=>by
  obtain ⟨i,hi⟩:=bC.mp hx
  obtain ⟨p,hp⟩:∃ p,kvs[i]?=some p:=⟨kvs[i]'(by rw [Paired.len rel];exact (aC.mp hi).1),by simp⟩
  obtain ⟨x',hx',r1,r2,_⟩:=L2.Paired.at rel hp;rw [hi] at hx';cases hx';rw [← r1];exact sr I.eJ r2
 have rel:KT H kvs ys:=rel;have ev:=KT.val rel k;rw [hy] at ev;have hroom:(ll (fv X.prog X.w)).room X.A.in1:=jU (by lia)
 have hnd:(kvs.map (·.1)).Nodup:=by rw [OZ rel];exact e5
 refine cO F.slot_dict_pop hT F.entry_dict_pop ?_ (F.args_dict_pop_2 _ _);unfold ij.«dict.pop» Builtin.Dict.keyAndDefault;refine aa (aa (Xb hT ?_))
 show aH _ _ (pure (a,aD b,none)) _ _ s
 refine ak ?_
 have hne:es.isEmpty=false:=by
  cases e:es.isEmpty with
  | false=>rfl
  | true =>
   have:es.size=0:=by simpa [Array.isEmpty] using e
   have:kvs=[]:=nX (by lia);subst this;cases hy
 show aH _ _ (dictEntries a >>= _) _ _ s
 refine aa (ky e1 e3 ?_);simp only [hne,bY,if_false,pure_bind];refine aa ?_;unfold Builtin.Dict.takeOut
 try with_reducible refine cq ?_
 refine aa ((ll (fv X.prog X.w)).pyHash hroom hkey ?_);refine aa (wpAny_dictFind_heap (s:={ s with toks:=s.toks+(ll (fv X.prog X.w)).draws k }) hroom hkey e1 e3 e4 his e5 (λhno=>?_) λj p hj=>?_)
 .rw [atKey_none_of_get hno] at ev;exact ev.elim
 .have ep':I0 ys k=some p:=atKey_of_get e5 hj;rw [ep'] at ev;have ev:RelV y p.2:=ev;refine aa (ky (s:={ s with toks:=s.toks+(ll (fv X.prog X.w)).draws k }) e1 e3 ?_);rw [entry_at e4 j,hj];refine aa (wpAny_updateDictKeys (hz:=hes) (s:={ s with toks:=s.toks+(ll (fv X.prog X.w)).draws k }) e1 e3 (ak ?_));simp only [EB,Qr,bY,if_false];refine aa (LL (ak ⟨_,rfl,y,upd H a (.dT (mM kvs k)),?_,ev,q⟩))
  have hk2:kvs[j]?=some (k,y):=by
   have hjl:j<kvs.length:=by rw [Paired.len rel];exact (aC.mp hj).1
   obtain ⟨x',hx',r1,_⟩:=L2.Paired.at rel (aA hjl);rw [hj] at hx';cases hx'
   have e:kvs[j]?=some (k,kvs[j].2):=by
    rw [aA hjl];have r1:kvs[j].1=k:=r1;exact congrArg some (BR r1 rfl)
   have:=Am hnd e;rw [hy] at this;rw [e,← aU this]
  have hrel:KT H (mM kvs k) (ys.eraseIdx j):=by rw [← Cy hnd hk2];exact Paired.eraseIdx rel j
  refine Hh I (by rw [ha];exact iP) (df ..) ⟨_,bP _ e1 (Ul (yP e3 _))⟩
   ⟨br (dM _ _) hz,lo,_,hrel.keeps λc zs ec=>?_,_,_,ep+1,bP _ e1 (Ul (yP e3 _)),e2.mapDictKeys _,yP e3 _,?_,?_⟩
  .rw [aG (gJ ec ha (λz=>nomatch z))];exact ec
  .have:(es.eraseIdxIfInBounds j).toList=es.toList.eraseIdx j:=by obtain ⟨l⟩:=es;simp
   rw [this,e4,Gu]
  .exact (wR _ (List.eraseIdx_sublist _ _)).nodup e5
namespace Rv
section
variable {prog:bA}{A:cL}{E:aj->ax->Prop}{s:ax}{I l:af}
end
end Rv
section
variable {x:Expr}{t:TA}{p1 p2 q1 q2:ue}
end
end L2
namespace Sw
open PySem
variable {t:mn}{xs:Array Nat}
def z4 (xs:Array Nat):Prop:=xs.toList.Pairwise (· < ·)
def z4.lt (h:z4 xs) {i j a b:Nat}(hij:i<j) (h1:xs[i]?=some a) (h2:xs[j]?=some b):a<b:=by
 rw [← dJ] at h1 h2;obtain ⟨hi,e1⟩:=aC.mp h1;obtain ⟨hj,e2⟩:=aC.mp h2;have:=iE.mp h i j hi hj hij;rw [e1,e2] at this;exact this
theorem Cz {j:Nat}(h:z4 xs):∀ (fuel lo hi:Nat),lo<=hi->hi<=xs.size->hi-lo<=fuel->(∀ i a,i<lo->xs[i]?=some a->a<j)->(∀ i a,hi<=i->xs[i]?=some a->j<=a) ->
  (nS xs j fuel lo hi<=xs.size/\(∀ i a,i<nS xs j fuel lo hi->xs[i]?=some a->a<j)/\∀ i a,nS xs j fuel lo hi<=i->xs[i]?=some a->j<=a)
 | 0,lo,hi,h1,h2,h3,h4,h5=>by
  have:lo=hi:=by lia
  subst this
  exact ⟨h2,h4,h5⟩
 | fuel+1,lo,hi,h1,h2,h3,h4,h5=>by
  unfold nS
  by_cases c:lo<hi
  .rw [if_pos c]
   have hm:(lo+hi)/2<xs.size:=by lia
   have em:xs[(lo+hi)/2]?=some xs[(lo+hi)/2]:=b9 hm
   have eg:xs.getD ((lo+hi)/2) j=xs[(lo+hi)/2]:=by simp [TZ,hm]
   simp only [eg]
   by_cases c2:xs[(lo+hi)/2]<j
   .rw [if_pos c2];refine Cz h fuel _ _ (by lia) h2 (by lia) (λi a hi' ha=>?_) h5
    by_cases e:i=(lo+hi)/2
    .subst e;rw [em] at ha;cases ha;exact c2
    .exact PP (h.lt (show i<(lo+hi)/2 by lia) ha em) c2
   .rw [if_neg c2];refine Cz h fuel _ _ (by lia) (by lia) (by lia) h4 (λi a hi' ha=>?_)
    by_cases e:i=(lo+hi)/2
    .subst e;rw [em] at ha;cases ha;lia
    .have:=h.lt (show (lo+hi)/2<i by lia) em ha;lia
  .rw [if_neg c]
   have:lo=hi:=by lia
   subst this;exact ⟨h2,h4,h5⟩
def CB (h:z4 xs) (j:Nat):dE xs j<=xs.size/\(∀ i a,i<dE xs j->xs[i]?=some a->a<j)/\∀ i a,dE xs j<=i->xs[i]?=some a->j<=a :=
 Cz h _ _ _ (aO _) (au _) (by lia) (λi a hi=>absurd hi (by lia)) λi a hi ha=>by
  have:=(cB.mp ha).1;lia
def J0 (h:z4 xs) {k p:Nat}(hk:k=0/\p=0\/∃ k',k=k'+1/\∃ a,xs[k']?=some a/\p=a+1):dE xs p=k:=by
 obtain ⟨h1,h2,h3⟩:=CB h p
 rcases hk with ⟨rfl,rfl⟩|⟨k',rfl,a,ha,rfl⟩
 .by_cases e:dE xs 0=0
  .exact e
  .have:xs[0]?=some xs[0]:=b9 (by lia);have:=h2 0 _ (by lia) this;lia
 .have hk:=(cB.mp ha).1
  rcases Nat.lt_trichotomy (dE xs (a+1)) (k'+1) with c|c|c
  .have:=h3 k' a (by lia) ha;lia
  .exact c
  .have e:xs[k'+1]?=some (xs[k'+1]'(by lia)):=b9 (by lia);have q1:=h2 (k'+1) _ c e;have q2:=h.lt (show k'<k'+1 by lia) ha e;lia
def z4.insert (h:z4 xs) {j:Nat}(hj:xs[dE xs j]?≠some j):z4 (SetTable.insertAt xs (dE xs j) j):=by
 obtain ⟨h1,h2,h3⟩:=CB h j;generalize dE xs j=p at h1 h2 h3 hj;unfold z4;rw [SetTable.toList_insertAt];have e:xs.toList=xs.toList.take p++xs.toList.drop p:=(eS _ _).symm
 have hp:(xs.toList.take p++xs.toList.drop p).Pairwise (· < ·):=by rw [← e];exact h
 rw [gA] at hp;obtain ⟨p1,p2,p3⟩:=hp
 have m1:∀ a∈xs.toList.take p,a<j:=λa ha=>by
  obtain ⟨i,hi⟩:=bC.mp ha;rw [lE] at hi
  split at hi
  .exact h2 i a (by assumption) (by rw [← dJ];exact hi)
  .cases hi
 have m2:∀ a∈xs.toList.drop p,j<a:=λa ha=>by
  obtain ⟨i,hi⟩:=bC.mp ha;rw [pN,dJ] at hi;have q:=h3 (p+i) a (by lia) hi
  rcases Nat.lt_or_eq_of_le q with q|q
  .exact q
  .subst q
   cases i with
   | zero=>exact absurd hi hj
   | succ i =>
    have e0:xs[p]?=some (xs[p]'(by have:=(cB.mp hi).1;lia)):=b9 _;have q1:=h3 p _ (au _) e0;have q2:=h.lt (show p<p+(i+1) by lia) e0 hi;lia
 rw [gA];refine ⟨p1,List.pairwise_cons.mpr ⟨m2,p2⟩,λa ha b hb=>?_⟩
 rcases aq.mp hb with rfl|hb
 .exact m1 a ha
 .exact p3 a ha b hb
structure TI (t:mn):Prop where
 rise:z4 t.place
 nod:t.dummies=#[]
def NO (j:Nat):Jt #[] j=false:=by simp [Jt]
theorem J1 (h:TI t) {hashAt:Nat->Int}{hh:Int}:∀ (fuel:Nat) (p:SetTable.Probe) {j:Nat}{d:Option Nat},uD t hashAt hh fuel p=some (.empty j d)->p.dummy=none->d=none/\t.place[dE t.place j]?≠some j
 | 0,p,j,d,e,_=>by simp [uD] at e
 | fuel+1,p,j,d,e,hd=>by
  unfold uD at e
  have adv:(t.advance p).dummy=none:=by unfold SetTable.advance;split<;>exact hd
  cases hs:t.slot p.j with
  | empty =>
   rw [hs] at e;simp only [f9,Xd] at e;obtain ⟨rfl,rfl⟩:=e;refine ⟨hd,λz=>?_⟩;unfold VQ at hs
   simp [z] at hs
  | dummy =>
   unfold VQ at hs;rw [h.nod] at hs;simp only [NO] at hs
   split at hs<;>simp at hs
  | live i =>
   rw [hs] at e;simp only at e
   split at e
   .simp at e
   .exact J1 h fuel _ e adv
def O1 (h:TI t) {hh:Int}{j:Nat}{b:Bool}(e:t.freeSlot hh=some (j,b)):t.place[dE t.place j]?≠some j:=by
 unfold SetTable.freeSlot at e
 split at e
 .rename_i j' d he
  obtain ⟨e1,e2⟩:=J1 h _ _ he rfl;subst e1;simp at e;rw [← e.1];exact e2
 .cases e
def TI.standIn (t:mn) (n:Nat):TI (t.standIn n):=⟨by unfold z4 SetTable.standIn;simp only [Array.toList_range];exact Oz,rfl⟩
def TI.orStandIn (h:TI t) (n:Nat):TI (t.orStandIn n):=by
 unfold OA
 split
 .exact h
 .exact TI.standIn t n
def TI.put (h:TI t) {j:Nat}(hj:t.place[dE t.place j]?≠some j):TI (t.put j).1:=by
 refine ⟨h.rise.insert hj,?_⟩
 show (if Jt t.dummies j then _ else t.dummies)=#[]
 rw [h.nod,NO,if_neg (by decide)]
def TI.layNew (h:TI t) (es:Array (Int×aj)) (hh:Int) (x:aj):TI (Bz t es hh x).2.1:=by
 unfold Bz
 split
 .rename_i slot wd he
  exact (h.put (O1 h he)).orStandIn _
 .exact TI.standIn t _
def TI.relayAll (es:Array (Int×aj)) (wanted:Nat):TI (wJ t es wanted).2.1:=by
 unfold wJ
 split
 .rename_i t' order he
  dsimp only
  split
  .unfold T3 VR at he;simp only [PU,Lz,VS,f9] at he;obtain ⟨owner,_,he⟩:=he;have:=(cJ he).1;subst this;refine ⟨?_,rfl⟩
   show ((gK _).filterMap _ |>.map _).toArray.toList.Pairwise _
   rw [List.toList_toArray,List.map_filterMap]
   have:(λx=>yV (λy:Nat×Nat=>y.1) (yV (λy=>(x,y)) (owner.getD x none)))=λx=>yV (λ_=>x) (owner.getD x none):=by funext x;cases owner.getD x none<;>rfl
   refine List.Pairwise.filterMap _ (λa b hab c hc d hd=>?_) Oz;cases ha:owner.getD a none<;>rw [ha] at hc<;>simp at hc;cases hb:owner.getD b none<;>rw [hb] at hd<;>simp at hd;lia
  .exact TI.standIn t _
 .exact TI.standIn t _
def TI.off (h:TI t):TI { t with plain:=false }:=⟨h.rise,h.nod⟩
def TI.fresh (a b:Nat) (c:Bool):TI (Um a b c):=⟨by simp [z4,Um],rfl⟩
def Mj (t:mn) (es:Array (Int×aj)) (hh:Int) (x:aj):(Bz t es hh x).2.1.led=t.led:=by
 unfold Bz
 split
 .simp only [OA];split<;>rfl
 .rfl
def Hr (t:mn) (es:Array (Int×aj)) (wanted:Nat):(wJ t es wanted).2.1.led=t.led:=by
 unfold wJ
 split
 .rename_i t' order he
  dsimp only
  split
  .unfold T3 VR at he;simp only [PU,Lz,VS,f9] at he;obtain ⟨owner,_,he⟩:=he;have:=(cJ he).1;subst this
   rfl
  .rfl
 .rfl
end Sw
namespace Sw
variable {bt:Bool}{a:af}{ks:List Int}{h:cK}
def key (e:Int×aj):Int:=match e.2 with | .int i _=>i|_=>0
section
variable {prog:bA}{w:cg}
def SO (prog:bA) (w:cg) (bt:Bool) (h:cK) (a:af) (ks:List Int):Prop :=
 ∃ o es ep t,h.get? a=some o/\o.ExactSet/\o.data=.set es ep t/\ElemsOf (nM prog w) es.toList/\(∀ e∈es.toList,∃ u,e.2=.int (key e) u)/\es.size<wK/\t.fits es.size=true/\TI t/\t.led=!bt/\ks=es.toList.map key/\ks.Nodup
def SO.keep {h':cK}(x:SO prog w bt h a ks) (k:∀ o,h.get? a=some o->h'.get? a=some o):SO prog w bt h' a ks :=
 let ⟨o,es,ep,t,e,r⟩:=x;⟨o,es,ep,t,k o e,r⟩
def SO.lt (x:SO prog w bt h a ks):a<h.objs.size:=let ⟨_,_,_,_,e,_⟩:=x;aJ e
variable {A:cL}{E:aj->ax->Prop}{s:ax}
theorem J2 {g:Bool->LF Unit}(hg:∀ (b:Bool) (s₁:ax) (Q':Unit->ax->Prop),Q' () s₁->aH (aL prog w) A (g b) Q' E s₁)
  {a:af}{o:iF}{es:Array (Int×aj)}{ep:Nat}{t:mn}(ho:s.heap.get? a=some o) (hd:o.data=.set es ep t)
  {es1:Array (Int×aj)}{t2:mn}(hb1:es1.size<wK) (hf2:t2.fits es1.size=true) (ti:TI t2) {wasDummy:Bool}{R:Option Bool->ax->Prop}
  (h:∀ h' es2 ep2 t3,gY a s.heap h'->h'.get? a=some { o with data:=.set es2 ep2 t3 }->es2.toList.Perm es1.toList->t3.fits es2.size=true->TI t3->t3.led=t2.led->R (some true) { s with heap:=h' }) :
  aH (aL prog w) A (do
    storeSet a es1 t2
    if (!wasDummy && t2.tooFull)=true then do
      g (relayAll t2 es1 (iQ es1.size)).2.2
      storeSet a (relayAll t2 es1 (iQ es1.size)).1 (relayAll t2 es1 (iQ es1.size)).2.1
      pure (some true)
     else pure (some true)) R E s:=by
 refine aa (wpAny_storeSet_of ho hd ?_ (Jg hb1))
 have g1:(s.heap.update a (u9 es1 t2)).get? a=some { o with data:=.set es1 (ep+1) t2 }:=by
  have:=bP (u9 es1 t2) ho (by rw [putSet_of es1 t2 hd];rfl);rw [putSet_of es1 t2 hd] at this;exact this
 have b1:=df s.heap a (u9 es1 t2)
 split
 .have hp:=relayAll_perm t2 es1 (iQ es1.size);have hfr:=relayAll_fits t2 es1 (iQ es1.size);have tir:=TI.relayAll (t:=t2) es1 (iQ es1.size);have lr:=Hr t2 es1 (iQ es1.size);generalize relayAll t2 es1 (iQ es1.size)=Rl at hp hfr tir lr ⊢;obtain ⟨es2,t3,gave2⟩:=Rl;dsimp only at hp hfr tir lr ⊢
  have hsz:es2.size=es1.size:=by rw [← aM,hp.length_eq,aM]
  refine aa (hg _ _ _ (aa (wpAny_storeSet_of g1 rfl ?_ (Jg (by rw [hsz];exact hb1)))));have g2:((s.heap.update a (u9 es1 t2)).update a (u9 es2 t3)).get? a=some { o with data:=.set es2 (ep+1+1) t3 }:=bP (u9 es2 t3) g1 rfl;exact ak (h _ es2 _ t3 (b1.trans (df _ a _)) g2 hp hfr tir lr)
 .exact ak (h _ es1 _ t2 b1 g1 (uf _) hf2 ti rfl)
theorem Yk {k:Int}{u:VH}{Q:Bool->ax->Prop}(hS:SO prog w bt s.heap a ks) (hroom:ks.length+1<wK)
  (h:∀ h' ks' b,gY a s.heap h'->SO prog w bt h' a ks'->(∀ x,x∈ks'↔x∈ks\/x=k)->ks'.length<=ks.length+1->Q b { s with heap:=h' }) :
  aH (aL prog w) A (setAddHashed a (.int k u) ((nM prog w).hash k)) Q E s:=by
 obtain ⟨o,es,ep,t,ho,hex,hd,hel,hin,hb,hf,ti,hled,rfl,hnd⟩:=hS;have hsc:(fz k u).scannable=true:=rfl;have hkey:(nM prog w).is k (.int k u)=true:=intKind_is _ _ _ _
 have hisk:∀ e∈es.toList,((nM prog w).is k e.2=true↔key e=k):=λe he=>by
  obtain ⟨v,hv⟩:=hin e he;rw [hv,KeyKind.is_eq_decide (intKind_is prog w (key e) v) k,decide_eq_true_iff];exact eq_comm
 unfold setAddHashed setAddHashedIn;refine cq (aa (i5 ho hd hf ?_));dsimp only;rw [byScan_of hsc hb hel];simp only [↓reduceIte];unfold setAddByScan;refine aa (aa (jo (aa (wpAny_setScan_of hkey ho hd hf hel ?_))))
 cases hr:List.findIdx? (λe=>(nM prog w).is k e.2) es.toList with
 | some j =>
  dsimp only;obtain ⟨hj,hpj,_⟩:=List.findIdx?_eq_some_iff_getElem.mp hr;have hm:k∈es.toList.map key:=bq.mpr ⟨es.toList[j],i9 hj,(hisk _ (i9 hj)).mp hpj⟩;refine ak (ak ?_)
  have e:s={ s with heap:=s.heap }:=by cases s;rfl
  rw [e]
  exact h s.heap _ _ (Heap.SameBut.refl a s.heap) ⟨o,es,ep,t,ho,hex,hd,hel,hin,hb,hf,ti,hled,rfl,hnd⟩ (λx=>⟨.inl,λq=>q.elim id λe=>e▸hm⟩) (jv _)
 | none =>
  dsimp only
  have hnm:k∉es.toList.map key:=λhm=>by
   obtain ⟨e,he,ek⟩:=bq.mp hm;have:=List.findIdx?_eq_none_iff.mp hr e he;rw [(hisk e he).mpr ek] at this;exact Bool.noConfusion this
  have hgw:∀ (b:Bool) {s₁:ax} {Q':Unit->ax->Prop},Q' () s₁->aH (aL prog w) A (match b with|true=>FT "set.scan.the-table-gave-way" | false=>pure ()) Q' E s₁ :=
   λb s₁ Q' hq=>by cases b<;>first|exact ak hq|exact jo hq
  have hperm:=layNew_perm t es ((nM prog w).hash k) (.int k u);have hfits:=layNew_fits t es ((nM prog w).hash k) (.int k u);have tin:=ti.layNew es ((nM prog w).hash k) (.int k u);have ledn:=Mj t es ((nM prog w).hash k) (.int k u);generalize layNew t es ((nM prog w).hash k) (.int k u)=L at hperm hfits tin ledn ⊢;obtain ⟨es1,t1,wasDummy,gave⟩:=L;dsimp only at hperm hfits tin ledn ⊢;rw [By] at hperm
  have hsz1:es1.size=es.size+1:=by rw [← aM,hperm.length_eq,bb,aM];rfl
  rw [ag,aM] at hroom
  have hb1:es1.size<wK:=by lia
  refine aa (hgw _ ?_)
  have hend:∀ (h':cK) (es2:Array (Int×aj)) (ep2:Nat) (t2 t3:mn),t2.led=t1.led->gY a s.heap h'->h'.get? a=some { o with data:=.set es2 ep2 t3 }->es2.toList.Perm es1.toList->t3.fits es2.size=true->TI t3->t3.led=t2.led->Q true { s with heap:=h' }:=by
   intro h' es2 ep2 t2 t3 l2 sb g2 hp2 hf3 ti3 l3;have hpp:=hp2.trans hperm;have hpk:=hpp.map key;rw [a9] at hpk;have ek:[((nM prog w).hash k,fz k u)].map key=[k]:=rfl;rw [ek] at hpk
   have hs2:es2.size=es.size+1:=by rw [← aM,hp2.length_eq,aM];exact hsz1
   refine h h' (es2.toList.map key) true sb ⟨_,es2,ep2,t3,g2,hex,rfl,(hel.push hkey hsc).perm hpp,λe he=>?_,by lia,hf3,ti3,by rw [l3,l2,ledn,hled],rfl,?_⟩ (λx=>?_) (by rw [ag,ag,aM,aM];lia)
   .rcases aQ.mp (hpp.mem_iff.mp he) with he|he
    .exact hin e he
    .rw [ay.mp he];exact ⟨u,rfl⟩
   .exact hpk.nodup_iff.mpr (L2.NG hnd hnm)
   .rw [hpk.mem_iff,aQ,ay]
  split
  .refine aa ?_;rw [hashByValue_scannable 8 hsc];refine ak ?_;refine J2 (λb s₁ Q' hq=>by cases b<;>first|exact ak hq|exact jo hq) ho hd hb1 ?_ ?_ ?_
   .split
    .exact hfits
    .exact SetTable.fits_plain_off hfits
   .split
    .exact tin
    .exact tin.off
   .intro h' es2 ep2 t3 q1 q2 q3 q4 q5 q6;dsimp only;refine ak (hend h' es2 ep2 _ t3 ?_ q1 q2 q3 q4 q5 q6)
    split<;>rfl
  .refine aa (ak ?_);simp only [↓reduceIte];refine J2 (λb s₁ Q' hq=>by cases b<;>first|exact ak hq|exact jo hq) ho hd hb1 hfits tin ?_;intro h' es2 ep2 t3 q1 q2 q3 q4 q5 q6;dsimp only;exact ak (hend h' es2 ep2 _ t3 rfl q1 q2 q3 q4 q5 q6)
end
end Sw
namespace Sw
abbrev bt (w:cg):Bool:=w.params.followText "set-order"
section
variable {prog:bA}{w:cg}{A:cL}{E:aj->ax->Prop}{s:ax}
def Ru (a:aj) {Q₁:aj->ax->Prop} (h:Q₁ (.ref s.heap.objs.size) { s with heap:=s.heap.push { cls:=.type "set",dict:=none,data:=.set #[] 0 (.fresh 0 0 (!bt w)) } }) :
  lp (aL prog w) A (.call (.builtin "set.__new__") ⟨[.type "set",a],[]⟩) (wants Q₁ E) s:=by
 refine codeAny_of_tree ?_
 show aH _ A.in1 (do checkBuiltinCall "set.__new__" ⟨[.type "set",a],[]⟩;again (.builtin "set.__new__" ⟨[.type "set",a],[]⟩)) _ _ s
 refine aa (LM (F.newCall_set_1 a) (ak ⟨j6 F.plain_set_new _,iW F.entry_set_new ?_⟩));rw [gg F.plain_set_new _];unfold ij.«set.__new__» YZ;have hsub:=sub_set_self;obtain ⟨hp,g,d,tk,os⟩:=s;dsimp only
 wp_walk
 refine iA (ak ?_);dsimp only;simp only [newObj];refine aa (wpAny_alloc (ak ?_));exact ak h
theorem UY {R:VL->ax->Prop}{I:af}{fp wr:List af}{G:Array GenState->Array GenState->Prop}{n:Nat}{P:Nat->aj->Prop}{St:Nat->ax->Prop}(W:WalksS prog w A.in1 I fp wr G n P St) (S:af) (hSf:S∉fp) (ns:List Int) (hl:ns.length=n) (hval:∀ i v,P i v->∃ k t,ns[i]?=some k/\v=.int k t) (hb:n+1<wK) :
  ∀ (k i:Nat) (s:ax) (ks:List Int),n-i=k->i<=n->St i s->SO prog w (bt w) s.heap S ks->(∀ x,x∈ks↔x∈ns.take i)->ks.length<=i ->
   (∀ s' ks',Moved (S::wr) G s s'->SO prog w (bt w) s'.heap S ks'->(∀ x,x∈ks'↔x∈ns)->ks'.length<=n->R (.ok (.ret .none)) s') ->
   lp (aL prog w) A (.builtin "set.update.loop" ⟨[.ref S,.ref I],[]⟩) R s:=by
 have hSw:S∉wr:=λh=>hSf (W.sub _ h);have hsub:∀ b∈wr,b∈S::wr:=λb hb=>ai _ hb;intro k
 induction k with
 | zero =>
  intro i s ks hk hi hst hS hm0 hle hR
  have hin:i=n:=by lia
  subst hin;refine iW F.entry_set_update_loop ?_;rw [gg F.plain_set_update_loop _]
  show aH _ A.in1 (jh (.ref I) >>= _) _ _ s
  refine aa (W.done s _ _ hst λs' hm=>?_)
  show aH _ A.in1 (ret dC) _ _ s'
  exact ak (hR s' ks (hm.mono hsub) (hS.keep λo e=>hm.heap S o hSw e) (λx=>by rw [hm0,← hl,r9]) hle)
 | succ k ih =>
  intro i s ks hk hi hst hS hm0 hle hR
  have hlt:i<n:=by lia
  refine iW F.entry_set_update_loop ?_;rw [gg F.plain_set_update_loop _]
  show aH _ A.in1 (jh (.ref I) >>= _) _ _ s
  refine aa (W.item i s _ _ hlt hst λv s' hP hst' hm=>?_);obtain ⟨c,t,hc,rfl⟩:=hval i v hP
  show aH _ A.in1 (jS [fz c t] (setAdd S (.int c t)) >>= _) _ _ s'
  refine aa (cq ?_);unfold setAdd;refine cq ?_;refine aa ((nM prog w).pyHash (k:=c) (intKind_is _ _ _ _) ?_);refine Yk (s:={ s' with toks:=s'.toks+1 }) (hS.keep λo e=>hm.heap S o hSw e) (by lia) λh' ks' b hsb hS2 hmem hlen=>?_;refine ak ⟨j6 F.plain_set_update_loop _,ih (i+1) _ ks' (by lia) hlt (W.frame _ s' _ _ hst' (jv _) λb hb o e=>?_) hS2 (λx=>?_) (by lia) λs'' ks'' hm'' hS'' hmem'' hlen''=>?_⟩
  .rw [hsb.2 b (λh:b=S=>hSf (by rw [← h];exact hb))];exact e
  .rw [hmem,hm0,Zp,hc,aQ];simp
  .refine hR s'' ks'' (Moved.trans W.gtrans ((hm.mono hsub).then_heap (jv _) λb o hb e=>?_) hm'') hS'' hmem'' hlen'';rw [hsb.2 b (λh:b=S=>hb (by rw [h];exact aw))];exact e
theorem Rv {l:af}{items:Array aj}{ns:List Int}{Q:aj->ax->Prop}(hh:A.handled=none) (hl:s.heap.IsList l items) (hi:eW items.toList ns) (hb:items.size+1<wK)
  (h:∀ (h':cK) (tk:Nat) (ks:List Int),SO prog w (bt w) h' s.heap.objs.size ks->(∀ x,x∈ks↔x∈ns)->ks.length<=items.size->(∀ b o,s.heap.get? b=some o->h'.get? b=some o)->Q (.ref s.heap.objs.size) { s with heap:=h',toks:=tk }) :
  aH (aL prog w) A (call (.type "set") [.ref l]) Q E s:=by
 obtain ⟨c,tl,hmro⟩:=F.called_set.mro;have hmade:=F.called_set.made;have hsub:=F.called_set.sub;refine PJ (codeAny_of_tree ?_)
 show aH _ _ (callAny (.type "set") _) _ _ _
 refine ak ⟨Code.quiet_builtin _ (by decide +kernel),iW F.entry_type_call ?_⟩;rw [Around.under_plain (weight_type_call_type "set" [.ref l] []) rfl];have h1:=F.called_set.notType;have h2:=F.called_set.canCreate;have hct:=F.typeCall_set_1 (.ref l)
 repeat (any_goals (first|assumption|wp_step))
 refine lu (Ru (.ref l) (E:=E) (Q₁:=λobj s₁=>obj=.ref s.heap.objs.size/\s₁={ s with heap:=s.heap.push { cls:=.type "set",dict:=none,data:=.set #[] 0 (.fresh 0 0 (!bt w)) } }) ⟨rfl,rfl⟩) λr s₁ hr=>?_
 cases r with
 | error e=>exact hr
 | ok fl =>
  cases fl with
  | ret obj =>
   obtain ⟨rfl,rfl⟩:=hr;have hS:(s.heap.push { cls:=.type "set",dict:=none,data:=.set #[] 0 (.fresh 0 0 (!bt w)) }).get? s.heap.objs.size=some { cls:=.type "set",dict:=none,data:=.set #[] 0 (.fresh 0 0 (!bt w)) }:=aK _ rfl
   have hT:Shared.TypeIs { s with heap:=s.heap.push { cls:=.type "set",dict:=none,data:=.set #[] 0 (.fresh 0 0 (!bt w)) } } (.ref s.heap.objs.size) "set":=⟨_,hS,rfl⟩
   have hli:=F.called_set.init.lookup;have hbi:=F.called_set.init.bind (.ref s.heap.objs.size)
   repeat (any_goals (first|assumption|wp_step))
   refine lu (codeAny_call_builtin (R:=wants (λr s₂=>r=.none/\∃ h' tk ks,s₂={ s with heap:=h',toks:=tk }/\SO prog w (bt w) h' s.heap.objs.size ks/\(∀ x,x∈ks↔x∈ns)/\ks.length<=items.size/\(∀ b o,s.heap.get? b=some o->h'.get? b=some o)) E) F.called_set.init.plain F.entry_set_init (check_set_init_1 hT ?_)) λr₂ s₂ hr₂=>?_
   .obtain ⟨ol,hol,hcl,nl,hdl⟩:=hl;obtain ⟨ocls,odict,odata,oslots⟩:=ol;simp only at hcl hdl;subst hcl;subst hdl;have hol':(s.heap.push { cls:=.type "set",dict:=none,data:=.set #[] 0 (.fresh 0 0 (!bt w)) }).get? l=some { cls:=.type "list",dict:=odict,data:=.seq items nl,slots:=oslots }:=ar _ hol;have hsls:=F.sub_list_set;have hslf:=F.sub_list_frozenset
    have hne:(fc "list" == fc "dict")=false:=by decide
    have hl1:(s.heap.push { cls:=.type "set",dict:=none,data:=.set #[] 0 (.fresh 0 0 (!bt w)) }).IsList l items:=⟨_,hol',rfl,nl,rfl⟩
    unfold ij.«set.__init__» noKeywords Y0;generalize hPI:PF=PI
    wp_walk
    subst hPI;refine Jb hl1 ?_;refine aa (wpAny_runValue ?_);have hlS:l<s.heap.objs.size:=aJ hol
    have hh3:A.in1.in1.in1.handled=none:=by simp [hh]
    have hneI:l≠(s.heap.push { cls:=.type "set",dict:=none,data:=.set #[] 0 (.fresh 0 0 (!bt w)) }).objs.size:=by
     rw [i8];exact aZ (rL hlS)
    have hSf:s.heap.objs.size∉[(s.heap.push { cls:=.type "set",dict:=none,data:=.set #[] 0 (.fresh 0 0 (!bt w)) }).objs.size,l]:=by
     rw [i8];simp only [aq,ay,c8,or_false,not_or];exact ⟨aZ (ji _),fe hlS⟩
    have hlen:=hi.length;rw [aM] at hlen
    have hval:∀ (i:Nat) (v:aj),items[i]?=some v->∃ k t,ns[i]?=some k/\v=.int k t:=λi v hv=>by
     obtain ⟨t,e⟩:=Uo hi i v (by rw [dJ];exact hv);have hlt:=(cB.mp hv).1
     have:ns[i]?=some (ns.getD i 0):=by rw [List.getD_eq_getElem?_getD,aA (by lia)];rfl
     exact ⟨_,t,this,e⟩
    refine UY ((Walks.list hh3 _ l hneI items).toS) s.heap.objs.size hSf ns hlen.symm hval hb (items.size-0) 0 _ [] (by lia) (aO _)
     ⟨⟨_,aK _ rfl,rfl,rfl⟩,(hl1.push _)⟩ ?hS0 (λx=>by simp) (au _) ?hR
    case hS0 =>
     have hget:((s.heap.push { cls:=.type "set",dict:=none,data:=.set #[] 0 (.fresh 0 0 (!bt w)) }).push { cls:=.type "list_iterator",data:=.fields #[.ref l,.int 0 0] }).get? s.heap.objs.size
       = some { cls:=.type "set",dict:=none,data:=.set #[] 0 (.fresh 0 0 (!bt w)) }:=ar _ hS
     exact ⟨_,#[],0,_,hget,⟨rfl,rfl,rfl⟩,rfl,(λe he=>by simp at he),(λe he=>by simp at he),by decide,rfl,TI.fresh _ _ _,rfl,rfl,pM⟩
    case hR =>
     intro s' ks' hm hS' hmem hlen';obtain ⟨h',g',d',tk',os'⟩:=s';have eg:g'=s.gens:=hm.gens;have ed:d'=s.drawn:=hm.drawn;have eo:os'=s.os:=hm.os;subst eg;subst ed;subst eo
     show aH _ _ _ _ _ _
     refine ak ?_
     show aH _ _ (ret dC) _ _ _
     refine ak ⟨rfl,h',tk',ks',rfl,hS',hmem,hlen',λb o e=>?_⟩;have hb:=aJ e;have hb1:b≠s.heap.objs.size:=aZ hb
     have hb2:b≠(s.heap.push { cls:=.type "set",dict:=none,data:=.set #[] 0 (.fresh 0 0 (!bt w)) }).objs.size:=by
      rw [i8];exact aZ (rL hb)
     exact hm.heap b o (by simp only [aq,ay,c8,or_false,not_or];exact ⟨hb1,hb2⟩) (ar _ (ar _ e))
   .cases r₂ with
    | error e=>exact hr₂
    | ok fl₂ =>
     cases fl₂ with
     | ret r =>
      obtain ⟨rfl,h',tk,ks,rfl,hS',hm',hl',hk'⟩:=hr₂
      repeat (any_goals (first|assumption|wp_step))
      exact h _ _ _ hS' hm' hl' hk'
     | _=>exact hr₂.elim
  | _=>exact hr.elim
end
end Sw
namespace Sw
variable {i ep n:Nat}{a it:af}{first:aj}{es:Array (Int×aj)}{t:mn}{vs:List aj}{sl:Nat->Nat}{Q:Option aj->ax->Prop}
def J3:Manifest.owners.lookup (String.ofList ['r','o','t','a','r','e','t','i','_','t','e','s'].reverse)=some Manifest.sig_set_iterator:=by kernel_rfl
def fj:Slot "set_iterator" "__next__" "set_iterator.__next__" :=
 .of (owner:="set_iterator") (n:="__next__") (by rw [yU,oC];kernel_rfl) (by decide +kernel) (by decide +kernel) (by decide +kernel)
  (by first|exact .inl (by decide +kernel)|exact .inr (by decide +kernel)) (by rw [PV];kernel_rfl)
def mv:entryFor table "set_iterator.__next__"=some ij.«set_iterator.__next__»:=entryFor_of_tree (by kernel_rfl)
def nG (a:aj):argsOk "set_iterator.__next__" ⟨[a],[]⟩:=by
 unfold argsOk;rw [signature?_of (id:="set_iterator.__next__") (n:=['_','_','t','x','e','n','_','_']) (o:=['r','o','t','a','r','e','t','i','_','t','e','s']) (by kernel_rfl) J3];kernel_rfl
def xo:Slot "set_iterator" "__iter__" "set_iterator.__iter__" :=
 .of (owner:="set_iterator") (n:="__iter__") (by rw [yU,oC];kernel_rfl) (by decide +kernel) (by decide +kernel) (by decide +kernel)
  (by first|exact .inl (by decide +kernel)|exact .inr (by decide +kernel)) (by rw [PV];kernel_rfl)
def Hs (a:aj):argsOk "set_iterator.__iter__" ⟨[a],[]⟩:=by
 unfold argsOk;rw [signature?_of (id:="set_iterator.__iter__") (n:=['_','_','r','e','t','i','_','_']) (o:=['r','o','t','a','r','e','t','i','_','t','e','s']) (by kernel_rfl) J3];kernel_rfl
def EM:entryFor table "set_iterator.__iter__"=some ij.«dict_keyiterator.__iter__» :=
 entryFor_alias (id':="dict_keyiterator.__iter__") (by kernel_rfl) rfl (by decide +kernel) (by kernel_rfl)
def CC:entryFor table "set.__iter__"=some ij.«frozenset.__iter__» :=
 entryFor_alias (id':="frozenset.__iter__") (by kernel_rfl) rfl (by decide +kernel) (by kernel_rfl)
def CD {α:Type} {l:List α}(h:i<l.length):(l[i]::l.eraseIdx i).Perm l:=by
 rw [List.eraseIdx_eq_take_drop_succ]
 have e:l=l.take i++l[i]::l.drop (i+1):=by rw [List.getElem_cons_drop,eS]
 conv=>rhs;rw [e]
 exact EE.symm
theorem Gv {α:Type} (next:Nat->Nat):∀ (fuel k:Nat) (left:List α) (out:Array α),fuel=left.length->(Ji next fuel k left out).toList.Perm (out.toList++left)
 | 0,k,left,out,h=>by
  have:left=[]:=nX h.symm
  subst this;simp [Ji]
 | fuel+1,k,left,out,h=>by
  unfold Ji;have hlt:next k%left.length<left.length:=Nat.mod_lt _ (by lia);rw [aA hlt];dsimp only;refine (Gv next fuel _ _ _ (by rw [Qt];simp [hlt];lia)).trans ?_;rw [By,du];refine lV _ ?_;exact CD hlt
def yD (h:cK) (it:af) (first:aj) (i:Nat) (a:af) (n ep:Nat):Prop:=∃ o,h.get? it=some o/\o.cls=.type "set_iterator"/\o.data=.fields #[first,cw i,.ref a,cw n,cw ep]
def yD.keep {h h':cK}(x:yD h it first i a n ep) (k:∀ o,h.get? it=some o->h'.get? it=some o):yD h' it first i a n ep:=let ⟨o,e,r⟩:=x;⟨o,k o e,r⟩
def RS (h:cK) (a:af) (es:Array (Int×aj)) (ep:Nat) (t:mn):Prop:=∃ o,h.get? a=some o/\o.ExactSet/\o.data=.set es ep t/\t.fits es.size=true
def RS.keep {h h':cK}(x:RS h a es ep t) (k:∀ o,h.get? a=some o->h'.get? a=some o):RS h' a es ep t:=let ⟨o,e,r⟩:=x;⟨o,k o e,r⟩
section
variable {prog:bA}{w:cg}{A:cL}{E:aj->ax->Prop}{s:ax}
def NP {Q:aj->ax->Prop}(x:yD s.heap it first i a n ep) (h:Q (.ref it) s):aH (aL prog w) A (PF (.ref it)) Q E s:=by
 have hT:s.TypeIs (.ref it) "set_iterator":=let ⟨o,e,c,_⟩:=x;⟨o,e,c⟩
 refine Je hT xo (cO xo hT EM ?_ (Hs _))
 show aH _ _ (ret (.ref it)) _ _ s
 exact ak ⟨_,rfl,"set_iterator",_,hT,fj.lookup,h⟩
def Ord (w:cg) (a:af) (es:Array (Int×aj)) (ep:Nat) (t:mn) (vs:List aj) (sl:Nat->Nat):Prop :=
 sl 0=0/\vs.length=es.size/\((bt w=true/\vs=(BU (w.params.setOrder a ep) es).toList.map (·.2)/\∀ i,sl i=0) \/
  (bt w=false/\vs=es.toList.map (·.2)/\(!t.plain && decide (es.size>1))=false/\(t.led=true)/\z4 t.place/\∀ i p,t.place[i]?=some p->sl (i+1)=p+1))
theorem O2 {v:aj}(x:yD s.heap it (cw (sl i)) i a es.size ep) (r:RS s.heap a es ep t) (o:Ord w a es ep t vs sl) (hv:vs[i]?=some v)
  (q:∀ h',yD h' it (cw (sl (i+1))) (i+1) a es.size ep->gY it s.heap h'->Q (some v) { s with heap:=h' }):aH (aL prog w) A (jh (.ref it)) Q E s:=by
 have hT:s.TypeIs (.ref it) "set_iterator":=let ⟨o,e,c,_⟩:=x;⟨o,e,c⟩
 obtain ⟨ob,g,gc,gd⟩:=x;obtain ⟨oa,ra,rx,rd,rf⟩:=r;unfold jh;refine aa (iq (c6 (name:=fB "__next__") hT fj (cO fj hT mv ?_ (nG _))));unfold ij.«set_iterator.__next__»;refine aa (m:=PX "__next__" 0 _) (ak ?_);refine aa (nQ g gd ?_)
 show aH _ _ (PY a >>= _) _ _ s
 refine aa (lO ra rd rf ?_);rw [if_neg (by simp)]
 show aH _ _ (OB a ((sl i:Nat):Int).toNat ((i:Nat):Int).toNat ((ep:Nat):Int).toNat >>= _) _ _ s
 simp only [gL]
 have nxt:aH (aL prog w) A.in1 (OB a (sl i) i ep) (λz s'=>z=some (v,sl (i+1))/\s'=s) (λ_ _=>False) s:=by
  unfold OB;refine aa (i5 ra rd rf ?_);dsimp only;refine aa ?_;unfold FW;refine aa (iA (ak ?_));obtain ⟨o0,o1,⟨b1,b2,b3⟩|⟨b1,b2,b3,b4,b5,b6⟩⟩:=o
  .have b1':(({ program:=(aL prog w).prog,params:=(aL prog w).w.params }:Setting).params.followText "set-order")=true:=b1;rw [b1'];simp only [↓reduceIte];rw [if_neg (by simp)];refine aa ?_;unfold setWalk;refine aa (i5 ra rd rf ?_);dsimp only;refine aa ?_;unfold FW;refine aa (iA (ak ?_));rw [b1'];simp only [↓reduceIte];refine aa (iA (ak (ak ⟨?_,rfl⟩)));have hv':=hv;rw [b2,aB,dJ] at hv'
   show yV (λe=>(e.2,sl i)) (BU (w.params.setOrder a ep) es)[i]?=_
   obtain ⟨e,he,ev⟩:=bo.mp hv';rw [he,b3 i,b3 (i+1)];simp [ev]
  .have b1':(({ program:=(aL prog w).prog,params:=(aL prog w).w.params }:Setting).params.followText "set-order")=false:=b1;rw [b1'];simp only [bY,↓reduceIte];refine jZ (λhd=>absurd (show (!t.plain && decide (es.size>1))=true from hd) (by rw [b3];decide)) (λ_=>aa ?_)
   show aH _ _ (if (!t.led && !es.isEmpty)=true then _ else _) _ _ _
   rw [if_neg (by rw [b4];simp)];refine ak (ak ⟨?_,rfl⟩)
   have hlt:i<es.size:=by rw [← o1];exact (aC.mp hv).1
   have hfs:t.place.size=es.size:=by
    have:=rf;unfold VT at this;simp at this;exact this.1
   have hp:t.place[i]?=some (t.place[i]'(by lia)):=b9 _
   have hbel:dE t.place (sl i)=i:=by
    refine J0 b5 ?_
    cases i with
    | zero=>exact .inl ⟨rfl,o0⟩
    | succ k =>
     have hk:t.place[k]?=some (t.place[k]'(by lia)):=b9 _;exact .inr ⟨k,rfl,_,hk,b6 k _ hk⟩
   rw [hbel,hp,b6 i _ hp];rw [b2,aB,dJ] at hv;obtain ⟨e,he,ev⟩:=bo.mp hv;rw [he];obtain ⟨e1,e2⟩:=e;simp at ev;simp [ev]
 refine aa (dr nxt (λz s' hz=>?_) λ_ _ x=>x.elim);obtain ⟨rfl,rfl⟩:=hz;dsimp only;have g1:=bP (iT (·.setIfInBounds 0 (cw ((sl (i+1):Nat):Int)))) g (jV (di gd _));refine aa (jx g gd (by simp) (aa (jx g1 (di gd _) (by simp) ?_)));have g2:=bP (iT (·.setIfInBounds 1 (cw ((i:Int)+1)))) g1 (jV (di (di gd _) _));refine ak ⟨_,rfl,ak (q _ ⟨_,g2,(rM ..).trans ((rM ..).trans gc),?_⟩ ((df ..).trans (df ..)))⟩;rw [di (di gd _)];simp [cw]
theorem Rw (hh:A.handled=none) (x:yD s.heap it (cw (sl vs.length)) vs.length a es.size ep) (r:RS s.heap a es ep t) (o:Ord w a es ep t vs sl)
  (q:∀ h',Qs it s.heap h'->Q none { s with heap:=h' }):aH (aL prog w) A (jh (.ref it)) Q E s:=by
 have hT:s.TypeIs (.ref it) "set_iterator":=let ⟨o,e,c,_⟩:=x;⟨o,e,c⟩
 obtain ⟨ob,g,gc,gd⟩:=x;obtain ⟨oa,ra,rx,rd,rf⟩:=r;unfold jh;refine aa (iq (c6 (name:=fB "__next__") hT fj (cO fj hT mv ?_ (nG _))));unfold ij.«set_iterator.__next__»;refine aa (m:=PX "__next__" 0 _) (ak ?_);refine aa (nQ g gd ?_)
 show aH _ _ (PY a >>= _) _ _ s
 refine aa (lO ra rd rf ?_);rw [if_neg (by simp)]
 show aH _ _ (OB a ((sl vs.length:Nat):Int).toNat ((vs.length:Nat):Int).toNat ((ep:Nat):Int).toNat >>= _) _ _ s
 simp only [gL]
 have nxt:aH (aL prog w) A.in1 (OB a (sl vs.length) vs.length ep) (λz s'=>z=none/\s'=s) (λ_ _=>False) s:=by
  unfold OB;refine aa (i5 ra rd rf ?_);dsimp only;refine aa ?_;unfold FW;refine aa (iA (ak ?_));obtain ⟨o0,o1,⟨b1,b2,b3⟩|⟨b1,b2,b3,b4,b5,b6⟩⟩:=o
  .have b1':(({ program:=(aL prog w).prog,params:=(aL prog w).w.params }:Setting).params.followText "set-order")=true:=b1;rw [b1'];simp only [↓reduceIte];rw [if_neg (by simp)];refine aa ?_;unfold setWalk;refine aa (i5 ra rd rf ?_);dsimp only;refine aa ?_;unfold FW;refine aa (iA (ak ?_));rw [b1'];simp only [↓reduceIte];refine aa (iA (ak (ak ⟨?_,rfl⟩)))
   show yV (λe=>(e.2,sl vs.length)) (BU (w.params.setOrder a ep) es)[vs.length]?=_
   rw [gX (by have h:=o1;rw [b2,ag,aM] at h;rw [o1];exact kD h)]
   rfl
  .have b1':(({ program:=(aL prog w).prog,params:=(aL prog w).w.params }:Setting).params.followText "set-order")=false:=b1;rw [b1'];simp only [bY,↓reduceIte];refine jZ (λhd=>absurd (show (!t.plain && decide (es.size>1))=true from hd) (by rw [b3];decide)) (λ_=>aa ?_)
   show aH _ _ (if (!t.led && !es.isEmpty)=true then _ else _) _ _ _
   rw [if_neg (by rw [b4];simp)];refine ak (ak ⟨?_,rfl⟩)
   have hfs:t.place.size=es.size:=by
    have:=rf;unfold VT at this;simp at this;exact this.1
   have hbel:dE t.place (sl vs.length)=vs.length:=by
    refine J0 b5 ?_
    cases e:vs.length with
    | zero=>exact .inl ⟨rfl,o0⟩
    | succ k =>
     have hk:t.place[k]?=some (t.place[k]'(by lia)):=b9 _;exact .inr ⟨k,rfl,_,hk,b6 k _ hk⟩
   rw [hbel,gX (by lia)]
 refine aa (dr nxt (λz s' hz=>?_) λ_ _ x=>x.elim);obtain ⟨rfl,rfl⟩:=hz;dsimp only;refine aa (jx g gd (by simp) ?_)
 show aH _ _ (VP (.type "StopIteration") [] >>= _) _ _ _
 refine aa ?_;simp only [VP,newTuple];refine aa (cP ?_ (by size_fits));refine aa (m:=nR _ _) (LM (a:=dC) (by first|rfl|(simp only [nR];rfl)) ?_);refine cP ?_ (by size_fits);simp only [raiseNew];refine aa (TY ?_);rw [show A.in1.handled=none from hh];refine aa (ak (YY ?_));refine aa (oJ (T:="StopIteration") (b:=true) ⟨_,aK _ rfl,rfl⟩ Bx ?_);exact ak (q _ (((df ..).extBut.push _).push _))
def O3 (hh:A.handled=none) (I a:af) (hne:a≠I) {vs:List aj}{sl:Nat->Nat}(o:Ord w a es ep t vs sl) :
  Walks prog w A I [I,a] [I] vs.length (λi v=>vs[i]?=some v) (λi h=>yD h I (cw (sl i)) i a es.size ep/\RS h a es ep t) where
 sub:=λb hb=>by simp at hb;simp [hb]
 frame:=λ_ _ _ st hk=>⟨st.1.keep λo e=>hk I (by simp) o e,st.2.keep λo e=>hk a (by simp) o e⟩
 item:=λi s Q E hi st hQ=>by
  have hv:vs[i]?=some vs[i]:=aA hi;exact O2 st.1 st.2 o hv λh' x' hs'=>hQ _ h' s.toks hv ⟨x',st.2.keep λo e=>hs'.extBut a o hne e⟩ λb o hb e=>hs'.extBut b o (λh=>hb (by simp [h])) e
 done:=λs Q E st hQ=>Rw hh st.1 st.2 o λh' he=>hQ h' s.toks λb o hb e=>he b o (λh=>hb (by simp [h])) e
 self:=λ_ _ _ _ st hQ=>NP st.1 hQ
end
end Sw
namespace Sw
variable {T:af}{ord:List Nat}{vs:List aj}{Q:Option aj->ax->Prop}
section
variable {prog:bA}{w:cg}{A:cL}{E:aj->ax->Prop}{s:ax}{it a:af}{es:Array (Int×aj)}{ep n:Nat}{t:mn}
def O4 {M:Model}{src:Source}{k:Nat}{Q:Nat->ax->Prop}(hk:k≠0) (h:∀ i d,i<k->Q i { s with drawn:=d }):aH M A (choose src k) Q E s :=
 λΓ p hΓ=>⟨hk,h _ _ (Nat.mod_lt _ (Nat.pos_of_ne_zero hk))⟩
theorem NQ {α:Type}:∀ (k:Nat) (xs:List α) {s:ax}{Q:List α->ax->Prop},xs.length=k->(∀ ys d,ys.Perm xs->Q ys { s with drawn:=d })->aH (aL prog w) A (drawOrder k xs) Q E s
 | 0,xs,s,Q,hl,h=>by
  have:xs=[]:=nX hl;subst this
  exact ak (h [] s.drawn (uf _))
 | k+1,[],s,Q,hl,h=>by simp at hl
 | k+1,x::xs,s,Q,hl,h=>by
  unfold drawOrder;refine aa (O4 (by simp) λi d hi=>?_);rw [aA hi];dsimp only;refine aa (NQ k _ (by rw [Qt,if_pos hi];lia) λys d' hp=>ak (h _ d' ?_));exact (hp.cons _).trans (CD hi)
structure Dr (h:cK) (T:af) (es:Array (Int×aj)) (ord:List Nat) (vs:List aj):Prop where
 tup:∃ o,h.get? T=some o/\o.data=.seq (ord.map λ(i:Nat)=>cw (i:Int)).toArray 0
 len:vs.length=ord.length
 at_:∀ (i:Nat) p,ord[i]?=some p->∃ e,es[p]?=some e/\vs[i]?=some e.2
theorem UZ {i:Nat}{v:aj}(x:yD s.heap it (.ref T) i a es.size ep) (r:RS s.heap a es ep t) (o:Dr s.heap T es ord vs) (hv:vs[i]?=some v)
  (q:∀ h',yD h' it (.ref T) (i+1) a es.size ep->gY it s.heap h'->Q (some v) { s with heap:=h' }):aH (aL prog w) A (jh (.ref it)) Q E s:=by
 have hT:s.TypeIs (.ref it) "set_iterator":=let ⟨o,e,c,_⟩:=x;⟨o,e,c⟩
 obtain ⟨ob,g,gc,gd⟩:=x;obtain ⟨oa,ra,rx,rd,rf⟩:=r;obtain ⟨⟨ot,gt,gtd⟩,ol,oat⟩:=o
 have hi:i<ord.length:=by rw [← ol];exact (aC.mp hv).1
 obtain ⟨e,he,hve⟩:=oat i _ (aA hi);rw [hv] at hve;cases hve;unfold jh;refine aa (iq (c6 (name:=fB "__next__") hT fj (cO fj hT mv ?_ (nG _))));unfold ij.«set_iterator.__next__»;refine aa (m:=PX "__next__" 0 _) (ak ?_);refine aa (nQ g gd ?_)
 show aH _ _ (PY a >>= _) _ _ s
 refine aa (lO ra rd rf ?_);rw [if_neg (by simp)]
 show aH _ _ (BV (.ref T) >>= _) _ _ s
 have sq:aH (aL prog w) A.in1 (BV (.ref T)) (λz s'=>z=some (ord.map λ(i:Nat)=>cw (i:Int)).toArray/\s'=s) (λ_ _=>False) s:=by
  unfold BV;refine aa (PH gt ?_);rw [gtd];exact ak ⟨rfl,rfl⟩
 refine aa (dr sq (λz s' hz=>?_) λ_ _ x=>x.elim);obtain ⟨rfl,rfl⟩:=hz;dsimp only
 have hpi:(ord.map λ(i:Nat)=>cw (i:Int)).toArray[((i:Nat):Int).toNat]?=some (cw (ord[i]:Int)):=by
  rw [gL,PZ,aB,aA hi];rfl
 show aH _ _ (match (ord.map λ(i:Nat)=>cw (i:Int)).toArray[((i:Nat):Int).toNat]? with|some (.int place _)=>_|some _=>_|none=>_) _ _ _
 rw [hpi]
 show aH _ _ (setNextDrawn a ((ord[i]:Nat):Int).toNat ((ep:Nat):Int).toNat >>= _) _ _ _
 simp only [gL];refine aa ?_;unfold setNextDrawn;refine aa (i5 ra rd rf ?_);dsimp only;rw [if_neg (by simp),he];refine ak (aa (jx g gd (by simp) ?_));have g1:=bP (iT (·.setIfInBounds 1 (cw ((i:Int)+1)))) g (jV (di gd _));refine ak ⟨_,rfl,ak (q _ ⟨_,g1,(rM ..).trans gc,?_⟩ (df ..))⟩;rw [di gd];simp [cw]
theorem zc (hh:A.handled=none) (x:yD s.heap it (.ref T) vs.length a es.size ep) (r:RS s.heap a es ep t) (o:Dr s.heap T es ord vs)
  (q:∀ h',Qs it s.heap h'->Q none { s with heap:=h' }):aH (aL prog w) A (jh (.ref it)) Q E s:=by
 have hT:s.TypeIs (.ref it) "set_iterator":=let ⟨o,e,c,_⟩:=x;⟨o,e,c⟩
 obtain ⟨ob,g,gc,gd⟩:=x;obtain ⟨oa,ra,rx,rd,rf⟩:=r;obtain ⟨⟨ot,gt,gtd⟩,ol,oat⟩:=o;unfold jh;refine aa (iq (c6 (name:=fB "__next__") hT fj (cO fj hT mv ?_ (nG _))));unfold ij.«set_iterator.__next__»;refine aa (m:=PX "__next__" 0 _) (ak ?_);refine aa (nQ g gd ?_)
 show aH _ _ (PY a >>= _) _ _ s
 refine aa (lO ra rd rf ?_);rw [if_neg (by simp)]
 show aH _ _ (BV (.ref T) >>= _) _ _ s
 have sq:aH (aL prog w) A.in1 (BV (.ref T)) (λz s'=>z=some (ord.map λ(i:Nat)=>cw (i:Int)).toArray/\s'=s) (λ_ _=>False) s:=by
  unfold BV;refine aa (PH gt ?_);rw [gtd];exact ak ⟨rfl,rfl⟩
 refine aa (dr sq (λz s' hz=>?_) λ_ _ x=>x.elim);obtain ⟨rfl,rfl⟩:=hz;dsimp only
 have hpi:(ord.map λ(i:Nat)=>cw (i:Int)).toArray[((vs.length:Nat):Int).toNat]?=none:=by
  rw [gL,PZ,aB,dN (by lia)];rfl
 show aH _ _ (match (ord.map λ(i:Nat)=>cw (i:Int)).toArray[((vs.length:Nat):Int).toNat]? with|some (.int place _)=>_|some _=>_|none=>_) _ _ _
 rw [hpi];dsimp only;have g1:=bP (iT (·.setIfInBounds 0 (cw 0))) g (jV (di gd _));refine aa (jx g gd (by simp) (aa (jx g1 (di gd _) (by simp) ?_)))
 show aH _ _ (VP (.type "StopIteration") [] >>= _) _ _ _
 refine aa ?_;simp only [VP,newTuple];refine aa (cP ?_ (by size_fits));refine aa (m:=nR _ _) (LM (a:=dC) (by first|rfl|(simp only [nR];rfl)) ?_);refine cP ?_ (by size_fits);simp only [raiseNew];refine aa (TY ?_);rw [show A.in1.handled=none from hh];refine aa (ak (YY ?_));refine aa (oJ (T:="StopIteration") (b:=true) ⟨_,aK _ rfl,rfl⟩ Bx ?_);exact ak (q _ ((((df ..).trans (df ..)).extBut.push _).push _))
def Ry (hh:A.handled=none) (I a T:af) (hne:a≠I) (hnT:T≠I) {ord:List Nat}{vs:List aj} :
  Walks prog w A I [I,a,T] [I] vs.length (λi v=>vs[i]?=some v) (λi h=>yD h I (.ref T) i a es.size ep/\RS h a es ep t/\Dr h T es ord vs) where
 sub:=λb hb=>by simp at hb;simp [hb]
 frame:=λ_ _ _ st hk=>⟨st.1.keep λo e=>hk I (by simp) o e,st.2.1.keep λo e=>hk a (by simp) o e,let ⟨o,e,d⟩:=st.2.2.tup;⟨⟨o,hk T (by simp) o e,d⟩,st.2.2.len,st.2.2.at_⟩⟩
 item:=λi s Q E hi st hQ=>by
  have hv:vs[i]?=some vs[i]:=aA hi;exact UZ st.1 st.2.1 st.2.2 hv λh' x' hs'=>hQ _ h' s.toks hv ⟨x',st.2.1.keep λo e=>hs'.extBut a o hne e,let ⟨o,e,d⟩:=st.2.2.tup;⟨⟨o,hs'.extBut T o hnT e,d⟩,st.2.2.len,st.2.2.at_⟩⟩ λb o hb e=>hs'.extBut b o (λh=>hb (by simp [h])) e
 done:=λs Q E st hQ=>zc hh st.1 st.2.1 st.2.2 λh' he=>hQ h' s.toks λb o hb e=>he b o (λh=>hb (by simp [h])) e
 self:=λ_ _ _ _ st hQ=>NP st.1 hQ
theorem Rz {ks:List Int}{Q:aj->ax->Prop}(hh:A.handled=none) (hS:SO prog w (bt w) s.heap a ks)
  (q:∀ I h1 d (vs:List aj) (ns:List Int) fp St,Walks prog w A I fp [I] vs.length (λi v=>vs[i]?=some v) St->St 0 h1->(∀ b o,s.heap.get? b=some o->h1.get? b=some o)->I∈fp->(∀ b∈fp,b=a\/s.heap.objs.size<=b)->s.heap.objs.size<=I->eW vs ns->ns.Perm ks->Q (.ref I) { s with heap:=h1,drawn:=d }) :
  aH (aL prog w) A (PF (.ref a)) Q E s:=by
 have hlt:=hS.lt;obtain ⟨o,es,ep,t,ho,hex,hd,hel,hin,hb,hf,ti,hled,rfl,hnd⟩:=hS
 have hT:s.TypeIs (.ref a) "set":=⟨o,ho,hex.1⟩
 have hints:∀ {l:List (Int×aj)},(∀ e∈l,∃ u,e.2=.int (key e) u)->eW (l.map (·.2)) (l.map key):=by
  intro l
  induction l with
  | nil=>intro _;exact .nil
  | cons e l ih =>
   intro h;obtain ⟨u,eu⟩:=h e aw;rw [aV,aV,eu];exact .cons _ _ (ih λe' he'=>h e' (ai _ he'))
 refine Je hT F.slot_set_iter (cO F.slot_set_iter hT CC ?_ (F.args_set_iter_1 _));unfold ij.«frozenset.__iter__» Y1 PX;simp only [List.isEmpty_nil,Bool.not_true,bY,↓reduceIte,bind_assoc,lz,bne_self_eq_false];unfold Y2 Y3;refine aa (ak ?_)
 try dsimp only
 refine aa (ak ?_);refine aa (aa (lO ho hd hf (ak ?_)));refine aa ?_;unfold setDrawn;refine aa (i5 ho hd hf ?_);dsimp only;refine aa ?_;unfold FW;refine aa (iA (ak (ak ?_)));have hz:es.size<=aW:=Jg hb
 have hrs:RS s.heap a es ep t:=⟨o,ho,hex,hd,hf⟩
 refine jZ (λhdr=>?_) (λhdr=>?_)
 .refine aa (NQ es.size (gK es.size) qV λord d hp=>?_)
  have hol:ord.length=es.size:=by rw [hp.length_eq,qV]
  refine aa (Bw ?_ (by rw [ag,hol];exact hz));have k1:∀ b ob,s.heap.get? b=some ob->(s.heap.push (b8 "tuple" (ord.map λ(i:Nat)=>cw (i:Int)).toArray 0)).get? b=some ob:=λb ob e=>ar _ e;have gT:(s.heap.push (b8 "tuple" (ord.map λ(i:Nat)=>cw (i:Int)).toArray 0)).get? s.heap.objs.size=some (b8 "tuple" (ord.map λ(i:Nat)=>cw (i:Int)).toArray 0):=aK _ rfl;have hsz:(s.heap.push (b8 "tuple" (ord.map λ(i:Nat)=>cw (i:Int)).toArray 0)).objs.size=s.heap.objs.size+1:=i8 ..;generalize s.heap.push (b8 "tuple" (ord.map λ(i:Nat)=>cw (i:Int)).toArray 0)=h0 at k1 gT hsz;refine aa (wpAny_setEpoch_of (s:={ s with heap:=h0,drawn:=d }) (k1 _ _ ho) hd hf ?_);unfold newFields;refine aa (cP (ak ⟨_,rfl,"set_iterator",_,⟨_,aK _ rfl,rfl⟩,fj.lookup,?_⟩))
  have hmem:∀ p∈ord,p<es.size:=λp hpm=>by simpa using hp.mem_iff.mp hpm
  have hget:∀ p,p<es.size->es[p]?=some (es.getD p (0,.none)):=λp hp'=>by rw [b9 hp'];simp [TZ,hp']
  have hperm:(ord.map λp=>es.getD p (0,.none)).Perm es.toList:=by
   refine (hp.map _).trans ?_
   have:(gK es.size).map (λp=>es.getD p (0,.none))=es.toList:=by
    apply qU
    intro i;rw [aB]
    by_cases hi:i<es.size
    .rw [List.getElem?_range hi,dJ,hget i hi];rfl
    .rw [dN (by rw [qV];lia),dN (by rw [aM];lia)];rfl
   rw [this]
  have hsub:∀ e∈ord.map (λp=>es.getD p (0,.none)),∃ u,e.2=.int (key e) u:=λe he=>hin e (hperm.mem_iff.mp he)
  have hst:yD (h0.push { cls:=.type "set_iterator",data:=.fields [aD s.heap.objs.size,cw 0,.ref a,cw es.size,cw ep].toArray }) h0.objs.size (.ref s.heap.objs.size) 0 a es.size ep:=⟨_,aK _ rfl,rfl,rfl⟩
  have haI:a≠h0.objs.size:=by rw [hsz];exact aZ (rL hlt)
  have hTI:s.heap.objs.size≠h0.objs.size:=by rw [hsz];exact aZ (ji _)
  refine q h0.objs.size _ d ((ord.map λp=>es.getD p (0,.none)).map (·.2)) ((ord.map λp=>es.getD p (0,.none)).map key) [h0.objs.size,a,s.heap.objs.size] _ (Ry (es:=es) (ep:=ep) (t:=t) (ord:=ord) hh h0.objs.size a s.heap.objs.size haI hTI) ⟨hst,hrs.keep λob e=>ar _ (k1 _ _ e),⟨_,ar _ gT,rfl⟩,by rw [ag,ag],λi p hip=>?_⟩
   (λb ob e=>ar _ (k1 _ _ e)) (by simp) (λb hb'=>?_) (by rw [hsz];exact jv _) (hints hsub) (hperm.map key)
  .have hpl:=hmem p (aN hip);exact ⟨_,hget p hpl,by rw [aB,aB,hip];rfl⟩
  .simp only [aq,c8,or_false] at hb'
   rcases hb' with rfl|rfl|rfl
   .exact .inr (by rw [hsz];exact jv _)
   .exact .inl rfl
   .exact .inr (au _)
 .refine aa (ak (aa (wpAny_setEpoch_of ho hd hf ?_)));unfold newFields;refine aa (cP (ak ⟨_,rfl,"set_iterator",_,⟨_,aK _ rfl,rfl⟩,fj.lookup,?_⟩))
  have hst:yD (s.heap.push { cls:=.type "set_iterator",data:=.fields [cw 0,cw 0,.ref a,cw es.size,cw ep].toArray }) s.heap.objs.size (cw 0) 0 a es.size ep:=⟨_,aK _ rfl,rfl,rfl⟩
  obtain ⟨vs,sl,ns,hord,hiv,hpn⟩:∃ vs sl ns,Ord w a es ep t vs sl/\eW vs ns/\ns.Perm (es.toList.map key):=by
   by_cases hbt:bt w=true
   .have hpp:=Gv (w.params.setOrder a ep) es.size 0 es.toList #[] (aM).symm;rw [show (#[]:Array (Int×aj)).toList++es.toList=es.toList by simp] at hpp;have hpp:(BU (w.params.setOrder a ep) es).toList.Perm es.toList:=hpp;exact ⟨(BU (w.params.setOrder a ep) es).toList.map (·.2),λ_=>0,(BU (w.params.setOrder a ep) es).toList.map key,⟨rfl,by rw [ag,hpp.length_eq,aM],.inl ⟨hbt,rfl,λ_=>rfl⟩⟩,hints λe he=>hin e (hpp.mem_iff.mp he),hpp.map key⟩
   .have hbf:bt w=false:=by cases h:bt w<;>simp_all
    refine ⟨es.toList.map (·.2),λi=>match i with|0=>0|k+1=>t.place.getD k 0+1,es.toList.map key,⟨rfl,by rw [ag,aM],.inr ⟨hbf,rfl,?_,by rw [hled,hbf];rfl,ti.rise,λi p hp=>?_⟩⟩,hints hin,uf _⟩
    .cases hx:(!t.plain && decide (es.size>1)) with
     | false=>rfl
     | true =>
      refine absurd ?_ hdr
      show (!(w.params.followText "set-order") && (!t.plain && decide (es.size>1)))=true
      rw [hx,show w.params.followText "set-order"=false from hbf];rfl
    .have:=(cB.mp hp)
     obtain ⟨hlt',e⟩:=this
     show t.place.getD i 0+1=p+1
     simp [TZ,hlt',e]
  have h0:=hord.1;refine q s.heap.objs.size _ s.drawn vs ns [s.heap.objs.size,a] _ (O3 hh s.heap.objs.size a (aZ hlt) hord) ⟨by rw [h0];exact hst,hrs.keep λob e=>ar _ e⟩ (λb ob e=>ar _ e) (by simp) (λb hb'=>?_) (au _) hiv hpn;simp only [aq,c8,or_false] at hb'
  rcases hb' with rfl|rfl
  .exact .inr (au _)
  .exact .inl rfl
end
end Sw
namespace Sw
open PySem.W
section
variable {prog:bA}{w:cg}{A:cL}{E:aj->ax->Prop}{s:ax}{a:af}
def RA {Q:Bool->ax->Prop}(hT:s.TypeIs (.ref a) "set") (h:Q false s):aH (aL prog w) A (jm (.ref a)) Q E s:=by
 unfold jm;refine aa (Np hT PySem.F.slot_set_len.lookup ?_);generalize hid:("set.__len__":String)=id0
 wp_delta
 rw [show splitId id0=some ("set","__len__") from by subst hid;decide +kernel];subst hid;refine aa (oJ (T:="set") (b:=true) hT (by rw [PV];kernel_rfl) ?_);refine jZ (λhab=>absurd hab (by decide)) (λ_=>?_);refine jZ (λ_=>?_) (λhab=>absurd (by decide +kernel) hab);refine aa (IY hT ?_);exact ak h
theorem RB {S:af}{ks:List Int}{R:VL->ax->Prop}(hh:A.handled=none) (hS:SO prog w (bt w) s.heap a ks) (hSa:S≠a) (hn:ks.length<=aW) (g:s.heap.get? S=some { cls:=.type "list",data:=.seq #[] 0 })
  (q:∀ h' tk d acc' c' (ns:List Int),(∀ b o,b≠S->s.heap.get? b=some o->h'.get? b=some o)->h'.get? S=some { cls:=.type "list",dict:=none,data:=.seq acc' c',slots:=#[] }->eW acc'.toList ns->ns.Perm ks->R (.ok (.ret (.ref S))) { s with heap:=h',toks:=tk,drawn:=d }) :
  lp (aL prog w) A (.builtin "list.__iadd__" ⟨[.ref S,.ref a],[]⟩) R s:=by
 have hT:s.TypeIs (.ref a) "set":=let ⟨o,_,_,_,e,c,_⟩:=hS;⟨o,e,c.1⟩
 refine iW F.entry_list_iadd ?_;rw [gg F.plain_list_iadd _]
 show aH _ A.in1 (gC (.ref S) (.ref a) (.ref S)) _ _ s
 unfold gC;refine aa (IY (T:="set") hT ?_)
 have h1:jW (.ref S) (.ref a)=false:=by simp [jW,hSa]
 have h2:(fc "set" == fc "list")=false:=by decide
 have h3:(fc "set" == fc "tuple")=false:=by decide
 simp only [h1,h2,h3,Bool.or_false,bY,if_false];refine aa (Rz (A:=A.in1) hh hS λI h1 d vs ns fp St W st kp hI hfp hIl hiv hpn=>?_)
 have hSf:S∉fp:=λhm=>by
  rcases hfp S hm with e|e
  .exact hSa e
  .exact absurd (aJ g) (Nat.not_lt.mpr e)
 have hln:vs.length=ks.length:=by rw [hiv.length,hpn.length_eq]
 have hn':vs.length<=aW:=by lia
 have hT1:({ s with heap:=h1,drawn:=d }:ax).TypeIs (.ref a) "set":=let ⟨o,e,c⟩:=hT;⟨o,kp _ _ e,c⟩
 have key:∀ (h:cK) (c₁:Nat),St 0 h->(∀ b o,b≠S->s.heap.get? b=some o->h.get? b=some o)->h.get? S=some { cls:=.type "list",data:=.seq #[] c₁ } ->
   lp (aL prog w) A (.builtin "list.extend.loop" ⟨[.ref S,.ref I,.ref S],[]⟩) R { s with heap:=h,drawn:=d }:=by
  intro h c₁ hst hk hS₁;refine codeAny_extend_loopS W.toS hn' S hSf (.ref S) vs.length 0 _ #[] c₁ rfl (aO _) hst hS₁ (ItemsOf.nil _) λs' acc' c' hm hS' hacc=>?_
  have es:s'={ s with heap:=s'.heap,toks:=s'.toks,drawn:=d }:=by have e:=Moved.eq_with hm;exact e
  rw [es];have ea:acc'.toList=vs:=L2.Rr hacc;refine q s'.heap s'.toks d acc' c' ns (λb o hb e=>hm.heap b o (λhmem=>?_) (hk b o hb e)) hS' (by rw [ea];exact hiv) hpn
  rcases aq.mp hmem with e'|hmem
  .exact hb e'
  .rw [ay.mp hmem] at e;exact absurd (aJ e) (Nat.not_lt.mpr hIl)
 refine aa (cq (RA hT1 ?_));refine jZ (λ_=>?_) (λ_=>ak ⟨j6 dY _,key _ 0 st (λb o _ e=>kp b o e) (kp _ _ g)⟩);refine aa (jo (aa ?_))
 show aH _ _ (Lx S (·.push .none) >>= λ_=>Lx S (·.pop)) _ _ _
 refine aa (qr (kp _ _ g) rfl ?_);have g2:=bP (bQ (·.push dC)) (kp _ _ g) rfl;refine qr (hz:=by seq_fits) g2 rfl ?_;have g3:=bP (bQ (·.pop)) g2 rfl;refine ak ⟨j6 dY _,key _ _ ?_ (λb o hb e=>?_) g3⟩
 .refine W.frame 0 _ _ st λb hb o e=>?_;have hbS:b≠S:=λh=>hSf (h▸hb);exact (bp _ _ (Ne.symm hbS)).trans ((bp _ _ (Ne.symm hbS)).trans e)
 .exact (bp _ _ (Ne.symm hb)).trans ((bp _ _ (Ne.symm hb)).trans (kp b o e))
def J5 {ks:List Int}{Q:List aj->ax->Prop}(hh:A.handled=none) (hS:SO prog w (bt w) s.heap a ks) (hn:ks.length<=aW)
  (q:∀ h' tk d vs (ns:List Int),(∀ b o,s.heap.get? b=some o->h'.get? b=some o)->eW vs ns->ns.Perm ks->Q vs { s with heap:=h',toks:=tk,drawn:=d }):aH (aL prog w) A (VU (.ref a)) Q E s:=by
 have hlt:=hS.lt;unfold VU;refine aa (wpAny_runValue (iW F.entry_proto_collect ?_));rw [gg F.plain_proto_collect _]
 show aH _ A.in1 (newList [] >>= λl=>again (.builtin "list.__iadd__" ⟨[l,.ref a],[]⟩)) _ _ s
 have g:(s.heap.push { cls:=.type "list",data:=.seq ([]:List aj).toArray }).get? s.heap.objs.size=some { cls:=.type "list",data:=.seq #[] 0 }:=aK _ rfl;refine aa (cP (ak ⟨j6 F.plain_list_iadd _,RB (s:={ s with heap:=s.heap.push { cls:=.type "list",data:=.seq ([]:List aj).toArray } }) hh (hS.keep λo e=>ar _ e) (fe hlt) hn g λh' tk d acc' c' ns hk hS' hi hp=>?_⟩))
 show aH _ A (load s.heap.objs.size >>= _) _ _ { s with heap:=h',toks:=tk,drawn:=d }
 refine aa (PH hS' (ak (q h' tk d acc'.toList ns (λb o e=>hk b o (aZ (aJ e)) (ar _ e)) hi hp)))
end
end Sw
namespace L2
open PySem.W
def Inv.drawn {X:Cx}{pins:List (af×iF)}{Z:St}{H:Hp}{s:ax}(I:Inv X pins Z H s) (d:Drawn):Inv X pins Z H { s with drawn:=d }:=⟨I.ok,I.os,I.bare,I.base,I.loc,I.cell,I.free,I.ow,I.pin,I.eJ,I.len⟩
def RC {ks ds:List Int}(hn:ks.Nodup) (h:∀ x∈ks,x∈ds):ks.length<=ds.length:=by
 induction ks generalizing ds with
 | nil=>simp
 | cons a ks ih =>
  obtain ⟨h1,h2⟩:=a7.mp hn;obtain ⟨l1,l2,rfl⟩:=lF (h a aw)
  have:=ih (ds:=l1++l2) h2 λx hx=>by
   have hx':=h x (ai _ hx)
   rcases aQ.mp hx' with q|q
   .exact dU _ q
   .rcases aq.mp q with q|q
    .exact absurd (q▸hx) h1
    .exact bO _ q
  simp at this ⊢;lia
section
variable {X:Cx}{x:Expr}{t:TA}{p1 p2 q1 q2:ue}
end
section
variable {X:Cx}
end
end L2
namespace L2
variable {K:ae}{H:Hp}{h base h':cK}{x qual q:bB}{f a C:af}{P:bA}{w:cg}{X:Cx}{s:ax}{E:XK}{mg:bB->Option aj}{ps N:List bB}{Z:St}{k:Nat}{pos p np cpos:ue}{st:dF}{sp:Sp}{cd cls:aj}{pins:List (af×iF)}{sl:Array (Option aj)}{fd:fN}{scope:rQ}{A:cL}{outer:List yJ}{e:Expr}{es:List Expr}{t:TA}{o:iF}{pl:LF Bool}
def Kp (h h':cK):Prop:=∀ b o,h.get? b=some o->∃ o',h'.get? b=some o'/\o'.cls=o.cls/\o'.dict=o.dict
def Kp.refl (h:cK):Kp h h:=λb o e=>⟨o,e,rfl,rfl⟩
def Kp.trans {h1 h2:cK}(a:Kp h h1) (b:Kp h1 h2):Kp h h2:=λc o e=>by
 obtain ⟨o1,e1,p1,q1⟩:=a c o e;obtain ⟨o2,e2,p2,q2⟩:=b c o1 e1;exact ⟨o2,e2,p2.trans p1,q2.trans q1⟩
inductive Quiet {α:Type}:LF α->Prop where
 | pure (a:α):Quiet (.pure a)
 | unsup (w:String):Quiet (.unsupported w)
 | load {a:af}{p:Option aj}{k:iF->LF α}(h:∀ o,Quiet (k o)):Quiet (.load a p k)
 | update {a:af}{p:Option aj}{f:iF->iF}{k:Unit->LF α}(hf:∀ o,(f o).cls=o.cls/\(f o).dict=o.dict/\(o.isFreed=false->(f o).isFreed=false)) (h:Quiet (k ())):Quiet (.update a p f k)
 | alloc {o:iF}{k:af->LF α}(h:∀ a,Quiet (k a)):Quiet (.alloc o k)
 | stack {k:List (Code×ue)->LF α}(h:∀ x,Quiet (k x)):Quiet (.stack k)
def Quiet.bind {α β:Type} {t:LF α}{f:α->LF β}(ht:Quiet t) (hf:∀ a,Quiet (f a)):Quiet (t.bind f):=by
 induction ht with
 | pure a=>exact hf a
 | unsup w=>exact .unsup w
 | load h ih=>exact .load ih
 | update h1 h2 ih=>exact .update h1 ih
 | alloc h ih=>exact .alloc ih
 | stack h ih=>exact .stack ih
def Quiet.bind' {α β:Type} {t:LF α}{f:α->LF β}(ht:Quiet t) (hf:∀ a,Quiet (f a)):Quiet (t >>= f):=ht.bind hf
def O5 {b:af}(e:h.get? b=some o):o.isFreed=false:=by
 unfold Heap.get? at e
 split at e
 .cases e
 .rename_i x hx
  obtain ⟨c,d,da,sl⟩:=o
  cases da with
  | freed=>exact absurd e (hx c d sl)
  | _=>rfl
def O6 {f:iF->iF}(hf:∀ o,(f o).cls=o.cls/\(f o).dict=o.dict/\(o.isFreed=false->(f o).isFreed=false)):Kp h (h.update a f):=λb o e=>by
 by_cases hb:b=a
 .subst hb;exact ⟨f o,bP f e ((hf o).2.2 (O5 e)),(hf o).1,(hf o).2.1⟩
 .exact ⟨o,by rw [bp _ _ (Ne.symm hb)];exact e,rfl,rfl⟩
def U0:Kp h (h.push o):=λb u e=>⟨u,ar o e,rfl,rfl⟩
def Quiet.wp {α:Type} {t:LF α}(ht:Quiet t) {M:Model}{Γ:PySem.Ctx}:∀ {Q:α->ue->ax->Prop}{E:aj->ue->ax->Prop}{p:ue}{s:ax},Sem.wp M Γ t Q E p s->Sem.wp M Γ t (λa p' s'=>Q a p' s'/\Kp s.heap s'.heap) E p s:=by
 induction ht with
 | pure a=>intro Q E p s h;exact ⟨h,Kp.refl _⟩
 | unsup w=>intro Q E p s h;exact h
 | load h ih=>intro Q E p s h;obtain ⟨o,e,q⟩:=h;exact ⟨o,e,ih o q⟩
 | update hf h ih =>
  intro Q E p s h;obtain ⟨e,q⟩:=h
  exact ⟨e,Sem.wp_mono _ _ _ (λx p' s' z=>⟨z.1,(O6 hf).trans z.2⟩) (λ_ _ _ z=>z) _ _ (ih q)⟩
 | alloc h ih=>intro Q E p s h;exact Sem.wp_mono _ _ _ (λx p' s' z=>⟨z.1,U0.trans z.2⟩) (λ_ _ _ z=>z) _ _ (ih _ h)
 | stack h ih=>intro Q E p s h;exact ih _ h
def mP {α:Type} {t:LF α}(ht:Quiet t) {M:Model}{A:cL}{Q:α->ax->Prop}{E:aj->ax->Prop}{s:ax}(h:aH M A t Q E s):aH M A t (λa s'=>Q a s'/\Kp s.heap s'.heap) E s :=
 λΓ p hΓ=>ht.wp (h Γ p hΓ)
def Ml (a:af):Quiet (load a):=.load λo=>.pure o
def Ht:Quiet stack:=.stack λx=>.pure x
def RD (v:aj):Quiet (fieldsOf v):=by
 unfold fieldsOf
 split
 .refine (Ml _).bind' λo=>?_
  split
  .exact .pure _
  .exact .unsup _
 .exact .unsup _
def BG (v:aj) (i:Nat):Quiet (field v i):=by
 unfold field;refine (RD v).bind' λo=>?_
 split
 .exact .pure _
 .exact .unsup _
def O7 (g:Array aj->Array aj) (o:iF):(iT g o).cls=o.cls/\(iT g o).dict=o.dict/\(o.isFreed=false->(iT g o).isFreed=false):=by
 obtain ⟨c,d,da,sl⟩:=o
 cases da<;>first|exact ⟨rfl,rfl,λz=>z⟩|exact ⟨rfl,rfl,λ_=>rfl⟩
def wc (v:aj) (i:Nat) (x:aj):Quiet (PR v i x):=by
 unfold PR
 split
 .unfold updateField;refine (Ml _).bind' λo=>?_
  split
  .split
   .exact .update (O7 _) (.pure _)
   .exact .unsup _
  .exact .unsup _
 .exact .unsup _
def J7:Quiet frameEnvs:=Ht.bind' λ_=>.pure _
def RE (env:yJ) (outer:List yJ):Quiet (behindIsImport env outer):=by
 unfold behindIsImport
 split
 .exact .pure _
 .split
  .exact .pure _
  .exact (BG _ _).bind' λ_=>.pure _
def Yl (env:yJ) (b:Bool) (outer:List yJ):Quiet (keptBack env b outer):=by
 unfold keptBack
 split
 .split
  .exact .pure _
  .exact (Ht.bind' λ_=>.pure _:Quiet underTheClaimsCaller).bind' λ_=>.pure _
 .exact .pure _
theorem NR:∀ l:List yJ,Quiet (readyFrames l)
 | []=>by rw [LA];exact .pure _
 | env::outer=>by
  rw [LA];simp only
  split
  .refine (Ml _).bind' λo=>?_
   split
   .exact .pure _
   .refine (RE _ _).bind' λ_=>?_;refine (Yl _ _ _).bind' λ_=>?_;refine Quiet.bind' (.update (λo=>⟨rfl,rfl,λz=>?_⟩) (.pure _)) λ_=>NR outer;obtain ⟨c,d,da,sl⟩:=o
    cases da<;>first|exact z|rfl|(unfold Obj.isFreed at z ⊢;exact z)
  .exact .unsup _
def Mm (l:List yJ):Quiet (frameObject l):=by
 unfold frameObject
 split
 .exact .pure _
 .exact (NR _).bind' λ_=>.pure _
def O8 (env:yJ):Quiet (LB env):=by
 unfold LB;refine J7.bind' λ_=>?_;refine (Mm _).bind' λ_=>?_
 split
 .exact .pure _
 .exact .unsup _
def U3 (f:af) (b:Bool):Quiet (VV f b):=by
 unfold VV;refine Ht.bind' λ_=>?_
 split
 .exact .pure _
 .exact .pure _
def RF (ty:String) (d:Data) (x:Option af):Quiet (newObjAsIs (.type ty) d x):=by
 unfold newObjAsIs;exact Quiet.bind' (.alloc λ_=>.pure _) λ_=>.pure _
def U4 (a b c d e:aj) (p:List aj):Quiet (uE a b c d e p):=by
 unfold uE newFields;generalize ([a,b,c,d,e]++if p.isEmpty=true then j5 6 dC else p)=vs;unfold newObj;simp only
 split
 .exact Quiet.bind' (.unsup _) λ_=>RF _ _ _
 .exact RF _ _ _
def RG (v:aj) (env:yJ):Quiet (noteFrame v env):=by
 unfold noteFrame
 split
 .refine (BG _ _).bind' λhead=>?_
  have jp:∀ f,Quiet (do
    let x ← LB env
    let y ← VV f (head != dC)
    let z ← uE head x dC (cw ↑f) dC y
    PR v 1 z):=λf=>by
   refine (O8 _).bind' λ_=>?_;refine (U3 _ _).bind' λ_=>?_;refine (U4 _ _ _ _ _ _).bind' λ_=>wc _ _ _
  split
  .refine (BG _ _).bind' λ_=>?_
   split
   .exact .pure _
   .exact (wc _ _ _).bind' λ_=>jp _
  .exact jp _
 .exact .unsup _
def CF (v:aj) (f:Option af):Quiet (setFlight v f):=by
 unfold setFlight;refine (BG _ _).bind' λ_=>?_
 split
 .exact wc _ _ _
 .exact .pure _
def Gw (env:yJ) (v:aj):Quiet (leaving env v):=(RG _ _).bind' λ_=>CF _ _
def eU.at {o:HO}(x:eU P w H h a o):∃ u,h.get? a=some u:=by
 cases o with
 | lst xs=>obtain ⟨_,_,_,_,e⟩:=x;exact ⟨_,e⟩
 | tup xs=>obtain ⟨_,_,_,o,e,_⟩:=x;exact ⟨_,e⟩
 | dK kvs=>obtain ⟨_,_,_,_,o,_,_,e,_⟩:=x;exact ⟨_,e⟩
 | dT kvs=>obtain ⟨_,_,_,_,o,_,_,e,_⟩:=x;exact ⟨_,e⟩
 | set S n=>obtain ⟨o,_,_,_,e,_⟩:=x;exact ⟨_,e⟩
 | ins C dx fs=>obtain ⟨_,_,_,e,_⟩:=x;exact ⟨_,e⟩
 | own y=>obtain ⟨_,e⟩:=x;exact ⟨_,e⟩
 | xd fs=>obtain ⟨_,⟨_,_,_,e,_⟩,_⟩:=x;exact ⟨_,e⟩
 | rng lo hi=>obtain ⟨_,_,_,e⟩:=x;exact ⟨_,e⟩
 | frz ob u=>obtain ⟨e,_⟩:=x;exact ⟨_,e⟩
 | tbl ps=>exact ⟨_,(show h.get? a=some _ from x)⟩
 | met f y=>exact ⟨_,(show h.get? a=some _ from x)⟩
 | ext φ=>obtain ⟨_,⟨_,e⟩,_⟩:=x;exact ⟨_,e⟩
structure Fly (P:bA) (w:cg) (st:List yJ) (H:Hp) (s:ax) (H2:Hp) (a:af) (B h:cK):Prop where
 un:Un (vT st) [] H H2 s.heap h
 eJ:rH P w H2 h
 stays:B.StaysIn h
 has:∀ b o,H2 b=some o->∃ u,B.get? b=some u
 old:∀ b o,s.heap.get? b=some o->b∉vT st->∃ u,B.get? b=some u
 no:B.get? a=none
 dict:∃ o,h.get? a=some o/\o.dict=none
section
variable {st:List yJ}{H2:Hp}{B:cK}
def Fly.step (F:Fly P w st H s H2 a B h) (hf:∀ b∈vT st,H b=none/\∃ o,s.heap.get? b=some o/\∀ vs,o.data≠.fields vs) (us:h.UpToSlots h') (sy:B.StaysIn h') (kp:Kp h h'):Fly P w st H s H2 a B h':=by
 have keep:∀ b o u,B.get? b=some u->h.get? b=some o->h'.get? b=some o:=λb o u e1 e2=>by
  have:=F.stays b u e1;rw [e2] at this;cases this;exact sy b _ e1
 have slot:∀ b o,s.heap.get? b=some o->H b=none->b∈vT st->∃ sl,h'.get? b=some { o with slots:=sl }:=λb o e n hb=>by
  obtain ⟨sl,e1⟩:=F.un.slot b o e n hb (by simp);obtain ⟨_,o',e',nd⟩:=hf b hb;rw [e] at e';cases e';obtain ⟨sl',e2⟩:=us b { o with slots:=sl } e1 nd;exact ⟨sl',e2⟩
 refine ⟨⟨λb o e n hb _=>?_,λb o e n hb _=>slot b o e n hb,λb o e n _=>F.un.free b o e n (by simp),λb o e _=>?_,F.un.wD,F.un.uS,F.un.uU⟩,λb o e=>?_,sy,F.has,F.old,F.no,?_⟩
 .obtain ⟨u,hu⟩:=F.old b o e hb;exact keep b o u hu (F.un.keep b o e n hb (by simp))
 .by_cases hb:b∈vT st
  .obtain ⟨sl,e1⟩:=slot b o e (hf b hb).1 hb;exact ⟨_,e1⟩
  .obtain ⟨u,hu⟩:=F.old b o e hb;exact ⟨u,sy b u hu⟩
 .refine (F.eJ b o e).uT (λc v hc r=>?_) (λ_ z=>z) λ_ _ z=>z
  obtain ⟨u,hu⟩:∃ u,B.get? c=some u:=by
   rcases hc with rfl|hc
   .exact F.has _ o e
   .exact F.has _ _ hc
  exact keep c v u hu r
 .obtain ⟨o,e,d⟩:=F.dict;obtain ⟨o',e',_,d'⟩:=kp a o e;exact ⟨o',e',d'.trans d⟩
end
def Gx (P:bA) (w:cg):JE:=λouter H s E e s'=>∃ (a:af) (cls a0:aj) (B:cK) (H2:Hp),e=.ref a/\s'.os=s.os/\ux s'.gens/\B.FlyingW outer a cls a0 s'.heap/\Fly P w outer H s H2 a B s'.heap/\E cls none H2
def CG (I:Inv X pins Z H s):∀ b∈vT X.stack,H b=none/\∃ o,s.heap.get? b=some o/\∀ vs,o.data≠.fields vs:=λb hb=>⟨I.BM b hb,(I.stack.mem hb).2⟩
section
variable {E':XK}
theorem O9 {H1:Hp}{s1:ax}{args:List aj}(I:Inv (lH (Gx P w) P w K mg base N qual scope f cd A outer s H E) pins Z H1 s1) (mk:s1.heap.MadeExcOf h' a cls args) (q:E cls none H1) :
  (lH (Gx P w) P w K mg base N qual scope f cd A outer s H E).xe (.ref a) { s1 with heap:=h' }:=by
 have hL:∀ b o,s.heap.get? b=some o->b≠s.heap.objs.size:=λb o e=>aZ (aJ e)
 have hfr:∀ b o,s.heap.get? b=some o->b∉vT outer->b∉vT (lM qual scope s.heap.objs.size f cd::outer):=λb o e hb z=>by
  rcases aq.mp (show b∈s.heap.objs.size::vT outer from z) with z|z
  .exact hL b o e z
  .exact hb z
 have V2:∀ b o u,H1 b=some o->s1.heap.get? b=some u->(rY s1.heap (vT (lM qual scope s.heap.objs.size f cd::outer))).get? b=some u:=λb o u e r =>
  kj _ r λz=>by have:=I.BM b z;rw [e] at this;cases this
 refine gp (mP (Gw _ _) (wpAny_leaves_madeW (base:=rY s1.heap (vT (lM qual scope s.heap.objs.size f cd::outer))) (h:=s1.heap) (L:=s.heap.objs.size) (outer:=outer) (Q:=λ_ s2=>∃ t,(rY s1.heap (vT (lM qual scope s.heap.objs.size f cd::outer))).FlyingW outer a cls (.ref t) s2.heap/\h'.UpToSlots s2.heap/\s2.os=s1.os/\s2.gens=s1.gens)
  I.ok.frames rfl (λb o e=>PD _ e) (PySem.W.funFrames_hide I.stack λe he c hc=>lD.mpr ⟨e,he,hc⟩) mk λh2 t fl tp nt us=>⟨t,fl,us,rfl,rfl⟩)) λ_ s2 ⟨⟨t,fl,us,e1,e2⟩,kp⟩=>?_
 have slot:∀ b o,s.heap.get? b=some o->H b=none->b∈vT outer->∃ sl,s2.heap.get? b=some { o with slots:=sl }:=λb o e n hb=>by
  obtain ⟨sl,e3⟩:=I.base.slot b o e n hb (by simp [lH]);obtain ⟨_,o',e',nd⟩:=I.ok.rO.mem hb;have e':s.heap.get? b=some o':=e';rw [e] at e';cases e';obtain ⟨sl',e4⟩:=us b { o with slots:=sl } (mk.keeps b { o with slots:=sl } e3) nd;exact ⟨sl',e4⟩
 refine ⟨a,cls,.ref t,_,H1,rfl,e1.trans I.os,by rw [e2];exact I.bare,fl,⟨⟨λb o e n hb _=>?_,λb o e n hb _=>slot b o e n hb,λb o e n _=>I.base.free b o e n (by simp [lH]),λb o e _=>?_,I.base.wD,I.base.uS,I.base.uU⟩,λb o e=>?_,fl.1,λb o e=>?_,λb o e hb=>?_,fl.2.1,?_⟩,q⟩
 .exact fl.1 b o (kj _ (I.base.keep b o e n hb (by simp [lH])) (hfr b o e hb))
 .by_cases hb:b∈vT outer
  .obtain ⟨sl,e3⟩:=slot b o e (I.ok.Ou b hb) hb;exact ⟨_,e3⟩
  .obtain ⟨o',e3⟩:=I.base.there b o e (by simp [lH]);exact ⟨o',fl.1 b o' (kj _ e3 (hfr b o e hb))⟩
 .refine (I.eJ b o e).uT (λc v hc r=>fl.1 c v ?_) (λ_ z=>z) λ_ _ z=>z
  rcases hc with rfl|hc
  .exact V2 _ o v e r
  .exact V2 _ _ v hc r
 .obtain ⟨u,hu⟩:=(I.eJ b o e).at;exact ⟨u,V2 b o u e hu⟩
 .obtain ⟨o',e3⟩:=I.base.there b o e (by simp [lH]);exact ⟨o',kj _ e3 (hfr b o e hb)⟩
 .obtain ⟨t',e3,_⟩:=mk.there;obtain ⟨o',e4,_,d⟩:=kp a _ e3;exact ⟨o',e4,d⟩
def U5 (hE:∀ cls H,E cls none H->E' cls none H):lX (Gx P w) (lH (Gx P w) P w K mg base N qual scope f cd A outer s H E') E:=by
 rintro pins Z H1 s1 e s2 I ⟨a,cls,a0,B,H2,rfl,os,bare,fl,F,q⟩
 have hfr:∀ b o,s.heap.get? b=some o->b∉vT outer->b∉vT (lM qual scope s.heap.objs.size f cd::outer):=λb o e hb z=>by
  rcases aq.mp (show b∈s.heap.objs.size::vT outer from z) with z|z
  .exact aZ (aJ e) z
  .exact hb z
 refine gp (mP (Gw _ _) (wpAny_leaves_onW (L:=s.heap.objs.size) (outer:=outer) (Q:=λ_ s3=>B.FlyingW outer a cls a0 s3.heap/\s2.heap.UpToSlots s3.heap/\s3.os=s2.os/\s3.gens=s2.gens) I.ok.frames rfl fl λh' fl' us=>⟨fl',us,rfl,rfl⟩)) λ_ s3 ⟨⟨fl',us,e1,e2⟩,kp⟩=>?_;have F':=F.step (CG I) us fl'.1 kp;refine ⟨a,cls,a0,B,H2,rfl,(e1.trans os).trans I.os,by rw [e2];exact bare,fl',⟨⟨λb o e n hb _=>?_,λb o e n hb _=>?_,λb o e n _=>?_,λb o e _=>?_,λb xs e=>F'.un.wD _ _ (I.base.wD _ _ e),λb o u e=>F'.un.uS _ _ _ (I.base.uS _ _ _ e),λb ps e=>?_⟩,F'.eJ,F'.stays,F'.has,λb o e hb=>?_,F'.no,F'.dict⟩,hE _ _ q⟩
 .exact F'.un.keep b o (I.base.keep b o e n hb (by simp [lH])) (I.base.free b o e n (by simp [lH])) (hfr b o e hb) (by simp)
 .obtain ⟨sl,e3⟩:=I.base.slot b o e n hb (by simp [lH]);obtain ⟨sl',e4⟩:=F'.un.slot b _ e3 (I.base.free b o e n (by simp [lH])) (ai _ hb:b∈s.heap.objs.size::vT outer) (by simp);exact ⟨sl',e4⟩
 .obtain ⟨o',e3⟩:=I.base.there b o e (by simp [lH]);exact F'.un.free b o' e3 (I.base.free b o e n (by simp [lH])) (by simp)
 .obtain ⟨o',e3⟩:=I.base.there b o e (by simp [lH]);exact F'.un.there b o' e3 (by simp)
 .obtain ⟨m1,e3⟩:=I.base.uU b ps e;obtain ⟨m2,e4⟩:=F'.un.uU b _ e3;exact ⟨m1++m2,by rw [e4,pI]⟩
 .obtain ⟨o',e3⟩:=I.base.there b o e (by simp [lH]);exact F'.old b o' e3 (hfr b o e hb)
end
abbrev RH:List aj:=[.type "ValueError",.type "Exception",.type "BaseException",.type "object"]
def NsQ (K:ae) (N:af):Prop:=VW K N=true/\∀ n∈P0,bX K N n=some none
def nsq {N:af}{c:aj}{d:Option af}{es:Array DictEntry}{ep:Nat}(h:cR N K=some ⟨c,d,.dict es ep,sl⟩)
  (ho:(es.toList.all λe=>match e.key with | .str _ _=>true|_=>false)=true) (h1:bX K N "__init__"=some none) (h2:bX K N "__getattribute__"=some none) (h3:bX K N "__getattr__"=some none) (h4:bX K N "args"=some none):NsQ K N:=by
 refine ⟨?_,λn hn=>?_⟩
 .unfold VW;rw [h];simp only [← Array.all_toList];exact ho
 .unfold P0 at hn;simp only [aq,c8,or_false] at hn
  rcases hn with rfl|rfl|rfl|rfl
  .exact h1
  .exact h2
  .exact h3
  .exact h4
def Hu (K:ae) (C:af):Prop:=∃ (N A:af) (nm q:bB) (bs:List aj) (hdct:Bool) (sn:List bB) (sub:List aj) (ab:Bool) (col:Option Bool) (dd:Option af) (k0 k1 k2 k3 k5:Option aj) (c0:aj) (dd':Option af) (cd:ClassData) (sl:Array (Option aj)),
 cR C K=some (Y4 nm q C N bs (.ref A::RH) hdct sn sub ab col dd k0 k1 k2 k3 k5 "ValueError.__new__")/\cR A K=some ⟨c0,dd',.cls cd,sl⟩/\NsQ K N/\NsQ K cd.ns
def exK {N A:af}{nm:bB}{bs:List aj}{hdct:Bool}{sn:List bB}{sub:List aj}{ab:Bool}{col:Option Bool}{dd:Option af}{k0 k1 k2 k3 k5:Option aj}{c0:aj}{dd':Option af}{cd:ClassData}
  (h1:cR C K=some (Y4 nm q C N bs (.ref A::RH) hdct sn sub ab col dd k0 k1 k2 k3 k5 "ValueError.__new__")) (h2:cR A K=some ⟨c0,dd',.cls cd,sl⟩) (h3:NsQ K N) (h4:NsQ K cd.ns):Hu K C :=
 ⟨N,A,nm,q,bs,hdct,sn,sub,ab,col,dd,k0,k1,k2,k3,k5,c0,dd',cd,sl,h1,h2,h3,h4⟩
def U6 (X:K.In h) (e:Hu K C):∃ bm N nm q bs hdct sn sub ab col dd k0 k1 k2 k3 k5 mN,
  h.get? C=some (Y4 nm q C N bs bm hdct sn sub ab col dd k0 k1 k2 k3 k5 "ValueError.__new__")/\h.Ns N mN/\(∀ n∈P0,mN n=none)/\OwnTailQ h RH bm:=by
 obtain ⟨N,A,nm,q,bs,hdct,sn,sub,ab,col,dd,k0,k1,k2,k3,k5,c0,dd',cd,sl,h1,h2,⟨n1,n2⟩,⟨m1,m2⟩⟩:=e;refine ⟨.ref A::RH,N,nm,q,bs,hdct,sn,sub,ab,col,dd,k0,k1,k2,k3,k5,h.nsMap N,X _ _ h1,Uq (P8 X n1),λn hn=>Jj X n1 (n2 n hn),?_⟩;exact .own (X _ _ h2) (Uq (P8 X m1)) (λn hn=>Jj X m1 (m2 n hn)) .base
structure Exc (K:ae) (mg:bB->Option aj) (x:bB) (C:af):Prop where
 at_:mg x=some (.ref C)
 ex:Hu K C
def CI (cls:aj) (E:XK):TS:=λ_ _ H=>E cls none H
def J8 (X:Cx) (E:XK):Prop:=∀ (pins:List (af×iF)) (Z:St) (H:Hp) (s:ax) (h':cK) (a:af) (cls:aj) (args:List aj),Inv X pins Z H s->s.heap.MadeExcOf h' a cls args->E cls none H->X.xe (.ref a) { s with heap:=h' }
def CJ {txt:bB}{cp:ue}(hc:X.calm=true) (hg:Gl X x) (ex:Exc X.K X.mg x C) (hx:J8 X E) (hd:(x == ("__debug__":bB))=false:=by decide) :
  PS X (.Raise (some (.Call (.Name x np) [.Constant (.str txt) k cp] [] cpos)) none pos) (CI (.ref C) E):=by
 intro pins s Z H D I h;obtain ⟨bm,N,nm,q,bs,hdct,sn,sub,ab,col,dd,k0,k1,k2,k3,k5,mN,o1,o2,o3,o4⟩:=U6 I.mod.Zi ex.ex;refine wpAny_Raise_call_subT (bmB:=RH) (nm:=nm) (q:=q) (C:=C) (N:=N) (bs:=bs) (hdct:=hdct) (sn:=sn) (sub:=sub) (ab:=ab) (col:=col) (dd:=dd) (k0:=k0) (k1:=k1) (k2:=k2) (k3:=k3) (k5:=k5) F.excBase_ValueError (o4.tail.hasType rfl) (I.ok.hd hc) rfl (o3 _ (by simp [P0])) ?_;refine wW I hg ex.at_ ⟨rfl,?_⟩ hd;refine PL ?_;refine gp ((show PA X [.Constant (.str txt) k cp] (av (tC (.str txt)) aY) from bh Xr cV) cpos pins s Z H (λvs H'=>vs.length=1/\H'=H) I ⟨rfl,rfl⟩) λus s2 ⟨vs,H',I2,r,hl,eH⟩=>?_;subst eH;refine ⟨rfl,by rw [← r.length,hl];decide,I2.bk _ _ o1,o2.keeps I2.bk,o4.tail.keeps I2.bk,λh' e mk=>hx pins Z H' s2 h' e _ _ I2 mk h⟩
def Ez.okR (F:Ez K x qual st f fd) (S:bH N ps (aS st)) (len:∀ vs H Q E,sp vs H Q E->vs.length=ps.length)
  (hbody:∀ (lT:aj) (A:cL) (outer:List yJ) (s:ax) (H:Hp) (vs:List V) (Q:VK) (E:XK),gZ k (A.deeper (lM qual (aS st) s.heap.objs.size f lT))->sp vs H Q E ->
   ∃ t,IT (lH (Gx P w) P w K mg base N qual (aS st) f lT A outer s H E) (jM st) t/\t { nx:=λ_ H'=>Q .non H',rt:=Q } (start N vs) H):jr P w K mg base (Gx P w) (k+1) f fd ps sp:=by
 obtain ⟨oc,od,kV,doc,pm,an,lT,ct,osl,rfl,lk,hcd⟩:=F.ex;exact QP lk hcd S len λA outer s H vs Q E hr hsp=>hbody lT A outer s H vs Q E hr hsp
def sF:J8 (lH (Gx P w) P w K mg base N qual scope f cd A outer s H E) E:=λ_ _ _ _ _ _ _ _ I mk q=>O9 I mk q
def NS:lX (Gx P w) (lH (Gx P w) P w K mg base N qual scope f cd A outer s H E) E:=U5 λ_ _ z=>z
abbrev Cx.marked (X:Cx) (a:af):Cx:={ X with A:=X.A.mark (some (.ref a)),calm:=false,xe:=λ_ _=>False }
def Inv.mark (I:Inv X pins Z H s) (a:af):Inv (X.marked a) pins Z H s :=
 ⟨⟨I.ok.mod,I.ok.kind,I.ok.glob,I.ok.blt,I.ok.above,I.ok.inj,I.ok.has,I.ok.VC,(λz=>nomatch z),I.ok.frames,I.ok.WX,I.ok.YR,I.ok.bs,I.ok.Nh,I.ok.IR,I.ok.IS,I.ok.rO,I.ok.Ou⟩,I.os,I.bare,I.base,I.loc,I.cell,I.free,I.ow,I.pin,I.eJ,I.len⟩
def Inv.unmark (ok:X.Ok) (I:Inv (X.marked a) pins Z H s):Inv X pins Z H s:=⟨ok,I.os,I.bare,I.base,I.loc,I.cell,I.free,I.ow,I.pin,I.eJ,I.len⟩
section
variable {CT:af}{xT n:bB}{epos hpos:ue}{th:TS}{i:Nat}{b₀:dF} {TN:List dF}
end
def NT {D:rN}(h:E cls none H):CI cls E D Z H:=h
section
variable {Q:VK}
end
structure Qj (P:bA) (w:cg) (K:ae) (mg:bB->Option aj) (base:cK) (CX:JE) (k:Nat) (x:bB) (ps:List bB) (sp:Sp) where
 f:af
 d:fN
 G:jr P w K mg base CX k f d ps sp
 m:mg x=some (.ref f)
 kp:eL K (.ref f)=true
 b:Binds K d ps []
structure IP (P:bA) (w:cg) (K:ae) (mg:bB->Option aj) (base:cK) (CX:JE) (k:Nat) (C:af) (x:bB) (ps:List bB) (sp:Sp) where
 f:af
 d:fN
 G:jr P w K mg base CX k f d ps sp
 m:UD K C x f
 b:Binds K d ps []
structure CalI (P:bA) (w:cg) (K:ae) (mg:bB->Option aj) (base:cK) (CX:JE) (k:Nat) (C:af) (ps:List bB) (sp:Sp) where
 f:af
 d:fN
 G:jr P w K mg base CX k f d ps sp
 m:Mk K C f
 b:Binds K d ps []
structure rG (K:ae) (mg:bB->Option aj) (x:bB) (st:dF) (ps:List bB) where
 f:af
 d:fN
 F:Ez K x x st f d
 m:mg x=some (.ref f)
 bt:∀ (s:ax) (us:List aj),us.length=ps.length->IW s d ⟨us,[]⟩ (ps.zip us)
 b:Binds K d ps []
structure lJ (K:ae) (C:af) (x q:bB) (st:dF) (ps:List bB) where
 f:af
 d:fN
 F:Ez K x q st f d
 a:bG K (.ref C) x=some (some (.ref f))
 i:rV K (.ref f)=true
 b:Binds K d ps []
def uM (X:K.In h) (G:h.Ns bF mg) {f:af}{od an:Option af}{sl:Array (Option aj)}{oc kV dc pm cd ct:aj}(a:bX K bF x=some (some (.ref f)))
  (l:K.lookup f=some ⟨oc,od,.func (iz x x (oM st) (jM st) (aS st) .none kV dc pm an cd ct),sl⟩) (c:oI K cd x=true) (k:eL K (.ref f)=true)
  (hb:∀ (kV doc pm:aj) (an:Option af) (lT ct:aj) (us:List aj),us.length=ps.length->Bt (iz x x (oM st) (jM st) (aS st) .none kV doc pm an lT ct) ⟨us,[]⟩=pure (ps.zip us)):rG K mg x st ps :=
 ⟨f,_,Hi l c k,iH X G a,λs us hl=>.of_eq (hb kV dc pm an cd ct us hl),(Hi l c k).binds hb⟩
def CK {od an:Option af}{oc kV dc pm ct:aj}(a:bG K (.ref C) x=some (some (.ref f))) (i:rV K (.ref f)=true)
  (l:K.lookup f=some ⟨oc,od,.func (iz x q (oM st) (jM st) (aS st) .none kV dc pm an cd ct),sl⟩) (c:oI K cd q=true) (k:eL K (.ref f)=true)
  (hb:∀ (kV doc pm:aj) (an:Option af) (lT ct:aj) (us:List aj),us.length=ps.length->Bt (iz x q (oM st) (jM st) (aS st) .none kV doc pm an lT ct) ⟨us,[]⟩=pure (ps.zip us)):lJ K C x q st ps :=
 ⟨f,_,Hi l c k,a,i,(Hi l c k).binds hb⟩
def rG.law {y:bB}{fa:af}(D:rG K mg x st [y]) (h:mg x=some (.ref fa)):D.f=fa:=by
 have:=D.m.symm.trans h;cases this;rfl
section
variable {CX:JE}{apos:ue}{o:Expr}{ta:TE}
def Qk (c:Qj X.prog X.w X.K X.mg X.base CX k x ps sp) (hr:gZ k X.A) (hg:Gl X x) (hx:lX CX X E) (ha:PA X (e::es) t) (hdb:(x == ("__debug__":bB))=false:=by decide) (he:bE (e::es) X.env=(false,fo e X.env)::bE es X.env:=by rfl) (hpl:(gM pos (bE es X.env)).any (·.1)=false:=by rfl) :
  PE X (.Call (.Name x p) (e::es) [] pos) (cQ sp [] E t):=UF c.G hr hg c.m c.kp c.b .nil hx ha hdb he hpl
def Ym (c:IP X.prog X.w X.K X.mg X.base CX k C x ps sp) (cl:EA X.K C) (hr:gZ k X.A) (he:PE X o ta) (hx:lX CX X E) (ha:PA X (e::es) t)
  (hst:bE (e::es) X.env=(false,fo e X.env)::bE es X.env:=by rfl) (hpl:(gM pos (bE es X.env)).any (·.1)=false:=by rfl)
  (ht:fo (.Call (.Attribute o x apos) (e::es) [] pos) X.env=(do
   let ov ← fo o X.env
   uz apos.atName
   let (f,first) ← jS [ov] (BQ ov x pl)
   YU pos f first (gM pos (bE (e::es) X.env)) (IX pos (uB [] X.env))):=by rfl) :
  PE X (.Call (.Attribute o x apos) (e::es) [] pos) (dZ C x sp [] E ta t):=UG he cl c.m c.G hr c.b .nil hx ha hst hpl ht
def pcm0 (c:IP X.prog X.w X.K X.mg X.base CX k C x ps sp) (cl:EA X.K C) (hr:gZ k X.A) (he:PE X o ta) (hx:lX CX X E)
  (ht:fo (.Call (.Attribute o x apos) [] [] pos) X.env=(do
   let ov ← fo o X.env
   uz apos.atName
   let (f,first) ← jS [ov] (BQ ov x pl)
   YU pos f first (gM pos (bE [] X.env)) (IX pos (uB [] X.env))):=by rfl) :
  PE X (.Call (.Attribute o x apos) [] [] pos) (dZ C x sp [] E ta aY):=QN he cl c.m c.G hr c.b .nil hx ht
end
end L2
namespace L2
open PySem.W
variable {m:List Bool}{xs:List V}{ks:List Int}
def iu:List Int->List Int->Bool
 | [],[]=>false
 | [],_::_=>true
 | _::_,[]=>false
 | x::xs,y::ys=>if x=y then iu xs ys else decide (x<y)
theorem ur:∀ x:List Int,iu x x=false
 | []=>rfl
 | x::xs=>by unfold iu;rw [if_pos rfl];exact ur xs
theorem CL:∀ {x y:List Int},iu x y=false->iu y x=true\/x=y
 | [],[],_=>.inr rfl
 | [],_::_,h=>by unfold iu at h;cases h
 | _::_,[],_=>.inl (by unfold iu;rfl)
 | x::xs,y::ys,h=>by
  unfold iu at h ⊢
  by_cases e:x=y
  .subst e;rw [if_pos rfl] at h ⊢
   rcases CL h with q|q
   .exact .inl q
   .exact .inr (by rw [q])
  .rw [if_neg e] at h;rw [if_neg (Ne.symm e)];exact .inl (by have:=of_decide_eq_false h;exact decide_eq_true (by lia))
theorem we:∀ {x y z:List Int},iu x y=true->iu y z=true->iu x z=true
 | [],[],_,h,_=>by unfold iu at h;cases h
 | [],_::_,[],_,h=>by unfold iu at h;cases h
 | [],_::_,_::_,_,_=>by unfold iu;rfl
 | _::_,[],_,h,_=>by unfold iu at h;cases h
 | _::_,_::_,[],_,h=>by unfold iu at h;cases h
 | x::xs,y::ys,z::zs,h,h'=>by
  unfold iu at h h' ⊢
  by_cases e:x=y
  .subst e;rw [if_pos rfl] at h
   by_cases e':x=z
   .rw [if_pos e'] at h' ⊢;exact we h h'
   .rw [if_neg e'] at h' ⊢;exact h'
  .rw [if_neg e] at h;have h1:=of_decide_eq_true h
   by_cases e':y=z
   .subst e';rw [if_neg e];exact h
   .rw [if_neg e'] at h';have h2:=of_decide_eq_true h';rw [if_neg (by lia)];exact decide_eq_true (by lia)
def Gy (ts:List (List Int)) (t:List Int):Int:=(ts.countP λu=>iu u t:Nat)
def xp {ts:List (List Int)}{t u:List Int}(ht:t∈ts):decide (Gy ts t<Gy ts u)=iu t u:=by
 unfold Gy
 cases q:iu t u with
 | true =>
  have:=JV (l:=ts) (p:=λv=>iu v t) (q:=λv=>iu v u) (x:=t) (λy _ h=>we h q) ht (ur t) q
  exact decide_eq_true (by lia)
 | false =>
  have:ts.countP (λv=>iu v u)<=ts.countP λv=>iu v t:=PQ λv _ h=>by
   rcases CL q with e|e
   .exact we h e
   .rw [e];exact h
  exact decide_eq_false (by lia)
inductive Flat:List Bool->List V->List Int->Prop
 | nil:Flat [] [] []
 | int (i:Int) {m:List Bool}{xs:List V}{ks:List Int}:Flat m xs ks->Flat (false::m) (.int i::xs) (i::ks)
 | bl (b:Bool) {m:List Bool}{xs:List V}{ks:List Int}:Flat m xs ks->Flat (true::m) (.bl b::xs) (b2i b::ks)
def Flat.length (h:Flat m xs ks):xs.length=m.length:=by
 induction h with
 | nil=>rfl
 | int _ _ ih=>simp [ih]
 | bl _ _ ih=>simp [ih]
section
variable {prog:bA}{w:cg}{A:cL}{s:ax}{b:Bool}{Q:Bool->ax->Prop}
def RI (fx:Flat m xs ks):∀ {ys:List V}{ls:List Int}{us ws:List aj}{i:Nat},Flat m ys ls->Vals xs us->Vals ys ws->(b && i == 0)=false->Q (iu ks ls) s ->
  KatLex prog w A b false Q (us.zip ws) i s:=by
 induction fx with
 | nil =>
  intro ys ls us ws i fy rx ry hi q;cases fy;cases rx;cases ry;unfold iu at q
  exact kat_nil q
 | int a _ ih =>
  intro ys ls us ws i fy rx ry hi q
  cases fy with
  | int c fy =>
   cases rx with
   | cons r1 rx =>
    cases ry with
    | cons r2 ry =>
     obtain ⟨t,rfl⟩:=r1;obtain ⟨u,rfl⟩:=r2;rw [jw];refine Jk (iV a t c u _ _ _ _ ?_);unfold iu at q
     by_cases e:a=c
     .rw [if_pos e] at q;rw [show (a == c)=true by simpa using e];exact Jl (ih fy rx ry (by simp) q)
     .rw [if_neg e] at q;rw [show (a == c)=false by simpa using e];refine kat_no ?_;rw [hi]
      exact kat_one _ _ (Ue q)
 | bl a _ ih =>
  intro ys ls us ws i fy rx ry hi q
  cases fy with
  | bl c fy =>
   cases rx with
   | cons r1 rx =>
    cases ry with
    | cons r2 ry =>
     cases r1;cases r2;rw [jw];refine Jk (SeqAt.EqAt.bool_bool a c _ _ _ _ ?_);unfold iu at q
     by_cases e:a=c
     .rw [if_pos (by rw [e])] at q;rw [show (a == c)=true by simpa using e];exact Jl (ih fy rx ry (by simp) q)
     .rw [if_neg (by cases a<;>cases c<;>first|exact absurd rfl e|decide)] at q;rw [show (a == c)=false by simpa using e];refine kat_no ?_;rw [hi];exact kat_one _ _ (lt_bool q)
def NU {x y:af}{ys:List V}{ls:List Int}{us ws:List aj}{E:aj->ax->Prop}(fx:Flat (false::m) xs ks) (fy:Flat (false::m) ys ls) (rx:Vals xs us) (ry:Vals ys ws)
  (hx:qw s.heap x us.toArray) (hy:qw s.heap y ws.toArray) (h:Q (iu ks ls) s):aH (aL prog w) A (keyLt' (VX true) (.ref x) (.ref y)) Q E s:=by
 obtain ⟨ox,ex,cx,nx,dx⟩:=hx;obtain ⟨oy,ey,cy,ny,dy⟩:=hy
 have l1:us.length=ws.length:=by rw [← rx.length,← ry.length,fx.length,fy.length]
 refine kat_lt ex dx ey dy ?_;rw [show decide (us.toArray.size<ws.toArray.size)=false by simp [l1]]
 cases fx with
 | int a fx =>
  cases fy with
  | int c fy =>
   cases rx with
   | cons r1 rx =>
    cases ry with
    | cons r2 ry =>
     obtain ⟨t,rfl⟩:=r1;obtain ⟨u,rfl⟩:=r2
     show KatLex _ _ _ _ _ _ (List.zip (_::_) (_::_)) 0 s
     rw [jw];refine Jk (iV a t c u _ _ _ _ ?_);unfold iu at h
     by_cases e:a=c
     .rw [if_pos e] at h;rw [show (a == c)=true by simpa using e];exact Jl (RI fx fy rx ry (by simp) h)
     .rw [if_neg e] at h;rw [show (a == c)=false by simpa using e];exact kat_no (oneLt_int h)
end
abbrev Zn:=List Int×af
def oG (z:Zn):V:=.ref z.2
def RJ (m:List Bool) (H:Hp) (z:Zn):Prop:=∃ xs,H z.2=some (.tup xs)/\Flat (false::m) xs z.1
theorem xq:∀ {zs:List Zn}{us:List aj},Vals (zs.map oG) us->us=zs.map λz=>aD z.2
 | [],_,h=>by cases h;rfl
 | z::zs,_,h=>by
  cases h with
  | cons h1 h2=>cases h1;rw [xq h2];rfl
theorem qH:∀ zs:List Zn,Vals (zs.map oG) (zs.map λz=>aD z.2)
 | []=>.nil
 | _::zs=>.cons rfl (qH zs)
theorem NV {h:cK}:∀ {zs:List Zn},(∀ z∈zs,∃ i t us,qw h z.2 (fz i t::us).toArray)->∃ fs,KatTups h (zs.map λz=>aD z.2) fs/\fs.length=zs.length/\∀ v∈fs,∃ i t,v=fz i t
 | [],_=>⟨[],.nil,rfl,λ_ h=>nomatch h⟩
 | z::zs,hz=>by
  obtain ⟨fs,k1,k2,k3⟩:=NV (zs:=zs) λz' h'=>hz z' (ai _ h');obtain ⟨i,t,us,o,e,c,n,d⟩:=hz z aw;refine ⟨.int i t::fs,Y5 e c d (by simp) k1,by simp [k2],λv hv=>?_⟩
  rcases aq.mp hv with rfl|hv
  .exact ⟨i,t,rfl⟩
  .exact k3 v hv
section
variable {X:Cx}
end
end L2
namespace L2
open PySem.Calls
open PySem.W (kla_fn kla_obj tabObj CodeHd)
variable {prog:bA}{w:cg}{A:cL}{s:ax}{params:rJ}{body:Expr}{scope:rQ}{pos:ue}
def Gz {E:aj->ax->Prop}{Q:aj->ax->Prop}{f c':af}{qual x:bB}{clos:List (bB×af)}{pm ctv v:aj}
  (hroom:A.depth<rW) (ho:s.heap.get? f=some (yN "<lambda>" qual params body scope clos pm c' ctv)) (hrec:s.heap.CodeRec (.ref c') qual) (hlim:s.heap.NoLimit)
  (hb:Bt (kla_fn "<lambda>" qual params body scope clos pm (.ref c') ctv) ⟨[v],[]⟩=pure [(x,v)])
  (hx:scope.names.lookup x=some .local) (hk:scope.kind=.function) (hco:scope.isCoroutine=false) (hgen:scope.isGenerator=false) (hcell:∀ z∈scope.names,z.2≠.cell)
  (h:∀ (env:yJ) (h₁:cK) (tk:Nat) (E':aj->ax->Prop),env.scope=scope->env.cells=clos->s.heap.objs.size<=env.locals->h₁.Ns env.locals (λz=>cR z [(x,v)])->(∀ b o,s.heap.get? b=some o->h₁.get? b=some o) ->
   aH (aL prog w) (A.deeper env) (fo body env) Q E' { s with heap:=h₁,toks:=tk }) :
  aH (aL prog w) A (call (.ref f) [v]) Q E s:=by
 refine PJ (PySem.W.kla_callFunE hroom ho rfl hco hgen rfl hrec ?_);rw [hb];refine ak (YV hcell (λz hz=>by rw [ay.mp hz];exact hx) (λh₁ hns hsb=>⟨hlim.fresh _ hsb,?_⟩) hk);have hk₁:∀ b o,s.heap.get? b=some o->h₁.get? b=some o:=λb o e=>hsb.extBut b o (aZ (aJ e)) (ar _ e);exact PySem.W.kla_codeExpr (h _ h₁ _ _ rfl rfl (au _) hns hk₁)
def Oq (prog:bA) (w:cg) (A:cL) (env:yJ) (s:ax) (h:cK) (e:Expr) (i:Int):Prop :=
 ∀ (tk:Nat) (Q:aj->ax->Prop) (E:aj->ax->Prop),(∀ tk' t,Q (.int i t) { s with heap:=h,toks:=tk' })->aH (aL prog w) A (fo e env) Q E { s with heap:=h,toks:=tk }
section
variable {env:yJ}{h:cK}{a b:Expr}{i j:Int}
def Oq.bin {op:wH}{r:Int}(ha:Oq prog w A env s h a i) (hb:Oq prog w A env s h b j)
  (ho:∀ (tk:Nat) (t u:VH) (Q:aj->ax->Prop) (E:aj->ax->Prop),(∀ tk' v,Q (.int r v) { s with heap:=h,toks:=tk' })->aH (aL prog w) A (rT op (.int i t) (.int j u)) Q E { s with heap:=h,toks:=tk }) :
  Oq prog w A env s h (.BinOp a op b pos) r:=λtk Q E q=>wpAny_BinOp (ha tk _ _ λ_ _=>hb _ _ _ λ_ _=>ho _ _ _ _ _ q)
def Oq.WY {x:bB}{b:af}{its:Array aj}{k:Nat}{t:VH}{p1 p2:ue}{n:Nat}(hk:env.scope.kind=.function) (hx:env.scope.names.lookup x=some .local) (hn:h.Ns env.locals (λz=>cR z [(x,aD b)]))
  (ht:qw h b its) (hi:its[k]?=some (.int i t)) (hs:its.size<=aW) (hdx:(x == ("__debug__":bB))=false:=by decide):Oq prog w A env s h (.Subscript (.Name x p1) (.Constant (.int k) n p2) pos) i:=by
 intro tk Q E q
 have hlt:k<its.size:=by
  by_cases z:k<its.size
  .exact z
  .rw [gX (by lia)] at hi;cases hi
 have hl:=qB;refine PK (rS (kQ hk hx hn (v:=.ref b) ?_ ?_) hdx)
 .show cR x [(x,aD b)]=_
  rw [cI,beq_self_eq_true]
 refine wpAny_Constant_int ?_;have ht':qw ({ s with heap:=h,toks:=tk }:ax).heap b its:=ht;refine yM (x:=.int i t) (T:="tuple") ?_ hU.lookup (getItem_tuple (j:=k) (x:=.int i t) (Q:=λr s'=>r=.int i t/\Q r s') ?_ (by lia) (by lia) ?_ hi ⟨rfl,q _ _⟩) (by with_unfolding_all rfl)
 .obtain ⟨o,e,c,r⟩:=ht;exact ⟨o,e,c⟩
 .exact ht
 .unfold seqIndex?
  have h0:¬ ((k:Int)<0):=by lia
  simp only [h0,if_false];simp [hlt]
end
section
variable {X:Cx}{c Pt:af}{e:Expr}{tx:TA}{x y:bB}{j:Nat}{p0 lpos kpos:ue}{C:Int->Int->Int->Prop}{g:Int->Int->Int->Int}
end
end L2
namespace L2
open PySem.Calls PySem.W
variable {w:cg}{A:cL}{s:ax}{prog:bA}{E:aj->ax->Prop}{h₀:cK} {m:bB->Option aj}{kP:List (af×iF)}{f:aj}{e1:Nat}{zs:List Zn}
theorem NW:∀ x y:List Int,iu x y=HT.lexLt x y
 | [],[]=>rfl
 | [],_::_=>rfl
 | _::_,[]=>rfl
 | x::xs,y::ys=>by unfold iu;rw [HT.Cn,NW xs ys]
def J9 (z:Zn) (t:VH):iF:=b8 "tuple" #[.int (z.1.headD 0) t,.ref z.2] 0
section
variable {Q:Bool->ax->Prop}
theorem U7 {k1 k2 b1 b2:af}{w1 w2 x1 y1 x2 y2:Int}{t1 t2 ta tb tc td:VH}(hx:qw s.heap k1 #[.int w1 t1,.ref b1]) (hy:qw s.heap k2 #[.int w2 t2,.ref b2])
  (hb1:qw s.heap b1 #[.int x1 ta,.int y1 tb]) (hb2:qw s.heap b2 #[.int x2 tc,.int y2 td]) (hu:A.units<ip) (h:Q (iu [w1,x1,y1] [w2,x2,y2]) s):aH (aL prog w) A (keyLt' (VX true) (.ref k1) (.ref k2)) Q E s:=by
 obtain ⟨ox,ex,cx,nx,dx⟩:=hx;obtain ⟨oy,ey,cy,ny,dy⟩:=hy;refine kat_lt ex dx ey dy ?_;have ez:(#[fz w1 t1,aD b1].toList.zip #[fz w2 t2,aD b2].toList)=[(.int w1 t1,.int w2 t2),(.ref b1,.ref b2)]:=rfl;rw [ez];refine Jk (iV w1 t1 w2 t2 _ _ _ _ ?_);unfold iu at h
 by_cases e:w1=w2
 .rw [if_pos e] at h;rw [show (w1 == w2)=true by simpa using e]
  by_cases eb:b1=b2
  .subst eb;refine Jl (Jk (SeqAt.EqAt.same _ _ _ _ _ (Jl (kat_nil ?_))))
   have:x1=x2/\y1=y2:=by
    obtain ⟨o,e1,_,n,d1⟩:=hb1;obtain ⟨o',e2,_,n',d2⟩:=hb2;rw [e1] at e2;cases e2;rw [d1] at d2;simp at d2;exact ⟨d2.1.1.1,d2.1.2.1⟩
   rw [this.1,this.2,ur] at h;exact h
  .have rc:SeqAt.RcAt A s (.ref b1) (.ref b2) ((gK (min 2 2)).all (λj=>if j=0 then x1 == x2 else y1 == y2) && (2 == 2)):=SeqAt.RcAt.tuples (items:=#[.int x1 ta,.int y1 tb]) (items2:=#[.int x2 tc,.int y2 td]) hb1 hb2 hu λj h1 h2=>by
    match j,h1,h2 with
    | 0,_,_=>exact iV x1 ta x2 tc
    | 1,_,_=>exact iV y1 tb y2 td
    | j+2,h1,_=>exact absurd h1 (by simp)
   have er:((gK (min 2 2)).all (λj=>if j=0 then x1 == x2 else y1 == y2) && (2 == 2))=(x1 == x2 && y1 == y2):=by
    show ([0,1].all _ && true)=_
    simp
   rw [er] at rc;refine Jl (Jk (SeqAt.EqAt.of_refs eb rc _ _ _ _ ?_))
   by_cases c1:x1=x2/\y1=y2
   .rw [show (x1 == x2 && y1 == y2)=true by simp [c1]];refine Jl (kat_nil ?_);rw [c1.1,c1.2,ur] at h;exact h
   .rw [show (x1 == x2 && y1 == y2)=false by
     cases q:(x1 == x2 && y1 == y2) with
     | false=>rfl
     | true=>simp at q;exact absurd q c1]
    refine kat_no (kat_one _ _ (HT.Ma hb1 hb2 (.cons _ _ (.cons _ _ .nil)) (.cons _ _ (.cons _ _ .nil)) hu ?_));rw [NW] at h;exact h
 .rw [if_neg e] at h;rw [show (w1 == w2)=false by simpa using e];exact kat_no (oneLt_int h)
end
section
variable {P:bA}{env:yJ}{h:cK}{H:Hp}
def RK {x y:bB}{b d cl:af}{wt:Int}{tk:Nat}{p1 p2 p3 p4 p5:ue}{x1} {Q:aj->ax->Prop}(eJ:rH P w H h) (hk:env.scope.kind=.function) (hx:env.scope.names.lookup x=some .local) (hy:env.scope.names.lookup y=some .free) (hn:h.Ns env.locals (λz=>cR z [(x,aD b)]))
  (hcl:env.cells.lookup y=some cl) (hcv:h.IsCell cl (some (.ref d))) {Ql:List (List iL×V)}{k:List iL}(hd:H d=some (.dT Ql)) (hb:H b=some (.tup (k.map kV))) (hv:iR Ql k=some (.int wt)) (hu:A.units+64<ip)
  (q:∀ t tk',Q (.ref h.objs.size) { s with heap:=h.push (b8 "tuple" #[.int wt t,.ref b] 0),toks:=tk' })
  (hdx:(x == ("__debug__":bB))=false:=by decide) (hdy:(y == ("__debug__":bB))=false:=by decide) (hdc:(y == ("__classdict__":bB))=false:=by decide) :
  aH (aL P w) A (fo (.Tuple [.Subscript (.Name y p1) (.Name x p2) p3,.Name x p4] x1 p5) env) Q E { s with heap:=h,toks:=tk }:=by
 have lx:cR x [(x,aD b)]=some (aD b):=by rw [cI,beq_self_eq_true]
 refine Eu (hW (PK (rS (Zm hk hy hcl (v:=.ref d) hcv ?_ hdc) hdy)));refine rS (kQ hk hx hn (v:=.ref b) lx ?_) hdx;obtain ⟨z,hm,xs,rel,dd⟩:=Gj eJ (.inl hd);obtain ⟨w',hw,rw'⟩:=t9.some_of (v:=V.int wt) (o:=(I0 xs k).map (·.2)) (by rw [← hv];exact rel.val k);obtain ⟨t,rfl⟩:=rw';obtain ⟨p,hp,hp2⟩:=bo.mp hw
 have ty:({ s with heap:=h,toks:=tk }:ax).TypeIs (.ref d) "dict":=by
  obtain ⟨o,es,ep,e1,e2,_⟩:=dd;exact ⟨o,e1,e2.1⟩
 refine tail_any ty GX.lookup (wpAny_getItem_heap (jU (by lia)) (sr eJ hb) dd hp ?_) rfl;rw [hp2];refine hW (rS (kQ hk hx hn (v:=.ref b) lx (mi ⟨?_,q t _⟩)) hdx);exact bK (m:=2) (au 2)
end
theorem An {α β:Type} {R:α->β->Prop}{a:α}{b:β}(r:R a b):∀ {xs:List α}{ys:List β},Paired R xs ys->Paired R (xs++[a]) (ys++[b])
 | _,_,.nil=>.cons r .nil
 | _,_,.cons h t=>.cons h (An r t)
theorem wg {α β:Type} {R:α->β->Prop}:∀ {xs:List α}{ys:List β},Paired R xs ys->ys.length=xs.length
 | _,_,.nil=>rfl
 | _,_,.cons _ t=>by simp [wg t]
def Mn {α β:Type} {R:α->β->Prop}{xs:List α}{ys:List β}(p:Paired R xs ys):∀ (i:Nat) (a:α),xs[i]?=some a->∃ b,ys[i]?=some b/\R a b:=by
 induction p with
 | nil=>intro i a h;simp at h
 | cons r _ ih =>
  intro i a h
  cases i with
  | zero=>simp at h;subst h;exact ⟨_,rfl,r⟩
  | succ i=>simpa using ih i a (by simpa using h)
section
variable {L a kS:af}{Fin:List aj->Nat->ax->Prop}
end
section
variable {L a kS:af}{own:List (af×iF)}{e:Nat}{ks:List af}{Post:ax->Prop}
end
section
variable {L a:af}{n:Nat}{vs:List aj}{P:LK->ax->Prop}
end
section
variable {X:Cx}{c Pt:af}{e:Expr}{tx:TA}{x y:bB}{j:Nat}{params:rJ}{scope:rQ}{p0 p1 p2 p3 p4 p5 lpos kpos pos:ue}{x1:Nat}
end
end L2
namespace L2
open PySem.Calls
def gZ.Lo {k:Nat}{A:cL}(r:gZ k A):A.units+128<ip:=by have:=r.un;lia
section
variable {X:Cx}{CX:JE}{k:Nat}{B:af}{x:bB}{ps:List bB}{sp:Sp}{o e:Expr}{es:List Expr}{t:TA}{E:XK}{apos pos:ue}
end
section
variable {X:Cx}{x:Expr}{t:TA}{p1 p2 q1 q2:ue}
end
end L2
namespace L2
open PySem.Calls
open PySem.W (tabObj CodeHd noTabs tabIn)
variable {Ps:List (af×af)}{x:bB}
theorem Pa {P:bA}{w:cg}{K:ae}{mg mb:bB->Option aj}{k:Nat}{fa a:af}{fd:fN}{sp:Sp}{s₁:ax} {vs:List aj}{ns:List Int}
  (KX:K.In s₁.heap) (hns:s₁.heap.Ns bF mg) (hb:s₁.heap.Ns builtinsNs mb) (hbb:∀ x:bB,x≠"__name__"->mb x=dh x) (hlim:s₁.heap.NoLimit) (hg:s₁.gens=#[])
  (C:∀ p∈Ps,ik s₁.heap p.1 p.2) (hPt0:∀ p∈Ps,s₁.heap.get? p.2=some (Lu #[])) (Bm:∀ p∈Ps,s₁.heap.BuiltinsAt mg p.2) (hnt:noTabs K=true)
  (ha:s₁.heap.get? a=some { cls:=.type "list",data:=.seq vs.toArray }) (hi:eW vs ns) (hl:ns.length<=aW) (hr:gZ k Ja)
  (F:∀ base:cK,K.In base->base.Ns bF mg->(∀ p∈Ps,ik base p.1 p.2/\base.BuiltinsAt mg p.2)->jr P w K mg base wM k fa fd [x] sp) (hbind:∀ (s:ax) (u:aj),IW s fd ⟨[u],[]⟩ [(x,u)])
  (hsp:∀ H:Hp,(∀ p∈Ps,H p.2=some (.tbl #[]))->dm K H a (ns.map V.int)->sp [.ref a] H (λv _=>v=.bl true) λ_ _ _=>False)
  (hCX:∀ H e s',wM [] H s₁ (λ_ _ _=>False) e s'->False) :
  lp (aL P w) Ja (.call (.ref fa) ⟨[.ref a],[]⟩) (λr s'=>r=.ok (.ret (.bool true))/\OldK s₁.heap s'.heap/\s'.os=s₁.os/\ux s'.gens) s₁:=by
 have rv:=y8 hi;have lenV:=hi.length
 have hPt:∀ b,b∈Ps.map (·.2)->s₁.heap.get? b=some (Lu #[]):=λb hb=>by
  obtain ⟨p,hp,rfl⟩:=bq.mp hb;exact hPt0 p hp
 have naP:a∉Ps.map (·.2):=λz=>by rw [hPt a z] at ha;cases ha
 have KPt:∀ b,b∈Ps.map (·.2)->K.lookup b=none:=λb hb=>by
  cases q:K.lookup b with
  | none=>rfl
  | some o =>
   have e:=KX b o q;rw [hPt b hb] at e;cases e;have h2:=W7.mp hnt (b,Lu #[]) (PySem.W.mem_of_lookupK q);exact absurd (show false=true from h2) bD
 have core:∀ H:Hp,(∀ b,b∈Ps.map (·.2)->H b=some (.tbl #[]))->(∀ b,b∉Ps.map (·.2)->H b=none\/∃ o xs,H b=some (.frz o (.lst xs)))->dm K H a (ns.map V.int)->rH P w H s₁.heap->(∀ b,b∉Ps.map (·.2)->H b≠none->b=a)->(H a≠none->K.lookup a=none) ->
   lp (aL P w) Ja (.call (.ref fa) ⟨[.ref a],[]⟩) (λr s'=>r=.ok (.ret (.bool true))/\OldK s₁.heap s'.heap/\s'.os=s₁.os/\ux s'.gens) s₁:=by
  intro H hT hO hS eJ hA hK;have base_of:∀ {b:af}{o:iF},s₁.heap.get? b=some o->H b=none->(BY s₁.heap H).get? b=some o:=λe n=>Qy e n
  have noA:∀ {b:af}{o:iF},s₁.heap.get? b=some o->o.cls≠.type "list"->b∉Ps.map (·.2)->H b=none:=λ{b o} e d hbP=>by
   cases q:H b with
   | none=>rfl
   | some u =>
    have e':b=a:=hA b hbP (by rw [q];simp);subst e';rw [ha] at e;cases e;exact absurd rfl d
  have noD:∀ {b:af}{o:iF}{es:Array DictEntry}{ep:Nat},s₁.heap.get? b=some o->o.data=.dict es ep->H b=none:=λ{b o es ep} e d=>by
   have hbP:b∉Ps.map (·.2):=λz=>by rw [hPt b z] at e;cases e;cases d
   cases q:H b with
   | none=>rfl
   | some u =>
    have e':b=a:=hA b hbP (by rw [q];simp);subst e';rw [ha] at e;cases e;have d':Data.seq vs.toArray _=Data.dict es ep:=d;cases d'
  have nsK:∀ {b:af}{m:bB->Option aj},s₁.heap.Ns b m->(BY s₁.heap H).Ns b m:=λ{b m} ⟨o,es,ep,e,d,r⟩=>⟨o,es,ep,base_of e (noD e d),d,r⟩
  have hKb:K.In (BY s₁.heap H):=λb o e=>base_of (KX b o e) (by
   have hbP:b∉Ps.map (·.2):=λz=>by rw [KPt b z] at e;cases e
   cases q:H b with
   | none=>rfl
   | some u =>
    have e':b=a:=hA b hbP (by rw [q];simp);subst e'
    rw [hK (by rw [q];simp)] at e;cases e)
  have hM:Mod K mg (BY s₁.heap H):=⟨hKb,nsK hns,⟨mb,nsK hb,hbb⟩,let ⟨mc,h1,h2⟩:=hlim;⟨mc,nsK h1,h2⟩⟩
  have notab:∀ {b:af}{o:iF},s₁.heap.get? b=some o->o.cls≠.none->b∉Ps.map (·.2):=λ{b o} e d z=>by rw [hPt b z] at e;cases e;exact d rfl
  have hCB:∀ p∈Ps,ik (BY s₁.heap H) p.1 p.2/\(BY s₁.heap H).BuiltinsAt mg p.2:=λp hp=>by
   refine ⟨?_,?_⟩
   .obtain ⟨o,vs',file,tf,flags,tg,inF,text,tt,e1,r1,r2,r3,r4,r5,r6,r7,r8,hne⟩:=C p hp;exact ⟨o,vs',file,tf,flags,tg,inF,text,tt,base_of e1 (noA e1 (by rw [r1];decide) (notab e1 (by rw [r1];decide))),r1,r2,r3,r4,r5,r6,r7,r8,hne⟩
   .obtain ⟨bm,o,b1,b2,b3,b4,b5,b6,b7⟩:=Bm p hp;exact ⟨bm,o,b1,b2,b3,b4,base_of b5 (noA b5 (by rw [b6];decide) (notab b5 (by rw [b6];decide))),b6,b7⟩
  have e0:Lk P w K mg (BY s₁.heap H) Ja [] s₁ H:=⟨rfl,hM,λb o e=>Ur e,kD (OF _ _),trivial,λb hb=>absurd (show b∈([]:List af) from hb) (by simp),eJ,.of_eq hg⟩
  refine lu ((F _ hKb (nsK hns) hCB).run Ja [] s₁ H ⟨[.ref a],[]⟩ [.ref a] [.ref a] _ _ hr e0 (hbind s₁ (.ref a)) (.cons rfl .nil) (hsp H (λp hp=>hT p.2 (bg hp)) hS)) λr s' h=>?_
  cases r with
  | error e=>exact (hCX H e s' h).elim
  | ok fl =>
   cases fl with
   | next=>exact dD h
   | brk=>exact dD h
   | cont=>exact dD h
   | ret u =>
    obtain ⟨v,H',os,bare,un,hok',r',q⟩:=h;have q':v=.bl true:=q;subst q';obtain rfl:u=pH true:=r'
    have keep:∀ b o,b∉Ps.map (·.2)->s₁.heap.get? b=some o->s'.heap.get? b=some o:=λb o hbP e=>by
     cases q:H b with
     | none=>exact un.keep b o e q (by intro z;exact absurd (show b∈([]:List af) from z) (by simp)) (by simp)
     | some u =>
      rcases hO b hbP with z|⟨ob,xs,z⟩
      .rw [q] at z;cases z
      .have z2:=un.uS b ob _ z;obtain ⟨e1,_⟩:=eJ b _ z;obtain ⟨e2,_⟩:=hok' b _ z2;rw [e] at e1;cases e1;exact e2
    have hmore:∀ b,b∈Ps.map (·.2)->∃ more,s'.heap.get? b=some (Lu (#[]++more)):=λb hb=>by
     obtain ⟨more,hm⟩:=un.uU b _ (hT b hb);exact ⟨more,hok' b _ hm⟩
    refine ⟨rfl,⟨λb o e=>?_,λb o e=>?_⟩,os,bare⟩
    .by_cases hbP:b∈Ps.map (·.2)
     .obtain ⟨more,hP'⟩:=hmore b hbP;obtain ⟨p,hp,rfl⟩:=bq.mp hbP;rw [hPt0 p hp] at e;cases e;exact .inr (.inl ⟨((C p hp).tab (hPt0 p hp)).isCodeTable,rfl,#[],more,rfl,hP'⟩)
     .exact .inl (keep b o hbP e)
    .by_cases hbP:b∈Ps.map (·.2)
     .obtain ⟨more,hP'⟩:=hmore b hbP;exact ⟨_,hP'⟩
     .exact ⟨o,keep b o hbP e⟩
 cases hk:K.lookup a with
 | some o =>
  have e:=KX a o hk;rw [ha] at e;cases e;refine core (λb=>if b∈Ps.map (·.2) then some (.tbl #[]) else none) (λb hb=>if_pos hb) (λb hb=>.inl (if_neg hb)) (.inr ⟨_,vs.toArray,_,hk,rfl,rfl,rfl,by rw [aI,lenV];exact hl,by simpa using rv⟩) (λb u z=>?_) (λb hb z=>absurd (if_neg hb) z) λz=>absurd (if_neg naP) z
  by_cases hb:b∈Ps.map (·.2)
  .have z':=(if_pos hb).symm.trans z;cases z';exact hPt b hb
  .have z':=(if_neg hb).symm.trans z
   cases z'
 | none =>
  refine core (λb=>if b∈Ps.map (·.2) then some (.tbl #[]) else if b=a then some (.frz { cls:=.type "list",data:=.seq vs.toArray } (.lst (ns.map V.int))) else none) (λb hb=>if_pos hb) (λb hb=>?_) (.inl (.inr ⟨{ cls:=.type "list",data:=.seq vs.toArray },(if_neg naP).trans (if_pos rfl)⟩)) (λb u z=>?_) (λb hb z=>?_) λ_=>hk
  .by_cases hba:b=a
   .exact .inr ⟨_,_,(if_neg hb).trans (if_pos hba)⟩
   .exact .inl ((if_neg hb).trans (if_neg hba))
  .by_cases hb:b∈Ps.map (·.2)
   .have z':=(if_pos hb).symm.trans z;cases z';exact hPt b hb
   .have z0:=(if_neg hb).symm.trans z
    by_cases hba:b=a
    .have z':=(if_pos hba).symm.trans z0;cases z';subst hba;exact ⟨ha,by rw [ag];exact hl,vs,_,rv,ha⟩
    .have z':=(if_neg hba).symm.trans z0;cases z'
  .by_cases hba:b=a
   .exact hba
   .exact absurd ((if_neg hb).trans (if_neg hba)) z
theorem RL {l:rK}{n k:Nat}{q:bA}{loose:List bB}{XP:(bB->Option aj)->cK->Prop}{YP:cg->cK->Prop}{d:DefRec}{K:Params->ae}{sp:cg->Sp}
  (hn:l.most=some n) (hn2:n<=aW) (hdf:d.params.defaults=[]) (hr:gZ k Ja)
  (hY:∀ (w:cg) (h:cK),YP w h->(K w.params).In h)
  (htab:∀ p∈Ps,∃ (y:bB) (dy:DefRec),(recsOf q).find? (λe=>e.name == y)=some dy/\∀ w:cg,T7 (K w.params) y=some p) (hnt:∀ w:cg,noTabs (K w.params)=true)
  (F:∀ (w:cg) (mg:bB->Option aj) (fa:af) (h:cK),(K w.params).In h->h.Ns bF mg->mg d.name=some (.ref fa) ->
   ∃ fd:fN,(∀ (s:ax) (u:aj),IW s fd ⟨[u],[]⟩ [(x,u)]) /\
    ∀ base:cK,(K w.params).In base->base.Ns bF mg->(∀ p∈Ps,ik base p.1 p.2/\base.BuiltinsAt mg p.2)->jr l.prog w (K w.params) mg base wM k fa fd [x] (sp w))
  (hsp:∀ (w:cg) (H:Hp) (a:af) (ns:List Int),ns.length<=n->(∀ p∈Ps,H p.2=some (.tbl #[]))->dm (K w.params) H a (ns.map V.int)->sp w [.ref a] H (λv _=>v=.bl true) λ_ _ _=>False)
  (hCX:∀ (H:Hp) (s:ax) (e:aj) (s':ax),wM [] H s (λ_ _ _=>False) e s'->False) :
  TU q loose XP YP l.row.toRowW d [] (λf vs=>TV f vs):=by
 refine Att.JK hn hdf λw s₀ s₁ mg mb fa o pm cd doc a vs ns G Y ho hd hcd hmg hobj hints hlen hg=>?_;have KX:=hY w _ Y;obtain ⟨fd,hb,hF⟩:=F w mg fa _ KX G.T.g hmg
 have hC:∀ p∈Ps,ik s₁.heap p.1 p.2/\s₁.heap.get? p.2=some (Lu #[]):=λp hp=>by
  obtain ⟨y,dy,h1,h2⟩:=htab p hp;exact PySem.W.tab_of G.T KX h1 (h2 w)
 have hgs:=G.T.g;obtain ⟨bm,ob,b1,b2,b3,b4,b5,b6⟩:=G.T.bmain
 have hbG:bm≠bF:=λq=>by
  obtain ⟨o,es,ep,e,hd,_⟩:=hgs;rw [q,e] at b3;cases b3;rw [hd] at b6;cases b6
 refine Pa KX G.T.g G.T.b G.T.builtins G.T.nolimit hg (λp hp=>(hC p hp).1) (λp hp=>(hC p hp).2) (λp hp=>⟨bm,ob,b1,b2,hbG,λq=>?_,b3,b4,b5,b6⟩) (hnt w) hobj hints (br hlen hn2) hr hF hb (λH hT hS=>hsp w H a ns hlen hT hS) λH e s'=>hCX H s₁ e s';have:=(hC p hp).2;rw [← q,b3] at this;cases this;cases b4
end L2
namespace L2
def NX (K:ae):List V->Hp->VK->Prop:=λxs H Q=>∃ (p:af) (ns:List Int),xs=[.ref p]/\dm K H p (ns.map V.int)/\Q (.int ns.sum) H
def zd {X:Cx}(hc:X.calm=true):lj X (.builtin "sum") (NX X.K):=by
 intro pins s Z H xs us Q I r h;obtain ⟨p,ns,rfl,hq,q⟩:=h;obtain ⟨u,rfl,ru⟩:=vals1 r;cases ru;obtain ⟨its,rv,pl,hz⟩:=I.list hq;have hi:eW its ns:=intsAre_of rv;obtain ⟨ys,e⟩:=hi.allInts.items;have hn:=hi.numsOf
 have e':its=(Y6 ys).toList:=by rw [← e]
 rw [e',nums_intItems] at hn
 have hl:s.heap.IsList p (Y6 ys):=by rw [← e];exact pl.isList
 subst hn
 refine sum_intListG (I.ok.hd hc) hl λh' tk t' hk=>⟨.int _,H,I.kept hk,⟨t',?_⟩,q⟩
 rw [preSum_eq,cf (by simp)]
end L2
namespace L2
open PySem.W
section
variable {X:Cx}{a:Expr}{ta:TE}
end
end L2
namespace L2
open PySem.Calls PySem.W
section
variable {X:Cx}{c Pt:af}{e:Expr}{tx:TA}{x y:bB}{j:Nat}{params:rJ}{scope:rQ}{p0 p1 p2 p3 p4 p5 lpos kpos pos:ue}{x1:Nat}
end
end L2
namespace Sw
section
variable {prog:bA}{w:cg}{A:cL}{E:aj->ax->Prop}{s:ax}
end
end Sw
namespace L2
open PySem.W
section
variable {X:Cx}{x:Expr}{t:TA}{p1 p2 q1 q2:ue}
end
end L2
namespace Sy
open PySem.W
abbrev SM:=StateT dG LF
def oN:Bool->aT->Array aT->Nat->Nat->Nat->SM (Option Nat):=sortPriv% PySem.Builtin.gallop
abbrev TG:=Option (Option Nat)×Nat×Nat
def upS (b:Nat->SM (Option Bool)) (g:Nat->Nat) (f:Bool->Bool) (m:Nat) (_:Nat) (z:TG):SM (ForInStep TG) :=
 if z.2.2>=m then pure (.done (none,z.2)) else do
  match ← b (g z.2.2) with
  | some c=>if f c=true then pure (.done (none,z.2)) else pure (.yield (none,z.2.2,2*z.2.2+1))
  | _=>pure (.done (some none,z.2))
def binS (b:Nat->SM (Option Bool)) (_:Nat) (z:TG):SM (ForInStep TG) :=
 if z.2.1>=z.2.2 then pure (.done (none,z.2)) else do
  match ← b (z.2.1+(z.2.2-z.2.1)/2) with
  | some c=>if c=true then pure (.yield (none,z.2.1+(z.2.2-z.2.1)/2+1,z.2.2)) else pure (.yield (none,z.2.1,z.2.1+(z.2.2-z.2.1)/2))
  | _=>pure (.done (some none,z.2))
def Yn (b:Nat->SM (Option Bool)) (n lo hi:Nat):SM (Option Nat):=do
 let z ← forIn [0:n] ((none,lo,hi):TG) (binS b)
 (match z.1 with
 | some r=>pure r
 | none=>pure (some z.2.2))
def gal (b:Nat->SM (Option Bool)) (n h:Nat):SM (Option Nat):=do
 match ← b h with
 | some c=>(if c=true then (do
   let z ← forIn [0:n] ((none,0,1):TG) (upS b (λo=>h+o) (λc=>!c) (n-h))
   (match z.1 with
   | some r=>pure r
   | none=>Yn b n (h+z.2.1+1) (h+min z.2.2 (n-h))))
  else (do
   let z ← forIn [0:n] ((none,0,1):TG) (upS b (λo=>h-o) (λc=>c) (h+1))
   (match z.1 with
   | some r=>pure r
   | none=>Yn b n (h+1-min z.2.2 (h+1)) (h-z.2.1))))
 | _=>pure none
def bey (left:Bool) (key:aT) (arr:Array aT) (base i:Nat):SM (Option Bool):=do
 let x ← m6 arr (base+i)
 if left then lt' x key else return (← lt' key x).map (!·)
theorem Pb (left:Bool) (key:aT) (arr:Array aT) (base n hint:Nat):oN left key arr base n hint=gal (bey left key arr base) n hint:=by kernel_rfl
section
variable {M:Model}{A:cL}{E:aj->ax->Prop}{s:ax}{st:dG}{n m h:Nat}{P:Nat->Bool}{b:Nat->SM (Option Bool)}{Q:Option Nat->dG->Prop}
theorem w_up {g:Nat->Nat}{f:Bool->Bool}{Q:TG->dG->Prop}(hb:∀ o (Q:Option Bool->dG->Prop),o<m->Q (some (P (g o))) st->wU M A E s (b (g o)) Q st) (hm:m<=n) (h0:0<m)
  (h:∀ l o,l<o->l<m->(l=0\/f (P (g l))=false)->(o<m->f (P (g o))=true)->Q (none,l,o) st):wU M A E s (forIn [0:n] ((none,0,1):TG) (upS b g f m)) Q st:=by
 refine fP (I:=λx z st'=>st'=st/\z.1=none/\z.2.1<z.2.2/\z.2.1<m/\(z.2.1=0\/f (P (g z.2.1))=false)/\x<z.2.2) ?_ ?_ ⟨rfl,rfl,by decide,h0,.inl rfl,by decide⟩
 .rintro x ⟨z,l,o⟩ st' _ hx ⟨rfl,rfl,h1,h2,h3,h4⟩;unfold upS;dsimp only at h1 h2 h3 h4 ⊢
  by_cases c:o>=m
  .rw [if_pos c];exact a8 (h l o h1 h2 h3 λq=>absurd q (by lia))
  .rw [if_neg c];refine aP (hb o _ (by lia) ?_);dsimp only
   by_cases d:f (P (g o))=true
   .rw [if_pos d];exact a8 (h l o h1 h2 h3 λ_=>d)
   .rw [if_neg d];exact a8 ⟨rfl,rfl,by dsimp only;lia,by dsimp only;lia,.inr (by simpa using d),by dsimp only;lia⟩
 .rintro ⟨z,l,o⟩ st' ⟨rfl,rfl,h1,h2,h3,h4⟩;exact h l o h1 h2 h3 λq=>absurd q (by dsimp only at h4;lia)
theorem Wh {lo hi:Nat}(hb:∀ i (Q:Option Bool->dG->Prop),i<n->Q (some (P i)) st->wU M A E s (b i) Q st) (hP:∀ i j,i<=j->j<n->P j=true->P i=true)
  (h:∀ k,k<=n->(∀ i,i<k->P i=true)->(∀ i,k<=i->i<n->P i=false)->Q (some k) st) (h1:lo<=hi) (h2:hi<=n) (h3:lo=0\/P (lo-1)=true) (h4:hi<n->P hi=false):wU M A E s (Yn b n lo hi) Q st:=by
 have fin:∀ l r,l<=r->r<=n->(l=0\/P (l-1)=true)->(r<n->P r=false)->r<=l->Q (some r) st:=λl r a1 a2 a3 a4 a5=>h r a2 (λi hi=>a3.elim (λz=>by lia) λz=>hP i _ (by lia) (by lia) z) λi z1 z2=>by
  cases q:P i with
  | false=>rfl
  | true=>have:=hP r i z1 z2 q;rw [a4 (by lia)] at this;cases this
 refine aP (fP (I:=λx z st'=>st'=st/\z.1=none/\z.2.1<=z.2.2/\z.2.2<=n/\(z.2.1=0\/P (z.2.1-1)=true)/\(z.2.2<n->P z.2.2=false)/\z.2.2+x<=z.2.1+n) ?_ ?_ ⟨rfl,rfl,h1,h2,h3,h4,by dsimp only;lia⟩)
 .rintro x ⟨z,l,r⟩ st' _ hx ⟨rfl,rfl,a1,a2,a3,a4,a5⟩;unfold binS;dsimp only at a1 a2 a3 a4 a5 ⊢
  by_cases c:l>=r
  .rw [if_pos c];exact a8 (a8 (fin l r a1 a2 a3 a4 c))
  .rw [if_neg c];refine aP (hb _ _ (by lia) ?_)
   cases d:P (l+(r-l)/2) with
   | true=>exact a8 ⟨rfl,rfl,by dsimp only;lia,a2,.inr d,a4,by dsimp only;lia⟩
   | false=>exact a8 ⟨rfl,rfl,by dsimp only;lia,by dsimp only;lia,a3,λ_=>d,by dsimp only;lia⟩
 .rintro ⟨z,l,r⟩ st' ⟨rfl,rfl,a1,a2,a3,a4,a5⟩;exact a8 (fin l r a1 a2 a3 a4 (by dsimp only at a1 a5;lia))
theorem aai (hb:∀ i (Q:Option Bool->dG->Prop),i<n->Q (some (P i)) st->wU M A E s (b i) Q st) (hP:∀ i j,i<=j->j<n->P j=true->P i=true) (hh:h<n)
  (hq:∀ k,k<=n->(∀ i,i<k->P i=true)->(∀ i,k<=i->i<n->P i=false)->Q (some k) st):wU M A E s (gal b n h) Q st:=by
 refine aP (hb h _ hh ?_);dsimp only
 by_cases c:P h=true
 .rw [if_pos c];refine aP (w_up (P:=P) (λo Q ho q=>hb _ Q (by lia) q) (by lia) (by lia) λl o h1 h2 h3 h4=>Wh hb hP hq (by dsimp only;lia) (by dsimp only;lia) (.inr ?_) λz=>?_)
  .rcases h3 with rfl|h3
   .exact c
   .show P (h+l)=true;simpa using h3
  .have e:min o (n-h)=o:=by dsimp only at z;lia
   dsimp only at z ⊢;rw [e] at z ⊢;simpa using h4 (by lia)
 .rw [if_neg c];refine aP (w_up (P:=P) (λo Q ho q=>hb _ Q (by lia) q) (by lia) (by lia) λl o h1 h2 h3 h4=>Wh hb hP hq (by dsimp only;lia) (by dsimp only;lia) ?_ λz=>?_)
  .dsimp only
   by_cases q:o<h+1
   .refine .inr ?_
    have e:h+1-min o (h+1)-1=h-o:=by lia
    rw [e];exact h4 q
   .exact .inl (by lia)
  .rcases h3 with rfl|h3
   .simpa using c
   .exact h3
end
end Sy
namespace Sy
open PySem.W
structure G (r:aT->Int) (all out u v:List aT):Prop where
 pm:(out++(u++v)).Perm all
 so:out.Pairwise λx y=>r x<=r y
 su:u.Pairwise λx y=>r x<=r y
 sv:v.Pairwise λx y=>r x<=r y
 le:∀ x∈out,∀ y∈u++v,r x<=r y
section
variable {r:aT->Int}{all out u v c:List aT}{x:aT}
theorem G.swap (g:G r all out u v):G r all out v u :=
 ⟨(lV _ fR).trans g.pm,g.so,g.sv,g.su,λx hx y hy=>g.le x hx y (by simpa [or_comm] using hy)⟩
theorem G.take (g:G r all out (c++u) v) (h:∀ x∈c,∀ y∈v,r x<=r y):G r all (out++c) u v:=by
 obtain ⟨s1,s2,s3⟩:=gA.mp g.su;refine ⟨by simpa using g.pm,gA.mpr ⟨g.so,s1,λx hx y hy=>g.le x hx y (by simp [hy])⟩,s2,g.sv,λx hx y hy=>?_⟩
 rcases aQ.mp hx with hx|hx
 .exact g.le x hx y (by rcases aQ.mp hy with z|z<;>simp [z])
 .rcases aQ.mp hy with z|z
  .exact s3 x hx y z
  .exact h x hx y z
theorem G.done (g:G r all out u []):G r all (out++u) [] []:=G.take (u:=[]) (by simpa using g) λ_ _ _ z=>nomatch z
theorem G.len (g:G r all out u v):out.length+u.length+v.length=all.length:=by
 have:=g.pm.length_eq;simp at this;lia
end
abbrev S1 (α β γ:Type):=Option (Array aT)×α×β×γ×Nat×Nat
abbrev S2 (α β γ:Type):=Option (Array aT)×α×β×γ×Nat×Nat×Nat
abbrev S0 (α β γ:Type):=Option (Array aT)×α×β×γ×Nat
abbrev T1:=S1 (Array aT) Nat Nat
abbrev T2:=S2 (Array aT) Nat Nat
def RM (g:Nat):SM Unit:=modify λs=>aX (kindOf s) (nT s) (cS s) g (i6 s)
def rnd {α β γ:Type} (N:Nat) (B:Nat->Nat->S1 α β γ->SM (ForInStep (S1 α β γ))) (g:Nat->S2 α β γ->SM (ForInStep (S2 α β γ))) (_:Nat) (z:S0 α β γ):SM (ForInStep (S0 α β γ)):=do
 let y ← forIn [0:N] ((none,z.2.1,z.2.2.1,z.2.2.2.1,0,0):S1 α β γ) (B z.2.2.2.2)
 (match y.1 with
 | some r=>pure (.done (some r,y.2.1,y.2.2.1,y.2.2.2.1,z.2.2.2.2))
 | none=>do
  liftM (FT "list.sort.gallop")
  let x ← forIn [0:N] ((none,y.2.1,y.2.2.1,y.2.2.2.1,z.2.2.2.2+1,y.2.2.2.2):S2 α β γ) g
  (match x.1 with
  | some r=>pure (.done (some r,x.2.1,x.2.2.1,x.2.2.2.1,x.2.2.2.2.1))
  | none=>do
   RM (x.2.2.2.2.1+1)
   pure (.yield (none,x.2.1,x.2.2.1,x.2.2.2.1,x.2.2.2.2.1+1))))
def mrg {α β γ:Type} (N:Nat) (B:Nat->Nat->S1 α β γ->SM (ForInStep (S1 α β γ))) (g:Nat->S2 α β γ->SM (ForInStep (S2 α β γ))) (x:α) (y:β) (z:γ):SM (Array aT):=do
 let t ← get
 let q ← forIn [0:N] ((none,x,y,z,gallopOf t):S0 α β γ) (rnd N B g)
 (match q.1 with
 | some r=>pure r
 | none=>liftM (unsupported "internal:list.sort.merge-bound"))
def CM:Array aT->Array aT->SM (Array aT):=sortPriv% PySem.Builtin.mergeLo
section
variable (a b:Array aT)
def dn (o:Array aT) (i j:Nat):Array aT:=o++a.extract i a.size++b.extract j b.size
def lst (o:Array aT) (i j:Nat):Array aT:=o++b.extract j b.size++a.extract i a.size
def loB (mg:Nat) (_:Nat) (z:T1):SM (ForInStep T1):=do
 match ← lt' (← m6 b z.2.2.2.1) (← m6 a z.2.2.1) with
 | some c=>(if c=true then (do
   let o:=z.2.1.push (← m6 b z.2.2.2.1)
   if (z.2.2.2.1+1 == b.size)=true then pure (.done (some (dn a b o z.2.2.1 (z.2.2.2.1+1)),o,z.2.2.1,z.2.2.2.1+1,0,z.2.2.2.2.2+1))
   else if z.2.2.2.2.2+1>=mg then pure (.done (none,o,z.2.2.1,z.2.2.2.1+1,0,z.2.2.2.2.2+1)) else pure (.yield (none,o,z.2.2.1,z.2.2.2.1+1,0,z.2.2.2.2.2+1)))
  else (do
   let o:=z.2.1.push (← m6 a z.2.2.1)
   if (z.2.2.1+1+1 == a.size)=true then pure (.done (some (lst a b o (z.2.2.1+1) z.2.2.2.1),o,z.2.2.1+1,z.2.2.2.1,z.2.2.2.2.1+1,0))
   else if z.2.2.2.2.1+1>=mg then pure (.done (none,o,z.2.2.1+1,z.2.2.2.1,z.2.2.2.2.1+1,0)) else pure (.yield (none,o,z.2.2.1+1,z.2.2.2.1,z.2.2.2.2.1+1,0))))
 | _=>pure (.done (some (dn a b z.2.1 z.2.2.1 z.2.2.2.1),z.2))
def U8 (o:Array aT) (i j mg k m:Nat):SM (ForInStep T2):=do
 let o:=o.push (← m6 a i)
 if (i+1+1 == a.size)=true then pure (.done (some (lst a b o (i+1) j),o,i+1,j,mg,k,m))
 else if (decide (k<7) && decide (m<7))=true then pure (.done (none,o,i+1,j,mg,k,m)) else pure (.yield (none,o,i+1,j,mg,k,m))
def U9 (o:Array aT) (i j mg k q:Nat):SM (ForInStep T2):=do
 let o:=o.push (← m6 b j)
 if (j+1 == b.size)=true then pure (.done (some (dn a b o i (j+1)),o,i,j+1,mg,k,q))
 else (do
  match ← oN true (← m6 a i) b (j+1) (b.size-(j+1)) 0 with
  | some m=>if m>0 then (if (j+1+m == b.size)=true then pure (.done (some (dn a b (o++b.extract (j+1) (j+1+m)) i (j+1+m)),o++b.extract (j+1) (j+1+m),i,j+1+m,mg,k,m)) else U8 a b (o++b.extract (j+1) (j+1+m)) i (j+1+m) mg k m) else U8 a b o i (j+1) mg k m
  | _=>pure (.done (some (dn a b o i (j+1)),o,i,j+1,mg,k,q)))
def RN (z:T2) (mg:Nat):SM (ForInStep T2):=do
 RM mg
 match ← oN false (← m6 b z.2.2.2.1) a z.2.2.1 (a.size-z.2.2.1) 0 with
 | some k=>if k>0 then (if (z.2.2.1+k+1 == a.size)=true then pure (.done (some (lst a b (z.2.1++a.extract z.2.2.1 (z.2.2.1+k)) (z.2.2.1+k) z.2.2.2.1),z.2.1++a.extract z.2.2.1 (z.2.2.1+k),z.2.2.1+k,z.2.2.2.1,mg,k,z.2.2.2.2.2.2))
   else if (z.2.2.1+k == a.size)=true then pure (.done (some (dn a b (z.2.1++a.extract z.2.2.1 (z.2.2.1+k)) (z.2.2.1+k) z.2.2.2.1),z.2.1++a.extract z.2.2.1 (z.2.2.1+k),z.2.2.1+k,z.2.2.2.1,mg,k,z.2.2.2.2.2.2))
   else U9 a b (z.2.1++a.extract z.2.2.1 (z.2.2.1+k)) (z.2.2.1+k) z.2.2.2.1 mg k z.2.2.2.2.2.2) else U9 a b z.2.1 z.2.2.1 z.2.2.2.1 mg k z.2.2.2.2.2.2
 | _=>pure (.done (some (dn a b z.2.1 z.2.2.1 z.2.2.2.1),z.2.1,z.2.2.1,z.2.2.2.1,mg,z.2.2.2.2.2))
def loG (_:Nat) (z:T2):SM (ForInStep T2):=if z.2.2.2.2.1>1 then RN a b z (z.2.2.2.2.1-1) else RN a b z z.2.2.2.2.1
theorem aaj:CM a b=(do
  liftM (FT "list.sort.merge-lo")
  let x ← m6 b 0
  if (1 == b.size)=true then pure (dn a b #[x] 0 1) else if (0+1 == a.size)=true then pure (lst a b #[x] 0 1)
  else mrg (a.size+b.size) (loB a b) (loG a b) #[x] 0 1):=by kernel_rfl
end
end Sy
namespace Sy
open PySem.W
def St (r:aT->Int) (a:Array aT) (i j:Nat):Prop:=∀ t u x y,i<=t->t<=u->u<j->a[t]?=some x->a[u]?=some y->r x<=r y
def Bv (r:aT->Int) (left:Bool) (key x:aT):Bool:=if left=true then decide (r x<r key) else !decide (r key<r x)
def Hv (prog:bA) (w:cg) (A:cL) (s:ax) (κ:jy) (D:aT->Prop) (r:aT->Int):Prop :=
 ∀ x y,D x->D y->∀ Q:Bool->ax->Prop,Q (decide (r x<r y)) s->aH (aL prog w) A (keyLt' κ x.1 y.1) Q (λ_ _=>False) s
section
variable {prog:bA}{w:cg}{A:cL}{E:aj->ax->Prop}{s:ax}{κ:jy} {D:aT->Prop}{r:aT->Int}{st:dG}{a b:Array aT}{x y key:aT}{i j n hint:Nat}{left:Bool}
theorem w_lt (hc:Hv prog w A s κ D r) (hk:kindOf st=κ) (hx:D x) (hy:D y) {Q:Option Bool->dG->Prop}(h:Q (some (decide (r x<r y))) st):wU (aL prog w) A E s (lt' x y) Q st:=by
 rw [lt'_eq];refine aP (qW ?_);rw [hk];exact aP (Jm (iq (dr (hc x y hx hy (λc s'=>s'=s/\c=decide (r x<r y)) ⟨rfl,rfl⟩) (λc s' q=>⟨q.1,by rw [q.2];exact a8 h⟩) λ_ _ q=>q.elim)))
theorem n5 {Q:aT->dG->Prop}(e:a[i]?=some x) (h:Q x st):wU (aL prog w) A E s (m6 a i) Q st:=by rw [elem'_eq,e];exact a8 h
theorem pS {Q:Option Nat->dG->Prop}(hc:Hv prog w A s κ D r) (hk:kindOf st=κ) (hD:∀ (t:Nat) x,a[t]?=some x->D x) (hy:D key) (hz:i+n<=a.size) (hs:St r a i (i+n)) (hh:hint<n)
  (h:∀ k,k<=n->(∀ t x,i<=t->t<i+k->a[t]?=some x->Bv r left key x=true)->(∀ t x,i+k<=t->t<i+n->a[t]?=some x->Bv r left key x=false)->Q (some k) st):wU (aL prog w) A E s (oN left key a i n hint) Q st:=by
 rw [Pb]
 have get:∀ t,t<n->∃ x,a[i+t]?=some x:=λt ht=>⟨a[i+t],by simp⟩
 refine aai (P:=λt=>((a[i+t]?).map (Bv r left key)).getD false) (λt Q ht q=>?_) (λt u h1 h2 h3=>?_) hh λk h1 h2 h3=>h k h1 (λt x z1 z2 e=>?_) λt x z1 z2 e=>?_
 .obtain ⟨x,e⟩:=get t ht
  have q:Q (some (Bv r left key x)) st:=by simpa [e] using q
  refine aP (n5 e ?_)
  cases left with
  | true=>exact w_lt hc hk (hD _ x e) hy q
  | false=>exact aP (w_lt hc hk hy (hD _ x e) (a8 q))
 .obtain ⟨x,e⟩:=get t (by lia);obtain ⟨y,f⟩:=get u h2;have le:=hs _ _ x y (by lia) (show i+t<=i+u by lia) (by lia) e f;simp only [e,f,EB,Uj] at h3 ⊢
  cases left with
  | true=>exact decide_eq_true (Int.lt_of_le_of_lt le (of_decide_eq_true h3))
  | false =>
   have h3:(!decide (r key<r y))=true:=h3
   show (!decide (r key<r x))=true
   simp only [Bool.not_eq_true',decide_eq_false_iff_not] at h3 ⊢;lia
 .have:=h2 (t-i) (by lia);rw [show i+(t-i)=t by lia] at this
  simpa [e] using this
 .have:=h3 (t-i) (by lia) (by lia);rw [show i+(t-i)=t by lia] at this
  simpa [e] using this
end
section
variable {a:Array aT}{x:aT}{i j k:Nat}
theorem NY (a:Array aT) (i k:Nat):a.toList.drop i=(a.extract i (i+k)).toList++a.toList.drop (i+k):=by
 have:=(eS k (a.toList.drop i)).symm
 simpa [Zq] using this
theorem Mo (h:x∈a.toList.drop i):∃ t,i<=t/\t<a.size/\a[t]?=some x:=by
 obtain ⟨t,ht,e⟩:=Qu.mp h;simp at ht;exact ⟨i+t,by lia,by lia,by rw [List.getElem_drop] at e;rw [← e];simp⟩
theorem ze (h:x∈(a.extract i j).toList):∃ t,i<=t/\t<j/\t<a.size/\a[t]?=some x:=by
 obtain ⟨t,ht,e⟩:=Qu.mp h;simp at ht;exact ⟨i+t,by lia,by lia,by lia,by rw [Array.getElem_toList,Array.getElem_extract] at e;rw [← e];simp⟩
theorem zc (h:a.size<=i):a.toList.drop i=[]:=List.drop_eq_nil_of_le (by simpa using h)
theorem sG (a:Array aT) (i:Nat):(a.extract i a.size).toList=a.toList.drop i:=by simpa using cf (by simp)
end
end Sy
namespace Sy
open PySem.W
section
variable {prog:bA}{w:cg}{A:cL}{E:aj->ax->Prop}{s:ax}{κ:jy} {D:aT->Prop}{r:aT->Int}{a b:Array aT}{xs o:Array aT}{pd:Array (Nat×Nat×Nat)}{i j k g mg N:Nat}{all:List aT}
def F (r:aT->Int) (all:List aT) (o:Array aT):Prop:=G r all o.toList [] []
def J (r:aT->Int) (all:List aT) (a b o:Array aT) (i j:Nat):Prop:=G r all o.toList (a.toList.drop i) (b.toList.drop j)
def Lm (r:aT->Int) (all:List aT) (a b:Array aT) (k:Nat) (z:Option (Array aT)) (o:Array aT) (i j:Nat):Prop :=
 (∀ q,z=some q->F r all q)/\(z=none->J r all a b o i j/\i+1<a.size/\j<b.size/\k<=o.size)
structure IQ (r:aT->Int) (D:aT->Prop) (a b:Array aT):Prop where
 da:∀ (t:Nat) x,a[t]?=some x->D x
 db:∀ (t:Nat) x,b[t]?=some x->D x
 sa:St r a 0 a.size
 sb:St r b 0 b.size
 la:∀ (t u:Nat) x y,t+1=a.size->a[t]?=some x->b[u]?=some y->r y<=r x
theorem J.len (g:J r all a b o i j) (hi:i<=a.size) (hj:j<=b.size) (hl:all.length=a.size+b.size):o.size=i+j:=by
 have:=G.len g;simp at this;lia
theorem J.fb (g:J r all a b o i j) (h:j=b.size):F r all (dn a b o i j):=by
 unfold J at g;rw [zc (a:=b) (kD h.symm)] at g;have:=g.done;unfold F dn;rw [gO,gO,sG,sG,zc (a:=b) (kD h.symm),oB];exact this
theorem J.fa (g:J r all a b o i j) (h:i=a.size):F r all (dn a b o i j):=by
 unfold J at g;rw [zc (a:=a) (kD h.symm)] at g;have:=g.swap.done;unfold F dn;rw [gO,gO,sG,sG,zc (a:=a) (kD h.symm),oB];exact this
theorem J.fl (g:J r all a b o i j) (T:IQ r D a b) (h:i+1=a.size):F r all (lst a b o i j):=by
 have g2:G r all (o.toList++b.toList.drop j) [] (a.toList.drop i):=G.take (by simpa using G.swap g) λy hy x hx=>by
  obtain ⟨t,h1,h2,e⟩:=Mo hx;obtain ⟨u,_,_,f⟩:=Mo hy;exact T.la t u x y (by lia) e f
 have:=g2.swap.done;unfold F lst;rw [gO,gO,sG,sG];exact this
theorem J.ta (g:J r all a b o i j) (h:∀ t x u y,i<=t->t<i+k->a[t]?=some x->j<=u->b[u]?=some y->r x<=r y):J r all a b (o++a.extract i (i+k)) (i+k) j:=by
 unfold J at g ⊢;rw [NY a i k] at g;rw [gO]
 exact g.take λx hx y hy=>by
  obtain ⟨t,h1,h2,_,e⟩:=ze hx;obtain ⟨u,h3,_,f⟩:=Mo hy;exact h t x u y h1 h2 e h3 f
theorem J.tb (g:J r all a b o i j) (h:∀ t x u y,j<=t->t<j+k->b[t]?=some x->i<=u->a[u]?=some y->r x<=r y):J r all a b (o++b.extract j (j+k)) i (j+k) :=
 G.swap (J.ta (a:=b) (b:=a) (G.swap g) h)
theorem RO {x:aT}(e:a[i]?=some x):o.push x=o++a.extract i (i+1):=by
 obtain ⟨h,rfl⟩:=cB.mp e
 apply km.mp
 have:=fQ (l:=a.toList) (i:=i) (by simpa using h);simp [this]
theorem J.pa {x:aT}(g:J r all a b o i j) (T:IQ r D a b) (e:a[i]?=some x) (h:∀ u y,j<=u->b[u]?=some y->r x<=r y):J r all a b (o.push x) (i+1) j:=by
 rw [RO e]
 exact J.ta g λt z u y h1 h2 f h3 h4=>by
  have:t=i:=by lia
  subst this;rw [e] at f;cases f;exact h u y h3 h4
theorem J.pb {x:aT}(g:J r all a b o i j) (T:IQ r D a b) (e:b[j]?=some x) (h:∀ u y,i<=u->a[u]?=some y->r x<=r y):J r all a b (o.push x) i (j+1):=by
 rw [RO e]
 exact J.tb g λt z u y h1 h2 f h3 h4=>by
  have:t=j:=by lia
  subst this;rw [e] at f;cases f;exact h u y h3 h4
end
end Sy
namespace Sy
open PySem.W
variable {a:Array aT}{i:Nat}
section
variable {prog:bA}{w:cg}{A:cL}{E:aj->ax->Prop}{s:ax}{κ:jy} {D:aT->Prop}{r:aT->Int}{st:dG}{b:Array aT}{xs o:Array aT}{pd:Array (Nat×Nat×Nat)}{j k m q g mg N:Nat}{all:List aT}
def Sm (κ:jy) (xs:Array aT) (pd:Array (Nat×Nat×Nat)) (st:dG):Prop:=∃ g,st=aX κ xs pd g none
theorem gb (h:i<a.size):∃ x,a[i]?=some x:=⟨a[i],by simp [h]⟩
theorem sH {x:aT}(h:a[i]?=some x):i<a.size:=(cB.mp h).1
theorem Lm.told {q:Array aT}(h:F r all q):Lm r all a b k (some q) o i j:=⟨λ_ e=>by cases e;exact h,(λe=>nomatch e)⟩
theorem Lm.on (h1:J r all a b o i j) (h2:i+1<a.size) (h3:j<b.size) (h4:k<=o.size):Lm r all a b k none o i j:=⟨(λ_ e=>nomatch e),λ_=>⟨h1,h2,h3,h4⟩⟩
theorem aak (hc:Hv prog w A s κ D r) (hk:kindOf st=κ) (T:IQ r D a b) {Q:T1->dG->Prop}(h1:J r all a b o i j) (h2:i+1<a.size) (h3:j<b.size)
  (h:∀ z,Lm r all a b o.size z.1 z.2.1 z.2.2.1 z.2.2.2.1->Q z st):wU (aL prog w) A E s (forIn [0:N] ((none,o,i,j,0,0):T1) (loB a b mg)) Q st:=by
 refine fP (I:=λx z st'=>st'=st/\z.1=none/\J r all a b z.2.1 z.2.2.1 z.2.2.2.1/\z.2.2.1+1<a.size/\z.2.2.2.1<b.size/\o.size<=z.2.1.size) ?_ ?_ ⟨rfl,rfl,h1,h2,h3,au _⟩
 .rintro x ⟨z,o',i',j',ac,bc⟩ st' _ hx ⟨rfl,rfl,g,g2,g3,g4⟩;dsimp only at g g2 g3 g4;obtain ⟨u,eu⟩:=gb (a:=a) (i:=i') (by lia);obtain ⟨v,ev⟩:=gb g3;unfold loB;refine aP (n5 ev (aP (n5 eu (aP (w_lt hc hk (T.db _ _ ev) (T.da _ _ eu) ?_)))));dsimp only
  have sz:∀ x:aT,o.size<=(o'.push x).size:=λx=>by rw [iC];lia
  by_cases c:r v<r u
  .rw [decide_eq_true c,if_pos rfl];have g5:=g.pb T ev λt y h1 e=>de (gm c) (T.sa _ _ _ _ (aO _) h1 (sH e) eu e);refine aP (n5 ev ?_)
   by_cases e:j'+1=b.size
   .rw [if_pos (by simpa using e)];exact a8 (h _ (Lm.told (g5.fb e)))
   .rw [if_neg (by simpa using e)]
    by_cases f:bc+1>=mg
    .rw [if_pos f];exact a8 (h _ (Lm.on g5 g2 (by dsimp only;lia) (sz _)))
    .rw [if_neg f];exact a8 ⟨rfl,rfl,g5,g2,by dsimp only;lia,sz _⟩
  .rw [decide_eq_false c,if_neg (by simp)];have g5:=g.pa T eu λt y h1 e=>de (qu.mp c) (T.sb _ _ _ _ (aO _) h1 (sH e) ev e);refine aP (n5 eu ?_)
   by_cases e:i'+1+1=a.size
   .rw [if_pos (by simpa using e)];exact a8 (h _ (Lm.told (g5.fl T e)))
   .rw [if_neg (by simpa using e)]
    by_cases f:ac+1>=mg
    .rw [if_pos f];exact a8 (h _ (Lm.on g5 (by dsimp only;lia) g3 (sz _)))
    .rw [if_neg f];exact a8 ⟨rfl,rfl,g5,by dsimp only;lia,g3,sz _⟩
 .rintro ⟨z,o',i',j',ac,bc⟩ st' ⟨rfl,rfl,g,g2,g3,g4⟩;exact h _ (Lm.on g g2 g3 g4)
def Nx (κ:jy) (xs:Array aT) (pd:Array (Nat×Nat×Nat)) (r:aT->Int) (all:List aT) (a b:Array aT) (k:Nat) (x:ForInStep T2) (st':dG):Prop :=
 Sm κ xs pd st'/\match x with
  | .done z=>Lm r all a b k z.1 z.2.1 z.2.2.1 z.2.2.2.1
  | .yield z=>z.1=none/\J r all a b z.2.1 z.2.2.1 z.2.2.2.1/\z.2.2.1+1<a.size/\z.2.2.2.1<b.size/\k<=z.2.1.size
theorem Wi (T:IQ r D a b) (h0:Sm κ xs pd st) (h1:J r all a b o i j) (h2:i+1<a.size) (h3:j<b.size) (h4:k<=o.size+1)
  (h:∀ x,a[i]?=some x->∀ u y,j<=u->b[u]?=some y->r x<=r y):wU (aL prog w) A E s (U8 a b o i j mg m q) (Nx κ xs pd r all a b k) st:=by
 obtain ⟨x,e⟩:=gb (a:=a) (i:=i) (by lia);unfold U8;have g:=h1.pa T e (h x e)
 have sz:k<=(o.push x).size:=by rw [iC];lia
 refine aP (n5 e ?_);dsimp only
 by_cases c:i+1+1=a.size
 .rw [if_pos (by simpa using c)];exact a8 ⟨h0,Lm.told (g.fl T c)⟩
 .rw [if_neg (by simpa using c)]
  split
  .exact a8 ⟨h0,Lm.on g (by dsimp only;lia) h3 sz⟩
  .exact a8 ⟨h0,rfl,g,by dsimp only;lia,h3,sz⟩
theorem Wj (hc:Hv prog w A s κ D r) (T:IQ r D a b) (h0:Sm κ xs pd st) (h1:J r all a b o i j) (h2:i+1<a.size) (h3:j<b.size) (h4:k<=o.size+2)
  (h:∀ x,b[j]?=some x->∀ u y,i<=u->a[u]?=some y->r x<=r y):wU (aL prog w) A E s (U9 a b o i j mg m q) (Nx κ xs pd r all a b k) st:=by
 obtain ⟨x,e⟩:=gb h3;obtain ⟨y,f⟩:=gb (a:=a) (i:=i) (by lia);unfold U9;have g:=h1.pb T e (h x e);refine aP (n5 e ?_);dsimp only
 by_cases c:j+1=b.size
 .rw [if_pos (by simpa using c)];exact a8 ⟨h0,Lm.told (g.fb c)⟩
 .rw [if_neg (by simpa using c)]
  have hk:kindOf st=κ:=by obtain ⟨_,rfl⟩:=h0;rfl
  refine aP (n5 f (aP (pS hc hk T.db (T.da _ _ f) (by lia) (λt u x y z1 z2 z3=>T.sb t u x y (aO _) z2 (by lia)) (by lia) λn n1 n2 n3=>?_)));dsimp only;have ya:∀ u z,i<=u->a[u]?=some z->r y<=r z:=λu z h1 e=>T.sa _ _ _ _ (aO _) h1 (sH e) f e;have g2:=g.tb (k:=n) λt x u z z1 z2 e1 z3 e2=>de (gm (of_decide_eq_true (n2 t x z1 z2 e1))) (ya u z z3 e2)
  have hb:∀ x,a[i]?=some x->∀ u z,j+1+n<=u->b[u]?=some z->r x<=r z:=λx e1 u z h1 e2=>by
   rw [f] at e1;cases e1;exact qu.mp (of_decide_eq_false (n3 u z h1 (by have:=sH e2;lia) e2))
  have sz:k<=(o.push x).size+1:=by rw [iC];lia
  by_cases d:n>0
  .rw [if_pos d]
   by_cases c2:j+1+n=b.size
   .rw [if_pos (by simpa using c2)];exact a8 ⟨h0,Lm.told (g2.fb c2)⟩
   .rw [if_neg (by simpa using c2)];exact Wi T h0 g2 h2 (by lia) (by rw [qy];lia) hb
  .rw [if_neg d]
   have:n=0:=by lia
   subst this;exact Wi T h0 g h2 (by lia) sz hb
theorem aal (hc:Hv prog w A s κ D r) (T:IQ r D a b) (h0:Sm κ xs pd st) {z:T2}(h1:J r all a b z.2.1 z.2.2.1 z.2.2.2.1) (h2:z.2.2.1+1<a.size) (h3:z.2.2.2.1<b.size) (h4:k<=z.2.1.size+1) :
  wU (aL prog w) A E s (RN a b z mg) (Nx κ xs pd r all a b k) st:=by
 obtain ⟨z0,o,i,j,g0,ac,bc⟩:=z;dsimp only at h1 h2 h3 h4;obtain ⟨x,e⟩:=gb h3;unfold RN RM;dsimp only;refine aP (iI ?_)
 have h0':Sm κ xs pd (aX (kindOf st) (nT st) (cS st) mg (i6 st)):=by obtain ⟨g,rfl⟩:=h0;exact ⟨mg,rfl⟩
 have hk:kindOf (aX (kindOf st) (nT st) (cS st) mg (i6 st))=κ:=by obtain ⟨_,e⟩:=h0';rw [e]
 generalize aX (kindOf st) (nT st) (cS st) mg (i6 st)=st1 at h0' hk;refine aP (n5 e (aP (pS hc hk T.da (T.db _ _ e) (by lia) (λt u x y z1 z2 z3=>T.sa t u x y (aO _) z2 (by lia)) (by lia) λn n1 n2 n3=>?_)));dsimp only;have xb:∀ u z,j<=u->b[u]?=some z->r x<=r z:=λu z h1 e1=>T.sb _ _ _ _ (aO _) h1 (sH e1) e e1
 have nx:∀ t y,i<=t->t<i+n->a[t]?=some y->r y<=r x:=λt y h1 h2 e1=>by
  have:=n2 t y h1 h2 e1
  simpa [Bv] using this
 have g2:=h1.ta (k:=n) λt y u z z1 z2 e1 z3 e2=>de (nx t y z1 z2 e1) (xb u z z3 e2)
 have ha:∀ y,b[j]?=some y->∀ u z,i+n<=u->a[u]?=some z->r y<=r z:=λy e1 u z h1 e2=>by
  rw [e] at e1;cases e1;have:=n3 u z h1 (by have:=sH e2;lia) e2;exact gm (by simpa [Bv] using this)
 by_cases d:n>0
 .rw [if_pos d]
  by_cases c1:i+n+1=a.size
  .rw [if_pos (by simpa using c1)];exact a8 ⟨h0',Lm.told (g2.fl T c1)⟩
  .rw [if_neg (by simpa using c1)]
   by_cases c2:i+n=a.size
   .rw [if_pos (by simpa using c2)];exact a8 ⟨h0',Lm.told (g2.fa c2)⟩
   .rw [if_neg (by simpa using c2)];exact Wj hc T h0' g2 (by lia) h3 (by rw [qy];lia) ha
 .rw [if_neg d]
  have:n=0:=by lia
  subst this;exact Wj hc T h0' h1 h2 h3 (by lia) ha
theorem Wk {α β γ:Type} {B:Nat->Nat->S1 α β γ->SM (ForInStep (S1 α β γ))}{G:Nat->S2 α β γ->SM (ForInStep (S2 α β γ))}{Fq:Array aT->Prop}{Jv:α->β->γ->Prop}{sz:α->β->γ->Nat}{Q:Array aT->dG->Prop}{x:α}{y:β}{z:γ}
  (hB:∀ mg st x y z (Q:S1 α β γ->dG->Prop),Sm κ xs pd st->Jv x y z->(∀ u,(∀ q,u.1=some q->Fq q)->(u.1=none->Jv u.2.1 u.2.2.1 u.2.2.2.1/\sz x y z<=sz u.2.1 u.2.2.1 u.2.2.2.1)->Q u st)->wU (aL prog w) A E s (forIn [0:N] ((none,x,y,z,0,0):S1 α β γ) (B mg)) Q st)
  (hG:∀ i st (u:S2 α β γ),Sm κ xs pd st->Jv u.2.1 u.2.2.1 u.2.2.2.1->wU (aL prog w) A E s (G i u) (λv st'=>Sm κ xs pd st'/\match v with
   | .done v=>(∀ q,v.1=some q->Fq q)/\(v.1=none->Jv v.2.1 v.2.2.1 v.2.2.2.1/\sz u.2.1 u.2.2.1 u.2.2.2.1+1<=sz v.2.1 v.2.2.1 v.2.2.2.1)
   | .yield v=>v.1=none/\Jv v.2.1 v.2.2.1 v.2.2.2.1/\sz u.2.1 u.2.2.1 u.2.2.2.1+1<=sz v.2.1 v.2.2.1 v.2.2.2.1) st)
  (hN:∀ x y z,Jv x y z->sz x y z<N) (h0:Sm κ xs pd st) (h1:Jv x y z) (h:∀ q st',Sm κ xs pd st'->Fq q->Q q st'):wU (aL prog w) A E s (mrg N B G x y z) Q st:=by
 refine aP (qW (aP (nU (fP (I:=λk z st'=>Sm κ xs pd st'/\z.1=none/\Jv z.2.1 z.2.2.1 z.2.2.2.1/\k<=sz z.2.1 z.2.2.1 z.2.2.2.1)
  (Q:=λz st'=>Sm κ xs pd st'/\∃ q,z.1=some q/\Fq q) ?_ ?_ ⟨h0,rfl,h1,aO _⟩) ?_)))
 .rintro k u st' _ hk ⟨i0,i1,i2,i3⟩;refine aP (hB _ _ _ _ _ _ i0 i2 λv v1 v2=>?_);obtain ⟨v0,v⟩:=v
  cases v0 with
  | some q=>exact a8 ⟨i0,q,rfl,v1 q rfl⟩
  | none =>
   obtain ⟨v3,v4⟩:=v2 rfl;refine aP (Jm (jo ⟨rfl,?_⟩))
   refine aP (nU (fP (I:=λm z st'=>Sm κ xs pd st'/\z.1=none/\Jv z.2.1 z.2.2.1 z.2.2.2.1/\k+m<=sz z.2.1 z.2.2.1 z.2.2.2.1)
    (Q:=λz st'=>Sm κ xs pd st'/\(∀ q,z.1=some q->Fq q)/\(z.1=none->Jv z.2.1 z.2.2.1 z.2.2.2.1/\k+1<=sz z.2.1 z.2.2.1 z.2.2.2.1)) ?_ ?_ ⟨i0,rfl,v3,br i3 v4⟩) ?_)
   .rintro m u' st2 _ hm ⟨j0,j1,j2,j3⟩;refine nU (hG m st2 u' j0 j2) λv st3 q=>?_;obtain ⟨p,q⟩:=q
    cases v with
    | done v=>exact ⟨p,q.1,λe=>let ⟨a1,a2⟩:=q.2 e;⟨a1,by lia⟩⟩
    | yield v=>exact ⟨p,q.1,q.2.1,by have:=q.2.2;lia⟩
   .rintro u' st2 ⟨j0,j1,j2,j3⟩;exact ⟨j0,⟨λq e=>(by rw [j1] at e;cases e),λ_=>⟨j2,by have:=hN _ _ _ j2;lia⟩⟩⟩
   .rintro ⟨u0,u'⟩ st2 ⟨j0,j1,j2⟩
    cases u0 with
    | some q=>exact a8 ⟨j0,q,rfl,j1 q rfl⟩
    | none =>
     have j3:=j2 rfl;exact aP (iI (a8 ⟨by obtain ⟨g,rfl⟩:=j0;exact ⟨_,rfl⟩,rfl,j3.1,j3.2⟩))
 .rintro u st' ⟨i0,i1,i2,i3⟩;have:=hN _ _ _ i2;lia
 .rintro ⟨u0,u⟩ st' ⟨i0,q,e,hq⟩;cases e;exact a8 (h q st' i0 hq)
theorem w_lo (hc:Hv prog w A s κ D r) (T:IQ r D a b) (h0:st=aX κ xs pd g none) (ha:0<a.size) (hb:0<b.size) (hl:∀ x y,b[0]?=some x->a[0]?=some y->r x<=r y) {Q:Array aT->dG->Prop}
  (h:∀ q st',Sm κ xs pd st'->F r (a.toList++b.toList) q->Q q st'):wU (aL prog w) A E s (CM a b) Q st:=by
 rw [aaj];refine aP (Jm (jo ⟨rfl,?_⟩));obtain ⟨x,e⟩:=gb hb;obtain ⟨y,f⟩:=gb ha;refine aP (n5 e ?_);have pw:∀ c:Array aT,St r c 0 c.size->c.toList.Pairwise λx y=>r x<=r y:=λc h=>iE.mpr λi j hi hj hij=>h i j _ _ (aO _) (mY hij) (by simpa using hj) (by simp) (by simp)
 have g0:J r (a.toList++b.toList) a b #[] 0 0:=⟨by simp,nW,by simpa using pw a T.sa,by simpa using pw b T.sb,λ_ z=>nomatch z⟩
 have g:=g0.pb T e λu z h1 e1=>de (hl x y e f) (T.sa _ _ _ _ (aO _) h1 (sH e1) f e1);have g:J r (a.toList++b.toList) a b #[x] 0 1:=g
 by_cases c1:1=b.size
 .rw [if_pos (by simpa using c1)];exact a8 (h _ _ ⟨_,h0⟩ (g.fb c1))
 .rw [if_neg (by simpa using c1)]
  by_cases c2:0+1=a.size
  .rw [if_pos (by simpa using c2)];exact a8 (h _ _ ⟨_,h0⟩ (g.fl T c2))
  .rw [if_neg (by simpa using c2)]
   refine Wk (Fq:=F r (a.toList++b.toList)) (Jv:=λo i j=>J r (a.toList++b.toList) a b o i j/\i+1<a.size/\j<b.size) (sz:=λo _ _=>o.size) (λmg st o i j Q w1 w2 w3=>aak hc (by obtain ⟨_,rfl⟩:=w1;rfl) T w2.1 w2.2.1 w2.2.2 λu q=>w3 u q.1 λe=>let ⟨a1,a2,a3,a4⟩:=q.2 e;⟨⟨a1,a2,a3⟩,a4⟩) (λk st u w1 w2=>?_) (λo i j q=>by
    have:=q.1.len (by lia) (by lia) (by simp)
    lia) ⟨_,h0⟩ ⟨g,by lia,by lia⟩ h
   have e:loG a b k u=RN a b u (if u.2.2.2.2.1>1 then u.2.2.2.2.1-1 else u.2.2.2.2.1):=by unfold loG;split<;>rfl
   rw [e]
   refine nU (aal hc T w1 w2.1 w2.2.1 w2.2.2 (au _)) λv st2 q=>⟨q.1,?_⟩
   have q:=q.2
   cases v with
   | done v=>exact ⟨q.1,λe=>let ⟨a1,a2,a3,a4⟩:=q.2 e;⟨⟨a1,a2,a3⟩,a4⟩⟩
   | yield v=>exact ⟨q.1,⟨q.2.1,q.2.2.1,q.2.2.2.1⟩,q.2.2.2.2⟩
end
end Sy
namespace Sy
open PySem.W
def CN:Array aT->Array aT->SM (Array aT):=sortPriv% PySem.Builtin.mergeHi
abbrev U1:=S1 Nat Nat (Array aT)
abbrev U2:=S2 Nat Nat (Array aT)
section
variable (a b:Array aT)
def RP (o:Array aT) (i j:Nat):Array aT:=a.extract 0 i++b.extract 0 j++o.reverse
def Yo (o:Array aT) (i j:Nat):Array aT:=b.extract 0 j++a.extract 0 i++o.reverse
def hiB (mg:Nat) (_:Nat) (z:U1):SM (ForInStep U1):=do
 match ← lt' (← m6 b (z.2.2.1-1)) (← m6 a (z.2.1-1)) with
 | some c=>(if c=true then (do
   let o:=z.2.2.2.1.push (← m6 a (z.2.1-1))
   if (z.2.1-1 == 0)=true then pure (.done (some (RP a b o (z.2.1-1) z.2.2.1),z.2.1-1,z.2.2.1,o,z.2.2.2.2.1+1,0))
   else if z.2.2.2.2.1+1>=mg then pure (.done (none,z.2.1-1,z.2.2.1,o,z.2.2.2.2.1+1,0)) else pure (.yield (none,z.2.1-1,z.2.2.1,o,z.2.2.2.2.1+1,0)))
  else (do
   let o:=z.2.2.2.1.push (← m6 b (z.2.2.1-1))
   if (z.2.2.1-1 == 1)=true then pure (.done (some (Yo a b o z.2.1 (z.2.2.1-1)),z.2.1,z.2.2.1-1,o,0,z.2.2.2.2.2+1))
   else if z.2.2.2.2.2+1>=mg then pure (.done (none,z.2.1,z.2.2.1-1,o,0,z.2.2.2.2.2+1)) else pure (.yield (none,z.2.1,z.2.2.1-1,o,0,z.2.2.2.2.2+1))))
 | _=>pure (.done (some (RP a b z.2.2.2.1 z.2.1 z.2.2.1),z.2))
def Va (o:Array aT) (i j mg k m:Nat):SM (ForInStep U2):=do
 let o:=o.push (← m6 a (i-1))
 if (i-1 == 0)=true then pure (.done (some (RP a b o (i-1) j),i-1,j,o,mg,k,m))
 else if (decide (k<7) && decide (m<7))=true then pure (.done (none,i-1,j,o,mg,k,m)) else pure (.yield (none,i-1,j,o,mg,k,m))
def Vb (o:Array aT) (i j mg k q:Nat):SM (ForInStep U2):=do
 let o:=o.push (← m6 b (j-1))
 if (j-1 == 1)=true then pure (.done (some (Yo a b o i (j-1)),i,j-1,o,mg,k,q))
 else (do
  match ← oN true (← m6 a (i-1)) b 0 (j-1) (j-1-1) with
  | some m=>if j-1-m>0 then (if (m == 1)=true then pure (.done (some (Yo a b (o++(b.extract m (j-1)).reverse) i m),i,m,o++(b.extract m (j-1)).reverse,mg,k,j-1-m))
    else if (m == 0)=true then pure (.done (some (RP a b (o++(b.extract m (j-1)).reverse) i m),i,m,o++(b.extract m (j-1)).reverse,mg,k,j-1-m))
    else Va a b (o++(b.extract m (j-1)).reverse) i m mg k (j-1-m)) else Va a b o i (j-1) mg k (j-1-m)
  | _=>pure (.done (some (RP a b o i (j-1)),i,j-1,o,mg,k,q)))
def RQ (z:U2) (mg:Nat):SM (ForInStep U2):=do
 RM mg
 match ← oN false (← m6 b (z.2.2.1-1)) a 0 z.2.1 (z.2.1-1) with
 | some k=>if z.2.1-k>0 then (if (k == 0)=true then pure (.done (some (RP a b (z.2.2.2.1++(a.extract k z.2.1).reverse) k z.2.2.1),k,z.2.2.1,z.2.2.2.1++(a.extract k z.2.1).reverse,mg,z.2.1-k,z.2.2.2.2.2.2))
   else Vb a b (z.2.2.2.1++(a.extract k z.2.1).reverse) k z.2.2.1 mg (z.2.1-k) z.2.2.2.2.2.2) else Vb a b z.2.2.2.1 z.2.1 z.2.2.1 mg (z.2.1-k) z.2.2.2.2.2.2
 | _=>pure (.done (some (RP a b z.2.2.2.1 z.2.1 z.2.2.1),z.2.1,z.2.2.1,z.2.2.2.1,mg,z.2.2.2.2.2))
def hiG (_:Nat) (z:U2):SM (ForInStep U2):=if z.2.2.2.2.1>1 then RQ a b z (z.2.2.2.2.1-1) else RQ a b z z.2.2.2.2.1
theorem aam:CN a b=(do
  liftM (FT "list.sort.merge-hi")
  let x ← m6 a (a.size-1)
  if (a.size-1 == 0)=true then pure (RP a b #[x] (a.size-1) b.size) else if (b.size == 1)=true then pure (Yo a b #[x] (a.size-1) b.size)
  else mrg (a.size+b.size) (hiB a b) (hiG a b) (a.size-1) b.size #[x]):=by kernel_rfl
end
end Sy
namespace Sy
open PySem.W
variable {a:Array aT}{n k:Nat}
section
variable {prog:bA}{w:cg}{A:cL}{E:aj->ax->Prop}{s:ax}{κ:jy} {D:aT->Prop}{r:aT->Int}{st:dG}{b:Array aT}{xs o:Array aT}{pd:Array (Nat×Nat×Nat)}{i j m q g mg N:Nat}{all:List aT}
def ng (r:aT->Int) (x:aT):Int:=- r x
theorem rv (h1:n<=a.size) (h0:0<n):a.reverse[a.size-n]?=a[n-1]?:=by
 rw [Nu (by lia)];congr 1;lia
theorem nr {t:Nat}{x:aT}(e:a.reverse[t]?=some x):t<a.size/\a[a.size-1-t]?=some x:=by
 have h:=sH e;simp at h;rw [Nu h] at e;exact ⟨h,e⟩
theorem rx (h:n<=a.size) (hk:k<=n):(a.extract k n).reverse=a.reverse.extract (a.size-n) (a.size-n+(n-k)):=by
 apply Array.ext
 .simp;lia
 .intro t h1 h2;simp at h1 h2 ⊢
  congr 1;lia
theorem rx0 (h:n<=a.size):(a.extract 0 n).reverse=a.reverse.extract (a.size-n) a.reverse.size:=by
 rw [rx h (aO _)];congr 1;simp;lia
theorem Yp (h1:i<=a.size) (h2:j<=b.size):(RP a b o i j).reverse=dn b.reverse a.reverse o (b.size-j) (a.size-i):=by
 unfold RP dn;rw [nV,nV,OC,rx0 h1,rx0 h2,pI]
theorem Yq (h1:i<=a.size) (h2:j<=b.size):(Yo a b o i j).reverse=lst b.reverse a.reverse o (b.size-j) (a.size-i):=by
 unfold Yo lst;rw [nV,nV,OC,rx0 h1,rx0 h2,pI]
structure Jh (r:aT->Int) (all:List aT) (a b:Array aT) (i j:Nat) (o:Array aT):Prop where
 jj:J (ng r) all b.reverse a.reverse o (b.size-j) (a.size-i)
 i0:0<i
 i1:i<=a.size
 j0:1<j
 j1:j<=b.size
def Fh (r:aT->Int) (all:List aT) (o:Array aT):Prop:=F (ng r) all o.reverse
theorem Fh.dn (g:J (ng r) all b.reverse a.reverse o (b.size-j) (a.size-i)) (h1:i<=a.size) (h2:j<=b.size) (h:i=0\/j=0):Fh r all (RP a b o i j):=by
 unfold Fh;rw [Yp h1 h2]
 rcases h with rfl|rfl
 .exact g.fb (by simp)
 .exact g.fa (by simp)
theorem Fh.fs (T:IQ (ng r) D b.reverse a.reverse) (g:J (ng r) all b.reverse a.reverse o (b.size-j) (a.size-i)) (h1:i<=a.size) (h2:j<=b.size) (h:j=1):Fh r all (Yo a b o i j):=by
 unfold Fh;rw [Yq h1 h2];exact g.fl T (by simp;lia)
theorem J.pA (T:IQ (ng r) D b.reverse a.reverse) (h:J (ng r) all b.reverse a.reverse o (b.size-j) (a.size-i)) (h0:0<i) (h1:i<=a.size) {x:aT}(e:a[i-1]?=some x) (hx:∀ u y,u<j->b[u]?=some y->r y<=r x) :
  J (ng r) all b.reverse a.reverse (o.push x) (b.size-j) (a.size-(i-1)):=by
 rw [show a.size-(i-1)=a.size-i+1 by lia]
 exact h.pb T (by rw [rv h1 h0,e]) λu y h1 f=>by
  obtain ⟨f1,f⟩:=nr f;have:=hx _ y (by lia) f;unfold ng;lia
theorem J.pB (T:IQ (ng r) D b.reverse a.reverse) (h:J (ng r) all b.reverse a.reverse o (b.size-j) (a.size-i)) (h0:0<j) (h1:j<=b.size) {x:aT}(e:b[j-1]?=some x) (hx:∀ u y,u<i->a[u]?=some y->r y<=r x) :
  J (ng r) all b.reverse a.reverse (o.push x) (b.size-(j-1)) (a.size-i):=by
 rw [show b.size-(j-1)=b.size-j+1 by lia]
 exact h.pa T (by rw [rv h1 h0,e]) λu y h1 f=>by
  obtain ⟨f1,f⟩:=nr f;have:=hx _ y (by lia) f;unfold ng;lia
theorem J.tA (h:J (ng r) all b.reverse a.reverse o (b.size-j) (a.size-i)) (hk:k<=i) (h1:i<=a.size) (hx:∀ t x u y,k<=t->t<i->a[t]?=some x->u<j->b[u]?=some y->r y<=r x) :
  J (ng r) all b.reverse a.reverse (o++(a.extract k i).reverse) (b.size-j) (a.size-k):=by
 rw [rx h1 hk,show a.size-k=a.size-i+(i-k) by lia]
 exact h.tb λt x u y h1 h2 e h3 f=>by
  obtain ⟨e1,e⟩:=nr e;obtain ⟨f1,f⟩:=nr f;have:=hx _ x _ y (by lia) (by lia) e (by lia) f;unfold ng;lia
theorem J.tB (h:J (ng r) all b.reverse a.reverse o (b.size-j) (a.size-i)) (hk:k<=j) (h1:j<=b.size) (hx:∀ t x u y,k<=t->t<j->b[t]?=some x->u<i->a[u]?=some y->r y<=r x) :
  J (ng r) all b.reverse a.reverse (o++(b.extract k j).reverse) (b.size-k) (a.size-i):=by
 rw [rx h1 hk,show b.size-k=b.size-j+(j-k) by lia]
 exact h.ta λt x u y h1 h2 e h3 f=>by
  obtain ⟨e1,e⟩:=nr e;obtain ⟨f1,f⟩:=nr f;have:=hx _ x _ y (by lia) (by lia) e (by lia) f;unfold ng;lia
structure YK (r:aT->Int) (D:aT->Prop) (a b:Array aT):Prop where
 da:∀ (t:Nat) x,a[t]?=some x->D x
 db:∀ (t:Nat) x,b[t]?=some x->D x
 sa:St r a 0 a.size
 sb:St r b 0 b.size
 fb:∀ (u:Nat) x y,b[0]?=some x->a[u]?=some y->r x<=r y
theorem YK.two (T:YK r D a b):IQ (ng r) D b.reverse a.reverse where
 da t x e:=T.db _ x (nr e).2
 db t x e:=T.da _ x (nr e).2
 sa t u x y _ h2 h3 e f:=by
  have:=T.sb _ _ y x (aO _) (show b.size-1-u<=b.size-1-t by lia) (by have:=(nr e).1;lia) (nr f).2 (nr e).2;unfold ng;lia
 sb t u x y _ h2 h3 e f:=by
  have:=T.sa _ _ y x (aO _) (show a.size-1-u<=a.size-1-t by lia) (by have:=(nr e).1;lia) (nr f).2 (nr e).2;unfold ng;lia
 la t u x y h1 e f:=by
  simp at h1;have e':=(nr e).2;rw [show b.size-1-t=0 by lia] at e';have:=T.fb _ x y e' (nr f).2;unfold ng;lia
def Lj (r:aT->Int) (all:List aT) (a b:Array aT) (k:Nat) (z:Option (Array aT)) (i j:Nat) (o:Array aT):Prop :=
 (∀ q,z=some q->Fh r all q)/\(z=none->Jh r all a b i j o/\k<=o.size)
theorem Lj.told {q:Array aT}(h:Fh r all q):Lj r all a b k (some q) i j o:=⟨λ_ e=>by cases e;exact h,(λe=>nomatch e)⟩
theorem Lj.on (h1:Jh r all a b i j o) (h4:k<=o.size):Lj r all a b k none i j o:=⟨(λ_ e=>nomatch e),λ_=>⟨h1,h4⟩⟩
theorem aan (hc:Hv prog w A s κ D r) (hk:kindOf st=κ) (T:YK r D a b) {Q:U1->dG->Prop}(h1:Jh r all a b i j o)
  (h:∀ z,Lj r all a b o.size z.1 z.2.1 z.2.2.1 z.2.2.2.1->Q z st):wU (aL prog w) A E s (forIn [0:N] ((none,i,j,o,0,0):U1) (hiB a b mg)) Q st:=by
 refine fP (I:=λx z st'=>st'=st/\z.1=none/\Jh r all a b z.2.1 z.2.2.1 z.2.2.2.1/\o.size<=z.2.2.2.1.size) ?_ ?_ ⟨rfl,rfl,h1,au _⟩
 .rintro x ⟨z,i',j',o',ac,bc⟩ st' _ hx ⟨rfl,rfl,g,g4⟩;dsimp only at g g4;obtain ⟨g,i0,i1,j0,j1⟩:=g;obtain ⟨u,eu⟩:=gb (a:=a) (i:=i'-1) (by lia);obtain ⟨v,ev⟩:=gb (a:=b) (i:=j'-1) (by lia);unfold hiB;refine aP (n5 ev (aP (n5 eu (aP (w_lt hc hk (T.db _ _ ev) (T.da _ _ eu) ?_)))));dsimp only
  have sz:∀ x:aT,o.size<=(o'.push x).size:=λx=>by rw [iC];lia
  by_cases c:r v<r u
  .rw [decide_eq_true c,if_pos rfl];have g5:=g.pA T.two i0 i1 eu λt y h1 e=>de (T.sb _ _ _ _ (aO _) (by lia) (by lia) e ev) (gm c);refine aP (n5 eu ?_)
   by_cases e:i'-1=0
   .rw [if_pos (by simpa using e)];exact a8 (h _ (Lj.told (Fh.dn g5 (by lia) j1 (.inl e))))
   .rw [if_neg (by simpa using e)]
    by_cases f:ac+1>=mg
    .rw [if_pos f];exact a8 (h _ (Lj.on ⟨g5,by dsimp only;lia,by dsimp only;lia,j0,j1⟩ (sz _)))
    .rw [if_neg f];exact a8 ⟨rfl,rfl,⟨g5,by dsimp only;lia,by dsimp only;lia,j0,j1⟩,sz _⟩
  .rw [decide_eq_false c,if_neg (by simp)];have g5:=g.pB T.two (by lia) j1 ev λt y h1 e=>de (T.sa _ _ _ _ (aO _) (by lia) (by lia) e eu) (qu.mp c);refine aP (n5 ev ?_)
   by_cases e:j'-1=1
   .rw [if_pos (by simpa using e)];exact a8 (h _ (Lj.told (Fh.fs T.two g5 i1 (by lia) e)))
   .rw [if_neg (by simpa using e)]
    by_cases f:bc+1>=mg
    .rw [if_pos f];exact a8 (h _ (Lj.on ⟨g5,i0,i1,by dsimp only;lia,by dsimp only;lia⟩ (sz _)))
    .rw [if_neg f];exact a8 ⟨rfl,rfl,⟨g5,i0,i1,by dsimp only;lia,by dsimp only;lia⟩,sz _⟩
 .rintro ⟨z,o',i',j',ac,bc⟩ st' ⟨rfl,rfl,g,g4⟩;exact h _ (Lj.on g g4)
def Nxh (κ:jy) (xs:Array aT) (pd:Array (Nat×Nat×Nat)) (r:aT->Int) (all:List aT) (a b:Array aT) (k:Nat) (x:ForInStep U2) (st':dG):Prop :=
 Sm κ xs pd st'/\match x with
  | .done z=>Lj r all a b k z.1 z.2.1 z.2.2.1 z.2.2.2.1
  | .yield z=>z.1=none/\Jh r all a b z.2.1 z.2.2.1 z.2.2.2.1/\k<=z.2.2.2.1.size
theorem Wl (T:YK r D a b) (h0:Sm κ xs pd st) (h1:Jh r all a b i j o) (h4:k<=o.size+1) (h:∀ x,a[i-1]?=some x->∀ u y,u<j->b[u]?=some y->r y<=r x) :
  wU (aL prog w) A E s (Va a b o i j mg m q) (Nxh κ xs pd r all a b k) st:=by
 obtain ⟨g,i0,i1,j0,j1⟩:=h1;obtain ⟨x,e⟩:=gb (a:=a) (i:=i-1) (by lia);unfold Va;have g:=g.pA T.two i0 i1 e (h x e)
 have sz:k<=(o.push x).size:=by rw [iC];lia
 refine aP (n5 e ?_);dsimp only
 by_cases c:i-1=0
 .rw [if_pos (by simpa using c)];exact a8 ⟨h0,Lj.told (Fh.dn g (by lia) j1 (.inl c))⟩
 .rw [if_neg (by simpa using c)]
  have g2:Jh r all a b (i-1) j (o.push x):=⟨g,by lia,by lia,j0,j1⟩
  split
  .exact a8 ⟨h0,Lj.on g2 sz⟩
  .exact a8 ⟨h0,rfl,g2,sz⟩
theorem Wm (hc:Hv prog w A s κ D r) (T:YK r D a b) (h0:Sm κ xs pd st) (h1:Jh r all a b i j o) (h4:k<=o.size+2) (h:∀ x,b[j-1]?=some x->∀ u y,u<i->a[u]?=some y->r y<=r x) :
  wU (aL prog w) A E s (Vb a b o i j mg m q) (Nxh κ xs pd r all a b k) st:=by
 obtain ⟨g,i0,i1,j0,j1⟩:=h1;obtain ⟨x,e⟩:=gb (a:=b) (i:=j-1) (by lia);obtain ⟨y,f⟩:=gb (a:=a) (i:=i-1) (by lia);unfold Vb;have g:=g.pB T.two (by lia) j1 e (h x e);refine aP (n5 e ?_);dsimp only
 by_cases c:j-1=1
 .rw [if_pos (by simpa using c)];exact a8 ⟨h0,Lj.told (Fh.fs T.two g i1 (by lia) c)⟩
 .rw [if_neg (by simpa using c)]
  have hk:kindOf st=κ:=by obtain ⟨_,rfl⟩:=h0;rfl
  refine aP (n5 f (aP (pS hc hk T.db (T.da _ _ f) (by lia) (λt u x y z1 z2 z3=>T.sb t u x y (aO _) z2 (by lia)) (by lia) λn n1 n2 n3=>?_)));dsimp only;have ya:∀ u z,u<i->a[u]?=some z->r z<=r y:=λu z h1 e=>T.sa _ _ _ _ (aO _) (by lia) (by lia) e f;have g2:=g.tB (k:=n) (by lia) (by lia) λt x u z z1 z2 e1 z3 e2=>de (ya u z z3 e2) (qu.mp (of_decide_eq_false (n3 t x (by lia) (by lia) e1)))
  have hb:∀ x,a[i-1]?=some x->∀ u z,u<n->b[u]?=some z->r z<=r x:=λx e1 u z h1 e2=>by
   rw [f] at e1;cases e1;exact gm (of_decide_eq_true (n2 u z (aO _) (by lia) e2))
  have sz:k<=(o.push x).size+1:=by rw [iC];lia
  by_cases d:j-1-n>0
  .rw [if_pos d]
   by_cases c2:n=1
   .rw [if_pos (by simpa using c2)];exact a8 ⟨h0,Lj.told (Fh.fs T.two g2 i1 (by lia) c2)⟩
   .rw [if_neg (by simpa using c2)]
    by_cases c3:n=0
    .rw [if_pos (by simpa using c3)];exact a8 ⟨h0,Lj.told (Fh.dn g2 i1 (by lia) (.inr c3))⟩
    .rw [if_neg (by simpa using c3)];exact Wl T h0 ⟨g2,i0,i1,by lia,by lia⟩ (by rw [qy];lia) hb
  .rw [if_neg d]
   have:n=j-1:=by lia
   subst this;exact Wl T h0 ⟨g,i0,i1,by lia,by lia⟩ sz hb
theorem aao (hc:Hv prog w A s κ D r) (T:YK r D a b) (h0:Sm κ xs pd st) {z:U2}(h1:Jh r all a b z.2.1 z.2.2.1 z.2.2.2.1):wU (aL prog w) A E s (RQ a b z mg) (Nxh κ xs pd r all a b (z.2.2.2.1.size+1)) st:=by
 obtain ⟨z0,i,j,o,g0,ac,bc⟩:=z;obtain ⟨g,i0,i1,j0,j1⟩:=h1;dsimp only at g i0 i1 j0 j1;obtain ⟨x,e⟩:=gb (a:=b) (i:=j-1) (by lia);unfold RQ RM;dsimp only;refine aP (iI ?_)
 have h0':Sm κ xs pd (aX (kindOf st) (nT st) (cS st) mg (i6 st)):=by obtain ⟨g,rfl⟩:=h0;exact ⟨mg,rfl⟩
 have hk:kindOf (aX (kindOf st) (nT st) (cS st) mg (i6 st))=κ:=by obtain ⟨_,e⟩:=h0';rw [e]
 generalize aX (kindOf st) (nT st) (cS st) mg (i6 st)=st1 at h0' hk;refine aP (n5 e (aP (pS hc hk T.da (T.db _ _ e) (by lia) (λt u x y z1 z2 z3=>T.sa t u x y (aO _) z2 (by lia)) (by lia) λn n1 n2 n3=>?_)));dsimp only;have xb:∀ u z,u<j->b[u]?=some z->r z<=r x:=λu z h1 e1=>T.sb _ _ _ _ (aO _) (by lia) (by lia) e1 e
 have nx:∀ t y,n<=t->t<i->a[t]?=some y->r x<=r y:=λt y h1 h2 e1=>by
  have:=n3 t y (by lia) (by lia) e1;exact gm (by simpa [Bv] using this)
 have g2:=g.tA (k:=n) (by lia) i1 λt y u z z1 z2 e1 z3 e2=>de (xb u z z3 e2) (nx t y z1 z2 e1)
 have ha:∀ y,b[j-1]?=some y->∀ u z,u<n->a[u]?=some z->r z<=r y:=λy e1 u z h1 e2=>by
  rw [e] at e1;cases e1;have:=n2 u z (aO _) (by lia) e2
  simpa [Bv] using this
 by_cases d:i-n>0
 .rw [if_pos d]
  by_cases c1:n=0
  .rw [if_pos (by simpa using c1)];exact a8 ⟨h0',Lj.told (Fh.dn g2 (by lia) j1 (.inl c1))⟩
  .rw [if_neg (by simpa using c1)];exact Wm hc T h0' ⟨g2,by lia,by lia,j0,j1⟩ (by rw [qy];lia) ha
 .rw [if_neg d]
  have:n=i:=by lia
  subst this;exact Wm hc T h0' ⟨g,i0,i1,j0,j1⟩ (by lia) ha
theorem pw_of (h:St r a 0 a.size):a.toList.Pairwise λx y=>r x<=r y:=iE.mpr λi j hi hj hij=>h i j _ _ (aO _) (mY hij) (by simpa using hj) (by simp) (by simp)
theorem w_hi (hc:Hv prog w A s κ D r) (T:YK r D a b) (h0:st=aX κ xs pd g none) (ha:0<a.size) (hb:0<b.size) (hl:∀ x y,b[b.size-1]?=some x->a[a.size-1]?=some y->r x<=r y) {Q:Array aT->dG->Prop}
  (h:∀ q st',Sm κ xs pd st'->F r (a.toList++b.toList) q->Q q st'):wU (aL prog w) A E s (CN a b) Q st:=by
 have h:∀ q st',Sm κ xs pd st'->Fh r (a.toList++b.toList) q->Q q st':=λq st' w1 w2=>h q st' w1 (by
  unfold Fh F at w2;refine ⟨?_,?_,.nil,.nil,λ_ _ _ z=>nomatch z⟩
  .have:=w2.pm;simp at this ⊢;exact (BW _).symm.trans this
  .have:=List.pairwise_reverse.mp (by simpa using w2.so)
   exact this.imp λz=>by unfold ng at z;lia)
 rw [aam];refine aP (Jm (jo ⟨rfl,?_⟩));obtain ⟨x,e⟩:=gb (a:=b) (i:=b.size-1) (by lia);obtain ⟨y,f⟩:=gb (a:=a) (i:=a.size-1) (by lia);refine aP (n5 f ?_)
 have g0:J (ng r) (a.toList++b.toList) b.reverse a.reverse #[] (b.size-b.size) (a.size-a.size):=⟨by simpa using (BW _).append (BW _) |>.trans fR,nW,by simpa using pw_of T.two.sa,by simpa using pw_of T.two.sb,λ_ z=>nomatch z⟩
 have g:=g0.pA T.two ha (au _) f λu z h1 e1=>de (T.sb _ _ _ _ (aO _) (by lia) (by lia) e1 e) (hl x y e f);have g:J (ng r) (a.toList++b.toList) b.reverse a.reverse #[y] (b.size-b.size) (a.size-(a.size-1)):=g
 by_cases c1:a.size-1=0
 .rw [if_pos (by simpa using c1)];exact a8 (h _ _ ⟨_,h0⟩ (Fh.dn g (by lia) (au _) (.inl c1)))
 .rw [if_neg (by simpa using c1)]
  by_cases c2:b.size=1
  .rw [if_pos (by simpa using c2)];exact a8 (h _ _ ⟨_,h0⟩ (Fh.fs T.two g (by lia) (au _) c2))
  .rw [if_neg (by simpa using c2)]
   refine Wk (Fq:=Fh r (a.toList++b.toList)) (Jv:=Jh r (a.toList++b.toList) a b) (sz:=λ_ _ o=>o.size) (λmg st o i j Q w1 w2 w3=>aan hc (by obtain ⟨_,rfl⟩:=w1;rfl) T w2 λu q=>w3 u q.1 q.2) (λk st u w1 w2=>?_) (λi j o q=>by
    have:=q.jj.len (by simp) (by simp) (by simp;lia);have:=q.i0;have:=q.i1;have:=q.j0;have:=q.j1
    lia) ⟨_,h0⟩ ⟨g,by lia,by lia,by lia,by lia⟩ h
   have e:hiG a b k u=RQ a b u (if u.2.2.2.2.1>1 then u.2.2.2.2.1-1 else u.2.2.2.2.1):=by unfold hiG;split<;>rfl
   rw [e]
   refine nU (aao hc T w1 w2) λv st2 q=>⟨q.1,?_⟩
   have q:=q.2
   cases v with
   | done v=>exact q
   | yield v=>exact q
end
end Sy
namespace Sy
open PySem.W
abbrev C1:=Option (Option Nat)×Nat
def Vc (lo:Nat) (_:Nat) (z:C1):SM (ForInStep C1):=do
 match ← ltAt' (lo+z.2) (lo+z.2-1) with
 | some c=>if c=true then pure (.done (none,z.2)) else pure (.yield (none,z.2+1))
 | _=>pure (.done (some none,z.2))
def tl (lo n nrem:Nat):SM (Option Nat):=do
 EF lo (lo+n)
 let z ← forIn [n:nrem] ((none,n):C1) (Vc lo)
 (match z.1 with
 | some r=>pure r
 | none=>pure (some z.2))
def dscS (lo:Nat) (_:Nat) (z:TG):SM (ForInStep TG):=do
 match ← ltAt' (lo+z.2.1) (lo+z.2.1-1) with
 | some c=>(if c=true then (if z.2.2>0 then (do
    EF (lo+z.2.1-(z.2.2+1)) (lo+z.2.1)
    pure (.yield (none,z.2.1+1,0))) else pure (.yield (none,z.2.1+1,0)))
  else (do
   match ← ltAt' (lo+z.2.1-1) (lo+z.2.1) with
   | some d=>if d=true then pure (.done (none,z.2)) else pure (.yield (none,z.2.1+1,z.2.2+1))
   | _=>pure (.done (some none,z.2))))
 | _=>pure (.done (some none,z.2))
def dsc (lo n nrem:Nat):SM (Option Nat):=do
 liftM (FT "list.sort.descending-run")
 let z ← forIn [n+1:nrem] ((none,n+1,0):TG) (dscS lo)
 (match z.1 with
 | some r=>pure r
 | none=>if z.2.2>0 then (do
   EF (lo+z.2.1-(z.2.2+1)) (lo+z.2.1)
   tl lo z.2.1 nrem) else tl lo z.2.1 nrem)
theorem RR (lo nrem:Nat):countRun' lo nrem=(do
  let z ← forIn [1:nrem] ((none,1):C1) (Vc lo)
  (match z.1 with
  | some r=>pure r
  | none=>if (z.2 == nrem)=true then pure (some z.2) else if z.2>1 then (do
    match ← ltAt' lo (lo+z.2-1) with
    | some c=>if c=true then pure (some z.2) else (do
     EF lo (lo+z.2)
     dsc lo z.2 nrem)
    | _=>pure none) else dsc lo z.2 nrem)):=by kernel_rfl
section
variable {prog:bA}{w:cg}{A:cL}{E:aj->ax->Prop}{s:ax}{κ:jy} {D:aT->Prop}{r:aT->Int}{st:dG}{xs ys a₀:Array aT} {pd:Array (Nat×Nat×Nat)}{i j lo hi n m q g nrem:Nat}
def K (r:aT->Int) (xs:Array aT) (i:Nat):Int:=((xs[i]?).map r).getD 0
theorem Vd {i:Nat}{x:aT}(e:xs[i]?=some x):K r xs i=r x:=by unfold K;rw [e];rfl
theorem Mp {xs ys:Array aT}{i j:Nat}(h:xs[i]?=ys[j]?):K r xs i=K r ys j:=by unfold K;rw [h]
structure Bs (D:aT->Prop) (a₀:Array aT) (lo:Nat) (xs:Array aT):Prop where
 pm:xs.Perm a₀
 dd:∀ x∈a₀.toList,D x
 ah:∀ t,t<lo->xs[t]?=a₀[t]?
theorem Bs.size (h:Bs D a₀ lo xs):xs.size=a₀.size:=h.pm.size_eq
theorem Bs.d (h:Bs D a₀ lo xs) {i:Nat}{x:aT}(e:xs[i]?=some x):D x:=by
 obtain ⟨h1,rfl⟩:=cB.mp e;exact h.dd _ ((fu.mp h.pm).mem_iff.mp (by simp))
theorem Bs.rev (h:Bs D a₀ lo xs) (hi:lo<=i) (hj:j<=xs.size):Bs D a₀ lo (mirror xs i j ((j-i)/2)) :=
 ⟨(mirror_perm _ _ _ _).trans h.pm,h.dd,λt ht=>by rw [Zr hj,if_neg (by lia)];exact h.ah t ht⟩
theorem RT (hc:Hv prog w A s κ D r) (h:Bs D a₀ lo xs) {Q:Option Bool->dG->Prop}(hi:i<xs.size) (hj:j<xs.size) (hq:Q (some (decide (K r xs i<K r xs j))) (aX κ xs pd g none)):wU (aL prog w) A E s (ltAt' i j) Q (aX κ xs pd g none):=by
 obtain ⟨x,e⟩:=gb hi;obtain ⟨y,f⟩:=gb hj;rw [Vd e,Vd f] at hq;rw [ltAt'_eq];exact aP (qW (aP (n5 e (aP (n5 f (w_lt hc rfl (h.d e) (h.d f) hq))))))
theorem RU (hj:j<=xs.size) (t:Nat):K r (mirror xs i j ((j-i)/2)) t=if i<=t/\t<j then K r xs (i+j-1-t) else K r xs t:=by
 have e:=Zr (i:=i) hj t
 split
 .rename_i h;rw [if_pos h] at e;exact Mp e
 .rename_i h;rw [if_neg h] at e;exact Mp e
def Up (r:aT->Int) (xs:Array aT) (lo hi:Nat):Prop:=∀ t u,lo<=t->t<=u->u<hi->K r xs t<=K r xs u
def Dn (r:aT->Int) (xs:Array aT) (lo hi:Nat):Prop:=∀ t u,lo<=t->t<=u->u<hi->K r xs u<=K r xs t
theorem Up.next (h:Up r xs lo (lo+n)) (hn:0<n) (hl:K r xs (lo+n-1)<=K r xs (lo+n)):Up r xs lo (lo+(n+1)):=λt u h1 h2 h3=>by
 by_cases c:u<lo+n
 .exact h t u h1 h2 c
 .have:u=lo+n:=by lia
  subst this
  by_cases d:t=lo+n
  .subst d;exact oz _
  .exact de (h t _ h1 (by lia) (by lia)) hl
theorem Dn.next (h:Dn r xs lo (lo+n)) (hn:0<n) (hl:K r xs (lo+n)<=K r xs (lo+n-1)):Dn r xs lo (lo+(n+1)):=λt u h1 h2 h3=>by
 by_cases c:u<lo+n
 .exact h t u h1 h2 c
 .have:u=lo+n:=by lia
  subst this
  by_cases d:t=lo+n
  .subst d;exact oz _
  .exact de hl (h t _ h1 (by lia) (by lia))
theorem Mq (hj:j<=xs.size) (h:∀ t,i<=t->t<j->K r xs t=K r xs (j-1)) (t:Nat):K r (mirror xs i j ((j-i)/2)) t=K r xs t:=by
 rw [RU hj]
 split
 .rw [h _ (by lia) (by lia),h t (by lia) (by lia)]
 .rfl
theorem Wn (hc:Hv prog w A s κ D r) (h:Bs D a₀ lo xs) (hz:lo+nrem<=xs.size) (h1:1<=n) (hn:n<=nrem) (hu:Up r xs lo (lo+n)) {Q:C1->dG->Prop}
  (hq:∀ m,n<=m->m<=nrem->Up r xs lo (lo+m)->(m<nrem->K r xs (lo+m)<K r xs (lo+m-1))->Q (none,m) (aX κ xs pd g none)):wU (aL prog w) A E s (forIn [n:nrem] ((none,n):C1) (Vc lo)) Q (aX κ xs pd g none):=by
 refine fP (I:=λx c st'=>st'=aX κ xs pd g none/\c=(none,x)/\Up r xs lo (lo+x)) ?_ ?_ ⟨rfl,rfl,hu⟩
 .rintro x c st' a1 a2 ⟨rfl,rfl,a3⟩;unfold Vc;refine aP (RT hc h (by dsimp only;lia) (by dsimp only;lia) ?_);dsimp only
  by_cases c:K r xs (lo+x)<K r xs (lo+x-1)
  .rw [decide_eq_true c,if_pos rfl];exact a8 (hq x a1 (by lia) a3 λ_=>c)
  .rw [decide_eq_false c,if_neg (by simp)];exact a8 ⟨rfl,rfl,a3.next (by lia) (qu.mp c)⟩
 .rintro c st' ⟨rfl,rfl,a3⟩
  have e:max n nrem=nrem:=by lia
  rw [e] at a3 ⊢;exact hq nrem hn (au _) a3 λz=>absurd z (by lia)
theorem w_tl (hc:Hv prog w A s κ D r) (h:Bs D a₀ lo xs) (hz:lo+nrem<=xs.size) (h1:1<=n) (hn:n<=nrem) (hd:Dn r xs lo (lo+n)) {Q:Option Nat->dG->Prop}
  (hq:∀ m ys,1<=m->m<=nrem->Bs D a₀ lo ys->Up r ys lo (lo+m)->Q (some m) (aX κ ys pd g none)):wU (aL prog w) A E s (tl lo n nrem) Q (aX κ xs pd g none):=by
 unfold tl;rw [wL];refine aP (iI ?_);have h':=h.rev (i:=lo) (j:=lo+n) (au _) (by lia);refine aP (Wn hc h' (by rw [Y7];exact hz) h1 hn (λt u a1 a2 a3=>?_) λm b1 b2 b3 _=>a8 (hq m _ (by lia) b2 h' b3))
 show K r (mirror xs _ _ _) t<=K r (mirror xs _ _ _) u
 rw [RU (by lia),RU (by lia),if_pos (by lia),if_pos (by lia)];exact hd _ _ (by lia) (by lia) (by lia)
theorem Wo (hc:Hv prog w A s κ D r) (h:Bs D a₀ lo xs) (hz:lo+nrem<=xs.size) (hn:n+1<=nrem) (hd:Dn r xs lo (lo+(n+1))) {Q:Option Nat->dG->Prop}
  (hq:∀ m ys,1<=m->m<=nrem->Bs D a₀ lo ys->Up r ys lo (lo+m)->Q (some m) (aX κ ys pd g none)):wU (aL prog w) A E s (dsc lo n nrem) Q (aX κ xs pd g none):=by
 unfold dsc;refine aP (Jm (jo ⟨rfl,?_⟩));have hs:=h.size
 refine aP (nU (fP (I:=λx c st'=>∃ ys e,st'=aX κ ys pd g none/\c=(none,x,e)/\Bs D a₀ lo ys/\Dn r ys lo (lo+x)/\e+1<=x/\∀ t,lo+x-(e+1)<=t->t<lo+x->K r ys t=K r ys (lo+x-1))
  (Q:=λc st'=>∃ x ys e,n+1<=x/\x<=nrem/\st'=aX κ ys pd g none/\c=(none,x,e)/\Bs D a₀ lo ys/\Dn r ys lo (lo+x)/\e+1<=x/\∀ t,lo+x-(e+1)<=t->t<lo+x->K r ys t=K r ys (lo+x-1)) ?_ ?_ ⟨xs,0,rfl,rfl,h,hd,by lia,λt _ _=>by congr 1;lia⟩) ?_)
 .rintro x c st' a1 a2 ⟨ys,e,rfl,rfl,b1,b2,b3,b4⟩;have hy:=b1.size;unfold dscS;refine aP (RT hc b1 (by dsimp only;lia) (by dsimp only;lia) ?_);dsimp only
  by_cases c:K r ys (lo+x)<K r ys (lo+x-1)
  .rw [decide_eq_true c,if_pos rfl];have d2:=b2.next (by lia) (gm c)
   by_cases d:e>0
   .rw [if_pos d,wL];have sm:=Mq (r:=r) (xs:=ys) (by lia) b4;refine aP (iI (a8 ⟨_,0,rfl,rfl,b1.rev (i:=lo+x-(e+1)) (j:=lo+x) (by lia) (by lia),λt u z1 z2 z3=>?_,by lia,λt _ _=>by congr 1;lia⟩));rw [sm,sm];exact d2 t u z1 z2 z3
   .rw [if_neg d];exact a8 ⟨ys,0,rfl,rfl,b1,d2,by lia,λt _ _=>by congr 1;lia⟩
  .rw [decide_eq_false c,if_neg (by simp)];refine aP (RT hc b1 (by lia) (by lia) ?_);dsimp only
   by_cases d:K r ys (lo+x-1)<K r ys (lo+x)
   .rw [decide_eq_true d,if_pos rfl];exact a8 ⟨x,ys,e,a1,by lia,rfl,rfl,b1,b2,b3,b4⟩
   .rw [decide_eq_false d,if_neg (by simp)];refine a8 ⟨ys,e+1,rfl,rfl,b1,b2.next (by lia) (by lia),by lia,λt z1 z2=>?_⟩
    have e1:lo+(x+1)-1=lo+x:=by lia
    rw [e1]
    by_cases f:t=lo+x
    .rw [f]
    .rw [b4 t (by lia) (by lia)];lia
 .rintro c st' ⟨ys,e,rfl,rfl,b1,b2,b3,b4⟩
  have e1:max (n+1) nrem=nrem:=by lia
  rw [e1] at b2 b3 b4 ⊢;exact ⟨nrem,ys,e,hn,au _,rfl,rfl,b1,b2,b3,b4⟩
 .rintro c st' ⟨x,ys,e,a1,a2,rfl,rfl,b1,b2,b3,b4⟩;have hy:=b1.size;dsimp only
  by_cases d:e>0
  .rw [if_pos d,wL];have sm:=Mq (r:=r) (xs:=ys) (by lia) b4;refine aP (iI (w_tl hc (b1.rev (i:=lo+x-(e+1)) (j:=lo+x) (by lia) (by lia)) (by rw [Y7];lia) (by lia) a2 (λt u z1 z2 z3=>?_) hq));rw [sm,sm];exact b2 t u z1 z2 z3
  .rw [if_neg d];exact w_tl hc b1 (by lia) (by lia) a2 b2 hq
theorem w_count (hc:Hv prog w A s κ D r) (h:Bs D a₀ lo xs) (hz:lo+nrem<=xs.size) (h1:1<=nrem) {Q:Option Nat->dG->Prop}
  (hq:∀ m ys,1<=m->m<=nrem->Bs D a₀ lo ys->Up r ys lo (lo+m)->Q (some m) (aX κ ys pd g none)):wU (aL prog w) A E s (countRun' lo nrem) Q (aX κ xs pd g none):=by
 rw [RR]
 refine aP (Wn hc h hz (au 1) h1 (λt u a1 a2 a3=>by
  have:t=u:=by lia
  subst this;exact oz _) λm b1 b2 b3 b4=>?_)
 dsimp only
 by_cases e:m=nrem
 .rw [if_pos (by simpa using e)];exact a8 (hq m xs b1 b2 h b3)
 .rw [if_neg (by simpa using e)];have b4:=b4 (by lia)
  by_cases c:m>1
  .rw [if_pos c];refine aP (RT hc h (by lia) (by lia) ?_);dsimp only
   by_cases d:K r xs lo<K r xs (lo+m-1)
   .rw [decide_eq_true d,if_pos rfl];exact a8 (hq m xs b1 b2 h b3)
   .rw [decide_eq_false d,if_neg (by simp),wL]
    have al:∀ t,lo<=t->t<lo+m->K r xs t=K r xs (lo+m-1):=λt z1 z2=>by
     have:=b3 lo t (au _) z1 z2;have:=b3 t (lo+m-1) z1 (by lia) (by lia);lia
    have sm:=Mq (r:=r) (xs:=xs) (by lia) al
    have dn:Dn r xs lo (lo+m):=λt u z1 z2 z3=>by rw [al t z1 (by lia),al u (by lia) z3];exact oz _
    refine aP (iI (Wo hc (h.rev (i:=lo) (j:=lo+m) (au _) (by lia)) (by rw [Y7];lia) (by lia) (λt u z1 z2 z3=>?_) hq));rw [sm,sm];exact dn.next (by lia) (gm b4) t u z1 z2 z3
  .rw [if_neg c]
   have:m=1:=by lia
   subst this
   exact Wo hc h hz (by lia) (Dn.next (λt u z1 z2 z3=>by
    have:t=u:=by lia
    subst this;exact oz _) (by lia) (gm b4)) hq
end
end Sy
namespace Sy
open PySem.W
def plS (lo k:Nat) (_:Nat) (z:Option Bool×Nat×Nat):SM (ForInStep (Option Bool×Nat×Nat)) :=
 if z.2.1>=z.2.2 then pure (.done (none,z.2)) else do
  match ← ltAt' (lo+k) (lo+(z.2.1+z.2.2)/2) with
  | some c=>if c=true then pure (.yield (none,z.2.1,(z.2.1+z.2.2)/2)) else pure (.yield (none,(z.2.1+z.2.2)/2+1,z.2.2))
  | _=>pure (.done (some false,z.2))
def biS (lo:Nat) (k:Nat) (_:Option Bool×Unit):SM (ForInStep (Option Bool×Unit)):=do
 let z ← forIn [0:k] ((none,0,k):Option Bool×Nat×Nat) (plS lo k)
 (match z.1 with
 | some r=>pure (.done (some r,()))
 | none=>do
  moveDown' (lo+k) (lo+z.2.1)
  pure (.yield (none,())))
theorem Yr (lo n ok:Nat):Y8 lo n ok=(do
  let z ← forIn [max ok 1:n] ((none,()):Option Bool×Unit) (biS lo)
  (match z.1 with
  | some r=>pure r
  | none=>pure true)):=by kernel_rfl
section
variable {prog:bA}{w:cg}{A:cL}{E:aj->ax->Prop}{s:ax}{κ:jy} {D:aT->Prop}{r:aT->Int}{st:dG}{xs ys a₀:Array aT} {pd:Array (Nat×Nat×Nat)}{i j lo hi n m q g nrem:Nat}
theorem Wp {x l:Nat}(hx:x<xs.size) (hl:l<=x) (i:Nat):K r (bubble xs x (x-l)) i=if i=l then K r xs x else if l<i/\i<=x then K r xs (i-1) else K r xs i:=by
 have e:=getElem?_bubble hx (x-l) (by lia) i;rw [show x-(x-l)=l by lia] at e
 by_cases h1:i=l
 .rw [if_pos h1] at e ⊢;exact Mp e
 .rw [if_neg h1] at e ⊢
  by_cases h2:l<i/\i<=x
  .rw [if_pos h2] at e ⊢;exact Mp e
  .rw [if_neg h2] at e ⊢;exact Mp e
theorem RV (hc:Hv prog w A s κ D r) (h:Bs D a₀ lo xs) (hz:lo+n<=xs.size) (h1:1<=m) (hm:m<=n) (hu:Up r xs lo (lo+m)) {Q:Bool->dG->Prop}
  (hq:∀ ys,Bs D a₀ lo ys->Up r ys lo (lo+n)->Q true (aX κ ys pd g none)):wU (aL prog w) A E s (Y8 lo n m) Q (aX κ xs pd g none):=by
 rw [Yr,show max m 1=m by lia];have hs:=h.size;refine aP (nU (fP (I:=λk c st'=>c.1=none/\∃ ys,st'=aX κ ys pd g none/\Bs D a₀ lo ys/\Up r ys lo (lo+k)) (Q:=λc st'=>c.1=none/\∃ ys,st'=aX κ ys pd g none/\Bs D a₀ lo ys/\Up r ys lo (lo+n)) ?_ ?_ ⟨rfl,xs,rfl,h,hu⟩) ?_)
 .rintro k c st' a1 a2 ⟨_,ys,rfl,b1,b2⟩;have hy:=b1.size;unfold biS
  refine aP (nU (fP (I:=λx z st'=>st'=aX κ ys pd g none/\z.1=none/\z.2.1<=z.2.2/\z.2.2<=k/\(∀ t,lo<=t->t<lo+z.2.1->K r ys t<=K r ys (lo+k))/\(∀ t,lo+z.2.2<=t->t<lo+k->K r ys (lo+k)<=K r ys t)/\z.2.2+x<=z.2.1+k)
   (Q:=λz st'=>st'=aX κ ys pd g none/\z.1=none/\z.2.1<=k/\(∀ t,lo<=t->t<lo+z.2.1->K r ys t<=K r ys (lo+k))/\∀ t,lo+z.2.1<=t->t<lo+k->K r ys (lo+k)<=K r ys t) ?_ ?_ ⟨rfl,rfl,aO _,au _,λt z1 z2=>absurd z2 (by dsimp only;lia),λt z1 z2=>absurd z2 (by dsimp only at z1;lia),by dsimp only;lia⟩) ?_)
  .rintro x ⟨z,l,u⟩ st' _ _ ⟨rfl,rfl,c1,c2,c3,c4,c5⟩;dsimp only at c1 c2 c3 c4 c5;unfold plS;dsimp only
   by_cases d:l>=u
   .rw [if_pos d]
    have:l=u:=by lia
    subst this;exact a8 ⟨rfl,rfl,c2,c3,c4⟩
   .rw [if_neg d];refine aP (RT hc b1 (by lia) (by lia) ?_);dsimp only
    by_cases f:K r ys (lo+k)<K r ys (lo+(l+u)/2)
    .rw [decide_eq_true f,if_pos rfl];exact a8 ⟨rfl,rfl,by dsimp only;lia,by dsimp only;lia,c3,λt z1 z2=>de (gm f) (b2 _ _ (by lia) z1 z2),by dsimp only;lia⟩
    .rw [decide_eq_false f,if_neg (by simp)];exact a8 ⟨rfl,rfl,by dsimp only;lia,c2,λt z1 z2=>de (b2 _ (lo+(l+u)/2) z1 (by dsimp only at z2;lia) (by lia)) (qu.mp f),c4,by dsimp only;lia⟩
  .rintro ⟨z,l,u⟩ st' ⟨rfl,rfl,c1,c2,c3,c4,c5⟩;dsimp only at c1 c2 c3 c4 c5
   have:l=u:=by lia
   subst this;exact ⟨rfl,rfl,c2,c3,c4⟩
  .rintro ⟨z,l,u⟩ st' ⟨rfl,rfl,c2,c3,c4⟩;dsimp only at c2 c3 c4 ⊢;rw [moveDown'_eq];refine aP (iI (a8 ⟨rfl,_,rfl,⟨(bubble_perm _ _ _).trans b1.pm,b1.dd,λt ht=>?_⟩,λt v z1 z2 z3=>?_⟩))
   .have e:=getElem?_bubble (xs:=ys) (src:=lo+k) (by lia) (lo+k-(lo+l)) (by lia) t
    show (bubble ys _ _)[t]?=_
    rw [e,if_neg (by lia),if_neg (by lia)];exact b1.ah t ht
   .show K r (bubble ys _ _) t<=K r (bubble ys _ _) v
    rw [Wp (by lia) (by lia),Wp (by lia) (by lia)]
    by_cases d1:t=lo+l
    .rw [if_pos d1]
     by_cases d2:v=lo+l
     .rw [if_pos d2];exact oz _
     .rw [if_neg d2,if_pos (by lia)];exact c4 _ (by lia) (by lia)
    .rw [if_neg d1]
     by_cases d2:v=lo+l
     .rw [if_pos d2,if_neg (by lia)];exact c3 t z1 (by lia)
     .rw [if_neg d2]
      by_cases d3:lo+l<t
      .rw [if_pos (by lia),if_pos (by lia)];exact b2 _ _ (by lia) (by lia) (by lia)
      .rw [if_neg (by lia)]
       by_cases d4:lo+l<v
       .rw [if_pos (by lia)];exact b2 _ _ (by lia) (by lia) (by lia)
       .rw [if_neg (by lia)];exact b2 _ _ (by lia) (by lia) (by lia)
 .rintro c st' ⟨e,ys,rfl,b1,b2⟩;rw [show max m n=n by lia] at b2;exact ⟨e,ys,rfl,b1,b2⟩
 .rintro ⟨c,u⟩ st' ⟨e,ys,rfl,b1,b2⟩;cases e;exact a8 (hq ys b1 b2)
end
end Sy
namespace Sy
open PySem.W
def RW (i:Nat) (q:Array aT) (xs:Array aT):Array aT:=q.toList.zipIdx.foldl (λa x=>match x with|(p,j)=>a.setIfInBounds (i+j) p) xs
def Ve (i:Nat) (q:Array aT):SM Bool:=do
 modify λt=>aX (kindOf t) (RW i q (nT t)) (cS t) (gallopOf t) (i6 t)
 let t ← get
 pure (i6 t).isNone
def mAt (xs:Array aT) (sa na sb nb:Nat):SM Bool:=do
 match ← oN false (← m6 xs sb) xs sa na 0 with
 | some k=>(if (na-k == 0)=true then pure true else (do
   match ← oN true (← m6 xs (sa+k+(na-k)-1)) xs sb nb (nb-1) with
   | some m=>(if (m == 0)=true then pure true else if na-k<=m then (do
     let q ← CM (xs.extract (sa+k) sb) (xs.extract sb (sb+m))
     Ve (sa+k) q) else (do
     let q ← CN (xs.extract (sa+k) sb) (xs.extract sb (sb+m))
     Ve (sa+k) q))
   | _=>pure false))
 | _=>pure false
theorem aar (i:Nat):Y9 i=(do
  let t ← get
  match ((cS t)[i]?,(cS t)[i+1]?) with
  | (some (sa,na,pw),some (sb,nb,_))=>(do
   set (aX (kindOf t) (nT t) (((cS t).setIfInBounds i (sa,na+nb,pw)).eraseIdxIfInBounds (i+1)) (gallopOf t) (i6 t))
   mAt (nT t) sa na sb nb)
  | _=>liftM (unsupported "internal:list.sort.pending")):=by kernel_rfl
theorem RX (i:Nat):∀ (l:List aT) (o:Nat) (xs:Array aT),i+o+l.length<=xs.size ->
  ((l.zipIdx o).foldl (λa x=>match x with|(p,j)=>a.setIfInBounds (i+j) p) xs).toList=xs.toList.take (i+o)++l++xs.toList.drop (i+o+l.length)
 | [],o,xs,_=>by simp
 | p::l,o,xs,h=>by
  rw [List.zipIdx_cons,List.foldl_cons];simp only [bI] at h;rw [RX i l (o+1) _ (by simp;lia)]
  have hl:i+o<xs.toList.length:=by simp;lia
  simp only [Array.toList_setIfInBounds,bI];rw [show i+(o+1)=i+o+1 by lia,eN,List.take_set_of_le (au _),mG hl,List.drop_set_of_lt (by lia),show i+o+1+l.length=i+o+(l.length+1) by lia];simp
theorem Ys {i:Nat}{q xs:Array aT}(h:i+q.size<=xs.size):(RW i q xs).toList=xs.toList.take i++q.toList++xs.toList.drop (i+q.size):=by
 exact RX i q.toList 0 xs (by simpa using h)
section
variable {prog:bA}{w:cg}{A:cL}{E:aj->ax->Prop}{s:ax}{κ:jy} {D:aT->Prop}{r:aT->Int}{st:dG}{xs ys a₀:Array aT} {pd:Array (Nat×Nat×Nat)}{i j lo hi n m k q g pw nrem:Nat}
theorem aas {st':dG}{Q:PUnit->dG->Prop}(h:Q ⟨⟩ st'):wU (aL prog w) A E s (set st':SM PUnit) Q st:=iI (f:=λ_=>st') h
theorem mQ {t:Nat}{x:aT}(e:(xs.extract i j)[t]?=some x):i+t<j/\i+t<xs.size/\xs[i+t]?=some x:=by
 have h:=sH e;simp at h
 have e2:(xs.extract i j)[t]?=xs[i+t]?:=by rw [Array.getElem?_extract,if_pos (by lia)]
 exact ⟨by lia,by lia,by rw [← e2,e]⟩
theorem Wq (h:St r xs i j):(xs.extract i j).toList.Pairwise λx y=>r x<=r y:=pw_of λt u x y _ h2 _ e f=>h _ _ x y (hZ _ _) (by lia) (mQ f).1 (mQ e).2.2 (mQ f).2.2
theorem St.whole {n1:Nat}(hn:n1<=xs.size) (h:∀ t u x y,t<n1->n1<=u->xs[t]?=some x->xs[u]?=some y->r x<=r y) (h1:St r xs 0 n1) (h2:St r xs n1 xs.size):St r xs 0 xs.size:=λt u x y a1 a2 a3 e f=>by
 by_cases c:u<n1
 .exact h1 t u x y a1 a2 c e f
 .by_cases d:t<n1
  .exact h t u x y d (by lia) e f
  .exact h2 t u x y (by lia) a2 a3 e f
theorem St.aaQ (h:xs.toList.Pairwise λx y=>r x<=r y):St r xs 0 xs.size:=λt u x y _ a2 a3 e f=>by
 obtain ⟨h1,rfl⟩:=cB.mp e;obtain ⟨h2,rfl⟩:=cB.mp f
 by_cases c:t=u
 .subst c;exact oz _
 .have:=iE.mp h t u (by simpa using h1) (by simpa using h2) (by lia)
  simpa using this
theorem aat {q:Array aT}{Q:Bool->dG->Prop}(h:∀ g',Q true (aX κ (RW i q xs) pd g' none)) (hs:Sm κ xs pd st):wU (aL prog w) A E s (Ve i q) Q st:=by
 obtain ⟨g',rfl⟩:=hs;exact aP (iI (aP (qW (a8 (h g')))))
theorem aau {n1 n2:Nat}(hc:Hv prog w A s κ D r) (h:Bs D a₀ 0 xs) (h1:0<n1) (h2:0<n2) (hn:n1+n2=xs.size) (s1:St r xs 0 n1) (s2:St r xs n1 xs.size) {Q:Bool->dG->Prop}
  (hq:∀ ys g',Bs D a₀ 0 ys->St r ys 0 ys.size->Q true (aX κ ys pd g' none)):wU (aL prog w) A E s (mAt xs 0 n1 n1 n2) Q (aX κ xs pd g none):=by
 obtain ⟨y0,ey⟩:=gb (a:=xs) (i:=n1) (by lia);obtain ⟨x1,ex⟩:=gb (a:=xs) (i:=n1-1) (by lia);unfold mAt;refine aP (n5 ey (aP (pS hc rfl (λt x e=>h.d e) (h.d ey) (by lia) (λt u x y z1 z2 z3=>s1 t u x y z1 z2 (by lia)) h1 λk k1 k2 k3=>?_)))
 have k2':∀ t x,t<k->xs[t]?=some x->r x<=r y0:=λt x z e=>by simpa [Bv] using k2 t x (aO _) (by lia) e
 have k3':∀ t x,k<=t->t<n1->xs[t]?=some x->r y0<r x:=λt x z z' e=>by simpa [Bv] using k3 t x (by lia) (by lia) e
 have yl:∀ t x,n1<=t->xs[t]?=some x->r y0<=r x:=λt x z e=>s2 _ _ _ _ (au _) z (sH e) ey e;have xl:∀ t x,t<n1->xs[t]?=some x->r x<=r x1:=λt x z e=>s1 _ _ _ _ (aO _) (by lia) (by lia) e ex;dsimp only
 by_cases c:n1-k=0
 .rw [if_pos (by simpa using c)];exact a8 (hq xs g h (St.whole (n1:=n1) (by lia) (λt u x y z1 z2 e f=>de (k2' t x (by lia) e) (yl u y z2 f)) s1 s2))
 .rw [if_neg (by simpa using c)];rw [show 0+k+(n1-k)-1=n1-1 by lia,show 0+k=k by lia];refine aP (n5 ex (aP (pS hc rfl (λt x e=>h.d e) (h.d ex) (by lia) (λt u x y z1 z2 z3=>s2 t u x y z1 z2 (by lia)) (by lia) λm m1 m2 m3=>?_)));have m2':∀ t x,n1<=t->t<n1+m->xs[t]?=some x->r x<r x1:=λt x z z' e=>of_decide_eq_true (m2 t x z z' e);have m3':∀ t x,n1+m<=t->xs[t]?=some x->r x1<=r x:=λt x z e=>qu.mp (of_decide_eq_false (m3 t x z (by have:=sH e;lia) e));dsimp only
  by_cases d:m=0
  .rw [if_pos (by simpa using d)];exact a8 (hq xs g h (St.whole (n1:=n1) (by lia) (λt u x y z1 z2 e f=>de (xl t x z1 e) (m3' u y (by lia) f)) s1 s2))
  .rw [if_neg (by simpa using d)]
   have sx:(xs.extract k n1).size=n1-k:=by simp;lia
   have sy:(xs.extract n1 (n1+m)).size=m:=by simp;lia
   have fin:∀ q,F r ((xs.extract k n1).toList++(xs.extract n1 (n1+m)).toList) q->∀ st',Sm κ xs pd st'->wU (aL prog w) A E s (Ve k q) Q st':=λq hF st' hS=>by
    have pm:q.toList.Perm ((xs.extract k n1).toList++(xs.extract n1 (n1+m)).toList):=by simpa using hF.pm
    have lq:q.size=n1-k+m:=by have:=pm.length_eq;rw [bb,aM,aM,aM,sx,sy] at this;exact this
    have el:=Ys (i:=k) (q:=q) (xs:=xs) (by lia)
    have tk:xs.toList.take k=(xs.extract 0 k).toList:=by simp
    have dp:xs.toList.drop (k+q.size)=(xs.extract (n1+m) xs.size).toList:=by rw [sG];congr 1;lia
    rw [tk,dp] at el
    have wh:xs.toList=(xs.extract 0 k).toList++((xs.extract k n1).toList++(xs.extract n1 (n1+m)).toList)++(xs.extract (n1+m) xs.size).toList:=by
     have e1:=NY xs 0 k;have e2:=NY xs k (n1-k);have e3:=NY xs n1 m;rw [show k+(n1-k)=n1 by lia] at e2;rw [sG];rw [P9] at e1;rw [du,du,← e3,← e2,← e1,Jr]
    have mq:∀ x∈q.toList,(∃ t,k<=t/\t<n1/\xs[t]?=some x)\/∃ t,n1<=t/\t<n1+m/\xs[t]?=some x:=λx hx=>by
     rcases aQ.mp (pm.mem_iff.mp hx) with z|z
     .obtain ⟨t,a1,a2,_,e⟩:=ze z;exact .inl ⟨t,a1,a2,e⟩
     .obtain ⟨t,a1,a2,_,e⟩:=ze z;exact .inr ⟨t,a1,a2,e⟩
    refine aat (λg'=>hq _ g' ⟨fu.mpr ?_,h.dd,λt ht=>absurd ht (by lia)⟩ (St.aaQ ?_)) hS
    .rw [el];refine List.Perm.trans ?_ (fu.mp h.pm);rw [wh];exact (pm.append_left _).append_right _
    .rw [el];refine gA.mpr ⟨gA.mpr ⟨Wq λt u x y a1 a2 a3=>s1 t u x y a1 a2 (by lia),hF.so,λx hx y hy=>?_⟩,Wq λt u x y a1 a2 a3=>s2 t u x y (by lia) a2 a3,λx hx y hy=>?_⟩
     .obtain ⟨t,_,a2,_,e⟩:=ze hx
      rcases mq y hy with ⟨u,b1,b2,f⟩|⟨u,b1,b2,f⟩
      .exact s1 t u x y (aO _) (by lia) b2 e f
      .exact de (k2' t x a2 e) (yl u y b1 f)
     .obtain ⟨u,b1,b2,_,f⟩:=ze hy
      rcases aQ.mp hx with hx|hx
      .obtain ⟨t,_,a2,_,e⟩:=ze hx;exact de (k2' t x a2 e) (yl u y (by lia) f)
      .rcases mq x hx with ⟨t,a1,a2,e⟩|⟨t,a1,a2,e⟩
       .exact de (xl t x a2 e) (m3' u y b1 f)
       .exact s2 t u x y a1 (by lia) b2 e f
   have da:∀ (t:Nat) x,(xs.extract k n1)[t]?=some x->D x:=λt x e=>h.d (mQ e).2.2;have db:∀ (t:Nat) x,(xs.extract n1 (n1+m))[t]?=some x->D x:=λt x e=>h.d (mQ e).2.2;have sa:St r (xs.extract k n1) 0 (xs.extract k n1).size:=λt u x y _ a2 _ e f=>s1 _ _ x y (aO _) (by lia) (mQ f).1 (mQ e).2.2 (mQ f).2.2;have sb:St r (xs.extract n1 (n1+m)) 0 (xs.extract n1 (n1+m)).size:=λt u x y _ a2 _ e f=>s2 _ _ x y (hZ _ _) (by lia) (mQ f).2.1 (mQ e).2.2 (mQ f).2.2
   have yx:∀ (t u:Nat) x y,(xs.extract k n1)[t]?=some x->(xs.extract n1 (n1+m))[0]?=some y->r y<=r x:=λt u x y e f=>by
    have f:=(mQ f).2.2;rw [Nat.add_zero,ey] at f;cases f;exact gm (k3' _ x (by lia) (mQ e).1 (mQ e).2.2)
   have xy:∀ (t u:Nat) x y,t+1=(xs.extract k n1).size->(xs.extract k n1)[t]?=some x->(xs.extract n1 (n1+m))[u]?=some y->r y<=r x:=λt u x y z e f=>by
    have e:=(mQ e).2.2;rw [sx] at z;rw [show k+t=n1-1 by lia,ex] at e;cases e;exact gm (m2' _ y (by lia) (mQ f).1 (mQ f).2.2)
   by_cases f:n1-k<=m
   .rw [if_pos f];exact aP (w_lo hc ⟨da,db,sa,sb,xy⟩ rfl (by lia) (by lia) (λx y e f=>yx 0 0 y x f e) λq st' w1 w2=>fin q w2 st' w1)
   .rw [if_neg f];exact aP (w_hi hc ⟨da,db,sa,sb,λu x y e f=>yx u 0 y x f e⟩ rfl (by lia) (by lia) (λx y e f=>xy _ _ y x (by lia) f e) λq st' w1 w2=>fin q w2 st' w1)
end
end Sy
namespace Sy
open PySem.W
theorem Yt {n:Nat}(h2:2<=n) (h:n<128):n<=2*uF n n 0/\uF n n 0<=n/\1<=uF n n 0:=by
 obtain ⟨f,rfl⟩:∃ f,n=f+2:=⟨n-2,by lia⟩
 by_cases c:f+2<64
 .have e:uF (f+1+1) (f+2) 0=f+2+0:=by rw [VY,if_pos c]
  have e:uF (f+2) (f+2) 0=f+2:=e;lia
 .have e:uF (f+1+1) (f+2) 0=(f+2)/2+max 0 ((f+2)%2):=by rw [VY,if_neg c,VY,if_pos (by lia)]
  have e:uF (f+2) (f+2) 0=(f+2)/2+max 0 ((f+2)%2):=e;lia
abbrev R1:=Option Unit×Nat
abbrev R0:=Option Unit×Unit
def cl1 (pw:Nat) (_:Nat) (_:R0):SM (ForInStep R0):=do
 let t ← get
 match (if (cS t).size>1 then (cS t)[(cS t).size-2]? else none) with
 | some (_,_,old)=>(if old<=pw then pure (.done (none,())) else (do
   let b ← Y9 ((cS t).size-2)
   if (!b)=true then pure (.done (some (),())) else pure (.yield (none,()))))
 | _=>pure (.done (none,()))
def psh (N lo n:Nat):SM (ForInStep R1):=do
 let t ← get
 match (cS t).back? with
 | some (s1,n1,_)=>(do
  let z ← forIn [0:N] ((none,()):R0) (cl1 (power' N (2*s1+n1) (2*s1+n1+n1+n) N))
  (match z.1 with
  | some r=>pure (.done (some r,lo))
  | none=>do
   modify λt=>setPending t ((cS t).modify ((cS t).size-1) λx=>(x.1,x.2.1,power' N (2*s1+n1) (2*s1+n1+n1+n) N))
   modify λt=>setPending t ((cS t).push (lo,n,0))
   pure (.yield (none,lo+n))))
 | _=>(do
  modify λt=>setPending t ((cS t).push (lo,n,0))
  pure (.yield (none,lo+n)))
def Pc (N mr:Nat) (_:Nat) (z:R1):SM (ForInStep R1) :=
 if z.2>=N then pure (.done (none,z.2)) else do
  match ← countRun' z.2 (N-z.2) with
  | some f=>(if f<mr then (do
    liftM (FT "list.sort.binary-insertion")
    let b ← Y8 z.2 (min (N-z.2) mr) f
    if (!b)=true then pure (.done (some (),z.2)) else psh N z.2 (min (N-z.2) mr)) else psh N z.2 f)
  | _=>pure (.done (some (),z.2))
def cl2 (_:Nat) (_:R0):SM (ForInStep R0):=do
 let t ← get
 if (cS t).size<=1 then pure (.done (none,())) else (do
  let b ← Y9 (if (if (cS t).size-2>0 then (cS t)[(cS t).size-2-1]?.map (·.2.1) else none).any (·<((cS t)[(cS t).size-2+1]?.elim 0 (·.2.1))) then (cS t).size-2-1 else (cS t).size-2)
  if (!b)=true then pure (.done (some (),())) else pure (.yield (none,())))
theorem Vg:sortRuns'=(do
  let t ← get
  let z ← forIn [0:(nT t).size] ((none,0):R1) (Pc (nT t).size (uF (nT t).size (nT t).size 0))
  (match z.1 with
  | some r=>pure r
  | none=>do
   let y ← forIn [0:(nT t).size] ((none,()):R0) cl2
   (match y.1 with
   | some r=>pure r
   | none=>pure ()))):=by kernel_rfl
section
variable {prog:bA}{w:cg}{A:cL}{E:aj->ax->Prop}{s:ax}{κ:jy} {D:aT->Prop}{r:aT->Int}{xs ys a₀:Array aT} {pd:Array (Nat×Nat×Nat)}{i j lo hi n m k q g pw nrem N n1:Nat}
theorem Up.st (h:Up r xs i j):St r xs i j:=λt u x y a1 a2 a3 e f=>by have:=h t u a1 a2 a3;rwa [Vd e,Vd f] at this
theorem Yu {Q:ForInStep R1->dG->Prop}(h:Q (.yield (none,lo+n)) (aX κ xs #[(lo,n,0)] g none)):wU (aL prog w) A E s (psh N lo n) Q (aX κ xs #[] g none) :=
 aP (qW (aP (iI (a8 h))))
theorem Yv {Q:ForInStep R1->dG->Prop}(h:∀ pw,Q (.yield (none,lo+n)) (aX κ xs #[(0,n1,pw),(lo,n,0)] g none)):wU (aL prog w) A E s (psh N lo n) Q (aX κ xs #[(0,n1,0)] g none):=by
 refine aP (qW ?_)
 show wU _ _ _ _ (_ >>= _) _ _
 refine aP (nU (fP (I:=λ_ c st'=>c=(none,())/\st'=aX κ xs #[(0,n1,0)] g none) (Q:=λc st'=>c=(none,())/\st'=aX κ xs #[(0,n1,0)] g none) ?_ (λ_ _ z=>z) ⟨rfl,rfl⟩) ?_)
 .rintro x c st' _ _ ⟨rfl,rfl⟩;exact aP (qW (a8 ⟨rfl,rfl⟩))
 .rintro c st' ⟨rfl,rfl⟩;exact aP (iI (aP (iI (a8 (h _)))))
theorem Wr {mr:Nat}(hc:Hv prog w A s κ D r) (hD:∀ x∈xs.toList,D x) (h1:lo<N) (hN:N=xs.size) (hm:1<=mr) {Q:ForInStep R1->dG->Prop}{z:R1}(hz:z.2=lo)
  (h:∀ ys m,1<=m->m<=N-lo->min (N-lo) mr<=m->ys.Perm xs->(∀ t,t<lo->ys[t]?=xs[t]?)->Up r ys lo (lo+m)->wU (aL prog w) A E s (psh N lo m) Q (aX κ ys pd g none)):wU (aL prog w) A E s (Pc N mr i z) Q (aX κ xs pd g none):=by
 subst hN hz;unfold Pc;rw [if_neg (by lia)];refine aP (w_count (a₀:=xs) hc ⟨Array.Perm.refl _,hD,λ_ _=>rfl⟩ (by lia) (by lia) λm ys m1 m2 hb hu=>?_);have hy:=hb.size;dsimp only
 by_cases c:m<mr
 .rw [if_pos c];refine aP (Jm (jo ⟨rfl,?_⟩));refine aP (RV hc hb (by lia) m1 (by lia) hu λzs hb' hu'=>?_);exact h zs _ (by lia) (by lia) (au _) hb'.pm hb'.ah hu'
 .rw [if_neg c];exact h ys m m1 m2 (by lia) hb.pm hb.ah hu
theorem w_runs (hc:Hv prog w A s κ D r) (hD:∀ x∈a₀.toList,D x) (h2:2<=a₀.size) (h128:a₀.size<128) {Q:Unit->dG->Prop}
  (hq:∀ ys st',nT st'=ys->i6 st'=none->ys.Perm a₀->St r ys 0 ys.size->Q () st'):wU (aL prog w) A E s sortRuns' Q (aX κ a₀ #[] 7 none):=by
 obtain ⟨r1,r2,r3⟩:=Yt h2 h128;rw [Vg];refine aP (qW ?_)
 show wU _ _ _ _ (forIn [0:a₀.size] _ (Pc a₀.size (uF a₀.size a₀.size 0)) >>= _) _ _
 generalize uF a₀.size a₀.size 0=mr at r1 r2 r3;have dp:∀ {ys:Array aT},ys.Perm a₀->∀ x∈ys.toList,D x:=λh x hx=>hD x ((fu.mp h).mem_iff.mp hx)
 refine aP (nU (fP
  (I:=λx c st'=>(x=0/\c=(none,0)/\st'=aX κ a₀ #[] 7 none)\/(∃ n1 ys,c=(none,n1)/\mr<=n1/\n1<=a₀.size/\(x=1\/n1=a₀.size)/\st'=aX κ ys #[(0,n1,0)] 7 none/\ys.Perm a₀/\Up r ys 0 n1) \/
   (c=(none,a₀.size)/\∃ n1 pw ys,0<n1/\n1<a₀.size/\st'=aX κ ys #[(0,n1,pw),(n1,a₀.size-n1,0)] 7 none/\ys.Perm a₀/\Up r ys 0 n1/\Up r ys n1 a₀.size))
  (Q:=λc st'=>c=(none,a₀.size)/\((∃ ys,st'=aX κ ys #[(0,a₀.size,0)] 7 none/\ys.Perm a₀/\Up r ys 0 a₀.size)\/∃ n1 pw ys,0<n1/\n1<a₀.size/\st'=aX κ ys #[(0,n1,pw),(n1,a₀.size-n1,0)] 7 none/\ys.Perm a₀/\Up r ys 0 n1/\Up r ys n1 a₀.size)) ?_ ?_ (.inl ⟨rfl,rfl,rfl⟩)) ?_)
 .rintro x c st' _ hx (⟨rfl,rfl,rfl⟩|⟨n1,ys,rfl,b1,b2,b3,rfl,b5,b6⟩|⟨rfl,b⟩)
  .refine Wr hc hD (lo:=0) (by lia) rfl r3 rfl λys m m1 m2 m3 p1 p2 p3=>Yu (.inr (.inl ⟨m,ys,by simp,by lia,by lia,.inl rfl,rfl,p1,by simpa using p3⟩))
  .have hy:=b5.size_eq
   by_cases c:n1=a₀.size
   .unfold Pc;rw [if_pos (by dsimp only;lia)];subst c;exact a8 ⟨rfl,.inl ⟨ys,rfl,b5,b6⟩⟩
   .refine Wr hc (dp b5) (lo:=n1) (by lia) hy.symm r3 rfl λzs m m1 m2 m3 p1 p2 p3=>Yv λpw=>.inr (.inr ?_)
    have e:m=a₀.size-n1:=by lia
    subst e;rw [show n1+(a₀.size-n1)=a₀.size by lia] at p3 ⊢;exact ⟨rfl,n1,pw,zs,by lia,by lia,rfl,p1.trans b5,λt u z1 z2 z3=>by rw [Mp (p2 t (by lia)),Mp (p2 u z3)];exact b6 t u z1 z2 z3,p3⟩
  .unfold Pc;rw [if_pos (au _)];exact a8 ⟨rfl,.inr b⟩
 .rintro c st' (⟨hx,_⟩|⟨n1,ys,rfl,b1,b2,b3,b4,b5,b6⟩|⟨rfl,b⟩)
  .lia
  .have:n1=a₀.size:=by lia
   subst this;exact ⟨rfl,.inl ⟨ys,b4,b5,b6⟩⟩
  .exact ⟨rfl,.inr b⟩
 .rintro c st' ⟨rfl,b⟩
  refine aP (nU (fP (I:=λx c st'=>c=(none,())/\((∃ ys pw g,st'=aX κ ys #[(0,a₀.size,pw)] g none/\ys.Perm a₀/\St r ys 0 ys.size)\/x=0/\∃ n1 pw ys,0<n1/\n1<a₀.size/\st'=aX κ ys #[(0,n1,pw),(n1,a₀.size-n1,0)] 7 none/\ys.Perm a₀/\Up r ys 0 n1/\Up r ys n1 a₀.size))
   (Q:=λc st'=>c=(none,())/\∃ ys pw g,st'=aX κ ys #[(0,a₀.size,pw)] g none/\ys.Perm a₀/\St r ys 0 ys.size) ?_ ?_ ⟨rfl,?_⟩) ?_)
  .rintro x c st2 _ _ ⟨rfl,⟨ys,pw,g,rfl,b1,b2⟩|⟨rfl,n1,pw,ys,b1,b2,rfl,b4,b5,b6⟩⟩
   .refine aP (qW ?_);rw [if_pos (show (cS (aX κ ys #[(0,a₀.size,pw)] g none)).size<=1 from au 1)];exact a8 ⟨rfl,ys,pw,g,rfl,b1,b2⟩
   .refine aP (qW ?_);rw [if_neg (show ¬ (cS (aX κ ys #[(0,n1,pw),(n1,a₀.size-n1,0)] 7 none)).size<=1 from λz=>absurd (show 2<=1 from z) (by lia))]
    show wU _ _ _ _ (Y9 0 >>= _) _ _
    rw [aar];have hy:=b4.size_eq;refine aP (aP (qW ?_))
    show wU _ _ _ _ (_ >>= _) _ _
    refine aP (aas ?_)
    have ep:((#[(0,n1,pw),(n1,a₀.size-n1,0)]:Array (Nat×Nat×Nat)).setIfInBounds 0 (0,n1+(a₀.size-n1),pw)).eraseIdxIfInBounds 1=#[(0,a₀.size,pw)]:=by
     rw [show n1+(a₀.size-n1)=a₀.size by lia]
     apply km.mp
     simp
    show wU _ _ _ _ (mAt ys 0 n1 n1 (a₀.size-n1)) _ (aX κ ys (((#[(0,n1,pw),(n1,a₀.size-n1,0)]:Array (Nat×Nat×Nat)).setIfInBounds 0 (0,n1+(a₀.size-n1),pw)).eraseIdxIfInBounds 1) 7 none)
    rw [ep];exact aau hc ⟨b4,hD,λt z=>absurd z (by lia)⟩ b1 (by lia) (by lia) b5.st (by rw [hy];exact b6.st) λzs g' w1 w2=>a8 ⟨rfl,.inl ⟨zs,pw,g',rfl,w1.pm,w2⟩⟩
  .rintro c st2 ⟨e,b|⟨hx,_⟩⟩
   .exact ⟨e,b⟩
   .have hx:max 0 a₀.size=0:=hx;lia
  .rcases b with ⟨ys,e,b1,b2⟩|b
   .exact .inl ⟨ys,0,7,e,b1,by rw [b1.size_eq];exact b2.st⟩
   .exact .inr ⟨rfl,b⟩
  .rintro c st2 ⟨rfl,ys,pw,g,rfl,b1,b2⟩;exact a8 (hq ys _ rfl rfl b1 b2)
end
end Sy
namespace Sy
open PySem.W
theorem perm_map {α β:Type} {f:α->β}{m l:List β}(h:m.Perm l):∀ us:List α,m=us.map f->∃ us':List α,us'.Perm us/\l=us'.map f:=by
 induction h with
 | nil=>exact λus e=>⟨us,.refl _,e⟩
 | cons x _ ih =>
  intro us e
  match us,e with
  | u::us,e =>
   obtain ⟨e1,e2⟩:=mI e;obtain ⟨us',h1,h2⟩:=ih us e2
   exact ⟨u::us',h1.cons u,by rw [e1,h2];rfl⟩
 | swap x y l =>
  intro us e
  match us,e with
  | u::v::us,e =>
   obtain ⟨e1,e2⟩:=mI e;obtain ⟨e2,e3⟩:=mI e2
   exact ⟨v::u::us,.swap _ _ _,by rw [e1,e2,e3];rfl⟩
 | trans _ _ ih1 ih2 =>
  intro us e;obtain ⟨us1,h1,e1⟩:=ih1 us e;obtain ⟨us2,h2,e2⟩:=ih2 us1 e1;exact ⟨us2,h2.trans h1,e2⟩
section
variable {prog:bA}{w:cg}{A:cL}{E:aj->ax->Prop}{s:ax}{κ:jy} {r:aj->Int}{vs:List aj}
def Ks (prog:bA) (w:cg) (A:cL) (κ:jy) (r:aj->Int) (vs:List aj) (s:ax):Prop :=
 (∀ Q:jy->ax->Prop,Q κ s->aH (aL prog w) A (keyKind' vs.toArray) Q (λ_ _=>False) s)/\∀ x∈vs,∀ y∈vs,∀ Q:Bool->ax->Prop,Q (decide (r x<r y)) s->aH (aL prog w) A (keyLt' κ x y) Q (λ_ _=>False) s
theorem sort_vals {a:af}{n:Nat}{P:LK->ax->Prop}(ho:s.heap.get? a=some (b8 "list" vs.toArray n)) (hz:vs.length<128)
  (hk:2<=vs.length->∀ h',(∀ b o,b≠a->s.heap.get? b=some o->h'.get? b=some o)->Ks prog w A κ r vs { s with heap:=h' })
  (h:∀ h' c (out:List aj),(∀ b o,b≠a->s.heap.get? b=some o->h'.get? b=some o)->h'.get? a=some (b8 "list" out.toArray c)->out.Perm vs->out.Pairwise (λx y=>r x<=r y)->P (.done (.ret .none)) { s with heap:=h' }) :
  aH (aL prog w) A (ij.«list.sort» ⟨[.ref a],[]⟩) P E s:=by
 have hl:vs.length<=aW:=L2.bK (m:=128) (by lia);rw [list_sort_plain]
 obtain ⟨c1,g1⟩:∃ c1,(s.heap.update a (bQ λ_=>#[])).get? a=some (b8 "list" #[] c1):=⟨_,mJ ho λ_=>#[]⟩
 refine aa (Jd ho rfl (aa (mj ho rfl (aa (LN g1 rfl (aa (Bw (aa (pe (cq ?_) (aO _))) hl)))) (by rw [aI];exact hl) (aO _))));have g6:(((s.heap.update a (bQ λ_=>#[])).push (b8 "tuple" vs.toArray 0)).push (b8 "list" #[] 0)).get? a=some (b8 "list" #[] c1):=ar _ (ar _ g1);have k6:∀ b o,b≠a->s.heap.get? b=some o->(((s.heap.update a (bQ λ_=>#[])).push (b8 "tuple" vs.toArray 0)).push (b8 "list" #[] 0)).get? b=some o:=λb o hb e=>ar _ (ar _ ((bp _ _ (Ne.symm hb)).trans e))
 show aH (aL prog w) A _ P E { s with heap:=((s.heap.update a (bQ λ_=>#[])).push (b8 "tuple" vs.toArray 0)).push (b8 "list" #[] 0) }
 generalize ((s.heap.update a (bQ λ_=>#[])).push (b8 "tuple" vs.toArray 0)).push (b8 "list" #[] 0)=h6 at g6 k6
 have sn:((vs.toArray.zip vs.toArray).map (·.2))=vs.toArray:=by
  apply km.mp
  simp;exact Xe (au _)
 have fin:∀ st:dG,i6 st=none->∀ out:List aj,(nT st).map (·.2)=out.toArray->out.Perm vs->out.Pairwise (λx y=>r x<=r y)->aH (aL prog w) A (do
   let t:=(← seqEpoch a) != c1
   iD (.ref a) λ_=>(nT st).map (·.2)
   if let some e:=i6 st then FT "list.sort.comparison-raised";throw e
   if t then FT "list.sort.modified";raiseError "ValueError" "list modified during sort"
   ret .none) P E { s with heap:=h6 }:=λst hf out eo hp hs=>by
  rw [eo]
  obtain ⟨c7,g7⟩:∃ c7,(h6.update a (bQ λ_=>out.toArray)).get? a=some (b8 "list" out.toArray c7):=⟨_,mJ g6 λ_=>out.toArray⟩
  refine aa (LN g6 rfl (aa (mj g6 rfl ?_ (aO _) (by rw [aI,hp.length_eq];exact Xa hl))));rw [hf];simp only [bne_self_eq_false,bY,if_false];exact ak (h _ c7 out (λb o hb e=>(bp _ _ (Ne.symm hb)).trans (k6 b o hb e)) g7 hp hs)
 dsimp only
 by_cases h2:vs.length<2
 .rw [if_pos (by rw [aI];exact h2),if_pos (by rw [aI];exact h2)];refine aa (ak ?_);rw [VZ];refine aa (ak (fin (aX general' (vs.toArray.zip vs.toArray) #[] 7 none) rfl vs sn (.refl _) ?_))
  match vs,h2 with
  | [],_=>exact .nil
  | [z],_=>exact rZ _ _
  | z::w::r,h2=>simp at h2;lia
 .rw [if_neg (by rw [aI];exact h2),if_neg (by rw [aI];exact h2)];obtain ⟨q1,q2⟩:=hk (by lia) h6 k6;refine aa (dr (q1 (λκ' s'=>κ'=κ/\s'={ s with heap:=h6 }) ⟨rfl,rfl⟩) (λκ' s' e=>?_) λ_ _ x=>x.elim);obtain ⟨rfl,rfl⟩:=e
  have mz:∀ x∈(vs.toArray.zip vs.toArray).toList,x.1∈vs:=λx hx=>by
   rw [Ew] at hx;exact (uY hx).1
  refine aa (dr (w_runs (a₀:=vs.toArray.zip vs.toArray) (D:=λx=>x.1∈vs) (r:=λx=>r x.1) (Q:=λ_ st'=>∃ ys,nT st'=ys/\i6 st'=none/\ys.Perm (vs.toArray.zip vs.toArray)/\St (λx=>r x.1) ys 0 ys.size)
   (λx y hx hy Q q=>q2 x.1 hx y.1 hy Q q) mz (by simp;lia) (by simp;lia) λys st' a1 a2 a3 a4=>⟨ys,a1,a2,a3,a4⟩) ?_ λ_ _ x=>x)
  rintro ⟨⟨⟩,st'⟩ s' ⟨rfl,ys,e,hf,hp,hs⟩;have hp':=fu.mp hp
  have self:∀ x∈ys.toList,x.1=x.2:=λx hx=>by
   have:=hp'.mem_iff.mp hx;rw [Ew] at this;exact (mem_zip_self this).1
  refine fin st' hf (ys.toList.map (·.2)) (by rw [e];apply km.mp;simp) ?_ ?_
  .have:=hp'.map (·.2);rw [← nj,← nj,sn] at this
   simpa using this
  .refine iK.mpr ((pw_of hs).imp_of_mem λ{x y} hx hy z=>?_);rw [← self x hx,← self y hy];exact z
theorem sorted_vals {p:af}{Q:aj->ax->Prop}(hz:vs.length<128)
  (hcol:∀ (Q':List aj->ax->Prop),(∀ h' tk,(∀ b o,s.heap.get? b=some o->h'.get? b=some o)->Q' vs { s with heap:=h',toks:=tk })->aH (aL prog w) A.in1 (VU (.ref p)) Q' E s)
  (hk:2<=vs.length->∀ h' tk,(∀ b o,s.heap.get? b=some o->h'.get? b=some o)->Ks prog w A.in1.in1 κ r vs { s with heap:=h',toks:=tk })
  (h:∀ D c h' tk (out:List aj),(∀ b o,s.heap.get? b=some o->h'.get? b=some o)->s.heap.get? D=none->h'.get? D=some (b8 "list" out.toArray c)->out.Perm vs->out.Pairwise (λx y=>r x<=r y)->Q (.ref D) { s with heap:=h',toks:=tk }) :
  aH (aL prog w) A (call (.builtin "sorted") [.ref p]) Q E s:=by
 have hl:vs.length<=aW:=L2.bK (m:=128) (by lia);refine qt LO Jo Jp (args_sorted1 _) (aa (m:=Qa "sorted" 1 1 _) (ak (aa (hcol _ λh1 tk keep=>aa (pe ?_ hl)))));have g:(h1.push (b8 "list" vs.toArray 0)).get? h1.objs.size=some (b8 "list" vs.toArray 0):=aK _ rfl;have hb:∀ b o,s.heap.get? b=some o->b≠h1.objs.size:=λb o e=>aZ (aJ (keep b o e));have k2:∀ {h':cK},(∀ b o,b≠h1.objs.size->(h1.push (b8 "list" vs.toArray 0)).get? b=some o->h'.get? b=some o)->∀ b o,s.heap.get? b=some o->h'.get? b=some o:=λk b o e=>k b o (hb b o e) (ar _ (keep b o e))
 show aH (aL prog w) A.in1 (do let _ ← jS [aD h1.objs.size] (call (.builtin "list.sort") [aD h1.objs.size]);ret (aD h1.objs.size)) _ _ { s with heap:=h1.push (b8 "list" vs.toArray 0),toks:=tk }
 have hD:s.heap.get? h1.objs.size=none:=by
  cases q:s.heap.get? h1.objs.size with
  | none=>rfl
  | some o=>exact absurd rfl (hb _ o q)
 exact aa (cq (cO BA ⟨_,g,rfl⟩ yW (sort_vals (s:={ s with heap:=h1.push (b8 "list" vs.toArray 0),toks:=tk }) g hz (λh2 h' k=>hk h2 h' tk (k2 k)) λh' c out k gD hp hs=>⟨_,rfl,ak ⟨_,rfl,h _ c h' tk out (k2 k) hD gD hp hs⟩⟩) (args_list_sort _)))
end
end Sy
namespace L2
open PySem.W
variable {X:Cx}{pins:List (af×iF)}{Z:St}{H:Hp}{s:ax}{m:List Bool}
def Inv.Tx {h':cK}{a:af}{o:HO}{t':Nat}(I:Inv X pins Z H s) (k:∀ b u,s.heap.get? b=some u->h'.get? b=some u) (gn:s.heap.get? a=none) (new:eU X.prog X.w (upd H a o) h' a o) :
  H a=none/\Inv X pins Z (upd H a o) { s with heap:=h',toks:=t' }:=by
 have hn:H a=none:=by
  cases q:H a with
  | none=>rfl
  | some u =>
   obtain ⟨w,e⟩:=(I.eJ a u q).obj;rw [gn] at e;cases e
 have ne:∀ {b u},H b=some u->b≠a:=λe=>aR e hn;refine ⟨hn,I.un ⟨λb u q _ _ _=>k b u q,λb u q _ _ _=>⟨u.slots,k b u q⟩,λb u q n _=>?_,λb u q _=>⟨u,k b u q⟩,λb xs q=>by rw [aG (ne q)];exact q,λb u xs q=>by rw [aG (ne q)];exact q,λb ps q=>⟨#[],by rw [aG (ne q),q];simp⟩⟩ λb u e=>?_⟩
 .rw [aG];exact n;rintro rfl;rw [gn] at q;cases q
 .by_cases hb:b=a
  .subst hb;rw [aF] at e;cases e;exact new
  .rw [aG hb] at e
   exact (I.eJ b u e).uT (λc v _ q=>k c v q) (λc q=>by rw [aG (ne q)];exact q) λc xs q=>by rw [aG (ne q)];exact q
def Ws (zs:List Zn):aj->Int
 | .ref a=>((zs.find? λz=>z.2 == a).map λz=>Gy (zs.map (·.1)) z.1).getD 0
 | _=>0
section
variable {zs:List Zn}
def sI (hz:∀ z∈zs,∀ z'∈zs,z.2=z'.2->z.1=z'.1) {z:Zn}(h:z∈zs):Ws zs (.ref z.2)=Gy (zs.map (·.1)) z.1:=by
 show ((zs.find? λy=>y.2 == z.2).map _).getD 0=_
 cases q:zs.find? (λy=>y.2 == z.2) with
 | none=>exact absurd (Uk.mp q z h) (by simp)
 | some y =>
  have e:=YX q
  show Gy _ y.1=_
  rw [hz y (Ly q) z h (by simpa using e)]
def RY {xs:List V}{ks:List Int}(f:Flat m xs ks):∀ {ls:List Int},Flat m xs ls->ks=ls:=by
 induction f with
 | nil=>intro ls g;cases g;rfl
 | int i _ ih=>intro ls g;cases g with|int _ g=>rw [ih g]
 | bl b _ ih=>intro ls g;cases g with|bl _ g=>rw [ih g]
theorem Ka {r:af}{Q:VK}(I:Inv X pins Z H s) (hz:∀ z∈zs,RJ m H z) (hl:zs.length<128)
  (hcol:∀ (Q':List aj->ax->Prop),(∀ h' tk,(∀ b o,s.heap.get? b=some o->h'.get? b=some o)->Q' (zs.map λz=>aD z.2) { s with heap:=h',toks:=tk })->aH (aL X.prog X.w) X.A.in1 (VU (.ref r)) Q' X.xe s)
  (q:∀ (l:af) (zs':List Zn),H l=none->zs'.Perm zs->zs'.Pairwise (λz w=>iu w.1 z.1=false)->Q (.ref l) (upd H l (.lst (zs'.map oG)))):aH (aL X.prog X.w) X.A (call (.builtin "sorted") [.ref r]) (EP X pins Z Q) X.xe s:=by
 have tup:∀ z∈zs,∃ xs us,Flat (false::m) xs z.1/\Vals xs us/\qw s.heap z.2 us.toArray:=λz hz'=>by
  obtain ⟨xs,h1,h2⟩:=hz z hz';obtain ⟨ts,r,it,_⟩:=I.tuple (.of h1);exact ⟨xs,ts,h2,r,it⟩
 have one:∀ z∈zs,∀ z'∈zs,z.2=z'.2->z.1=z'.1:=λz h z' h' e=>by
  obtain ⟨xs,e1,f1⟩:=hz z h;obtain ⟨ys,e2,f2⟩:=hz z' h';rw [e,e2] at e1;cases e1;exact RY f1 f2
 refine Sy.sorted_vals (κ:=VX true) (r:=Ws zs) (by rw [ag];exact hl) hcol (λh2 h' tk keep=>?_) λD c h' tk out keep gD g hp hs=>?_
 .rw [ag] at h2
  have tup':∀ z∈zs,∃ xs us,Flat (false::m) xs z.1/\Vals xs us/\qw h' z.2 us.toArray:=λz hz'=>by
   obtain ⟨xs,us,f,r,o,e,rest⟩:=tup z hz';exact ⟨xs,us,f,r,o,keep _ _ e,rest⟩
  obtain ⟨fs,k1,k2,k3⟩:=NV (zs:=zs) (h:=h') λz hz'=>by
   obtain ⟨xs,us,f,r,it⟩:=tup' z hz';generalize z.1=kz at f
   cases f with
   | int i f =>
    cases r with
    | cons r1 r=>obtain ⟨t,rfl⟩:=r1;exact ⟨i,t,_,it⟩
  refine ⟨λQ hQ=>kat_kind (T:=.type "int") k1 (by lia) (λv hv=>by obtain ⟨i,t,rfl⟩:=k3 v hv;exact Looks.now) rfl (by rw [show (fc "int" != fc "tuple")=true by decide];exact hQ),λx hx y hy Q hQ=>?_⟩;obtain ⟨z,hz',rfl⟩:=bq.mp hx;obtain ⟨z',hz2,rfl⟩:=bq.mp hy;obtain ⟨xs,us,f1,r1,i1⟩:=tup' z hz';obtain ⟨ys,ws,f2,r2,i2⟩:=tup' z' hz2;refine NU (s:={ s with heap:=h',toks:=tk }) f1 f2 r1 r2 i1 i2 ?_;rw [sI one hz',sI one hz2,xp (bg hz')] at hQ;exact hQ
 .obtain ⟨zs',p',rfl⟩:=Sy.perm_map hp.symm zs rfl;obtain ⟨hn,I2⟩:=I.Tx (t':=tk) (o:=.lst (zs'.map oG)) keep gD ⟨by rw [ag,p'.length_eq];exact bK (m:=128) (by lia),_,c,qH zs',g⟩;refine ⟨.ref D,_,I2,rfl,q D zs' hn p' ((iK.mp hs).imp_of_mem λ{z w} hz1 hw z2=>?_)⟩;have a1:=p'.mem_iff.mp hz1;have a2:=p'.mem_iff.mp hw
  cases e:iu w.1 z.1 with
  | false=>rfl
  | true =>
   rw [← xp (ts:=zs.map (·.1)) (bg a2),decide_eq_true_iff] at e;rw [sI one a1,sI one a2] at z2;lia
def sJ (K:ae):List V->Hp->VK->Prop:=λxs H Q=>∃ (p:af) (zs:List Zn) (m:List Bool),xs=[.ref p]/\dm K H p (zs.map oG)/\(∀ z∈zs,RJ m H z)/\zs.length<128 /\
 ∀ (l:af) (zs':List Zn),H l=none->zs'.Perm zs->zs'.Pairwise (λz w=>iu w.1 z.1=false)->Q (.ref l) (upd H l (.lst (zs'.map oG)))
def xr:lj X (.builtin "sorted") (sJ X.K):=by
 intro pins s Z H xs us Q I r h;obtain ⟨p,zs,mk,rfl,hq,hz,hl,q⟩:=h;obtain ⟨u,rfl,ru⟩:=vals1 r;cases ru;obtain ⟨its,rv,pl,hsz⟩:=I.list hq;have ei:=xq rv;subst ei;refine Ka I hz hl (λQ' k=>collect_list pl.isList (k _ s.toks λb o e=>?_) (by rw [ag];exact bK (m:=128) (by lia))) q;have hlt:=aJ e;exact (bp _ _ (fe hlt)).trans (ar _ e)
end
def Wt (K:ae):List V->Hp->VK->Prop:=λxs H Q=>∃ (p:af) (ns:List Int),xs=[.ref p]/\dm K H p (ns.map V.int)/\0<ns.length/\∀ M,M∈ns->(∀ a∈ns,a<=M)->Q (.int M) H
def GA (hc:X.calm=true):lj X (.builtin "max") (Wt X.K):=by
 intro pins s Z H xs us Q I r h;obtain ⟨p,ns,rfl,hq,hf,q⟩:=h;obtain ⟨u,rfl,ru⟩:=vals1 r;cases ru;obtain ⟨its,rv,pl,hz⟩:=I.list hq;have hi:eW its ns:=intsAre_of rv;obtain ⟨ys,e⟩:=hi.allInts.items;have hn:=hi.numsOf
 have e':its=(Y6 ys).toList:=by rw [← e]
 rw [e',nums_intItems] at hn
 have hl:s.heap.IsList p (Y6 ys):=by rw [← e];exact pl.isList
 subst hn;rw [ag,aM] at hf;refine max_intList (I.ok.hd hc) hl hf λv h' tk hv hk=>?_;obtain ⟨t,rfl⟩:=intItems_at hv;obtain ⟨h1,h2⟩:=argBest_gt (numAt ys) (ys.size-1);refine ⟨.int _,H,I.kept hk,⟨t,rfl⟩,q _ ?_ λa ha=>?_⟩
 .rw [numAt_eq];exact getD_mem (by rw [ag,aM];lia)
 .obtain ⟨j,hj,rfl⟩:=mem_getD ha;rw [ag,aM] at hj;rw [← numAt_eq];exact h2 j (by lia)
end L2
namespace L2
open PySem.Calls PySem.W
variable {prog:bA}{w:cg}{A:cL}{E:aj->ax->Prop}{s:ax}
def Wu (a:af) (h h':cK):Prop:=∀ b o,b≠a->h.get? b=some o->h'.get? b=some o
section
variable {a:af}{f:aj}{zs:List Zn}{KO:Zn->iF->Prop}
theorem Kb {n:Nat}{P:LK->ax->Prop}(ho:s.heap.get? a=some (b8 "list" (zs.map λz:Zn=>aD z.2).toArray n)) (hl:zs.length<128) (one:∀ z∈zs,∀ z'∈zs,z.2=z'.2->z.1=z'.1)
  (turn:∀ z∈zs,∀ (h:cK) (tk:Nat),Wu a s.heap h->∀ R:aj->ax->Prop,(∀ h' tk' k o,(∀ b o,h.get? b=some o->h'.get? b=some o)->h.get? k=none->h'.get? k=some o->KO z o->R (.ref k) { s with heap:=h',toks:=tk' }) ->
   aH (aL prog w) A (call f [.ref z.2]) R (λ_ _=>False) { s with heap:=h,toks:=tk })
  (hkind:∀ z o,KO z o->o.cls=.type "tuple"/\∃ i t xs n,o.data=.seq xs n/\xs[0]?=some (.int i t))
  (hlt:∀ z∈zs,∀ z'∈zs,∀ k k' o o' (h:cK) (tk:Nat),Wu a s.heap h->h.get? k=some o->h.get? k'=some o'->KO z o->KO z' o'->∀ Q:Bool->ax->Prop,Q (iu z.1 z'.1) { s with heap:=h,toks:=tk }->aH (aL prog w) A (keyLt' (VX true) (.ref k) (.ref k')) Q (λ_ _=>False) { s with heap:=h,toks:=tk })
  (fin:∀ h' tk c (zs':List Zn),Wu a s.heap h'->h'.get? a=some (b8 "list" (zs'.map λz:Zn=>aD z.2).toArray c)->zs'.Perm zs->zs'.Pairwise (λz w=>iu w.1 z.1=false)->P (.done (.ret .none)) { s with heap:=h',toks:=tk }) :
  aH (aL prog w) A (ksk_tree a f false) P E s:=by
 have hz:(zs.map λz:Zn=>aD z.2).length<=aW:=bK (m:=128) (by rw [ag];lia);have sl:1000<=aW:=bK (m:=1000) (au _)
 obtain ⟨c1,g1⟩:∃ c,(s.heap.update a (bQ λ_=>(#[]:Array aj))).get? a=some (b8 "list" #[] c):=⟨_,mJ ho λ_=>#[]⟩
 unfold ksk_tree;refine aa (Jd ho rfl (aa (mj ho rfl (aa (LN g1 rfl (aa (Bw (aa (pe (cq ?_) (aO _))) hz)))) (by rw [aI];exact hz) (aO _))));have k2:∀ b o,(s.heap.update a (bQ λ_=>(#[]:Array aj))).get? b=some o->(((s.heap.update a (bQ λ_=>(#[]:Array aj))).push (b8 "tuple" (zs.map λz:Zn=>aD z.2).toArray 0)).push (b8 "list" #[] 0)).get? b=some o:=λb o e=>ar _ (ar _ e);have gk:(((s.heap.update a (bQ λ_=>(#[]:Array aj))).push (b8 "tuple" (zs.map λz:Zn=>aD z.2).toArray 0)).push (b8 "list" #[] 0)).get? ((s.heap.update a (bQ λ_=>(#[]:Array aj))).push (b8 "tuple" (zs.map λz:Zn=>aD z.2).toArray 0)).objs.size=some (b8 "list" #[] 0):=aK _ rfl;have kfr:∀ b o,(s.heap.update a (bQ λ_=>(#[]:Array aj))).get? b=some o->b≠((s.heap.update a (bQ λ_=>(#[]:Array aj))).push (b8 "tuple" (zs.map λz:Zn=>aD z.2).toArray 0)).objs.size:=λb o e=>aZ (aJ (ar (b8 "tuple" (zs.map λz:Zn=>aD z.2).toArray 0) e));have up:∀ b o,b≠a->s.heap.get? b=some o->(s.heap.update a (bQ λ_=>(#[]:Array aj))).get? b=some o:=λb o hb e=>(bp _ _ (Ne.symm hb)).trans e
 show aH (aL prog w) A (ksk_rest a f false (zs.map λz:Zn=>aD z.2).toArray _ (.ref ((s.heap.update a (bQ λ_=>(#[]:Array aj))).push (b8 "tuple" (zs.map λz:Zn=>aD z.2).toArray 0)).objs.size)) _ _ { s with heap:=((s.heap.update a (bQ λ_=>(#[]:Array aj))).push (b8 "tuple" (zs.map λz:Zn=>aD z.2).toArray 0)).push (b8 "list" #[] 0) }
 generalize ((s.heap.update a (bQ λ_=>(#[]:Array aj))).push (b8 "tuple" (zs.map λz:Zn=>aD z.2).toArray 0)).objs.size=kS at gk kfr;generalize ((s.heap.update a (bQ λ_=>(#[]:Array aj))).push (b8 "tuple" (zs.map λz:Zn=>aD z.2).toArray 0)).push (b8 "list" #[] 0)=h2 at k2 gk;have hak:a≠kS:=kfr a _ g1;have g2:=k2 _ _ g1;have kp2:Wu a s.heap h2:=λb o hb e=>k2 _ _ (up b o hb e);have nk:∀ b o,b≠a->s.heap.get? b=some o->b≠kS:=λb o hb e=>kfr b o (up b o hb e);generalize s.heap.update a (bQ λ_=>(#[]:Array aj))=hx at k2 kfr up g1;unfold ksk_rest;refine aa (jo ?_);rw [List.forIn_toArray]
 -- the keys
 have LW:∀ (r done:List Zn) (ks:List af) (e:Nat) (h:cK) (tk:Nat) (R:ax->Prop),done++r=zs->Wu a s.heap h->h.get? a=some (b8 "list" #[] c1)->h.get? kS=some (b8 "list" (ks.map aD).toArray e)->Paired (λ(z:Zn) (k:af)=>∃ o,h.get? k=some o/\KO z o/\k≠kS/\k≠a) done ks ->
   (∀ ks' e' h' tk',Wu a s.heap h'->h'.get? a=some (b8 "list" #[] c1)->h'.get? kS=some (b8 "list" (ks'.map aD).toArray e')->Paired (λ(z:Zn) (k:af)=>∃ o,h'.get? k=some o/\KO z o/\k≠kS/\k≠a) zs ks'->R { s with heap:=h',toks:=tk' }) ->
   aH (aL prog w) A (forIn (r.map λz:Zn=>aD z.2) PUnit.unit λx _=>do
    match ← (call f [x]).attempt with
    | .ok k=>iD (.ref kS) (·.push k);pure (jk PUnit.unit)
    | .error e =>
     FT "list.sort.key-raised"
     let made ← ED (.ref kS)
     iD (.ref kS) λ_=>#[]
     letGo made.toList.reverse [e]
     iD (.ref a) λ_=>(zs.map λz:Zn=>aD z.2).toArray;throw e) (λ_ s'=>R s') E { s with heap:=h,toks:=tk }:=by
  intro r
  induction r with
  | nil =>
   intro done ks e h tk R hr kp ga gS rel q;rw [oB] at hr;subst hr;rw [BS,Js]
   exact ak (q ks e h tk kp ga gS rel)
  | cons z r ih =>
   intro done ks e h tk R hr kp ga gS rel q;rw [aV,uZ]
   have hlen:ks.length<128:=by
    have:=congrArg fh hr;rw [bb,bI,← wg rel] at this;lia
   refine aa (aa (iq (dr (turn z (by rw [← hr];simp) h tk kp _ λh' tk' k o keep kn hk ko=>?_) (λ_ _ x=>x) λ_ _ x=>x.elim)))
   have kkS:k≠kS:=λq=>by rw [q,gS] at kn;cases kn
   have kka:k≠a:=λq=>by rw [q,ga] at kn;cases kn
   have gS':=keep _ _ gS
   have ea:(ks.map aD).toArray.push (.ref k)=((ks++[k]).map aD).toArray:=by simp
   obtain ⟨c2,g3⟩:∃ c2,(h'.update kS (bQ (·.push (.ref k)))).get? kS=some (b8 "list" ((ks++[k]).map aD).toArray c2):=⟨_,by rw [← ea];exact mJ gS' (·.push (.ref k))⟩
   have ot:∀ {b:af}{o:iF},b≠kS->h'.get? b=some o->(h'.update kS (bQ (·.push (.ref k)))).get? b=some o:=λhb e=>(bp _ _ (Ne.symm hb)).trans e;refine aa (mj gS' rfl (ak ?_) (by rw [aI,ag];lia) (by rw [iC,aI,ag];lia));refine ih (done++[z]) (ks++[k]) c2 _ tk' R (by rw [← hr];simp) (λb o hb e=>ot (nk b o hb e) (keep _ _ (kp b o hb e))) (ot hak (keep _ _ ga)) g3 ?_ q;refine An ⟨o,ot kkS hk,ko,kkS,kka⟩ (Paired.Py rel λz' k' ⟨o',e1,e2,e3,e4⟩=>⟨o',ot e3 (keep _ _ e1),e2,e3,e4⟩)
 refine aa (LW zs [] [] 0 h2 s.toks _ rfl kp2 g2 gk .nil λks e h tk kp ga gS rel=>?_);refine aa (Jd gS rfl ?_);have hkl:=wg rel
 -- the end
 have tail:∀ st:dG,i6 st=none->∀ zs':List Zn,(nT st).map (·.2)=(zs'.map λz:Zn=>aD z.2).toArray->zs'.Perm zs->zs'.Pairwise (λz w=>iu w.1 z.1=false)->aH (aL prog w) A (ksk_tail a false c1 (.ref kS) st) P E { s with heap:=h,toks:=tk }:=λst hf zs' eo hp hs=>by
  obtain ⟨c3,g3⟩:∃ c3,(h.update kS (bQ λ_=>(#[]:Array aj))).get? kS=some (b8 "list" #[] c3):=⟨_,mJ gS λ_=>#[]⟩
  have ga':(h.update kS (bQ λ_=>(#[]:Array aj))).get? a=some (b8 "list" #[] c1):=(bp _ _ (Ne.symm hak)).trans ga
  obtain ⟨c4,g4⟩:∃ c4,((h.update kS (bQ λ_=>(#[]:Array aj))).update a (bQ λ_=>(zs'.map λz:Zn=>aD z.2).toArray)).get? a=some (b8 "list" (zs'.map λz:Zn=>aD z.2).toArray c4):=⟨_,mJ ga' λ_=>(zs'.map λz:Zn=>aD z.2).toArray⟩
  unfold ksk_tail
  try dsimp only
  rw [eo];simp only [bY,if_false];refine aa (mj gS rfl (aa (LL (aa (LN ga' rfl (aa (mj ga' rfl ?_ (aO _) (by rw [aI,ag,hp.length_eq];lia))))))) (by rw [aI,ag];lia) (aO _));rw [hf];simp only [bne_self_eq_false,bY,if_false];exact ak (fin _ tk c4 zs' (λb o hb e=>(bp _ _ (Ne.symm hb)).trans ((bp _ _ (Ne.symm (nk b o hb e))).trans (kp b o hb e))) g4 hp hs)
 have zip2:((ks.map aD).toArray.zip (zs.map λz:Zn=>aD z.2).toArray).map (·.2)=(zs.map λz:Zn=>aD z.2).toArray:=by
  apply km.mp
  simp;exact Xe (by simp [hkl])
 unfold ksk_end;simp only [bY,if_false]
 by_cases h2':zs.length<2
 .rw [if_pos (by rw [aI,ag];exact h2'),if_pos (by rw [aI,ag];exact h2')];refine aa (ak ?_);rw [VZ];refine aa (ak (tail _ rfl zs zip2 (.refl _) ?_))
  match zs,h2' with
  | [],_=>exact .nil
  | [z],_=>exact rZ _ _
  | z::w::r,h2=>simp at h2;lia
 .rw [if_neg (by rw [aI,ag];exact h2'),if_neg (by rw [aI,ag];exact h2')]
  have kt:∀ {zs:List Zn}{ks:List af},Paired (λ(z:Zn) (k:af)=>∃ o,h.get? k=some o/\KO z o/\k≠kS/\k≠a) zs ks->∃ fs,KatTups h (ks.map aD) fs/\fs.length=zs.length/\∀ v∈fs,∃ i t,v=fz i t:=by
   intro zs ks rel
   induction rel with
   | nil=>exact ⟨[],.nil,rfl,λ_ h=>nomatch h⟩
   | cons r _ ih =>
    obtain ⟨fs,f1,f2,f3⟩:=ih;obtain ⟨o,e1,e2,_⟩:=r;obtain ⟨cc,i,t,xs,n,d,d0⟩:=hkind _ o e2;refine ⟨.int i t::fs,Y5 e1 cc d d0 f1,by simp [f2],λv hv=>?_⟩
    rcases aq.mp hv with rfl|hv
    .exact ⟨_,t,rfl⟩
    .exact f3 v hv
  obtain ⟨fs,f1,f2,f3⟩:=kt rel;refine aa (kat_kind (T:=.type "int") f1 (by lia) (λv hv=>by obtain ⟨i,t,rfl⟩:=f3 v hv;exact Looks.now) rfl ?_);rw [show (fc "int" != fc "tuple")=true by decide]
  have mz:∀ x∈((ks.map aD).toArray.zip (zs.map λz:Zn=>aD z.2).toArray).toList,∃ z∈zs,∃ k o,x=(aD k,aD z.2)/\h.get? k=some o/\KO z o:=λx hx=>by
   rw [Ew] at hx;obtain ⟨i,hi⟩:=bC.mp hx;obtain ⟨x1,x2⟩:=x;rw [qx] at hi;obtain ⟨q1,q2⟩:=hi;simp only [aB] at q1 q2;obtain ⟨z,z1,z2⟩:=bo.mp q2;obtain ⟨k,k1,k2⟩:=bo.mp q1;obtain ⟨k',k3,o,e1,e2,_⟩:=Mn rel i z z1;rw [k1] at k3;cases k3;exact ⟨z,aN z1,k,o,by rw [← k2,← z2],e1,e2⟩
  refine aa (dr (Sy.w_runs (prog:=prog) (w:=w) (A:=A) (E:=E) (s:={ s with heap:=h,toks:=tk }) (a₀:=(ks.map aD).toArray.zip (zs.map λz:Zn=>aD z.2).toArray) (D:=λx=>∃ z∈zs,∃ k o,x=(aD k,aD z.2)/\h.get? k=some o/\KO z o) (r:=λx=>Ws zs x.2) (κ:=VX true)
   (Q:=λ_ st'=>∃ ys,nT st'=ys/\i6 st'=none/\ys.Perm ((ks.map aD).toArray.zip (zs.map λz:Zn=>aD z.2).toArray)/\Sy.St (λx=>Ws zs x.2) ys 0 ys.size) ?_ mz (by simp [hkl];lia) (by simp [hkl];lia) λys st' a1 a2 a3 a4=>⟨ys,a1,a2,a3,a4⟩) ?_ λ_ _ x=>x)
  .rintro x y ⟨z,hz1,k,o,rfl,e1,e2⟩ ⟨z',hz2,k',o',rfl,e3,e4⟩ Q hQ;refine hlt z hz1 z' hz2 k k' o o' h tk kp e1 e3 e2 e4 Q ?_;have hQ:Q (decide (Ws zs (.ref z.2)<Ws zs (.ref z'.2))) _:=hQ;rw [sI one hz1,sI one hz2,xp (bg hz1)] at hQ;exact hQ
  .rintro ⟨⟨⟩,st'⟩ s' ⟨rfl,ys,e,hf,hp,hs⟩;have hp':=(fu.mp hp).map (·.2);rw [← nj,← nj,zip2] at hp';obtain ⟨zs',p',e'⟩:=Sy.perm_map hp'.symm zs rfl;rw [nj] at e';refine tail st' hf zs' (by rw [e];apply km.mp;simpa using e') p' ?_;have hs':=(iK (f:=λx:aT=>x.2) (R:=λx y=>Ws zs x<=Ws zs y)).mpr (Sy.pw_of hs);rw [show List.map (λx:aT=>x.2) ys.toList=zs'.map λz=>aD z.2 from e'] at hs';refine (iK.mp hs').imp_of_mem λ{z w} hz1 hw z2=>?_;have a1:=p'.mem_iff.mp hz1;have a2:=p'.mem_iff.mp hw
   cases e:iu w.1 z.1 with
   | false=>rfl
   | true =>
    rw [← xp (ts:=zs.map (·.1)) (bg a2),decide_eq_true_iff] at e;rw [sI one a1,sI one a2] at z2;lia
end
def Mr (Pt:af) (pos:ue) (qual:bB) (j:Nat) (tx:TA):TE:=λZ H Q=>tx Z H λv H1 =>
 ∃ (p d:af) (zs:List Zn) (Ql:List (List iL×V)),v=[.ref p]/\H1 p=some (.lst (zs.map oG))/\Z[j]?=some (some (.ref d))/\H1 d=some (.dT Ql)/\(∀ z∈zs,∃ w x y:Int,z.1=[w,x,y]/\H1 z.2=some (.tup [.int x,.int y])/\iR Ql [eh x,eh y]=some (.int w))/\zs.length<128/\rP Pt pos qual H1 /\
  ∀ (l:af) (zs':List Zn) (H2:Hp),H2 l=none->qk Pt H1 H2->rP Pt pos qual H2->zs'.Perm zs->zs'.Pairwise (λz w=>iu w.1 z.1=false)->Q (.ref l) (upd H2 l (.lst (zs'.map oG)))
def xt {l:af}{vs:List aj}{Q:List aj->ax->Prop}(hl:s.heap.IsList l vs.toArray) (hn:vs.length<=aW)
  (q:∀ h' tk,(∀ b o,s.heap.get? b=some o->h'.get? b=some o)->Q vs { s with heap:=h',toks:=tk }):aH (aL prog w) A (VU (.ref l)) Q E s:=by
 refine collect_list hl (q _ _ λb o e=>?_) (by simpa using hn);have hlt:b<s.heap.objs.size:=aJ e;rw [Heap.get?_update_ne _ _ _ _ (aZ hlt),Heap.get?_push_ne _ _ _ (aZ hlt)];exact e
section
variable {X:Cx}{c Pt:af}{e:Expr}{tx:TA}{x y:bB}{j:Nat}{params:rJ}{scope:rQ}{p0 p1 p2 p3 p4 p5 lpos kpos pos:ue}{x1:Nat}
theorem RZ (hcalm:X.calm=true) (hcode:X.env.code=.ref c) (C0:ik X.base c Pt) (B:X.base.BuiltinsAt X.mg Pt) (hroom:X.A.depth<rW) (hun:X.A.units+128<ip)
  (hgl:Gl X "sorted") (hm:X.mg "sorted"=none) (hx:PA X [e] tx) (hN:X.N[j]?=some y) (hky:X.env.kindOf y=some .cell)
  (hs:gM pos (bE [e] X.env)=(false,fo e X.env)::gM pos (bE [] X.env):=by rfl) (hpl:(gM pos (bE [e] X.env)).any (·.1)=false:=by rfl)
  (hdef:defaultsOf params X.env=([],[]):=by rfl)
  (hbind:∀ clos pm lT ctv v,Bt (kla_fn "<lambda>" (X.env.qual++"<lambda>") params (.Tuple [.Subscript (.Name y p1) (.Name x p2) p3,.Name x p4] x1 p5) scope clos pm lT ctv) ⟨[v],[]⟩=pure [(x,v)]:=by intros;rfl)
  (hsx:scope.names.lookup x=some .local:=by rfl) (hsy:scope.names.lookup y=some .free:=by rfl) (hk:scope.kind=.function:=by rfl) (hco:scope.isCoroutine=false:=by rfl) (hgen:scope.isGenerator=false:=by rfl) (hcell:∀ z∈scope.names,z.2≠.cell:=by decide +kernel)
  (hfr:(scope.names.all λy=>y.2 != .free || X.env.kindOf y.1 == some .cell || X.env.kindOf y.1 == some .free)=true:=by rfl)
  (hdx:(x == ("__debug__":bB))=false:=by decide) (hdy:(y == ("__debug__":bB))=false:=by decide) (hdc:(y == ("__classdict__":bB))=false:=by decide) :
  PE X (.Call (.Name "sorted" p0) [e] [⟨some "key",.Lambda params (.Tuple [.Subscript (.Name y p1) (.Name x p2) p3,.Name x p4] x1 p5) scope lpos,kpos⟩] pos) (Mr Pt lpos (X.env.qual++"<lambda>") j tx):=by
 intro pins s Z H Q I h;refine eC (nY I hgl hm (u:=.builtin "sorted") BootT.Ct ?_);refine callWith_kw ?_ hs hpl;refine gp (hx pos pins s Z H _ I h) λus s1 ⟨vs,H1,I1,rv,q⟩=>?_;obtain ⟨p,d,zs,Ql,rfl,hp,hj,hd,hkv,h64,hT,k⟩:=q;obtain ⟨u,rfl,ru⟩:=vals1 rv;cases ru
 show aH _ X.A (evalAll [do let v ← fo _ X.env;uz pos;pure v]) _ _ s1
 refine wpAny_evalAll_cons (aa (JR I1 hcode C0 B hdef (sA I1 hfr) hT λf c' ctv h' tk H2 I2 hf hrec S2 T2 hk2=>aa (uV (ak (wpAny_evalAll_nil ?_)))));obtain ⟨ps,hPt⟩:=hT.tbl;have hp2:=S2 p _ (λz=>by rw [z,hPt] at hp;cases hp) hp;have hd2:=S2 d _ (λz=>by rw [z,hPt] at hd;cases hd) hd
 have k2:∀ z∈zs,∃ w x y:Int,z.1=[w,x,y]/\H2 z.2=some (.tup [.int x,.int y])/\iR Ql [eh x,eh y]=some (.int w):=λz hz=>by
  obtain ⟨w,x,y,e1,e2,e3⟩:=hkv z hz;exact ⟨w,x,y,e1,S2 _ _ (λz=>by rw [z,hPt] at e2;cases e2) e2,e3⟩
 obtain ⟨its,n1,rp,op,zp⟩:=I2.lst hp2;have hits:=xq rp;subst hits;have hh:X.A.handled=none:=I2.ok.hd hcalm;obtain ⟨my,hny,hlk⟩:=I2.loc;obtain ⟨uy,ruy,lky⟩:=hlk j y (.ref d) hN hj (.inr (.inl hky));cases ruy
 obtain ⟨cl,hcl,hcv⟩:∃ cl,X.env.cells.lookup y=some cl/\h'.IsCell cl (some (.ref d)):=by
  rcases lky with ⟨z,_⟩|⟨_,cl,h1,h2⟩
  .rw [hky] at z;cases z
  .exact ⟨cl,h1,h2⟩
 have hclo:(oF X.env.cells scope.names []).lookup y=some cl:=by
  obtain ⟨d,hd⟩:=xi (cells:=X.env.cells) (x:=y) scope.names [] (.inl (mem_of_lookup hsy));have hd':=(kF _ _ (sA I1 hfr) hd).resolve_right (by simp);rw [hcl] at hd';rw [hd,← hd']
 have un2:X.A.in1.in1.units+3+64<ip:=by show X.A.units+1+1+3+64<_;lia
 have one:∀ z∈zs,∀ z'∈zs,z.2=z'.2->z.1=z'.1:=λz hz z' hz' e=>by
  obtain ⟨w1,x1,y1,e1,e2,e3⟩:=k2 z hz;obtain ⟨w2,x2,y2,f1,f2,f3⟩:=k2 z' hz';rw [e,f2] at e2;cases e2;rw [e3] at f3;cases f3;rw [e1,f1]
 have turn:∀ z∈zs,∀ (h:cK) (tk':Nat),(∀ b o,h'.get? b=some o->h.get? b=some o)->∀ R:aj->ax->Prop,
   (∀ h3 tk3 k o,(∀ b o,h.get? b=some o->h3.get? b=some o)->h.get? k=none->h3.get? k=some o->(∃ t,o=J9 z t)->R (.ref k) { s1 with heap:=h3,toks:=tk3 })->aH (aL X.prog X.w) X.A.in1.in1 (call (.ref f) [.ref z.2]) R (λ_ _=>False) { s1 with heap:=h,toks:=tk' }:=by
  intro z hz h tk' kk R hR;obtain ⟨ww,xx,yy,ez,hzt,hzw⟩:=k2 z hz;have J:Inv X pins Z H2 { s1 with heap:=h,toks:=tk' }:=I2.kept kk;refine Gz (s:={ s1 with heap:=h,toks:=tk' }) (by exact hroom) (kk f _ hf) ?_ (I2.mod.nolimit.keeps λb o e=>kk b o (I2.bk b o e)) (hbind _ _ _ _ _) hsx hk hco hgen hcell λenv h3 tk3 E' q1 q2 q3 hns hk3=>?_
  .obtain ⟨c2,o2,vs2,t2',e2,h2,d2⟩:=hrec;cases e2;exact ⟨c',o2,vs2,t2',rfl,kk _ _ h2,d2⟩
  .refine RK (s:={ s1 with heap:=h,toks:=tk' }) (H:=H2) (d:=d) (cl:=cl) (k:=[eh xx,eh yy]) (J.eJ.kept hk3) (by rw [q1];exact hk) (by rw [q1];exact hsx) (by rw [q1];exact hsy) hns (by rw [q2];exact hclo) ?_ hd2 hzt hzw un2 (λt tk4=>?_) hdx hdy hdc
   .obtain ⟨o,e,d⟩:=hcv;exact ⟨o,hk3 _ _ (kk _ _ e),d⟩
   .refine hR _ tk4 _ _ (λb o e=>ar _ (hk3 b o e)) ?_ (aK _ rfl) ⟨t,by unfold J9;rw [ez];rfl⟩
    cases q:h.get? h3.objs.size with
    | none=>rfl
    | some o=>exact absurd (aJ (hk3 _ _ q)) (fA _)
 have hzl:(zs.map λz=>aD z.2).length<=aW:=bK (m:=128) (by rw [ag];lia);refine V0 LO Jo Jp (ksk_s1 _ _) ?_;unfold ij.«sorted»;refine aa (m:=Qa "sorted" 1 1 _) (ak (aa (xt (s:={ s1 with heap:=h',toks:=tk }) ⟨_,op,rfl,n1,rfl⟩ hzl λh3 tk3 keep3=>?_)));refine aa (pe ?_ hzl);have g4:(h3.push (b8 "list" (zs.map λz=>aD z.2).toArray 0)).get? h3.objs.size=some (b8 "list" (zs.map λz=>aD z.2).toArray 0):=aK _ rfl;have hb:∀ b o,h'.get? b=some o->b≠h3.objs.size:=λb o e=>aZ (aJ (keep3 b o e));have k4:∀ {h:cK},Wu h3.objs.size (h3.push (b8 "list" (zs.map λz=>aD z.2).toArray 0)) h->∀ b o,h'.get? b=some o->h.get? b=some o:=λk b o e=>k b o (hb b o e) (ar _ (keep3 b o e))
 have gD:h'.get? h3.objs.size=none:=by
  cases q:h'.get? h3.objs.size with
  | none=>rfl
  | some o=>exact absurd rfl (hb _ o q)
 show aH (aL X.prog X.w) X.A.in1 (do let _ ← jS [aD h3.objs.size] (call (.builtin "list.sort") [aD h3.objs.size] _);ret (aD h3.objs.size)) _ _ { s1 with heap:=h3.push (b8 "list" (zs.map λz=>aD z.2).toArray 0),toks:=tk3 }
 refine aa (cq (Zu BA ⟨_,g4,rfl⟩ yW ?_ (ksk_l1 _ _)))
 show aH (aL X.prog X.w) X.A.in1.in1 (ij.«list.sort» ⟨[.ref h3.objs.size],[(fB "key",.ref f)]⟩) _ _ _
 rw [ksk_t1]
 refine Kb (s:={ s1 with heap:=h3.push (b8 "list" (zs.map λz=>aD z.2).toArray 0),toks:=tk3 }) (KO:=λz o=>∃ t,o=J9 z t) g4 h64 one (λz hz h tk' kp R hR=>turn z hz h tk' (k4 kp) R hR) ?_ ?_ λh7 tk7 c7 zs' kp g7 hperm hsort=>⟨_,rfl,ak ⟨_,rfl,?_⟩⟩
 .rintro z o ⟨t,rfl⟩;exact ⟨rfl,_,t,_,0,rfl,rfl⟩
 .rintro z hz z' hz' k k' o o' h tk' kp g g' ⟨t,rfl⟩ ⟨t',rfl⟩ Q' hQ
  have tie:∀ z∈zs,∃ v x y t u,z.1=[v,x,y]/\qw h z.2 #[.int x t,.int y u]:=λz hz=>by
   obtain ⟨ww,xx,yy,ez,hzt,hzw⟩:=k2 z hz;obtain ⟨ts,r,it,_⟩:=I2.tuple (.of hzt)
   cases r with
   | cons h1 r =>
    cases r with
    | cons h2 r =>
     cases r;obtain ⟨t,rfl⟩:=h1;obtain ⟨u,rfl⟩:=h2;obtain ⟨o,e,rest⟩:=it;exact ⟨ww,xx,yy,t,u,ez,o,k4 kp _ o e,rest⟩
  obtain ⟨v1,x1,y1,ta,tb,z1,b1⟩:=tie z hz;obtain ⟨v2,x2,y2,tc,td,z2,b2⟩:=tie z' hz';rw [z1,z2] at hQ;refine U7 (s:={ s1 with heap:=h,toks:=tk' }) (w1:=v1) (w2:=v2) ⟨_,g,rfl,0,by unfold J9;rw [z1];rfl⟩ ⟨_,g',rfl,0,by unfold J9;rw [z2];rfl⟩ b1 b2 (by show X.A.units+1+1<_;lia) hQ
 .obtain ⟨hn,I3⟩:=I2.Tx (t':=tk7) (o:=.lst (zs'.map oG)) (k4 kp) gD ⟨by rw [ag,hperm.length_eq];exact bK (m:=128) (by lia),_,c7,qH zs',g7⟩;exact ⟨.ref h3.objs.size,_,I3,rfl,k h3.objs.size zs' H2 hn S2 T2 hperm hsort⟩
end
end L2
namespace L2
variable {K:ae}{ta:TE}{Z:St}{H:Hp}{Q:VK}{C:af}{sp:Sp}{x:bB}
def kI {f:bB}(h:ta Z H λx H1=>∃ a C dx fs v,x=.ref a/\H1 a=some (.ins C dx fs)/\EA K C/\dI K C f/\fs.lookup f=some v/\Q v H1):dO K ta f Z H Q:=h
def zf {m:bB}{dvs:List V}{E:XK}{t:TA}(h:ta Z H λx H1=>∃ a dx fs,x=.ref a/\H1 a=some (.ins C dx fs)/\fs.lookup m=none/\t Z H1 λvs H2=>sp (x::(vs++dvs)) H2 Q E):dZ C m sp dvs E ta t Z H Q:=h
section
variable {mg:bB->Option aj}{q:bB}{st:dF}{ps:List bB}{CX:JE}{k:Nat}
def rG.lC (d:rG K mg x st ps) (P:bA) (w:cg) (base:cK) (h:jr P w K mg base CX k d.f d.d ps sp):Qj P w K mg base CX k x ps sp:=⟨d.f,d.d,h,d.m,d.F.kp,d.b⟩
def lJ.lC (d:lJ K C x q st ps) (P:bA) (w:cg) (base:cK) (h:jr P w K mg base CX k d.f d.d ps sp):IP P w K mg base CX k C x ps sp:=⟨d.f,d.d,h,⟨d.a,d.i,d.F.kp⟩,d.b⟩
def lJ.YJ (d:lJ K C "__init__" q st ps) (P:bA) (w:cg) (base:cK) (mk:kM K C=true) (kc:eL K (.ref C)=true) (h:jr P w K mg base CX k d.f d.d ps sp):CalI P w K mg base CX k C ps sp:=⟨d.f,d.d,h,⟨mk,d.a,d.i,kc⟩,d.b⟩
def Ez.oj {P:bA}{w:cg}{base:cK}{f:af}{fd:fN}{N:List bB}{t:TS}(F:Ez K x q st f fd) (S:bH N ps (aS st)) (len:∀ vs H Q E,sp vs H Q E->vs.length=ps.length) (run:∀ vs H Q E,sp vs H Q E->t { nx:=λ_ H'=>Q .non H',rt:=Q } (start N vs) H)
  (b:∀ (lT:aj) (A:cL) (outer:List yJ) (s:ax) (H:Hp) (E:XK),gZ k (A.deeper (lM q (aS st) s.heap.objs.size f lT))->IT (lH wM P w K mg base N q (aS st) f lT A outer s H E).W4 (jM st) t):jr P w K mg base wM (k+1) f fd ps sp :=
 F.ok S len λlT A outer s H vs Q E hr h=>⟨t,b lT A outer s H E hr,run vs H Q E h⟩
end
section
variable {X:Cx}{pos:ue}{i:Nat}
def nu {e:Expr}{te:TE}{pos':ue}(hN:X.N.Nodup) (he:PE X e te) (hi:X.N[i]?=some x:=by rfl) (hx:Loc X.env.scope x:=by exact .inl rfl) (hs:BO e (some (.Name x pos')) pos.line X.env=pure false:=by rfl) (hf:X.fn x=true\/X.env.scope.names.lookup x=some .local:=by first|exact .inl rfl|exact .inr rfl|assumption):PS X (.Assign [.Name x pos'] e pos) (dv te (bx i)):=G4 hN hi hx he hs hf
def ib (hN:X.N.Nodup) (hi:X.N[i]?=some x:=by rfl) (hx:Loc X.env.scope x:=by exact .inl rfl) (hf:X.fn x=true\/X.env.scope.names.lookup x=some .local:=by first|exact .inl rfl|exact .inr rfl|assumption):PG X (.Name x pos) (bx i):=Ut hN hi hx hf
end
end L2
namespace L2
open PySem.Calls PySem.W
section
variable {prog:bA}{w:cg}{A:cL}{env:yJ}{s:ax}{h:cK}{a b:Expr}{i j:Int}{pos:ue}
def Oq.sub (ha:Oq prog w A env s h a i) (hb:Oq prog w A env s h b j):Oq prog w A env s h (.BinOp a .Sub b pos) (i-j):=ha.bin hb λ_ _ _ _ _ q=>sub_int (q _ _)
end
def Kc (z:Zn) (t u:VH):iF:=b8 "tuple" #[.int (z.1.headD 0) t,.int (z.1.tail.headD 0) u] 0
def Ms (Pt:af) (pos:ue) (qual:bB) (tx:TA):TE:=λZ H Q=>tx Z H λv H1 =>
 ∃ (p:af) (zs:List Zn),v=[.ref p]/\H1 p=some (.lst (zs.map oG))/\(∀ z∈zs,∃ x y:Int,z.1=[y-x,x]/\H1 z.2=some (.tup [.int x,.int y]))/\zs.length<128/\rP Pt pos qual H1 /\
  ∀ (l:af) (zs':List Zn) (H2:Hp),H2 l=none->qk Pt H1 H2->rP Pt pos qual H2->zs'.Perm zs->zs'.Pairwise (λz w=>iu w.1 z.1=false)->Q (.ref l) (upd H2 l (.lst (zs'.map oG)))
section
variable {X:Cx}{c Pt:af}{e:Expr}{tx:TA}{x:bB}{params:rJ}{scope:rQ}{p0 p1 p2 p3 p4 p5 p6 p7 p8 p9 p10 p11 lpos kpos pos:ue}{x1 n1 n2 n3:Nat}
theorem R3 (hcalm:X.calm=true) (hcode:X.env.code=.ref c) (C0:ik X.base c Pt) (B:X.base.BuiltinsAt X.mg Pt) (hroom:X.A.depth<rW) (hun:X.A.units+128<ip)
  (hgl:Gl X "sorted") (hm:X.mg "sorted"=none) (hx:PA X [e] tx)
  (hs:gM pos (bE [e] X.env)=(false,fo e X.env)::gM pos (bE [] X.env):=by rfl) (hpl:(gM pos (bE [e] X.env)).any (·.1)=false:=by rfl)
  (hdef:defaultsOf params X.env=([],[]):=by rfl)
  (hbind:∀ clos pm lT ctv v,Bt (kla_fn "<lambda>" (X.env.qual++"<lambda>") params (.Tuple [.BinOp (.Subscript (.Name x p1) (.Constant (.int 1) n1 p2) p3) .Sub (.Subscript (.Name x p4) (.Constant (.int 0) n2 p5) p6) p7,.Subscript (.Name x p8) (.Constant (.int 0) n3 p9) p10] x1 p11) scope clos pm lT ctv) ⟨[v],[]⟩=pure [(x,v)]:=by intros;rfl)
  (hsx:scope.names.lookup x=some .local:=by rfl) (hk:scope.kind=.function:=by rfl) (hco:scope.isCoroutine=false:=by rfl) (hgen:scope.isGenerator=false:=by rfl) (hcell:∀ z∈scope.names,z.2≠.cell:=by decide +kernel)
  (hfr:(scope.names.all λy=>y.2 != .free || X.env.kindOf y.1 == some .cell || X.env.kindOf y.1 == some .free)=true:=by rfl)
  (hdx:(x == ("__debug__":bB))=false:=by decide) :
  PE X (.Call (.Name "sorted" p0) [e] [⟨some "key",.Lambda params (.Tuple [.BinOp (.Subscript (.Name x p1) (.Constant (.int 1) n1 p2) p3) .Sub (.Subscript (.Name x p4) (.Constant (.int 0) n2 p5) p6) p7,.Subscript (.Name x p8) (.Constant (.int 0) n3 p9) p10] x1 p11) scope lpos,kpos⟩] pos) (Ms Pt lpos (X.env.qual++"<lambda>") tx):=by
 intro pins s Z H Q I h;refine eC (nY I hgl hm (u:=.builtin "sorted") BootT.Ct ?_);refine callWith_kw ?_ hs hpl;refine gp (hx pos pins s Z H _ I h) λus s1 ⟨vs,H1,I1,rv,q⟩=>?_;obtain ⟨p,zs,rfl,hp,hkv,h64,hT,k⟩:=q;obtain ⟨u,rfl,ru⟩:=vals1 rv;cases ru
 show aH _ X.A (evalAll [do let v ← fo _ X.env;uz pos;pure v]) _ _ s1
 refine wpAny_evalAll_cons (aa (JR I1 hcode C0 B hdef (sA I1 hfr) hT λf c' ctv h' tk H2 I2 hf hrec S2 T2 hk2=>aa (uV (ak (wpAny_evalAll_nil ?_)))));obtain ⟨ps,hPt⟩:=hT.tbl;have hp2:=S2 p _ (λz=>by rw [z,hPt] at hp;cases hp) hp
 have k2:∀ z∈zs,∃ x y:Int,z.1=[y-x,x]/\H2 z.2=some (.tup [.int x,.int y]):=λz hz=>by
  obtain ⟨x,y,e1,e2⟩:=hkv z hz;exact ⟨x,y,e1,S2 _ _ (λz=>by rw [z,hPt] at e2;cases e2) e2⟩
 obtain ⟨its,n1,rp,op,zp⟩:=I2.lst hp2;have hits:=xq rp;subst hits;have hh:X.A.handled=none:=I2.ok.hd hcalm
 have one:∀ z∈zs,∀ z'∈zs,z.2=z'.2->z.1=z'.1:=λz hz z' hz' e=>by
  obtain ⟨x1,y1,e1,e2⟩:=k2 z hz;obtain ⟨x2,y2,f1,f2⟩:=k2 z' hz';rw [e,f2] at e2;cases e2;rw [e1,f1]
 have turn:∀ z∈zs,∀ (h:cK) (tk':Nat),(∀ b o,h'.get? b=some o->h.get? b=some o)->∀ R:aj->ax->Prop,
   (∀ h3 tk3 k o,(∀ b o,h.get? b=some o->h3.get? b=some o)->h.get? k=none->h3.get? k=some o->(∃ t u,o=Kc z t u)->R (.ref k) { s1 with heap:=h3,toks:=tk3 })->aH (aL X.prog X.w) X.A.in1.in1 (call (.ref f) [.ref z.2]) R (λ_ _=>False) { s1 with heap:=h,toks:=tk' }:=by
  intro z hz h tk' kk R hR;obtain ⟨xx,yy,ez,hzt⟩:=k2 z hz;have J:Inv X pins Z H2 { s1 with heap:=h,toks:=tk' }:=I2.kept kk;refine Gz (s:={ s1 with heap:=h,toks:=tk' }) (by exact hroom) (kk f _ hf) ?_ (I2.mod.nolimit.keeps λb o e=>kk b o (I2.bk b o e)) (hbind _ _ _ _ _) hsx hk hco hgen hcell λenv h3 tk3 E' q1 q2 q3 hns hk3=>?_
  .obtain ⟨c2,o2,vs2,t2',e2,h2,d2⟩:=hrec;cases e2;exact ⟨c',o2,vs2,t2',rfl,kk _ _ h2,d2⟩
  .obtain ⟨ts,r,it,_⟩:=J.tuple (.of hzt)
   cases r with
   | cons h1 r =>
    cases r with
    | cons h2 r =>
     cases r;obtain ⟨t1,rfl⟩:=h1;obtain ⟨t2,rfl⟩:=h2
     have it3:qw h3 z.2 #[.int xx t1,.int yy t2]:=by
      obtain ⟨o,e,rest⟩:=it;exact ⟨o,hk3 _ _ e,rest⟩
     have sz:(#[fz xx t1,fz yy t2]).size<=aW:=bK (m:=2) (au 2);have a0:∀ {A':cL}{pa pb pc n},Oq X.prog X.w A' env { s1 with heap:=h,toks:=tk' } h3 (.Subscript (.Name x pa) (.Constant (.int (0:Nat)) n pb) pc) xx:=λ{A' pa pb pc n}=>Oq.WY (k:=0) (by rw [q1];exact hk) (by rw [q1];exact hsx) hns it3 rfl sz hdx;have a1:∀ {A':cL}{pa pb pc n},Oq X.prog X.w A' env { s1 with heap:=h,toks:=tk' } h3 (.Subscript (.Name x pa) (.Constant (.int (1:Nat)) n pb) pc) yy:=λ{A' pa pb pc n}=>Oq.WY (k:=1) (by rw [q1];exact hk) (by rw [q1];exact hsx) hns it3 rfl sz hdx;refine Eu (hW ((a1.sub a0) _ _ _ λtk4 t=>hW (a0 _ _ _ λtk5 u=>mi ⟨bK (m:=2) (au 2),?_⟩)));refine hR _ _ _ _ (λb o e=>ar _ (hk3 b o e)) ?_ (aK _ rfl) ⟨t,u,by unfold Kc;rw [ez];rfl⟩
     cases q:h.get? h3.objs.size with
     | none=>rfl
     | some o=>exact absurd (aJ (hk3 _ _ q)) (fA _)
 have hzl:(zs.map λz=>aD z.2).length<=aW:=bK (m:=128) (by rw [ag];lia);refine V0 LO Jo Jp (ksk_s1 _ _) ?_;unfold ij.«sorted»;refine aa (m:=Qa "sorted" 1 1 _) (ak (aa (xt (s:={ s1 with heap:=h',toks:=tk }) ⟨_,op,rfl,n1,rfl⟩ hzl λh3 tk3 keep3=>?_)));refine aa (pe ?_ hzl);have g4:(h3.push (b8 "list" (zs.map λz=>aD z.2).toArray 0)).get? h3.objs.size=some (b8 "list" (zs.map λz=>aD z.2).toArray 0):=aK _ rfl;have hb:∀ b o,h'.get? b=some o->b≠h3.objs.size:=λb o e=>aZ (aJ (keep3 b o e));have k4:∀ {h:cK},Wu h3.objs.size (h3.push (b8 "list" (zs.map λz=>aD z.2).toArray 0)) h->∀ b o,h'.get? b=some o->h.get? b=some o:=λk b o e=>k b o (hb b o e) (ar _ (keep3 b o e))
 have gD:h'.get? h3.objs.size=none:=by
  cases q:h'.get? h3.objs.size with
  | none=>rfl
  | some o=>exact absurd rfl (hb _ o q)
 show aH (aL X.prog X.w) X.A.in1 (do let _ ← jS [aD h3.objs.size] (call (.builtin "list.sort") [aD h3.objs.size] _);ret (aD h3.objs.size)) _ _ { s1 with heap:=h3.push (b8 "list" (zs.map λz=>aD z.2).toArray 0),toks:=tk3 }
 refine aa (cq (Zu BA ⟨_,g4,rfl⟩ yW ?_ (ksk_l1 _ _)))
 show aH (aL X.prog X.w) X.A.in1.in1 (ij.«list.sort» ⟨[.ref h3.objs.size],[(fB "key",.ref f)]⟩) _ _ _
 rw [ksk_t1]
 refine Kb (s:={ s1 with heap:=h3.push (b8 "list" (zs.map λz=>aD z.2).toArray 0),toks:=tk3 }) (KO:=λz o=>∃ t u,o=Kc z t u) g4 h64 one (λz hz h tk' kp R hR=>turn z hz h tk' (k4 kp) R hR) ?_ ?_ λh7 tk7 c7 zs' kp g7 hperm hsort=>⟨_,rfl,ak ⟨_,rfl,?_⟩⟩
 .rintro z o ⟨t,u,rfl⟩;exact ⟨rfl,_,t,_,0,rfl,rfl⟩
 .rintro z hz z' hz' k k' o o' h tk' kp g g' ⟨t,u,rfl⟩ ⟨t',u',rfl⟩ Q' hQ;obtain ⟨x1,y1,z1,_⟩:=k2 z hz;obtain ⟨x2,y2,z2,_⟩:=k2 z' hz';rw [z1,z2] at hQ;exact NU (s:={ s1 with heap:=h,toks:=tk' }) (m:=[false]) (.int _ (.int _ .nil)) (.int _ (.int _ .nil)) (us:=[.int (y1-x1) t,.int x1 u]) (ws:=[.int (y2-x2) t',.int x2 u']) (.cons ⟨_,rfl⟩ (.cons ⟨_,rfl⟩ .nil)) (.cons ⟨_,rfl⟩ (.cons ⟨_,rfl⟩ .nil)) ⟨_,g,rfl,0,by unfold Kc;rw [z1];rfl⟩ ⟨_,g',rfl,0,by unfold Kc;rw [z2];rfl⟩ hQ
 .obtain ⟨hn,I3⟩:=I2.Tx (t':=tk7) (o:=.lst (zs'.map oG)) (k4 kp) gD ⟨by rw [ag,hperm.length_eq];exact bK (m:=128) (by lia),_,c7,qH zs',g7⟩;exact ⟨.ref h3.objs.size,_,I3,rfl,k h3.objs.size zs' H2 hn S2 T2 hperm hsort⟩
end
end L2
namespace L2
open PySem PySem.Spec PySem.Calls PyProof.Rows PySem.W PySem.SeqAt
open PySem.AutoSeq1 (wpAny_loadPart')
section
variable {X:Cx}
end
end L2
namespace L2
open PySem.Calls PySem.W
def R5 (K:ae):R2:=λx y H Q=>JO K x y H Q\/∃ (l b:af) (xs ys:List V),x=.ref l/\y=.ref b/\H l=some (.lst xs)/\H b=some (.lst ys)/\xs.length≠ys.length/\Q (.bl true) H
def Yw {X:Cx}(hu:X.A.units+64<ip):qS X (dk .NotEq) (R5 X.K):=(Hl hu).or (by
 intro pins s Z H x y v u Q I rx ry h;obtain ⟨l,b,xs,ys,rfl,rfl,h1,h2,hne,q⟩:=h;cases rx;cases ry;obtain ⟨its,n1,rp,op,zp⟩:=I.lst h1;obtain ⟨its2,n2,rp2,op2,zp2⟩:=I.lst h2;have e1:=rp.length;have e2:=rp2.length
 exact SeqAt.RcNeAt.lists_lengths ⟨_,op,rfl,_,rfl⟩ ⟨_,op2,rfl,_,rfl⟩ (by simp;lia) (by lia) _ _ _ _ ⟨.bl _,H,I,rfl,q⟩)
end L2
namespace L2
variable {ta:TE}{pos:ue}{e o:Expr}{f:bB}{es:List Expr}{k:Nat}{K:ae}
section
variable {X:Cx}
def aaw {tg l:Expr}{tl:TE}(hl:PE X l tl) (hK:X.K=K):PI X tg l (nE K tl):=hK▸l7 hl
def aax {a:Expr}(ha:PE X a ta) (hK:X.K=K) (he:∀ whole,isTrue a X.env whole=(do let v ← whole;uz a.pos;jS [v] (truthy v))):PT X a (pj K ta):=hK▸Mi ha he
def aay (he:PE X e ta) (hK:X.K=K) (hb:uX e f X.env (fo e X.env)=fo e X.env):PE X (.Attribute e f pos) (dO K ta f):=hK▸ph he hb
def aaz {value:Expr}{pos':ue}{tv:TE}(ha:PE X o ta) (hv:PE X value tv) (hK:X.K=K) (hs:BO value (some (.Attribute o f pos')) pos.line X.env=pure false):PS X (.Assign [.Attribute o f pos'] value pos) (uK K ta tv f):=hK▸G9 ha hv hs
def aaA {n:Nat}{t:Uc}(hc:X.calm=true) (h:Zy X es t) (hK:X.K=K) (hn:(oH es X.env).length=n) (hst:(oH es X.env).findIdx? (·.1)=none):PG X (.Tuple es k pos) (LQ K n t):=hK▸G2 hc h hn hst
def o_bm {to:TE}{t:TA}{name:bB}{apos cpos:ue}{T id:String}{r:V->List V->Hp->VK->Prop}(pa:PlainAttrs T) (slot:Slot T name id) (hty:typeOf (.builtin id)=pure (.type "method_descriptor")) (hm:MtR X id r) (ho:PE X o to) (ha:PA X (e::es) t) (hK:X.K=K)
  (hbase:uX o name X.env (fo o X.env)=fo o X.env)
  (hfew:((gM cpos (bE (e::es) X.env)).all (λx=>!x.1) && (IX cpos (uB [] X.env)).all (λx=>x.1.isSome)
   && decide ((e::es).length+([]:List VM).length+(if ([]:List VM).isEmpty then 0 else 1)<30))=true)
  (hline:(apos.endLine == cpos.line)=true) (hs:bE (e::es) X.env=(false,fo e X.env)::bE es X.env) (hplain:(gM cpos (bE es X.env)).any (·.1)=false) :
  PE X (.Call (.Attribute o name apos) (e::es) [] cpos) (EK K T r to t):=hK▸oK pa slot hty hm ho ha hbase hfew hline hs hplain
end
def Ez.mE {mg:bB->Option aj}{x q:bB}{st:dF}{ps:List bB}{sp:Sp}{P:bA}{w:cg}{base:cK}{f:af}{fd:fN}{N:List bB}{t:TS}(F:Ez K x q st f fd) (S:bH N ps (aS st)) (run:∀ vs H Q E,sp vs H Q E->t { nx:=λ_ H'=>Q .non H',rt:=Q } (start N vs) H)
  (b:∀ {lT:aj}{A:cL}{outer:List yJ}{s:ax}{H:Hp}{E:XK},gZ k (A.deeper (lM q (aS st) s.heap.objs.size f lT))->N.Nodup->IT (lH wM P w K mg base N q (aS st) f lT A outer s H E).W4 (jM st) t)
  (len:∀ vs H Q E,sp vs H Q E->vs.length=ps.length:=by first|(intro vs H Q E h;cases h;subst_vars;rfl)|(intro vs H Q E h;repeat' (first|(obtain ⟨e,_⟩:=h;exact e▸rfl)|(obtain ⟨_,h⟩:=h)))):jr P w K mg base wM (k+1) f fd ps sp :=
 F.oj S len run λlT A outer s H E hr=>b hr S.nd
end L2
namespace Sw
open PySem.W
def vI:aj->Int
 | .int i _=>i
 | _=>0
def R7 {vs:List aj}{ns:List Int}(h:eW vs ns):ns=vs.map vI/\∀ v∈vs,∃ t,v=.int (vI v) t:=by
 induction h with
 | nil=>exact ⟨rfl,λv hv=>nomatch hv⟩
 | cons n t _ ih =>
  refine ⟨by rw [aV,← ih.1];rfl,λv hv=>?_⟩
  rcases aq.mp hv with rfl|hv
  .exact ⟨_,rfl⟩
  .exact ih.2 v hv
theorem NZ:∀ {vs:List aj},(∀ v∈vs,∃ t,v=.int (vI v) t)->eW vs (vs.map vI)
 | [],_=>.nil
 | v::vs,h=>by
  obtain ⟨t,e⟩:=h v aw;rw [aV];have:=NZ λu hu=>h u (ai _ hu);generalize vI v=i at e;subst e;exact .cons i t this
section
variable {prog:bA}{w:cg}{A:cL}{E:aj->ax->Prop}{s:ax}{a:af}
theorem Kd {ks:List Int}{h₀:cK} {L:af}{m:bB->Option aj}{kP:List (af×iF)}{Q:aj->ax->Prop}(hh:A.handled=none) (hS:SO prog w (bt w) s.heap a ks) (h64:ks.length<128) (F:Fr h₀ L s.heap m) (N:News h₀ L s.heap kP)
  (q:∀ D c h' tk d (out:List aj) (ns:List Int),Fr h₀ L h' m->News h₀ L h' ((D,b8 "list" out.toArray c)::kP)->(∀ p∈kP,p.1<D)->eW out ns->ns.Perm ks->ns.Pairwise (·<=·)->Q (.ref D) { s with heap:=h',toks:=tk,drawn:=d }) :
  aH (aL prog w) A (call (.builtin "sorted") [.ref a]) Q E s:=by
 refine qt LO Jo Jp (args_sorted1 _) (aa (m:=Qa "sorted" 1 1 _) (ak (aa (J5 hh hS (L2.bK (m:=128) (by lia)) λh1 tk d vs ns keep hi hp=>?_))))
 have hvl:vs.length<128:=by rw [hi.length,hp.length_eq];exact h64
 have hz:vs.length<=aW:=L2.bK (m:=128) (by lia);refine aa (pe ?_ hz);have F1:=F.kept keep;have N1:=N.grown keep;have hL:L<h1.objs.size:=F1.ns.lt;have g:(h1.push (b8 "list" vs.toArray 0)).get? h1.objs.size=some (b8 "list" vs.toArray 0):=aK _ rfl
 show aH (aL prog w) A.in1 (do let _ ← jS [aD h1.objs.size] (call (.builtin "list.sort") [aD h1.objs.size]);ret (aD h1.objs.size)) _ _ { s with heap:=h1.push (b8 "list" vs.toArray 0),toks:=tk,drawn:=d }
 have hb:∀ b o,s.heap.get? b=some o->b≠h1.objs.size:=λb o e=>aZ (aJ (keep b o e));obtain ⟨en,hv⟩:=R7 hi;refine aa (cq (cO BA ⟨_,g,rfl⟩ yW (Sy.sort_vals (κ:=oneType') (r:=vI) (s:={ s with heap:=h1.push (b8 "list" vs.toArray 0),toks:=tk,drawn:=d }) g hvl (λh2 h' k=>⟨λQ hQ=>?_,λx hx y hy Q hQ=>?_⟩) λh' c out k gD hp' hs=>⟨_,rfl,ak ⟨_,rfl,?_⟩⟩) (args_list_sort _)))
 .rw [ksk_kind (kz:=ns) (by simpa using hi) (by simpa using h2)];exact ak hQ
 .obtain ⟨t1,e1⟩:=hv x hx;obtain ⟨t2,e2⟩:=hv y hy;rw [e1,e2];exact kat_lt_int hQ
 .have k7:∀ b o,s.heap.get? b=some o->h'.get? b=some o:=λb o e=>k b o (hb b o e) (ar _ (keep b o e));have hvo:∀ v∈out,∃ t,v=.int (vI v) t:=λv h=>hv v (hp'.mem_iff.mp h);refine q h1.objs.size c _ tk d out (out.map vI) (F.kept k7) (λp hp2=>?_) (λp hp2=>aJ (N1 p hp2).1) (NZ hvo) (((hp'.map vI).trans (by rw [← en])).trans hp) (iK.mpr hs)
  rcases aq.mp hp2 with rfl|hp2
  .exact ⟨gD,fe hL,Qm (br F1.above (mY hL))⟩
  .exact (N.grown k7) p hp2
end
end Sw
namespace L2
open PySem.W
def zg (K:ae) (t:TA):TE:=λZ H Q=>t Z H λvs H1=>∃ (a:af) (ns:List Int),vs=[.ref a]/\dm K H1 a (ns.map V.int)/\ns.length<=4000/\(∃ ds:List Int,ds.length<128/\∀ x∈ns,x∈ds) /\
 ∀ p (ks:List Int),H1 p=none->ks.Pairwise (· < ·)->(∀ x,x∈ks↔x∈ns)->Q (.ref p) (upd H1 p (.lst (ks.map V.int)))
def Mt {K:ae}{t:TA}{Z:St}{H:Hp}{Q:VK}(h:t Z H λvs H1=>∃ (a:af) (ns:List Int),vs=[.ref a]/\dm K H1 a (ns.map V.int)/\ns.length<=4000/\(∃ ds:List Int,ds.length<128/\∀ x∈ns,x∈ds) /\
 ∀ p (ks:List Int),H1 p=none->ks.Pairwise (· < ·)->(∀ x,x∈ks↔x∈ns)->Q (.ref p) (upd H1 p (.lst (ks.map V.int)))):zg K t Z H Q:=h
section
variable {X:Cx}{x:Expr}{t:TA}{p1 p2 q1 q2:ue}
theorem Ke (hc:X.calm=true) (hgl:Gl X "sorted") (hml:X.mg "sorted"=none) (hgz:Gl X "set") (hmz:X.mg "set"=none) (ha:PA X [x] t)
  (he:bE [.Call (.Name "set" p1) [x] [] p2] X.env=[(false,fo (.Call (.Name "set" p1) [x] [] p2) X.env)]:=by rfl) (he2:bE [x] X.env=(false,fo x X.env)::bE [] X.env:=by rfl) (hpl:(gM p2 (bE [] X.env)).any (·.1)=false:=by rfl) :
  PE X (.Call (.Name "sorted" q1) [.Call (.Name "set" p1) [x] [] p2] [] q2) (zg X.K t):=by
 intro pins s Z H Q I h;refine eC (nY I hgl hml BootT.Ct (wQ ?_ he rfl));rw [he]
 show aH _ _ (spliced ((false,fo (.Call (.Name "set" p1) [x] [] p2) X.env)::gM q2 (bE [] X.env))) _ _ s
 refine hW (eC (nY I hgz hmz BootT.set (eP (gp (ha p2 pins s Z H _ I h) λus s1 ⟨vs,H1,I1,r1,q⟩=>?_) he2 hpl)));obtain ⟨a,ns,rfl,hA,hl4,⟨ds,hds,hsub⟩,k⟩:=q;obtain ⟨u,rfl,ru⟩:=vals1 r1;cases ru;obtain ⟨its,rv,pl,hz⟩:=I1.list hA;have hi:eW its ns:=intsAre_of rv;have hlen:=hi.length;refine Sw.Rv (ns:=ns) (I1.ok.hd hc) pl.isList (by simpa using hi) (by rw [aI,hlen];unfold wK;lia) λh2 tk ks hS hmem hle hk=>mi ?_
 have hnd:ks.Nodup:=by obtain ⟨_,_,_,_,_,_,_,_,_,_,_,_,_,_,hn⟩:=hS;exact hn
 have h64:ks.length<128:=bw (RC hnd λx hx=>hsub x ((hmem x).mp hx)) hds;have I2:Inv X pins Z H1 { s1 with heap:=h2,toks:=tk }:=I1.kept (t':=tk) hk;obtain ⟨m,F,N⟩:=I2.vT;refine Sw.Kd (s:={ s1 with heap:=h2,toks:=tk }) (I1.ok.hd hc) hS h64 F N λD c h' tk' d out ms F' N' hD a1 a2 a3=>?_;obtain ⟨hn,I3⟩:=I2.TJ (t':=tk') (o:=.lst (ms.map V.int)) F.ns F' N' hD ⟨by rw [ag,a2.length_eq];exact bK (m:=128) (by lia),out,c,y8 a1,(N' _ aw).1⟩;refine ⟨.ref D,_,I3.drawn d,rfl,k D ms hn ?_ (λx=>by rw [a2.mem_iff,hmem])⟩;have hnd':ms.Nodup:=a2.nodup_iff.mpr hnd
 exact (List.Pairwise.and a3 hnd').imp λ{x y} h=>by
  have h1:=h.1;have h2:x≠y:=h.2;lia
end
section
variable {X:Cx}{tg:Expr}
end
end L2
namespace L2
variable {H:Hp}{g b:af}{X:Cx}{K:ae}{Z:St}{P:bA}{w:cg}{mg:bB->Option aj}{base:cK}{k:Nat}{ps:List bB}{sp:Sp}
def XW (X:Cx) (pins:List (af×iF)) (E:XK):aj->ax->Prop:=λe s'=>∃ Z H1 s1,Inv X pins Z H1 s1/\Gx X.prog X.w X.stack H1 s1 E e s'
abbrev Cx.tr (X:Cx) (pins:List (af×iF)) (E:XK):Cx:={ X with pn:=X.pn++pins,xe:=XW X pins E }
section
variable {pins pins':List (af×iF)}{s:ax}{E:XK}
def Cx.Ok.tr (ok:X.Ok):(X.tr pins E).Ok:=⟨ok.mod,ok.kind,ok.glob,ok.blt,ok.above,ok.inj,ok.has,ok.VC,ok.hd,ok.frames,ok.WX,ok.YR,ok.bs,ok.Nh,ok.IR,ok.IS,ok.rO,ok.Ou⟩
def Cx.Ok.Na (ok:(X.tr pins E).Ok):X.Ok:=⟨ok.mod,ok.kind,ok.glob,ok.blt,ok.above,ok.inj,ok.has,ok.VC,ok.hd,ok.frames,ok.WX,ok.YR,ok.bs,ok.Nh,ok.IR,ok.IS,ok.rO,ok.Ou⟩
def Inv.tr (I:Inv X pins Z H s):Inv (X.tr pins E) [] Z H s:=⟨I.ok.tr,I.os,I.bare,I.base,I.loc,I.cell,I.free,I.ow,λp hp=>I.pin p (by rw [oB] at hp;exact hp),I.eJ,I.len⟩
def Inv.Na (I:Inv (X.tr pins E) pins' Z H s):Inv X pins Z H s:=⟨I.ok.Na,I.os,I.bare,I.base,I.loc,I.cell,I.free,I.ow,λp hp=>I.pin p (dU _ hp),I.eJ,I.len⟩
def Wv:lX (Gx X.prog X.w) (X.tr pins E) E:=λ_ Z H s _ _ I h=>⟨Z,H,s,I.Na,h⟩
end
def R8 (K:ae) (cT:aj) (tb:XK->TS) (th:TS):TS:=λD Z H=>∃ E:XK,tb E D Z H /\
 ∀ cls H2 σ',E cls none H2->∃ Dc:af,cls=.ref Dc/\hJ K cls cT=some true/\th { nx:=λ_ _=>False,rt:=D.rt } σ' H2
section
variable {CT:af}{xT:bB}{np hpos pos:ue}{tb:XK->TS}{th:TS}{b₀:dF} {body TN:List dF}
theorem Vh (hb:∀ pins E,IT (X.tr pins E) body (tb E)) (hex0:X.ex=[]) (hst:X.stack=X.env::X.outer/\X.env.frame=some X.env.locals) (hgT:Gl X xT) (hmT:X.mg xT=some (.ref CT))
  (hth:∀ a,IT (X.marked a) (b₀::TN) th) (hdT:(xT == ("__debug__":bB))=false:=by decide) :
  PS X (.Try body [.ExceptHandler (some (.Name xT np)) none (b₀::TN) hpos] [] [] pos) (R8 X.K (.ref CT) tb th):=by
 rintro pins s Z H D I ⟨E,h,hE⟩;refine wpAny_Try_except ?_;refine dr (hb pins E [] s Z H D I.tr h) (λf s1 q=>?_) λev s' q=>?_
 .cases f with
  | next=>obtain ⟨σ',H',I',q⟩:=q;exact qp ⟨σ',H',I'.Na,q⟩
  | brk=>obtain ⟨σ',H',I',q⟩:=q;exact ⟨σ',H',I'.Na,q⟩
  | cont=>obtain ⟨σ',H',I',q⟩:=q;exact ⟨σ',H',I'.Na,q⟩
  | ret u=>obtain ⟨v,σ',H',I',r,q⟩:=q;exact ⟨v,σ',H',I'.Na,r,q⟩
 .obtain ⟨σ1,H1,s1,I1,a,cls,a0,B,H2,rfl,os,bare,fl,Fl,qE⟩:=q;obtain ⟨Dc,rfl,hex,hh⟩:=hE cls H2 σ1 qE;have frm:=CG I1;have fl':=fl;rw [hst.1] at fl';have hfm:=I1.ok.frames;rw [hst.1] at hfm;refine gp (mP (RG _ _) (wpAny_looks_onW (L:=X.env.locals) (outer:=X.outer) (Q:=λ_ s3=>B.HeldW (X.env::X.outer) a (.ref Dc) a0 X.env.locals s3.heap/\s'.heap.UpToSlots s3.heap/\s3.os=s'.os/\s3.gens=s'.gens) hfm hst.2 fl' λh' hd us=>⟨hd,us,rfl,rfl⟩)) λ_ s3 ⟨⟨hd3,us3,o3,g3⟩,kp3⟩=>?_;have F3:=Fl.step frm us3 hd3.1 kp3;refine gp (mP (CF _ _) (wpAny_landsW (Q:=λ_ s4=>B.FlyingW (X.env::X.outer) a (.ref Dc) a0 s4.heap/\s3.heap.UpToSlots s4.heap/\s4.os=s3.os/\s4.gens=s3.gens) hd3 λh' fl us=>⟨fl,us,rfl,rfl⟩)) λ_ s4 ⟨⟨fl4,us4,o4,g4⟩,kp4⟩=>?_;have F4:=F3.step frm us4 fl4.1 kp4;have I4:Inv X pins σ1 H2 s4:=I1.TM (ch:=[]) ((o4.trans o3).trans os) F4.un F4.eJ (by rw [g4,g3];exact bare) (λb z=>absurd z (by simp));refine wpAny_handleBy_cons ?_ (λz=>nomatch z);refine codeAny_handlers_test ?_;have I4m:=I4.mark a;refine wW I4m hgT hmT ?_ hdT;obtain ⟨oe4,vs4,T4,oT4,ts4,e4,⟨c4,_⟩,d4,_⟩:=fl4.2.2.2
  have dict4:oe4.dict=none:=by
   obtain ⟨o,e5,d5⟩:=F4.dict;rw [e4] at e5;cases e5;exact d5
  have inst4:VJ s4.heap a oe4 Dc none:=⟨e4,c4,by unfold PySem.W.notCls;rw [d4],by rw [dict4];trivial⟩
  refine PySem.W.exm_one (K:=X.K) I4.AW inst4.type hex _ _ _ s4 (λ_ _ z=>z) ?_;refine codeAny_handlers_suite ?_;refine gp (mP (CF _ _) (lands_againW (Q:=λ_ s5=>B.FlyingW (X.env::X.outer) a (.ref Dc) a0 s5.heap/\s4.heap.UpToSlots s5.heap/\s5.os=s4.os/\s5.gens=s4.gens) fl4 λh' fl us=>⟨fl,us,rfl,rfl⟩)) λ_ s5 ⟨⟨fl5,us5,o5,g5⟩,kp5⟩=>?_;have F5:=F4.step frm us5 fl5.1 kp5;have I5:Inv X pins σ1 H2 s5:=I1.TM (ch:=[]) (((o5.trans o4).trans o3).trans os) F5.un F5.eJ (by rw [g5,g4,g3];exact bare) (λb z=>absurd z (by simp));refine dr (hth a pins s5 _ _ _ (I5.mark a) hh) (λf s7 z=>?_) λ_ _ z=>dD z
  cases f with
  | ret u =>
   obtain ⟨v,σ',H',I8,rv,q8⟩:=z
   exact ⟨v,_,H',I8.unmark I1.ok,rv,q8⟩
  | next=>obtain ⟨_,_,_,z⟩:=z;exact dD z
  | brk=>obtain ⟨_,_,_,z⟩:=z;exact dD z
  | cont=>obtain ⟨_,_,_,z⟩:=z;exact dD z
end
def xu:Zz X (Hd X.K):=by
 intro pins s Z H x y v u Q I rx ry h;obtain ⟨p,xs,i,z,rfl,rfl,hq,he,q⟩:=h;cases rx;obtain ⟨t,rfl⟩:=ry;obtain ⟨its,r,pl,hz⟩:=I.list hq;obtain ⟨j,h1,h2,h3,h4,h5⟩:=Hc he;obtain ⟨w,ew,rw'⟩:=r.get h2;have hl:=r.length;have hn:=qB
 have fin:EP X pins Z Q w s:=⟨z,H,I,rw',q⟩
 by_cases h0:0<=i
 .have hj:i.toNat=j:=by
   rw [LI h0 h5] at h1;exact aU h1
  exact wpAny_getItem_list pl.isList h0 (by lia) (by rw [hj];simpa using ew) fin
 .have hj:(i+(its.toArray.size:Int)).toNat=j:=by
   rw [seqIndex_neg (by lia) h4] at h1;rw [aI,← hl];exact aU h1
  exact VO pl.isList (by lia) (by rw [aI]<;>lia) (by lia) (by rw [hj];simpa using ew) fin
def Hw {to ti te:TE}{D:rN}(h:to Z H λo H1=>ti Z H1 λi H2=>Hd K o i H2 λx H3=>te Z H3 λy H4=>(Xx λi j=>i+j) x y H4 λz H5=>Ah o i z H5 λH6=>D.nx Z H6):FY to ti te (Hd K) (Xx λi j=>i+j) Ah D Z H:=h
def dw (H:Hp) (g:af):Hp:=λb=>if b=g then none else H b
def kJ:dw H g g=none:=if_pos rfl
def iZ (h:b≠g):dw H g b=H b:=if_neg h
def pT {o:HO}(e:dw H g b=some o):b≠g/\H b=some o:=by
 by_cases c:b=g
 .rw [c,kJ] at e;cases e
 .exact ⟨c,(iZ c).symm.trans e⟩
def pU (e:H b=none):dw H g b=none:=by
 unfold dw;split
 .rfl
 .exact e
def Hid (sp:Sp):Sp:=λvs H Q E=>sp vs H Q E\/∃ (g:af) (ns:List Int),H g=some (.lst (ns.map V.int))/\sp vs (dw H g) (λv H'=>H' g=none->Q v (upd H' g (.lst (ns.map V.int)))) E
theorem jr.hide {f:af}{fd:fN}(F:jr P w K mg base wM k f fd ps sp):jr P w K mg base wM k f fd ps (Hid sp) where
 len:=λvs H Q E h=>by
  rcases h with h|⟨g,ns,_,h⟩
  .exact F.len _ _ _ _ h
  .exact F.len _ _ _ _ h
 run:=λA outer s H args us vs Q E hr e0 hb r h=>by
  rcases h with h|⟨g,ns,hg,h⟩
  .exact F.run A outer s H args us vs Q E hr e0 hb r h
  .have og:=e0.eJ g _ hg
   have ez:Lk P w K mg base A outer s (dw H g):=⟨e0.frames,e0.mod,λb o e=>⟨(e0.bs b o e).1,pU (e0.bs b o e).2⟩,e0.Nh,e0.rO,λb hb=>pU (e0.Ou b hb),λb o e=>by
    obtain ⟨n,e⟩:=pT e
    exact (e0.eJ b o e).uT (λ_ _ _ z=>z) (λc q=>by rw [iZ];exact q;rintro rfl;rw [hg] at q;cases q) (λc xs q=>by rw [iZ];exact q;rintro rfl;rw [hg] at q;cases q),e0.bare⟩
   refine lu (F.run A outer s (dw H g) args us vs _ E hr ez hb r h) λr s' q=>?_
   cases r with
   | error ev=>exact dD q
   | ok fl =>
    cases fl with
    | next=>exact dD q
    | brk=>exact dD q
    | cont=>exact dD q
    | ret u =>
     obtain ⟨v,H',os,bare,un,eJ,rv,qq⟩:=q;obtain ⟨z,its,n,rr,e⟩:=og;have hg':H' g=none:=un.free g _ e kJ (by simp)
     have nf:g∉vT outer:=λz=>by have:=e0.Ou g z;rw [hg] at this;cases this
     have e':=un.keep g _ e kJ nf (by simp);have nk:∀ {b:af},H' b≠none->b≠g:=λz c=>z (c▸hg');refine ⟨v,upd H' g (.lst (ns.map V.int)),os,bare,⟨λb o e1 n1 hb hx=>un.keep b o e1 (pU n1) hb hx,λb o e1 n1 hb hx=>un.slot b o e1 (pU n1) hb hx,λb o e1 n1 hx=>?_,un.there,λb xs e1=>?_,λb o u e1=>?_,λb ps e1=>?_⟩,λb o e1=>?_,rv,qq hg'⟩
     .rw [aG];exact un.free b o e1 (pU n1) hx;rintro rfl;rw [hg] at n1;cases n1
     .have n:b≠g:=by rintro rfl;rw [hg] at e1;cases e1
      rw [aG n];exact un.wD b xs (by rw [iZ n];exact e1)
     .have n:b≠g:=by rintro rfl;rw [hg] at e1;cases e1
      rw [aG n];exact un.uS b o u (by rw [iZ n];exact e1)
     .have n:b≠g:=by rintro rfl;rw [hg] at e1;cases e1
      rw [aG n];exact un.uU b ps (by rw [iZ n];exact e1)
     .by_cases c:b=g
      .subst c;rw [aF] at e1;cases e1;exact ⟨z,its,_,rr,e'⟩
      .rw [aG c] at e1;exact (eJ b o e1).uT (λ_ _ _ z=>z) (λc q=>by rw [aG (nk (by rw [q];simp))];exact q) (λc xs q=>by rw [aG (nk (by rw [q];simp))];exact q)
def IP.hide {C:af}{x:bB}(c:IP P w K mg base wM k C x ps sp):IP P w K mg base wM k C x ps (Hid sp):={ c with G:=c.G.hide }
end L2
namespace Rm
variable {f:Nat->Int}{m:Nat}{r:List Int}
def tn {α:Type} (r:List α) (k:Nat):List α:=r.drop k++(r.drop 1).take k
def Sa {k:Nat}(hk:k<r.length):(tn r k).length=r.length:=by
 unfold tn;rw [bb,cY,bM,cY];lia
def Vi:tn r 0=r:=by simp [tn]
def Mu {a:Int}(h:a∈r):r.idxOf a<r.length:=gf.mpr h
end Rm
namespace Rm
section
variable {n:Nat}{v par:Nat->Nat}
end
end Rm
namespace Rm
def al:List Int->List (Int×Int)
 | []=>[]
 | [_]=>[]
 | a::b::r=>(a,b)::al (b::r)
theorem Mv:∀ r:List Int,al r=r.zip (r.drop 1)
 | []=>rfl
 | [_]=>rfl
 | a::b::r=>by
  have:=Mv (b::r);simp only [List.drop_succ_cons,Jr] at this ⊢;rw [jw,← this];rfl
theorem kZ:∀ (xs:List Int) (x:Int) (ys:List Int),al (xs++x::ys)=al (xs++[x])++al (x::ys)
 | [],x,ys=>rfl
 | [a],x,ys=>rfl
 | a::b::xs,x,ys=>by
  have:=kZ (b::xs) x ys
  show (a,b)::al ((b::xs)++x::ys)=(a,b)::al ((b::xs)++[x])++al (x::ys)
  rw [this];rfl
theorem gj:∀ {r:List Int}{x y:Int},(x,y)∈al r->x∈r/\y∈r
 | a::b::r,x,y,h=>by
  rcases aq.mp h with e|h
  .cases e;simp
  .have:=gj h;exact ⟨ai _ this.1,ai _ this.2⟩
theorem Mw:∀ r:List Int,(al r).length=r.length-1
 | []=>rfl
 | [_]=>rfl
 | a::b::r=>by
  have:=Mw (b::r);simp only [al,bI] at this ⊢;lia
structure mh (r:List Int):Prop where
 ne:r≠[]
 cnt:∃ ds:List Int,ds.Nodup/\(∀ x,x∈ds↔x∈r)/\r.length+1=2*ds.length
 ends:r.head?=r.getLast?
 nd:(al r).Nodup
 sym:∀ x y,(x,y)∈al r->(y,x)∈al r
def mh.one (a:Int):mh [a]:=⟨by simp,⟨[a],by simp,by simp,rfl⟩,rfl,by simp [al],λx y h=>by simp [al] at h⟩
def mh.TL {A B:List Int}{z:Int}(h:mh (A++z::B)) (hA:z∉A) (hB:z∉B) (hn:A++B≠[]):∃ A' w B',A=A'++[w]/\B=w::B':=by
 have he:=h.ends
 have hAne:A≠[]:=λe=>by
  subst e;simp only [List.nil_append,Za] at he hn
  rcases fS B with e|⟨us,u,e⟩
  .exact hn e
  .rw [fT] at e;subst e;rw [show z::(us++[u])=(z::us)++[u] by simp,cU] at he;simp at he;subst he;exact hB (by simp)
 have hBne:B≠[]:=λe=>by
  subst e;rw [cU] at he;simp at he
  cases A with
  | nil=>exact hAne rfl
  | cons a A =>
   simp at he;subst he;exact hA (by simp)
 obtain ⟨A',w,e⟩:∃ A' w,A=A'++[w]:=by
  rcases fS A with e|⟨us,u,e⟩
  .exact absurd e hAne
  .exact ⟨us,u,by rw [e,fT]⟩
 subst e
 cases B with
 | nil=>exact absurd rfl hBne
 | cons v B' =>
  refine ⟨A',w,B',rfl,?_⟩
  have e1:al (A'++[w]++z::v::B')=al (A'++[w])++((w,z)::(z,v)::al (v::B')):=by
   rw [du,Qb,kZ];rfl
  have m:=h.sym w z (by rw [e1];simp);rw [e1] at m
  rcases aQ.mp m with m|m
  .exact absurd (gj m).1 hA
  .rcases aq.mp m with m|m
   .cases m;exact absurd (by simp) hA
   .rcases aq.mp m with m|m
    .cases m;rfl
    .exact absurd (gj m).1 hB
def Sb (xs ys:List Int) (w z:Int):(al (xs++w::z::w::ys)).Perm ((w,z)::(z,w)::al (xs++w::ys)):=by
 rw [kZ,kZ xs w ys]
 show (al (xs++[w])++([(w,z),(z,w)]++al (w::ys))).Perm ([(w,z),(z,w)]++(al (xs++[w])++al (w::ys)))
 rw [← du,← du];exact List.Perm.append_right _ fR
def CO (xs ys:List Int) (w z:Int):(xs++w::z::w::ys).head?=(xs++w::ys).head?/\(xs++w::z::w::ys).getLast?=(xs++w::ys).getLast?:=by
 constructor
 .cases xs<;>simp
 .cases ys with
  | nil=>simp [cU]
  | cons y ys=>simp [cU,lG]
def mh.Po {xs ys:List Int}{w z:Int}(h:mh (xs++w::z::w::ys)) (hz:z∉xs++w::ys):mh (xs++w::ys):=by
 have hp:=Sb xs ys w z;have nd:=hp.nodup_iff.mp h.nd;have nd2:=(a7.mp nd).2;refine ⟨by simp,?_,?_,(a7.mp nd2).2,λx y hxy=>?_⟩
 .obtain ⟨ds,h1,h2,h3⟩:=h.cnt;have hzd:z∈ds:=(h2 z).mpr (by simp);refine ⟨ds.erase z,h1.erase z,λx=>?_,?_⟩
  .rw [h1.mem_erase_iff,h2]
   constructor
   .rintro ⟨h4,h5⟩;simp at h5 ⊢
    rcases h5 with h5|h5|h5|h5|h5
    .exact .inl h5
    .exact .inr (.inl h5)
    .exact absurd h5 h4
    .exact .inr (.inl h5)
    .exact .inr (.inr h5)
   .intro h5;refine ⟨λe=>hz (e▸h5),?_⟩;simp at h5 ⊢
    rcases h5 with h5|h5|h5
    .exact .inl h5
    .exact .inr (.inl h5)
    .exact .inr (.inr (.inr (.inr h5)))
  .rw [LP hzd];have:0<ds.length:=uG hzd;simp at h3 ⊢;lia
 .have:=CO xs ys w z;rw [← this.1,← this.2];exact h.ends
 .have hm:=hp.mem_iff.mp (h.sym x y (hp.mem_iff.mpr (ai _ (ai _ hxy))))
  rcases aq.mp hm with e|hm
  .cases e;exact absurd (gj hxy).1 hz
  .rcases aq.mp hm with e|hm
   .cases e;exact absurd (gj hxy).2 hz
   .exact hm
def mh.put {xs ys:List Int}{w z:Int}(h:mh (xs++w::ys)) (hz:z∉xs++w::ys):mh (xs++w::z::w::ys):=by
 have hp:=Sb xs ys w z;have hwz:w≠z:=λe=>hz (by simp [e]);refine ⟨by simp,?_,?_,hp.nodup_iff.mpr ?_,λx y hxy=>?_⟩
 .obtain ⟨ds,h1,h2,h3⟩:=h.cnt;refine ⟨z::ds,a7.mpr ⟨λhm=>hz ((h2 z).mp hm),h1⟩,λx=>?_,?_⟩
  .rw [aq,h2];simp
   constructor
   .rintro (h|h|h|h)
    .exact .inr (.inr (.inl h))
    .exact .inl h
    .exact .inr (.inl h)
    .exact .inr (.inr (.inr (.inr h)))
   .rintro (h|h|h|h|h)
    .exact .inr (.inl h)
    .exact .inr (.inr (.inl h))
    .exact .inl h
    .exact .inr (.inr (.inl h))
    .exact .inr (.inr (.inr h))
  .simp at h3 ⊢;lia
 .have:=CO xs ys w z;rw [this.1,this.2];exact h.ends
 .refine a7.mpr ⟨λhm=>?_,a7.mpr ⟨λhm=>hz (gj hm).1,h.nd⟩⟩
  rcases aq.mp hm with e|hm
  .exact hwz (by cases e;rfl)
  .exact hz (gj hm).2
 .refine hp.mem_iff.mpr ?_
  rcases aq.mp (hp.mem_iff.mp hxy) with e|hm
  .cases e;simp
  .rcases aq.mp hm with e|hm
   .cases e;simp
   .exact ai _ (ai _ (h.sym x y hm))
theorem qI:∀ {ds r:List Int},ds.Nodup->(∀ x∈r,x∈ds)->(ds.map λd=>r.count d).sum=r.length
 | ds,[],h1,h2=>by
  have:(ds.map λd=>([]:List Int).count d)=ds.map λ_=>0:=by simp
  rw [this]
  clear this h1 h2
  induction ds with
  | nil=>rfl
  | cons d ds ih=>simpa using ih
 | ds,x::r,h1,h2=>by
  have ih:=qI (ds:=ds) (r:=r) h1 λy hy=>h2 y (ai _ hy);have hx:=h2 x aw
  have key:∀ (ds:List Int),ds.Nodup->(ds.map λd=>(x::r).count d).sum=(ds.map λd=>r.count d).sum+if x∈ds then 1 else 0:=by
   intro ds
   induction ds with
   | nil=>intro _;simp
   | cons d ds ih2 =>
    intro hnd;have:=ih2 (a7.mp hnd).2;have hd:=(a7.mp hnd).1;simp only [aV,gh,vc] at this ⊢;rw [this]
    by_cases e:x=d
    .subst e;simp [hd];lia
    .have e':¬ d=x:=λz=>e z.symm;simp [e];lia
  rw [key ds h1,ih,if_pos hx,bI]
def mh.leaf {r:List Int}(h:mh r) (h1:1<r.length):∃ xs w z ys,r=xs++w::z::w::ys/\z∉xs++w::ys:=by
 obtain ⟨ds,d1,d2,d3⟩:=h.cnt;have hs:=qI d1 λx hx=>(d2 x).mpr hx
 obtain ⟨z,hz,hc⟩:∃ z∈ds,r.count z<2:=by
  refine Classical.byContradiction λq=>?_
  have hall:∀ z∈ds,2<=r.count z:=λz hz=>by
   by_cases c:r.count z<2
   .exact absurd ⟨z,hz,c⟩ q
   .lia
  have:∀ (ds:List Int),(∀ z∈ds,2<=r.count z)->2*ds.length<=(ds.map λd=>r.count d).sum:=by
   intro ds
   induction ds with
   | nil=>intro _;simp
   | cons d ds ih =>
    intro h;have a:=ih λz hz=>h z (ai _ hz);have b:=h d aw;simp only [aV,gh,bI];lia
  have:=this ds hall;lia
 have hzr:=(d2 z).mp hz;obtain ⟨A,B,e⟩:=lF hzr;subst e
 have hc2:A.count z=0/\B.count z=0:=by
  rw [gG,j7] at hc;lia
 have hA:z∉A:=fg.mp hc2.1;have hB:z∉B:=fg.mp hc2.2
 obtain ⟨A',w,B',e1,e2⟩:=h.TL hA hB (λq=>by
  rw [uH] at q;rw [q.1,q.2] at h1
  simp at h1)
 subst e1 e2
 exact ⟨A',w,z,B',by simp,λhm=>by
  simp at hm hA hB
  rcases hm with hm|hm|hm
  .exact hA.1 hm
  .exact hA.2 hm
  .exact hB.2 hm⟩
end Rm
namespace Rm
variable {a b:Int}{r xs ys T:List Int}
def mh.VB {r':List Int}(h:mh r) (hn:r'≠[]) (hm:∀ x,x∈r'↔x∈r) (hl:r'.length=r.length) (he:r'.head?=r'.getLast?) (hp:(al r').Perm (al r)):mh r' :=
 ⟨hn,let ⟨ds,a,b,c⟩:=h.cnt;⟨ds,a,λx=>by rw [b,hm],by rw [hl];exact c⟩,he,hp.nodup_iff.mpr h.nd,λx y z=>hp.mem_iff.mpr (h.sym x y (hp.mem_iff.mp z))⟩
def GB (h:a∈r):∃ xs ys,r=xs++a::ys/\xs.length=r.idxOf a/\a∉xs:=by
 induction r with
 | nil=>cases h
 | cons b r ih =>
  by_cases e:b=a
  .subst e;exact ⟨[],r,rfl,by simp,by simp⟩
  .have ha:a∈r:=(aq.mp h).resolve_left λq=>e q.symm;obtain ⟨xs,ys,e1,e2,e3⟩:=ih ha
   have eb:(b == a)=false:=by simpa using e
   refine ⟨b::xs,ys,by rw [e1];rfl,by rw [Zb,eb];simp [e2],λhm=>?_⟩
   rcases aq.mp hm with q|q
   .exact e q.symm
   .exact e3 q
theorem mh.turn (h:mh r) (ha:a∈r):mh (tn r (r.idxOf a))/\(al (tn r (r.idxOf a))).Perm (al r)/\(tn r (r.idxOf a)).head?=some a/\(∀ x,x∈tn r (r.idxOf a)↔x∈r)/\(tn r (r.idxOf a)).length=r.length:=by
 have hlen:(tn r (r.idxOf a)).length=r.length:=Sa (Mu ha);obtain ⟨xs,ys,e,el,hx⟩:=GB ha
 cases xs with
 | nil =>
  have e0:r.idxOf a=0:=by rw [← el];rfl
  rw [e0,Vi]
  exact ⟨h,uf _,by rw [e];rfl,λx=>Iff.rfl,rfl⟩
 | cons b xs =>
  have hba:b≠a:=λq=>hx (by simp [q]);have he:=h.ends
  obtain ⟨ys',ey⟩:∃ ys',ys=ys'++[b]:=by
   rw [e] at he;simp only [Xg,Za] at he;rw [show b::(xs++a::ys)=(b::xs++[a])++ys by simp,cU] at he
   rcases fS ys with q|⟨us,u,q⟩
   .subst q;rw [show b::xs++[a]=(b::xs)++[a] by rfl,cU] at he;simp at he;exact absurd he hba
   .rw [fT] at q;subst q;rw [cU] at he;simp at he;subst he;exact ⟨us,rfl⟩
  subst ey
  have et:tn r (r.idxOf a)=(a::ys')++b::(xs++[a]):=by
   unfold tn;rw [← el,e];simp only [bI]
   have d1:((b::xs)++a::(ys'++[b])).drop (xs.length+1)=a::(ys'++[b]):=by simp
   have d2:(((b::xs)++a::(ys'++[b])).drop 1).take (xs.length+1)=xs++[a]:=by
    show (xs++a::(ys'++[b])).take (xs.length+1)=xs++[a]
    rw [Xh,cf (by lia)];simp
   rw [d1,d2];simp
  have hp:(al (tn r (r.idxOf a))).Perm (al r):=by
   rw [et,e,kZ (a::ys') b (xs++[a]),kZ (b::xs) a (ys'++[b])];exact fR
  have hm:∀ x,x∈tn r (r.idxOf a)↔x∈r:=λx=>by
   rw [et,e];simp
   constructor
   .rintro (q|q|q|q|q)
    .exact .inr (.inr (.inl q))
    .exact .inr (.inr (.inr (.inl q)))
    .exact .inl q
    .exact .inr (.inl q)
    .exact .inr (.inr (.inl q))
   .rintro (q|q|q|q|q)
    .exact .inr (.inr (.inl q))
    .exact .inr (.inr (.inr (.inl q)))
    .exact .inl q
    .exact .inr (.inl q)
    .exact .inr (.inr (.inl q))
  refine ⟨h.VB (by rw [et];simp) hm hlen (by rw [et];simp [cU,lG]) hp,hp,by rw [et];rfl,hm,hlen⟩
def Hx (h1:T.head?=some b) (h2:T.getLast?=some b):(al (xs++a::(T++a::ys))).Perm ((a,b)::(b,a)::(al (xs++a::ys)++al T)):=by
 obtain ⟨T1,e1⟩:∃ T1,T=b::T1:=by
  cases T with
  | nil=>simp at h1
  | cons c T=>simp at h1;exact ⟨T,by rw [h1]⟩
 obtain ⟨T2,e2⟩:∃ T2,T=T2++[b]:=by
  rcases fS T with q|⟨us,u,q⟩
  .subst q;simp at h2
  .rw [fT] at q;subst q;simp at h2;exact ⟨us,by rw [h2]⟩
 have e3:al (a::(T++a::ys))=(a,b)::(al T++(b,a)::al (a::ys)):=by
  have e4:al (T++a::ys)=al T++(b,a)::al (a::ys):=by
   conv=>lhs;rw [e2,du,Qb,kZ]
   rw [← e2];rfl
  have e5:al (a::(T++a::ys))=(a,b)::al (T++a::ys):=by rw [e1];rfl
  rw [e5,e4]
 rw [kZ xs a (T++a::ys),kZ xs a ys,e3];generalize al (xs++[a])=P;generalize al (a::ys)=R;generalize al T=U
 -- P++(ab::(U++ba::R)) ~ ab::ba::((P++R)++U)
 refine EE.trans (lB _ ?_);rw [← du];refine EE.trans (lB _ ?_);rw [du,du];exact lV _ fR
def Sd (xs ys T:List Int) (a:Int):(xs++a::(T++a::ys)).head?=(xs++a::ys).head?/\(xs++a::(T++a::ys)).getLast?=(xs++a::ys).getLast?:=by
 constructor
 .cases xs<;>simp
 .cases ys with
  | nil=>simp [cU,lG]
  | cons y ys=>simp [cU,lG]
def mh.YF (h:mh (xs++a::ys)) (hT:mh T) (h1:T.head?=some b) (hd:∀ x∈T,x∉xs++a::ys):mh (xs++a::(T++a::ys)):=by
 have h2:T.getLast?=some b:=by rw [← hT.ends];exact h1
 have hp:=Hx (xs:=xs) (ys:=ys) (a:=a) h1 h2;have hb:b∈T:=jK (by rw [h1];rfl)
 have ha:a∈xs++a::ys:=by simp
 have hab:a≠b:=λe=>hd b hb (e▸ha);have hb':=hd b hb;have ha':a∉T:=λq=>hd a q ha;refine ⟨by simp,?_,?_,hp.nodup_iff.mpr ?_,λx y hxy=>?_⟩
 .obtain ⟨ds,d1,d2,d3⟩:=h.cnt;obtain ⟨es,e1,e2,e3⟩:=hT.cnt;refine ⟨ds++es,gH.mpr ⟨d1,e1,λx hx y hy q=>hd y ((e2 y).mp hy) (q▸(d2 x).mp hx)⟩,λx=>?_,?_⟩
  .rw [aQ,d2,e2];simp
   constructor
   .rintro ((q|q|q)|q)
    .exact .inl q
    .exact .inr (.inl q)
    .exact .inr (.inr (.inr (.inr q)))
    .exact .inr (.inr (.inl q))
   .rintro (q|q|q|q|q)
    .exact .inl (.inl q)
    .exact .inl (.inr (.inl q))
    .exact .inr q
    .exact .inl (.inr (.inl q))
    .exact .inl (.inr (.inr q))
  .simp at d3 ⊢;lia
 .have:=Sd xs ys T a;rw [this.1,this.2];exact h.ends
 .refine a7.mpr ⟨λhm=>?_,a7.mpr ⟨λhm=>?_,gH.mpr ⟨h.nd,hT.nd,?_⟩⟩⟩
  .rcases aq.mp hm with q|hm
   .exact hab (by cases q;rfl)
   .rcases aQ.mp hm with q|q
    .exact hb' (gj q).2
    .exact ha' (gj q).1
  .rcases aQ.mp hm with q|q
   .exact hb' (gj q).1
   .exact ha' (gj q).2
  .rintro ⟨x,y⟩ hx t ht q;subst q;exact hd x (gj ht).1 (gj hx).1
 .refine hp.mem_iff.mpr ?_
  rcases aq.mp (hp.mem_iff.mp hxy) with q|hm
  .cases q;simp
  .rcases aq.mp hm with q|hm
   .cases q;simp
   .refine ai _ (ai _ ?_)
    rcases aQ.mp hm with q|q
    .exact dU _ (h.sym x y q)
    .exact bO _ (hT.sym x y q)
theorem mh.part:∀ (n:Nat) {p q inn:List Int}{x y:Int},(p++x::(inn++x::q)).length<=n->mh (p++x::(inn++x::q))->inn.head?=some y->inn.getLast?=some y ->
  mh inn/\mh (p++x::q)/\∀ c∈inn,c∉p++x::q
 | 0,p,q,inn,x,y,hn,h,h1,h2=>by simp at hn
 | n+1,p,q,inn,x,y,hn,h,h1,h2=>by
  have hl:1<(p++x::(inn++x::q)).length:=by simp;lia
  obtain ⟨X,w,z,Y,e,hz⟩:=h.leaf hl
  have hc:(p++x::(inn++x::q)).count z=1:=by
   rw [e];simp at hz;have a1:X.count z=0:=fg.mpr hz.1;have a2:Y.count z=0:=fg.mpr hz.2.2;have a3:¬ w=z:=λq=>hz.2.1 q.symm;simp [gG,vc,a1,a2,a3]
  have hzx:x≠z:=λq=>by
   subst q;simp [gG,vc] at hc;lia
  have hc2:p.count z+inn.count z+q.count z=1:=by
   simp [gG,vc,hzx] at hc;lia
  -- a place that stands once,with what is around it
  have at_:∀ A B,p++x::(inn++x::q)=A++z::B->∃ A' w B',A=A'++[w]/\B=w::B':=λA B eA=>by
   rw [eA] at h hc hl
   have c0:A.count z=0/\B.count z=0:=by rw [gG,j7] at hc;lia
   refine h.TL (fg.mp c0.1) (fg.mp c0.2) λq=>?_;rw [uH] at q;rw [q.1,q.2] at hl;simp at hl
  have nin:∀ {l:List Int},l.count z=0->z∉l:=λq=>fg.mp q
  by_cases z1:z∈inn
  .have k1:0<inn.count z:=AZ.mpr z1;have hp0:z∉p:=nin (by lia);have hq0:z∉q:=nin (by lia);obtain ⟨i1,i2,ei⟩:=lF z1
   have c12:i1.count z=0/\i2.count z=0:=by
    rw [ei,gG,j7] at hc2;lia
   have n1:=nin c12.1;have n2:=nin c12.2
   by_cases hs:i1++i2=[]
   .rw [uH] at hs;rw [hs.1,hs.2] at ei;subst ei
    have zo:z∉p++x::q:=λhm=>by
     rcases aQ.mp hm with m|m
     .exact hp0 m
     .rcases aq.mp m with m|m
      .exact hzx m.symm
      .exact hq0 m
    refine ⟨mh.one z,mh.Po (w:=x) (z:=z) (by simpa using h) zo,λc hc=>?_⟩
    have:c=z:=by simpa using hc
    subst this;exact zo
   .obtain ⟨A',w',B',eA,eB⟩:=at_ (p++x::i1) (i2++x::q) (by rw [ei];simp)
    have i1n:i1≠[]:=λq0=>by
     subst q0;rw [ei] at h1 h2;simp at h1;subst h1
     rcases fS i2 with q1|⟨us,u,q1⟩
     .exact hs (by simp [q1])
     .rw [fT] at q1;subst q1;simp [cU,lG] at h2;exact n2 (by simp [h2])
    have i2n:i2≠[]:=λq0=>by
     subst q0;rw [ei] at h1 h2;rw [cU] at h2;simp at h2;subst h2
     cases i1 with
     | nil=>exact i1n rfl
     | cons a i1=>simp at h1;exact n1 (by simp [h1])
    obtain ⟨i1',u,ei1⟩:∃ i1' u,i1=i1'++[u]:=by
     rcases fS i1 with q0|⟨us,u,q0⟩
     .exact absurd q0 i1n
     .exact ⟨us,u,by rw [q0,fT]⟩
    cases i2 with
    | nil=>exact absurd rfl i2n
    | cons v i2' =>
     have ev:v=w':=by simp at eB;exact eB.1
     have eu:u=w':=by
      rw [ei1,← Xg,← du] at eA;have:=uI eA rfl
      simpa using this
     subst ei1 ev eu
     have ei':inn=i1'++u::z::u::i2':=by rw [ei];simp
     subst ei'
     have zi:z∉i1'++u::i2':=λhm=>by
      simp at hm n1 n2
      rcases hm with m|m|m
      .exact n1.1 m
      .exact n1.2 m
      .exact n2.2 m
     have eR:p++x::(i1'++u::z::u::i2'++x::q)=(p++x::i1')++u::z::u::(i2'++x::q):=by simp
     have eR':p++x::(i1'++u::i2'++x::q)=(p++x::i1')++u::(i2'++x::q):=by simp
     have zR:z∉(p++x::i1')++u::(i2'++x::q):=λhm=>by
      simp at hm zi
      rcases hm with m|m|m|m|m|m|m
      .exact hp0 m
      .exact hzx m.symm
      .exact zi.1 m
      .exact zi.2.1 m
      .exact zi.2.2 m
      .exact hzx m.symm
      .exact hq0 m
     rw [eR] at h;have hR':=h.Po zR;rw [← eR'] at hR';have en:=CO i1' i2' u z;obtain ⟨r1,r2,r3⟩:=mh.part n (by simp at hn ⊢;lia) hR' (by rw [← en.1];exact h1) (by rw [← en.2];exact h2);refine ⟨r1.put zi,r2,λc hc=>?_⟩;simp at hc
     have hcz:c=z->c∉p++x::q:=λq0 hm=>by
      subst q0;simp at hm
      rcases hm with m|m|m
      .exact hp0 m
      .exact hzx m.symm
      .exact hq0 m
     rcases hc with m|m|m|m|m
     .exact r3 c (by simp [m])
     .exact r3 c (by simp [m])
     .exact hcz m
     .exact r3 c (by simp [m])
     .exact r3 c (by simp [m])
  .by_cases z2:z∈p
   .have k1:0<p.count z:=AZ.mpr z2;have hq0:z∉q:=nin (by lia);obtain ⟨p1,p2,ep⟩:=lF z2;obtain ⟨A',w',B',eA,eB⟩:=at_ p1 (p2++x::(inn++x::q)) (by rw [ep];simp)
    have c12:p1.count z=0/\p2.count z=0:=by
     rw [ep,gG,j7] at hc2;lia
    have n1:=nin c12.1;have n2:=nin c12.2;subst eA
    cases p2 with
    | nil =>
     have ew:w'=x:=by simp at eB;exact eB.1.symm
     subst ew
     have ep':p=A'++[w',z]:=by rw [ep];simp
     subst ep'
     have zR:z∉A'++w'::(inn++w'::q):=λhm=>by
      simp at hm n1
      rcases hm with m|m|m|m|m
      .exact n1.1 m
      .exact n1.2 m
      .exact z1 m
      .exact n1.2 m
      .exact hq0 m
     have hR':=mh.Po (xs:=A') (w:=w') (z:=z) (ys:=inn++w'::q) (by simpa using h) zR;obtain ⟨r1,r2,r3⟩:=mh.part n (by simp at hn ⊢;lia) hR' h1 h2
     have zo:z∉A'++w'::q:=λhm=>by
      simp at hm n1
      rcases hm with m|m|m
      .exact n1.1 m
      .exact n1.2 m
      .exact hq0 m
     refine ⟨r1,by simpa using r2.put zo,λc hc hm=>?_⟩;simp at hm
     rcases hm with m|m|m|m
     .exact r3 c hc (by simp [m])
     .exact r3 c hc (by simp [m])
     .exact z1 (m▸hc)
     .exact r3 c hc (by
       rcases m with m|m
       .simp [m]
       .simp [m])
    | cons v p2 =>
     have ew:v=w':=by simp at eB;exact eB.1
     subst ew
     have ep':p=A'++v::z::v::p2:=by rw [ep];simp
     subst ep'
     have zR:z∉A'++v::(p2++x::(inn++x::q)):=λhm=>by
      simp at hm n1 n2
      rcases hm with m|m|m|m|m|m|m
      .exact n1.1 m
      .exact n1.2 m
      .exact n2.2 m
      .exact hzx m.symm
      .exact z1 m
      .exact hzx m.symm
      .exact hq0 m
     have hR':=mh.Po (xs:=A') (w:=v) (z:=z) (ys:=p2++x::(inn++x::q)) (by simpa using h) zR;obtain ⟨r1,r2,r3⟩:=mh.part n (p:=A'++v::p2) (q:=q) (inn:=inn) (x:=x) (by simp at hn ⊢;lia) (by simpa using hR') h1 h2
     have zo:z∉A'++v::(p2++x::q):=λhm=>by
      simp at hm n1 n2
      rcases hm with m|m|m|m|m
      .exact n1.1 m
      .exact n1.2 m
      .exact n2.2 m
      .exact hzx m.symm
      .exact hq0 m
     refine ⟨r1,by simpa using mh.put (xs:=A') (w:=v) (z:=z) (ys:=p2++x::q) (by simpa using r2) zo,λc hc hm=>?_⟩;simp at hm
     rcases hm with m|m|m|m|m|m|m
     .exact r3 c hc (by simp [m])
     .exact r3 c hc (by simp [m])
     .exact z1 (m▸hc)
     .exact r3 c hc (by simp [m])
     .exact r3 c hc (by simp [m])
     .exact r3 c hc (by simp [m])
     .exact r3 c hc (by simp [m])
   .have hq1:z∈q:=by
     have k1:0<q.count z:=by
      have a1:=fg.mpr z1;have a2:=fg.mpr z2;lia
     exact AZ.mp k1
    obtain ⟨q1,q2,eq⟩:=lF hq1;obtain ⟨A',w',B',eA,eB⟩:=at_ (p++x::(inn++x::q1)) q2 (by rw [eq];simp)
    have c12:q1.count z=0/\q2.count z=0:=by
     rw [eq,gG,j7] at hc2;lia
    have n1:=nin c12.1;have n2:=nin c12.2;subst eB
    rcases fS q1 with e1|⟨q1',u,e1⟩
    .subst e1
     have ew:x=w':=by
      rw [show p++x::(inn++[x])=(p++x::inn)++[x] by simp] at eA;have:=uI eA rfl
      simpa using this
     subst ew
     have eq':q=z::x::B':=by rw [eq];rfl
     subst eq'
     have zR:z∉(p++x::inn)++x::B':=λhm=>by
      simp at hm n2
      rcases hm with m|m|m|m|m
      .exact z2 m
      .exact hzx m.symm
      .exact z1 m
      .exact hzx m.symm
      .exact n2.2 m
     have hR':=mh.Po (xs:=p++x::inn) (w:=x) (z:=z) (ys:=B') (by simpa using h) zR;obtain ⟨r1,r2,r3⟩:=mh.part n (p:=p) (q:=B') (inn:=inn) (x:=x) (by simp at hn ⊢;lia) (by simpa using hR') h1 h2
     have zo:z∉p++x::B':=λhm=>by
      simp at hm n2
      rcases hm with m|m|m
      .exact z2 m
      .exact hzx m.symm
      .exact n2.2 m
     refine ⟨r1,r2.put zo,λc hc hm=>?_⟩;simp at hm
     rcases hm with m|m|m|m|m
     .exact r3 c hc (by simp [m])
     .exact r3 c hc (by simp [m])
     .exact z1 (m▸hc)
     .exact r3 c hc (by simp [m])
     .exact r3 c hc (by simp [m])
    .rw [fT] at e1;subst e1
     have ew:u=w':=by
      rw [show p++x::(inn++x::(q1'++[u]))=(p++x::(inn++x::q1'))++[u] by simp] at eA;have:=uI eA rfl
      simpa using this
     subst ew
     have eq':q=q1'++u::z::u::B':=by rw [eq];simp
     subst eq'
     have zR:z∉(p++x::(inn++x::q1'))++u::B':=λhm=>by
      simp at hm n1 n2
      rcases hm with m|m|m|m|m|m|m
      .exact z2 m
      .exact hzx m.symm
      .exact z1 m
      .exact hzx m.symm
      .exact n1.1 m
      .exact n1.2 m
      .exact n2.2 m
     have hR':=mh.Po (xs:=p++x::(inn++x::q1')) (w:=u) (z:=z) (ys:=B') (by simpa using h) zR;obtain ⟨r1,r2,r3⟩:=mh.part n (p:=p) (q:=q1'++u::B') (inn:=inn) (x:=x) (by simp at hn ⊢;lia) (by simpa using hR') h1 h2
     have zo:z∉(p++x::q1')++u::B':=λhm=>by
      simp at hm n1 n2
      rcases hm with m|m|m|m|m
      .exact z2 m
      .exact hzx m.symm
      .exact n1.1 m
      .exact n1.2 m
      .exact n2.2 m
     refine ⟨r1,by simpa using mh.put (xs:=p++x::q1') (w:=u) (z:=z) (ys:=B') (by simpa using r2) zo,λc hc hm=>?_⟩;simp at hm
     rcases hm with m|m|m|m|m|m|m
     .exact r3 c hc (by simp [m])
     .exact r3 c hc (by simp [m])
     .exact r3 c hc (by simp [m])
     .exact r3 c hc (by simp [m])
     .exact z1 (m▸hc)
     .exact r3 c hc (by simp [m])
     .exact r3 c hc (by simp [m])
end Rm
namespace Rm
variable {r:List Int}{i:Nat}
def Se {x y:Int}:(al r)[i]?=some (x,y)↔r[i]?=some x/\r[i+1]?=some y:=by
 rw [Mv,qx,pN,Qc 1 i]
def sL (r:List Int) (i j:Nat):List Int:=(r.drop (i+1)).take (j-i)
def zh (r:List Int) (i j:Nat):List Int:=r.take (i+1)++r.drop (j+2)
def yR (r:List Int) (a b:Int):List Int×List Int :=
 if (al r).idxOf (a,b)<(al r).idxOf (b,a) then (zh r ((al r).idxOf (a,b)) ((al r).idxOf (b,a)),sL r ((al r).idxOf (a,b)) ((al r).idxOf (b,a)))
 else (sL r ((al r).idxOf (b,a)) ((al r).idxOf (a,b)),zh r ((al r).idxOf (b,a)) ((al r).idxOf (a,b)))
def Sg {j:Nat}{x y:Int}(hij:i<j) (h1:r[i]?=some x) (h2:r[i+1]?=some y) (h3:r[j]?=some y) (h4:r[j+1]?=some x) :
  r=r.take i++x::(sL r i j++x::r.drop (j+2))/\zh r i j=r.take i++x::r.drop (j+2)/\(sL r i j).head?=some y/\(sL r i j).getLast?=some y/\(sL r i j).length+(zh r i j).length+1=r.length:=by
 have l4:=(aC.mp h4).1
 have g1:r.drop i=x::r.drop (i+1):=by
  have hl:=aC.mp h1;rw [fQ hl.1,hl.2]
 have g2:r.drop (j+1)=x::r.drop (j+2):=by
  have hl:=aC.mp h4;rw [fQ hl.1,hl.2]
 have g3:r.drop (i+1)=sL r i j++r.drop (j+1):=by
  unfold sL;have:=eS (j-i) (r.drop (i+1));rw [Zq,show i+1+(j-i)=j+1 by lia] at this;exact this.symm
 have li:(sL r i j).length=j-i:=by unfold sL;rw [bM,cY];lia
 refine ⟨?_,?_,?_,?_,?_⟩
 .rw [← g2,← g3,← g1,eS]
 .unfold zh;rw [eN,h1];simp
 .rw [List.head?_eq_getElem?];unfold sL;rw [lE,if_pos (by lia),pN];exact h2
 .rw [List.getLast?_eq_getElem?,li];unfold sL;rw [lE,if_pos (by lia),pN,show i+1+(j-i-1)=j by lia];exact h3
 .rw [li];unfold zh;rw [bb,bM,cY];lia
def Ww {a b:Int}(h:(a,b)∈al r):r[(al r).idxOf (a,b)]?=some a/\r[(al r).idxOf (a,b)+1]?=some b:=by
 have hl:(al r).idxOf (a,b)<(al r).length:=gf.mpr h;refine Se.mp ?_;rw [aA hl,AY]
structure Ni (r X Y:List Int) (a b:Int):Prop where
 x:mh X
 y:mh Y
 ha:a∈X
 hb:b∈Y
 dis:∀ c∈Y,c∉X
 pm:(al r).Perm ((a,b)::(b,a)::(al X++al Y))
 len:X.length+Y.length+1=r.length
def mh.parted {a b:Int}(h:mh r) (hm:(a,b)∈al r) (hab:a≠b):Ni r (yR r a b).1 (yR r a b).2 a b:=by
 obtain ⟨p1,p2⟩:=Ww hm;obtain ⟨q1,q2⟩:=Ww (h.sym a b hm);unfold yR;generalize (al r).idxOf (a,b)=i at p1 p2;generalize (al r).idxOf (b,a)=j at q1 q2
 by_cases hij:i<j
 .rw [if_pos hij];obtain ⟨e1,e2,e3,e4,e5⟩:=Sg hij p1 p2 q1 q2;have hR:=h;rw [e1] at hR;obtain ⟨r1,r2,r3⟩:=mh.part _ (au _) hR e3 e4;refine ⟨by rw [e2];exact r2,r1,by rw [e2];simp,jK (by rw [e3];rfl),λc hc=>by rw [e2];exact r3 c hc,?_,by simp only;lia⟩;simp only;rw [e2];have hp:=Hx (xs:=r.take i) (ys:=r.drop (j+2)) (a:=a) e3 e4
  rwa [← e1] at hp
 .rw [if_neg hij]
  have hji:j<i:=by
   rcases Nat.lt_or_ge j i with q|q
   .exact q
   .have:i=j:=by lia
    subst this;rw [p1] at q1;exact absurd (aU q1) hab
  obtain ⟨e1,e2,e3,e4,e5⟩:=Sg hji q1 q2 p1 p2;have hR:=h;rw [e1] at hR;obtain ⟨r1,r2,r3⟩:=mh.part _ (au _) hR e3 e4;refine ⟨r1,by rw [e2];exact r2,jK (by rw [e3];rfl),by rw [e2];simp,λc hc hx=>by rw [e2] at hc;exact r3 c hx hc,?_,by simp only;lia⟩;simp only;rw [e2];have hp:=Hx (xs:=r.take j) (ys:=r.drop (i+2)) (a:=b) e3 e4;rw [← e1] at hp;refine hp.trans ((List.Perm.swap _ _ _).trans (lB _ (lB _ fR)))
end Rm
namespace Rm
def Kg (x y:Int) (l:List Int):al (x::y::l)=(x,y)::al (y::l):=rfl
end Rm
namespace Rm
variable {n:Nat}{R:Nat->List Int}
def CP (r1 r2:List Int) (a b:Int):List Int:=r1.take (r1.idxOf a+1)++(tn r2 (r2.idxOf b)++r1.drop (r1.idxOf a))
structure IQ (r1 r2:List Int) (a b:Int):Prop where
 h1:mh r1
 h2:mh r2
 ha:a∈r1
 hb:b∈r2
 dis:∀ x∈r2,x∉r1
def IQ.facts {r1 r2:List Int}{a b:Int}(T:IQ r1 r2 a b):mh (CP r1 r2 a b)/\(al (CP r1 r2 a b)).Perm ((a,b)::(b,a)::(al r1++al r2))/\(CP r1 r2 a b).length=r1.length+r2.length+1:=by
 obtain ⟨t1,t2,t3,t4,t5⟩:=T.h2.turn T.hb;obtain ⟨xs,ys,e,el,hx⟩:=GB T.ha
 have es:CP r1 r2 a b=xs++a::(tn r2 (r2.idxOf b)++a::ys):=by
  unfold CP;rw [← el]
  conv=>lhs;rw [e]
  have d1:(xs++a::ys).take (xs.length+1)=xs++[a]:=by
   rw [Xh,cf (by lia)];simp
  have d2:(xs++a::ys).drop xs.length=a::ys:=by simp
  rw [d1,d2];simp
 have hR:mh (xs++a::ys):=by rw [← e];exact T.h1
 have hd:∀ x∈tn r2 (r2.idxOf b),x∉xs++a::ys:=λx hx=>by rw [← e];exact T.dis x ((t4 x).mp hx)
 refine ⟨by rw [es];exact hR.YF t1 t3 hd,?_,?_⟩
 .rw [es,e]
  have t3':(tn r2 (r2.idxOf b)).getLast?=some b:=by rw [← t1.ends];exact t3
  exact (Hx t3 t3').trans (lB _ (lB _ (lV _ t2)))
 .have hlt:(tn r2 (r2.idxOf b)).length=r2.length:=t5;unfold CP;have:=Mu T.ha;rw [bb,bb,bM,cY,hlt];lia
def IQ.mem {r1 r2:List Int}{a b:Int}(T:IQ r1 r2 a b) (x:Int):x∈CP r1 r2 a b↔x∈r1\/x∈r2:=by
 obtain ⟨t1,t2,t3,t4,t5⟩:=T.h2.turn T.hb;unfold CP;rw [aQ,aQ,t4]
 constructor
 .rintro (h|h|h)
  .exact .inl (Qv h)
  .exact .inr h
  .exact .inl (List.mem_of_mem_drop h)
 .rintro (h|h)
  .rw [← eS (r1.idxOf a) r1] at h
   rcases aQ.mp h with h|h
   .exact .inl (List.take_subset_take_left _ (jv _) h)
   .exact .inr (.inr h)
  .exact .inr (.inl h)
def Ni.mem {r X Y:List Int}{a b:Int}(P:Ni r X Y a b) (hr:mh r) (x:Int):x∈r↔x∈X\/x∈Y:=by
 have key:∀ {l:List Int},mh l->∀ {x:Int},x∈l->(l=[x]\/∃ y,(x,y)∈al l):=λ{l} hl {x} hx=>by
  obtain ⟨i,hi⟩:=bC.mp hx;have hlt:=(aC.mp hi).1
  by_cases h:i+1<l.length
  .exact .inr ⟨_,bC.mpr ⟨i,Se.mpr ⟨hi,aA h⟩⟩⟩
  .by_cases h1:l.length=1
   .obtain ⟨c,rfl⟩:=List.length_eq_one_iff.mp h1
    have:i=0:=by simp at hlt;lia
    subst this;simp at hi;exact .inl (by rw [hi])
   .have e1:l[i-1]?=some l[i-1]:=aA (by lia);exact .inr ⟨_,hl.sym _ _ (bC.mpr ⟨i-1,Se.mpr ⟨e1,by rw [show i-1+1=i by lia];exact hi⟩⟩)⟩
 constructor
 .intro hx
  rcases key hr hx with e|⟨y,hy⟩
  .have:=P.len;rw [e] at this;have h1:=T8.mpr P.x.ne;have h2:=T8.mpr P.y.ne;rw [PN] at this;lia
  .rcases aq.mp (P.pm.mem_iff.mp hy) with e|hy
   .cases e;exact .inl P.ha
   .rcases aq.mp hy with e|hy
    .cases e;exact .inr P.hb
    .rcases aQ.mp hy with hy|hy
     .exact .inl (gj hy).1
     .exact .inr (gj hy).1
 .intro hx;have LD:∀ {u v:Int},(u,v)∈(a,b)::(b,a)::(al X++al Y)->u∈r:=λh=>(gj (P.pm.mem_iff.mpr h)).1
  rcases hx with hx|hx
  .rcases key P.x hx with e|⟨y,hy⟩
   .have:=P.ha;rw [e] at this;rw [← ay.mp this];exact LD (v:=b) aw
   .exact LD (v:=y) (ai _ (ai _ (dU _ hy)))
  .rcases key P.y hx with e|⟨y,hy⟩
   .have:=P.hb;rw [e] at this;rw [← ay.mp this];exact LD (v:=a) (ai _ aw)
   .exact LD (v:=y) (ai _ (ai _ (bO _ hy)))
structure Wd (n:Nat) (R:Nat->List Int):Prop where
 r:∀ i,i<n->mh (R i)
 me:∀ i:Nat,i<n->(i:Int)∈R i
 LD:∀ i,i<n->∀ x∈R i,∃ j:Nat,j<n/\x=(j:Int)/\R j=R i
def Ed (n:Nat) (R:Nat->List Int) (x y:Int):Prop:=∃ i,i<n/\(x,y)∈al (R i)
def Wd.start (n:Nat):Wd n λi=>[(i:Int)] :=
 ⟨λi _=>mh.one _,λi _=>by simp,λi hi x hx=>⟨i,hi,by simpa using hx,rfl⟩⟩
def Wd.same (W:Wd n R) {i j:Nat}(hi:i<n) (hj:j<n) {x:Int}(h1:x∈R i) (h2:x∈R j):R i=R j:=by
 obtain ⟨k,hk,e1,e2⟩:=W.LD i hi x h1;obtain ⟨k',hk',e3,e4⟩:=W.LD j hj x h2
 have:k=k':=by lia
 subst this;rw [← e2,e4]
def Wd.head (W:Wd n R) {i j:Nat}(hi:i<n) (hj:j<n):((R i).head?=(R j).head?↔(j:Int)∈R i):=by
 constructor
 .intro e
  obtain ⟨x,hx⟩:∃ x,(R i).head?=some x:=by
   cases h:R i with
   | nil=>exact absurd h (W.r i hi).ne
   | cons a l=>exact ⟨a,rfl⟩
  rw [W.same hi hj (jK hx) (jK (e▸hx))];exact W.me j hj
 .intro h;rw [W.same hi hj h (W.me j hj)]
def Ed.at (W:Wd n R) {x y:Int}(h:Ed n R x y) {i:Nat}(hi:i<n) (hx:x∈R i):(x,y)∈al (R i):=by
 obtain ⟨j,hj,hm⟩:=h;rw [W.same hi hj hx (gj hm).1];exact hm
def Ed.symm (W:Wd n R) {x y:Int}(h:Ed n R x y):Ed n R y x:=let ⟨i,hi,hm⟩:=h;⟨i,hi,(W.r i hi).sym _ _ hm⟩
theorem Wd.link (W:Wd n R) {a b:Nat}(ha:a<n) (hb:b<n) (hn:(b:Int)∉R a) :
  IQ (R a) (R b) a b/\Wd n (λi=>if (i:Int)∈CP (R a) (R b) a b then CP (R a) (R b) a b else R i) /\
   ∀ x y,Ed n (λi=>if (i:Int)∈CP (R a) (R b) a b then CP (R a) (R b) a b else R i) x y↔(Ed n R x y\/(x,y)=((a:Int),(b:Int))\/(x,y)=((b:Int),(a:Int))):=by
 have T:IQ (R a) (R b) a b:=⟨W.r a ha,W.r b hb,W.me a ha,W.me b hb,λx h2 h1=>hn (by rw [W.same ha hb h1 h2];exact W.me b hb)⟩
 obtain ⟨f1,f2,f3⟩:=T.facts;have fm:=T.mem;generalize CP (R a) (R b) a b=s at f1 f2 f3 fm
 have hs:∀ x∈s,∃ j:Nat,j<n/\x=(j:Int)/\(j:Int)∈s:=λx hx=>by
  rcases (fm x).mp hx with h|h
  .obtain ⟨j,hj,e,_⟩:=W.LD a ha x h;exact ⟨j,hj,e,e▸hx⟩
  .obtain ⟨j,hj,e,_⟩:=W.LD b hb x h;exact ⟨j,hj,e,e▸hx⟩
 have nos:∀ i,i<n->(i:Int)∉s->∀ x∈R i,x∉s:=λi hi h x hx hxs=>by
  rcases (fm x).mp hxs with q|q
  .exact h ((fm i).mpr (.inl (W.same ha hi q hx▸W.me i hi)))
  .exact h ((fm i).mpr (.inr (W.same hb hi q hx▸W.me i hi)))
 refine ⟨T,⟨λi hi=>?_,λi hi=>?_,λi hi x hx=>?_⟩,λx y=>⟨?_,?_⟩⟩
 .by_cases c:(i:Int)∈s
  .rw [if_pos c];exact f1
  .rw [if_neg c];exact W.r i hi
 .by_cases c:(i:Int)∈s
  .rw [if_pos c];exact c
  .rw [if_neg c];exact W.me i hi
 .by_cases c:(i:Int)∈s
  .simp only [if_pos c] at hx ⊢;obtain ⟨j,hj,e,hjs⟩:=hs x hx;exact ⟨j,hj,e,if_pos hjs⟩
  .simp only [if_neg c] at hx ⊢;obtain ⟨j,hj,e,er⟩:=W.LD i hi x hx;exact ⟨j,hj,e,by rw [if_neg (λh=>nos i hi c x hx (e▸h))];exact er⟩
 .rintro ⟨i,hi,hm⟩
  by_cases c:(i:Int)∈s
  .simp only [if_pos c] at hm
   rcases aq.mp (f2.mem_iff.mp hm) with e|hm
   .exact .inr (.inl e)
   .rcases aq.mp hm with e|hm
    .exact .inr (.inr e)
    .rcases aQ.mp hm with h|h
     .exact .inl ⟨a,ha,h⟩
     .exact .inl ⟨b,hb,h⟩
  .simp only [if_neg c] at hm;exact .inl ⟨i,hi,hm⟩
 .have inS:∀ {u v:Int},(u,v)∈al s->Ed n (λi=>if (i:Int)∈s then s else R i) u v:=λh=>⟨a,ha,by simp only [if_pos ((fm a).mpr (.inl (W.me a ha)))];exact h⟩
  rintro (⟨i,hi,hm⟩|e|e)
  .by_cases c:(i:Int)∈s
   .refine inS (f2.mem_iff.mpr (ai _ (ai _ ?_)))
    rcases (fm i).mp c with h|h
    .rw [← W.same ha hi h (W.me i hi)] at hm;exact dU _ hm
    .rw [← W.same hb hi h (W.me i hi)] at hm;exact bO _ hm
   .exact ⟨i,hi,by simp only [if_neg c];exact hm⟩
  .obtain ⟨rfl,rfl⟩:=cJ e;exact inS (f2.mem_iff.mpr aw)
  .obtain ⟨rfl,rfl⟩:=cJ e;exact inS (f2.mem_iff.mpr (ai _ aw))
theorem Wd.cut (W:Wd n R) {a b:Nat}(ha:a<n) (hb:b<n) (hab:a≠b) (hm:((a:Int),(b:Int))∈al (R a)) :
  Wd n (λi=>if (i:Int)∈(yR (R a) a b).2 then (yR (R a) a b).2 else if (i:Int)∈(yR (R a) a b).1 then (yR (R a) a b).1 else R i) /\
   ∀ x y,Ed n (λi=>if (i:Int)∈(yR (R a) a b).2 then (yR (R a) a b).2 else if (i:Int)∈(yR (R a) a b).1 then (yR (R a) a b).1 else R i) x y↔(Ed n R x y/\¬ (x,y)=((a:Int),(b:Int))/\¬ (x,y)=((b:Int),(a:Int))):=by
 have hR:=W.r a ha;have P:=hR.parted hm (by lia:(a:Int)≠b);have PM:=P.mem hR;generalize (yR (R a) a b).1=X at P PM;generalize (yR (R a) a b).2=Y at P PM;have nd:=P.pm.nodup_iff.mp hR.nd;have nab:=(a7.mp nd).1;have nba:=(a7.mp (a7.mp nd).2).1;have inr:∀ x∈R a,∃ j:Nat,j<n/\x=(j:Int)/\R j=R a:=W.LD a ha;have nos:∀ i,i<n->(i:Int)∉R a->∀ x∈R i,x∉R a:=λi hi h x hx hxs=>h (W.same ha hi hxs hx▸W.me i hi);have sw:∀ i:Nat,(i:Int)∈Y->(i:Int)∉X:=λi h=>P.dis _ h;refine ⟨⟨λi hi=>?_,λi hi=>?_,λi hi x hx=>?_⟩,λx y=>⟨?_,?_⟩⟩
 .by_cases c2:(i:Int)∈Y
  .rw [if_pos c2];exact P.y
  .by_cases c1:(i:Int)∈X
   .rw [if_neg c2,if_pos c1];exact P.x
   .rw [if_neg c2,if_neg c1];exact W.r i hi
 .by_cases c2:(i:Int)∈Y
  .rw [if_pos c2];exact c2
  .by_cases c1:(i:Int)∈X
   .rw [if_neg c2,if_pos c1];exact c1
   .rw [if_neg c2,if_neg c1];exact W.me i hi
 .by_cases c2:(i:Int)∈Y
  .simp only [if_pos c2] at hx ⊢;obtain ⟨j,hj,e,_⟩:=inr x ((PM x).mpr (.inr hx));exact ⟨j,hj,e,if_pos (e▸hx)⟩
  .by_cases c1:(i:Int)∈X
   .simp only [if_neg c2,if_pos c1] at hx ⊢;obtain ⟨j,hj,e,_⟩:=inr x ((PM x).mpr (.inl hx));have hjX:(j:Int)∈X:=e▸hx;exact ⟨j,hj,e,by rw [if_neg (λh=>sw j h hjX),if_pos hjX]⟩
   .simp only [if_neg c2,if_neg c1] at hx ⊢;obtain ⟨j,hj,e,er⟩:=W.LD i hi x hx;have hni:(i:Int)∉R a:=λh=>((PM i).mp h).elim c1 c2;have hnj:(j:Int)∉R a:=λh=>nos i hi hni x hx (e▸h);exact ⟨j,hj,e,by rw [if_neg (λh=>hnj ((PM j).mpr (.inr h))),if_neg (λh=>hnj ((PM j).mpr (.inl h)))];exact er⟩
 .have old:∀ {u v:Int},(u,v)∈al X++al Y->Ed n R u v/\¬ (u,v)=((a:Int),(b:Int))/\¬ (u,v)=((b:Int),(a:Int)):=λ{u v} h =>
   ⟨⟨a,ha,P.pm.mem_iff.mpr (ai _ (ai _ h))⟩,λe=>nab (ai _ (e▸h)),λe=>nba (e▸h)⟩
  rintro ⟨i,hi,h⟩
  by_cases c2:(i:Int)∈Y
  .simp only [if_pos c2] at h;exact old (bO _ h)
  .by_cases c1:(i:Int)∈X
   .simp only [if_neg c2,if_pos c1] at h;exact old (dU _ h)
   .simp only [if_neg c2,if_neg c1] at h;have hni:(i:Int)∉R a:=λh=>((PM i).mp h).elim c1 c2;have hxa:x∉R a:=nos i hi hni x (gj h).1;refine ⟨⟨i,hi,h⟩,λe=>hxa ?_,λe=>hxa ?_⟩
    .rw [(cJ e).1];exact W.me a ha
    .rw [(cJ e).1];exact (PM _).mpr (.inr P.hb)
 .rintro ⟨h,e1,e2⟩
  by_cases hx:x∈R a
  .have hm:=Ed.at W h ha hx
   rcases aq.mp (P.pm.mem_iff.mp hm) with e|hm
   .exact absurd e e1
   .rcases aq.mp hm with e|hm
    .exact absurd e e2
    .rcases aQ.mp hm with q|q
     .refine ⟨a,ha,?_⟩;simp only [if_neg (λh=>sw a h P.ha),if_pos P.ha];exact q
     .refine ⟨b,hb,?_⟩;simp only [if_pos P.hb];exact q
  .obtain ⟨i,hi,hm⟩:=h;have hni:(i:Int)∉R a:=λh=>hx (W.same ha hi h (W.me i hi)▸(gj hm).1);refine ⟨i,hi,?_⟩;simp only [if_neg (λh=>hni ((PM i).mpr (.inr h))),if_neg (λh=>hni ((PM i).mpr (.inl h)))];exact hm
theorem Yx {M:Int->Prop}:∀ {l:List Int},(∀ x y,(x,y)∈al l->(M x↔M y))->(∃ a∈l,M a)->∀ x∈l,M x
 | [],_,_,x,hx=>nomatch hx
 | [c],_,⟨a,ha,hM⟩,x,hx=>by
  rw [ay.mp hx,← ay.mp ha];exact hM
 | c::d::t,h,⟨a,ha,hM⟩,x,hx=>by
  have hcd:=h c d (by rw [Kg];exact aw);have ih:=Yx (l:=d::t) λx y hm=>h x y (by rw [Kg];exact ai _ hm)
  have hd:M d:=by
   rcases aq.mp ha with e|ha
   .exact hcd.mp (e▸hM)
   .exact ih ⟨a,ha,hM⟩ d aw
  rcases aq.mp hx with e|hx
  .rw [e];exact hcd.mpr hd
  .exact ih ⟨d,aw,hd⟩ x hx
def few {l:List Int}(hn:l.Nodup) (h:∀ x∈l,∃ j:Nat,j<n/\x=(j:Int)):l.length<=n:=by
 have e:=qI (ds:=(gK n).map λi:Nat=>(i:Int)) (r:=l) (by
  rw [Ju,iK]
  exact List.Pairwise.imp (λh e=>h (by lia)) (Ju.mp List.nodup_range)) λx hx=>by
   obtain ⟨j,hj,e⟩:=h x hx;exact bq.mpr ⟨j,mF.mpr hj,e.symm⟩
 have le:∀ (ds:List Int),(ds.map λd=>l.count d).sum<=ds.length:=λds=>by
  induction ds with
  | nil=>simp
  | cons d ds ih =>
   have:l.count d<=1:=Qw.mp hn d;simp only [aV,gh,bI];lia
 have:=le ((gK n).map λi:Nat=>(i:Int));rw [e] at this
 simpa using this
def Wd.len (W:Wd n R) {i:Nat}(hi:i<n):(R i).length+1<=2*n:=by
 obtain ⟨ds,h1,h2,h3⟩:=(W.r i hi).cnt
 have:=few h1 λx hx=>let ⟨j,hj,e,_⟩:=W.LD i hi x ((h2 x).mp hx);⟨j,hj,e⟩
 lia
end Rm
namespace Rm
end Rm
namespace Rm
end Rm
namespace Rm
def lk (R:Nat->List Int) (a b:Nat):Nat->List Int:=λi=>if (i:Int)∈CP (R a) (R b) a b then CP (R a) (R b) a b else R i
def ct (R:Nat->List Int) (a b:Nat):Nat->List Int:=λi=>if (i:Int)∈(yR (R a) a b).2 then (yR (R a) a b).2 else if (i:Int)∈(yR (R a) a b).1 then (yR (R a) a b).1 else R i
def N0 {r s:List Int}(hr:mh r) (hs:mh s) (h:∀ x∈r,x∈s):r.length<=s.length:=by
 obtain ⟨d,d1,d2,d3⟩:=hr.cnt;obtain ⟨e,e1,e2,e3⟩:=hs.cnt;have q:=qI (ds:=e) (r:=d) e1 λx hx=>(e2 x).mpr (h x ((d2 x).mp hx))
 have le:∀ (ds:List Int),(ds.map λc=>d.count c).sum<=ds.length:=λds=>by
  induction ds with
  | nil=>simp
  | cons c ds ih =>
   have:d.count c<=1:=Qw.mp d1 c;simp only [aV,gh,bI];lia
 have:=le e;lia
section
variable {n:Nat}{R R':Nat->List Int}{x y z a b:Nat}
def Wd.sub (W:Wd n R) (W':Wd n R') (h:∀ x y,Ed n R x y->Ed n R' x y) (hx:x<n):∀ c∈R x,c∈R' x :=
 Yx (M:=λc=>c∈R' x) (λu v hm =>
  have e:=h u v ⟨x,hx,hm⟩
  ⟨λhu=>(gj (Ed.at W' e hx hu)).2,λhv=>(gj (Ed.at W' (Ed.symm W' e) hx hv)).2⟩) ⟨x,W.me x hx,W'.me x hx⟩
def Wd.sy (W:Wd n R) (hx:x<n) (hy:y<n) (h:(y:Int)∈R x):(x:Int)∈R y:=W.same hx hy h (W.me y hy)▸W.me x hx
def Wd.eq (W:Wd n R) (hx:x<n) (hy:y<n) (h:(y:Int)∈R x):R x=R y:=W.same hx hy h (W.me y hy)
def Wd.lk (W:Wd n R) (ha:a<n) (hb:b<n) (hn:(b:Int)∉R a):Wd n (lk R a b):=(W.link ha hb hn).2.1
def Wd.TH (W:Wd n R) (ha:a<n) (hb:b<n) (hn:(b:Int)∉R a) (x y:Int):Ed n (Rm.lk R a b) x y↔(Ed n R x y\/(x,y)=((a:Int),(b:Int))\/(x,y)=((b:Int),(a:Int))):=(W.link ha hb hn).2.2 x y
def Wd.GW (W:Wd n R) (ha:a<n) (hb:b<n) (hn:(b:Int)∉R a) (h:(x:Int)∈R a\/(x:Int)∈R b):(∀ c,c∈Rm.lk R a b x↔c∈R a\/c∈R b)/\(Rm.lk R a b x).length=(R a).length+(R b).length+1:=by
 have T:=(W.link ha hb hn).1;have e:Rm.lk R a b x=CP (R a) (R b) a b:=if_pos ((T.mem x).mpr h);rw [e];exact ⟨T.mem,T.facts.2.2⟩
def Wd.Tw (W:Wd n R) (ha:a<n) (hb:b<n) (hn:(b:Int)∉R a) (h1:(x:Int)∉R a) (h2:(x:Int)∉R b):Rm.lk R a b x=R x :=
 if_neg λh=>((((W.link ha hb hn).1).mem x).mp h).elim h1 h2
def Wd.WV (W:Wd n R) (ha:a<n) (hb:b<n) (hn:(b:Int)∉R a) (hx:x<n):∀ c∈R x,c∈Rm.lk R a b x :=
 W.sub (W.lk ha hb hn) (λu v h=>(W.TH ha hb hn u v).mpr (.inl h)) hx
def Wd.ct (W:Wd n R) (ha:a<n) (hb:b<n) (hab:a≠b) (hm:Ed n R a b):Wd n (ct R a b):=(W.cut ha hb hab (Ed.at W hm ha (W.me a ha))).1
def Wd.TC (W:Wd n R) (ha:a<n) (hb:b<n) (hab:a≠b) (hm:Ed n R a b) (x y:Int):Ed n (Rm.ct R a b) x y↔(Ed n R x y/\¬ (x,y)=((a:Int),(b:Int))/\¬ (x,y)=((b:Int),(a:Int))):=(W.cut ha hb hab (Ed.at W hm ha (W.me a ha))).2 x y
def Wd.WZ (W:Wd n R) (ha:a<n) (hb:b<n) (hab:a≠b) (hm:Ed n R a b):(b:Int)∉Rm.ct R a b a/\(∀ c,c∈R a↔c∈Rm.ct R a b a\/c∈Rm.ct R a b b)/\(Rm.ct R a b a).length+(Rm.ct R a b b).length+1=(R a).length:=by
 have hR:=W.r a ha;have P:=hR.parted (Ed.at W hm ha (W.me a ha)) (by lia:(a:Int)≠b);have PM:=P.mem hR;have e1:Rm.ct R a b b=(yR (R a) a b).2:=if_pos P.hb
 have e2:Rm.ct R a b a=(yR (R a) a b).1:=by
  show (if _ then _ else if _ then _ else _)=_
  rw [if_neg λh=>P.dis _ h P.ha,if_pos P.ha]
 rw [e1,e2];exact ⟨P.dis _ P.hb,PM,P.len⟩
def Wd.YM (W:Wd n R) (ha:a<n) (hb:b<n) (hab:a≠b) (hm:Ed n R a b) (h:(x:Int)∉R a):Rm.ct R a b x=R x:=by
 have hR:=W.r a ha;have PM:=(hR.parted (Ed.at W hm ha (W.me a ha)) (by lia:(a:Int)≠b)).mem hR
 show (if _ then _ else if _ then _ else _)=_
 rw [if_neg λq=>h ((PM _).mpr (.inr q)),if_neg λq=>h ((PM _).mpr (.inl q))]
end
structure Ti where
 x:Nat
 y:Nat
 cC:Nat
 wd:Bool
def Ti.key (t:Ti):Int×Int:=((t.x:Int),(t.y:Int))
def Ti.Is (t:Ti) (u v:Int):Prop:=(u,v)=((t.x:Int),(t.y:Int))\/(u,v)=((t.y:Int),(t.x:Int))
def Ti.up (t:Ti):Ti:={ t with cC:=t.cC+1 }
def Ti.vU (t:Ti):Ti:={ t with wd:=true }
def Ti.Tz {t u:Ti}(h:t.key=u.key):t.x=u.x/\t.y=u.y:=by
 obtain ⟨h1,h2⟩:=cJ h;lia
def Ti.wF {t u:Ti}(ht:t.x<t.y) (hu:u.x<u.y) (h:t.Is u.x u.y):t.key=u.key:=by
 rcases h with h|h<;>obtain ⟨h1,h2⟩:=cJ h
 .exact BR h1.symm h2.symm
 .lia
def Ti.Ov {t:Ti}{u v:Int}:t.Is u v->t.Is v u:=λh=>h.elim (λh=>.inr (by rw [wV] at h ⊢;exact ⟨h.2,h.1⟩)) (λh=>.inl (by rw [wV] at h ⊢;exact ⟨h.2,h.1⟩))
structure Lv (n T:Nat) (ts:List Ti) (R:Nat->Nat->List Int):Prop where
 wd:∀ i,i<=T->Wd n (R i)
 ed:∀ i,i<=T->∀ u v:Int,Ed n (R i) u v↔∃ t∈ts,t.wd=true/\i<=t.cC/\t.Is u v
 sz:∀ i,i<=T->∀ x,x<n->((R i x).length+1)*2^i<=2*n
 lt:∀ t∈ts,t.x<t.y/\t.y<n/\t.cC<=T
 nd:(ts.map Ti.key).Nodup
def Jn (ts:List Ti) (R:Nat->Nat->List Int):Prop:=∀ t∈ts,(t.y:Int)∈R t.cC t.x
def m7 {ts:List Ti}(h:(ts.map Ti.key).Nodup) {t u:Ti}(ht:t∈ts) (hu:u∈ts) (e:t.key=u.key):t=u:=by
 induction ts with
 | nil=>nomatch ht
 | cons s ts ih =>
  rw [aV,a7] at h
  rcases aq.mp ht with rfl|ht'<;>rcases aq.mp hu with rfl|hu'
  .rfl
  .exact absurd (e▸bg hu') h.1
  .exact absurd (e▸bg ht') h.1
  .exact ih h.2 ht' hu'
def gE (ts:List Ti) (k:Int×Int) (f:Ti->Ti):List Ti:=ts.map λt=>if t.key=k then f t else t
section
variable {n T:Nat}{ts:List Ti}{R:Nat->Nat->List Int}{t:Ti}{f:Ti->Ti}
def kK (hf:∀ t,(f t).key=t.key) (k:Int×Int):(gE ts k f).map Ti.key=ts.map Ti.key:=by
 unfold gE;rw [cz]
 exact kN λu _=>by
  show Ti.key (if _ then _ else _)=_
  split
  .exact hf u
  .rfl
def k9 (hnd:(ts.map Ti.key).Nodup) (ht:t∈ts) (u:Ti):u∈gE ts t.key f↔u=f t\/(u∈ts/\u.key≠t.key):=by
 unfold gE;rw [bq]
 constructor
 .rintro ⟨v,hv,e⟩
  by_cases c:v.key=t.key
  .rw [if_pos c] at e;rw [m7 hnd hv ht c] at e;exact .inl e.symm
  .rw [if_neg c] at e;subst e;exact .inr ⟨hv,c⟩
 .rintro (e|⟨h,c⟩)
  .exact ⟨t,ht,by rw [if_pos rfl,e]⟩
  .exact ⟨u,h,if_neg c⟩
def Lv.mono (L:Lv n T ts R) {i j x:Nat}(hij:i<=j) (hj:j<=T) (hx:x<n):∀ c∈R j x,c∈R i x :=
 (L.wd j hj).sub (L.wd i (br hij hj)) (λu v h=>by
  obtain ⟨t,h1,h2,h3,h4⟩:=(L.ed j hj u v).mp h
  exact (L.ed i (br hij hj) u v).mpr ⟨t,h1,h2,br hij h3,h4⟩) hx
def Lv.apart (L:Lv n T ts R) (ht:t∈ts) (hw:t.wd=true) {i:Nat}(hi:t.cC<i) (hT:i<=T):(t.y:Int)∉R i t.x:=by
 obtain ⟨h1,h2,h3⟩:=L.lt t ht;have W:=L.wd t.cC h3;have e:Ed n (R t.cC) t.x t.y:=(L.ed _ h3 _ _).mpr ⟨t,ht,hw,au _,.inl rfl⟩;have c:=W.WZ (a:=t.x) (b:=t.y) (by lia) h2 (by lia) e;intro hin;refine c.1 ((L.wd i hT).sub (W.ct (a:=t.x) (b:=t.y) (by lia) h2 (by lia) e) (λu v h=>?_) (by lia) _ hin);obtain ⟨s,s1,s2,s3,s4⟩:=(L.ed i hT u v).mp h
 have ne:¬ t.Is u v:=λq=>by
  have:s.key=t.key:=by
   obtain ⟨l1,l2,l3⟩:=L.lt s s1
   rcases q with q|q<;>obtain ⟨rfl,rfl⟩:=cJ q
   .exact Ti.wF l1 h1 s4
   .exact Ti.wF l1 h1 (Ti.Ov s4)
  rw [m7 L.nd s1 ht this] at s3;lia
 exact (W.TC (a:=t.x) (b:=t.y) (by lia) h2 (by lia) e u v).mpr ⟨(L.ed _ h3 u v).mpr ⟨s,s1,s2,by lia,s4⟩,λq=>ne (.inl q),λq=>ne (.inr q)⟩
def upR (R:Nat->Nat->List Int) (j x y:Nat):Nat->Nat->List Int:=λi=>if i=j then lk (R j) x y else R i
def LC (R:Nat->Nat->List Int) (l x y:Nat):Nat->Nat->List Int:=λi=>if i<=l then lk (R i) x y else R i
def drR (R:Nat->Nat->List Int) (l x y:Nat):Nat->Nat->List Int:=λi=>if i<=l then ct (R i) x y else R i
def Lv.wF (L:Lv n T ts R) {s:Ti}(hs:s∈ts) (ht:t∈ts) {u v:Int}(h1:s.Is u v) (h2:t.Is u v):s=t:=by
 refine m7 L.nd hs ht ?_
 rcases h2 with q|q<;>obtain ⟨rfl,rfl⟩:=cJ q
 .exact Ti.wF (L.lt s hs).1 (L.lt t ht).1 h1
 .exact Ti.wF (L.lt s hs).1 (L.lt t ht).1 (Ti.Ov h1)
structure Dn (n T:Nat) (ts:List Ti) (R:Nat->Nat->List Int) (a b k:Nat):Prop where
 lv:Lv n T ts R
 ha:a<n
 hb:b<n
 hk:k<=T+1
 ap:(b:Int)∉R 0 a
 s2:∀ i,i<k->((R i a).length+(R i b).length+2)*2^i<=2*n
 jn:∀ t∈ts,(t.y:Int)∈R t.cC t.x\/(t.cC<k/\((t.x:Int)∈R t.cC a/\(t.y:Int)∈R t.cC b\/(t.x:Int)∈R t.cC b/\(t.y:Int)∈R t.cC a))
variable {a b k l:Nat}
def Dn.swap (D:Dn n T ts R a b k):Dn n T ts R b a k :=
 ⟨D.lv,D.hb,D.ha,D.hk,λh=>D.ap ((D.lv.wd 0 (aO _)).sy D.hb D.ha h),λi hi=>by have:=D.s2 i hi;rwa [Qc (R i b).length],λt ht=>(D.jn t ht).imp_right λh=>⟨h.1,h.2.symm⟩⟩
def Dn.done (D:Dn n T ts R a b 0):Jn ts R:=λt ht=>(D.jn t ht).resolve_right λh=>by lia
def Dn.apart (D:Dn n T ts R a b k) {i:Nat}(hi:i<=T):(b:Int)∉R i a:=λh=>D.ap (D.lv.mono (aO _) hi D.ha _ h)
theorem Lv.drop (L:Lv n T ts R) (J:Jn ts R) (ht:t∈ts) (hw:t.wd=true):Dn n T (ts.filter λu=>decide (u.key≠t.key)) (drR R t.cC t.x t.y) t.x t.y (t.cC+1):=by
 obtain ⟨h1,h2,h3⟩:=L.lt t ht
 have hx:t.x<n:=by lia
 have hne:t.x≠t.y:=by lia
 have e:∀ i,i<=t.cC->Ed n (R i) t.x t.y:=λi hi=>(L.ed i (by lia) _ _).mpr ⟨t,ht,hw,hi,.inl rfl⟩;have lo:∀ i,i<=t.cC->drR R t.cC t.x t.y i=ct (R i) t.x t.y:=λi hi=>if_pos hi;have hi':∀ i,¬ i<=t.cC->drR R t.cC t.x t.y i=R i:=λi hi=>if_neg hi
 have mm:∀ u,u∈ts.filter (λu=>decide (u.key≠t.key))↔u∈ts/\u≠t:=λu=>by
  rw [dX,decide_eq_true_iff];exact and_congr_right λhu=>not_congr ⟨λq=>m7 L.nd hu ht q,λq=>q▸rfl⟩
 have C:=λi (hi:i<=t.cC)=>(L.wd i (by lia)).WZ hx h2 hne (e i hi);refine ⟨⟨λi hi=>?_,λi hi u v=>?_,λi hi x hx'=>?_,λu hu=>L.lt u ((mm u).mp hu).1,?_⟩,hx,h2,by lia,?_,λi hi=>?_,λu hu=>?_⟩
 .by_cases c:i<=t.cC
  .rw [lo i c];exact (L.wd i hi).ct hx h2 hne (e i c)
  .rw [hi' i c];exact L.wd i hi
 .by_cases c:i<=t.cC
  .rw [lo i c,(L.wd i hi).TC hx h2 hne (e i c),L.ed i hi]
   constructor
   .rintro ⟨⟨s,s1,s2,s3,s4⟩,n1,n2⟩;exact ⟨s,(mm s).mpr ⟨s1,λq=>(q▸s4).elim n1 n2⟩,s2,s3,s4⟩
   .rintro ⟨s,s1,s2,s3,s4⟩;have s5:=(mm s).mp s1;exact ⟨⟨s,s5.1,s2,s3,s4⟩,λq=>s5.2 (L.wF s5.1 ht s4 (.inl q)),λq=>s5.2 (L.wF s5.1 ht s4 (.inr q))⟩
  .rw [hi' i c,L.ed i hi]
   constructor
   .rintro ⟨s,s1,s2,s3,s4⟩;exact ⟨s,(mm s).mpr ⟨s1,λq=>c (q▸s3)⟩,s2,s3,s4⟩
   .rintro ⟨s,s1,s2⟩;exact ⟨s,((mm s).mp s1).1,s2⟩
 .refine br (oA _ (ug ?_)) (L.sz i hi x hx')
  by_cases c:i<=t.cC
  .rw [lo i c];have W':=(L.wd i hi).ct hx h2 hne (e i c);exact N0 (W'.r x hx') ((L.wd i hi).r x hx') (W'.sub (L.wd i hi) (λu v q=>(((L.wd i hi).TC hx h2 hne (e i c) u v).mp q).1) hx')
  .rw [hi' i c];exact au _
 .exact (wR _ kO).nodup L.nd
 .rw [lo 0 (aO _)];exact (C 0 (aO _)).1
 .rw [lo i (by lia)];have:=(C i (by lia)).2.2;have:=L.sz i (by lia) t.x hx
  have e:(ct (R i) t.x t.y t.x).length+(ct (R i) t.x t.y t.y).length+2=(R i t.x).length+1:=by lia
  rw [e];exact this
 .obtain ⟨q1,q2⟩:=(mm u).mp hu;have j:=J u q1;obtain ⟨u1,u2,u3⟩:=L.lt u q1
  by_cases c:u.cC<=t.cC
  .rw [lo _ c];have W:=L.wd _ u3;have W':=W.ct hx h2 hne (e _ c)
   by_cases d:(u.x:Int)∈R u.cC t.x
   .have d':(u.y:Int)∈R u.cC t.x:=by rw [W.eq hx (by lia) d];exact j
    rcases ((C _ c).2.1 _).mp d with p|p<;>rcases ((C _ c).2.1 _).mp d' with p'|p'
    .exact .inl (by rw [← W'.eq hx (by lia) p];exact p')
    .exact .inr ⟨by lia,.inl ⟨p,p'⟩⟩
    .exact .inr ⟨by lia,.inr ⟨p,p'⟩⟩
    .exact .inl (by rw [← W'.eq h2 (by lia) p];exact p')
   .rw [W.YM hx h2 hne (e _ c) d];exact .inl j
  .rw [hi' _ c];exact .inl j
def Dn.few (D:Dn n T ts R a b (l+1)) (hT:∀ j,2^(j+1)<=n->j<=T) (hs:((R l a).length+1)*2^(l+1)<=2*n) {x y:Nat}(hx:(x:Int)∈R l a) (hy:(y:Int)∈R l a) (hxy:x≠y):l+1<=T:=by
 have hl:l<=T:=by have:=D.hk;lia
 obtain ⟨d,d1,d2,d3⟩:=((D.lv.wd l hl).r a D.ha).cnt
 have:2<=d.length:=by
  have hx':=(d2 _).mpr hx;have hy':=(d2 _).mpr hy
  match d,d1,hx',hy' with
  | [c],_,hx',hy' =>
   rw [ay] at hx' hy'
   lia
  | c::e::r,_,_,_=>simp
 refine hT _ ?_;have h4:4*2^(l+1)<=((R l a).length+1)*2^(l+1):=oA _ (by lia);have:=Qd 2 (l+1);lia
theorem Dn.aaY (D:Dn n T ts R a b (l+1)) (hT:∀ j,2^(j+1)<=n->j<=T) (hs:((R l a).length+1)*2^(l+1)<=2*n) (ht:t∈ts) (hw:t.wd=true) (hl:t.cC=l) (hx:(t.x:Int)∈R l a) (hy:(t.y:Int)∈R l a) :
  l+1<=T/\(t.y:Int)∉R (l+1) t.x/\Dn n T (gE ts t.key Ti.up) (upR R (l+1) t.x t.y) a b (l+1):=by
 have L:=D.lv;obtain ⟨h1,h2,h3⟩:=L.lt t ht;have hl1:l+1<=T:=D.few hT hs hx hy (by lia);have hap:=L.apart ht hw (i:=l+1) (by lia) hl1
 have hxn:t.x<n:=by lia
 have W:=L.wd _ hl1;have hi':∀ i,i≠l+1->upR R (l+1) t.x t.y i=R i:=λi hi=>if_neg hi;have at':upR R (l+1) t.x t.y (l+1)=lk (R (l+1)) t.x t.y:=if_pos rfl;have mm:=k9 (f:=Ti.up) L.nd ht;have kk:∀ u,u∈ts->u≠t->u.key≠t.key:=λu hu hne q=>hne (m7 L.nd hu ht q);have lo:=L.wd l (by lia);refine ⟨hl1,hap,⟨λi hi=>?_,λi hi u v=>?_,λi hi x hx'=>?_,λu hu=>?_,?_⟩,D.ha,D.hb,D.hk,?_,λi hi=>?_,λu hu=>?_⟩
 .by_cases c:i=l+1
  .subst c;rw [at'];exact W.lk hxn h2 hap
  .rw [hi' i c];exact L.wd i hi
 .have:(∃ s∈gE ts t.key Ti.up,s.wd=true/\i<=s.cC/\s.Is u v)↔(i<=l+1/\t.Is u v)\/∃ s∈ts,s≠t/\s.wd=true/\i<=s.cC/\s.Is u v:=by
   constructor
   .rintro ⟨s,s1,s2⟩
    rcases (mm s).mp s1 with rfl|⟨q1,q2⟩
    .exact .inl ⟨by have:i<=t.cC+1:=s2.2.1;lia,s2.2.2⟩
    .exact .inr ⟨s,q1,λq=>q2 (q▸rfl),s2⟩
   .rintro (⟨q1,q2⟩|⟨s,s1,s2,s3⟩)
    .exact ⟨t.up,(mm _).mpr (.inl rfl),hw,by show i<=t.cC+1;lia,q2⟩
    .exact ⟨s,(mm _).mpr (.inr ⟨s1,kk s s1 s2⟩),s3⟩
  rw [this]
  have old:Ed n (R i) u v↔(i<=l/\t.Is u v)\/∃ s∈ts,s≠t/\s.wd=true/\i<=s.cC/\s.Is u v:=by
   rw [L.ed i hi]
   constructor
   .rintro ⟨s,s1,s2,s3,s4⟩
    by_cases q:s=t
    .subst q;exact .inl ⟨by lia,s4⟩
    .exact .inr ⟨s,s1,q,s2,s3,s4⟩
   .rintro (⟨q1,q2⟩|⟨s,s1,s2,s3⟩)
    .exact ⟨t,ht,hw,by lia,q2⟩
    .exact ⟨s,s1,s3⟩
  by_cases c:i=l+1
  .subst c;rw [at',W.TH hxn h2 hap,old]
   constructor
   .rintro ((⟨q,_⟩|q)|q)
    .lia
    .exact .inr q
    .exact .inl ⟨au _,q⟩
   .rintro (⟨_,q⟩|q)
    .exact .inr q
    .exact .inl (.inr q)
  .rw [hi' i c,old];exact or_congr_left (and_congr_left λ_=>by lia)
 .by_cases c:i=l+1
  .subst c;rw [at']
   by_cases d:(x:Int)∈R (l+1) t.x\/(x:Int)∈R (l+1) t.y
   .refine br (oA _ (ug ?_)) hs;refine N0 ((W.lk hxn h2 hap).r x hx') (lo.r a D.ha) λc hc=>?_
    rcases ((W.GW hxn h2 hap d).1 c).mp hc with q|q
    .rw [lo.eq D.ha hxn hx];exact L.mono (jv l) hl1 hxn _ q
    .rw [lo.eq D.ha h2 hy];exact L.mono (jv l) hl1 h2 _ q
   .rw [W.Tw hxn h2 hap (λq=>d (.inl q)) (λq=>d (.inr q))];exact L.sz _ hi x hx'
  .rw [hi' i c];exact L.sz i hi x hx'
 .rcases (mm u).mp hu with rfl|⟨q,_⟩
  .exact ⟨h1,h2,by show t.cC+1<=T;lia⟩
  .exact L.lt u q
 .exact (kK (f:=Ti.up) (λ_=>rfl) t.key).symm▸L.nd
 .rw [hi' 0 (by lia)];exact D.ap
 .rw [hi' i (by lia)];exact D.s2 i hi
 .rcases (mm u).mp hu with rfl|⟨q,_⟩
  .have:t.up.cC=l+1:=by show t.cC+1=l+1;lia
   rw [this,at'];exact .inl (((W.GW (x:=t.x) hxn h2 hap (.inl (W.me _ hxn))).1 _).mpr (.inr (W.me _ h2)))
  .have j:=D.jn u q;obtain ⟨u1,u2,u3⟩:=L.lt u q
   by_cases c:u.cC=l+1
   .rw [c] at j ⊢;rw [at'];exact .inl (W.WV hxn h2 hap (by lia) _ (j.resolve_right λq=>by lia))
   .rw [hi' _ c];exact j
def Dn.full (D:Dn n T ts R a b (l+1)) (hno:∀ t∈ts,t.wd=true->t.cC=l->(t.x:Int)∈R l a->(t.y:Int)∈R l a->False) (hl:l+1<=T) {x y:Nat}(hx:x<n) (hy:y<n) (h1:(x:Int)∈R l a) (h2:(y:Int)∈R l a):(y:Int)∈R (l+1) x:=by
 have L:=D.lv;have W:=L.wd l (by lia);have V:=L.wd (l+1) hl;have e:=W.eq D.ha hx h1;refine Yx (M:=λc=>c∈R (l+1) x) (l:=R l a) (λu v hm=>?_) ⟨x,h1,V.me x hx⟩ y h2;obtain ⟨t,t1,t2,t3,t4⟩:=(L.ed l (by lia) u v).mp ⟨a,D.ha,hm⟩;have m:=gj hm
 have ne:t.cC≠l:=λq=>by
  rcases t4 with p|p<;>obtain ⟨rfl,rfl⟩:=cJ p
  .exact hno t t1 t2 q m.1 m.2
  .exact hno t t1 t2 q m.2 m.1
 have E:Ed n (R (l+1)) u v:=(L.ed _ hl u v).mpr ⟨t,t1,t2,by lia,t4⟩;exact ⟨λhu=>(gj (Ed.at V E hx hu)).2,λhv=>(gj (Ed.at V (Ed.symm V E) hx hv)).2⟩
def Dn.aaR (D:Dn n T ts R a b (l+1)) (ht:t∈ts) (hw:t.wd=false) (hl:t.cC=l) (hl1:l+1<=T) (hj:(t.y:Int)∈R (l+1) t.x):Dn n T (gE ts t.key Ti.up) R a b (l+1):=by
 have L:=D.lv;obtain ⟨h1,h2,h3⟩:=L.lt t ht;have mm:=k9 (f:=Ti.up) L.nd ht;have kk:∀ u,u∈ts->u≠t->u.key≠t.key:=λu hu hne q=>hne (m7 L.nd hu ht q);refine ⟨⟨L.wd,λi hi u v=>?_,L.sz,λu hu=>?_,?_⟩,D.ha,D.hb,D.hk,D.ap,D.s2,λu hu=>?_⟩
 .rw [L.ed i hi]
  constructor
  .rintro ⟨s,s1,s2,s3⟩;exact ⟨s,(mm s).mpr (.inr ⟨s1,kk s s1 λq=>by rw [q,hw] at s2;exact absurd s2 (by decide)⟩),s2,s3⟩
  .rintro ⟨s,s1,s2,s3⟩
   rcases (mm s).mp s1 with rfl|⟨q,_⟩
   .exact absurd (hw.symm.trans s2) (by decide)
   .exact ⟨s,q,s2,s3⟩
 .rcases (mm u).mp hu with rfl|⟨q,_⟩
  .exact ⟨h1,h2,by show t.cC+1<=T;lia⟩
  .exact L.lt u q
 .exact (kK (f:=Ti.up) (λ_=>rfl) t.key).symm▸L.nd
 .rcases (mm u).mp hu with rfl|⟨q,_⟩
  .have:t.up.cC=l+1:=by show t.cC+1=l+1;lia
   rw [this];exact .inl hj
  .exact D.jn u q
def Dn.next (D:Dn n T ts R a b (l+1)) (hno:∀ t∈ts,t.wd=false->t.cC=l->¬ ((t.x:Int)∈R l a/\(t.y:Int)∉R l a)/\¬ ((t.x:Int)∉R l a/\(t.y:Int)∈R l a)):Dn n T ts R a b l:=by
 have L:=D.lv
 have hl:l<=T:=by have:=D.hk;lia
 refine ⟨L,D.ha,D.hb,by lia,D.ap,λi hi=>D.s2 i (by lia),λt ht=>?_⟩;obtain ⟨h1,h2,h3⟩:=L.lt t ht
 rcases D.jn t ht with j|⟨j1,j2⟩
 .exact .inl j
 .by_cases c:t.cC=l
  .cases hw:t.wd with
   | true =>
    have E:Ed n (R t.cC) t.x t.y:=(L.ed _ h3 _ _).mpr ⟨t,ht,hw,au _,.inl rfl⟩
    exact .inl (gj (Ed.at (L.wd _ h3) E (by lia) ((L.wd _ h3).me _ (by lia)))).2
   | false =>
    have q:=hno t ht hw c;have W:=L.wd l hl;have ap:∀ z:Int,z∈R l a->z∉R l b:=λz q1 q2=>D.apart hl (by rw [W.same D.ha D.hb q1 q2];exact W.me b D.hb);rw [c] at j2
    rcases j2 with ⟨p1,p2⟩|⟨p1,p2⟩
    .exact absurd ⟨p1,λp=>ap _ p p2⟩ q.1
    .exact absurd ⟨λp=>ap _ p p1,p2⟩ q.2
  .exact .inr ⟨by lia,j2⟩
def Lv.adopt (L:Lv n T ts R) (ht:t∈ts) (hw:t.wd=false) (hap:∀ i,i<=t.cC->(t.y:Int)∉R i t.x) (hs:∀ i,i<=t.cC->((R i t.x).length+(R i t.y).length+2)*2^i<=2*n):Lv n T (gE ts t.key Ti.vU) (LC R t.cC t.x t.y):=by
 obtain ⟨h1,h2,h3⟩:=L.lt t ht
 have hxn:t.x<n:=by lia
 have mm:=k9 (f:=Ti.vU) L.nd ht;have kk:∀ u,u∈ts->u≠t->u.key≠t.key:=λu hu hne q=>hne (m7 L.nd hu ht q);have lo:∀ i,i<=t.cC->LC R t.cC t.x t.y i=lk (R i) t.x t.y:=λi hi=>if_pos hi;have hi':∀ i,¬ i<=t.cC->LC R t.cC t.x t.y i=R i:=λi hi=>if_neg hi;refine ⟨λi hi=>?_,λi hi u v=>?_,λi hi x hx'=>?_,λu hu=>?_,?_⟩
 .by_cases c:i<=t.cC
  .rw [lo i c];exact (L.wd i hi).lk hxn h2 (hap i c)
  .rw [hi' i c];exact L.wd i hi
 .have:(∃ s∈gE ts t.key Ti.vU,s.wd=true/\i<=s.cC/\s.Is u v)↔(∃ s∈ts,s.wd=true/\i<=s.cC/\s.Is u v)\/(i<=t.cC/\t.Is u v):=by
   constructor
   .rintro ⟨s,s1,s2⟩
    rcases (mm s).mp s1 with rfl|⟨q1,q2⟩
    .exact .inr ⟨s2.2.1,s2.2.2⟩
    .exact .inl ⟨s,q1,s2⟩
   .rintro (⟨s,s1,s2,s3⟩|⟨q1,q2⟩)
    .exact ⟨s,(mm _).mpr (.inr ⟨s1,kk s s1 λq=>by rw [q,hw] at s2;exact absurd s2 (by decide)⟩),s2,s3⟩
    .exact ⟨t.vU,(mm _).mpr (.inl rfl),rfl,q1,q2⟩
  rw [this,← L.ed i hi]
  by_cases c:i<=t.cC
  .rw [lo i c,(L.wd i hi).TH hxn h2 (hap i c)];exact or_congr_right ⟨λq=>⟨c,q⟩,λq=>q.2⟩
  .rw [hi' i c];exact ⟨.inl,λq=>q.elim id λq=>absurd q.1 c⟩
 .by_cases c:i<=t.cC
  .rw [lo i c]
   by_cases d:(x:Int)∈R i t.x\/(x:Int)∈R i t.y
   .rw [((L.wd i hi).GW hxn h2 (hap i c) d).2];exact hs i c
   .rw [(L.wd i hi).Tw hxn h2 (hap i c) (λq=>d (.inl q)) (λq=>d (.inr q))];exact L.sz _ hi x hx'
  .rw [hi' i c];exact L.sz i hi x hx'
 .rcases (mm u).mp hu with rfl|⟨q,_⟩
  .exact ⟨h1,h2,h3⟩
  .exact L.lt u q
 .exact (kK (f:=Ti.vU) (λ_=>rfl) t.key).symm▸L.nd
def Lv.Lp (L:Lv n T ts R) (ht:t∈ts) (hap:∀ i,i<=t.cC->(t.y:Int)∉R i t.x) {i x:Nat}(hi:i<=T) (hx:x<n):∀ c∈R i x,c∈LC R t.cC t.x t.y i x:=by
 obtain ⟨h1,h2,h3⟩:=L.lt t ht
 by_cases c:i<=t.cC
 .have e:LC R t.cC t.x t.y i=lk (R i) t.x t.y:=if_pos c;rw [e];exact (L.wd i hi).WV (by lia) h2 (hap i c) hx
 .have e:LC R t.cC t.x t.y i=R i:=if_neg c;rw [e];exact λ_ h=>h
theorem Dn.adopt (D:Dn n T ts R a b (l+1)) (ht:t∈ts) (hw:t.wd=false) (hl:t.cC=l) (h:(t.x:Int)∈R l a/\(t.y:Int)∉R l a\/(t.x:Int)∉R l a/\(t.y:Int)∈R l a) :
  (∀ i,i<=t.cC->(t.y:Int)∉R i t.x)/\Lv n T (gE ts t.key Ti.vU) (LC R t.cC t.x t.y)/\Jn (gE ts t.key Ti.vU) (LC R t.cC t.x t.y):=by
 have L:=D.lv;obtain ⟨h1,h2,h3⟩:=L.lt t ht
 have hxn:t.x<n:=by lia
 have W:=L.wd t.cC h3
 have j:(t.x:Int)∈R t.cC a/\(t.y:Int)∈R t.cC b\/(t.x:Int)∈R t.cC b/\(t.y:Int)∈R t.cC a:=by
  rcases D.jn t ht with j|j
  .rw [← hl] at h
   rcases h with ⟨p1,p2⟩|⟨p1,p2⟩
   .exact absurd (by rw [W.eq D.ha hxn p1];exact j) p2
   .exact absurd (by rw [W.eq D.ha h2 p2];exact W.sy hxn h2 j) p1
  .exact j.2
 -- at each lower level the one end is on the one side,the other on the other
 have j':∀ i,i<=t.cC->(R i t.x=R i a/\R i t.y=R i b)\/(R i t.x=R i b/\R i t.y=R i a):=λi hi=>by
  have V:=L.wd i (by lia)
  rcases j with ⟨p1,p2⟩|⟨p1,p2⟩
  .exact .inl ⟨(V.eq D.ha hxn (L.mono hi h3 D.ha _ p1)).symm,(V.eq D.hb h2 (L.mono hi h3 D.hb _ p2)).symm⟩
  .exact .inr ⟨(V.eq D.hb hxn (L.mono hi h3 D.hb _ p1)).symm,(V.eq D.ha h2 (L.mono hi h3 D.ha _ p2)).symm⟩
 have hap:∀ i,i<=t.cC->(t.y:Int)∉R i t.x:=λi hi q=>by
  have V:=L.wd i (by lia);have e:=V.eq hxn h2 q;have n:=D.apart (i:=i) (by lia)
  rcases j' i hi with ⟨p1,p2⟩|⟨p1,p2⟩
  .exact n (by rw [← p1,e,p2];exact V.me b D.hb)
  .exact n (by rw [← p2,← e,p1];exact V.me b D.hb)
 have L':=L.adopt ht hw hap λi hi=>by
  have:=D.s2 i (by lia)
  rcases j' i hi with ⟨p1,p2⟩|⟨p1,p2⟩
  .rw [p1,p2];exact this
  .rw [p1,p2,Qc (R i b).length];exact this
 refine ⟨hap,L',λu hu=>?_⟩
 have lo:∀ i,i<=t.cC->∀ z:Nat,(z:Int)∈R i t.x\/(z:Int)∈R i t.y->∀ c,c∈LC R t.cC t.x t.y i z↔c∈R i t.x\/c∈R i t.y:=λi hi z hz=>by
  have:LC R t.cC t.x t.y i=lk (R i) t.x t.y:=if_pos hi;rw [this];exact ((L.wd i (by lia)).GW hxn h2 (hap i hi) hz).1
 rcases (k9 (f:=Ti.vU) L.nd ht u).mp hu with rfl|⟨q,_⟩
 .exact (lo t.cC (au _) t.x (.inl (W.me _ hxn)) _).mpr (.inr (W.me _ h2))
 .obtain ⟨u1,u2,u3⟩:=L.lt u q
  rcases D.jn u q with j|⟨k1,k2⟩
  .exact L.Lp ht hap u3 (by lia) _ j
  .have V:=L.wd _ u3
   have c:u.cC<=t.cC:=by lia
   rcases j' _ c with ⟨p1,p2⟩|⟨p1,p2⟩<;>rcases k2 with ⟨k3,k4⟩|⟨k3,k4⟩<;>rw [← p1] at *<;>rw [← p2] at *
   .exact (lo _ c _ (.inl k3) _).mpr (.inr k4)
   .exact (lo _ c _ (.inr k3) _).mpr (.inl k4)
   .exact (lo _ c _ (.inr k3) _).mpr (.inl k4)
   .exact (lo _ c _ (.inl k3) _).mpr (.inr k4)
def Lv.aaV (L:Lv n T ts R) (J:Jn ts R) (ht:t∈ts) (hw:t.wd=false):Lv n T (ts.filter λu=>decide (u.key≠t.key)) R/\Jn (ts.filter λu=>decide (u.key≠t.key)) R:=by
 have mm:∀ u,u∈ts.filter (λu=>decide (u.key≠t.key))↔u∈ts/\u≠t:=λu=>by
  rw [dX,decide_eq_true_iff];exact and_congr_right λhu=>not_congr ⟨λq=>m7 L.nd hu ht q,λq=>q▸rfl⟩
 refine ⟨⟨L.wd,λi hi u v=>?_,L.sz,λu hu=>L.lt u ((mm u).mp hu).1,(wR _ kO).nodup L.nd⟩,λu hu=>J u ((mm u).mp hu).1⟩;rw [L.ed i hi]
 constructor
 .rintro ⟨s,s1,s2,s3⟩;exact ⟨s,(mm s).mpr ⟨s1,λq=>by rw [q,hw] at s2;exact absurd s2 (by decide)⟩,s2,s3⟩
 .rintro ⟨s,s1,s2⟩;exact ⟨s,((mm s).mp s1).1,s2⟩
def Lv.put (L:Lv n T ts R) {x y:Nat}(hxy:x<y) (hy:y<n) (hk:((x:Int),(y:Int))∉ts.map Ti.key):Lv n T (ts++[⟨x,y,0,false⟩]) R:=by
 refine ⟨L.wd,λi hi u v=>?_,L.sz,λu hu=>?_,?_⟩
 .rw [L.ed i hi]
  constructor
  .rintro ⟨s,s1,s2⟩;exact ⟨s,dU _ s1,s2⟩
  .rintro ⟨s,s1,s2,s3⟩
   rcases aQ.mp s1 with q|q
   .exact ⟨s,q,s2,s3⟩
   .rw [ay.mp q] at s2;exact absurd s2 bD
 .rcases aQ.mp hu with q|q
  .exact L.lt u q
  .rw [ay.mp q];exact ⟨hxy,hy,aO _⟩
 .rw [a9,gH];exact ⟨L.nd,by simp,λp hp q hq e=>hk (by rw [pO,ay] at hq;have e2:p=((x:Int),(y:Int)):=e.trans hq;rw [← e2];exact hp)⟩
def Lv.start (n T:Nat) (hn:2^(T+1)<=n\/T=0):Lv n T [] (λ_ i=>[(i:Int)]) :=
 ⟨λi _=>Wd.start n,λi _ u v=>⟨λ⟨j,_,hm⟩=>by simp [al] at hm,λ⟨t,h,_⟩=>nomatch h⟩,λi hi x hx=>by
  show 2*2^i<=2*n
  refine Nat.mul_le_mul_left 2 ?_
  rcases hn with h|h
  .exact br (yQ (by decide) (by lia)) h
  .have:i=0:=by lia
   subst this
   simp;lia,(λt h=>nomatch h),pM⟩
theorem CQ {α:Type} [DecidableEq α]:∀ {l m:List α},l.Nodup->(∀ x∈l,x∈m)->l.length<=m.length
 | [],m,_,_=>aO _
 | a::l,m,hn,h=>by
  obtain ⟨h1,h2⟩:=a7.mp hn;have hm:=h a aw;have:=CQ (l:=l) (m:=m.erase a) h2 λx hx=>(List.mem_erase_of_ne (λe:x=a=>h1 (e▸hx))).mpr (h x (ai _ hx));rw [LP hm] at this;have:=uG hm;simp only [bI];lia
structure Lo1 (n T lv s o:Nat) (ts:List Ti) (R:Nat->Nat->List Int) (ps:List (Int×Int)) (i:Nat) (ts1:List Ti) (R1:Nat->Nat->List Int):Prop where
 dn:Dn n T ts1 R1 s o (lv+1)
 rl:R1 lv=R lv
 ks:ts1.map Ti.key=ts.map Ti.key
 pend:∀ t∈ts1,t.wd=true->t.cC=lv->(t.x:Int)∈R lv s->(t.y:Int)∈R lv s->t.key∈ps.drop i
 rem:∀ p∈ps.drop i,∃ t∈ts1,t.key=p/\t.wd=true/\t.cC=lv/\(t.x:Int)∈R lv s/\(t.y:Int)∈R lv s
 all:∀ p∈ps,∃ t∈ts1,t.key=p/\t.wd=true
variable {s o lv i:Nat}{ps:List (Int×Int)}{p:Int×Int}{ts1:List Ti}{R1:Nat->Nat->List Int}
def Lo1.step (L:Lo1 n T lv s o ts R ps i ts1 R1) (hT:∀ j,2^(j+1)<=n->j<=T) (hs:((R lv s).length+1)*2^(lv+1)<=2*n) (hn:ps.Nodup) (hi:ps[i]?=some p) :
  ∃ t∈ts1,t.key=p/\t.wd=true/\t.cC+1<=T/\(t.y:Int)∉R1 (t.cC+1) t.x/\Lo1 n T lv s o ts R ps (i+1) (gE ts1 t.key Ti.up) (upR R1 (t.cC+1) t.x t.y):=by
 obtain ⟨hlt,he⟩:=aC.mp hi
 have ed:ps.drop i=p::ps.drop (i+1):=by rw [fQ hlt,he]
 have hpn:p∉ps.drop (i+1):=by
  have:=(V1 i ps).nodup hn;rw [ed] at this;exact (a7.mp this).1
 obtain ⟨t,t1,t2,t3,t4,t5,t6⟩:=L.rem p (by rw [ed];exact aw);have hnd:=L.dn.lv.nd;have q:=L.dn.aaY hT (by rw [L.rl];exact hs) t1 t3 t4 (by rw [L.rl];exact t5) (by rw [L.rl];exact t6);have mm:=k9 (f:=Ti.up) hnd t1;rw [← t4] at q;refine ⟨t,t1,t2,t3,q.1,q.2.1,by rw [t4] at q ⊢;exact q.2.2,?_,?_,λu hu h1 h2 h3 h4=>?_,λp' hp'=>?_,λp' hp'=>?_⟩
 .show (if _ then _ else _)=_
  rw [if_neg (by lia)];exact L.rl
 .rw [kK (f:=Ti.up) (λ_=>rfl)];exact L.ks
 .rcases (mm u).mp hu with rfl|⟨h5,h6⟩
  .exact absurd h2 (by show ¬ t.cC+1=lv;lia)
  .have:=L.pend u h5 h1 h2 h3 h4;rw [ed] at this;exact (aq.mp this).resolve_left λe=>h6 (e.trans t2.symm)
 .obtain ⟨u,u1,u2,u3⟩:=L.rem p' (by rw [ed];exact ai _ hp');exact ⟨u,(mm u).mpr (.inr ⟨u1,λe=>hpn (by rw [← t2,← e,u2];exact hp')⟩),u2,u3⟩
 .obtain ⟨u,u1,u2,u3⟩:=L.all p' hp'
  by_cases c:u.key=t.key
  .exact ⟨t.up,(mm _).mpr (.inl rfl),by rw [← u2,c];rfl,t3⟩
  .exact ⟨u,(mm u).mpr (.inr ⟨u1,c⟩),u2,u3⟩
structure Pr (n T lv s o:Nat) (ts:List Ti) (R:Nat->Nat->List Int) (ps:List (Int×Int)) (i:Nat) (ts1:List Ti):Prop where
 dn:Dn n T ts1 R s o (lv+1)
 ks:ts1.map Ti.key=ts.map Ti.key
 full:lv+1<=T->∀ x y,x<n->y<n->(x:Int)∈R lv s->(y:Int)∈R lv s->(y:Int)∈R (lv+1) x
 rem:∀ p∈ps.drop i,∃ t∈ts1,t.key=p/\t.wd=false/\t.cC=lv
 done:∀ t∈ts1,t.wd=false->t.cC=lv->t.key∈ps.drop i\/((t.x:Int)∉R lv s/\(t.y:Int)∉R lv s)
def Pr.at (L:Pr n T lv s o ts R ps i ts1) (hn:ps.Nodup) (hi:ps[i]?=some p):∃ t∈ts1,t.key=p/\t.wd=false/\t.cC=lv/\ps.drop i=p::ps.drop (i+1)/\p∉ps.drop (i+1):=by
 obtain ⟨hlt,he⟩:=aC.mp hi
 have ed:ps.drop i=p::ps.drop (i+1):=by rw [fQ hlt,he]
 obtain ⟨t,t1,t2,t3,t4⟩:=L.rem p (by rw [ed];exact aw);refine ⟨t,t1,t2,t3,t4,ed,?_⟩;have:=(V1 i ps).nodup hn;rw [ed] at this;exact (a7.mp this).1
def Pr.zero (L:Pr n T lv s o ts R ps i ts1) (hn:ps.Nodup) (hi:ps[i]?=some p) (h1:p.1∉R lv s) (h2:p.2∉R lv s):Pr n T lv s o ts R ps (i+1) ts1:=by
 obtain ⟨t,t1,t2,t3,t4,ed,hp⟩:=L.at hn hi;refine ⟨L.dn,L.ks,L.full,λq hq=>L.rem q (by rw [ed];exact ai _ hq),λu u1 u2 u3=>?_⟩
 rcases L.done u u1 u2 u3 with h|h
 .rw [ed] at h
  rcases aq.mp h with e|h
  .have e1:(u.x:Int)=p.1:=by rw [← e];rfl
   have e2:(u.y:Int)=p.2:=by rw [← e];rfl
   exact .inr (by rw [e1,e2];exact ⟨h1,h2⟩)
  .exact .inl h
 .exact .inr h
def Pr.two (L:Pr n T lv s o ts R ps i ts1) (hT:∀ j,2^(j+1)<=n->j<=T) (hs:((R lv s).length+1)*2^(lv+1)<=2*n) (hn:ps.Nodup) (hi:ps[i]?=some p) (h1:p.1∈R lv s) (h2:p.2∈R lv s):∃ t∈ts1,t.key=p/\t.wd=false/\Pr n T lv s o ts R ps (i+1) (gE ts1 t.key Ti.up):=by
 obtain ⟨t,t1,t2,t3,t4,ed,hp⟩:=L.at hn hi;subst t2;have hl:=L.dn.lv.lt t t1;have hT1:=L.dn.few hT hs (x:=t.x) (y:=t.y) h1 h2 (by lia);have mm:=k9 (f:=Ti.up) L.dn.lv.nd t1;refine ⟨t,t1,rfl,t3,L.dn.aaR t1 t3 t4 hT1 (L.full hT1 _ _ (by lia) hl.2.1 h1 h2),?_,L.full,λq hq=>?_,λu hu h3 h4=>?_⟩
 .rw [kK (f:=Ti.up) (λ_=>rfl)];exact L.ks
 .obtain ⟨u,u1,u2,u3⟩:=L.rem q (by rw [ed];exact ai _ hq);exact ⟨u,(mm u).mpr (.inr ⟨u1,λe=>hp (by rw [← e,u2];exact hq)⟩),u2,u3⟩
 .rcases (mm u).mp hu with rfl|⟨h5,h6⟩
  .exact absurd h4 (by show ¬ t.cC+1=lv;lia)
  .rcases L.done u h5 h3 h4 with h|h
   .rw [ed] at h;exact .inl ((aq.mp h).resolve_left h6)
   .exact .inr h
def Pr.one (L:Pr n T lv s o ts R ps i ts1) (hn:ps.Nodup) (hi:ps[i]?=some p) (h:p.1∈R lv s/\p.2∉R lv s\/p.1∉R lv s/\p.2∈R lv s):∃ t∈ts1,t.key=p/\(∀ i,i<=t.cC->(t.y:Int)∉R i t.x)/\Lv n T (gE ts1 t.key Ti.vU) (LC R t.cC t.x t.y)/\Jn (gE ts1 t.key Ti.vU) (LC R t.cC t.x t.y):=by
 obtain ⟨t,t1,t2,t3,t4,ed,hp⟩:=L.at hn hi;subst t2;exact ⟨t,t1,rfl,L.dn.adopt t1 t3 t4 h⟩
def Pr.fin (L:Pr n T lv s o ts R ps i ts1) (hi:ps.length<=i):Dn n T ts1 R s o lv:=L.dn.next λt ht h1 h2=>by
 rcases L.done t ht h1 h2 with h|⟨h3,h4⟩
 .rw [Qx.mpr hi] at h;cases h
 .exact ⟨λq=>h3 q.1,λq=>h4 q.2⟩
end
end Rm
namespace Rm
def gF (ts:List Ti):Nat:=(ts.map Ti.cC).sum
def kL (t:Ti) (ts:List Ti):gF (t::ts)=t.cC+gF ts:=by unfold gF;rw [aV,gh]
def Kh (ts ts':List Ti):gF (ts++ts')=gF ts+gF ts':=by unfold gF;rw [a9,Zc]
theorem N2 {k:Int×Int}{f:Ti->Ti}:∀ {ts:List Ti},k∉ts.map Ti.key->gE ts k f=ts
 | [],_=>rfl
 | t::ts,h=>by
  rw [aV,aq,not_or] at h;unfold gE;rw [aV,if_neg λe=>h.1 e.symm];exact congrArg _ (N2 h.2)
theorem Hy {u:Ti}:∀ {ts:List Ti},(ts.map Ti.key).Nodup->u∈ts->gF (gE ts u.key Ti.up)=gF ts+1
 | [],_,hu=>nomatch hu
 | t::ts,hn,hu=>by
  rw [aV,a7] at hn
  by_cases c:t.key=u.key
  .have e:=N2 (f:=Ti.up) (c▸hn.1);unfold gE at e ⊢;rw [aV,if_pos c,e,kL,kL]
   show t.cC+1+_=_
   lia
  .have hu':u∈ts:=(aq.mp hu).resolve_left λe=>c (by rw [e]);have ih:=Hy hn.2 hu';unfold gE at ih ⊢;rw [aV,if_neg c,kL,kL,ih];lia
def Vj (k:Int×Int) (ts:List Ti):gF (gE ts k Ti.vU)=gF ts:=by
 unfold gF gE;rw [cz]
 congr 1
 refine kN λt _=>?_
 show Ti.cC (if t.key=k then t.vU else t)=t.cC
 split<;>rfl
theorem GC {u:Ti}:∀ {ts:List Ti},(ts.map Ti.key).Nodup->u∈ts->gF (ts.filter λv=>decide (v.key≠u.key))+u.cC=gF ts
 | [],_,hu=>nomatch hu
 | t::ts,hn,hu=>by
  rw [aV,a7] at hn
  by_cases c:t.key=u.key
  .have et:u=t:=by
    rcases aq.mp hu with e|e
    .exact e
    .exact absurd (c▸bg e) hn.1
   have ef:(ts.filter λv=>decide (v.key≠u.key))=ts:=i7.mpr λv hv=>decide_eq_true λe=>hn.1 (by rw [c,← e];exact bg hv);rw [kx,if_neg (by simp [c]),ef,kL,et];lia
  .have hu':u∈ts:=(aq.mp hu).resolve_left λe=>c (by rw [e]);have ih:=GC hn.2 hu';rw [kx,if_pos (by simp [c]),kL,kL];lia
end Rm
namespace L2
abbrev Ln (sp:Sp) (k:Nat):Prop:=∀ vs H Q E,sp vs H Q E->vs.length=k
abbrev Rn (sp:Sp) (rd:TS) (N:List bB):Prop:=∀ vs H Q E,sp vs H Q E->rd { nx:=λ_ H'=>Q .non H',rt:=Q } (start N vs) H
abbrev Rx (sp:Sp) (rd:XK->TS) (N:List bB):Prop:=∀ vs H Q E,sp vs H Q E->rd E { nx:=λ_ H'=>Q .non H',rt:=Q } (start N vs) H
def kP {H H':Hp}{q:af}{o:HO}(e:upd H q o=H') (h:H q=none):bJ H H'/\H' q=some o:=e▸⟨bJ.cH h,aF⟩
def gZ.m {j k:Nat}{A:cL}(r:gZ k A) (h:j<=k:=by decide):gZ j A:=r.mono h
end L2
local macro_rules | `(tactic| walk_at "s")=>`(tactic| exact ⟨rfl,rfl,rfl,by decide +kernel,rfl,by decide +kernel,by decide +kernel⟩)
local macro_rules | `(tactic| k_in)=>`(tactic| (lk;refine L2.zf ?_;lk))
local macro_rules | `(tactic| k_go)=>`(tactic| (lk;refine L2.kI ?_;lk))
local macro_rules | `(tactic| walk_at "l")=>`(tactic| first|(intro vs H Q E h;cases h;subst_vars;rfl)|(intro vs H Q E h;repeat' (first|(obtain ⟨e,_⟩:=h;exact e▸rfl)|(obtain ⟨_,h⟩:=h))))
namespace K63
open PySem PySem.Spec PyProof.Rows L2
abbrev pV:List bB:=["self","a","b"]
abbrev nl_1:List bB:=["_law_script","_law_digits_here","_law_head","_law_n","_law_most","_law_keeper","_law_standing","_law_cells","_law_due","_law_outs","_law_table","_law_k","_law_tie"]
abbrev EN:List bB:=["level","side","risen","found"]
abbrev Ki:List bB:=["n","standing","a","b","tie"]
abbrev Yy:List bB:=["_law_head","_law_n","_law_ties","_law_way","_law_a","_law_b","_law_turn"]
abbrev uN:List bB:=["self","tie"]
abbrev Hz:List bB:=["self","tie","weight"]
abbrev nl_7:List bB:=["_law_keeper","_law_due","_law_standing","_law_table","_law_tie","_law_most","_law_outs","_law_trail"]
abbrev Kj:List bB:=["n","standing","a","b"]
abbrev xv:List bB:=["n","a","b"]
abbrev N3:List bB:=["_law_told","_law_due","_law_most","_law_outs"]
abbrev N4:List bB:=["_law_keeper","_law_put","_law_a","_law_b"]
abbrev Wx:List bB:=["_law_keeper","_law_due","_law_standing","_law_table","_law_tie","_law_most"]
abbrev qX:List bB:=["self","n"]
abbrev Wy:List bB:=["_law_keeper","_law_head","_law_n","_law_standing","_law_a","_law_b"]
abbrev Wz:List bB:=["row","a","b","along","there","back","k","m","inner","outer"]
abbrev N5:List bB:=["a","b","level","in_wood","n"]
abbrev N6:List bB:=["self","a","b","tie","trail"]
abbrev GD:List bB:=["ties","weight_of"]
abbrev WB:List bB:=["_law_cell","_law_base","_law_many","_law_row","_law_k"]
abbrev WC:List bB:=["self","level","tie","side","risen","other","ends"]
abbrev Ao:List bB:=["n","thing"]
abbrev Ap:List bB:=["self","a"]
abbrev WD:List bB:=["_law_script","_law_n","_law_row","_law_digit"]
abbrev N7:List bB:=["_law_script","_law_k"]
abbrev N8:List bB:=["self","level","tie"]
abbrev WE:List bB:=["_law_cell","_law_k","_law_n","_law_table"]
abbrev WG:List bB:=["self","tie","level","looking","trail"]
abbrev WH:List bB:=["_law_n","_law_level_here","_law_power"]
abbrev WI:List bB:=["_law_due","_law_trail","_law_turn"]
abbrev WJ:List bB:=["_law_cell","_law_base","_law_many"]
abbrev WK:List bB:=["_law_keeper","_law_head","_law_n"]
abbrev WL:List bB:=["_law_table","_law_tie","_law_row"]
abbrev Aq:List bB:=["thing"]
abbrev Ar:List bB:=["trail"]
abbrev xA:List bB:=["self"]
abbrev GE:List bB:=["_law_row"]
abbrev WM:List bB:=["self","level","wooden","ties"]
abbrev Si:List bB:=["_law_head","_law_n"]
abbrev Kk:List bB:=["n","ties"]
abbrev N9:List bB:=["tie","side"]
abbrev Oa:List bB:=["_law_script"]
def lQ (i:Nat):dF:=PySem.Challenge.pw_tiewood_k63_whole_the_account.main.body.getD i (.Pass ⟨0,0,0,0⟩)
abbrev GF:dF:=lQ 3
abbrev GG:dF:=lQ 4
abbrev GH:dF:=lQ 5
abbrev stop:dF:=lQ 6
abbrev Ob:dF:=lQ 7
abbrev Oc:dF:=lQ 9
abbrev Sj:dF:=lQ 10
abbrev Sk:dF:=lQ 11
abbrev xB:dF:=lQ 21
abbrev Od:dF:=lQ 22
abbrev Kl:dF:=lQ 23
abbrev Oe:dF:=lQ 24
abbrev pW:dF:=lQ 26
abbrev oO:dF:=lQ 27
abbrev m8:dF:=lQ 28
abbrev zj:dF:=lQ 31
abbrev xC:dF:=lQ 32
abbrev CS:dF:=lQ 35
abbrev pq:dF:=lQ 36
abbrev ve:dF:=lQ 41
abbrev As:dF:=lQ 42
abbrev sM:dF:=lQ 43
abbrev CU:dF:=lQ 44
abbrev Au:dF:=lQ 45
abbrev GI:dF:=lQ 46
abbrev vf:dF:=lQ 47
abbrev Av:dF:=lQ 48
abbrev CV:dF:=lQ 49
abbrev vg:dF:=lQ 50
abbrev xD:dF:=lQ 51
abbrev vh:dF:=lQ 52
abbrev CW:dF:=lQ 53
abbrev slaw:dF:=lQ 54
abbrev sN:dF:=fi (lQ 29) 0
abbrev CY:dF:=fi (lQ 29) 1
abbrev CZ:dF:=fi (lQ 29) 2
abbrev GJ:dF:=fi (lQ 29) 3
abbrev xE:dF:=fi (lQ 29) 4
abbrev Aw:dF:=fi (lQ 29) 5
abbrev C2:dF:=fi (lQ 29) 6
abbrev pX:dF:=fi (lQ 33) 0
abbrev Ax:dF:=fi (lQ 33) 1
abbrev vi:dF:=fi (lQ 33) 2
abbrev xF:dF:=fi (lQ 33) 3
abbrev xG:dF:=fi (lQ 33) 4
abbrev pY:dF:=fi (lQ 33) 5
abbrev xH:dF:=fi (lQ 33) 6
abbrev nz:dF:=fi (lQ 33) 7
abbrev xI:dF:=fi (lQ 33) 8
abbrev xJ:dF:=fi (lQ 33) 9
abbrev sO:dF:=fi (lQ 37) 0
abbrev vj:dF:=fi (lQ 37) 1
abbrev zk:dF:=fi (lQ 37) 2
abbrev C3:dF:=fi (lQ 37) 6
abbrev vk:dF:=fi (lQ 37) 7
abbrev sP:dF:=fi (lQ 39) 0
def Mx:bH Aq Aq (aS GF):=by walk_at "s"
def My:bH Aq Aq (aS GG):=by walk_at "s"
def Mz:bH Ao Ao (aS GH):=by walk_at "s"
def Sl:bH ["n","level","needed"] ["n"] (aS stop):=by walk_at "s"
def Sn:bH ["a","b"] ["a","b"] (aS Ob):=by walk_at "s"
def So:bH Kk Kk (aS Oc):=by walk_at "s"
def Vk:bH Ar Ar (aS Sj):=by walk_at "s"
def Og:bH ["trail","finds"] Ar (aS Sk):=by walk_at "s"
def EO:bH ["row"] ["row"] (aS xB):=by walk_at "s"
def Km:bH ["row","a","k"] ["row","a"] (aS Od):=by walk_at "s"
def GK:bH ["row","other","a","b","k"] ["row","other","a","b"] (aS Kl):=by walk_at "s"
def C5:bH Wz ["row","a","b"] (aS Oe):=by walk_at "s"
def xK:bH Ao Ao (aS pW):=by walk_at "s"
def wj:bH xv xv (aS oO):=by walk_at "s"
def pZ:bH xv xv (aS m8):=by walk_at "s"
def MA:bH GD GD (aS zj):=by walk_at "s"
def ER:bH N9 N9 (aS xC):=by walk_at "s"
def zl:bH Ki Kj (aS CS):=by walk_at "s"
def n6:bH Ki Kj (aS pq):=by walk_at "s"
def C7:bH N7 N7 (aS ve):=by walk_at "s"
def HA:bH ["_law_found"] ["_law_found"] (aS As):=by walk_at "s"
def jO:bH Yy Si (aS sM):=by walk_at "s"
def oP:bH ["_law_cell","_law_k","_law_n","_law_table","_law_way","_law_wood","_law_most","_law_a","_law_b"] WE (aS CU):=by walk_at "s"
def HE:bH Wy WK (aS Au):=by walk_at "s"
def C8:bH WH ["_law_n"] (aS GI):=by walk_at "s"
def Da:bH N4 N4 (aS vf):=by walk_at "s"
def HF:bH WL ["_law_table","_law_tie"] (aS Av):=by walk_at "s"
def Kn:bH N3 N3 (aS CV):=by walk_at "s"
def De:bH WI ["_law_due","_law_trail"] (aS vg):=by walk_at "s"
def ES:bH WB WJ (aS xD):=by walk_at "s"
def Dg:bH WD ["_law_script","_law_n"] (aS vh):=by walk_at "s"
def Ay:bH nl_7 Wx (aS CW):=by walk_at "s"
def Ko:bH nl_1 Oa (aS slaw):=by walk_at "s"
def A3:bH qX qX (aS sN):=by walk_at "s"
def Kq:bH ["self","row","place"] ["self","row"] (aS CY):=by walk_at "s"
def Kr:bH pV pV (aS CZ):=by walk_at "s"
def MB:bH ["self","a","b","row"] pV (aS GJ):=by walk_at "s"
def ET:bH pV pV (aS xE):=by walk_at "s"
def HG:bH Ap Ap (aS Aw):=by walk_at "s"
def Kt:bH Ap Ap (aS C2):=by walk_at "s"
def xM:bH qX qX (aS pX):=by walk_at "s"
def HH:bH Hz Hz (aS Ax):=by walk_at "s"
def Dh:bH ["self","tie","wood"] uN (aS vi):=by walk_at "s"
def EU:bH uN uN (aS xF):=by walk_at "s"
def vm:bH ["self","tie","level","wood"] uN (aS xG):=by walk_at "s"
def oQ:bH WM ["self","level","wooden"] (aS pY):=by walk_at "s"
def EV:bH uN uN (aS xH):=by walk_at "s"
def sQ:bH ["self","level","tie","wood"] N8 (aS nz):=by walk_at "s"
def pC:bH WC N8 (aS xI):=by walk_at "s"
def pD:bH WG uN (aS xJ):=by walk_at "s"
def A4:bH qX qX (aS sO):=by walk_at "s"
def Di:bH Hz Hz (aS vj):=by walk_at "s"
def qJ:bH N6 pV (aS zk):=by walk_at "s"
def Ku:bH xA xA (aS C3):=by walk_at "s"
def Dj:bH xA xA (aS vk):=by walk_at "s"
def xN:bH pV pV (aS sP):=by walk_at "s"
structure CA where
  (bz Keeper:af)
structure EC where
  (Alike GV qm Pu:af)
structure Ex (K:ae) (mg:bB->Option aj) (C:af) (A:CA) (X:EC):Prop where
 IM:EA K C
 Vz:mg "Wood"=some (.ref C)
 uc:dI K C "n"
 mX:dI K C "rows"
 uw:EA K A.bz
 Pn:mg "Levels"=some (.ref A.bz)
 ig:dI K A.bz "level_of"
 gW:dI K A.bz "weight_of"
 jf:dI K A.bz "wooden"
 jG:dI K A.bz "woods"
 ql:EA K A.Keeper
 Pq:mg "Keeper"=some (.ref A.Keeper)
 kg:dI K A.Keeper "came"
 jg:dI K A.Keeper "levels"
 je:dI K A.Keeper "looked"
 kh:dI K A.Keeper "lost"
 ou:dI K A.Keeper "n"
 jH:dI K A.Keeper "risen"
 ki:dI K A.Keeper "wood"
 VG:mg "Alike"=some (.ref X.Alike)
 VD:mg "NoTie"=some (.ref X.GV)
 Nj:mg "TieError"=some (.ref X.qm)
 YG:mg "Tied"=some (.ref X.Pu)
 ud:Hu K X.Alike
 t7:Hu K X.GV
 yG:Hu K X.Pu
 tZ:hJ K (.ref X.Alike) (.ref X.qm)=some true
 ub:hJ K (.ref X.GV) (.ref X.qm)=some true
 yE:hJ K (.ref X.Pu) (.ref X.qm)=some true
 aaT:mg "all"=none
 YT:mg "bool"=none
 Os:mg "int"=none
 qT:mg "isinstance"=none
 TK:mg "len"=none
 IL:mg "list"=none
 WW:mg "max"=none
 W5:mg "min"=none
 BN:mg "range"=none
 aa0:mg "set"=none
 t8:mg "sorted"=none
 TB:mg "sum"=none
 VF:mg "tuple"=none
 aaX:mg "zip"=none
 FQ:∃ t:VH,mg "MOST_PLACES"=some (.int 200 t)
variable {P:bA}{w:cg}{K:ae}{mg:bB->Option aj}{base:cK}{f:af}{fd:fN}{sp:Sp}{C:af}{A:CA}{X:EC}
def Az (K:ae) (C:af):TS :=
 eX (Ca (qv (Mh K) (av (ao 0) (av (tC (.ty "int")) aY))) (Ny (qv (Mh K) (av (ao 0) (av (tC (.ty "bool")) aY)))))
def AA (K:ae) (C:af) (jD:Sp):TS :=
 eX (Ca (cQ jD [] E0 (av (ao 0) aY)) (G8 (pL λi j=>.bl (decide (i<=j))) (pL λi j=>.bl (decide (i<=j))) (tC (.int 1)) (ao 0) (tC (.int 200))))
def AB (K:ae) (C:af) (jD:Sp):TS :=
 eX (Ca (cQ jD [] E0 (av (ao 1) aY)) (G8 (pL λi j=>.bl (decide (i<=j))) (pL λi j=>.bl (decide (i<j))) (tC (.int 0)) (ao 1) (ao 0)))
def Kv (K:ae) (C:af):TS :=
 Ce (dj (cm (pL λi j=>.bl (decide (i<=j))) (ao 2) (ao 0)))
 (bN (LR 1 (tC (.int 1)) (pL λi j=>.int (i+j)))
 (LR 2 (tC (.int 2)) (rI FS λi j=>.int (i*j))))
def Sq (K:ae) (C:af):TS :=
 bN (dv (tC (.int 0)) (bx 1))
 (bN (dv (tC (.int 4)) (bx 2))
 (bN (Kv K C)
 (eX (ao 1))))
def GL (K:ae) (C:af):TS :=
 eX (Zd (dj (cm (pL λi j=>.bl (decide (i<j))) (ao 0) (ao 1))) (nC (av (ao 0) (av (ao 1) aY))) (nC (av (ao 1) (av (ao 0) aY))))
def GM (K:ae) (C:af) (qK:Sp):TS :=
 eX (qv (NX K) (av (kH 4 [0] (nE K (ao 1)) (LQ K 4 (nq (bx 0) (nq (bx 1) (nq (bx 2) (nq (bx 3) OH))))) xk (cm (pL λi j=>.int (i-j)) (cQ qK [] E0 (av (ao 4) aY)) (ao 2))) aY))
def Kw (K:ae) (C:af):TS :=
 eX (qv (NX K) (av (kH 4 [] (nE K (ao 0)) (LQ K 4 (nq (bx 0) (nq (bx 1) (nq (bx 2) (nq (bx 3) OH))))) xk (qv (v8 K) (av (ao 2) aY))) aY))
def Kx (K:ae) (C:af) (fk:Sp):TS :=
 bN (dv (kH 4 [] (nE K (ao 0)) (LQ K 4 (nq (bx 0) (nq (bx 1) (nq (bx 2) (nq (bx 3) OH))))) (tB (Nv (ao 3))) (ao 3)) (bx 1))
 (eX (Zd (pj K (ao 1)) (cm d8 (cQ fk [] E0 (av (ao 0) aY)) (tC (.int 1))) (cQ fk [] E0 (av (ao 0) aY))))
def sR (K:ae) (C:af):TS :=
 eX (Ro K (av (ao 0) (av (Gg (pQ K) (ao 0) (jB (tC (.int 1))) ia) aY)))
def GN (K:ae) (C:af):TS :=
 bN (dv (EK K "list" (qG K) (ao 0) (av (ao 1) aY)) (bx 2))
 (eX (cm d8 (Gg (pQ K) (ao 0) (jB (ao 2)) ia) (Gg (pQ K) (ao 0) (jB (tC (.int 1))) (jB (cm d8 (ao 2) (tC (.int 1)))))))
def Dk (K:ae) (C:af) (qb:Sp):TS :=
 bN (dv (EK K "list" (qG K) (ao 0) (av (ao 2) aY)) (bx 4))
 (eX (cm d8 (cm d8 (Gg (pQ K) (ao 0) ia (jB (cm d8 (ao 4) (tC (.int 1))))) (cQ qb [] E0 (av (ao 1) (av (ao 3) aY)))) (Gg (pQ K) (ao 0) (jB (ao 4)) ia)))
def GO (K:ae) (C:af) (eF:Sp):TS :=
 bN (dv (cQ eF [] E0 (av (ao 0) aY)) (bx 3))
 (bN (dv (EK K "list" (qG K) (ao 3) (av (nC (av (ao 1) (av (ao 2) aY))) aY)) (bx 4))
 (bN (dv (EK K "list" (qG K) (ao 3) (av (nC (av (ao 2) (av (ao 1) aY))) aY)) (bx 5))
 (bN (dv (qv JP (av (ao 4) (av (ao 5) aY))) (bx 6))
 (bN (dv (qv NI (av (ao 4) (av (ao 5) aY))) (bx 7))
 (bN (dv (Gg (pQ K) (ao 0) (jB (cm d8 (ao 6) (tC (.int 1)))) (jB (cm d8 (ao 7) (tC (.int 1))))) (bx 8))
 (bN (dv (cm d8 (Gg (pQ K) (ao 0) ia (jB (cm d8 (ao 6) (tC (.int 1))))) (Gg (pQ K) (ao 0) (jB (cm d8 (ao 7) (tC (.int 2)))) ia)) (bx 9))
 (eX (Zd (dj (cm (pL λi j=>.bl (decide (i<j))) (ao 4) (ao 5))) (nC (av (ao 9) (av (ao 8) aY))) (nC (av (ao 8) (av (ao 9) aY)))))))))))
def oe (K:ae) (C:af) (mR:Sp):TS :=
 iM (A1 (pj K (cQ mR [] E0 (av (ao 0) (av (ao 1) aY)))))
 se
 fH
def nA (K:ae) (C:af) (cE:Sp):TS :=
 bN (eE (cQ cE [] E0 (av (ao 0) (av (ao 1) aY))))
 (eE (cQ cE [] E0 (av (ao 0) (av (ao 2) aY))))
def oR (K:ae) (C:af) (bW:Sp):TS :=
 bN (eE (cQ bW [] E0 (av (ao 0) (av (ao 1) (av (ao 2) aY)))))
 (iM (dj (cm (kA K) (ao 1) (ao 2)))
 se
 fH)
def oS (K:ae) (C:af) (Pt:af):TS :=
 eX (Mr Pt ⟨119,28,119,61⟩ ((("in_order":bB)++".<locals>.")++"<lambda>") 1 (av (ao 0) aY))
def Ky (Fu:Ez K "in_order" "in_order" zj f fd) (T:Ex K mg C A X) {c Pt:af}(hcd:fd.code=.ref c) (CH:ik base c Pt) (B:base.BuiltinsAt mg Pt)
 (len:Ln sp 2) (run:Rn sp (oS K C Pt) GD):jr P w K mg base wM 1 f fd GD sp :=
 Fu.okC hcd MA len λA0 outer s H vs Q E hr h=>⟨oS K C Pt,
 bR (fE (RZ rfl rfl CH B hr.depth hr.Lo rfl T.t8 (bh (pv 0) cV) rfl rfl)),run vs H Q E h⟩
def sS (K:ae) (C:af):TS :=
 eX (qv (v8 K) (av (kH 1 [1] (nE K (ao 0)) (bx 0) (dj (cm (za K false) (ao 0) (ao 1))) (ao 0)) aY))
def Dl (K:ae) (C:af) (b0 dt:Sp):TS :=
 bN (eE (cQ b0 [] E0 (av (ao 0) (av (ao 2) (av (ao 3) aY)))))
 (bN (dv (cQ dt [] E0 (av (ao 2) (av (ao 3) aY))) (bx 4))
 (bN (iM (dj (cm (za K false) (ao 4) (ao 1)))
 se
 fH)
 (eX (ao 4))))
def qY (K:ae) (C:af) (b0 dt:Sp):TS :=
 bN (eE (cQ b0 [] E0 (av (ao 0) (av (ao 2) (av (ao 3) aY)))))
 (bN (dv (cQ dt [] E0 (av (ao 2) (av (ao 3) aY))) (bx 4))
 (bN (iM (dj (cm (za K true) (ao 4) (ao 1)))
 se
 fH)
 (eX (ao 4))))
def qZ (K:ae) (C:af):TS :=
 bN (iM (dj (cm (pL λi j=>.bl (decide (i<j))) (ao 1) (qv (v8 K) (av (ao 0) aY))))
 (eX (cm (dS K) (ao 0) (ao 1)))
 fH)
 (eX (tC (.int 0)))
def vn (K:ae) (C:af):TS :=
 eX (Ca (qv (Mh K) (av (ao 0) (av (tC (.ty "int")) aY))) (Ny (qv (Mh K) (av (ao 0) (av (tC (.ty "bool")) aY)))))
def m9 (K:ae) (C:af) (Pt:af):TS :=
 uJ (QH (av (cm d8 (ao 4) (tC (.int 1))) (av (ao 1) aY))) (bx 5)
 (bN (iM (wX (dj (cm (kA K) (ao 3) (tC (.int 1)))) (Ub (dj (cm (kA K) (ao 5) (cm d8 (ao 4) (tC (.int 1))))) (dj (cm (kA K) (ao 5) (cm (pL λi j=>.int (i-j)) (cm d8 (ao 4) (ao 1)) (tC (.int 1)))))))
 (eE (EK K "list" kq (ao 2) (av (nC (av (ao 4) (av (ao 5) aY))) aY)))
 fH)
 (bN (iM (wX (dj (cm (kA K) (ao 3) (tC (.int 2)))) (dj (cm (pL λi j=>.bl (decide (i<j))) (ao 5) (cm d8 (tC (.int 4)) (cm (rI (λ_ j=>0<j) λi j=>.int (i%j)) (cm (rI pP λi j=>.int (i/j)) (ao 0) (tC (.int 6))) (tC (.int 5)))))))
 (eE (EK K "list" kq (ao 2) (av (nC (av (ao 4) (av (ao 5) aY))) aY)))
 fH)
 (bN (iM (wX (dj (cm (kA K) (ao 3) (tC (.int 3)))) (Ub (dj (cm (kA K) (ao 5) (cm d8 (ao 4) (tC (.int 2))))) (wX (dj (cm (kA K) (ao 5) (cm d8 (ao 4) (tC (.int 1))))) (dj (cm (kA K) (cm (rI (λ_ j=>0<j) λi j=>.int (i%j)) (ao 4) (tC (.int 2))) (tC (.int 0)))))))
 (eE (EK K "list" kq (ao 2) (av (nC (av (ao 4) (av (ao 5) aY))) aY)))
 fH)
 (bN (iM (wX (dj (cm (kA K) (ao 3) (tC (.int 4)))) (wX (dj (cm (pL λi j=>.bl (decide (i<j))) (ao 5) (cm d8 (ao 4) (tC (.int 4))))) (Ub (dj (cm (pL λi j=>.bl (decide (i<j))) (ao 5) (cm (rI pP λi j=>.int (i/j)) (ao 1) (tC (.int 2))))) (Ub (dj (cm (pL λi j=>.bl (decide (j<=i))) (ao 4) (cm (rI pP λi j=>.int (i/j)) (ao 1) (tC (.int 2))))) (dj (cm (kA K) (ao 5) (cm d8 (ao 4) (tC (.int 1)))))))))
 (eE (EK K "list" kq (ao 2) (av (nC (av (ao 4) (av (ao 5) aY))) aY)))
 fH)
 (iM (wX (dj (cm (kA K) (ao 3) (tC (.int 5)))) (dj (cm (za K false) (cm (pL λi j=>.int (i-j)) (ao 5) (ao 4)) (nC (av (tC (.int 1)) (av (tC (.int 2)) (av (tC (.int 4)) (av (tC (.int 8)) aY))))))))
 (eE (EK K "list" kq (ao 2) (av (nC (av (ao 4) (av (ao 5) aY))) aY)))
 fH)))))
def rg (K:ae) (C:af) (Pt:af):TS :=
 uJ (Ad (av (ao 1) aY)) (bx 4)
 (m9 K C Pt)
def mw (K:ae) (C:af) (Pt:af):TS :=
 bN (dv (vX aY) (bx 2))
 (bN (iM (dj (cm (pL λi j=>.bl (decide (j<i))) (ao 1) (tC (.int 24))))
 (eX (kH 1 [] (Ad (av (qv JP (av (tC (.int 60)) (av (cm (pL λi j=>.int (i-j)) (ao 1) (tC (.int 1))) aY))) aY)) (bx 0) xk (nC (av (ao 0) (av (cm d8 (ao 0) (tC (.int 1))) aY)))))
 fH)
 (bN (dv (cm (rI (λ_ j=>0<j) λi j=>.int (i%j)) (ao 0) (tC (.int 6))) (bx 3))
 (bN (rg K C Pt)
 (bN (iM (dj (cm (pL λi j=>.bl (decide (j<i))) (cm (rI (λ_ j=>0<j) λi j=>.int (i%j)) (cm (rI pP λi j=>.int (i/j)) (ao 0) (tC (.int 3))) (tC (.int 3))) (tC (.int 0))))
 (eX (Gg (pQ K) (Ms Pt ⟨273,37,273,94⟩ ((("_law_shape":bB)++".<locals>.")++"<lambda>") (av (ao 2) aY)) ia (jB (tC (.int 36)))))
 fH)
 (bN (dv (cm (rI (λ_ j=>0<j) λi j=>.int (i%j)) (cm (rI pP λi j=>.int (i/j)) (ao 0) (tC (.int 30))) (cm d8 (qv (v8 K) (av (ao 2) aY)) (tC (.int 1)))) (bx 6))
 (eX (Gg (pQ K) (cm d8 (Gg (pQ K) (ao 2) (jB (ao 6)) ia) (Gg (pQ K) (ao 2) ia (jB (ao 6)))) ia (jB (tC (.int 36))))))))))
theorem EW (Fu:Ez K "_law_shape" "_law_shape" sM f fd) (T:Ex K mg C A X) {c Pt:af}(hcd:fd.code=.ref c) (CH:ik base c Pt) (B:base.BuiltinsAt mg Pt)
 (len:Ln sp 2) (run:Rn sp (mw K C Pt) Yy):jr P w K mg base wM 1 f fd Si sp :=
 Fu.okC hcd jO len λA0 outer s H vs Q E hr h=>⟨mw K C Pt,
 aE (nu jO.nd (L0 cV))
 (aE (jt (eV QJ (pv 1) cA (ir _))
 (bR (fE (kY ["_law_k"] (ys:=[]) [] rfl (yY rfl T.BN (bh (ja (F0 rfl) rfl T.W5 BootT.min (bh cA (bh (iU G6 (pv 1) cA) cV))) cV)) trivial (λ_ _ _=>ib (show (["_law_k"]:List bB).Nodup by decide +kernel)) (λ_ _ _=>kX) (λ_ _ _=>sg (bh (pv 0) (bh (iU jN (pv 0) cA) cV))))))
 fw)
 (aE (nu jO.nd (iU y3 (pv 0) cA))
 (aE (yZ eO rfl (yY rfl T.BN (bh (pv 1) cV)) (ib jO.nd)
 (bR (yZ eO rfl (FZ rfl T.BN (bh (iU jN (pv 4) cA) (bh (pv 1) cV))) (ib jO.nd)
 (aE (jt (PW.pt (sd (eV (l6 hr.units) (pv 3) cA (ir _)) (qz (PW.pt (Ab (eV (l6 hr.units) (pv 5) (iU jN (pv 4) cA) (ir _)) (B9 (eV (l6 hr.units) (pv 5) (iU G6 (iU jN (pv 4) (pv 1)) cA) (ir _))))))))
 (bR (jL (oK cZ fY fZ lZ (pv 2) (bh (sg (bh (pv 4) (bh (pv 5) cV))) cV))))
 fw)
 (aE (jt (PW.pt (sd (eV (l6 hr.units) (pv 3) cA (ir _)) (qz (eV JC (pv 5) (iU jN cA (iU y3 (iU uj (pv 0) cA) cA)) (ir _)))))
 (bR (jL (oK cZ fY fZ lZ (pv 2) (bh (sg (bh (pv 4) (bh (pv 5) cV))) cV))))
 fw)
 (aE (jt (PW.pt (sd (eV (l6 hr.units) (pv 3) cA (ir _)) (qz (PW.pt (Ab (eV (l6 hr.units) (pv 5) (iU jN (pv 4) cA) (ir _)) (B9 (PW.pt (sd (eV (l6 hr.units) (pv 5) (iU jN (pv 4) cA) (ir _)) (qz (eV (l6 hr.units) (iU y3 (pv 4) cA) cA (ir _)))))))))))
 (bR (jL (oK cZ fY fZ lZ (pv 2) (bh (sg (bh (pv 4) (bh (pv 5) cV))) cV))))
 fw)
 (aE (jt (PW.pt (sd (eV (l6 hr.units) (pv 3) cA (ir _)) (sd (eV JC (pv 5) (iU jN (pv 4) cA) (ir _)) (qz (PW.pt (Ab (eV JC (pv 5) (iU uj (pv 1) cA) (ir _)) (Ab (eV V3 (pv 4) (iU uj (pv 1) cA) (ir _)) (B9 (eV (l6 hr.units) (pv 5) (iU jN (pv 4) cA) (ir _))))))))))
 (bR (jL (oK cZ fY fZ lZ (pv 2) (bh (sg (bh (pv 4) (bh (pv 5) cV))) cV))))
 fw)
 (bR (jt (PW.pt (sd (eV (l6 hr.units) (pv 3) cA (ir _)) (qz (eV (Mg hr.units) (iU G6 (pv 5) (pv 4)) (sg (bh cA (bh cA (bh cA (bh cA cV))))) (by with_unfolding_all rfl)))))
 (bR (jL (oK cZ fY fZ lZ (pv 2) (bh (sg (bh (pv 4) (bh (pv 5) cV))) cV))))
 fw)))))))))
 (aE (jt (eV QJ (iU y3 (iU uj (pv 0) cA) cA) cA (ir _))
 (bR (fE (si xf (R3 rfl rfl CH B hr.depth hr.Lo rfl T.t8 (bh (pv 2) cV)) xa (xc cA))))
 fw)
 (aE (nu jO.nd (iU y3 (iU uj (pv 0) cA) (iU jN (ja zb rfl T.TK BootT.len (bh (pv 2) cV)) cA)))
 (bR (fE (si xf (iU jN (si xf (pv 2) (xc (pv 6)) xa) (si xf (pv 2) xa (xc (pv 6)))) xa (xc cA))))))))),run vs H Q E h⟩
abbrev Dm (K:ae) (C:af):TS :=
 bN (dv (cm (rI (λ_ j=>0<j) λi j=>.int (i%j)) (cm (rI pP λi j=>.int (i/j)) (ao 0) (tC (.int 4))) (ao 2)) (bx 7))
 (bN (dv (cm (rI (λ_ j=>0<j) λi j=>.int (i%j)) (cm d8 (cm d8 (ao 7) (tC (.int 1))) (cm (rI (λ_ j=>0<j) λi j=>.int (i%j)) (cm d8 (cm (rI pP λi j=>.int (i/j)) (cm (rI pP λi j=>.int (i/j)) (ao 0) (tC (.int 4))) (ao 2)) (ao 1)) (cm (pL λi j=>.int (i-j)) (ao 2) (tC (.int 1))))) (ao 2)) (bx 8))
 (eX (nC (av (qv JP (av (ao 7) (av (ao 8) aY))) (av (qv NI (av (ao 7) (av (ao 8) aY))) aY)))))
abbrev Do (K:ae) (C:af):TS :=
  bN (iM (wX (dj (cm (pL λi j=>.bl (decide (j<i))) (ao 4) (tC (.int 1)))) (dj (cm (R5 K) (ao 5) (vX aY))))
   (bN (dv (qv (Wt K) (av (kH 1 [] (nE K (ao 5)) (bx 0) xk (cm (dS K) (ao 0) (tC (.int 2)))) aY)) (bx 6))
  (bN (dv (kH 1 [6] (nE K (ao 5)) (bx 0) (dj (cm (kA K) (cm (dS K) (ao 0) (tC (.int 2))) (ao 1))) (ao 0)) (bx 5))
  (eX (Gg (QU K) (cm (dS K) (ao 5) (cm (rI (λ_ j=>0<j) λi j=>.int (i%j)) (cm d8 (cm (rI pP λi j=>.int (i/j)) (ao 0) (tC (.int 4))) (ao 1)) (qv (v8 K) (av (ao 5) aY)))) ia (jB (tC (.int 2)))))))
   fH)
  (bN (iM (wX (dj (cm (kA K) (ao 4) (tC (.int 1)))) (dj (cm (R5 K) (ao 3) (vX aY))))
   (eX (Gg (QU K) (cm (dS K) (ao 3) (cm (rI (λ_ j=>0<j) λi j=>.int (i%j)) (cm d8 (cm (rI pP λi j=>.int (i/j)) (ao 0) (tC (.int 4))) (cm (rI FS λi j=>.int (i*j)) (tC (.int 3)) (ao 1))) (qv (v8 K) (av (ao 3) aY)))) ia (jB (tC (.int 2)))))
   fH)
  (Dm K C))
def xO (K:ae) (C:af):TS :=
 bN (dv (cm (rI (λ_ j=>0<j) λi j=>.int (i%j)) (ao 0) (tC (.int 4))) (bx 4))
 (bN (dv (kH 1 [] (nE K (ao 3)) (bx 0) (pj K (cm (dS K) (ao 0) (tC (.int 3)))) (ao 0)) (bx 5))
 (Do K C))
def rh (K:ae) (C:af) (A:CA) (iw eG:Sp):TS :=
 uJ (nE K (cQ iw [] E0 (av (ao 1) (av (ao 2) aY)))) (LQ K 2 (nq (bx 4) (nq (bx 5) OH)))
 (bN (dv (tC (.bl true)) (EG (ao 3) (nC (av (ao 4) (av (ao 5) aY))) vd))
 (iM (dj (cm (kA K) (cm (rI (λ_ j=>0<j) λi j=>.int (i%j)) (cm d8 (cm d8 (ao 4) (ao 5)) (ao 1)) (tC (.int 2))) (tC (.int 0))))
 (eE (dZ A.Keeper "put" eG [] E0 (ao 0) (av (ao 4) (av (ao 5) aY))))
 (eE (dZ A.Keeper "put" eG [] E0 (ao 0) (av (ao 5) (av (ao 4) aY))))))
def vo (K:ae) (C:af) (A:CA) (iw eG:Sp):TS :=
 bN (dv vZ (bx 3))
 (bN (rh K C A iw eG)
 (eX (ao 3)))
def vp (K:ae) (C:af):TS :=
 Ce (dj (cm (pL λi j=>.bl (decide (i<=j))) (ao 2) (ao 0)))
 (bN (LR 1 (tC (.int 1)) (pL λi j=>.int (i+j)))
 (dv (cm (rI FS λi j=>.int (i*j)) (ao 2) (tC (.int 2))) (bx 2)))
def AC (K:ae) (C:af):TS :=
 bN (dv (tC (.int 0)) (bx 1))
 (bN (dv (tC (.int 4)) (bx 2))
 (bN (vp K C)
 (eX (ao 1))))
def rj (K:ae) (C:af) (A:CA) (X:EC) (kr mx:Sp):TS :=
 bN (R8 K (.ref X.qm) (λE =>
 iM (pj K (ao 1))
 (eE (dZ A.Keeper "put" kr [] E (ao 0) (av (ao 2) (av (ao 3) aY))))
 (eE (dZ A.Keeper "out" mx [] E (ao 0) (av (ao 2) (av (ao 3) aY)))))
 (eX (tC (.bl true))))
 (eX (tC (.bl false)))
def rk (K:ae) (C:af):TS :=
 uJ (nE K (ao 0)) (bx 2)
 (iM (dj (cm (kA K) (Gg (QU K) (ao 2) ia (jB (tC (.int 2)))) (ao 1)))
 (eX (cm (dS K) (ao 2) (tC (.int 2))))
 fH)
def vq (K:ae) (C:af):TS :=
 bN (rk K C)
 (eX (tC (.int 0)))
def xP (K:ae) (C:af) (mB:Sp):TS :=
 bN (iM (Ub (A1 (pj K (qv (Mh K) (av (ao 0) (av (tC (.ty "tuple")) aY))))) (Ub (dj (cm (JO K) (qv (v8 K) (av (ao 0) aY)) (tC (.int 5)))) (Ub (A1 (pj K (qv (ZL K) (av (kH 1 [] (nE K (ao 0)) (bx 0) xk (cQ mB [] E0 (av (ao 0) aY))) aY)))) (dj (cm (JO K) (qv (Wa K) (av (ao 0) aY)) (ao 1))))))
 (eX (tC (.bl false)))
 fH)
 (eX (Ca (cm (kA K) (cm (rI FS λi j=>.int (i*j)) (cm (dS K) (ao 0) (tC (.int 0))) (ao 2)) (cm d8 (cm d8 (cm (dS K) (ao 0) (tC (.int 2))) (cm (dS K) (ao 0) (tC (.int 3)))) (cm (dS K) (ao 0) (tC (.int 4))))) (cm (pL λi j=>.bl (decide (i<=j))) (cm (dS K) (ao 0) (tC (.int 1))) (cm d8 (cm (dS K) (ao 0) (tC (.int 2))) (ao 3)))))
def oU (K:ae) (C:af):TS :=
 uJ (nE K (ao 1)) (bx 2)
 (bN (FY (ao 0) (tC (.int 1)) (cm d8 (qv (v8 K) (av (cm (dS K) (ao 2) (tC (.int 2))) aY)) (qv Wc (av (Nv (cm (dS K) (ao 2) (tC (.int 3)))) aY))) (Hd K) (Xx λi j=>i+j) Ah)
 (FY (ao 0) (tC (.int 2)) (qv (v8 K) (av (cm (dS K) (ao 2) (tC (.int 2))) aY)) (Hd K) (Xx λi j=>i+j) Ah))
def rm (K:ae) (C:af):TS :=
 oU K C
def qc (K:ae) (C:af):TS :=
 uJ (Ad (av (ao 2) aY)) (bx 4)
 (bN (eE (EK K "list" kq (ao 3) (av (cm (rI (λ_ j=>0<j) λi j=>.int (i%j)) (ao 0) (ao 1)) aY)))
 (dv (cm (rI pP λi j=>.int (i/j)) (ao 0) (ao 1)) (bx 0)))
def sT (K:ae) (C:af):TS :=
 bN (dv (vX aY) (bx 3))
 (bN (qc K C)
 (eX (ao 3)))
def oV (K:ae) (C:af) (gP bu:Sp):TS :=
 uJ (nE K (cQ gP [] E0 (av (cQ bu [] E0 (av (ao 0) (av (tC (.int 1)) aY))) (av (cm (rI FS λi j=>.int (i*j)) (ao 1) (ao 1)) (av (cm (rI (λ_ j=>0<j) λi j=>.int (i%j)) (cQ bu [] E0 (av (ao 0) (av (tC (.int 2)) aY))) (tC (.int 41))) aY))))) (bx 3)
 (iM (dj (cm (JO K) (cm (rI pP λi j=>.int (i/j)) (ao 3) (ao 1)) (cm (rI (λ_ j=>0<j) λi j=>.int (i%j)) (ao 3) (ao 1))))
 (eE (EK K "list" kq (ao 2) (av (nC (av (qv JP (av (cm (rI pP λi j=>.int (i/j)) (ao 3) (ao 1)) (av (cm (rI (λ_ j=>0<j) λi j=>.int (i%j)) (ao 3) (ao 1)) aY))) (av (qv NI (av (cm (rI pP λi j=>.int (i/j)) (ao 3) (ao 1)) (av (cm (rI (λ_ j=>0<j) λi j=>.int (i%j)) (ao 3) (ao 1)) aY))) aY))) aY)))
 fH)
def rn (K:ae) (C:af) (gP bu:Sp):TS :=
 bN (dv (vX aY) (bx 2))
 (bN (oV K C gP bu)
 (eX (ao 2)))
def xQ (K:ae) (C:af) (A:CA) (mS jb eG j8:Sp):TS :=
 bN (dv (tC (.int 0)) (bx 6))
 (bN (iM (dj (cm (za K false) (ao 4) (ao 2)))
 (bN (eE (EK K "dict" JZ (ao 2) (av (ao 4) aY)))
 (bN (FY (ao 1) (tC (.int 3)) (cm (pL λi j=>.int (i-j)) (ao 5) (cQ j8 [] E0 (av (ao 3) (av (ao 4) aY)))) (Hd K) (Xx λi j=>i+j) Ah)
 (bN (dv (dZ A.Keeper "out" mS [] E0 (ao 0) (av (cm (dS K) (ao 4) (tC (.int 1))) (av (cm (dS K) (ao 4) (tC (.int 0))) aY))) (bx 7))
 (bN (dv (qv Wc (av (cm (R5 K) (ao 7) (vX aY)) aY)) (bx 6))
 (eE (cQ jb [] E0 (av (ao 1) (av (ao 7) aY))))))))
 (bN (dv (tC (.bl true)) (EG (ao 2) (ao 4) vd))
 (bN (FY (ao 1) (tC (.int 0)) (tC (.int 1)) (Hd K) (Xx λi j=>i+j) Ah)
 (eE (dZ A.Keeper "put" eG [] E0 (ao 0) (av (cm (dS K) (ao 4) (tC (.int 0))) (av (cm (dS K) (ao 4) (tC (.int 1))) aY)))))))
 (eX (ao 6)))
def Kz (K:ae) (C:af) (A:CA) (dg bU cb cD bu bZ cu cM bT cN bV:Sp):TS :=
 uJ (Ad (av (qv (v8 K) (av (ao 7) aY)) aY)) (bx 11)
 (bN (dv (cm (dS K) (ao 7) (ao 11)) (bx 12))
 (bN (iM (A1 (pj K (ao 1)))
 (dv (cQ cN [] E0 (av (cm (dS K) (ao 7) (ao 11)) (av (cm d8 (ao 11) (tC (.int 1))) (av (ao 3) (av (ao 10) aY))))) (bx 12))
 fH)
 (bN (LR 9 (cQ cM [] E0 (av (ao 5) (av (ao 8) (av (ao 6) (av (ao 10) (av (ao 12) (av (ao 4) aY))))))) (pL λi j=>.int (i+j)))
 (bN (iM (Ub (A1 (pj K (cQ bV [] E0 (av (ao 5) (av (cm (za K false) (ao 12) (ao 6)) (av (cm (dS K) (ao 12) (tC (.int 0))) (av (cm (dS K) (ao 12) (tC (.int 1))) aY))))))) (A1 (pj K (cQ bV [] E0 (av (ao 5) (av (tC (.bl true)) (av (tC (.int 0)) (av (tC (.int 0)) aY))))))))
 (eX (tC (.bl false)))
 fH)
 (bN (dv (dZ A.Keeper "ties" cb [] E0 (ao 5) aY) (bx 10))
 (bN (dv (qv (NX K) (av (kH 1 [4] (nE K (ao 10)) (bx 0) xk (cm (pL λi j=>.int (i-j)) (ao 1) (cm (dS K) (ao 0) (tC (.int 2))))) aY)) (EG (ao 8) (tC (.int 4)) vd))
 (iM (A1 (pj K (cQ cD [] E0 (av (dZ A.Keeper "account" bT [] E0 (ao 5) aY) (av (ao 8) (av (ao 4) (av (ao 9) aY)))))))
 (eX (tC (.bl false)))
 fH)))))))
abbrev Pd (K:ae) (C:af) (A:CA) (dg bU cb cD bu bZ cu cM bT cN bV:Sp):TS :=
 bN (dv (dZ A.Keeper "ties" cb [] E0 (ao 5) aY) (bx 10))
 (bN (Kz K C A dg bU cb cD bu bZ cu cM bT cN bV)
 (eX (cQ cD [] E0 (av (dZ A.Keeper "account" bT [] E0 (ao 5) aY) (av (ao 8) (av (ao 4) (av (ao 9) aY)))))))
abbrev Sr (K:ae) (C:af) (A:CA) (dg bU cb cD bu bZ cu cM bT cN bV:Sp):TS :=
 bN (dv (vX (av (qv Rt (av (ao 6) aY)) (av (tC (.int 0)) (av (tC (.int 0)) (av (tC (.int 0)) (av (cm (rI FS λi j=>.int (i*j)) (ao 4) (qv Rt (av (ao 6) aY))) aY)))))) (bx 8))
 (bN (dv (tC (.int 0)) (bx 9))
 (Pd K C A dg bU cb cD bu bZ cu cM bT cN bV))
abbrev Ss (K:ae) (C:af) (A:CA) (dg bU cb cD bu bZ cu cM bT cN bV:Sp):TS :=
  bN (dv (Gg (pQ K) (ao 0) (jB (tC (.int 1))) (jB (tC (.int 31)))) (bx 7))
  (bN (iM (pj K (ao 1))
   (dv (cQ bZ [] E0 (av (ao 0) (av (ao 3) aY))) (bx 7))
   (dv (cQ cu [] E0 (av (ao 5) (av (cm (rI pP λi j=>.int (i/j)) (ao 2) (tC (.int 23))) (av (ao 3) aY)))) (bx 6)))
  (Sr K C A dg bU cb cD bu bZ cu cM bT cN bV))
abbrev Su (K:ae) (C:af) (A:CA) (dg bU cb cD bu bZ cu cM bT cN bV:Sp):TS :=
  bN (iM (dj (cm (JO K) (qv (Wa K) (av (dZ A.Keeper "account" bT [] E0 (ao 5) aY) aY)) (vX (av (tC (.int 0)) (av (tC (.int 0)) (av (tC (.int 0)) (av (tC (.int 0)) (av (tC (.int 0)) aY))))))))
   (eX (tC (.bl false)))
   fH)
  (bN (dv vZ (bx 6))
  (Ss K C A dg bU cb cD bu bZ cu cM bT cN bV))
abbrev Sv (K:ae) (C:af) (A:CA) (dg bU cb cD bu bZ cu cM bT cN bV:Sp):TS :=
 bN (dv (cQ dg [] E0 (av (ao 3) aY)) (bx 4))
 (bN (dv (JF A.Keeper bU [] E0 (av (ao 3) aY)) (bx 5))
 (Su K C A dg bU cb cD bu bZ cu cM bT cN bV))
abbrev Sx (K:ae) (C:af) (A:CA) (dg bU cb cD bu bZ cu cM bT cN bV:Sp):TS :=
  bN (dv (cm d8 (tC (.int 2)) (cm (rI (λ_ j=>0<j) λi j=>.int (i%j)) (ao 2) (tC (.int 23)))) (bx 3))
  (bN (iM (wX (A1 (pj K (ao 1))) (dj (cm (kA K) (cm (rI (λ_ j=>0<j) λi j=>.int (i%j)) (cm (rI pP λi j=>.int (i/j)) (ao 2) (tC (.int 23))) (tC (.int 8))) (tC (.int 5)))))
   (dv (cm d8 (tC (.int 30)) (cm (rI (λ_ j=>0<j) λi j=>.int (i%j)) (cm (rI pP λi j=>.int (i/j)) (ao 2) (tC (.int 184))) (tC (.int 171)))) (bx 3))
   fH)
  (Sv K C A dg bU cb cD bu bZ cu cM bT cN bV))
def Sz (K:ae) (C:af) (A:CA) (dg bU cb cD bu bZ cu cM bT cN bV:Sp):TS :=
 bN (dv (cm (kA K) (cm (rI (λ_ j=>0<j) λi j=>.int (i%j)) (cQ bu [] E0 (av (ao 0) (av (tC (.int 0)) aY))) (tC (.int 2))) (tC (.int 0))) (bx 1))
 (bN (dv (cm (rI pP λi j=>.int (i/j)) (cQ bu [] E0 (av (ao 0) (av (tC (.int 0)) aY))) (tC (.int 2))) (bx 2))
 (Sx K C A dg bU cb cD bu bZ cu cM bT cN bV))
def qd (K:ae) (C:af):TS :=
 bN (uK K (ao 0) (ao 1) "n")
 (uK K (ao 0) (kH 1 [] (Ad (av (ao 1) aY)) (bx 0) xk (vX (av (ao 0) aY))) "rows")
def sU (K:ae) (C:af):TS :=
 uJ (nE K (ao 1)) (bx 2)
 (dv (ao 1) (EG (dO K (ao 0) "rows") (ao 2) vd))
def xR (K:ae) (C:af):TS :=
 sU K C
def xS (K:ae) (C:af) (b0 eI fJ oh:Sp):TS :=
 bN (eE (cQ b0 [] E0 (av (dO K (ao 0) "n") (av (ao 1) (av (ao 2) aY)))))
 (bN (iM (pj K (dZ C "joined" eI [] E0 (ao 0) (av (ao 1) (av (ao 2) aY))))
 se
 fH)
 (eE (dZ C "keep" fJ [] E0 (ao 0) (av (cQ oh [] E0 (av (cm (dS K) (dO K (ao 0) "rows") (ao 1)) (av (cm (dS K) (dO K (ao 0) "rows") (ao 2)) (av (ao 1) (av (ao 2) aY))))) aY))))
def vt (K:ae) (C:af) (b0 l9 eF fJ:Sp):TS :=
 uJ (nE K (cQ l9 [] E0 (av (cm (dS K) (dO K (ao 0) "rows") (ao 1)) (av (ao 1) (av (ao 2) aY))))) (bx 3)
 (eE (dZ C "keep" fJ [] E0 (ao 0) (av (ao 3) aY)))
def AD (K:ae) (C:af) (b0 l9 eF fJ:Sp):TS :=
 bN (eE (cQ b0 [] E0 (av (dO K (ao 0) "n") (av (ao 1) (av (ao 2) aY)))))
 (bN (iM (dj (cm (za K true) (nC (av (ao 1) (av (ao 2) aY))) (cQ eF [] E0 (av (cm (dS K) (dO K (ao 0) "rows") (ao 1)) aY))))
 se
 fH)
 (vt K C b0 l9 eF fJ))
def sV (K:ae) (C:af) (bW:Sp):TS :=
 bN (eE (cQ bW [] E0 (av (dO K (ao 0) "n") (av (ao 1) (av (ao 2) aY)))))
 (eX (cm (kA K) (cm (dS K) (cm (dS K) (dO K (ao 0) "rows") (ao 1)) (tC (.int 0))) (cm (dS K) (cm (dS K) (dO K (ao 0) "rows") (ao 2)) (tC (.int 0)))))
def vv (K:ae) (C:af) (cE:Sp):TS :=
 bN (eE (cQ cE [] E0 (av (dO K (ao 0) "n") (av (ao 1) aY))))
 (eX (zg K (av (cm (dS K) (dO K (ao 0) "rows") (ao 1)) aY)))
def xU (K:ae) (C:af) (cE:Sp):TS :=
 bN (eE (cQ cE [] E0 (av (dO K (ao 0) "n") (av (ao 1) aY))))
 (eX (cm (rI pP λi j=>.int (i/j)) (cm d8 (qv (v8 K) (av (cm (dS K) (dO K (ao 0) "rows") (ao 1)) aY)) (tC (.int 1))) (tC (.int 2))))
abbrev sW (K:ae) (C:af) (A:CA) (fF qK:Sp):TS :=
 bN (uK K (ao 0) vZ "weight_of")
 (uK K (ao 0) (kH 1 [1] (Ad (av (cm d8 (cQ qK [] E0 (av (ao 1) aY)) (tC (.int 1))) aY)) (bx 0) xk (JF C fF [] E0 (av (ao 1) aY))) "woods")
def oi (K:ae) (C:af) (A:CA) (fF qK:Sp):TS :=
 bN (uK K (ao 0) vZ "level_of")
 (bN (uK K (ao 0) vZ "wooden")
 (sW K C A fF qK))
abbrev A5 (K:ae) (C:af) (A:CA) (eI cn:Sp):TS :=
  bN (dv (ao 2) (EG (dO K (ao 0) "weight_of") (ao 1) vd))
  (bN (iM (A1 (pj K (dZ C "joined" eI [] E0 (cm (dS K) (dO K (ao 0) "woods") (tC (.int 0))) (av (cm (dS K) (ao 1) (tC (.int 0))) (av (cm (dS K) (ao 1) (tC (.int 1))) aY)))))
   (eE (dZ A.bz "adopt" cn [] E0 (ao 0) (av (ao 1) aY)))
   fH)
  (eX (cm (dS K) (dO K (ao 0) "wooden") (ao 1))))
def vw (K:ae) (C:af) (A:CA) (eI cn:Sp):TS :=
 bN (dv (tC (.int 0)) (EG (dO K (ao 0) "level_of") (ao 1) vd))
 (bN (dv (tC (.bl false)) (EG (dO K (ao 0) "wooden") (ao 1) vd))
 (A5 K C A eI cn))
def lb (K:ae) (C:af) (A:CA) (fM:Sp):TS :=
 uJ (nE K (Gg (pQ K) (dO K (ao 0) "woods") ia (jB (cm d8 (cm (dS K) (dO K (ao 0) "level_of") (ao 1)) (tC (.int 1)))))) (bx 2)
 (eE (dZ C "link" fM [] E0 (ao 2) (av (cm (dS K) (ao 1) (tC (.int 0))) (av (cm (dS K) (ao 1) (tC (.int 1))) aY))))
def rA (K:ae) (C:af) (A:CA) (fM:Sp):TS :=
 bN (dv (tC (.bl true)) (EG (dO K (ao 0) "wooden") (ao 1) vd))
 (lb K C A fM)
def sX (K:ae) (C:af) (A:CA) (fM:Sp):TS :=
 bN (V7 (dO K (ao 0) "level_of") (ao 1) (tC (.int 1)) Ha)
 (iM (pj K (cm (dS K) (dO K (ao 0) "wooden") (ao 1)))
 (eE (dZ C "link" fM [] E0 (cm (dS K) (dO K (ao 0) "woods") (cm (dS K) (dO K (ao 0) "level_of") (ao 1))) (av (cm (dS K) (ao 1) (tC (.int 0))) (av (cm (dS K) (ao 1) (tC (.int 1))) aY))))
 fH)
def qe (K:ae) (C:af) (A:CA) (jE:Sp):TS :=
 uJ (nE K (Gg (pQ K) (dO K (ao 0) "woods") ia (jB (cm d8 (ao 2) (tC (.int 1)))))) (bx 3)
 (eE (dZ C "cut" jE [] E0 (ao 3) (av (cm (dS K) (ao 1) (tC (.int 0))) (av (cm (dS K) (ao 1) (tC (.int 1))) aY))))
def sY (K:ae) (C:af) (A:CA) (jE:Sp):TS :=
 bN (eE (EK K "dict" JZ (dO K (ao 0) "weight_of") (av (ao 1) aY)))
 (bN (dv (EK K "dict" JZ (dO K (ao 0) "level_of") (av (ao 1) aY)) (bx 2))
 (iM (pj K (EK K "dict" JZ (dO K (ao 0) "wooden") (av (ao 1) aY)))
 (qe K C A jE)
 fH))
def om (K:ae) (C:af) (A:CA) (mT:Sp):TS :=
 bN (dv (kH 1 [1,0] (iDT (dO K (ao 0) "level_of")) (bx 0) (dj (cm (kA K) (cm (dS K) (dO K (ao 2) "level_of") (ao 0)) (ao 1))) (ao 0)) (bx 3))
 (eX (cQ mT [] E0 (av (kH 1 [2,0] (nE K (ao 3)) (bx 0) (dj (cm (kA K) (cm (dS K) (dO K (ao 2) "wooden") (ao 0)) (ao 1))) (ao 0)) (av (dO K (ao 0) "weight_of") aY))))
def sZ (K:ae) (C:af) (A:CA):TS :=
 eX (nC (av (cm (dS K) (ao 1) (tC (.int 0))) (av (cm (dS K) (ao 1) (tC (.int 1))) (av (cm (dS K) (dO K (ao 0) "level_of") (ao 1)) (av (cm (dS K) (dO K (ao 0) "wooden") (ao 1)) aY)))))
def lR (K:ae) (C:af) (A:CA) (j9 jP:Sp):TS :=
 bN (dv (cm (dS K) (dO K (ao 0) "woods") (ao 1)) (bx 3))
 (eX (dZ C "group" j9 [] E0 (ao 3) (av (Zd (dj (cm (pL λi j=>.bl (decide (i<=j))) (dZ C "size" jP [] E0 (ao 3) (av (cm (dS K) (ao 2) (tC (.int 0))) aY)) (dZ C "size" jP [] E0 (ao 3) (av (cm (dS K) (ao 2) (tC (.int 1))) aY)))) (cm (dS K) (ao 2) (tC (.int 0))) (cm (dS K) (ao 2) (tC (.int 1)))) aY)))
def qf (K:ae) (C:af) (A:CA) (cj cF dz dA cn:Sp):TS :=
 uJ (nE K (ao 4)) (bx 5)
 (eE (dZ A.bz "lift" dz [] E0 (ao 0) (av (ao 5) aY)))
def qg (K:ae) (C:af) (A:CA) (cj cF dz dA cn:Sp):TS :=
 uJ (nE K (dZ A.bz "at_level" cF [] E0 (ao 0) (av (ao 1) (av (tC (.bl false)) aY)))) (bx 5)
 (bN (dv (cQ dA [] E0 (av (ao 5) (av (ao 3) aY))) (bx 6))
 (bN (iM (dj (cm (kA K) (ao 6) (tC (.int 1))))
 (bN (eE (dZ A.bz "adopt" cn [] E0 (ao 0) (av (ao 5) aY)))
 (eX (nC (av (ao 1) (av (ao 3) (av (qv (sJ K) (av (ao 4) aY)) (av (ao 5) aY)))))))
 fH)
 (iM (dj (cm (kA K) (ao 6) (tC (.int 2))))
 (bN (eE (dZ A.bz "lift" dz [] E0 (ao 0) (av (ao 5) aY)))
 (eE (EK K "list" kq (ao 4) (av (ao 5) aY))))
 fH)))
abbrev zm (K:ae) (C:af) (A:CA) (cj cF dz dA cn:Sp):TS :=
 bN (qf K C A cj cF dz dA cn)
 (bN (qg K C A cj cF dz dA cn)
 (eX (nC (av (ao 1) (av (ao 3) (av (qv (sJ K) (av (ao 4) aY)) (av (tC .non) aY)))))))
def tj (K:ae) (C:af) (A:CA) (cj cF dz dA cn:Sp):TS :=
 bN (dv (dZ A.bz "lesser_side" cj [] E0 (ao 0) (av (ao 1) (av (ao 2) aY))) (bx 3))
 (bN (dv (kH 1 [3] (nE K (dZ A.bz "at_level" cF [] E0 (ao 0) (av (ao 1) (av (tC (.bl true)) aY)))) (bx 0) (dj (cm (kA K) (cQ dA [] E0 (av (ao 0) (av (ao 1) aY))) (tC (.int 2)))) (ao 0)) (bx 4))
 (zm K C A cj cF dz dA cn))
def qh (K:ae) (C:af) (A:CA) (dP dQ:Sp):TS :=
 Ce (wX (pj K (ao 3)) (dj (cm (pL λi j=>.bl (decide (j<=i))) (ao 2) (tC (.int 0)))))
 (bN (eE (EK K "list" kq (ao 4) (av (dZ A.bz "look" dQ [] E0 (ao 0) (av (ao 2) (av (ao 1) aY))) aY)))
 (bN (dv (Xs (cm (dS K) (cm (dS K) (ao 4) (tUn (rU λi=>.int (-i)) (tC (.int 1)))) (tC (.int 3)))) (bx 3))
 (LR 2 (tC (.int 1)) (pL λi j=>.int (i-j)))))
abbrev zq (K:ae) (C:af) (A:CA) (dP dQ:Sp):TS :=
 bN (qh K C A dP dQ)
 (eX (ao 4))
abbrev zr (K:ae) (C:af) (A:CA) (dP dQ:Sp):TS :=
 bN (eE (dZ A.bz "drop" dP [] E0 (ao 0) (av (ao 1) aY)))
 (bN (dv (vX aY) (bx 4))
 (zq K C A dP dQ))
def tm (K:ae) (C:af) (A:CA) (dP dQ:Sp):TS :=
 bN (dv (cm (dS K) (dO K (ao 0) "level_of") (ao 1)) (bx 2))
 (bN (dv (cm (dS K) (dO K (ao 0) "wooden") (ao 1)) (bx 3))
 (zr K C A dP dQ))
abbrev wk (K:ae) (C:af) (A:CA) (cW fW:Sp):TS :=
 bN (uK K (ao 0) (tC (.int 0)) "risen")
 (uK K (ao 0) (tC (.int 0)) "lost")
abbrev wm (K:ae) (C:af) (A:CA) (cW fW:Sp):TS :=
 bN (uK K (ao 0) (tC (.int 0)) "came")
 (bN (uK K (ao 0) (tC (.int 0)) "looked")
 (wk K C A cW fW))
abbrev wo (K:ae) (C:af) (A:CA) (cW fW:Sp):TS :=
 bN (uK K (ao 0) (JF A.bz cW [] E0 (av (ao 1) aY)) "levels")
 (bN (uK K (ao 0) (cm (dS K) (dO K (dO K (ao 0) "levels") "woods") (tC (.int 0))) "wood")
 (wm K C A cW fW))
def qi (K:ae) (C:af) (A:CA) (cW fW:Sp):TS :=
 bN (iM (A1 (pj K (cQ fW [] E0 (av (ao 1) aY))))
 se
 fH)
 (bN (uK K (ao 0) (ao 1) "n")
 (wo K C A cW fW))
def rB (K:ae) (C:af) (A:CA) (ka:Sp):TS :=
 bN (nB K (ao 0) (tC (.int 1)) Ha "came")
 (eX (dZ A.bz "add" ka [] E0 (dO K (ao 0) "levels") (av (ao 1) (av (ao 2) aY))))
abbrev EX (K:ae) (C:af) (A:CA) (eK eD cX gQ fk ck:Sp):TS :=
 bN (nB K (ao 0) (cQ fk [] E0 (av (ao 4) aY)) Ha "risen")
 (eX (ao 4))
abbrev EY (K:ae) (C:af) (A:CA) (eK eD cX gQ fk ck:Sp):TS :=
 bN (dv (dZ A.bz "take" cX [] E0 (dO K (ao 0) "levels") (av (ao 3) aY)) (bx 4))
 (bN (nB K (ao 0) (cQ gQ [] E0 (av (ao 4) aY)) Ha "looked")
 (EX K C A eK eD cX gQ fk ck))
def AE (K:ae) (C:af) (A:CA) (eK eD cX gQ fk ck:Sp):TS :=
 bN (dv (cQ eK [] E0 (av (dO K (ao 0) "n") (av (dO K (dO K (ao 0) "levels") "level_of") (av (ao 1) (av (ao 2) aY))))) (bx 3))
 (bN (nB K (ao 0) (cQ eD [] E0 (av (dO K (ao 0) "n") (av (vX (av (dZ A.bz "told" ck [] E0 (dO K (ao 0) "levels") (av (ao 3) aY)) aY)) aY))) Ha "lost")
 (EY K C A eK eD cX gQ fk ck))
def xV (K:ae) (C:af) (A:CA) (ck:Sp):TS :=
 eX (qv (sJ K) (av (kH 1 [0] (iDT (dO K (dO K (ao 0) "levels") "level_of")) (bx 0) xk (dZ A.bz "told" ck [] E0 (dO K (ao 1) "levels") (av (ao 0) aY))) aY))
def rC (K:ae) (C:af) (A:CA) (eD cb:Sp):TS :=
 eX (nC (av (dO K (ao 0) "came") (av (dO K (ao 0) "looked") (av (dO K (ao 0) "risen") (av (dO K (ao 0) "lost") (av (cQ eD [] E0 (av (dO K (ao 0) "n") (av (dZ A.Keeper "ties" cb [] E0 (ao 0) aY) aY))) aY))))))
def vz (K:ae) (C:af) (A:CA) (dB oo:Sp):TS :=
 eX (dZ A.Keeper "receive" dB [] E0 (ao 0) (av (cQ oo [] E0 (av (dO K (ao 0) "n") (av (dO K (dO K (ao 0) "levels") "level_of") (av (ao 1) (av (ao 2) aY))))) (av (tC (.int 0)) aY)))
def iJ (K:ae) (C:af) (X:EC) (E:XK) (bW:Sp):TS :=
 bN (eE (cQ bW [] E0 (av (ao 0) (av (ao 1) (av (ao 2) aY)))))
 (iM (dj (cm (kA K) (ao 1) (ao 2)))
 (CI (.ref X.Alike) E)
 fH)
def uO (Fu:Ez K "refuse_no_pair" "refuse_no_pair" m8 f fd) (T:Ex K mg C A X) {bW:Sp}(gR:Qj P w K mg base wM 4 "refuse_no_places" xv bW)
 (len:Ln sp 3) (run:Rx sp (λE=>iJ K C X E bW) xv):jr P w K mg base (Gx P w) 5 f fd xv sp :=
 Fu.okR pZ len λlT A0 outer s H vs Q E hr h=>⟨iJ K C X E bW,
 aE (jL (Qk gR hr.m rfl lP (bh (pv 0) (bh (pv 1) (bh (pv 2) cV)))))
 (bR (jt (eV (l6 hr.units) (pv 1) (pv 2) (ir _))
 (bR (CJ rfl rfl ⟨T.VG,T.ud⟩ sF))
 fw)),run vs H Q E h⟩
def nH (K:ae) (C:af) (X:EC) (E:XK) (bS dt:Sp):TS :=
 bN (eE (cQ bS [] E (av (ao 0) (av (ao 2) (av (ao 3) aY)))))
 (bN (dv (cQ dt [] E0 (av (ao 2) (av (ao 3) aY))) (bx 4))
 (bN (iM (dj (cm (za K false) (ao 4) (ao 1)))
 (CI (.ref X.Pu) E)
 fH)
 (eX (ao 4))))
def HI (Fu:Ez K "new_tie" "new_tie" CS f fd) (T:Ex K mg C A X) {bS:Sp}(fG:Qj P w K mg base (Gx P w) 5 "refuse_no_pair" xv bS) {dt:Sp}(mU:Qj P w K mg base wM 1 "tie_of" ["a","b"] dt)
 (len:Ln sp 4) (run:Rx sp (λE=>nH K C X E bS dt) Ki):jr P w K mg base (Gx P w) 6 f fd Kj sp :=
 Fu.okR zl len λlT A0 outer s H vs Q E hr h=>⟨nH K C X E bS dt,
 aE (jL (Qk fG hr.m rfl NS (bh (pv 0) (bh (pv 2) (bh (pv 3) cV)))))
 (aE (nu zl.nd (Qk mU hr.m rfl lP (bh (pv 2) (bh (pv 3) cV))))
 (aE (jt (eV (Mg hr.units) (pv 4) (pv 1) (by with_unfolding_all rfl))
 (bR (CJ rfl rfl ⟨T.YG,T.yG⟩ sF))
 fw)
 (bR (fE (pv 4))))),run vs H Q E h⟩
def ju (K:ae) (C:af) (X:EC) (E:XK) (bS dt:Sp):TS :=
 bN (eE (cQ bS [] E (av (ao 0) (av (ao 2) (av (ao 3) aY)))))
 (bN (dv (cQ dt [] E0 (av (ao 2) (av (ao 3) aY))) (bx 4))
 (bN (iM (dj (cm (za K true) (ao 4) (ao 1)))
 (CI (.ref X.GV) E)
 fH)
 (eX (ao 4))))
def xW (Fu:Ez K "standing_tie" "standing_tie" pq f fd) (T:Ex K mg C A X) {bS:Sp}(fG:Qj P w K mg base (Gx P w) 5 "refuse_no_pair" xv bS) {dt:Sp}(mU:Qj P w K mg base wM 1 "tie_of" ["a","b"] dt)
 (len:Ln sp 4) (run:Rx sp (λE=>ju K C X E bS dt) Ki):jr P w K mg base (Gx P w) 6 f fd Kj sp :=
 Fu.okR n6 len λlT A0 outer s H vs Q E hr h=>⟨ju K C X E bS dt,
 aE (jL (Qk fG hr.m rfl NS (bh (pv 0) (bh (pv 2) (bh (pv 3) cV)))))
 (aE (nu n6.nd (Qk mU hr.m rfl lP (bh (pv 2) (bh (pv 3) cV))))
 (aE (jt (eV (Gp hr.units) (pv 4) (pv 1) (by with_unfolding_all rfl))
 (bR (CJ rfl rfl ⟨T.VD,T.t7⟩ sF))
 fw)
 (bR (fE (pv 4))))),run vs H Q E h⟩
def mC (K:ae) (C:af) (A:CA) (E:XK) (d9 eD cX gQ fk ck:Sp):TS :=
 bN (dv (cQ d9 [] E (av (dO K (ao 0) "n") (av (dO K (dO K (ao 0) "levels") "level_of") (av (ao 1) (av (ao 2) aY))))) (bx 3))
 (bN (nB K (ao 0) (cQ eD [] E0 (av (dO K (ao 0) "n") (av (vX (av (dZ A.bz "told" ck [] E0 (dO K (ao 0) "levels") (av (ao 3) aY)) aY)) aY))) Ha "lost")
 (bN (dv (dZ A.bz "take" cX [] E0 (dO K (ao 0) "levels") (av (ao 3) aY)) (bx 4))
 (bN (nB K (ao 0) (cQ gQ [] E0 (av (ao 4) aY)) Ha "looked")
 (bN (nB K (ao 0) (cQ fk [] E0 (av (ao 4) aY)) Ha "risen")
 (eX (ao 4))))))
def EZ (Fu:Ez K "out" "Kept.out" zk f fd) (T:Ex K mg C A X) {d9:Sp}(ma:Qj P w K mg base (Gx P w) 6 "standing_tie" Kj d9) {eD:Sp}(tq:Qj P w K mg base wM 2 "credit" Kk eD) {cX:Sp}(kb:IP P w K mg base wM 9 A.bz "take" uN cX) {gQ:Sp}(xX:Qj P w K mg base wM 2 "looks" Ar gQ) {fk:Sp}(xY:Qj P w K mg base wM 1 "rises" Ar fk) {ck:Sp}(ke:IP P w K mg base wM 1 A.bz "told" uN ck)
 (len:Ln sp 3) (run:Rx sp (λE=>mC K C A E d9 eD cX gQ fk ck) N6):jr P w K mg base (Gx P w) 10 f fd pV sp :=
 Fu.okR qJ len λlT A0 outer s H vs Q E hr h=>⟨mC K C A E d9 eD cX gQ fk ck,
 aE (nu qJ.nd (Qk ma hr.m rfl NS (bh (ph (pv 0) rfl) (bh (ph (ph (pv 0) rfl) rfl) (bh (pv 1) (bh (pv 2) cV))))))
 (aE (lW (pv 0) (Qk tq hr.m rfl lP (bh (ph (pv 0) rfl) (bh (L0 (bh (Ym ke T.uw hr.m (ph (pv 0) rfl) lP (bh (pv 3) cV)) cV)) cV))) sf)
 (aE (nu qJ.nd (Ym kb T.uw hr.m (ph (pv 0) rfl) lP (bh (pv 3) cV)))
 (aE (lW (pv 0) (Qk xX hr.m rfl lP (bh (pv 4) cV)) sf)
 (aE (lW (pv 0) (Qk xY hr.m rfl lP (bh (pv 4) cV)) sf)
 (bR (fE (pv 4))))))),run vs H Q E h⟩
def ku (K:ae) (C:af) (A:CA) (E:XK) (dB ic:Sp):TS :=
 eX (dZ A.Keeper "receive" dB [] E0 (ao 0) (av (cQ ic [] E (av (dO K (ao 0) "n") (av (dO K (dO K (ao 0) "levels") "level_of") (av (ao 1) (av (ao 2) aY))))) (av (tC (.int 0)) aY)))
def A6 (Fu:Ez K "put" "Keeper.put" sP f fd) (T:Ex K mg C A X) {dB:Sp}(jF:IP P w K mg base wM 9 A.Keeper "receive" Hz dB) {ic:Sp}(tw:Qj P w K mg base (Gx P w) 6 "new_tie" Kj ic)
 (len:Ln sp 3) (run:Rx sp (λE=>ku K C A E dB ic) pV):jr P w K mg base (Gx P w) 10 f fd pV sp :=
 Fu.okR xN len λlT A0 outer s H vs Q E hr h=>⟨ku K C A E dB ic,
 bR (fE (Ym jF T.ql hr.m (pv 0) lP (bh (Qk tw hr.m rfl NS (bh (ph (pv 0) rfl) (bh (ph (ph (pv 0) rfl) rfl) (bh (pv 1) (bh (pv 2) cV))))) (bh cA cV)))),run vs H Q E h⟩
end K63
section
open PySem PySem.Spec PyProof.Rows L2
local macro_rules | `(tactic| walk_at "c")=>`(tactic| first|(show (0:Int)<_;lia)|exact ⟨by lia,by lia⟩|exact Or.inl ⟨by lia,by lia⟩|exact Or.inr ⟨by lia,by lia⟩|exact ⟨by lia,by lia,by lia⟩)
local macro_rules | `(tactic| k_ne)=>`(tactic| first|(with_reducible first|refine Gq ?_|refine ZM ?_|refine NH ?_|refine XU ?_)|((with_reducible refine' V9 ?hv ?_);(case hv=>exact rfl))|(with_reducible first|refine x_c ?_|refine x_op ?_|refine ZN ?_|refine XX ?_|refine XY ?_|refine ZO ?_|refine x_if ?_|refine XZ ?_|refine x_tB ?_|refine Z7 ?_|refine X9 ?_|refine ZP ?_|refine x_or ?_|refine ZQ ?_|refine X0 ?_|refine x_orV ?_|refine X1 ?_|refine Z0 ?_|refine ZR ?_|refine ZT ?_|refine X2 ?_|refine ZU ?_|refine ZV ?_|refine X3 ?_|refine x_cb ?_|refine x_bm ?_|refine x_sl ?_|refine Q2 ?_|refine X4 ?_|refine ZW ?_)|((with_reducible refine x_rI ?hc ?_);(case hc=>walk_at "c"))|(with_reducible first|refine X5 ?_|refine x_addHI ?_|refine ZX ?_|refine ZY ?_|refine Ya ?_|refine Z8 ?_|refine Yb ?_|refine X8 ?_|refine aaa ?_|refine aab ?_|refine x_un ?_|refine x_rU ?_|refine UQ ?_|refine Z6 ?_|refine x_rev ?_|refine x_dnew ?_|refine UR ?_|refine Yc ?_)|((with_reducible refine' Z9 ?hv ?_);(case hv=>exact rfl))|with_reducible refine ⟨_,rfl,?_⟩)
local macro_rules | `(tactic| lk)=>`(tactic| (k_ne;repeat k_ne))
namespace K63
variable {K:ae}{C:af}{A:CA}{Pt p dx l:af}{H H':Hp}{n T:Nat}{ts:List Rm.Ti}{Q:VK}{R:Nat->Nat->List Int}{as:Nat->List af}{us:List (Rm.Ti×af)}{zs:List Zt}
open Rm
variable {X:EC}
def GP (t:Int×Int):PyData:=.tuple [.int t.1,.int t.2]
theorem GQ:∀ {zs:List Zt},(∀ z∈zs,iY H z)->e9 K H ((zs.map zP).map GP) (zs.map fV)
 | [],_=>.nil
 | z::zs,h=>.cons (.tup (.of (h z aw)) (.cons (.int _) (.cons (.int _) .nil))) (GQ λy hy=>h y (ai _ hy))
def SF (hl:H l=some (.lst (zs.map fV))) (h:∀ z∈zs,iY H z):Rep K H (.list ((zs.map zP).map GP)) (.ref l):=.lst (dm.of hl) (GQ h)
theorem xZ:∀ L:List (Int×Int),jC (L.map GP)=true
 | []=>rfl
 | t::ts=>by simp only [aV,jC,hV];exact ⟨by simp [GP,l8,jC],xZ ts⟩
theorem KA:∀ L:List (Int×Int),fD (L.map GP)<=2
 | []=>by simp [fD]
 | t::ts=>by
  have:=KA ts;simp only [aV,fD]
  have e:(GP t).depth<=2:=by simp [GP,lU,fD]
  lia
def Oh (L:List (Int×Int)):y9 (.list (L.map GP)):=⟨um _ (by simp only [l8];exact xZ L),by have:=KA L;simp only [lU];lia⟩
def Dp (h:∀ z∈zs,iY H z) (S:bJ H H'):∀ z∈zs,iY H' z:=λz hz=>S _ _ (h z hz)
def HJ (t u:Int×Int):dH (GP t) (GP u)=decide (t=u):=by
 obtain ⟨a,b⟩:=t;obtain ⟨c,d⟩:=u;rw [iG];simp [GP,dH,ni,wV]
def BH (t:Int×Int):y9 (GP t):=⟨um _ (by simp [GP,l8,jC]),by simp [GP,lU,fD]⟩
def HK {a b:Int}(h:H p=some (.tup [.int a,.int b])):Rep K H (GP (a,b)) (.ref p):=.tup (.of h) (.cons (.int _) (.cons (.int _) .nil))
def Yz {L:List (Int×Int)}{t u:Int×Int}:∀ {m:Nat},m<L.idxOf t->L[m]?=some u->u≠t:=by
 induction L with
 | nil=>intro m h e;simp at e
 | cons v L ih =>
  intro m h e
  by_cases q:v=t
  .subst q;simp at h
  .have hv:(v == t)=false:=by simpa using q
   rw [Zb,hv] at h
   cases m with
   | zero=>simp at e;subst e;exact q
   | succ m=>exact ih (m:=m) (by simpa using h) (by simpa using e)
def KB {a b:Int}(hl:H l=some (.lst (zs.map fV))) (hz:∀ z∈zs,iY H z) (hlen:zs.length<=100000) (hp:H p=some (.tup [.int a,.int b])) (hm:(a,b)∈zs.map zP)
  (k:Q (.int ((zs.map zP).idxOf (a,b):Nat)) H):qG K (.ref l) [.ref p] H Q:=by
 have hi:(zs.map zP).idxOf (a,b)<(zs.map zP).length:=gf.mpr hm;refine .inr ⟨l,.ref p,(zs.map zP).map GP,GP (a,b),(zs.map zP).idxOf (a,b),GP (a,b),rfl,rfl,SF hl hz,HK hp,BH _,iX _ (xZ _),by rw [ag,ag];exact bK hlen,?_,by rw [HJ];simp,λm e hm' em=>?_,k⟩
 .rw [aB,aA hi,AY];rfl
 .rw [aB] at em;obtain ⟨u,e1,e2⟩:=bo.mp em;subst e2;rw [HJ,decide_eq_false (Yz hm' e1)]
inductive eF (K:ae) (C:af) (vs:List V) (H:Hp) (Q:VK) (E:XK):Prop
 | mk (p:af) (r:List Int):vs=[.ref p]->dm K H p (r.map V.int)->r.length<=1000->(∀ l H' (zs:List Zt),bJ H H'->H l=none->H' l=some (.lst (zs.map fV))->(∀ z∈zs,iY H' z)->zs.map zP=al r->Q (.ref l) H')->eF K C vs H Q E
def A7:Rn (eF K C) (sR K C) ["row"]:=by
 rintro vs H Q E ⟨p,r,rfl,hp,hl,k⟩;unfold sR;lk;refine Yj ?_;lk;refine xn (j:=1) hp rfl λq hq=>?_;generalize eu_:upd H q (.lst ((r.drop 1).map V.int))=H1;obtain ⟨S1,g1⟩:=kP eu_ hq;lk;exact ⟨p,q,r,r.drop 1,rfl,S1.seq hp,dm.of g1,by lia,λl zs H2 S2 hl2 gl hz e=>k l H2 zs (S1.trans S2) (S1.free hl2) gl hz (by rw [e,Mv])⟩
inductive l9 (K:ae) (C:af) (vs:List V) (H:Hp) (Q:VK) (E:XK):Prop
 | mk (p:af) (r:List Int) (a b:Int):vs=[.ref p,.int a,.int b]->dm K H p (r.map V.int)->r.length<=1000->(a,b)∈al r->(b,a)∈al r->(∀ (t x y:af) (H':Hp),bJ H H'->H t=none->H x=none->H y=none->x≠y->H' t=some (.tup [.ref x,.ref y])->H' x=some (.lst ((yR r a b).1.map V.int))->H' y=some (.lst ((yR r a b).2.map V.int))->Q (.ref t) H')->l9 K C vs H Q E
theorem MC:Rn (l9 K C) (GO K C (eF K C)) Wz:=by
 rintro vs H Q E ⟨p,r,a,b,rfl,hp,hl,hab,hba,k⟩;have hi:(al r).idxOf (a,b)<(al r).length:=gf.mpr hab;have hj:(al r).idxOf (b,a)<(al r).length:=gf.mpr hba;rw [Mw] at hi hj;unfold GO;lk;refine ⟨p,r,rfl,hp,hl,λw H1 zs S1 hw gw hz ez=>?_⟩
 have hzl:zs.length<=1000:=by
  have:=congrArg fh ez;rw [ag,Mw] at this;lia
 lk;refine ⟨.inl ⟨rfl,_,dm.of gw⟩,?_⟩;lk;refine ⟨bK (m:=2) (au 2),λt1 ht1=>?_⟩;generalize eu_:upd H1 t1 (.tup [.int a,.int b])=H2;obtain ⟨S2,g2⟩:=kP eu_ ht1;lk;refine KB (S2 _ _ gw) (Dp hz S2) (by lia) g2 (by rw [ez];exact hab) ?_;rw [ez];lk;refine ⟨.inl ⟨rfl,_,dm.of (S2 _ _ gw)⟩,?_⟩;lk;refine ⟨bK (m:=2) (au 2),λt2 ht2=>?_⟩;generalize eu_:upd H2 t2 (.tup [.int b,.int a])=H3;obtain ⟨S3,g3⟩:=kP eu_ ht2;have S13:=S2.trans S3;lk;refine KB (S13 _ _ gw) (Dp hz S13) (by lia) g3 (by rw [ez];exact hba) ?_;rw [ez]
 have hpr:yR r a b=if (al r).idxOf (a,b)<(al r).idxOf (b,a) then (zh r ((al r).idxOf (a,b)) ((al r).idxOf (b,a)),sL r ((al r).idxOf (a,b)) ((al r).idxOf (b,a))) else (sL r ((al r).idxOf (b,a)) ((al r).idxOf (a,b)),zh r ((al r).idxOf (b,a)) ((al r).idxOf (a,b))):=rfl
 generalize (al r).idxOf (a,b)=i at hi hpr;generalize (al r).idxOf (b,a)=j at hj hpr;lk
 obtain ⟨u,v,eu,ev,huv⟩:∃ u v:Nat,(if (j:Int)<(i:Int) then (j:Int) else (i:Int))=(u:Int)/\(if (j:Int)>(i:Int) then (j:Int) else (i:Int))=(v:Int)/\((i<j/\u=i/\v=j)\/(¬ i<j/\u=j/\v=i)):=by
  by_cases c:i<j
  .exact ⟨i,j,by rw [if_neg (by lia)],by rw [if_pos (by lia)],.inl ⟨c,rfl,rfl⟩⟩
  .by_cases c2:j<i
   .exact ⟨j,i,by rw [if_pos (by lia)],by rw [if_neg (by lia)],.inr ⟨c,rfl,rfl⟩⟩
   .have:i=j:=by lia
    subst this;exact ⟨i,i,by rw [if_neg (by lia)],by rw [if_neg (by lia)],.inr ⟨c,rfl,rfl⟩⟩
 rw [eu,ev];have hS:=S1.trans S13;refine NM (j:=u+1) (j':=v+1) (hS.seq hp) (by lia) (by lia) λy hy=>?_
 have hin:(r.drop (u+1)).take (v+1-(u+1))=sL r u v:=by unfold sL;rw [show v+1-(u+1)=v-u by lia]
 rw [hin];generalize eu_:upd H3 y (.lst ((sL r u v).map V.int))=H4;obtain ⟨S4,g4⟩:=kP eu_ hy;lk;refine Re (j:=u+1) ((hS.trans S4).seq hp) (by lia) λq1 hq1=>?_;generalize eu_:upd H4 q1 (.lst ((r.take (u+1)).map V.int))=H5;obtain ⟨S5,g5⟩:=kP eu_ hq1;lk;refine xn (j:=v+2) ((hS.trans (S4.trans S5)).seq hp) (by lia) λq2 hq2=>?_;generalize eu_:upd H5 q2 (.lst ((r.drop (v+2)).map V.int))=H6;obtain ⟨S6,g6⟩:=kP eu_ hq2;refine Ho (S6 _ _ g5) g6 (by rw [bM,cY];lia) λx hx=>?_;have S7:=bJ.cH (o:=.lst ((zh r u v).map V.int)) hx;have g7:(upd H6 x (.lst ((zh r u v).map V.int))) x=some (.lst ((zh r u v).map V.int)):=aF
 show bx 9 (.ref x) _ (upd H6 x (.lst ((zh r u v).map V.int))) _
 generalize upd H6 x (.lst ((zh r u v).map V.int))=H7 at S7 g7;have S37:=S4.trans (S5.trans (S6.trans S7));have S47:=S5.trans (S6.trans S7);have nxy:x≠y:=Ne.symm (aR (S6 _ _ (S5 _ _ g4)) hx);have hHx:H x=none:=(hS.trans (S4.trans (S5.trans S6))).free hx;have hHy:H y=none:=hS.free hy;lk
 rcases huv with ⟨c,rfl,rfl⟩|⟨c,rfl,rfl⟩
 .rw [if_pos c] at hpr;refine sD (λ_=>?_) λz=>absurd (by lia) z;lk;refine ⟨bK (m:=2) (au 2),λt ht=>?_⟩;have S8:=bJ.cH (o:=.tup [.ref x,.ref y]) ht;exact k t x y _ ((hS.trans S37).trans S8) ((hS.trans S37).free ht) hHx hHy nxy aF (by rw [hpr];exact S8 _ _ g7) (by rw [hpr];exact S8 _ _ (S47 _ _ g4))
 .rw [if_neg c] at hpr;refine sD (λz=>absurd (by lia) c) λ_=>?_;lk;refine ⟨bK (m:=2) (au 2),λt ht=>?_⟩;have S8:=bJ.cH (o:=.tup [.ref y,.ref x]) ht;exact k t y x _ ((hS.trans S37).trans S8) ((hS.trans S37).free ht) hHy hHx (Ne.symm nxy) aF (by rw [hpr];exact S8 _ _ (S47 _ _ g4)) (by rw [hpr];exact S8 _ _ g7)
inductive qb (K:ae) (C:af) (vs:List V) (H:Hp) (Q:VK) (E:XK):Prop
 | mk (p:af) (r:List Int) (a:Int):vs=[.ref p,.int a]->dm K H p (r.map V.int)->a∈r->r.length<=1000->(∀ l H',bJ H H'->H l=none->H' l=some (.lst ((tn r (r.idxOf a)).map V.int))->Q (.ref l) H')->qb K C vs H Q E
def MD:Rn (qb K C) (GN K C) ["row","a","k"]:=by
 rintro vs H Q E ⟨p,r,a,rfl,hp,ha,hl,q⟩;unfold GN;lk;refine ⟨.inl ⟨rfl,_,hp⟩,?_⟩;lk;refine NK hp ha ?_;lk;refine xn hp rfl λp1 h1=>?_;have S1:=bJ.cH (o:=.lst ((r.drop (r.idxOf a)).map V.int)) h1;lk;refine NM (j:=1) (j':=r.idxOf a+1) (S1.seq hp) rfl (by lia) λp2 h2=>?_;have S2:=bJ.cH (o:=.lst (((r.drop 1).take (r.idxOf a+1-1)).map V.int)) h2;refine Ho (S2 _ _ aF) aF ?_ λp3 h3=>?_
 .rw [cY,bM,cY];lia
 .have S3:=bJ.cH (o:=.lst (((r.drop (r.idxOf a))++((r.drop 1).take (r.idxOf a+1-1))).map V.int)) h3;have S:=(S1.trans S2).trans S3;exact q p3 _ S ((S1.trans S2).free h3) aF
inductive oh (K:ae) (C:af) (vs:List V) (H:Hp) (Q:VK) (E:XK):Prop
 | mk (p q:af) (r1 r2:List Int) (a b:Int):vs=[.ref p,.ref q,.int a,.int b]->dm K H p (r1.map V.int)->dm K H q (r2.map V.int)->a∈r1->b∈r2->r1.length<=1000->r2.length<=1000->(∀ l H',bJ H H'->H l=none->H' l=some (.lst ((CP r1 r2 a b).map V.int))->Q (.ref l) H')->oh K C vs H Q E
def KC:Rn (oh K C) (Dk K C (qb K C)) ["row","other","a","b","k"]:=by
 rintro vs H Q E ⟨p,q,r1,r2,a,b,rfl,hp,hq,ha,hb,hl1,hl2,k⟩;unfold Dk;lk;refine ⟨.inl ⟨rfl,_,hp⟩,?_⟩;lk;refine NK hp ha ?_;lk;refine Re (j:=r1.idxOf a+1) hp (by lia) λp1 h1=>?_;generalize eu_:upd H p1 (.lst ((r1.take (r1.idxOf a+1)).map V.int))=H1;obtain ⟨S1,g1⟩:=kP eu_ h1;lk;refine ⟨q,r2,b,rfl,S1.seq hq,hb,hl2,λt H2 S2 ht gt=>?_⟩;have hlt:(tn r2 (r2.idxOf b)).length=r2.length:=Sa (Mu hb);refine Ho (S2 _ _ g1) gt (by rw [bM];lia) λp3 h3=>?_;generalize eu_:upd H2 p3 (.lst ((r1.take (r1.idxOf a+1)++tn r2 (r2.idxOf b)).map V.int))=H3;obtain ⟨S3,g3⟩:=kP eu_ h3;lk;have S13:=S1.trans (S2.trans S3);refine xn (j:=r1.idxOf a) (S13.seq hp) rfl λp4 h4=>?_;generalize eu_:upd H3 p4 (.lst ((r1.drop (r1.idxOf a)).map V.int))=H4;obtain ⟨S4,g4⟩:=kP eu_ h4;refine Ho (S4 _ _ g3) g4 (by rw [bb,bM,cY];lia) λp5 h5=>?_;have S5:=bJ.cH (o:=.lst ((r1.take (r1.idxOf a+1)++tn r2 (r2.idxOf b)++r1.drop (r1.idxOf a)).map V.int)) h5;refine k p5 _ ((S13.trans S4).trans S5) ((S13.trans S4).free h5) ?_;unfold CP;rw [← du];exact aF
def jD (K:ae) (C:af):Sp:=λvs H Q _=>∃ i:Int,vs=[.int i]/\Q (.bl true) H
def HL:Rn (jD K C) (Az K C) Aq:=by
 rintro vs H Q E ⟨i,rfl,k⟩;unfold Az;lk;refine JQ (.int i) Q8 ?_;lk;refine l0 ?_;lk;refine JQ (.int i) Q9 ?_;lk;exact k
inductive mR (K:ae) (C:af) (vs:List V) (H:Hp) (Q:VK) (E:XK):Prop
 | mk (n i:Nat):vs=[.int n,.int i]->i<n->Q (.bl true) H->mR K C vs H Q E
def HM:Rn (mR K C) (AB K C (jD K C)) Ao:=by
 rintro vs H Q E ⟨n,i,rfl,hi,k⟩;unfold AB;lk;refine ⟨i,rfl,?_⟩;refine ⟨true,rfl,?_⟩;refine l0 ?_;lk;refine sD (λ_=>?_) λz=>absurd (show (0:Int)<=i by lia) z;lk;rw [decide_eq_true (show (i:Int)<n by lia)];exact k
inductive cE (K:ae) (C:af) (vs:List V) (H:Hp) (Q:VK) (E:XK):Prop
 | mk (n i:Nat):vs=[.int n,.int i]->i<n->Q .non H->cE K C vs H Q E
def uP:Rn (cE K C) (oe K C (mR K C)) Ao:=by
 rintro vs H Q E ⟨n,i,rfl,hi,k⟩;unfold oe;lk;refine ⟨n,i,rfl,hi,?_⟩;refine ⟨true,rfl,?_⟩;refine lI ?_;lk;exact k
inductive bW (K:ae) (C:af) (vs:List V) (H:Hp) (Q:VK) (E:XK):Prop
 | mk (n i j:Nat):vs=[.int n,.int i,.int j]->i<n->j<n->Q .non H->bW K C vs H Q E
def tD:Rn (bW K C) (nA K C (cE K C)) xv:=by
 rintro vs H Q E ⟨n,i,j,rfl,hi,hj,k⟩;unfold nA;lk;refine ⟨n,i,rfl,hi,?_⟩;lk;refine ⟨n,j,rfl,hj,?_⟩;exact k
inductive b0 (K:ae) (C:af) (vs:List V) (H:Hp) (Q:VK) (E:XK):Prop
 | mk (n i j:Nat):vs=[.int n,.int i,.int j]->i<n->j<n->i≠j->Q .non H->b0 K C vs H Q E
def wq:Rn (b0 K C) (oR K C (bW K C)) xv:=by
 rintro vs H Q E ⟨n,i,j,rfl,hi,hj,hij,k⟩;unfold oR;lk;refine ⟨n,i,j,rfl,hi,hj,?_⟩;lk;refine sD (λz=>absurd (kC.mp z) (by lia)) λ_=>?_;lk;exact k
def md {ta tv:TE}{f:bB}{D:rN}{Z:L2.St}(h:tv Z H λy H1=>ta Z H1 λx H2=>∃ a C dx fs,x=.ref a/\H2 a=some (.ins C dx fs)/\EA K C/\dI K C f/\fs.length<1000/\D.nx Z (upd H2 a (.ins C dx (dR f y fs)))):uK K ta tv f D Z H:=h
def kn:¬ (("n":bB)="rows"):=by decide +kernel
def HN (n:Nat) (l:af):List (bB×V):=dR "rows" (.ref l) (dR "n" (.int n) [])
def iO (n:Nat) (l:af):(HN n l).lookup ("rows":bB)=some (.ref l):=by unfold HN;rw [ft,if_pos rfl]
def zt (n:Nat) (l:af):(HN n l).lookup ("n":bB)=some (.int n):=by unfold HN;rw [ft,if_neg kn,ft,if_pos rfl]
def mD (n:Nat) (l:af) {m:bB}(h1:¬ m="rows":=by decide +kernel) (h2:¬ m="n":=by decide +kernel):(HN n l).lookup m=none:=by
 unfold HN;rw [ft,if_neg h1,ft,if_neg h2];rfl
structure CT (K:ae) (C:af):Prop where
 cl:EA K C
 n:dI K C "n"
 rows:dI K C "rows"
structure WA (C:af) (H:Hp) (p dx l:af) (n:Nat) (as:List af) (R:Nat->List Int):Prop where
 ob:H p=some (.ins C dx (HN n l))
 rl:H l=some (.lst (as.map V.ref))
 len:as.length=n
 at_:∀ i a,as[i]?=some a->H a=some (.lst ((R i).map V.int))
 ne:∀ a∈as,a≠l
def WA.get {as:List af}{R:Nat->List Int}(W:WA C H p dx l n as R) {i:Nat}(hi:i<n):∃ a,as[i]?=some a/\H a=some (.lst ((R i).map V.int))/\a≠l:=by
 have h:i<as.length:=by rw [W.len];exact hi
 exact ⟨as[i],aA h,W.at_ i _ (aA h),W.ne _ (i9 h)⟩
def WA.same {as:List af}{R:Nat->List Int}(W:WA C H p dx l n as R) (S:bJ H H'):WA C H' p dx l n as R :=
 ⟨S _ _ W.ob,S _ _ W.rl,W.len,λi a h=>S _ _ (W.at_ i a h),W.ne⟩
inductive fF (K:ae) (C:af) (vs:List V) (H:Hp) (Q:VK) (E:XK):Prop
 | mk (p dx:af) (n:Nat):vs=[.ref p,.int n]->H p=some (.ins C dx [])->CT K C->n<=1000->(∀ (l:af) (as:List af) (H':Hp),WA C H' p dx l n as (λi=>[(i:Int)])->H l=none->bf p H H'->Q .non H')->fF K C vs H Q E
theorem x6:Rn (fF K C) (qd K C) qX:=by
 rintro vs H Q E ⟨p,dx,n,rfl,hp,ct,hn,k⟩;unfold qd;k_ne;refine md ?_;lk;refine ⟨p,C,dx,[],rfl,hp,ct.cl,ct.n,by decide,?_⟩;dsimp only;refine md ?_;lk;refine ⟨by lia,by lia,λacc hacc=>?_⟩
 have e0:((n:Int)).toNat=n:=by lia
 rw [e0]
 have hap:acc≠p:=λe=>by rw [e,aF] at hacc;cases hacc
 have hacc0:H acc=none:=by rw [aG hap] at hacc;exact hacc
 have g0:(upd H p (.ins C dx (dR "n" (.int n) []))) p=some (.ins C dx (dR "n" (.int n) [])):=aF;have B0:bf p H (upd H p (.ins C dx (dR "n" (.int n) []))):=bf.upd;generalize upd H p (.ins C dx (dR "n" (.int n) []))=H0 at hacc g0 B0;refine nF (n:=n) (λt ys H1=>∃ as:List af,ys=as.map V.ref/\as.length=t/\H1 acc=some (.lst ys)/\bJ H0 H1/\∀ (i:Nat) a,as[i]?=some a->a≠acc/\H1 a=some (.lst ([(i:Int)].map V.int))) (λZ=>∃ o,Z=[o]) ⟨[],rfl,rfl,aF,bJ.cH hacc,λi a h=>by simp at h⟩ ⟨_,rfl⟩ ?_ ?_ ?_ ?_
 .rintro t ys H1 ⟨_,_,_,h,_⟩;exact h
 .rintro ys H1 ⟨as,rfl,hl,g1,S1,hA⟩;refine ⟨au n,?_⟩;lk;refine ⟨p,C,dx,_,rfl,S1 _ _ g0,ct.cl,ct.rows,by show 1<1000;decide,?_⟩;have hb:bf p H1 (upd H1 p (.ins C dx (HN n acc))):=bf.upd
  have nl:∀ {b:af}{xs:List V},H1 b=some (.lst xs)->b≠p:=λe z=>by rw [z,S1 _ _ g0] at e;cases e
  refine k acc as _ ⟨aF,hb _ _ g1 hap,hl,λi a ha=>hb _ _ (hA i a ha).2 (nl (hA i a ha).2),λa ha=>?_⟩ hacc0 λb o e hne=>hb _ _ (S1 _ _ (B0 _ _ e hne)) hne;obtain ⟨i,hi⟩:=bC.mp ha;exact (hA i a hi).1
 .rintro t ys H1 ht _;exact ht
 .rintro t ys σ' H1 x H2 ht ⟨as,rfl,hl,g1,S1,hA⟩ ⟨o,rfl⟩ ⟨eH,ex⟩;subst eH ex;lk;refine l0 ?_;lk;refine ⟨bK (m:=1) (au 1),λq hq=>?_⟩;have T:=bJ.cH (o:=.lst [.int (0+(t:Int))]) hq
  have u:(upd H2 q (.lst [.int (0+(t:Int))])) q=some (.lst ([(t:Int)].map V.int)):=by rw [aF];simp
  generalize upd H2 q (.lst [.int (0+(t:Int))])=H3 at T u;have hqa:q≠acc:=Ne.symm (aR g1 hq);refine ⟨T _ _ g1,eT (m:=10000) (by rw [ag];lia),lh.mk' ht ⟨_,rfl⟩ ⟨as++[q],by simp,by simp [hl],aF,λb o e=>by rw [aG (aR e hacc)];exact T _ _ (S1 _ _ e),λi a ha=>?_⟩⟩
  by_cases hi:i<as.length
  .rw [fO hi] at ha;obtain ⟨h1,h2⟩:=hA i a ha;exact ⟨h1,by rw [aG h1];exact T _ _ h2⟩
  .rw [dW (by lia)] at ha
   have:i=as.length:=by
    have:=(aC.mp ha).1;simp at this;lia
   subst this;simp at ha;subst ha;rw [hl];exact ⟨hqa,by rw [aG hqa];exact u⟩
inductive fJ (K:ae) (C:af) (vs:List V) (H:Hp) (Q:VK) (E:XK):Prop
 | mk (p dx l q:af) (n:Nat) (as:List af) (s:List Int):vs=[.ref p,.ref q]->CT K C->H p=some (.ins C dx (HN n l))->H l=some (.lst (as.map V.ref))->as.length=n->H q=some (.lst (s.map V.int))->q≠l->(∀ x∈s,∃ j:Nat,j<n/\x=(j:Int))->(∀ (as':List af) H',as'.length=n->(∀ (i:Nat) (a:af),as[i]?=some a->as'[i]?=some (if (i:Int)∈s then q else a))->H' l=some (.lst (as'.map V.ref))->bf l H H'->Q .non H')->fJ K C vs H Q E
def E1:Rn (fJ K C) (xR K C) ["self","row","place"]:=by
 rintro vs H Q E ⟨p,dx,l,q,n,as,s,rfl,ct,hp,hl,hn,hq,hql,hs,k⟩;have hpl:p≠l:=gJ hp hl;unfold xR sU;lk
 refine .inl ⟨⟨_,dm.of hq⟩,kW (K:=K) (a:=q) (xs:=s.map V.int) (λi Z H1=>∃ (as':List af) (o:Option V),Z=[some (.ref p),some (.ref q),o]/\as'.length=n/\(∀ (j:Nat) (a:af),as[j]?=some a->as'[j]?=some (if (j:Int)∈s.take i then q else a))/\H1 l=some (.lst (as'.map V.ref))/\bf l H H1)
  ⟨as,_,rfl,hn,λj a h=>by simpa using h,hl,bf.refl _ _⟩ ?_ ?_ ?_⟩
 .rintro i Z H1 _ ⟨as',o,_,_,_,_,B⟩;exact dm.of (B _ _ hq hql)
 .rintro i x Z H1 hi ⟨as',o,rfl,hn',hA,g1,B⟩;rw [aB] at hi;obtain ⟨c,hc,ex⟩:=bo.mp hi;have ex:x=V.int c:=ex.symm;subst ex;obtain ⟨j,hj,rfl⟩:=hs c (aN hc);k_go;refine ⟨p,C,dx,_,_,rfl,B _ _ hp hpl,ct.cl,ct.rows,iO _ _,?_⟩;lk;refine Q3 g1 (Ra (j:=j) rfl (by rw [ag];lia)) ?_;refine ⟨as'.set j q,_,rfl,by simpa using hn',λk' a ha=>?_,?_,λb o' e hb=>by rw [aG hb];exact B _ _ e hb⟩
  .have e1:s.take (i+1)=s.take i++[(j:Int)]:=by rw [Zp,hc];rfl
   rw [e1]
   by_cases hk:k'=j
   .subst hk;rw [mG (by rw [hn',← hn];exact (aC.mp ha).1),if_pos (by simp)]
   .rw [wO (Ne.symm hk),hA k' a ha]
    have:((k':Int)∈s.take i++[(j:Int)])↔(k':Int)∈s.take i:=by
     simp only [aQ,ay];exact ⟨λh=>h.elim id λe=>absurd (by lia) hk,.inl⟩
    by_cases c1:(k':Int)∈s.take i
    .rw [if_pos c1,if_pos (this.mpr c1)]
    .rw [if_neg c1,if_neg (λh=>c1 (this.mp h))]
  .rw [aF,List.map_set]
 .rintro Z H1 ⟨as',o,rfl,hn',hA,g1,B⟩;rw [ag,r9] at hA;exact k as' H1 hn' hA g1 B
inductive eI (K:ae) (C:af) (vs:List V) (H:Hp) (Q:VK) (E:XK):Prop
 | mk (p dx l:af) (n a b:Nat) (as:List af) (R:Nat->List Int):vs=[.ref p,.int a,.int b]->CT K C->WA C H p dx l n as R->Wd n R->a<n->b<n->Q (.bl (decide ((b:Int)∈R a))) H->eI K C vs H Q E
def A8:Rn (eI K C) (sV K C (bW K C)) pV:=by
 rintro vs H Q E ⟨p,dx,l,n,a,b,as,R,rfl,ct,W,D,ha,hb,k⟩;obtain ⟨ra,e1,e2,_⟩:=W.get ha;obtain ⟨rb,f1,f2,_⟩:=W.get hb
 have hd:∀ i,i<n->∃ x,(R i)[0]?=some x/\(R i).head?=some x:=λi hi=>by
  cases h:R i with
  | nil=>exact absurd h (D.r i hi).ne
  | cons x t=>exact ⟨x,rfl,rfl⟩
 obtain ⟨x,hx,hx'⟩:=hd a ha;obtain ⟨y,hy,hy'⟩:=hd b hb;have hj:=D.head ha hb;rw [hx',hy'] at hj;unfold sV;k_go;refine ⟨p,C,dx,_,_,rfl,W.ob,ct.cl,ct.n,zt _ _,?_⟩;lk;refine ⟨n,a,b,rfl,ha,hb,?_⟩;k_go;refine ⟨p,C,dx,_,_,rfl,W.ob,ct.cl,ct.rows,iO _ _,?_⟩;lk;refine mO (dm.of W.rl) (eZ (j:=a) rfl (by rw [aB,e1];rfl)) ?_;lk;refine JU (dm.of e2) (j:=0) rfl hx ?_;k_go;refine ⟨p,C,dx,_,_,rfl,W.ob,ct.cl,ct.rows,iO _ _,?_⟩;lk;refine mO (dm.of W.rl) (eZ (j:=b) rfl (by rw [aB,f1];rfl)) ?_;lk;refine JU (dm.of f2) (j:=0) rfl hy ?_;lk
 have e:decide (V.int x=V.int y)=decide ((b:Int)∈R a):=by
  rw [iG,decide_eq_true_iff,decide_eq_true_iff,kC,← hj];exact ⟨λh=>by rw [h],λh=>aU h⟩
 rw [e];exact k
inductive fM (K:ae) (C:af) (vs:List V) (H:Hp) (Q:VK) (E:XK):Prop
 | mk (p dx l:af) (n a b:Nat) (as:List af) (R:Nat->List Int):vs=[.ref p,.int a,.int b]->CT K C->WA C H p dx l n as R->Wd n R->n<=200->a<n->b<n->(b:Int)∉R a->(∀ (as':List af) H',WA C H' p dx l n as' (lk R a b)->bf l H H'->Q .non H')->fM K C vs H Q E
theorem E3:Rn (fM K C) (xS K C (b0 K C) (eI K C) (fJ K C) (oh K C)) pV:=by
 rintro vs H Q E ⟨p,dx,l,n,a,b,as,R,rfl,ct,W,D,hn,ha,hb,hm,k⟩;obtain ⟨ra,e1,e2,_⟩:=W.get ha;obtain ⟨rb,f1,f2,_⟩:=W.get hb;have hla:=D.len ha;have hlb:=D.len hb;have hab:a≠b:=λe=>hm (e▸D.me a ha);obtain ⟨T2,D2,E2⟩:=D.link ha hb hm;unfold xS;k_go;refine ⟨p,C,dx,_,_,rfl,W.ob,ct.cl,ct.n,zt _ _,?_⟩;lk;refine ⟨n,a,b,rfl,ha,hb,hab,?_⟩;k_in;refine ⟨p,dx,_,rfl,W.ob,mD _ _,?_⟩;lk;refine ⟨p,dx,l,n,a,b,as,R,rfl,ct,W,D,ha,hb,?_⟩;refine ⟨_,rfl,?_⟩;refine sD (λz=>absurd z hm) λ_=>?_;k_in;refine ⟨p,dx,_,rfl,W.ob,mD _ _,?_⟩;k_go;refine ⟨p,C,dx,_,_,rfl,W.ob,ct.cl,ct.rows,iO _ _,?_⟩;lk;refine mO (dm.of W.rl) (eZ (j:=a) rfl (by rw [aB,e1];rfl)) ?_;k_go;refine ⟨p,C,dx,_,_,rfl,W.ob,ct.cl,ct.rows,iO _ _,?_⟩;lk;refine mO (dm.of W.rl) (eZ (j:=b) rfl (by rw [aB,f1];rfl)) ?_;lk;refine ⟨ra,rb,R a,R b,a,b,rfl,dm.of e2,dm.of f2,D.me a ha,D.me b hb,by lia,by lia,λq H1 S1 hq gq=>?_⟩;lk;have W1:=W.same S1;have hql:q≠l:=Ne.symm (aR W.rl hq);refine ⟨p,dx,l,q,n,as,_,rfl,ct,W1.ob,W1.rl,W.len,gq,hql,λx hx=>?_,λas' H2 hl2 hA g2 B2=>?_⟩
 .rcases (T2.mem x).mp hx with h|h
  .obtain ⟨j,hj,e,_⟩:=D.LD a ha x h;exact ⟨j,hj,e⟩
  .obtain ⟨j,hj,e,_⟩:=D.LD b hb x h;exact ⟨j,hj,e⟩
 .have hpl:p≠l:=gJ W.ob W.rl
  have hAt:∀ (i:Nat) (c:af),as'[i]?=some c->∃ c0,as[i]?=some c0/\c=if (i:Int)∈CP (R a) (R b) a b then q else c0:=λi c hc=>by
   have hi:i<as.length:=by rw [W.len,← hl2];exact (aC.mp hc).1
   have:=hA i _ (aA hi);rw [hc] at this;exact ⟨_,aA hi,aU this⟩
  refine k as' H2 ⟨B2 _ _ W1.ob hpl,g2,hl2,λi c hc=>?_,λc hc=>?_⟩ (λb' o e hne=>B2 _ _ (S1 _ _ e) hne)
  .obtain ⟨c0,h0,ec⟩:=hAt i c hc
   show H2 c=some (.lst ((if (i:Int)∈CP (R a) (R b) a b then CP (R a) (R b) a b else R i).map V.int))
   by_cases ci:(i:Int)∈CP (R a) (R b) a b
   .rw [if_pos ci] at ec ⊢;rw [ec];exact B2 _ _ gq hql
   .rw [if_neg ci] at ec ⊢;rw [ec];exact B2 _ _ (W1.at_ i c0 h0) (W.ne _ (aN h0))
  .obtain ⟨i,hi⟩:=bC.mp hc;obtain ⟨c0,h0,ec⟩:=hAt i c hi
   by_cases ci:(i:Int)∈CP (R a) (R b) a b
   .rw [if_pos ci] at ec;rw [ec];exact hql
   .rw [if_neg ci] at ec;rw [ec];exact W.ne _ (aN h0)
inductive jE (K:ae) (C:af) (vs:List V) (H:Hp) (Q:VK) (E:XK):Prop
 | mk (p dx l:af) (n a b:Nat) (as:List af) (R:Nat->List Int):vs=[.ref p,.int a,.int b]->CT K C->WA C H p dx l n as R->Wd n R->n<=200->a<n->b<n->a≠b->Ed n R a b->(∀ (as':List af) H',WA C H' p dx l n as' (Rm.ct R a b)->bf l H H'->Q .non H')->jE K C vs H Q E
theorem HP:Rn (jE K C) (AD K C (b0 K C) (l9 K C) (eF K C) (fJ K C)) ["self","a","b","row"]:=by
 rintro vs H Q E ⟨p,dx,l,n,a,b,as,R,rfl,ct,W,D,hn,ha,hb,hab,hE,k⟩;obtain ⟨ra,e1,e2,_⟩:=W.get ha;have hla:=D.len ha;have hm:=Ed.at D hE ha (D.me a ha);have hm':=(D.r a ha).sym _ _ hm;have P:=(D.r a ha).parted hm (by lia:(a:Int)≠b);have PM:=P.mem (D.r a ha);have hpl:p≠l:=gJ W.ob W.rl;unfold AD;k_go;refine ⟨p,C,dx,_,_,rfl,W.ob,ct.cl,ct.n,zt _ _,?_⟩;lk;refine ⟨n,a,b,rfl,ha,hb,hab,?_⟩;lk;refine ⟨bK (m:=2) (au 2),λt ht=>?_⟩;generalize eu_:upd H t (.tup [.int (a:Int),.int (b:Int)])=H1;obtain ⟨S1,g1⟩:=kP eu_ ht;have W1:=W.same S1;k_go;refine ⟨p,C,dx,_,_,rfl,W1.ob,ct.cl,ct.rows,iO _ _,?_⟩;lk;refine mO (dm.of W1.rl) (eZ (j:=a) rfl (by rw [aB,e1];rfl)) ?_;lk;refine ⟨ra,R a,rfl,dm.of (S1 _ _ e2),by lia,λz H2 zs S2 hz gz pz ez=>?_⟩;refine Q7 (HK (S2 _ _ g1)) (SF gz pz) (BH _) (iX _ (xZ _)) ?_
 have hin:(((zs.map zP).map GP).any λe=>dH e (GP ((a:Int),(b:Int))))=true:=by
  rw [ez,List.any_map,Xi];exact ⟨_,hm,by simp [HJ]⟩
 rw [hin];lk;refine lI ?_;have S12:=S1.trans S2;have W2:=W.same S12;lk;unfold vt;k_go;refine ⟨p,C,dx,_,_,rfl,W2.ob,ct.cl,ct.rows,iO _ _,?_⟩;lk;refine mO (dm.of W2.rl) (eZ (j:=a) rfl (by rw [aB,e1];rfl)) ?_;lk;refine ⟨ra,R a,a,b,rfl,dm.of (S12 _ _ e2),by lia,hm,hm',λu x y H3 S3 hu hx hy hxy gu gx gy=>?_⟩;have S13:=S12.trans S3;have W3:=W.same S13;have hxl:x≠l:=Ne.symm (aR W2.rl hx);have hyl:y≠l:=Ne.symm (aR W2.rl hy);have hul:u≠l:=Ne.symm (aR W2.rl hu)
 have jin:∀ z,z∈R a->∃ j:Nat,j<n/\z=(j:Int):=λz hz=>let ⟨j,hj,e,_⟩:=D.LD a ha z hz;⟨j,hj,e⟩
 have ectR:∀ i:Nat,Rm.ct R a b i=if (i:Int)∈(yR (R a) a b).2 then (yR (R a) a b).2 else if (i:Int)∈(yR (R a) a b).1 then (yR (R a) a b).1 else R i:=λ_=>rfl
 generalize (yR (R a) a b).1=X at P PM gx ectR;generalize (yR (R a) a b).2=Y at P PM gy ectR;lk
 refine .inr (.inl ⟨⟨_,jq.of gu⟩,Uu (K:=K) (a:=u) (xs:=[.ref x,.ref y]) (λi Z H4=>∃ (as1:List af) (o:Option V),Z=[some (.ref p),some (.int (a:Int)),some (.int (b:Int)),o]/\as1.length=n/\H4 l=some (.lst (as1.map V.ref))/\bf l H3 H4 /\
  ∀ (j:Nat) (c:af),as[j]?=some c->as1[j]?=some (if 2<=i/\(j:Int)∈Y then y else if 1<=i/\(j:Int)∈X then x else c)) ⟨as,_,rfl,W.len,W3.rl,bf.refl _ _,λj c h=>by rw [if_neg (λz=>by lia),if_neg (λz=>by lia)];exact h⟩ ?_ ?_ ?_⟩)
 .rintro i Z H4 _ ⟨_,_,_,_,_,B,_⟩;exact jq.of (B _ _ gu hul)
 .rintro i v Z H4 hi ⟨as1,o,rfl,hl1,g4,B,hA⟩
  obtain ⟨q,s,hql,gq,hs,ev,hif⟩:∃ (q:af) (s:List Int),q≠l/\H3 q=some (.lst (s.map V.int))/\(∀ z∈s,∃ j:Nat,j<n/\z=(j:Int))/\v=.ref q/\(∀ (j:Nat) (c:af),(if (j:Int)∈s then q else if 2<=i/\(j:Int)∈Y then y else if 1<=i/\(j:Int)∈X then x else c)=if 2<=i+1/\(j:Int)∈Y then y else if 1<=i+1/\(j:Int)∈X then x else c):=by
   rcases (show i=0\/i=1 by have:=(aC.mp hi).1;simp at this;lia) with rfl|rfl
   .refine ⟨x,X,hxl,gx,λz hz=>jin z ((PM z).mpr (.inl hz)),by simpa using hi.symm,λj c=>?_⟩
    by_cases c1:(j:Int)∈X<;>simp [c1]
   .refine ⟨y,Y,hyl,gy,λz hz=>jin z ((PM z).mpr (.inr hz)),by simpa using hi.symm,λj c=>?_⟩
    by_cases c2:(j:Int)∈Y<;>by_cases c1:(j:Int)∈X<;>simp [c1,c2]
  subst ev;k_in;refine ⟨p,dx,_,rfl,B _ _ W3.ob hpl,mD _ _,?_⟩;lk;refine ⟨p,dx,l,q,n,as1,s,rfl,ct,B _ _ W3.ob hpl,g4,hl1,B _ _ gq hql,hql,hs,λas2 H5 hl2 hA2 g5 B5=>?_⟩;refine ⟨as2,_,rfl,hl2,g5,λb' o' e hne=>B5 _ _ (B _ _ e hne) hne,λj c hc=>?_⟩;rw [hA2 j _ (hA j c hc),hif j c]
 .rintro Z H4 ⟨as2,o,rfl,hl2,g4,B,hA⟩
  have hAt:∀ (i:Nat) (c:af),as2[i]?=some c->∃ c0,as[i]?=some c0/\c=if (i:Int)∈Y then y else if (i:Int)∈X then x else c0:=λi c hc=>by
   have hi:i<as.length:=by rw [W.len,← hl2];exact (aC.mp hc).1
   have:=hA i _ (aA hi);rw [hc] at this;refine ⟨_,aA hi,(aU this).trans ?_⟩
   show (if 2<=2/\(i:Int)∈Y then y else if 1<=2/\(i:Int)∈X then x else as[i])=_
   simp
  refine k as2 H4 ⟨B _ _ W3.ob hpl,g4,hl2,λi c hc=>?_,λc hc=>?_⟩ (λb' o' e hne=>B _ _ (S13 _ _ e) hne)
  .obtain ⟨c0,h0,ec⟩:=hAt i c hc;rw [ectR]
   by_cases c2:(i:Int)∈Y
   .rw [if_pos c2] at ec ⊢;rw [ec];exact B _ _ gy hyl
   .rw [if_neg c2] at ec ⊢
    by_cases c1:(i:Int)∈X
    .rw [if_pos c1] at ec ⊢;rw [ec];exact B _ _ gx hxl
    .rw [if_neg c1] at ec ⊢;rw [ec];exact B _ _ (W3.at_ i c0 h0) (W.ne _ (aN h0))
  .obtain ⟨i,hi⟩:=bC.mp hc;obtain ⟨c0,h0,ec⟩:=hAt i c hi
   by_cases c2:(i:Int)∈Y
   .rw [if_pos c2] at ec;rw [ec];exact hyl
   .rw [if_neg c2] at ec
    by_cases c1:(i:Int)∈X
    .rw [if_pos c1] at ec;rw [ec];exact hxl
    .rw [if_neg c1] at ec;rw [ec];exact W.ne _ (aN h0)
inductive j9 (K:ae) (C:af) (vs:List V) (H:Hp) (Q:VK) (E:XK):Prop
 | mk (p dx l:af) (n a:Nat) (as:List af) (R:Nat->List Int):vs=[.ref p,.int a]->CT K C->WA C H p dx l n as R->Wd n R->(R a).length<=250->a<n->(∀ q (ks:List Int),H q=none->ks.Pairwise (· < ·)->(∀ x,x∈ks↔x∈R a)->Q (.ref q) (upd H q (.lst (ks.map V.int))))->j9 K C vs H Q E
def Dq:Rn (j9 K C) (vv K C (cE K C)) Ap:=by
 rintro vs H Q E ⟨p,dx,l,n,a,as,R,rfl,ct,W,D,hn,ha,k⟩;obtain ⟨ra,e1,e2,_⟩:=W.get ha;unfold vv;k_go;refine ⟨p,C,dx,_,_,rfl,W.ob,ct.cl,ct.n,zt _ _,?_⟩;lk;refine ⟨n,a,rfl,ha,?_⟩;lk;refine Mt ?_;k_go;refine ⟨p,C,dx,_,_,rfl,W.ob,ct.cl,ct.rows,iO _ _,?_⟩;lk;refine mO (dm.of W.rl) (eZ (j:=a) rfl (by rw [aB,e1];rfl)) ?_;lk;refine ⟨ra,R a,rfl,dm.of e2,by lia,?_,λq ks hq h1 h2=>k q ks hq h1 h2⟩;obtain ⟨ds,d1,d2,d3⟩:=(D.r a ha).cnt;exact ⟨ds,by lia,λx hx=>(d2 x).mpr hx⟩
inductive jP (K:ae) (C:af) (vs:List V) (H:Hp) (Q:VK) (E:XK):Prop
 | mk (p dx l:af) (n a:Nat) (as:List af) (R:Nat->List Int):vs=[.ref p,.int a]->CT K C->WA C H p dx l n as R->Wd n R->a<n->Q (.int ((((R a).length:Int)+1)/2)) H->jP K C vs H Q E
def E4:Rn (jP K C) (xU K C (cE K C)) Ap:=by
 rintro vs H Q E ⟨p,dx,l,n,a,as,R,rfl,ct,W,D,ha,k⟩;obtain ⟨ra,e1,e2,_⟩:=W.get ha;unfold xU;k_go;refine ⟨p,C,dx,_,_,rfl,W.ob,ct.cl,ct.n,zt _ _,?_⟩;lk;refine ⟨n,a,rfl,ha,?_⟩;k_go;refine ⟨p,C,dx,_,_,rfl,W.ob,ct.cl,ct.rows,iO _ _,?_⟩;lk;refine mO (dm.of W.rl) (eZ (j:=a) rfl (by rw [aB,e1];rfl)) ?_;lk;refine Rg (dm.of e2) ?_;lk;exact k
variable {X:EC}
inductive fW (K:ae) (C:af) (vs:List V) (H:Hp) (Q:VK) (E:XK):Prop
 | mk (n:Nat):vs=[.int n]->1<=n->n<=200->Q (.bl true) H->fW K C vs H Q E
def HQ:Rn (fW K C) (AA K C (jD K C)) Aq:=by
 rintro vs H Q E ⟨n,rfl,h1,h2,k⟩;unfold AA;lk;refine ⟨n,rfl,?_⟩;lk;refine l0 ?_;lk;refine sD (λh=>?_) λh=>absurd (show (1:Int)<=n by lia) h;lk;rw [show decide ((n:Int)<=200)=true from decide_eq_true (by lia)];exact k
def Top (n:Int) (j:Nat):Prop:=(j=0\/2*(2:Int)^j<=n)/\n<4*(2:Int)^j
def qK (K:ae) (C:af):Sp:=λvs H Q _=>∃ n:Int,vs=[.int n]/\∀ j:Nat,Top n j->Q (.int j) H
def Ds (j:Nat):(0:Int)<2^j:=Int.pow_pos (by decide)
def Vl:Rn (qK K C) (Sq K C) ["n","level","needed"]:=by
 rintro vs H Q E ⟨n,rfl,k⟩;unfold Sq;lk;unfold Kv;refine Cu (λZ H'=>H'=H/\∃ j:Nat,Z=[some (.int n),some (.int j),some (.int (4*2^j))]/\(j=0\/2*(2:Int)^j<=n)) (λZ _=>match Z with|[_,_,some (.int p)]=>(n+1-p).toNat|_=>0) ⟨rfl,0,rfl,.inl rfl⟩ ?_;rintro Z H' ⟨rfl,j,rfl,hj⟩;have hp:=Ds j;lk;refine sD (λh=>⟨_,Q5,?_⟩) λh=>?_
 .lk;refine ⟨⟨rfl,j+1,?_,.inr ?_⟩,?_⟩
  .have e:(4*2^j*2:Int)=4*2^(j+1):=by rw [mZ];lia
   show [some (V.int n),some (V.int ((j:Int)+1)),some (V.int (4*2^j*2))]=_
   rw [e];rfl
  .rw [mZ];lia
  .show (n+1-4*2^j*2).toNat<(n+1-4*2^j).toNat
   lia
 .lk;exact k j ⟨hj,by lia⟩
inductive dt (K:ae) (C:af) (vs:List V) (H:Hp) (Q:VK) (E:XK):Prop
 | mk (a b:Nat):vs=[.int a,.int b]->(∀ p,H p=none->Q (.ref p) (upd H p (.tup [.int (min a b:Nat),.int (max a b:Nat)])))->dt K C vs H Q E
def ME:Rn (dt K C) (GL K C) ["a","b"]:=by
 rintro vs H Q E ⟨a,b,rfl,k⟩;unfold GL;lk;refine sD (λh=>?_) λh=>?_
 .rw [show min a b=a by lia,show max a b=b by lia] at k;lk;exact ⟨bK (m:=2) (au 2),k⟩
 .rw [show min a b=b by lia,show max a b=a by lia] at k;lk;exact ⟨bK (m:=2) (au 2),k⟩
abbrev pk (x y:Nat):List iL:=[eh (x:Int),eh (y:Int)]
inductive oo (K:ae) (C:af) (vs:List V) (H:Hp) (Q:VK) (E:XK):Prop
 | mk (n a b:Nat) (d:af) (kvs:List (List iL×V)):vs=[.int n,.ref d,.int a,.int b]->a<n->b<n->a≠b->H d=some (.dT kvs)->iR kvs (pk (min a b) (max a b))=none->(∀ p,H p=none->Q (.ref p) (upd H p (.tup [.int (min a b:Nat),.int (max a b:Nat)])))->oo K C vs H Q E
def KD:Rn (oo K C) (Dl K C (b0 K C) (dt K C)) Ki:=by
 rintro vs H Q E ⟨n,a,b,d,kvs,rfl,ha,hb,hab,hd,hk,k⟩;unfold Dl;lk;refine ⟨n,a,b,rfl,ha,hb,hab,?_⟩;lk;refine ⟨a,b,rfl,λp hp=>?_⟩;lk
 have gd:(upd H p (.tup [.int (min a b:Nat),.int (max a b:Nat)])) d=some (.dT kvs):=by rw [aG (aR hd hp)];exact hd
 refine .inr ⟨d,_,rfl,wG.t (k:=pk (min a b) (max a b)) gd aF,?_⟩;rw [hk];lk;rw [if_neg (by simp)];lk;exact k p hp
inductive eK (K:ae) (C:af) (vs:List V) (H:Hp) (Q:VK) (E:XK):Prop
 | mk (n a b:Nat) (d:af) (kvs:List (List iL×V)):vs=[.int n,.ref d,.int a,.int b]->a<n->b<n->a≠b->H d=some (.dT kvs)->(iR kvs (pk (min a b) (max a b))).isSome=true->(∀ p,H p=none->Q (.ref p) (upd H p (.tup [.int (min a b:Nat),.int (max a b:Nat)])))->eK K C vs H Q E
def zu:Rn (eK K C) (qY K C (b0 K C) (dt K C)) Ki:=by
 rintro vs H Q E ⟨n,a,b,d,kvs,rfl,ha,hb,hab,hd,hk,k⟩;unfold qY;lk;refine ⟨n,a,b,rfl,ha,hb,hab,?_⟩;lk;refine ⟨a,b,rfl,λp hp=>?_⟩;lk
 have gd:(upd H p (.tup [.int (min a b:Nat),.int (max a b:Nat)])) d=some (.dT kvs):=by rw [aG (aR hd hp)];exact hd
 refine .inr ⟨d,_,rfl,wG.t (k:=pk (min a b) (max a b)) gd aF,?_⟩;rw [hk];lk;refine lI ?_;lk;exact k p hp
def kf (f:Ti->V) (ts:List Ti):List (List iL×V):=ts.map λt=>(pk t.x t.y,f t)
abbrev kl:List Ti->List (List iL×V):=kf λt=>.int t.cC
abbrev kw:List Ti->List (List iL×V):=kf λt=>.bl t.wd
abbrev kv:List Ti->List (List iL×V):=kf λ_=>.int 0
def Dt {x y u v:Nat}:pk x y=pk u v↔((x:Int),(y:Int))=((u:Int),(v:Int)):=by
 constructor
 .intro h;obtain ⟨h1,h2⟩:=mI h;rw [Nk h1,Nk (mI h2).1]
 .intro h;obtain ⟨h1,h2⟩:=cJ h
  show [eh (x:Int),eh (y:Int)]=_
  rw [h1,h2]
section
variable {f:Ti->V}{g:Ti->Ti}{t:Ti}
def gU (hn:(ts.map Ti.key).Nodup) (ht:t∈ts):iR (kf f ts) (pk t.x t.y)=some (f t):=by
 induction ts with
 | nil=>nomatch ht
 | cons s ts ih =>
  rw [aV,a7] at hn
  by_cases e:pk s.x s.y=pk t.x t.y
  .have:s=t:=by
    rcases aq.mp ht with q|q
    .exact q.symm
    .have e':t.key=s.key:=(Dt.mp e).symm;exact absurd (e'▸bg q) hn.1
   subst this;exact sk (p:=(pk s.x s.y,f s)) rfl
  .refine (pR (p:=(pk s.x s.y,f s)) e).trans (ih hn.2 ?_);exact (aq.mp ht).resolve_left λq=>e (q▸rfl)
def uu {x y:Nat}(h:((x:Int),(y:Int))∉ts.map Ti.key):iR (kf f ts) (pk x y)=none:=by
 induction ts with
 | nil=>rfl
 | cons s ts ih =>
  rw [aV,aq] at h;exact (pR (p:=(pk s.x s.y,f s)) λe=>h (.inl (Dt.mp e).symm)).trans (ih λq=>h (.inr q))
def SG (hn:(ts.map Ti.key).Nodup) (ht:t∈ts) (hg:∀ t,(g t).key=t.key):uL (kf f ts) (pk t.x t.y) (f (g t))=kf f (gE ts t.key g):=by
 unfold uL
 have hm:((kf f ts).any λkv=>decide (kv.1=pk t.x t.y))=true:=by rw [xh,gU hn ht];rfl
 rw [if_pos hm];unfold kf gE;rw [cz,cz];refine kN λu hu=>?_
 show (if pk u.x u.y=pk t.x t.y then (pk u.x u.y,f (g t)) else (pk u.x u.y,f u))=(pk (if u.key=t.key then g u else u).x (if u.key=t.key then g u else u).y,f (if u.key=t.key then g u else u))
 by_cases c:u.key=t.key
 .rw [if_pos c,if_pos (Dt.mpr c),m7 hn hu ht c];obtain ⟨e1,e2⟩:=Ti.Tz (hg t);rw [e1,e2]
 .rw [if_neg c,if_neg λe=>c (Dt.mp e)]
def BI (hg:∀ t,(g t).key=t.key) (hf:∀ t,f (g t)=f t) (k:Int×Int):kf f (gE ts k g)=kf f ts:=by
 unfold kf gE;rw [cz];refine kN λu hu=>?_
 show (pk (if u.key=k then g u else u).x (if u.key=k then g u else u).y,f (if u.key=k then g u else u))=_
 by_cases c:u.key=k
 .obtain ⟨e1,e2⟩:=Ti.Tz (hg u);rw [if_pos c,e1,e2,hf]
 .rw [if_neg c]
def BJ:mM (kf f ts) (pk t.x t.y)=kf f (ts.filter λu=>decide (u.key≠t.key)):=by
 unfold mM kf;rw [oE]
 congr 1
 refine List.filter_congr λu _=>?_;exact decide_eq_decide.mpr (not_congr Dt)
def mf:(kf f ts).length=ts.length:=ag _
end
abbrev rX (Pt:af) (H:Hp):Prop:=rP Pt ⟨119,28,119,61⟩ ((("in_order":bB)++".<locals>.")++"<lambda>") H
inductive mT (K:ae) (C:af) (Pt:af) (vs:List V) (H:Hp) (Q:VK) (E:XK):Prop
 | mk (p d:af) (zs:List Zn) (Ql:List (List iL×V)):vs=[.ref p,.ref d]->H p=some (.lst (zs.map oG))->H d=some (.dT Ql)->(∀ z∈zs,∃ w x y:Int,z.1=[w,x,y]/\H z.2=some (.tup [.int x,.int y])/\iR Ql [eh x,eh y]=some (.int w))->zs.length<99->rX Pt H->(∀ (l:af) (zs':List Zn) (H2:Hp),H2 l=none->qk Pt H H2->rX Pt H2->zs'.Perm zs->Q (.ref l) (upd H2 l (.lst (zs'.map oG))))->mT K C Pt vs H Q E
def HR:Rn (mT K C Pt) (oS K C Pt) GD:=by
 rintro vs H Q E ⟨p,d,zs,Ql,rfl,hp,hd,hkv,hl,hT,k⟩;unfold oS;lk;unfold Mr;lk;exact ⟨p,d,zs,Ql,rfl,hp,rfl,hd,hkv,by lia,hT,λl zs' H2 h1 h2 h3 h4 _=>k l zs' H2 h1 h2 h3 h4⟩
def ew (x y:Int) (S:List Int):Nat:=(if x∈S then 1 else 0)+(if y∈S then 1 else 0)
def any_ints (S:List Int) (x:Int):((S.map Qp).any λe=>dH e (.int x))=decide (x∈S):=by
 rw [List.any_map,iG,Xi,decide_eq_true_iff]
 constructor
 .rintro ⟨y,hy,e⟩
  have:y=x:=by simpa [dH] using e
  exact this▸hy
 .intro h;exact ⟨x,h,by simp [dH]⟩
inductive dA (K:ae) (C:af) (vs:List V) (H:Hp) (Q:VK) (E:XK):Prop
 | mk (t s:af) (x y:Int) (S:List Int):vs=[.ref t,.ref s]->H t=some (.tup [.int x,.int y])->H s=some (.lst (S.map V.int))->(∀ H',bJ H H'->Q (.int (ew x y S)) H')->dA K C vs H Q E
def A9:Rn (dA K C) (sS K C) N9:=by
 rintro vs H Q E ⟨t,s,x,y,S,rfl,ht,hs,k⟩;unfold sS;lk;refine .inr (.inl ⟨⟨_,jq.of ht⟩,λacc hacc=>?_⟩);refine nF (n:=2) (λi ys H'=>ys=(([x,y].take i).filter λz=>decide (z∈S)).map V.int/\H' acc=some (.lst ys)/\bJ H H') (λZ=>∃ o,Z=[o,some (.ref s)]) ⟨by simp,aF,bJ.cH hacc⟩ ⟨_,rfl⟩ ?_ ?_ ?_ ?_
 .rintro i ys H' ⟨_,h,_⟩;exact h
 .rintro ys H' ⟨rfl,h,S'⟩;refine ⟨⟨_,S'.YO (jq.of ht),au _⟩,?_⟩;lk;refine qC (dm.of h) ?_
  have e:((([x,y].take 2).filter λz=>decide (z∈S)).map V.int).length=ew x y S:=by
   unfold ew
   by_cases c1:x∈S<;>by_cases c2:y∈S<;>simp [c1,c2]
  rw [e];exact k H' S'
 .rintro i ys H' hi ⟨e,h,S'⟩;exact ⟨_,_,S'.YO (jq.of ht),aA hi⟩
 .rintro i ys σ' H' v H2 hi ⟨rfl,h,S'⟩ ⟨o,rfl⟩ ⟨e2,hx⟩;subst e2;have hxi:=hx _ (S'.YO (jq.of ht))
  obtain ⟨a,ha⟩:∃ a,[x,y][i]?=some a:=⟨_,aA (by simpa using hi)⟩
  have et:[x,y].take (i+1)=[x,y].take i++[a]:=by rw [eN,ha];rfl
  have ev:v=.int a:=by
   have:([x,y].map V.int)[i]?=some v:=hxi;rw [aB,ha] at this;exact (aU this).symm
  subst ev;lk;refine aad (Rep.int a) (sE (dm.of (S' _ _ hs))) ⟨rfl,by simp [lU]⟩ (iX _ (qF S)) ?_;rw [any_ints];lk;refine sD (λc=>?_) λc=>?_
  .lk;refine ⟨h,eT (m:=10) (by rw [ag];exact bw (dM _ _) (by rw [bM];lia)),lh.mk' hi ⟨_,rfl⟩ ⟨?_,aF,λb o q=>by rw [aG (aR q hacc)];exact S' _ _ q⟩⟩;rw [et,ff,a9];simp [c]
  .refine lh.mk' hi ⟨_,rfl⟩ ⟨?_,h,S'⟩;rw [et,ff,a9];simp [c]
def Top.one {n:Int}{i j:Nat}(h:Top n i) (h':Top n j):i=j:=by
 have key:∀ {i j:Nat},Top n i->Top n j->¬ i<j:=λ{i j} h h' c=>by
  rcases h'.1 with z|z
  .lia
  .have p:(2:Int)^(i+1)<=2^j:=by
    have:=yQ (n:=2) (by decide) (show i+1<=j from c)
    exact_mod_cast this
   have:=h.2;rw [mZ] at p;lia
 have:=key h h';have:=key h' h;lia
def rD (H:Hp) (u:Ti×af):Prop:=H u.2=some (.tup [.int u.1.x,.int u.1.y,.int u.1.cC,.bl u.1.wd])
def uQ (u:Ti×af):V:=.ref u.2
inductive eD (K:ae) (C:af) (vs:List V) (H:Hp) (Q:VK) (E:XK):Prop
 | mk (n:Int) (T:Nat) (p:af) (us:List (Ti×af)):vs=[.int n,.ref p]->Top n T->H p=some (.lst (us.map uQ))->(∀ u∈us,rD H u)->us.length<=1000->(∀ H',bJ H H'->Q (.int (us.map λu=>(T:Int)-u.1.cC).sum) H')->eD K C vs H Q E
def MF:Rn (eD K C) (GM K C (qK K C)) Kk:=by
 rintro vs H Q E ⟨n,T,p,us,rfl,tp,hp,hR,hl,q⟩;unfold GM;lk;refine .inl ⟨⟨_,dm.of hp⟩,λacc hacc=>?_⟩;refine qD (K:=K) (z:=p) (xs:=us.map uQ) us (λ_=>true) (λu=>.int ((T:Int)-u.1.cC)) (λZ=>∃ o o1 o2 o3,Z=[o,o1,o2,o3,some (.int n)]) (by simp) (dm.of hp) hacc ⟨_,_,_,_,rfl⟩ (by rw [ag];lia) ?_ ?_
 .rintro i u x σ' H' G G' hu hx S' ⟨o,o1,o2,o3,rfl⟩ g1 g2
  have ex:x=uQ u:=by rw [aB,hu] at hx;exact (aU hx).symm
  subst ex;refine Hm (.of (S' _ _ (hR u (aN hu)))) rfl ?_;lk;refine l0 ?_;lk;refine ⟨n,rfl,λj hj=>?_⟩;obtain rfl:=hj.one tp;lk;exact g1 rfl _ ⟨_,_,_,_,rfl⟩
 .rintro H' S' hH;lk
  have e:(us.filter λ_=>true).map (λu=>V.int ((T:Int)-u.1.cC))=(us.map λu=>(T:Int)-u.1.cC).map V.int:=by rw [cz,i7.mpr (λ_ _=>rfl)];rfl
  rw [e] at hH;exact ⟨acc,_,rfl,dm.of hH,q H' S'⟩
structure Tt where
 (p s q:af) (lv:Int) (xs:List V) (f:V)
def pE (t:Tt):V:=.ref t.p
def Bq (H:Hp) (t:Tt):Prop:=H t.p=some (.tup [.int t.lv,.ref t.s,.ref t.q,t.f])/\H t.q=some (.lst t.xs)
def Bq.same {t:Tt}(h:Bq H t) (S:bJ H H'):Bq H' t:=⟨S _ _ h.1,S _ _ h.2⟩
def E5 (us:List Tt):Nat:=(us.map λv=>v.xs.length).sum
def GR (us:List Tt):Nat:=(us.filter λv=>!decide (v.f=V.non)).length
def Vm (us:List Tt):(us.map λv=>(v.xs.length:Int)).sum=(E5 us:Int):=by
 unfold E5
 induction us with
 | nil=>rfl
 | cons v us ih=>rw [aV,aV,gh,gh,ih];rfl
inductive fk (K:ae) (C:af) (vs:List V) (H:Hp) (Q:VK) (E:XK):Prop
 | mk (a:af) (ts:List Tt):vs=[.ref a]->H a=some (.lst (ts.map pE))->(∀ t∈ts,Bq H t)->ts.length<=1000->(∀ H',bJ H H'->Q (.int (E5 ts:Nat)) H')->fk K C vs H Q E
def Pe:Rn (fk K C) (Kw K C) Ar:=by
 rintro vs H Q E ⟨a,ts,rfl,ha,hR,hl,q⟩;unfold Kw;lk;refine .inl ⟨⟨_,dm.of ha⟩,λacc hacc=>?_⟩;refine qD (K:=K) (z:=a) (xs:=ts.map pE) ts (λ_=>true) (λt=>.int (t.xs.length:Int)) (λZ=>∃ o o1 o2 o3,Z=[o,o1,o2,o3]) (by simp) (dm.of ha) hacc ⟨_,_,_,_,rfl⟩ (by rw [ag];lia) ?_ ?_
 .rintro i t x σ' H' G G' ht hx S' ⟨o,o1,o2,o3,rfl⟩ g1 g2
  have ex:x=pE t:=by rw [aB,ht] at hx;exact (aU hx).symm
  subst ex;have ok:=(hR t (aN ht)).same S';refine Hm (.of ok.1) rfl ?_;lk;refine l0 ?_;lk;refine qC (dm.of ok.2) ?_;exact g1 rfl _ ⟨_,_,_,_,rfl⟩
 .rintro H' S' hH;lk
  have e:(ts.filter λ_=>true).map (λt=>V.int (t.xs.length:Int))=(ts.map λt=>(t.xs.length:Int)).map V.int:=by rw [cz,i7.mpr (λ_ _=>rfl)];rfl
  rw [e] at hH;refine ⟨acc,_,rfl,dm.of hH,?_⟩;rw [Vm];exact q H' S'
inductive gQ (K:ae) (C:af) (vs:List V) (H:Hp) (Q:VK) (E:XK):Prop
 | mk (a:af) (ts:List Tt):vs=[.ref a]->H a=some (.lst (ts.map pE))->(∀ t∈ts,Bq H t)->ts.length<=1000->GR ts<=1->(∀ H',bJ H H'->Q (.int (E5 ts+GR ts:Nat)) H')->gQ K C vs H Q E
def Pg:Rn (gQ K C) (Kx K C (fk K C)) ["trail","finds"]:=by
 rintro vs H Q E ⟨a,ts,rfl,ha,hR,hl,hf,q⟩;unfold Kx;lk;refine .inl ⟨⟨_,dm.of ha⟩,λacc hacc=>?_⟩;refine qD (K:=K) (z:=a) (xs:=ts.map pE) ts (λt=>!decide (t.f=.non)) (λt=>t.f) (λZ=>∃ o o1 o2 o3,Z=[o,o1,o2,o3]) (by simp) (dm.of ha) hacc ⟨_,_,_,_,rfl⟩ (by rw [ag];lia) ?_ ?_
 .rintro i t x σ' H' G G' ht hx S' ⟨o,o1,o2,o3,rfl⟩ g1 g2
  have ex:x=pE t:=by rw [aB,ht] at hx;exact (aU hx).symm
  subst ex;have ok:=(hR t (aN ht)).same S';refine Hm (.of ok.1) rfl ?_;lk
  cases hf:(!decide (t.f=V.non)) with
  | true =>
   refine l0 ?_;lk
   exact g1 hf _ ⟨_,_,_,_,rfl⟩
  | false =>
   refine lI ?_;exact g2 hf _ ⟨_,_,_,_,rfl⟩
 .rintro H' S' hH;lk;refine ⟨_,.inl ⟨_,dm.of hH,rfl⟩,?_⟩
  have e:(!((ts.filter λt=>!decide (t.f=V.non)).map λt=>t.f).isEmpty)=decide (GR ts=1):=by
   unfold GR at hf ⊢;generalize ts.filter (λt=>!decide (t.f=V.non))=ws at hf ⊢
   cases ws with
   | nil=>rfl
   | cons v ws =>
    cases ws with
    | nil=>rfl
    | cons w r=>exact absurd hf (by simp)
  rw [e];refine sD (λc=>?_) λc=>?_
  .lk;refine ⟨a,ts,rfl,S' _ _ ha,λt ht=>(hR t ht).same S',hl,λH2 S2=>?_⟩;lk;have:=q _ (S'.trans S2);rw [c] at this;exact this
  .lk;refine ⟨a,ts,rfl,S' _ _ ha,λt ht=>(hR t ht).same S',hl,λH2 S2=>?_⟩;have:=q _ (S'.trans S2);rw [show GR ts=0 by lia] at this;exact this
variable {X:EC}
def ee {f g:bB}{v x:V}{r:List (bB×V)}(h:¬ g=f):dR f v ((g,x)::r)=(g,x)::dR f v r:=by show (if g=f then _ else _)=_;rw [if_neg h]
def x8 {f:bB}{v x:V}{r:List (bB×V)}:dR f v ((f,x)::r)=(f,v)::r:=by show (if f=f then _ else _)=_;rw [if_pos rfl]
def vA {f:bB}{x:V}{r:List (bB×V)}:cR f ((f,x)::r)=some x:=by rw [cI,beq_self_eq_true]
def fI {f g:bB}{x:V}{r:List (bB×V)}(h:¬ g=f):cR g ((f,x)::r)=cR g r:=by
 rw [cI]
 have:(g == f)=false:=by simpa using h
 rw [this]
structure BK (K:ae) (C:af) (A:CA):Prop where
 w:CT K C
 lc:EA K A.bz
 l1:dI K A.bz "level_of"
 l2:dI K A.bz "wooden"
 l3:dI K A.bz "weight_of"
 l4:dI K A.bz "woods"
 kc:EA K A.Keeper
 k1:dI K A.Keeper "n"
 k2:dI K A.Keeper "levels"
 k3:dI K A.Keeper "wood"
 k4:dI K A.Keeper "came"
 k5:dI K A.Keeper "looked"
 k6:dI K A.Keeper "risen"
 k7:dI K A.Keeper "lost"
def fL (d1 d2 d3 L:af):List (bB×V):=[("level_of",.ref d1),("wooden",.ref d2),("weight_of",.ref d3),("woods",.ref L)]
def Oi {d1 d2 d3 L:af}:(fL d1 d2 d3 L).lookup ("level_of":bB)=some (.ref d1):=vA
def Vn {d1 d2 d3 L:af}:(fL d1 d2 d3 L).lookup ("wooden":bB)=some (.ref d2):=by unfold fL;rw [fI (by decide +kernel)];exact vA
def fL3 {d1 d2 d3 L:af}:(fL d1 d2 d3 L).lookup ("weight_of":bB)=some (.ref d3):=by unfold fL;rw [fI (by decide +kernel),fI (by decide +kernel)];exact vA
def WN {d1 d2 d3 L:af}:(fL d1 d2 d3 L).lookup ("woods":bB)=some (.ref L):=by unfold fL;rw [fI (by decide +kernel),fI (by decide +kernel),fI (by decide +kernel)];exact vA
def WO {d1 d2 d3 L:af}{m:bB}(h1:¬ m="level_of":=by decide +kernel) (h2:¬ m="wooden":=by decide +kernel) (h3:¬ m="weight_of":=by decide +kernel) (h4:¬ m="woods":=by decide +kernel):(fL d1 d2 d3 L).lookup m=none:=by unfold fL;rw [fI h1,fI h2,fI h3,fI h4];rfl
structure AL where
 (q dq d1 d2 d3 L:af) (ws:List (af×af×af))
variable {a:AL}
def fp (a:AL):List af:=a.d1::a.d2::a.d3::a.ws.map (·.2.2)
def Fm (X:List af) (H H':Hp):Prop:=∀ b o,b∉X->H b=some o->H' b=some o
def Fm.refl {X:List af}:Fm X H H:=λ_ _ _ e=>e
def Fm.trans {X:List af}{H1 H2:Hp}(x:Fm X H H1) (y:Fm X H1 H2):Fm X H H2:=λb o h e=>y b o h (x b o h e)
def Fm.of {X:List af}(S:bJ H H'):Fm X H H':=λb o _ e=>S b o e
def Fm.but {X:List af}{c:af}(hc:c∈X) (S:bf c H H'):Fm X H H':=λb o h e=>S b o e λz=>h (z▸hc)
def Fm.upd {X:List af}{c:af}{o:HO}(hc:c∈X):Fm X H (upd H c o):=Fm.but hc bf.upd
def Fm.mono {X Y:List af}(S:Fm X H H') (h:∀ b∈X,b∈Y):Fm Y H H':=λb o hb e=>S b o (λz=>hb (h b z)) e
def Fm.tail {X:List af}{c:af}(S:Fm X H H'):Fm (c::X) H H':=S.mono λ_=>ai _
def Fm.free {X:List af}(S:Fm X H H') {b:af}(h:b∉X) (e:H' b=none):H b=none:=by
 cases z:H b with
 | none=>rfl
 | some o=>rw [S b o h z] at e;cases e
structure LV (C:af) (A:CA) (H:Hp) (a:AL) (n T:Nat) (ts:List Ti) (as:Nat->List af) (R:Nat->Nat->List Int):Prop where
 ob:H a.q=some (.ins A.bz a.dq (fL a.d1 a.d2 a.d3 a.L))
 e1:H a.d1=some (.dT (kl ts))
 e2:H a.d2=some (.dT (kw ts))
 e3:H a.d3=some (.dT (kv ts))
 ls:H a.L=some (.lst (a.ws.map λw=>.ref w.1))
 len:a.ws.length=T+1
 wa:∀ (i:Nat) w,a.ws[i]?=some w->WA C H w.1 w.2.1 w.2.2 n (as i) (R i)
 wd:∀ i,i<=T->Wd n (R i)
 n1:1<=n
 Pz:a.d1≠a.d2
 Tu:a.d1≠a.d3
 Ud:a.d2≠a.d3
 nl:(a.ws.map (·.2.2)).Nodup
 nL:∀ w∈a.ws,a.L≠w.2.2
section
variable {ts':List Ti}
def LV.at (h:LV C A H a n T ts as R) {w:af×af×af}(hw:w∈a.ws):∃ i,i<=T/\a.ws[i]?=some w:=by
 obtain ⟨i,hi⟩:=bC.mp hw;have:=(aC.mp hi).1;rw [h.len] at this;exact ⟨i,by lia,hi⟩
def LV.get (h:LV C A H a n T ts as R) {i:Nat}(hi:i<=T):∃ w,a.ws[i]?=some w/\w∈a.ws:=by
 have hl:i<a.ws.length:=by rw [h.len];lia
 exact ⟨_,aA hl,i9 hl⟩
def LV.rows (h:LV C A H a n T ts as R) {w:af×af×af}(hw:w∈a.ws):∃ bs:List af,bs.length=n/\H w.2.2=some (.lst (bs.map V.ref)):=by
 obtain ⟨i,_,hi⟩:=h.at hw;exact ⟨_,(h.wa i w hi).len,(h.wa i w hi).rl⟩
def LV.kind (h:LV C A H a n T ts as R) {b:af}(hb:b∈fp a):(∃ ks,H b=some (.dT ks))\/∃ bs:List af,bs.length=n/\H b=some (.lst (bs.map V.ref)):=by
 unfold fp at hb;simp only [aq,bq] at hb
 rcases hb with rfl|rfl|rfl|⟨w,hw,rfl⟩
 .exact .inl ⟨_,h.e1⟩
 .exact .inl ⟨_,h.e2⟩
 .exact .inl ⟨_,h.e3⟩
 .exact .inr (h.rows hw)
def LV.out (h:LV C A H a n T ts as R) {b:af}{o:HO}(e:H b=some o) (h1:∀ ks,o≠.dT ks) (h2:∀ bs:List af,bs.length=n->o≠.lst (bs.map V.ref)):b∉fp a:=λhb=>by
 rcases h.kind hb with ⟨ks,q⟩|⟨bs,hl,q⟩
 .rw [e] at q;exact h1 ks (aU q)
 .rw [e] at q;exact h2 bs hl (aU q)
def LV.yH (h:LV C A H a n T ts as R) {b:af}{xs:List V}(e:H b=some (.tup xs)):b∉fp a:=h.out e (λ_ z=>nomatch z) (λ_ _ z=>nomatch z)
def LV.outI (h:LV C A H a n T ts as R) {b x y:af}{fs:List (bB×V)}(e:H b=some (.ins x y fs)):b∉fp a:=h.out e (λ_ z=>nomatch z) (λ_ _ z=>nomatch z)
def LV.YN (h:LV C A H a n T ts as R) {b:af}{r:List Int}(e:H b=some (.lst (r.map V.int))):b∉fp a:=h.out e (λ_ z=>nomatch z) λbs hl z=>by
 have n1:=h.n1
 injection z with z
 match r,bs,hl with
 | [],c::bs,_=>cases z
 | x::r,c::bs,_=>cases (mI z).1
 | x::r,[],_=>cases z
 | [],[],hl=>rw [← hl] at n1;cases n1
def LV.yI (h:LV C A H a n T ts as R) {b:af}(e:H b=none):b∉fp a:=λhb=>by
 rcases h.kind hb with ⟨ks,q⟩|⟨bs,hl,q⟩<;>rw [e] at q<;>cases q
def LV.keep (h:LV C A H a n T ts as R) {X:List af}(S:Fm X H H') (hq:∀ x fs,H x=some fs->(∃ c d f,fs=.ins c d f/\f≠[])->(x=a.q\/∃ w∈a.ws,x=w.1)->x∉X) (hd:∀ b∈fp a,b∉X) (hL:a.L∉X) (hr:∀ (b:af) (r:List Int),r≠[]->H b=some (.lst (r.map V.int))->b∉X):LV C A H' a n T ts as R:=by
 have m1:a.d1∈fp a:=aw;have m2:a.d2∈fp a:=ai _ aw;have m3:a.d3∈fp a:=ai _ (ai _ aw);refine ⟨S _ _ (hq _ _ h.ob ⟨_,_,_,rfl,by simp [fL]⟩ (.inl rfl)) h.ob,S _ _ (hd _ m1) h.e1,S _ _ (hd _ m2) h.e2,S _ _ (hd _ m3) h.e3,S _ _ hL h.ls,h.len,λi w hw=>?_,h.wd,h.n1,h.Pz,h.Tu,h.Ud,h.nl,h.nL⟩;have hm:=aN hw;have W:=h.wa i w hw
 have hi:i<=T:=by have:=(aC.mp hw).1;rw [h.len] at this;lia
 refine ⟨S _ _ (hq _ _ W.ob ⟨_,_,_,rfl,?_⟩ (.inr ⟨w,hm,rfl⟩)) W.ob,S _ _ (hd _ ?_) W.rl,W.len,λj c hc=>?_,W.ne⟩
 .intro z;have:=zt n w.2.2;rw [z] at this;cases this
 .exact ai _ (ai _ (ai _ (bg hm)))
 .have hj:j<n:=by rw [← W.len];exact (aC.mp hc).1
  exact S _ _ (hr _ _ ((h.wd i hi).r j hj).ne (W.at_ j c hc)) (W.at_ j c hc)
def LV.same (h:LV C A H a n T ts as R) (S:bJ H H'):LV C A H' a n T ts as R:=h.keep (X:=[]) (λb o _ e=>S b o e) (λ_ _ _ _ _=>c8) (λ_ _=>c8) c8 λ_ _ _ _=>c8
def LV.sets (h:LV C A H a n T ts as R) (B:Fm [a.d1,a.d2,a.d3] H H') (e1:H' a.d1=some (.dT (kl ts'))) (e2:H' a.d2=some (.dT (kw ts'))) (e3:H' a.d3=some (.dT (kv ts'))):LV C A H' a n T ts' as R:=by
 have ne:∀ {b:af}{o:HO},H b=some o->(∀ ks,o≠.dT ks)->H' b=some o:=λ{b o} e q=>B _ _ (λhb=>by
  simp only [aq,c8,or_false] at hb
  rcases hb with rfl|rfl|rfl
  .rw [h.e1] at e;cases e;exact q _ rfl
  .rw [h.e2] at e;cases e;exact q _ rfl
  .rw [h.e3] at e;cases e;exact q _ rfl) e
 exact ⟨ne h.ob (λ_ z=>nomatch z),e1,e2,e3,ne h.ls (λ_ z=>nomatch z),h.len,λi w hw=>⟨ne (h.wa i w hw).ob (λ_ z=>nomatch z),ne (h.wa i w hw).rl (λ_ z=>nomatch z),(h.wa i w hw).len,λj c hc=>ne ((h.wa i w hw).at_ j c hc) (λ_ z=>nomatch z),(h.wa i w hw).ne⟩,h.wd,h.n1,h.Pz,h.Tu,h.Ud,h.nl,h.nL⟩
def LV.set1 (h:LV C A H a n T ts as R) (e2:kw ts'=kw ts) (e3:kv ts'=kv ts):LV C A (upd H a.d1 (.dT (kl ts'))) a n T ts' as R :=
 h.sets (Fm.upd aw) aF (by rw [aG h.Pz.symm,e2];exact h.e2) (by rw [aG h.Tu.symm,e3];exact h.e3)
def LV.set2 (h:LV C A H a n T ts as R) (e1:kl ts'=kl ts) (e3:kv ts'=kv ts):LV C A (upd H a.d2 (.dT (kw ts'))) a n T ts' as R :=
 h.sets (Fm.upd (ai _ aw)) (by rw [aG h.Pz,e1];exact h.e1) aF (by rw [aG h.Ud.symm,e3];exact h.e3)
def LV.wood (h:LV C A H a n T ts as R) {i:Nat}{w:af×af×af}{bs:List af}{R1:Nat->List Int}(hw:a.ws[i]?=some w) (W:WA C H' w.1 w.2.1 w.2.2 n bs R1) (D:Wd n R1) (B:bf w.2.2 H H') :
  LV C A H' a n T ts (λj=>if j=i then bs else as j) (λj=>if j=i then R1 else R j):=by
 have hm:=aN hw;obtain ⟨cs,hcl,hcs⟩:=h.rows hm
 have nt:∀ {b:af}{o:HO},H b=some o->(∀ xs,o≠.lst xs)->H' b=some o:=λ{b o} e q=>B _ _ e λz=>by rw [z,hcs] at e;cases e;exact q _ rfl
 refine ⟨nt h.ob (λ_ z=>nomatch z),nt h.e1 (λ_ z=>nomatch z),nt h.e2 (λ_ z=>nomatch z),nt h.e3 (λ_ z=>nomatch z),B _ _ h.ls (h.nL w hm),h.len,λj v hv=>?_,λj hj=>?_,h.n1,h.Pz,h.Tu,h.Ud,h.nl,h.nL⟩
 .by_cases c:j=i
  .subst c;rw [hw] at hv;cases hv;simp only [if_pos];exact W
  .simp only [if_neg c];have V:=h.wa j v hv
   have hjT:j<=T:=by have:=(aC.mp hv).1;rw [h.len] at this;lia
   have nvl:v.2.2≠w.2.2:=λe=>c ((List.getElem?_inj (by rw [ag];exact (aC.mp hv).1) h.nl).mp (by rw [aB,aB,hv,hw];simp [e]));refine ⟨nt V.ob (λ_ z=>nomatch z),B _ _ V.rl nvl,V.len,λx b hb=>B _ _ (V.at_ x b hb) λz=>?_,V.ne⟩
   have hx:x<n:=by rw [← V.len];exact (aC.mp hb).1
   have e:=V.at_ x b hb;rw [z] at e;exact h.YN e (ai _ (ai _ (ai _ (bg hm))))
 .by_cases c:j=i
  .simp only [if_pos c];exact D
  .simp only [if_neg c];exact h.wd j hj
end
inductive ck (K:ae) (C:af) (A:CA) (vs:List V) (H:Hp) (Q:VK) (E:XK):Prop
 | mk (q dq d1 d2 d3 L t:af) (kl kw:List (List iL×V)) (x y:Int) (v1 v2:V):vs=[.ref q,.ref t]->BK K C A->H q=some (.ins A.bz dq (fL d1 d2 d3 L))->Rd H d1 (.dT kl)->Rd H d2 (.dT kw)->H t=some (.tup [.int x,.int y])->iR kl [eh x,eh y]=some v1->iR kw [eh x,eh y]=some v2->(∀ p,H p=none->Q (.ref p) (upd H p (.tup [.int x,.int y,v1,v2])))->ck K C A vs H Q E
def Ba:Rn (ck K C A) (sZ K C A) uN:=by
 rintro vs H Q E ⟨q,dq,d1,d2,d3,L,t,kl,kw,x,y,v1,v2,rfl,ct,hq,r1,r2,ht,h1,h2,k⟩;unfold sZ;lk;refine fU (jq.of ht) (eZ (j:=0) rfl rfl) ?_;lk;refine fU (jq.of ht) (eZ (j:=1) rfl rfl) ?_;k_go;refine ⟨q,A.bz,dq,_,_,rfl,hq,ct.lc,ct.l1,Oi,?_⟩;lk;refine .inr ⟨d1,v1,rfl,.inr ⟨kl,[eh x,eh y],t,r1,rfl,ht,h1.symm⟩,?_⟩;k_go;refine ⟨q,A.bz,dq,_,_,rfl,hq,ct.lc,ct.l2,Vn,?_⟩;lk;refine .inr ⟨d2,v2,rfl,.inr ⟨kw,[eh x,eh y],t,r2,rfl,ht,h2.symm⟩,?_⟩;lk;exact ⟨bK (m:=4) (au 4),k⟩
variable {X:EC}
def fp1:a.d1∈fp a:=aw
def fp2:a.d2∈fp a:=ai _ aw
def fp3:a.d3∈fp a:=ai _ (ai _ aw)
def fpw {w:af×af×af}(h:w∈a.ws):w.2.2∈fp a:=ai _ (ai _ (ai _ (bg h)))
def SH {k:Int×Int}:kl (gE ts k Ti.vU)=kl ts:=BI (g:=Ti.vU) (λ_=>rfl) (λ_=>rfl) k
def YA {k:Int×Int}:kv (gE ts k Ti.vU)=kv ts:=BI (g:=Ti.vU) (λ_=>rfl) (λ_=>rfl) k
def WQ {k:Int×Int}:kw (gE ts k Ti.up)=kw ts:=BI (g:=Ti.up) (λ_=>rfl) (λ_=>rfl) k
def aaF {k:Int×Int}:kv (gE ts k Ti.up)=kv ts:=BI (g:=Ti.up) (λ_=>rfl) (λ_=>rfl) k
def LV.cast {R':Nat->Nat->List Int}(h:LV C A H a n T ts as R) (e:∀ j,R j=R' j):LV C A H a n T ts as R':=(funext e:R=R')▸h
structure Up (C:af) (A:CA) (a:AL) (n T:Nat) (ts:List Ti) (R:Nat->Nat->List Int) (f:(Nat->List Int)->Nat->List Int) (H:Hp) (i:Nat) (H1:Hp):Prop where
 ex:∃ as R',LV C A H1 a n T ts as R'/\∀ j,R' j=if j<i then f (R j) else R j
 fm:Fm (fp a) H H1
def Up.step {R':Nat->Nat->List Int}{f:(Nat->List Int)->Nat->List Int}{H1 H2:Hp}{i:Nat}{w:af×af×af}{bs:List af}(L:LV C A H1 a n T ts as R') (e:∀ j,R' j=if j<i then f (R j) else R j) (F:Fm (fp a) H H1)
  (hw:a.ws[i]?=some w) (W:WA C H2 w.1 w.2.1 w.2.2 n bs (f (R' i))) (D:Wd n (f (R' i))) (B:bf w.2.2 H1 H2):Up C A a n T ts R f H (i+1) H2:=by
 refine ⟨⟨_,_,L.wood hw W D B,λj=>?_⟩,F.trans (Fm.but (fpw (aN hw)) B)⟩
 have ei:R' i=R i:=by rw [e,if_neg (fA i)]
 by_cases c:j=i
 .subst c;rw [if_pos rfl,if_pos (ji j),ei]
 .rw [if_neg c,e]
  by_cases d:j<i
  .rw [if_pos d,if_pos (by lia)]
  .rw [if_neg d,if_neg (by lia)]
inductive cn (K:ae) (C:af) (A:CA) (vs:List V) (H:Hp) (Q:VK) (E:XK):Prop
 | mk (a:AL) (n T:Nat) (ts:List Ti) (as:Nat->List af) (R:Nat->Nat->List Int) (t:af) (u:Ti):vs=[.ref a.q,.ref t]->BK K C A->LV C A H a n T ts as R->n<=200->u∈ts->(ts.map Ti.key).Nodup->u.x<n->u.y<n->u.cC<=T->(∀ i,i<=u.cC->(u.y:Int)∉R i u.x)->H t=some (.tup [.int u.x,.int u.y])->ts.length<100->(∀ as' H',LV C A H' a n T (gE ts u.key Ti.vU) as' (LC R u.cC u.x u.y)->Fm (fp a) H H'->Q .non H')->cn K C A vs H Q E
theorem zw:Rn (cn K C A) (rA K C A (fM K C)) ["self","tie","wood"]:=by
 rintro vs H Q E ⟨a,n,T,ts,as,R,t,u,rfl,ct,h,hn,hu,hnd,hx,hy,hl,hap,ht,hlen,k⟩;unfold rA;k_go;refine ⟨a.q,A.bz,a.dq,_,_,rfl,h.ob,ct.lc,ct.l2,Vn,?_⟩;lk;refine .inr ⟨a.d2,_,rfl,Br.t (k:=pk u.x u.y) h.e2 ht (eT (m:=100) (by rw [mf];exact hlen)),?_⟩;have e:=SG (f:=λt=>V.bl t.wd) (g:=Ti.vU) hnd hu (λ_=>rfl);rw [show (V.bl true)=(λt:Ti=>V.bl t.wd) u.vU from rfl,e];have h1:=h.set2 (ts':=gE ts u.key Ti.vU) SH YA
 have ht1:(upd H a.d2 (.dT (kw (gE ts u.key Ti.vU)))) t=some (.tup [.int u.x,.int u.y]):=by rw [aG (gJ ht h.e2)];exact ht
 have S1:Fm (fp a) H (upd H a.d2 (.dT (kw (gE ts u.key Ti.vU)))):=Fm.upd fp2
 have hl1:iR (kl (gE ts u.key Ti.vU)) (pk u.x u.y)=some (.int u.cC):=by rw [SH];exact gU hnd hu
 change (lb K C A _) _ _ (upd H a.d2 (.dT (kw (gE ts u.key Ti.vU))));generalize upd H a.d2 (.dT (kw (gE ts u.key Ti.vU)))=H1 at h1 ht1 S1;generalize gE ts u.key Ti.vU=ts1 at h1 hl1 k;unfold lb;k_go;refine ⟨a.q,A.bz,a.dq,_,_,rfl,h1.ob,ct.lc,ct.l4,WN,?_⟩;k_go;refine ⟨a.q,A.bz,a.dq,_,_,rfl,h1.ob,ct.lc,ct.l1,Oi,?_⟩;lk;refine .inr ⟨a.d1,.int u.cC,rfl,.inr ⟨_,pk u.x u.y,t,.inl h1.e1,rfl,ht1,hl1.symm⟩,?_⟩;lk;refine Gr (dm.of h1.ls) λs hs=>?_;rw [wb (j:=u.cC+1) (by lia),← jI];have S2:=bJ.cH (o:=.lst ((a.ws.take (u.cC+1)).map λw=>V.ref w.1)) hs;have gs:(upd H1 s (.lst ((a.ws.take (u.cC+1)).map λw=>V.ref w.1))) s=some (.lst ((a.ws.take (u.cC+1)).map λw=>V.ref w.1)):=aF;have nsf:=h1.yI hs;generalize upd H1 s (.lst ((a.ws.take (u.cC+1)).map λw=>V.ref w.1))=H2 at S2 gs;have h2:=h1.same S2;have ht2:=S2 _ _ ht1
 have hlt:(a.ws.take (u.cC+1)).length=u.cC+1:=by rw [bM,h.len];lia
 refine ⟨s,rfl,?_⟩
 refine .inl ⟨⟨_,dm.of gs⟩,kW (K:=K) (a:=s) (xs:=(a.ws.take (u.cC+1)).map λw=>V.ref w.1)
  (λi Z H3=>Up C A a n T ts1 R (λr=>lk r u.x u.y) H2 i H3/\∃ o,Z=[some (.ref a.q),some (.ref t),o])
  ⟨⟨⟨as,R,h2,λj=>by rw [if_neg (by lia)]⟩,Fm.refl⟩,_,rfl⟩ ?_ ?_ ?_⟩
 .rintro i Z H3 _ ⟨U,_⟩;exact dm.of (U.fm _ _ nsf gs)
 .rintro i z Z H3 hi ⟨U,o,rfl⟩;rw [aB] at hi;obtain ⟨w,hw,rfl⟩:=bo.mp hi
  have hi:i<u.cC+1:=by rw [← hlt];exact (aC.mp hw).1
  rw [lE,if_pos hi] at hw;obtain ⟨as1,R1,L1,e1⟩:=U.ex;have W1:=L1.wa i w hw;have ht3:=U.fm _ _ (h2.yH ht2) ht2;k_in;refine ⟨w.1,w.2.1,_,rfl,W1.ob,mD _ _,?_⟩;lk;refine fU (jq.of ht3) (eZ (j:=0) rfl rfl) ?_;lk;refine fU (jq.of ht3) (eZ (j:=1) rfl rfl) ?_;lk
  have ei:R1 i=R i:=by rw [e1,if_neg (fA i)]
  have D1:=L1.wd i (by lia)
  have hap1:(u.y:Int)∉R1 i u.x:=by rw [ei];exact hap i (by lia)
  refine ⟨w.1,w.2.1,w.2.2,n,u.x,u.y,as1 i,R1 i,rfl,ct.w,W1,D1,hn,hx,hy,hap1,λbs H4 W' B'=>?_⟩;exact ⟨Up.step (f:=λr=>lk r u.x u.y) L1 e1 U.fm hw W' (D1.lk hx hy hap1) B',_,rfl⟩
 .rintro Z H3 ⟨U,o,rfl⟩;rw [ag,hlt] at U;obtain ⟨as1,R1,L1,e1⟩:=U.ex;refine k as1 H3 (L1.cast λj=>?_) ((S1.trans (Fm.of S2)).trans U.fm);rw [e1]
  show _=if j<=u.cC then _ else _
  by_cases c:j<=u.cC
  .rw [if_pos c,if_pos (by lia)]
  .rw [if_neg c,if_neg (by lia)]
inductive dz (K:ae) (C:af) (A:CA) (vs:List V) (H:Hp) (Q:VK) (E:XK):Prop
 | mk (a:AL) (n T:Nat) (ts:List Ti) (as:Nat->List af) (R:Nat->Nat->List Int) (t:af) (u:Ti):vs=[.ref a.q,.ref t]->BK K C A->LV C A H a n T ts as R->n<=200->u∈ts->(ts.map Ti.key).Nodup->u.x<n->u.y<n->(u.wd=true->u.cC+1<=T/\(u.y:Int)∉R (u.cC+1) u.x)->H t=some (.tup [.int u.x,.int u.y])->ts.length<100->(∀ as' R' H',LV C A H' a n T (gE ts u.key Ti.up) as' R'->(R'=if u.wd=true then upR R (u.cC+1) u.x u.y else R)->Fm (fp a) H H'->Q .non H')->dz K C A vs H Q E
theorem Bb:Rn (dz K C A) (sX K C A (fM K C)) uN:=by
 rintro vs H Q E ⟨a,n,T,ts,as,R,t,u,rfl,ct,h,hn,hu,hnd,hx,hy,hap,ht,hlen,k⟩;unfold sX;k_go;refine ⟨a.q,A.bz,a.dq,_,_,rfl,h.ob,ct.lc,ct.l1,Oi,?_⟩;lk;refine ⟨a.d1,.int u.cC,rfl,.inr ⟨_,pk u.x u.y,t,.inl h.e1,rfl,ht,(gU (f:=λt=>V.int t.cC) hnd hu).symm⟩,?_⟩;lk;refine ⟨u.cC,1,rfl,rfl,_,Br.t (k:=pk u.x u.y) h.e1 ht (eT (m:=100) (by rw [mf];exact hlen)),?_⟩;have e:=SG (f:=λt=>V.int t.cC) (g:=Ti.up) hnd hu (λ_=>rfl);rw [show (V.int ((u.cC:Int)+1))=(λt:Ti=>V.int t.cC) u.up from rfl,e];have h1:=h.set1 (ts':=gE ts u.key Ti.up) WQ aaF
 have ht1:(upd H a.d1 (.dT (kl (gE ts u.key Ti.up)))) t=some (.tup [.int u.x,.int u.y]):=by rw [aG (gJ ht h.e1)];exact ht
 have S1:Fm (fp a) H (upd H a.d1 (.dT (kl (gE ts u.key Ti.up)))):=Fm.upd fp1
 have hw1:iR (kw (gE ts u.key Ti.up)) (pk u.x u.y)=some (.bl u.wd):=by rw [WQ];exact gU hnd hu
 have hl1:iR (kl (gE ts u.key Ti.up)) (pk u.x u.y)=some (.int ((u.cC+1:Nat):Int)):=by
  have:=gU (f:=λt=>V.int t.cC) (by rw [kK (f:=Ti.up) (λ_=>rfl)];exact hnd) ((k9 (f:=Ti.up) hnd hu u.up).mpr (.inl rfl));exact this
 dsimp only;change (iM _ _ _) _ _ (upd H a.d1 (.dT (kl (gE ts u.key Ti.up))));generalize upd H a.d1 (.dT (kl (gE ts u.key Ti.up)))=H1 at h1 ht1 S1;generalize gE ts u.key Ti.up=ts1 at h1 hl1 hw1 k;k_go;refine ⟨a.q,A.bz,a.dq,_,_,rfl,h1.ob,ct.lc,ct.l2,Vn,?_⟩;lk;refine .inr ⟨a.d2,.bl u.wd,rfl,.inr ⟨_,pk u.x u.y,t,.inl h1.e2,rfl,ht1,hw1.symm⟩,?_⟩;refine ⟨_,rfl,?_⟩
 cases hw:u.wd with
 | false =>
  rw [hw] at k;refine lI ?_;lk
  exact k as R H1 h1 rfl S1
 | true =>
  rw [hw] at k;obtain ⟨hT,hap⟩:=hap hw;obtain ⟨w,hw1,hwm⟩:=h1.get hT;have W1:=h1.wa _ w hw1;have D1:=h1.wd _ hT;refine l0 ?_;k_in;refine kI ?_;lk;refine ⟨a.q,A.bz,a.dq,_,_,rfl,h1.ob,ct.lc,ct.l4,WN,?_⟩;k_go;refine ⟨a.q,A.bz,a.dq,_,_,rfl,h1.ob,ct.lc,ct.l1,Oi,?_⟩;lk;refine .inr ⟨a.d1,.int ((u.cC+1:Nat):Int),rfl,.inr ⟨_,pk u.x u.y,t,.inl h1.e1,rfl,ht1,hl1.symm⟩,?_⟩;refine mO (dm.of h1.ls) (eZ (j:=u.cC+1) rfl (by rw [aB,hw1];rfl)) ?_;refine ⟨w.1,w.2.1,_,rfl,W1.ob,mD _ _,?_⟩;lk;refine fU (jq.of ht1) (eZ (j:=0) rfl rfl) ?_;lk;refine fU (jq.of ht1) (eZ (j:=1) rfl rfl) ?_;lk;refine ⟨w.1,w.2.1,w.2.2,n,u.x,u.y,as (u.cC+1),R (u.cC+1),rfl,ct.w,W1,D1,hn,hx,hy,hap,λbs H4 W' B'=>?_⟩;exact k _ _ H4 (h1.wood hw1 W' (D1.lk hx hy hap) B') rfl (S1.trans (Fm.but (fpw hwm) B'))
inductive dP (K:ae) (C:af) (A:CA) (vs:List V) (H:Hp) (Q:VK) (E:XK):Prop
 | mk (a:AL) (n T:Nat) (ts:List Ti) (as:Nat->List af) (R:Nat->Nat->List Int) (t:af) (u:Ti):vs=[.ref a.q,.ref t]->BK K C A->LV C A H a n T ts as R->n<=200->u∈ts->(ts.map Ti.key).Nodup->u.x<n->u.y<n->u.x≠u.y->u.cC<=T->(u.wd=true->∀ i,i<=u.cC->Ed n (R i) u.x u.y)->H t=some (.tup [.int u.x,.int u.y])->(∀ as' R' H',LV C A H' a n T (ts.filter λv=>decide (v.key≠u.key)) as' R'->(R'=if u.wd=true then drR R u.cC u.x u.y else R)->Fm (fp a) H H'->Q .non H')->dP K C A vs H Q E
theorem Bc:Rn (dP K C A) (sY K C A (jE K C)) ["self","tie","level","wood"]:=by
 rintro vs H Q E ⟨a,n,T,ts,as,R,t,u,rfl,ct,h,hn,hu,hnd,hx,hy,hxy,hl,hed,ht,k⟩
 have td:∀ {H:Hp}{d:af}{ks ks':List (List iL×V)},H t=some (.tup [.int u.x,.int u.y])->H d=some (.dT ks)->upd H d (.dT ks') t=some (.tup [.int u.x,.int u.y]):=λe1 e2=>by rw [aG (gJ e1 e2)];exact e1
 unfold sY;k_go;refine ⟨a.q,A.bz,a.dq,_,_,rfl,h.ob,ct.lc,ct.l3,fL3,?_⟩;refine ⟨.inr (.inr (.inl ⟨rfl,.inr ⟨_,h.e3⟩⟩)),?_⟩;lk;refine ⟨a.d3,_,pk u.x u.y,t,.int 0,rfl,rfl,h.e3,ht,gU (f:=λ_=>V.int 0) hnd hu,?_⟩;rw [BJ];have ht1:=td (ks':=kv (ts.filter λv=>decide (v.key≠u.key))) ht h.e3
 have ne3:∀ {b:af}{o:HO},b≠a.d3->H b=some o->(upd H a.d3 (.dT (kv (ts.filter λv=>decide (v.key≠u.key))))) b=some o:=λhb e=>by rw [aG hb];exact e
 have q3:(upd H a.d3 (.dT (kv (ts.filter λv=>decide (v.key≠u.key))))) a.d3=_:=aF;have F1:Fm [a.d1,a.d2,a.d3] H (upd H a.d3 (.dT (kv (ts.filter λv=>decide (v.key≠u.key))))):=Fm.upd (ai _ (ai _ aw));have o1:=ne3 (gJ h.ob h.e3) h.ob;have p1:=ne3 h.Tu h.e1;have p2:=ne3 h.Ud h.e2;generalize upd H a.d3 (.dT (kv (ts.filter λv=>decide (v.key≠u.key))))=H1 at ht1 q3 F1 o1 p1 p2;dsimp only;k_go;refine ⟨a.q,A.bz,a.dq,_,_,rfl,o1,ct.lc,ct.l1,Oi,?_⟩;refine ⟨.inr (.inr (.inl ⟨rfl,.inr ⟨_,p1⟩⟩)),?_⟩;lk;refine ⟨a.d1,_,pk u.x u.y,t,.int u.cC,rfl,rfl,p1,ht1,gU (f:=λt=>V.int t.cC) hnd hu,?_⟩;rw [BJ];have ht2:=td (ks':=kl (ts.filter λv=>decide (v.key≠u.key))) ht1 p1;have o2:(upd H1 a.d1 (.dT (kl (ts.filter λv=>decide (v.key≠u.key))))) a.q=_:=(aG (gJ o1 p1)).trans o1;have r1:(upd H1 a.d1 (.dT (kl (ts.filter λv=>decide (v.key≠u.key))))) a.d1=_:=aF;have r2:(upd H1 a.d1 (.dT (kl (ts.filter λv=>decide (v.key≠u.key))))) a.d2=_:=(aG h.Pz.symm).trans p2;have r3:(upd H1 a.d1 (.dT (kl (ts.filter λv=>decide (v.key≠u.key))))) a.d3=_:=(aG h.Tu.symm).trans q3;have F2:Fm [a.d1,a.d2,a.d3] H (upd H1 a.d1 (.dT (kl (ts.filter λv=>decide (v.key≠u.key))))):=F1.trans (Fm.upd aw);generalize upd H1 a.d1 (.dT (kl (ts.filter λv=>decide (v.key≠u.key))))=H2 at ht2 o2 r1 r2 r3 F2;dsimp only;k_go;refine ⟨a.q,A.bz,a.dq,_,_,rfl,o2,ct.lc,ct.l2,Vn,?_⟩;refine ⟨.inr (.inr (.inl ⟨rfl,.inr ⟨_,r2⟩⟩)),?_⟩;lk;refine ⟨a.d2,_,pk u.x u.y,t,.bl u.wd,rfl,rfl,r2,ht2,gU (f:=λt=>V.bl t.wd) hnd hu,?_⟩;rw [BJ];have ht3:=td (ks':=kw (ts.filter λv=>decide (v.key≠u.key))) ht2 r2;have F3:Fm [a.d1,a.d2,a.d3] H (upd H2 a.d2 (.dT (kw (ts.filter λv=>decide (v.key≠u.key))))):=F2.trans (Fm.upd (ai _ aw));have h3:LV C A (upd H2 a.d2 (.dT (kw (ts.filter λv=>decide (v.key≠u.key))))) a n T (ts.filter λv=>decide (v.key≠u.key)) as R:=h.sets F3 ((aG h.Pz).trans r1) aF ((aG h.Ud.symm).trans r3)
 have G3:Fm (fp a) H (upd H2 a.d2 (.dT (kw (ts.filter λv=>decide (v.key≠u.key))))):=F3.mono λb hb=>by
  simp only [aq,c8,or_false] at hb
  rcases hb with rfl|rfl|rfl
  .exact fp1
  .exact fp2
  .exact fp3
 generalize upd H2 a.d2 (.dT (kw (ts.filter λv=>decide (v.key≠u.key))))=H3 at ht3 h3 G3;refine ⟨_,rfl,?_⟩
 cases hw:u.wd with
 | false =>
  rw [hw] at k;refine lI ?_;lk
  exact k as R H3 h3 rfl G3
 | true =>
  rw [hw] at k;have hed:=hed hw;refine l0 ?_;unfold qe;k_go;refine ⟨a.q,A.bz,a.dq,_,_,rfl,h3.ob,ct.lc,ct.l4,WN,?_⟩;lk;refine Gr (dm.of h3.ls) λs hs=>?_;rw [wb (j:=u.cC+1) (by lia),← jI];have S2:=bJ.cH (o:=.lst ((a.ws.take (u.cC+1)).map λw=>V.ref w.1)) hs;have gs:(upd H3 s (.lst ((a.ws.take (u.cC+1)).map λw=>V.ref w.1))) s=some (.lst ((a.ws.take (u.cC+1)).map λw=>V.ref w.1)):=aF;have nsf:=h3.yI hs;generalize upd H3 s (.lst ((a.ws.take (u.cC+1)).map λw=>V.ref w.1))=H4 at S2 gs;have h4:=h3.same S2;have ht4:=S2 _ _ ht3
  have hlt:(a.ws.take (u.cC+1)).length=u.cC+1:=by rw [bM,h.len];lia
  refine ⟨s,rfl,?_⟩
  refine .inl ⟨⟨_,dm.of gs⟩,kW (K:=K) (a:=s) (xs:=(a.ws.take (u.cC+1)).map λw=>V.ref w.1)
   (λi Z H5=>Up C A a n T (ts.filter λv=>decide (v.key≠u.key)) R (λr=>Rm.ct r u.x u.y) H4 i H5/\∃ o,Z=[some (.ref a.q),some (.ref t),some (.int u.cC),o])
   ⟨⟨⟨as,R,h4,λj=>by rw [if_neg (by lia)]⟩,Fm.refl⟩,_,rfl⟩ ?_ ?_ ?_⟩
  .rintro i Z H5 _ ⟨U,_⟩;exact dm.of (U.fm _ _ nsf gs)
  .rintro i z Z H5 hi ⟨U,o,rfl⟩;rw [aB] at hi;obtain ⟨w,hw,rfl⟩:=bo.mp hi
   have hi:i<u.cC+1:=by rw [← hlt];exact (aC.mp hw).1
   rw [lE,if_pos hi] at hw;obtain ⟨as1,R1,L1,e1⟩:=U.ex;have W1:=L1.wa i w hw;have ht5:=U.fm _ _ (h4.yH ht4) ht4;k_in;refine ⟨w.1,w.2.1,_,rfl,W1.ob,mD _ _,?_⟩;lk;refine fU (jq.of ht5) (eZ (j:=0) rfl rfl) ?_;lk;refine fU (jq.of ht5) (eZ (j:=1) rfl rfl) ?_;lk
   have ei:R1 i=R i:=by rw [e1,if_neg (fA i)]
   have D1:=L1.wd i (by lia)
   have hE:Ed n (R1 i) u.x u.y:=by rw [ei];exact hed i (by lia)
   refine ⟨w.1,w.2.1,w.2.2,n,u.x,u.y,as1 i,R1 i,rfl,ct.w,W1,D1,hn,hx,hy,hxy,hE,λbs H6 W' B'=>?_⟩;exact ⟨Up.step (f:=λr=>Rm.ct r u.x u.y) L1 e1 U.fm hw W' (D1.ct hx hy hxy hE) B',_,rfl⟩
  .rintro Z H5 ⟨U,o,rfl⟩;rw [ag,hlt] at U;obtain ⟨as1,R1,L1,e1⟩:=U.ex;refine k as1 _ H5 (L1.cast λj=>?_) rfl ((G3.trans (Fm.of S2)).trans U.fm);rw [e1]
   show _=if j<=u.cC then _ else _
   by_cases c:j<=u.cC
   .rw [if_pos c,if_pos (by lia)]
   .rw [if_neg c,if_neg (by lia)]
variable {X:EC}
inductive ka (K:ae) (C:af) (A:CA) (vs:List V) (H:Hp) (Q:VK) (E:XK):Prop
 | mk (a:AL) (n T:Nat) (ts:List Ti) (as:Nat->List af) (R:Nat->Nat->List Int) (t:af) (x y:Nat):vs=[.ref a.q,.ref t,.int 0]->BK K C A->LV C A H a n T ts as R->n<=200->x<n->y<n->H t=some (.tup [.int x,.int y])->(ts.map Ti.key).Nodup->((x:Int),(y:Int))∉ts.map Ti.key->ts.length<99->(∀ b ts' as' R' H',LV C A H' a n T ts' as' R'->(((y:Int)∈R 0 x/\ts'=ts++[⟨x,y,0,false⟩]/\R'=R/\b=false)\/((y:Int)∉R 0 x/\ts'=gE (ts++[⟨x,y,0,false⟩]) ((x:Int),(y:Int)) Ti.vU/\R'=LC R 0 x y/\b=true))->Fm (fp a) H H'->Q (.bl b) H')->ka K C A vs H Q E
theorem Du:Rn (ka K C A) (vw K C A (eI K C) (cn K C A)) Hz:=by
 rintro vs H Q E ⟨a,n,T,ts,as,R,t,x,y,rfl,ct,h,hn,hx,hy,ht,hnd,hk,hlen,k⟩
 have td:∀ {H:Hp}{d:af}{ks ks':List (List iL×V)},H t=some (.tup [.int x,.int y])->H d=some (.dT ks)->upd H d (.dT ks') t=some (.tup [.int x,.int y]):=λe1 e2=>by rw [aG (gJ e1 e2)];exact e1
 have kn:∀ (f:Ti->V) (v:V),f ⟨x,y,0,false⟩=v->uL (kf f ts) (pk x y) v=kf f (ts++[⟨x,y,0,false⟩]):=λf v e=>by rw [Cr _ (uu hk),← e];unfold kf;rw [a9];rfl
 have hnd':((ts++[(⟨x,y,0,false⟩:Ti)]).map Ti.key).Nodup:=by
  rw [a9,gH];exact ⟨hnd,by simp,λp hp q hq e=>hk (by rw [pO,ay] at hq;have e2:p=((x:Int),(y:Int)):=e.trans hq;rw [← e2];exact hp)⟩
 have hu:(⟨x,y,0,false⟩:Ti)∈ts++[⟨x,y,0,false⟩]:=bO _ aw;unfold vw;k_go;refine ⟨a.q,A.bz,a.dq,_,_,rfl,h.ob,ct.lc,ct.l1,Oi,?_⟩;lk;refine .inr ⟨a.d1,_,rfl,Br.t (k:=pk x y) h.e1 ht (eT (m:=100) (by rw [mf];lia)),?_⟩;rw [kn (λt=>V.int t.cC) (.int 0) rfl];have ht1:=td (ks':=kl (ts++[⟨x,y,0,false⟩])) ht h.e1;have o1:(upd H a.d1 (.dT (kl (ts++[⟨x,y,0,false⟩])))) a.q=_:=(aG (gJ h.ob h.e1)).trans h.ob;have p1:(upd H a.d1 (.dT (kl (ts++[⟨x,y,0,false⟩])))) a.d1=_:=aF;have p2:(upd H a.d1 (.dT (kl (ts++[⟨x,y,0,false⟩])))) a.d2=_:=(aG h.Pz.symm).trans h.e2;have p3:(upd H a.d1 (.dT (kl (ts++[⟨x,y,0,false⟩])))) a.d3=_:=(aG h.Tu.symm).trans h.e3;have F1:Fm [a.d1,a.d2,a.d3] H (upd H a.d1 (.dT (kl (ts++[⟨x,y,0,false⟩])))):=Fm.upd aw;generalize upd H a.d1 (.dT (kl (ts++[⟨x,y,0,false⟩])))=H1 at ht1 o1 p1 p2 p3 F1;k_go;refine ⟨a.q,A.bz,a.dq,_,_,rfl,o1,ct.lc,ct.l2,Vn,?_⟩;lk;refine .inr ⟨a.d2,_,rfl,Br.t (k:=pk x y) p2 ht1 (eT (m:=100) (by rw [mf];lia)),?_⟩;rw [kn (λt=>V.bl t.wd) (.bl false) rfl];have ht2:=td (ks':=kw (ts++[⟨x,y,0,false⟩])) ht1 p2;have o2:(upd H1 a.d2 (.dT (kw (ts++[⟨x,y,0,false⟩])))) a.q=_:=(aG (gJ o1 p2)).trans o1;have q1:(upd H1 a.d2 (.dT (kw (ts++[⟨x,y,0,false⟩])))) a.d1=_:=(aG h.Pz).trans p1;have q2:(upd H1 a.d2 (.dT (kw (ts++[⟨x,y,0,false⟩])))) a.d2=_:=aF;have q3:(upd H1 a.d2 (.dT (kw (ts++[⟨x,y,0,false⟩])))) a.d3=_:=(aG h.Ud.symm).trans p3;have F2:Fm [a.d1,a.d2,a.d3] H (upd H1 a.d2 (.dT (kw (ts++[⟨x,y,0,false⟩])))):=F1.trans (Fm.upd (ai _ aw));generalize upd H1 a.d2 (.dT (kw (ts++[⟨x,y,0,false⟩])))=H2 at ht2 o2 q1 q2 q3 F2;k_go;refine ⟨a.q,A.bz,a.dq,_,_,rfl,o2,ct.lc,ct.l3,fL3,?_⟩;lk;refine .inr ⟨a.d3,_,rfl,Br.t (k:=pk x y) q3 ht2 (eT (m:=100) (by rw [mf];lia)),?_⟩;rw [kn (λ_=>V.int 0) (.int 0) rfl];have ht3:=td (ks':=kv (ts++[⟨x,y,0,false⟩])) ht2 q3;have F3:Fm [a.d1,a.d2,a.d3] H (upd H2 a.d3 (.dT (kv (ts++[⟨x,y,0,false⟩])))):=F2.trans (Fm.upd (ai _ (ai _ aw)));have h3:LV C A (upd H2 a.d3 (.dT (kv (ts++[⟨x,y,0,false⟩])))) a n T (ts++[⟨x,y,0,false⟩]) as R:=h.sets F3 ((aG h.Tu).trans q1) ((aG h.Ud).trans q2) aF
 have S3:Fm (fp a) H (upd H2 a.d3 (.dT (kv (ts++[⟨x,y,0,false⟩])))):=F3.mono λb hb=>by
  simp only [aq,c8,or_false] at hb
  rcases hb with rfl|rfl|rfl
  .exact fp1
  .exact fp2
  .exact fp3
 generalize upd H2 a.d3 (.dT (kv (ts++[⟨x,y,0,false⟩])))=H3 at ht3 h3 S3;obtain ⟨w,hw,hwm⟩:=h3.get (aO _);have W3:=h3.wa 0 w hw;have D3:=h3.wd 0 (aO _);k_in;refine kI ?_;lk;refine ⟨a.q,A.bz,a.dq,_,_,rfl,h3.ob,ct.lc,ct.l4,WN,?_⟩;lk;refine mO (dm.of h3.ls) (eZ (j:=0) rfl (by rw [aB,hw];rfl)) ?_;refine ⟨w.1,w.2.1,_,rfl,W3.ob,mD _ _,?_⟩;lk;refine fU (jq.of ht3) (eZ (j:=0) rfl rfl) ?_;lk;refine fU (jq.of ht3) (eZ (j:=1) rfl rfl) ?_;lk;refine ⟨w.1,w.2.1,w.2.2,n,x,y,as 0,R 0,rfl,ct.w,W3,D3,hx,hy,?_⟩;refine ⟨_,rfl,?_⟩
 by_cases hj:(y:Int)∈R 0 x
 .rw [decide_eq_true hj];rw [if_neg (by simp)];k_go;refine ⟨a.q,A.bz,a.dq,_,_,rfl,h3.ob,ct.lc,ct.l2,Vn,?_⟩;lk;refine .inr ⟨a.d2,.bl false,rfl,.inr ⟨_,pk x y,t,.inl h3.e2,rfl,ht3,(gU (f:=λt=>V.bl t.wd) hnd' hu).symm⟩,?_⟩;exact k _ _ as R H3 h3 (.inl ⟨hj,rfl,rfl,rfl⟩) S3
 .rw [decide_eq_false hj];rw [if_pos (by simp)];k_in;refine ⟨a.q,a.dq,_,rfl,h3.ob,WO,?_⟩;lk;refine ⟨a,n,T,_,as,R,t,⟨x,y,0,false⟩,rfl,ct,h3,hn,hu,hnd',hx,hy,aO _,λi hi=>by rw [T9.mp hi];exact hj,ht3,by simp;lia,λas' H4 h4 S4=>?_⟩;have ht4:H4 t=some (.tup [.int x,.int y]):=S4 _ _ (h3.yH ht3) ht3;k_go;refine ⟨a.q,A.bz,a.dq,_,_,rfl,h4.ob,ct.lc,ct.l2,Vn,?_⟩;lk;refine .inr ⟨a.d2,.bl true,rfl,.inr ⟨_,pk x y,t,.inl h4.e2,rfl,ht4,(gU (f:=λt=>V.bl t.wd) (t:=⟨x,y,0,true⟩) (by rw [kK (f:=Ti.vU) (λ_=>rfl)];exact hnd') ((k9 (f:=Ti.vU) hnd' hu _).mpr (.inl rfl))).symm⟩,?_⟩;exact k _ _ as' _ H4 h4 (.inr ⟨hj,rfl,rfl,rfl⟩) (S3.trans S4)
inductive cj (K:ae) (C:af) (A:CA) (vs:List V) (H:Hp) (Q:VK) (E:XK):Prop
 | mk (a:AL) (n T:Nat) (ts:List Ti) (as:Nat->List af) (R:Nat->Nat->List Int) (lv:Nat) (t:af) (x y:Nat):vs=[.ref a.q,.int lv,.ref t]->BK K C A->LV C A H a n T ts as R->(R lv x).length+(R lv y).length+2<=400->lv<=T->x<n->y<n->H t=some (.tup [.int x,.int y])->(∀ q (ks:List Int) (s o:Nat),(s=x/\o=y\/s=y/\o=x)->(R lv s).length<=(R lv o).length->H q=none->(∀ z,z∈ks↔z∈R lv s)->Q (.ref q) (upd H q (.lst (ks.map V.int))))->cj K C A vs H Q E
def qL:Rn (cj K C A) (lR K C A (j9 K C) (jP K C)) ["self","level","tie","wood"]:=by
 rintro vs H Q E ⟨a,n,T,ts,as,R,lv,t,x,y,rfl,ct,h,hn,hl,hx,hy,ht,k⟩;obtain ⟨w,hw,hwm⟩:=h.get hl;have W:=h.wa lv w hw;have D:=h.wd lv hl;have lx:=D.len hx;have ly:=D.len hy;obtain ⟨dx,_,_,cx⟩:=(D.r x hx).cnt;obtain ⟨dy,_,_,cy⟩:=(D.r y hy).cnt;unfold lR;k_go;refine ⟨a.q,A.bz,a.dq,_,_,rfl,h.ob,ct.lc,ct.l4,WN,?_⟩;lk;refine mO (dm.of h.ls) (eZ (j:=lv) rfl (by rw [aB,hw];rfl)) ?_;k_in;refine ⟨w.1,w.2.1,_,rfl,W.ob,mD _ _,?_⟩;k_in;refine ⟨w.1,w.2.1,_,rfl,W.ob,mD _ _,?_⟩;lk;refine fU (jq.of ht) (eZ (j:=0) rfl rfl) ?_;lk;refine ⟨w.1,w.2.1,w.2.2,n,x,as lv,R lv,rfl,ct.w,W,D,hx,?_⟩;refine zf ?_;lk;refine ⟨w.1,w.2.1,_,rfl,W.ob,mD _ _,?_⟩;lk;refine fU (jq.of ht) (eZ (j:=1) rfl rfl) ?_;lk;refine ⟨w.1,w.2.1,w.2.2,n,y,as lv,R lv,rfl,ct.w,W,D,hy,?_⟩;lk;refine sD (λc=>?_) λc=>?_
 .lk;refine fU (jq.of ht) (eZ (j:=0) rfl rfl) ?_;lk;exact ⟨w.1,w.2.1,w.2.2,n,x,as lv,R lv,rfl,ct.w,W,D,by lia,hx,λq ks hq _ hm=>k q ks x y (.inl ⟨rfl,rfl⟩) (by lia) hq hm⟩
 .lk;refine fU (jq.of ht) (eZ (j:=1) rfl rfl) ?_;lk;exact ⟨w.1,w.2.1,w.2.2,n,y,as lv,R lv,rfl,ct.w,W,D,by lia,hy,λq ks hq _ hm=>k q ks y x (.inr ⟨rfl,rfl⟩) (by lia) hq hm⟩
variable {X:EC}
def rX.keep (h:rX Pt H) (S:∀ b o,(∀ ks,o≠.dT ks)->(∀ xs,o≠.lst xs)->(∀ x y z,o≠.ins x y z)->(∀ o' ks,o≠.frz o' (.dT ks))->H b=some o->H' b=some o):rX Pt H':=by
 rcases h with h|⟨c',oc,vs,t,h1,h2,h3⟩
 .exact .inl (S _ _ (λ_ z=>nomatch z) (λ_ z=>nomatch z) (λ_ _ _ z=>nomatch z) (λ_ _ z=>nomatch z) h)
 .exact .inr ⟨c',oc,vs,t,S _ _ (λ_ z=>nomatch z) (λ_ z=>nomatch z) (λ_ _ _ z=>nomatch z) (λ_ _ z=>nomatch z) h1,S _ _ (λ_ z=>nomatch z) (λ_ z=>nomatch z) (λ_ _ _ z=>nomatch z) (λ_ _ z=>nomatch z) h2,h3⟩
def rX.same (h:rX Pt H) (S:bJ H H'):rX Pt H':=h.keep λb o _ _ _ _ e=>S b o e
def rX.fm (h:rX Pt H) (L:LV C A H a n T ts as R) (S:Fm (fp a) H H'):rX Pt H' :=
 h.keep λb o h1 h2 _ _ e=>S b o (L.out e h1 λ_ _=>h2 _) e
def rX.ne (h:rX Pt H) {b:af}{o:HO}(e:H b=some o) (hn:∀ ps,o≠.tbl ps):b≠Pt:=λz=>by
 obtain ⟨ps,q⟩:=h.tbl;rw [z,q] at e;exact hn ps (aU e).symm
def AtL (ts:List Ti) (lv:Nat) (w:Bool) (zs:List Zt):Prop:=(zs.map zP).Nodup/\∀ k,k∈zs.map zP↔∃ t∈ts,t.cC=lv/\t.wd=w/\t.key=k
inductive jX (K:ae) (C:af) (A:CA) (Pt:af) (vs:List V) (H:Hp) (Q:VK) (E:XK):Prop
 | mk (a:AL) (n T:Nat) (ts:List Ti) (as:Nat->List af) (R:Nat->Nat->List Int) (lv:Nat) (w:Bool):vs=[.ref a.q,.int lv,.bl w]->BK K C A->LV C A H a n T ts as R->(ts.map Ti.key).Nodup->ts.length<99->rX Pt H->(∀ (q:af) (zs:List Zt) (o:iF) H',H q=none->H' q=some (.lst (zs.map fV))->(∀ z∈zs,iY H' z)->AtL ts lv w zs->H' a.d1=some (.frz o (.dT (kl ts)))->rX Pt H'->Fm [Pt,a.d1] H H'->Q (.ref q) H')->jX K C A Pt vs H Q E
inductive cF (K:ae) (C:af) (A:CA) (Pt:af) (vs:List V) (H:Hp) (Q:VK) (E:XK):Prop
 | mk (a:AL) (n T:Nat) (ts:List Ti) (as:Nat->List af) (R:Nat->Nat->List Int) (lv:Nat) (w:Bool):vs=[.ref a.q,.int lv,.bl w]->BK K C A->LV C A H a n T ts as R->(ts.map Ti.key).Nodup->ts.length<99->rX Pt H->(∀ (q:af) (zs:List Zt) H',H q=none->H' q=some (.lst (zs.map fV))->(∀ z∈zs,iY H' z)->AtL ts lv w zs->rX Pt H'->qk Pt H H'->Q (.ref q) H')->cF K C A Pt vs H Q E
def tE:∀ vs H Q E,cF K C A Pt vs H Q E->jX K C A Pt vs H (UX H Q) E:=by
 rintro vs H Q E ⟨a,n,T,ts,as,R,lv,w,rfl,ct,h,hnd,hlen,hT,k⟩;refine ⟨a,n,T,ts,as,R,lv,w,rfl,ct,h,hnd,hlen,hT,λq zs o H' hq gq pz hz gd hT' B=>.inr ⟨a.d1,o,kl ts,(λo' u' e=>by rw [h.e1] at e;cases e),gd,?_⟩⟩;have hqd:q≠a.d1:=Ne.symm (aR h.e1 hq)
 have ne:∀ {b:af}{u:HO},H' b=some u->(∀ o' ks,u≠.frz o' (.dT ks))->(upd H' a.d1 (.dT (kl ts))) b=some u:=λ{b u} e q=>by rw [aG];exact e;rintro rfl;rw [gd] at e;cases e;exact q _ _ rfl
 refine k q zs _ hq (by rw [aG hqd];exact gq) (λz hz'=>ne (pz z hz') (λ_ _ z=>nomatch z)) hz (hT'.keep λb u _ _ _ h4 e=>ne e h4) λb u hb e=>?_
 by_cases c:b=a.d1
 .subst c;rw [aF,← h.e1,e]
 .rw [aG c];exact B _ _ (by simp [hb,c]) e
theorem tF:Rn (jX K C A Pt) (om K C A (mT K C Pt)) WM:=by
 rintro vs H Q E ⟨a,n,T,ts,as,R,lv,w,rfl,ct,h,hnd,hlen,hT,k⟩;unfold om;lk;refine We ?_;refine kI ?_;lk;refine ⟨a.q,A.bz,a.dq,_,_,rfl,h.ob,ct.lc,ct.l1,Oi,?_⟩;refine ⟨a.d1,kl ts,rfl,.inl ⟨h.e1,λo=>?_⟩⟩;have g1:(upd H a.d1 (.frz o (.dT (kl ts)))) a.d1=some (.frz o (.dT (kl ts))):=aF;have B1:bf a.d1 H (upd H a.d1 (.frz o (.dT (kl ts)))):=bf.upd;generalize upd H a.d1 (.frz o (.dT (kl ts)))=H1 at g1 B1;have q1:=B1 _ _ h.ob (gJ h.ob h.e1);have w1:=B1 _ _ h.e2 (Ne.symm h.Pz);have v1:=B1 _ _ h.e3 (Ne.symm h.Tu)
 have T1:rX Pt H1:=hT.keep λb u h1 _ _ _ e=>B1 _ _ e λz=>by rw [z,h.e1] at e;cases e;exact h1 _ rfl
 intro acc hacc;refine nF (n:=ts.length) (λt ys H4=>H4 acc=some (.lst ys)/\bJ H1 H4/\∃ us:List (Ti×af),ys=us.map (λu=>V.ref u.2)/\us.map (·.1)=(ts.take t).filter (λu=>decide (u.cC=lv))/\∀ u∈us,H4 u.2=some (.tup [.int u.1.x,.int u.1.y])) (λZ=>∃ o,Z=[o,some (.int lv),some (.ref a.q)]) ⟨aF,bJ.cH hacc,[],rfl,rfl,λz hz=>nomatch hz⟩ ⟨_,rfl⟩ ?_ ?_ ?_ ?_
 .rintro t ys H4 ⟨e,_⟩;exact e
 .rintro ys H4 ⟨g4,S4,us,rfl,hu,fl⟩;refine ⟨⟨by rw [mf];exact au _,S4 _ _ g1⟩,?_⟩;rw [cf (au _)] at hu
  have hul:us.length<=ts.length:=by have:=congrArg fh hu;rw [ag] at this;rw [this];exact dM _ _
  lk;refine .inl ⟨⟨_,dm.of g4⟩,λacc2 hacc2=>?_⟩;refine qD (K:=K) (z:=acc) (xs:=us.map λu=>V.ref u.2) us (λu=>decide (u.1.wd=w)) (λu=>V.ref u.2) (λZ=>∃ o,Z=[o,some (.bl w),some (.ref a.q)]) (by simp) (dm.of g4) hacc2 ⟨_,rfl⟩ (by rw [ag];lia) ?_ ?_
  .rintro i u x σ' H' G G' hi hx S' ⟨o',rfl⟩ k1 k2
   have ex:x=.ref u.2:=by rw [aB,hi] at hx;exact (aU hx).symm
   subst ex;have hum:=aN hi
   have hut:u.1∈ts:=by
    have:u.1∈us.map (·.1):=bg hum;rw [hu] at this;exact (dX.mp this).1
   k_go;refine ⟨a.q,A.bz,a.dq,_,_,rfl,S' _ _ (S4 _ _ q1),ct.lc,ct.l2,Vn,?_⟩;lk;refine .inr ⟨a.d2,.bl u.1.wd,rfl,.inr ⟨kw ts,pk u.1.x u.1.y,u.2,.inl (S' _ _ (S4 _ _ w1)),rfl,S' _ _ (fl u hum),(gU (f:=λt=>V.bl t.wd) hnd hut).symm⟩,?_⟩;lk;have e:decide (V.bl u.1.wd=V.bl w)=decide (u.1.wd=w):=decide_eq_decide.mpr ⟨λq=>by injection q,λq=>by rw [q]⟩;rw [e]
   cases c:decide (u.1.wd=w) with
   | true =>
    refine l0 ?_;lk
    exact k1 c _ ⟨_,rfl⟩
   | false=>exact lI (k2 c _ ⟨_,rfl⟩)
  .intro H' S' hacc';have S5:=S4.trans S';generalize eu:us.filter (λu=>decide (u.1.wd=w))=us2 at hacc'
   have hu2:us2.map (·.1)=(ts.filter λu=>decide (u.cC=lv)).filter λu=>decide (u.wd=w):=by rw [← hu,← eu,oE];rfl
   have fl2:∀ u∈us2,H' u.2=some (.tup [.int u.1.x,.int u.1.y]):=λu hu=>S' _ _ (fl u (by rw [← eu] at hu;exact (dX.mp hu).1))
   have hm2:∀ u,u∈us2.map (·.1)↔u∈ts/\u.cC=lv/\u.wd=w:=λu=>by
    rw [hu2,dX,dX,decide_eq_true_iff,decide_eq_true_iff,and_assoc]
   have hl2:us2.length<=ts.length:=by rw [← eu];exact br (dM _ _) hul
   k_go;refine ⟨a.q,A.bz,a.dq,_,_,rfl,S5 _ _ q1,ct.lc,ct.l3,fL3,?_⟩;lk;refine ⟨acc2,a.d3,us2.map (λu=>([0,(u.1.x:Int),(u.1.y:Int)],u.2)),kv ts,rfl,by rw [hacc',cz];rfl,S5 _ _ v1,λz hz=>?_,by rw [ag];lia,T1.same S5,λl zs' H2 hl S6 T6 hp=>?_⟩
   .obtain ⟨u,hum,rfl⟩:=bq.mp hz;exact ⟨0,u.1.x,u.1.y,rfl,fl2 u hum,gU (f:=λ_=>V.int 0) hnd ((hm2 u.1).mp (bg hum)).1⟩
   .have T5:=T1.same S5
    have hlP:l≠Pt:=λz=>by
     obtain ⟨ps,e⟩:=T6.tbl;rw [z,e] at hl;cases hl
    have F6:Fm [Pt,a.d1] H H2:=λb u hb e=>by
     simp only [aq,c8,or_false,not_or] at hb;exact S6 _ _ hb.1 (S5 _ _ (B1 _ _ e hb.2))
    have d6:H2 a.d1=some (.frz o (.dT (kl ts))):=S6 _ _ (T5.ne (S5 _ _ g1) (λ_ z=>nomatch z)) (S5 _ _ g1);have hld:a.d1≠l:=aR d6 hl
    have U:∀ {b:af}{u:HO},H2 b=some u->(upd H2 l (.lst (zs'.map oG))) b=some u:=λe=>by rw [aG (aR e hl)];exact e
    have hzP:(zs'.map λz=>(z.1.getD 1 0,z.1.getD 2 0,z.2)).map zP=zs'.map λz=>(z.1.getD 1 0,z.1.getD 2 0):=by rw [cz];rfl
    have hperm:(zs'.map λz=>((z.1.getD 1 0,z.1.getD 2 0):Int×Int)).Perm ((us2.map (·.1)).map Ti.key):=by
     have:=hp.map λz:Zn=>((z.1.getD 1 0,z.1.getD 2 0):Int×Int)
     rw [cz] at this;rw [cz];exact this
    refine k l (zs'.map λz=>(z.1.getD 1 0,z.1.getD 2 0,z.2)) o _ (F6.free (by simp [hlP,hld.symm]) hl) (by rw [aF,cz];rfl) (λz hz=>?_) ⟨?_,λkey=>?_⟩ (U d6) (T6.keep λb u _ _ _ _ e=>U e) (F6.trans λb u _ e=>U e)
    .obtain ⟨z',hz',rfl⟩:=bq.mp hz;obtain ⟨u,hum,rfl⟩:=bq.mp (hp.mem_iff.mp hz');exact U (S6 _ _ (T5.ne (fl2 u hum) (λ_ z=>nomatch z)) (fl2 u hum))
    .rw [hzP,hperm.nodup_iff,hu2];exact ((kO.trans kO).map _).nodup hnd
    .rw [hzP,hperm.mem_iff,bq];exact ⟨λ⟨u,h1,h2⟩=>⟨u,((hm2 u).mp h1).1,((hm2 u).mp h1).2.1,((hm2 u).mp h1).2.2,h2⟩,λ⟨u,h1,h2,h3,h4⟩=>⟨u,(hm2 u).mpr ⟨h1,h2,h3⟩,h4⟩⟩
 .rintro t ys H4 ht ⟨_,S4,_⟩;exact ⟨by rw [mf];exact ht,S4 _ _ g1⟩
 .rintro t ys σ' H4 x H5 ht ⟨g4,S4,us,rfl,hu,fl⟩ ⟨o',rfl⟩ ⟨eH,key,v,b,hk,ex,hb⟩;subst eH ex
  obtain ⟨u,hu',eu⟩:∃ u,ts[t]?=some u/\(pk u.x u.y,V.int u.cC)=(key,v):=by
   have hk:(ts.map λt=>(pk t.x t.y,V.int t.cC))[t]?=some (key,v):=hk;rw [aB] at hk;exact bo.mp hk
  cases eu;have hum:=aN hu';have hb:H5 b=some (.tup [.int u.x,.int u.y]):=hb;k_go;refine ⟨a.q,A.bz,a.dq,_,_,rfl,S4 _ _ q1,ct.lc,ct.l1,Oi,?_⟩;lk;refine .inr ⟨a.d1,.int u.cC,rfl,.inr ⟨kl ts,pk u.x u.y,b,.inr ⟨o,S4 _ _ g1⟩,rfl,hb,(gU (f:=λt=>V.int t.cC) hnd hum).symm⟩,?_⟩
  have etk:ts.take (t+1)=ts.take t++[u]:=by rw [eN,hu'];rfl
  have hul:us.length<=ts.length:=by have:=congrArg fh hu;rw [ag] at this;rw [this];exact br (dM _ _) (by rw [bM];lia)
  lk;refine sD (λc=>?_) λc=>?_
  .have c:u.cC=lv:=by have:=kC.mp c;lia
   lk;refine ⟨g4,eT (m:=100) (by rw [ag];lia),lh.mk' ht ⟨_,rfl⟩ ⟨aF,λb' ob e=>by rw [aG (aR e hacc)];exact S4 _ _ e,us++[(u,b)],by simp,?_,λz hz=>?_⟩⟩
   .rw [a9,hu,etk,ff];simp [c]
   .rcases aQ.mp hz with hz|hz
    .rw [aG (gJ (fl z hz) g4)];exact fl z hz
    .rw [ay.mp hz,aG (gJ hb g4)];exact hb
  .have c:¬ u.cC=lv:=λe=>c (by rw [e]);refine lh.mk' ht ⟨_,rfl⟩ ⟨g4,S4,us,rfl,?_,fl⟩;rw [hu,etk,ff];simp [c]
variable {X:EC}
def Fm.skip {X:List af}{c:af}{H1 H2:Hp}(S:Fm X H H1) (S2:Fm (c::X) H1 H2) (hc:H c=none):Fm X H H2:=λb o hb e=>S2 b o (λz=>by
 rcases aq.mp z with z|z
 .rw [z,hc] at e;cases e
 .exact hb z) (S b o hb e)
def ew2 {x y:Int}{S:List Int}:ew x y S=2↔x∈S/\y∈S:=by
 unfold ew;by_cases c1:x∈S<;>by_cases c2:y∈S<;>simp [c1,c2]
def ew1 {x y:Int}{S:List Int}:ew x y S=1↔(x∈S/\y∉S\/x∉S/\y∈S):=by
 unfold ew;by_cases c1:x∈S<;>by_cases c2:y∈S<;>simp [c1,c2]
def LV.WU (h:LV C A H a n T ts as R) (hP:rX Pt H) (S:qk Pt H H'):LV C A H' a n T ts as R :=
 h.keep (X:=[Pt]) (λb o hb e=>S b o (λz=>hb (ay.mpr z)) e) (λx fs e hf _ hx=>hP.ne e (by obtain ⟨c,d,f,rfl,_⟩:=hf;exact λ_ z=>nomatch z) (ay.mp hx)) (λb hb hx=>by
  rcases h.kind hb with ⟨ks,q⟩|⟨bs,_,q⟩
  .exact hP.ne q (λ_ z=>nomatch z) (ay.mp hx)
  .exact hP.ne q (λ_ z=>nomatch z) (ay.mp hx)) (λhx=>hP.ne h.ls (λ_ z=>nomatch z) (ay.mp hx)) λb r _ e hx=>hP.ne e (λ_ z=>nomatch z) (ay.mp hx)
def LV.app {c:af}{ys xs:List V}(h:LV C A H a n T ts as R) (hc:H c=some (.lst ys)) (hi:∀ i r,ys≠V.int i::r) (n1:c∉fp a) (n2:a.L≠c):LV C A (upd H c (.lst xs)) a n T ts as R :=
 h.keep (X:=[c]) (Fm.upd aw) (λx fs e hf _ hx=>by
  rw [ay.mp hx,hc] at e;obtain ⟨c,d,f,rfl,_⟩:=hf
  cases e) (λb hb hx=>n1 (ay.mp hx▸hb)) (λhx=>n2 (ay.mp hx)) λb r hr e hx=>by
  rw [ay.mp hx,hc] at e
  injection e with e
  injection e with e
  match r,hr with
  | x::r,_=>exact hi _ _ e
inductive dQ (K:ae) (C:af) (A:CA) (Pt:af) (vs:List V) (H:Hp) (Q:VK) (E:XK):Prop
 | mk (a:AL) (n T:Nat) (ts:List Ti) (as:Nat->List af) (R:Nat->Nat->List Int) (lv:Nat) (t:af) (x y:Nat):vs=[.ref a.q,.int lv,.ref t]->BK K C A->LV C A H a n T ts as R->n<=200->(∀ j,2^(j+1)<=n->j<=T)->Dn n T ts R x y (lv+1)->H t=some (.tup [.int x,.int y])->ts.length<99->rX Pt H->(∀ ts' as' R' H' (u:Tt),H u.p=none->H u.q=none->Bq H' u->LV C A H' a n T ts' as' R'->rX Pt H'->Fm (Pt::fp a) H H'->ts'.map Ti.key=ts.map Ti.key->gF ts'=gF ts+u.xs.length->(∀ i r,u.xs≠V.int i::r)->(u.f=.non/\Dn n T ts' R' x y lv\/u.f≠.non/\Lv n T ts' R'/\Jn ts' R')->Q (.ref u.p) H')->dQ K C A Pt vs H Q E
theorem Bd:Rn (dQ K C A Pt) (tj K C A (cj K C A) (cF K C A Pt) (dz K C A) (dA K C) (cn K C A)) WC:=by
 rintro vs H Q E ⟨a,n,T,ts,as,R,lv,t,x,y,rfl,ct,h,hn,hT,D,ht,hlen,hP,k⟩
 have hlv:lv<=T:=by have:=D.hk;lia
 have hnd:=D.lv.nd;have f0:∀ {m:bB},¬ m="level_of"->¬ m="wooden"->¬ m="weight_of"->¬ m="woods"->(fL a.d1 a.d2 a.d3 a.L).lookup m=none:=λh1 h2 h3 h4=>WO h1 h2 h3 h4;unfold tj;k_in;refine ⟨a.q,a.dq,_,rfl,h.ob,f0 (by decide +kernel) (by decide +kernel) (by decide +kernel) (by decide +kernel),?_⟩;lk;refine ⟨a,n,T,ts,as,R,lv,t,x,y,rfl,ct,h,(by have:=br (Nat.le_mul_of_pos_right _ (Nat.two_pow_pos lv)) (D.s2 lv (ji _));lia),hlv,D.ha,D.hb,ht,λq ks s o hso hle hq hks=>?_⟩
 have D':Dn n T ts R s o (lv+1):=by
  rcases hso with ⟨rfl,rfl⟩|⟨rfl,rfl⟩
  .exact D
  .exact D.swap
 have back:∀ {ts' R'},Dn n T ts' R' s o lv->Dn n T ts' R' x y lv:=λd=>by
  rcases hso with ⟨rfl,rfl⟩|⟨rfl,rfl⟩
  .exact d
  .exact d.swap
 have hs:((R lv s).length+1)*2^(lv+1)<=2*n:=by
  refine br ?_ (D'.s2 lv (ji _));rw [Qd,Nat.mul_comm (2^lv) 2,← Nat.mul_assoc];exact oA _ (by lia)
 generalize eu_:upd H q (.lst (ks.map V.int))=H1;obtain ⟨S1,g1⟩:=kP eu_ hq;have h1:=h.same S1;k_in;refine ⟨a.q,a.dq,_,rfl,h1.ob,f0 (by decide +kernel) (by decide +kernel) (by decide +kernel) (by decide +kernel),?_⟩;lk;refine ⟨a,n,T,ts,as,R,lv,true,rfl,ct,h1,hnd,hlen,hP.same S1,λz0 zs H2 hz0 gz pz az P2 S2=>?_⟩;have h2:=h1.WU (hP.same S1) S2;have g2:H2 q=some (.lst (ks.map V.int)):=S2 _ _ ((hP.same S1).ne g1 (λ_ z=>nomatch z)) g1
 have hzl:zs.length<=ts.length:=by
  have:=CQ (l:=zs.map zP) (m:=ts.map Ti.key) az.1 λp hp=>by
   obtain ⟨t,t1,_,_,t4⟩:=(az.2 p).mp hp;exact t4▸bg t1
  simpa using this
 refine ⟨z0,rfl,.inl ⟨⟨_,dm.of gz⟩,λacc hacc=>?_⟩⟩;have nacc:=h2.yI hacc;have nLacc:a.L≠acc:=aR h2.ls hacc;refine nF (n:=zs.length) (λi ys H4=>ys=((zs.take i).filter λz=>decide (ew z.1 z.2.1 ks=2)).map fV/\H4 acc=some (.lst ys)/\bJ H2 H4) (λZ=>∃ o,Z=[o,some (.ref q)]) ⟨by simp,aF,bJ.cH hacc⟩ ⟨_,rfl⟩ ?_ ?_ ?_ ?_
 .rintro i ys H' ⟨_,h,_⟩;exact h
 .rintro ys H3 ⟨rfl,g3,S3⟩;refine ⟨⟨_,dm.of (S3 _ _ gz),by rw [ag];exact au _⟩,?_⟩;rw [cf (au _)] at g3;generalize ew':zs.filter (λz=>decide (ew z.1 z.2.1 ks=2))=ws at g3
  have hws:∀ z,z∈ws↔z∈zs/\z.1∈ks/\z.2.1∈ks:=λz=>by rw [← ew',dX,decide_eq_true_iff,ew2]
  have wnd:(ws.map zP).Nodup:=by rw [← ew'];exact (kO.map _).nodup az.1
  have h3:=h2.same S3;have P3:=P2.same S3;have q3:=S3 _ _ g2;have pw:∀ z∈ws,iY H3 z:=λz hz=>S3 _ _ (pz z ((hws z).mp hz).1)
  have st:∀ z∈ws,∃ t∈ts,t.key=zP z/\t.wd=true/\t.cC=lv/\(t.x:Int)∈R lv s/\(t.y:Int)∈R lv s:=λz hz=>by
   obtain ⟨m1,m2,m3⟩:=(hws z).mp hz;obtain ⟨t,t1,t2,t3,t4⟩:=(az.2 (zP z)).mp (bg m1);obtain ⟨e1,e2⟩:=cJ t4;exact ⟨t,t1,t4,t3,t2,by rw [e1];exact (hks _).mp m2,by rw [e2];exact (hks _).mp m3⟩
  lk;unfold qf;lk
  refine .inl ⟨⟨_,dm.of g3⟩,kW (K:=K) (a:=acc) (xs:=ws.map fV) (λi Z H4=>∃ ts1 as1 R1 o5 o6,Z=[some (.ref a.q),some (.int lv),some (.ref t),some (.ref q),some (.ref acc),o5,o6]/\LV C A H4 a n T ts1 as1 R1/\Lo1 n T lv s o ts R (ws.map zP) i ts1 R1/\gF ts1=gF ts+i/\Fm (fp a) H3 H4)
   ⟨ts,as,R,_,_,rfl,h3,⟨D',rfl,rfl,λt ht h1 h2 h3 h4=>?_,λp hp=>?_,λp hp=>?_⟩,rfl,Fm.refl⟩ ?_ ?_ ?_⟩
  .obtain ⟨z,hz,e⟩:=bq.mp ((az.2 t.key).mpr ⟨t,ht,h2,h1,rfl⟩);obtain ⟨e1,e2⟩:=cJ e;exact bq.mpr ⟨z,(hws z).mpr ⟨hz,by rw [e1];exact (hks _).mpr h3,by rw [e2];exact (hks _).mpr h4⟩,e⟩
  .obtain ⟨z,hz,rfl⟩:=bq.mp hp;exact st z hz
  .obtain ⟨z,hz,rfl⟩:=bq.mp hp;obtain ⟨t,h1,h2,h3,_⟩:=st z hz;exact ⟨t,h1,h2,h3⟩
  .rintro i Z H4 _ ⟨_,_,_,_,_,_,_,_,_,F⟩;exact dm.of (F _ _ nacc g3)
  .rintro i v Z H4 hi ⟨ts1,as1,R1,o5,o6,rfl,L4,M,hs1,F⟩;rw [aB] at hi;obtain ⟨z,hz,rfl⟩:=bo.mp hi;obtain ⟨u,u1,u2,u3,u4,u5,M'⟩:=M.step hT hs wnd (p:=zP z) (by rw [aB,hz];rfl);have hpz:=pw z (aN hz)
   have hpz4:H4 z.2.2=some (.tup [.int u.x,.int u.y]):=by
    obtain ⟨e1,e2⟩:=cJ u2;rw [e1,e2];exact F _ _ (h3.yH hpz) hpz
   obtain ⟨l1,l2,_⟩:=M.dn.lv.lt u u1
   have hl1:ts1.length=ts.length:=by have:=congrArg fh M.ks;simpa using this
   k_in;refine ⟨a.q,a.dq,_,rfl,L4.ob,f0 (by decide +kernel) (by decide +kernel) (by decide +kernel) (by decide +kernel),?_⟩;lk;refine ⟨a,n,T,ts1,as1,R1,z.2.2,u,rfl,ct,L4,by lia,u1,M.dn.lv.nd,by lia,l2,λ_=>⟨u4,u5⟩,hpz4,by lia,λas' R' H5 L5 eR F5=>?_⟩;rw [u3,if_pos rfl] at eR;subst eR;exact ⟨_,as',_,_,_,rfl,L5,M',by rw [Hy M.dn.lv.nd u1,hs1];rfl,F.trans F5⟩
  .rintro Z H4 ⟨ts1,as1,R1,o5,o6,rfl,L4,M,hls1,F⟩;rw [ag] at M hls1;have P4:=P3.fm h3 F;have a4:=F _ _ nacc g3;have q4:=F _ _ (h3.YN q3) q3;have ed:(ws.map zP).drop ws.length=[]:=Qx.mpr (by rw [ag];exact au _)
   have hno:∀ t∈ts1,t.wd=true->t.cC=lv->(t.x:Int)∈R1 lv s->(t.y:Int)∈R1 lv s->False:=λt h1 h2 h3 h4 h5=>by
    rw [M.rl] at h4 h5;have:=M.pend t h1 h2 h3 h4 h5;rw [ed] at this;cases this
   have hl1:ts1.length=ts.length:=by have:=congrArg fh M.ks;simpa using this
   have hs1:((R1 lv s).length+1)*2^(lv+1)<=2*n:=by rw [M.rl];exact hs
   have hks1:∀ z,z∈ks↔z∈R1 lv s:=by rw [M.rl];exact hks
   lk;unfold qg;k_in;refine ⟨a.q,a.dq,_,rfl,L4.ob,f0 (by decide +kernel) (by decide +kernel) (by decide +kernel) (by decide +kernel),?_⟩;lk;refine ⟨a,n,T,ts1,as1,R1,lv,false,rfl,ct,L4,M.dn.lv.nd,by lia,P4,λz5 zs3 H5 hz5 gz5 pz5 az5 P5 S5=>?_⟩;have L5:=L4.WU P4 S5;have a5:H5 acc=some (.lst (ws.map fV)):=S5 _ _ (P4.ne a4 (λ_ z=>nomatch z)) a4;have q5:H5 q=some (.lst (ks.map V.int)):=S5 _ _ (P4.ne q4 (λ_ z=>nomatch z)) q4;have nqa:q≠acc:=aR g2 hacc;have n5a:z5≠acc:=Ne.symm (aR a4 hz5);have n5f:=L4.yI hz5;have n3:(zs3.map zP).Nodup:=az5.1
   have hcnt:ws.length+zs3.length<=ts.length:=by
    have:=CQ (l:=ws.map zP++zs3.map zP) (m:=ts1.map Ti.key) (gH.mpr ⟨wnd,n3,λp hp p' hp' e=>by
     subst e;obtain ⟨t,t1,t2,t3⟩:=M.all p hp;obtain ⟨t',s1,_,s3,s4⟩:=(az5.2 p).mp hp';rw [m7 M.dn.lv.nd t1 s1 (t2.trans s4.symm),s3] at t3
     cases t3⟩) λp hp=>by
      rcases aQ.mp hp with hp|hp
      .obtain ⟨t,t1,t2,_⟩:=M.all p hp;exact t2▸bg t1
      .obtain ⟨t,t1,_,_,t4⟩:=(az5.2 p).mp hp;exact t4▸bg t1
    simp at this;lia
   -- from the beginning to here
   have F5:Fm (Pt::fp a) H H5:=λb o hb e=>by
    rw [aq,not_or] at hb;exact S5 _ _ hb.1 (F _ _ hb.2 (S3 _ _ (S2 _ _ hb.1 (S1 _ _ e))))
   have fr:∀ {b:af},H5 b=none->H b=none:=λ{b} e=>F5.free (λz=>by
    rcases aq.mp z with z|z
    .obtain ⟨ps,q⟩:=P5.tbl;rw [z,q] at e;cases e
    .exact L5.yI e z) e
   have hacc0:H acc=none:=by
    cases z:H acc with
    | none=>rfl
    | some u =>
     have:H1 acc=some u:=S1 _ _ z
     by_cases c:acc=Pt
     .obtain ⟨ps,q⟩:=P2.tbl;rw [← c,hacc] at q;cases q
     .rw [S2 _ _ c this] at hacc;cases hacc
   have Lf:∀ {H6},Fm (acc::fp a) H5 H6->H6 q=some (.lst (ks.map V.int)):=λF=>F _ _ (λz=>(aq.mp z).elim nqa (L5.YN q5)) q5
   -- the step told
   have told:∀ {ts2 as2 R2 H6} {rs:List Zt}(f:V),LV C A H6 a n T ts2 as2 R2->rX Pt H6->Fm (acc::fp a) H5 H6->H6 acc=some (.lst (rs.map fV))->(∀ z∈rs,iY H6 z)->rs.length<99->ts2.map Ti.key=ts.map Ti.key->gF ts2=gF ts+rs.length->(f=.non/\Dn n T ts2 R2 x y lv\/f≠.non/\Lv n T ts2 R2/\Jn ts2 R2) ->
     ∀ G:VK,(∀ v H7,(∀ p,H7 p=none->Q (.ref p) (upd H7 p (.tup [.int lv,.ref q,v,f])))->G v H7)->sJ K [.ref acc] H6 G:=λ{ts2 as2 R2 H6 rs} f L6 P6 F6 g6 p6 hl6 hk hls hf G kG=>by
    have fr6:∀ {b:af},H6 b=none->H b=none:=λ{b} e=>fr (F6.free (λz=>by
     rcases aq.mp z with z|z
     .rw [z,g6] at e;cases e
     .exact L6.yI e z) e)
    refine ⟨acc,rs.map (λz=>([z.1,z.2.1],z.2.2)),[false],rfl,by rw [cz];exact dm.of g6,λz hz=>let ⟨u,hu,e⟩:=bq.mp hz;e▸⟨_,p6 u hu,.int _ (.int _ .nil)⟩,by rw [ag];lia,λl rs' hl pm _=>kG _ _ λp hp=>?_⟩;have S7:=bJ.cH (o:=.lst (rs'.map oG)) hl;have g7:(upd H6 l (.lst (rs'.map oG))) l=some (.lst (rs'.map oG)):=aF;generalize upd H6 l (.lst (rs'.map oG))=H7 at S7 g7 hp;have S8:=bJ.cH (o:=.tup [.int lv,.ref q,.ref l,f]) hp;have S78:=S7.trans S8;exact k ts2 as2 R2 _ ⟨p,q,l,lv,rs'.map oG,f⟩ (fr6 (S7.free hp)) (fr6 hl) ⟨aF,S8 _ _ g7⟩ (L6.same S78) (P6.same S78) (F5.skip ((F6.mono λb hb=>(aq.mp hb).elim (λz=>z▸aw) λz=>ai _ (ai _ z)).trans (Fm.of S78)) hacc0) hk (by show _=_+(rs'.map oG).length;rw [ag,pm.length_eq,ag];exact hls) (by intro i r e;cases rs'<;>cases e) hf
   refine ⟨z5,rfl,.inl ⟨⟨_,dm.of gz5⟩,kW (K:=K) (a:=z5) (xs:=zs3.map fV) (λi Z H6=>∃ ts2 as2 rs o5 o6,Z=[some (.ref a.q),some (.int lv),some (.ref t),some (.ref q),some (.ref acc),o5,o6]/\LV C A H6 a n T ts2 as2 R1/\rX Pt H6/\Pr n T lv s o ts R1 (zs3.map zP) i ts2/\H6 acc=some (.lst (rs.map fV))/\(∀ z∈rs,iY H6 z)/\rs.length<=ws.length+i/\gF ts2=gF ts+rs.length/\Fm (acc::fp a) H5 H6)
    ⟨ts1,as1,ws,_,_,rfl,L5,P5,⟨M.dn,M.ks,λh x y hx hy h1 h2=>M.dn.full hno h hx hy h1 h2,λp hp=>?_,λt h1 h2 h3=>.inl ?_⟩,a5,λz hz=>S5 _ _ (P4.ne (F _ _ (h3.yH (pw z hz)) (pw z hz)) (λ_ z=>nomatch z)) (F _ _ (h3.yH (pw z hz)) (pw z hz)),au _,hls1,Fm.refl⟩ ?_ ?_ ?_⟩⟩
   .obtain ⟨t,t1,t2,t3,t4⟩:=(az5.2 p).mp hp;exact ⟨t,t1,t4,t3,t2⟩
   .exact (az5.2 t.key).mpr ⟨t,h1,h3,h2,rfl⟩
   .rintro i Z H6 _ ⟨_,_,_,_,_,_,_,_,_,_,_,_,_,F6⟩;exact dm.of (F6 _ _ (λz=>(aq.mp z).elim n5a n5f) gz5)
   .rintro i v Z H6 hi ⟨ts2,as2,rs,o5,o6,rfl,L6,P6,N,g6,p6,hl6,hs6,F6⟩;rw [aB] at hi;obtain ⟨z,hz,rfl⟩:=bo.mp hi;have hilt:i<zs3.length:=(aC.mp hz).1
    have hpi:(zs3.map zP)[i]?=some (zP z):=by rw [aB,hz];rfl
    have hz5:=pz5 z (aN hz);have hz6:H6 z.2.2=some (.tup [.int z.1,.int z.2.1]):=F6 _ _ (λe=>(aq.mp e).elim (gJ hz5 a5) (L5.yH hz5)) hz5
    have hl2:ts2.length=ts.length:=by have:=congrArg fh N.ks;simpa using this
    lk;refine ⟨z.2.2,q,z.1,z.2.1,ks,rfl,hz6,Lf F6,λH7 S7=>?_⟩;have L7:=L6.same S7;have P7:=P6.same S7;have F7:=F6.trans (Fm.of S7);have g7:=S7 _ _ g6;have hz7:=S7 _ _ hz6;have p7:∀ z∈rs,iY H7 z:=λz hz=>S7 _ _ (p6 z hz);lk;refine sD (λc=>?_) λc=>?_
    .have c:ew z.1 z.2.1 ks=1:=by have:=kC.mp c;lia
     have c:=ew1.mp c;rw [hks1,hks1] at c;obtain ⟨u,u1,u2,u3,u4,u5⟩:=N.one n3 hpi c;obtain ⟨l1,l2,l3⟩:=N.dn.lv.lt u u1;obtain ⟨e1,e2⟩:=cJ u2;k_in;refine ⟨a.q,a.dq,_,rfl,L7.ob,f0 (by decide +kernel) (by decide +kernel) (by decide +kernel) (by decide +kernel),?_⟩;lk;refine ⟨a,n,T,ts2,as2,R1,z.2.2,u,rfl,ct,L7,by lia,u1,N.dn.lv.nd,by lia,l2,l3,u3,by rw [e1,e2];exact hz7,by lia,λas' H8 L8 F8=>?_⟩;lk;refine told (rs:=rs) (.ref z.2.2) L8 (P7.fm L7 F8) (F7.trans F8.tail) (F8 _ _ nacc g7) (λz hz=>F8 _ _ (L7.yH (p7 z hz)) (p7 z hz)) (by lia) (by rw [kK (f:=Ti.vU) (λ_=>rfl)];exact N.ks) (by rw [Vj];exact hs6) (.inr ⟨(λz=>nomatch z),u4,u5⟩) _ λv H9 kk=>?_;lk;exact ⟨bK (m:=4) (au 4),kk⟩
    .lk;have c1:¬ ew z.1 z.2.1 ks=1:=λe=>c (by rw [e];rfl);refine sD (λc=>?_) λc=>?_
     .have c:ew z.1 z.2.1 ks=2:=by have:=kC.mp c;lia
      have c:=ew2.mp c;rw [hks1,hks1] at c;obtain ⟨u,u1,u2,u3,N'⟩:=N.two hT hs1 n3 hpi c.1 c.2;obtain ⟨l1,l2,l3⟩:=N.dn.lv.lt u u1;obtain ⟨e1,e2⟩:=cJ u2;k_in;refine ⟨a.q,a.dq,_,rfl,L7.ob,f0 (by decide +kernel) (by decide +kernel) (by decide +kernel) (by decide +kernel),?_⟩;lk;refine ⟨a,n,T,ts2,as2,R1,z.2.2,u,rfl,ct,L7,by lia,u1,N.dn.lv.nd,by lia,l2,(λe=>by rw [u3] at e;cases e),by rw [e1,e2];exact hz7,by lia,λas' R' H8 L8 eR F8=>?_⟩;rw [u3,if_neg (by decide)] at eR;subst eR;have g8:=F8 _ _ nacc g7;have hz8:=F8 _ _ (L7.yH hz7) hz7;lk;refine ⟨.inl ⟨rfl,_,dm.of g8⟩,?_⟩;lk;refine sC g8 (eT (m:=100) (by rw [ag];lia)) ?_
      have ne:∀ {b:af}{o:HO},H8 b=some o->(∀ xs,o≠.lst xs)->(upd H8 acc (.lst (rs.map fV++[.ref z.2.2]))) b=some o:=λ{b o} e hno=>by rw [aG];exact e;rintro rfl;rw [g8] at e;cases e;exact hno _ rfl
      refine ⟨_,as',rs++[z],_,_,rfl,L8.app g8 (by intro i r e;cases rs<;>cases e) nacc nLacc,(P7.fm L7 F8).keep λb o _ h2 _ _ e=>ne e h2,N',by rw [aF,a9];rfl,λz' hz'=>ne ?_ (λ_ z=>nomatch z),by rw [bb];simp;lia,by rw [Hy N.dn.lv.nd u1,hs6,bb];rfl,(F7.trans F8.tail).trans (Fm.upd aw)⟩
      rcases aQ.mp hz' with hz'|hz'
      .exact F8 _ _ (L7.yH (p7 z' hz')) (p7 z' hz')
      .rw [ay.mp hz'];exact hz8
     .have c2:¬ ew z.1 z.2.1 ks=2:=λe=>c (by rw [e];rfl);lk
      have c3:z.1∉R1 lv s/\z.2.1∉R1 lv s:=by
       rw [← hks1,← hks1];rw [ew1] at c1;rw [ew2] at c2
       by_cases d1:z.1∈ks<;>by_cases d2:z.2.1∈ks<;>simp_all
      exact ⟨ts2,as2,rs,_,_,rfl,L7,P7,N.zero n3 hpi c3.1 c3.2,g7,p7,by lia,hs6,F7⟩
   .rintro Z H6 ⟨ts2,as2,rs,o5,o6,rfl,L6,P6,N,g6,p6,hl6,hs6,F6⟩;rw [ag] at N hl6;lk;refine told (rs:=rs) .non L6 P6 F6 g6 p6 (by lia) N.ks hs6 (.inl ⟨rfl,back (N.fin (by rw [ag];exact au _))⟩) _ λv H9 kk=>?_;lk;exact ⟨bK (m:=4) (au 4),kk⟩
 .rintro i ys H' hi ⟨e,h,S'⟩;exact ⟨_,_,dm.of (S' _ _ gz),by rw [aB,aA hi];rfl⟩
 .rintro i ys σ' H' v H3 hi ⟨rfl,hl,S'⟩ ⟨o',rfl⟩ ⟨e2,hx⟩;subst e2;have hxi:=hx _ (dm.of (S' _ _ gz));rw [aB,aA hi] at hxi;have hv:=(aU hxi).symm;subst hv
  have et:zs.take (i+1)=zs.take i++[zs[i]]:=by rw [eN,aA hi];rfl
  lk;refine ⟨zs[i].2.2,q,zs[i].1,zs[i].2.1,ks,rfl,S' _ _ (pz _ (i9 hi)),S' _ _ g2,λH4 S4=>?_⟩;lk;refine sD (λc=>?_) λc=>?_
  .have c:ew zs[i].1 zs[i].2.1 ks=2:=by have:=kC.mp c;lia
   lk;refine ⟨S4 _ _ hl,eT (m:=1000) (by rw [ag];exact bw (dM _ _) (by rw [bM];lia)),lh.mk' hi ⟨_,rfl⟩ ⟨?_,aF,λb o e=>by rw [aG (aR e hacc)];exact S4 _ _ (S' _ _ e)⟩⟩;rw [et,ff,a9];simp [c]
  .have c:¬ ew zs[i].1 zs[i].2.1 ks=2:=λe=>c (by rw [e];rfl);refine lh.mk' hi ⟨_,rfl⟩ ⟨?_,S4 _ _ hl,S'.trans S4⟩;rw [et,ff,a9];simp [c]
variable {X:EC}
def Oj (us:List Tt) (v:Tt):E5 (us++[v])=E5 us+v.xs.length:=by unfold E5;rw [a9,Zc];simp
def HS (us:List Tt) (v:Tt):GR (us++[v])=GR us+if v.f=V.non then 0 else 1:=by
 unfold GR;rw [ff,bb]
 by_cases c:v.f=V.non<;>simp [c]
inductive cX (K:ae) (C:af) (A:CA) (Pt:af) (vs:List V) (H:Hp) (Q:VK) (E:XK):Prop
 | mk (a:AL) (n T:Nat) (ts:List Ti) (as:Nat->List af) (R:Nat->Nat->List Int) (t:af) (u:Ti):vs=[.ref a.q,.ref t]->BK K C A->LV C A H a n T ts as R->n<=200->T<=10->(∀ j,2^(j+1)<=n->j<=T)->Lv n T ts R->Jn ts R->u∈ts->H t=some (.tup [.int u.x,.int u.y])->ts.length<99->rX Pt H->(∀ (q:af) (us:List Tt) (ts':List Ti) (as':Nat->List af) (R':Nat->Nat->List Int) (H':Hp),H q=none->H' q=some (.lst (us.map pE))->(∀ v∈us,Bq H' v)->us.length<=1000->LV C A H' a n T ts' as' R'->Lv n T ts' R'->Jn ts' R'->ts'.map Ti.key=(ts.filter λv=>decide (v.key≠u.key)).map Ti.key->gF ts'=gF (ts.filter λv=>decide (v.key≠u.key))+E5 us->GR us<=1->(∀ v∈us,∀ i r,v.xs≠V.int i::r)->rX Pt H'->Fm (Pt::fp a) H H'->Q (.ref q) H')->cX K C A Pt vs H Q E
abbrev TkI (C:af) (A:CA) (Pt tr t:af) (a:AL) (n T:Nat) (u:Ti) (tf:List Ti) (H2:Hp) (Z:L2.St) (H3:Hp):Prop:=∃ (ts1:List Ti) (as1:Nat->List af) (R1:Nat->Nat->List Int) (us:List Tt) (lv:Int) (b:Bool),Z=[some (.ref a.q),some (.ref t),some (.int lv),some (.bl b),some (.ref tr)]/\LV C A H3 a n T ts1 as1 R1/\rX Pt H3/\H3 tr=some (.lst (us.map pE))/\(∀ v∈us,(Bq H3 v/\v.q∉tr::Pt::fp a)/\∀ i r,v.xs≠V.int i::r)/\Fm (tr::Pt::fp a) H2 H3/\ts1.map Ti.key=tf.map Ti.key/\gF ts1=gF tf+E5 us /\     ((b=true/\∃ kk:Nat,lv=(kk:Int)-1/\Dn n T ts1 R1 u.x u.y kk/\us.length+kk<=T+1/\GR us=0)\/b=false/\Lv n T ts1 R1/\Jn ts1 R1/\us.length<=T+1/\GR us<=1)
theorem Be:Rn (cX K C A Pt) (tm K C A (dP K C A) (dQ K C A Pt)) WG:=by
 rintro vs H Q E ⟨a,n,T,ts,as,R,t,u,rfl,ct,h,hn,hT10,hT,L,J,hu,ht,hlen,hP,k⟩;obtain ⟨l1,l2,l3⟩:=L.lt u hu;unfold tm;k_go;refine ⟨a.q,A.bz,a.dq,_,_,rfl,h.ob,ct.lc,ct.l1,Oi,?_⟩;lk;refine .inr ⟨a.d1,.int u.cC,rfl,.inr ⟨_,pk u.x u.y,t,.inl h.e1,rfl,ht,(gU (f:=λt=>V.int t.cC) L.nd hu).symm⟩,?_⟩;k_go;refine ⟨a.q,A.bz,a.dq,_,_,rfl,h.ob,ct.lc,ct.l2,Vn,?_⟩;lk;refine .inr ⟨a.d2,.bl u.wd,rfl,.inr ⟨_,pk u.x u.y,t,.inl h.e2,rfl,ht,(gU (f:=λt=>V.bl t.wd) L.nd hu).symm⟩,?_⟩;k_in;refine ⟨a.q,a.dq,_,rfl,h.ob,WO,?_⟩;lk;refine ⟨a,n,T,ts,as,R,t,u,rfl,ct,h,by lia,hu,L.nd,by lia,l2,by lia,l3,λhw i hi=>(L.ed i (by lia) _ _).mpr ⟨u,hu,hw,hi,.inl rfl⟩,ht,λas1 R1 H1 h1 eR F1=>?_⟩;have P1:=hP.fm h F1;have ht1:=F1 _ _ (h.yH ht) ht;lk;refine ⟨bK (m:=0) (au 0),λtr htr=>?_⟩;have S2:=bJ.cH (o:=.lst []) htr;have g2:(upd H1 tr (.lst [])) tr=some (.lst []):=aF;have ntf:=h1.yI htr
 have ntP:tr≠Pt:=λz=>by
  obtain ⟨ps,q⟩:=P1.tbl;rw [z,q] at htr;cases htr
 have ntL:a.L≠tr:=aR h1.ls htr;have htr0:H tr=none:=F1.free ntf htr;generalize upd H1 tr (.lst [])=H2 at S2 g2;have h2:=h1.same S2;have P2:=P1.same S2;have ht2:=S2 _ _ ht1;have F2:Fm (Pt::fp a) H H2:=(F1.trans (Fm.of S2)).tail;generalize ef:(ts.filter λv=>decide (v.key≠u.key))=tf at h1 h2 k
 have hlf:tf.length<=ts.length:=by rw [← ef];exact dM _ _
 lk;unfold qh;refine Cu (TkI C A Pt tr t a n T u tf H2) (λZ _=>match Z with|[_,_,some (.int lv),_,_]=>(lv+1).toNat|_=>0) ?_ ?_
 .refine ⟨tf,as1,R1,[],u.cC,u.wd,rfl,h2,P2,g2,(λv hv=>nomatch hv),Fm.refl,rfl,rfl,?_⟩
  cases hw:u.wd with
  | true =>
   rw [hw,if_pos rfl] at eR;subst eR
   exact .inl ⟨rfl,u.cC+1,by lia,ef▸L.drop J hu hw,by simp;lia,rfl⟩
  | false =>
   rw [hw,if_neg (by decide)] at eR;subst eR;obtain ⟨L',J'⟩:=L.aaV J hu hw;exact .inr ⟨rfl,ef▸L',ef▸J',by simp,aO _⟩
 .rintro Z H3 ⟨ts1,as1,R1,us,lv,b,rfl,h3,P3,g3,u3,F3,hk,hls,hc⟩;have fin:Lv n T ts1 R1->Jn ts1 R1->us.length<=T+1->GR us<=1->Q (.ref tr) H3:=λL' J' hl hf=>k tr us ts1 as1 R1 H3 htr0 g3 (λv hv=>(u3 v hv).1.1) (by lia) h3 L' J' hk hls hf (λv hv=>(u3 v hv).2) P3 (F2.skip F3 htr0);lk;refine ⟨_,rfl,?_⟩
  cases b with
  | false =>
   refine lI (lI ?_);lk
   rcases hc with ⟨z,_⟩|⟨_,L',J',hl,hf⟩
   .cases z
   .exact fin L' J' hl hf
  | true =>
   refine l0 ?_;lk
   obtain ⟨kk,rfl,D,hl,hf⟩:∃ kk:Nat,lv=(kk:Int)-1/\Dn n T ts1 R1 u.x u.y kk/\us.length+kk<=T+1/\GR us=0:=by
    rcases hc with ⟨_,h⟩|⟨z,_⟩
    .exact h
    .cases z
   refine sD (λc=>⟨_,Q5,?_⟩) λc=>?_
   .obtain ⟨m,rfl⟩:∃ m,kk=m+1:=⟨kk-1,by lia⟩
    rw [show ((m+1:Nat):Int)-1=(m:Int) by lia]
    have hl1:ts1.length=tf.length:=by have:=congrArg fh hk;simpa using this
    lk;refine ⟨.inl ⟨rfl,_,dm.of g3⟩,?_⟩;k_in;refine ⟨a.q,a.dq,_,rfl,h3.ob,WO,?_⟩;lk
    have nt3:t∉tr::Pt::fp a:=by
     simp only [aq,not_or];exact ⟨gJ ht2 g2,P2.ne ht2 (λ_ z=>nomatch z),h2.yH ht2⟩
    refine ⟨a,n,T,ts1,as1,R1,m,t,u.x,u.y,rfl,ct,h3,hn,hT,D,F3 _ _ nt3 ht2,by lia,P3,λts4 as4 R4 H4 v hp hq ok h4 P4 F4 hk4 hs4 hv4 hD=>?_⟩;have g4:H4 tr=some (.lst (us.map pE)):=F4 _ _ (by simp only [aq,not_or];exact ⟨ntP,ntf⟩) g3
    have nvq:v.q∉tr::Pt::fp a:=by
     simp only [aq,not_or];refine ⟨Ne.symm (aR g3 hq),λz=>?_,h3.yI hq⟩;obtain ⟨ps,q⟩:=P3.tbl;rw [z,q] at hq;cases hq
    lk;refine sC g4 (eT (m:=100) (by rw [ag];lia)) ?_
    have ne:∀ {b:af}{o:HO},H4 b=some o->(∀ xs,o≠.lst xs)->(upd H4 tr (.lst (us.map pE++[.ref v.p]))) b=some o:=λ{b o} e hno=>by rw [aG];exact e;rintro rfl;rw [g4] at e;cases e;exact hno _ rfl
    have g5:(upd H4 tr (.lst (us.map pE++[.ref v.p]))) tr=some (.lst ((us++[v]).map pE)):=by rw [aF,a9];rfl
    have h5:LV C A (upd H4 tr (.lst (us.map pE++[.ref v.p]))) a n T ts4 as4 R4:=h4.app g4 (by intro i r e;cases us<;>cases e) ntf ntL;have P5:rX Pt (upd H4 tr (.lst (us.map pE++[.ref v.p]))):=P4.keep λb o _ h2 _ _ e=>ne e h2
    have ok5:Bq (upd H4 tr (.lst (us.map pE++[.ref v.p]))) v:=⟨ne ok.1 (λ_ z=>nomatch z),by rw [aG λz=>nvq (by rw [z];exact aw)];exact ok.2⟩
    have u5:∀ w∈us,Bq (upd H4 tr (.lst (us.map pE++[.ref v.p]))) w:=λw hw=>by
     obtain ⟨⟨⟨o1,o2⟩,o3⟩,_⟩:=u3 w hw
     have n1:w.p∉Pt::fp a:=by simp only [aq,not_or];exact ⟨P3.ne o1 (λ_ z=>nomatch z),h3.yH o1⟩
     refine ⟨ne (F4 _ _ n1 o1) (λ_ z=>nomatch z),?_⟩;rw [aG λz=>o3 (by rw [z];exact aw)];exact F4 _ _ (λz=>o3 (ai _ z)) o2
    have F5:Fm (tr::Pt::fp a) H2 (upd H4 tr (.lst (us.map pE++[.ref v.p]))):=(F3.trans F4.tail).trans (Fm.upd aw);generalize upd H4 tr (.lst (us.map pE++[.ref v.p]))=H5 at g5 h5 P5 ok5 u5 F5 ne;lk;refine mO (dm.of g5) (v:=.ref v.p) ?_ ?_
    .rw [a9];exact QV _ _
    refine fU (jq.of ok5.1) (eZ (j:=3) rfl rfl) ?_;lk;refine ⟨⟨ts4,as4,R4,us++[v],(m:Int)-1,decide (v.f=.non),rfl,h5,P5,g5,λw hw=>?_,F5,hk4.trans hk,?_,?_⟩,?_⟩
    .rcases aQ.mp hw with hw|hw
     .exact ⟨⟨u5 w hw,(u3 w hw).1.2⟩,(u3 w hw).2⟩
     .rw [ay.mp hw];exact ⟨⟨ok5,nvq⟩,hv4⟩
    .rw [hs4,hls,Oj];lia
    .rcases hD with ⟨e,D4⟩|⟨e,L4,J4⟩
     .exact .inl ⟨decide_eq_true e,m,rfl,D4,by simp;lia,by rw [HS,hf,e];rfl⟩
     .exact .inr ⟨decide_eq_false e,L4,J4,by simp;lia,by rw [HS,hf,P9];split<;>decide⟩
    .show ((m:Int)-1+1).toNat<((m:Int)+1).toNat
     lia
   .lk
    have:kk=0:=by lia
    subst this;exact fin D.lv D.done (by lia) (by lia)
variable {X:EC}
def MG {sp:Sp}{dvs:List V}{E:XK}{t:TA}{Z:L2.St}(h:t Z H λvs H1=>∀ x dx,H1 x=none->H1 dx=none->dx≠x->sp (.ref x::(vs++dvs)) (upd (upd H1 dx (.own x)) x (.ins C dx [])) (λv H2=>v=.non/\Q (.ref x) H2) E):JF C sp dvs E t Z H Q:=h
def HU {Z:L2.St}(h:∀ p,H p=none->Q (.ref p) (upd H p (.dT []))):vZ Z H Q:=h
def Top.small {n:Int}{j:Nat}(h:Top n j) (hn:n<=200):j<8:=by
 rcases h.1 with z|z
 .lia
 .by_cases c:j<8
  .exact c
  .have:(2:Int)^8<=2^j:=by
    have e:(2:Int)^j=2^(j-8)*2^8:=by rw [← Int.pow_add];congr 1;lia
    have h1:(1:Int)<=2^(j-8):=Ds (j-8);rw [e];have:=Int.mul_le_mul_of_nonneg_right h1 (show (0:Int)<=2^8 by decide);lia
   have e8:(2:Int)^8=256:=by decide
   lia
def WA.out {c:af}{as:List af}{R:Nat->List Int}{o:HO}(W:WA C H p dx l n as R) (h1:p≠c) (h2:l≠c) (h3:∀ a∈as,a≠c):WA C (upd H c o) p dx l n as R :=
 ⟨by rw [aG h1];exact W.ob,by rw [aG h2];exact W.rl,W.len,λi a h=>by rw [aG (h3 a (aN h))];exact W.at_ i a h,W.ne⟩
inductive cW (K:ae) (C:af) (A:CA) (vs:List V) (H:Hp) (Q:VK) (E:XK):Prop
 | mk (q dq:af) (n:Nat):vs=[.ref q,.int n]->H q=some (.ins A.bz dq [])->BK K C A->1<=n->n<=200->(∀ (a:AL) (T:Nat) (as:Nat->List af) (H':Hp),a.q=q->a.dq=dq->LV C A H' a n T [] as (λ_ i=>[(i:Int)])->Top n T->bf q H H'->(∀ b∈a.L::fp a,H b=none)->Q .non H')->cW K C A vs H Q E
theorem uR:Rn (cW K C A) (oi K C A (fF K C) (qK K C)) qX:=by
 rintro vs H Q E ⟨q,dq,n,rfl,hq,ct,hn1,hn2,k⟩;unfold oi;k_ne;refine md (HU λd1 hd1=>?_);lk;have nq1:q≠d1:=aR hq hd1;refine ⟨q,A.bz,dq,[],rfl,by rw [aG nq1];exact hq,ct.lc,ct.l1,by decide,?_⟩;have g1:(upd (upd H d1 (.dT [])) q (.ins A.bz dq (dR "level_of" (.ref d1) []))) q=some (.ins A.bz dq [("level_of",.ref d1)]):=aF
 have e1:(upd (upd H d1 (.dT [])) q (.ins A.bz dq (dR "level_of" (.ref d1) []))) d1=some (.dT []):=by rw [aG (Ne.symm nq1)];exact aF
 have B1:bf q H (upd (upd H d1 (.dT [])) q (.ins A.bz dq (dR "level_of" (.ref d1) []))):=λb o e hb=>by rw [aG hb,aG (aR e hd1)];exact e
 generalize upd (upd H d1 (.dT [])) q (.ins A.bz dq (dR "level_of" (.ref d1) []))=H1 at g1 e1 B1;dsimp only;k_ne;refine md (HU λd2 hd2=>?_);lk;have nq2:q≠d2:=aR g1 hd2;refine ⟨q,A.bz,dq,_,rfl,by rw [aG nq2];exact g1,ct.lc,ct.l2,by show 1<1000;decide,?_⟩;rw [ee (by decide +kernel)];have g2:(upd (upd H1 d2 (.dT [])) q (.ins A.bz dq (("level_of",.ref d1)::dR "wooden" (.ref d2) []))) q=some (.ins A.bz dq [("level_of",.ref d1),("wooden",.ref d2)]):=aF
 have e2:(upd (upd H1 d2 (.dT [])) q (.ins A.bz dq (("level_of",.ref d1)::dR "wooden" (.ref d2) []))) d2=some (.dT []):=by rw [aG (Ne.symm nq2)];exact aF
 have B2:bf q H1 (upd (upd H1 d2 (.dT [])) q (.ins A.bz dq (("level_of",.ref d1)::dR "wooden" (.ref d2) []))):=λb o e hb=>by rw [aG hb,aG (aR e hd2)];exact e
 have Pz:d1≠d2:=aR e1 hd2;generalize upd (upd H1 d2 (.dT [])) q (.ins A.bz dq (("level_of",.ref d1)::dR "wooden" (.ref d2) []))=H2 at g2 e2 B2;dsimp only;k_ne;refine md (HU λd3 hd3=>?_);lk;have nq3:q≠d3:=aR g2 hd3;refine ⟨q,A.bz,dq,_,rfl,by rw [aG nq3];exact g2,ct.lc,ct.l3,by show 2<1000;decide,?_⟩;rw [ee (by decide +kernel),ee (by decide +kernel)];have g3:(upd (upd H2 d3 (.dT [])) q (.ins A.bz dq (("level_of",.ref d1)::("wooden",.ref d2)::dR "weight_of" (.ref d3) []))) q=some (.ins A.bz dq [("level_of",.ref d1),("wooden",.ref d2),("weight_of",.ref d3)]):=aF
 have e3:(upd (upd H2 d3 (.dT [])) q (.ins A.bz dq (("level_of",.ref d1)::("wooden",.ref d2)::dR "weight_of" (.ref d3) []))) d3=some (.dT []):=by rw [aG (Ne.symm nq3)];exact aF
 have B3:bf q H2 (upd (upd H2 d3 (.dT [])) q (.ins A.bz dq (("level_of",.ref d1)::("wooden",.ref d2)::dR "weight_of" (.ref d3) []))):=λb o e hb=>by rw [aG hb,aG (aR e hd3)];exact e
 have Ud:d2≠d3:=aR e2 hd3;have Tu:d1≠d3:=aR (B2 _ _ e1 (Ne.symm nq1)) hd3;generalize upd (upd H2 d3 (.dT [])) q (.ins A.bz dq (("level_of",.ref d1)::("wooden",.ref d2)::dR "weight_of" (.ref d3) []))=H3 at g3 e3 B3;have B:=(B1.trans B2).trans B3;have f1:=B3 _ _ (B2 _ _ e1 (Ne.symm nq1)) (Ne.symm nq1);have f2:=B3 _ _ e2 (Ne.symm nq2)
 have fr:∀ {b:af},b≠q->H3 b=none->H b=none:=λ{b} hb e=>by
  cases z:H b with
  | none=>rfl
  | some o=>rw [B _ _ z hb] at e;cases e
 have fr2:∀ {b:af},b≠q->H2 b=none->H b=none:=λ{b} hb e=>by
  cases z:H b with
  | none=>rfl
  | some o=>rw [(B1.trans B2) _ _ z hb] at e;cases e
 have fr1:∀ {b:af},b≠q->H1 b=none->H b=none:=λ{b} hb e=>by
  cases z:H b with
  | none=>rfl
  | some o=>rw [B1 _ _ z hb] at e;cases e
 dsimp only;refine md ?_;lk;refine ⟨n,rfl,λj hj=>?_⟩;have hj8:=hj.small (by lia);lk;refine ⟨by lia,by lia,λacc hacc=>?_⟩
 have e0:(((j:Int)+1)).toNat=j+1:=by lia
 rw [e0];refine nF (n:=j+1) (λt ys H4=>H4 acc=some (.lst ys)/\bJ H3 H4/\∃ (ws:List (af×af×af)) (as:Nat->List af),ys=ws.map (λw=>V.ref w.1)/\ws.length=t/\(ws.map (·.2.2)).Nodup/\∀ (i:Nat) w,ws[i]?=some w->WA C H4 w.1 w.2.1 w.2.2 n (as i) (λi=>[(i:Int)])/\H3 w.2.2=none/\w.1≠acc/\w.2.2≠acc/\∀ b∈as i,b≠acc) (λZ=>∃ o,Z=[o,some (.int n)]) ⟨aF,bJ.cH hacc,[],λ_=>[],rfl,rfl,pM,λi w hw=>nomatch hw⟩ ⟨_,rfl⟩ ?_ ?_ ?_ ?_
 .rintro t ys H4 ⟨h,_⟩;exact h
 .rintro ys H4 ⟨g4,S4,ws,as,rfl,hl,nd,hw⟩;refine ⟨au _,?_⟩;lk;refine ⟨q,A.bz,dq,_,rfl,S4 _ _ g3,ct.lc,ct.l4,by show 3<1000;decide,?_⟩;rw [ee (by decide +kernel),ee (by decide +kernel),ee (by decide +kernel)]
  have naq:acc≠q:=λz=>by rw [z,g3] at hacc;cases hacc
  have hb:bf q H4 (upd H4 q (.ins A.bz dq (("level_of",.ref d1)::("wooden",.ref d2)::("weight_of",.ref d3)::dR "woods" (.ref acc) []))):=bf.upd
  have nl:∀ {b:af}{o:HO},H4 b=some o->(∀ x y z,o≠.ins x y z)->b≠q:=λ{b o} e hno z=>by rw [z,S4 _ _ g3] at e;cases e;exact hno _ _ _ rfl
  refine k ⟨q,dq,d1,d2,d3,acc,ws⟩ j as _ rfl rfl ⟨aF,hb _ _ (S4 _ _ f1) (Ne.symm nq1),hb _ _ (S4 _ _ f2) (Ne.symm nq2),hb _ _ (S4 _ _ e3) (Ne.symm nq3),hb _ _ g4 naq,hl,λi w hi=>?_,λ_ _=>Wd.start n,hn1,Pz,Tu,Ud,nd,λw hm=>?_⟩ hj (λb o e hne=>hb _ _ (S4 _ _ (B _ _ e hne)) hne) λb hb=>?_
  .obtain ⟨W,_⟩:=hw i w hi;refine W.out (λz=>?_) (nl W.rl (λ_ _ _ z=>nomatch z)) λa ha=>?_
   .have:=W.ob;rw [z,S4 _ _ g3] at this;cases this
   .obtain ⟨i,hi⟩:=bC.mp ha;exact nl (W.at_ i a hi) (λ_ _ _ z=>nomatch z)
  .obtain ⟨i,hi⟩:=bC.mp hm;exact Ne.symm (hw i w hi).2.2.2.1
  .simp only [fp,aq,bq] at hb
   rcases hb with rfl|rfl|rfl|rfl|⟨w,hm,rfl⟩
   .exact fr naq hacc
   .exact hd1
   .exact fr1 (Ne.symm nq2) hd2
   .exact fr2 (Ne.symm nq3) hd3
   .obtain ⟨i,hi⟩:=bC.mp hm;obtain ⟨W,h3,_⟩:=hw i w hi;exact fr (nl W.rl (λ_ _ _ z=>nomatch z)) h3
 .rintro t ys H4 ht _;exact ht
 .rintro t ys σ' H4 x H5 ht ⟨g4,S4,ws,as,rfl,hl,nd,hw⟩ ⟨o,rfl⟩ ⟨eH,ex⟩;subst eH ex;lk;refine l0 ?_;refine MG ?_;lk;intro xw dxw hx hdx hne
  have T0:bJ H5 (upd (upd H5 dxw (.own xw)) xw (.ins C dxw [])):=λb o e=>by rw [aG (aR e hx),aG (aR e hdx)];exact e
  refine ⟨xw,dxw,n,rfl,aF,ct.w,by lia,λl bs H6 W hl6 B6=>⟨rfl,?_⟩⟩;have T:bJ H5 H6:=λb o e=>B6 _ _ (T0 _ _ e) (aR e hx);have hl5:=T0.free hl6;have nxa:xw≠acc:=Ne.symm (aR g4 hx);have nla:l≠acc:=Ne.symm (aR g4 hl5)
  have naa:∀ a∈bs,a≠acc:=λa ha z=>by
   obtain ⟨i,hi⟩:=bC.mp ha;have h1:=W.at_ i a hi;rw [z,T _ _ g4] at h1;cases ws<;>cases h1
  have SA:bJ H3 (upd H6 acc (.lst (ws.map (λw=>V.ref w.1)++[.ref xw]))):=λb o e=>by rw [aG (aR e hacc)];exact T _ _ (S4 _ _ e)
  refine ⟨T _ _ g4,eT (m:=100) (by rw [ag];lia),lh.mk' ht ⟨_,rfl⟩ ⟨aF,SA,ws++[(xw,dxw,l)],(λi=>if i=t then bs else as i),by rw [a9];rfl,by rw [bb,hl];rfl,?_,λi w hi=>?_⟩⟩
  .rw [a9,gH];refine ⟨nd,by simp,λp hp q hq e=>?_⟩;obtain ⟨w,hm,rfl⟩:=bq.mp hp;obtain ⟨i,hi⟩:=bC.mp hm;have:=(hw i w hi).1.rl;rw [pO,ay] at hq;rw [e.trans hq,hl5] at this;cases this
  .by_cases c:i=t
   .subst c;rw [← hl,dW (au _),Nat.sub_self] at hi;cases hi;dsimp only;rw [if_pos rfl];exact ⟨W.out nxa nla naa,S4.free hl5,nxa,nla,naa⟩
   .have hi':i<t:=by
     have:=(aC.mp hi).1;rw [bb,hl] at this;simp at this;lia
    rw [fO (by lia)] at hi;dsimp only;rw [if_neg c];obtain ⟨W',m1,m2,m3,m4⟩:=hw i w hi;exact ⟨(W'.same T).out m2 m3 m4,m1,m2,m3,m4⟩
variable {X:EC}
def x9 {ta tv:TE}{rd:V->V->Hp->VK->Prop}{f:bB}{D:rN}{Z:L2.St}(h:ta Z H λx H1=>∃ a C dx fs v,x=.ref a/\H1 a=some (.ins C dx fs)/\EA K C/\dI K C f/\fs.lookup f=some v /\
 tv Z H1 λy H2=>rd v y H2 λz H3=>∃ dx' fs',H3 a=some (.ins C dx' fs')/\fs'.length<1000/\D.nx Z (upd H3 a (.ins C dx' (dR f z fs')))):nB K ta tv rd f D Z H:=h
def fK (n:Nat) (q w:af) (c1 c2 c3 c4:Int):List (bB×V):=dR "lost" (.int c4) (dR "risen" (.int c3) (dR "looked" (.int c2) (dR "came" (.int c1) (dR "wood" (.ref w) (dR "levels" (.ref q) (dR "n" (.int n) []))))))
section
variable {q w:af}{c1 c2 c3 c4 c:Int}
def SI {f:bB}{v:V}:dR f v []=[(f,v)]:=rfl
def lS:fK n q w c1 c2 c3 c4=([("n",.int n),("levels",.ref q),("wood",.ref w),("came",.int c1),("looked",.int c2),("risen",.int c3),("lost",.int c4)]:List (bB×V)):=by
 unfold fK
 repeat (first|rw [SI]|rw [ee (by decide +kernel)])
def Zg:(fK n q w c1 c2 c3 c4).lookup ("n":bB)=some (.int n):=by rw [lS];exact vA
def Vo:(fK n q w c1 c2 c3 c4).lookup ("levels":bB)=some (.ref q):=by rw [lS,fI (by decide +kernel)];exact vA
def fK4:(fK n q w c1 c2 c3 c4).lookup ("came":bB)=some (.int c1):=by rw [lS,fI (by decide +kernel),fI (by decide +kernel),fI (by decide +kernel)];exact vA
def fK5:(fK n q w c1 c2 c3 c4).lookup ("looked":bB)=some (.int c2):=by rw [lS,fI (by decide +kernel),fI (by decide +kernel),fI (by decide +kernel),fI (by decide +kernel)];exact vA
def fK6:(fK n q w c1 c2 c3 c4).lookup ("risen":bB)=some (.int c3):=by rw [lS,fI (by decide +kernel),fI (by decide +kernel),fI (by decide +kernel),fI (by decide +kernel),fI (by decide +kernel)];exact vA
def fK7:(fK n q w c1 c2 c3 c4).lookup ("lost":bB)=some (.int c4):=by rw [lS,fI (by decide +kernel),fI (by decide +kernel),fI (by decide +kernel),fI (by decide +kernel),fI (by decide +kernel),fI (by decide +kernel)];exact vA
def Ey {m:bB}(h1:¬ m="n":=by decide +kernel) (h2:¬ m="levels":=by decide +kernel) (h3:¬ m="wood":=by decide +kernel) (h4:¬ m="came":=by decide +kernel) (h5:¬ m="looked":=by decide +kernel) (h6:¬ m="risen":=by decide +kernel) (h7:¬ m="lost":=by decide +kernel):(fK n q w c1 c2 c3 c4).lookup m=none:=by rw [lS,fI h1,fI h2,fI h3,fI h4,fI h5,fI h6,fI h7];rfl
def fKl:(fK n q w c1 c2 c3 c4).length<1000:=by rw [lS];show 7<1000;decide
def fKp4:dR "came" (.int c) (fK n q w c1 c2 c3 c4)=fK n q w c c2 c3 c4:=by rw [lS,lS,ee (by decide +kernel),ee (by decide +kernel),ee (by decide +kernel),x8]
def fKp5:dR "looked" (.int c) (fK n q w c1 c2 c3 c4)=fK n q w c1 c c3 c4:=by rw [lS,lS,ee (by decide +kernel),ee (by decide +kernel),ee (by decide +kernel),ee (by decide +kernel),x8]
def fKp6:dR "risen" (.int c) (fK n q w c1 c2 c3 c4)=fK n q w c1 c2 c c4:=by rw [lS,lS,ee (by decide +kernel),ee (by decide +kernel),ee (by decide +kernel),ee (by decide +kernel),ee (by decide +kernel),x8]
def fKp7:dR "lost" (.int c) (fK n q w c1 c2 c3 c4)=fK n q w c1 c2 c3 c:=by rw [lS,lS,ee (by decide +kernel),ee (by decide +kernel),ee (by decide +kernel),ee (by decide +kernel),ee (by decide +kernel),ee (by decide +kernel),x8]
end
def Top.lo (h:Top n T):2^(T+1)<=n\/T=0:=by
 rcases h.1 with z|z
 .exact .inr z
 .left
  have:((2^(T+1):Nat):Int)=2*(2:Int)^T:=by rw [Qd,Int.natCast_mul,Int.natCast_pow];exact Int.mul_comm _ _
  lia
def Top.hi (h:Top n T):∀ j,2^(j+1)<=n->j<=T:=λj hj=>by
 have h2:=h.2
 by_cases c:j<=T
 .exact c
 .have h3:2^(T+2)<=2^(j+1):=yQ (by decide) (by lia)
  have:((2^(T+2):Nat):Int)=4*(2:Int)^T:=by push_cast;rw [mZ,mZ];lia
  lia
def LV.inst {c d:af}{fs:List (bB×V)}{o:HO}(h:LV C A H a n T ts as R) (hp:H p=some (.ins c d fs)) (h1:fs.lookup ("rows":bB)=none) (h2:fs.lookup ("woods":bB)=none):LV C A (upd H p o) a n T ts as R :=
 h.keep (X:=[p]) (Fm.upd aw) (λx f e _ hx hm=>by
  rw [ay.mp hm] at e hx
  rcases hx with z|⟨w,hw,z⟩
  .have:=h.ob;rw [← z,hp] at this;cases this;rw [WN] at h2;cases h2
  .obtain ⟨i,_,hi⟩:=h.at hw;have:=(h.wa i w hi).ob;rw [← z,hp] at this;cases this
   rw [iO] at h1;cases h1) (λb hb hm=>h.outI hp (ay.mp hm▸hb)) (λhm=>by
   have:=h.ls
   rw [ay.mp hm,hp] at this;cases this) λb r _ e hm=>by rw [ay.mp hm,hp] at e;cases e
structure KP (C:af) (A:CA) (H:Hp) (p dx:af) (a:AL) (n T:Nat) (ts:List Ti) (as:Nat->List af) (R:Nat->Nat->List Int):Prop where
 ob:∃ (w:af×af×af) (c1 c2 c3 c4:Int),a.ws[0]?=some w/\H p=some (.ins A.Keeper dx (fK n a.q w.1 c1 c2 c3 c4))
 lv:LV C A H a n T ts as R
 iv:Lv n T ts R
 jn:Jn ts R
 tp:Top n T
def KP.same (h:KP C A H p dx a n T ts as R) (S:bJ H H'):KP C A H' p dx a n T ts as R:=by
 obtain ⟨w,c1,c2,c3,c4,hw,hp⟩:=h.ob;exact ⟨⟨w,c1,c2,c3,c4,hw,S _ _ hp⟩,h.lv.same S,h.iv,h.jn,h.tp⟩
def Ac (H:Hp) (p:af) (c1 c2 c3 c4:Int):Prop:=∃ (c dx q w:af) (n:Nat),H p=some (.ins c dx (fK n q w c1 c2 c3 c4))
def Ac.one {c q w:af}{c1 c2 c3 c4 d1 d2 d3 d4:Int}(h:Ac H p c1 c2 c3 c4) (hp:H p=some (.ins c dx (fK n q w d1 d2 d3 d4))):c1=d1/\c2=d2/\c3=d3/\c4=d4:=by
 obtain ⟨_,_,_,_,_,e⟩:=h;rw [hp] at e
 injection e with e
 injection e with _ _ e
 rw [lS,lS] at e;simp only [Qq,wV,V.int.injEq,true_and,and_true] at e;exact ⟨e.2.2.2.1.symm,e.2.2.2.2.1.symm,e.2.2.2.2.2.1.symm,e.2.2.2.2.2.2.symm⟩
structure KS (C:af) (A:CA) (a:AL) (n T:Nat) (as:Nat->List af) (p dx:af) (H0:Hp) (m:Nat) (fs:List (bB×V)) (H:Hp):Prop where
 g:H p=some (.ins A.Keeper dx fs)
 lv:LV C A H a n T [] as (λ_ i=>[(i:Int)])
 r:fs.lookup ("rows":bB)=none
 w:fs.lookup ("woods":bB)=none
 len:fs.length<=m
 b:bf p H0 H
theorem Dw (f:bB) (v:V):∀ fs:List (bB×V),(dR f v fs).length<=fs.length+1
 | []=>au _
 | (g,x)::r=>by
  by_cases c:g=f
  .subst c;rw [x8];exact jv _
  .rw [ee c];exact ug (Dw f v r)
def KS.put {H0:Hp}{m:Nat}{fs:List (bB×V)}(s:KS C A a n T as p dx H0 m fs H) (f:bB) (v:V) (h1:¬ ("rows":bB)=f:=by decide +kernel) (h2:¬ ("woods":bB)=f:=by decide +kernel):KS C A a n T as p dx H0 (m+1) (dR f v fs) (upd H p (.ins A.Keeper dx (dR f v fs))) :=
 ⟨aF,s.lv.inst s.g s.r s.w,by rw [ft,if_neg h1];exact s.r,by rw [ft,if_neg h2];exact s.w,br (Dw f v fs) (ug s.len),s.b.trans bf.upd⟩
inductive bU (K:ae) (C:af) (A:CA) (vs:List V) (H:Hp) (Q:VK) (E:XK):Prop
 | mk (p dx:af) (n:Nat):vs=[.ref p,.int n]->H p=some (.ins A.Keeper dx [])->BK K C A->1<=n->n<=200->(∀ (a:AL) (T:Nat) (as:Nat->List af) (H':Hp),KP C A H' p dx a n T [] as (λ_ i=>[(i:Int)])->bf p H H'->(∀ b∈a.L::fp a,H b=none)->Ac H' p 0 0 0 0->Q .non H')->bU K C A vs H Q E
theorem yb:Rn (bU K C A) (qi K C A (cW K C A) (fW K C)) qX:=by
 rintro vs H Q E ⟨p,dx,n,rfl,hp,ct,hn1,hn2,k⟩;unfold qi;lk;refine ⟨n,rfl,hn1,hn2,?_⟩;refine ⟨_,rfl,?_⟩;rw [if_neg (by simp)];lk;refine md ?_;lk;refine ⟨p,A.Keeper,dx,[],rfl,hp,ct.kc,ct.k1,by decide,?_⟩;have g1:(upd H p (.ins A.Keeper dx (dR "n" (.int n) []))) p=some (.ins A.Keeper dx (dR "n" (.int n) [])):=aF;have B1:bf p H (upd H p (.ins A.Keeper dx (dR "n" (.int n) []))):=bf.upd;generalize upd H p (.ins A.Keeper dx (dR "n" (.int n) []))=H1 at g1 B1;dsimp only;k_ne;refine md (MG ?_);lk;intro q dq hq hdq hne
 have T0:bJ H1 (upd (upd H1 dq (.own q)) q (.ins A.bz dq [])):=λb o e=>by rw [aG (aR e hq),aG (aR e hdq)];exact e
 refine ⟨q,dq,n,rfl,aF,ct,hn1,hn2,λa T as H2 ea ed L tp B2 fr=>⟨rfl,?_⟩⟩;subst ea ed;have T1:bJ H1 H2:=λb o e=>B2 _ _ (T0 _ _ e) (aR e hq);have g2:=T1 _ _ g1
 have s2:KS C A a n T as p dx H 1 (dR "n" (.int n) []) H2:=⟨g2,L,by rw [ft,if_neg (by decide +kernel)];rfl,by rw [ft,if_neg (by decide +kernel)];rfl,Dw _ _ _,λb o e hb=>T1 _ _ (B1 _ _ e hb)⟩
 have frH:∀ b∈a.L::fp a,H b=none:=λb hb=>by
  have:=fr b hb
  cases z:H b with
  | none=>rfl
  | some o =>
   by_cases c:b=p
   .have e:=T0 _ _ g1;rw [← c,this] at e;cases e
   .rw [T0 _ _ (B1 _ _ z c)] at this;cases this
 obtain ⟨w,hw,hwm⟩:=L.get (aO _);lk;refine ⟨p,A.Keeper,dx,_,rfl,s2.g,ct.kc,ct.k2,bw s2.len (by decide),?_⟩;have s3:=s2.put "levels" (.ref a.q);generalize upd H2 p (.ins A.Keeper dx (dR "levels" (.ref a.q) (dR "n" (.int n) [])))=H3 at s3;dsimp only;k_ne;refine md ?_;lk;refine kI ?_;refine kI ?_;lk;refine ⟨p,A.Keeper,dx,_,_,rfl,s3.g,ct.kc,ct.k2,by rw [ft,if_pos rfl],?_⟩;refine ⟨a.q,A.bz,a.dq,_,_,rfl,s3.lv.ob,ct.lc,ct.l4,WN,?_⟩;lk;refine mO (dm.of s3.lv.ls) (eZ (j:=0) rfl (by rw [aB,hw];rfl)) ?_;lk;refine ⟨p,A.Keeper,dx,_,rfl,s3.g,ct.kc,ct.k3,bw s3.len (by decide),?_⟩;have s4:=s3.put "wood" (.ref w.1);generalize e4:dR ("wood":bB) (V.ref w.1) (dR "levels" (.ref a.q) (dR "n" (.int n) []))=f4 at s4;generalize upd H3 p (.ins A.Keeper dx f4)=H4 at s4;dsimp only;k_ne;refine md ?_;lk;refine ⟨p,A.Keeper,dx,_,rfl,s4.g,ct.kc,ct.k4,bw s4.len (by decide),?_⟩;have s5:=s4.put "came" (.int 0);generalize e5:dR ("came":bB) (V.int 0) f4=f5 at s5;generalize upd H4 p (.ins A.Keeper dx f5)=H5 at s5;dsimp only;k_ne;refine md ?_;lk;refine ⟨p,A.Keeper,dx,_,rfl,s5.g,ct.kc,ct.k5,bw s5.len (by decide),?_⟩;have s6:=s5.put "looked" (.int 0);generalize e6:dR ("looked":bB) (V.int 0) f5=f6 at s6;generalize upd H5 p (.ins A.Keeper dx f6)=H6 at s6;dsimp only;k_ne;refine md ?_;lk;refine ⟨p,A.Keeper,dx,_,rfl,s6.g,ct.kc,ct.k6,bw s6.len (by decide),?_⟩;have s7:=s6.put "risen" (.int 0);generalize e7:dR ("risen":bB) (V.int 0) f6=f7 at s7;generalize upd H6 p (.ins A.Keeper dx f7)=H7 at s7;dsimp only;refine md ?_;lk;refine ⟨p,A.Keeper,dx,_,rfl,s7.g,ct.kc,ct.k7,bw s7.len (by decide),?_⟩;have s8:=s7.put "lost" (.int 0);subst e4 e5 e6 e7;exact k a T as _ ⟨⟨w,0,0,0,0,hw,s8.g⟩,s8.lv,Lv.start n T tp.lo,(λt ht=>nomatch ht),tp⟩ s8.b frH ⟨_,_,_,_,_,s8.g⟩
variable {X:EC}
def KP.p0 (h:KP C A H p dx a n T ts as R):∃ fs,H p=some (.ins A.Keeper dx fs):=by
 obtain ⟨w,c1,c2,c3,c4,_,hp⟩:=h.ob;exact ⟨_,hp⟩
inductive dB (K:ae) (C:af) (A:CA) (vs:List V) (H:Hp) (Q:VK) (E:XK):Prop
 | mk (p dx:af) (a:AL) (n T:Nat) (ts:List Ti) (as:Nat->List af) (R:Nat->Nat->List Int) (t:af) (x y:Nat):vs=[.ref p,.ref t,.int 0]->BK K C A->KP C A H p dx a n T ts as R->n<=200->x<y->y<n->H t=some (.tup [.int x,.int y])->((x:Int),(y:Int))∉ts.map Ti.key->ts.length<99->(∀ b as' R' H',b=!decide ((y:Int)∈R 0 x)->KP C A H' p dx a n T (ts++[⟨x,y,0,b⟩]) as' R'->Fm (p::fp a) H H'->(∀ c1 c2 c3 c4,Ac H p c1 c2 c3 c4->Ac H' p (c1+1) c2 c3 c4)->Q (.bl b) H')->dB K C A vs H Q E
theorem zx:Rn (dB K C A) (rB K C A (ka K C A)) Hz:=by
 rintro vs H Q E ⟨p,dx,a,n,T,ts,as,R,t,x,y,rfl,ct,h,hn,hxy,hy,ht,hk,hl,k⟩;obtain ⟨w,c1,c2,c3,c4,hw,hp⟩:=h.ob;unfold rB;lk;refine x9 ?_;lk;refine ⟨p,A.Keeper,dx,_,_,rfl,hp,ct.kc,ct.k4,fK4,?_⟩;lk;refine ⟨c1,1,rfl,rfl,dx,_,hp,fKl,?_⟩;rw [fKp4];have L1:=h.lv.inst (o:=.ins A.Keeper dx (fK n a.q w.1 (c1+1) c2 c3 c4)) hp Ey Ey;have p1:(upd H p (.ins A.Keeper dx (fK n a.q w.1 (c1+1) c2 c3 c4))) p=_:=aF;have ht1:(upd H p (.ins A.Keeper dx (fK n a.q w.1 (c1+1) c2 c3 c4))) t=_:=(aG (gJ ht hp)).trans ht;have F1:Fm (p::fp a) H (upd H p (.ins A.Keeper dx (fK n a.q w.1 (c1+1) c2 c3 c4))):=Fm.upd aw;generalize upd H p (.ins A.Keeper dx (fK n a.q w.1 (c1+1) c2 c3 c4))=H1 at L1 p1 ht1 F1;dsimp only;lk;refine zf ?_;refine kI ?_;lk;refine ⟨p,A.Keeper,dx,_,_,rfl,p1,ct.kc,ct.k2,Vo,?_⟩;refine ⟨a.q,a.dq,_,rfl,L1.ob,WO,?_⟩;lk;refine ⟨a,n,T,ts,as,R,t,x,y,rfl,ct,L1,hn,by lia,hy,ht1,h.iv.nd,hk,hl,λb ts' as' R' H2 L2 hc F2=>?_⟩
 have hkk:(ts++[(⟨x,y,0,false⟩:Ti)]).map Ti.key=ts.map Ti.key++[((x:Int),(y:Int))]:=by rw [a9];rfl
 have V:=h.iv.put hxy hy hk;have hu:(⟨x,y,0,false⟩:Ti)∈ts++[⟨x,y,0,false⟩]:=bO _ aw
 have ob:∃ (w:af×af×af) (c1 c2 c3 c4:Int),a.ws[0]?=some w/\H2 p=some (.ins A.Keeper dx (fK n a.q w.1 c1 c2 c3 c4)):=⟨w,_,_,_,_,hw,F2 _ _ (L1.outI p1) p1⟩
 have ac:∀ d1 d2 d3 d4,Ac H p d1 d2 d3 d4->Ac H2 p (d1+1) d2 d3 d4:=λd1 d2 d3 d4 q=>by
  obtain ⟨rfl,rfl,rfl,rfl⟩:=q.one hp;exact ⟨_,_,_,_,_,F2 _ _ (L1.outI p1) p1⟩
 rcases hc with ⟨hj,rfl,rfl,rfl⟩|⟨hj,rfl,rfl,rfl⟩
 .refine k _ as' _ H2 (by rw [decide_eq_true hj];rfl) ⟨ob,L2,V,λu hu=>?_,h.tp⟩ (F1.trans F2.tail) ac
  rcases aQ.mp hu with q|q
  .exact h.jn u q
  .rw [ay.mp q];exact hj
 .have hap:∀ i,i<=(⟨x,y,0,false⟩:Ti).cC->(((⟨x,y,0,false⟩:Ti).y:Nat):Int)∉R i (⟨x,y,0,false⟩:Ti).x:=λi hi=>by rw [T9.mp hi];exact hj
  have W0:=h.iv.wd 0 (aO _)
  have V':=V.adopt hu rfl hap λi hi=>by
   have e:=T9.mp hi;subst e
   have l:=((W0.lk (a:=x) (b:=y) (by lia) hy hj).len (i:=x) (by lia))
   rw [(W0.GW (x:=x) (by lia) hy hj (.inl (W0.me x (by lia)))).2] at l
   show ((R 0 x).length+(R 0 y).length+2)*2^0<=2*n
   lia
  have es:gE (ts++[(⟨x,y,0,false⟩:Ti)]) ((x:Int),(y:Int)) Ti.vU=ts++[⟨x,y,0,true⟩]:=by
   unfold gE;rw [a9]
   congr 1
   .exact (kN λt ht=>if_neg λe=>hk (by rw [← e];exact bg ht)).trans (List.map_id _)
   .show [if ((x:Int),(y:Int))=((x:Int),(y:Int)) then _ else _]=_
    rw [if_pos rfl];rfl
  refine k _ as' _ H2 (by rw [decide_eq_false hj];rfl) ⟨ob,es▸L2,es▸V',λu hu'=>?_,h.tp⟩ (F1.trans F2.tail) ac;rw [← es] at hu'
  rcases (k9 (f:=Ti.vU) V.nd hu u).mp hu' with rfl|⟨q,_⟩
  .have e:LC R 0 x y 0=lk (R 0) x y:=if_pos (au _)
   show (y:Int)∈LC R 0 x y 0 x
   rw [e];exact ((W0.GW (x:=x) (by lia) hy hj (.inl (W0.me x (by lia)))).1 _).mpr (.inr (W0.me y hy))
  .rcases aQ.mp q with q|q
   .obtain ⟨q1,q2,q3⟩:=h.iv.lt u q;exact V.Lp hu hap q3 (by lia) _ (h.jn u q)
   .rename_i hne
    exact absurd (by rw [ay.mp q]) hne
inductive eG (K:ae) (C:af) (A:CA) (vs:List V) (H:Hp) (Q:VK) (E:XK):Prop
 | mk (p dx:af) (a:AL) (n T:Nat) (ts:List Ti) (as:Nat->List af) (R:Nat->Nat->List Int) (x y:Nat):vs=[.ref p,.int x,.int y]->BK K C A->KP C A H p dx a n T ts as R->n<=200->x<n->y<n->x≠y->(((min x y:Nat):Int),((max x y:Nat):Int))∉ts.map Ti.key->ts.length<99->(∀ b as' R' H',b=!decide (((max x y:Nat):Int)∈R 0 (min x y))->KP C A H' p dx a n T (ts++[⟨min x y,max x y,0,b⟩]) as' R'->Fm (p::fp a) H H'->(∀ c1 c2 c3 c4,Ac H p c1 c2 c3 c4->Ac H' p (c1+1) c2 c3 c4)->Q (.bl b) H')->eG K C A vs H Q E
def Dx:Rn (eG K C A) (vz K C A (dB K C A) (oo K C)) pV:=by
 rintro vs H Q E ⟨p,dx,a,n,T,ts,as,R,x,y,rfl,ct,h,hn,hx,hy,hxy,hk,hl,k⟩;obtain ⟨w,c1,c2,c3,c4,hw,hp⟩:=h.ob;unfold vz;k_in;refine ⟨p,dx,_,rfl,hp,Ey,?_⟩;k_go;refine ⟨p,A.Keeper,dx,_,_,rfl,hp,ct.kc,ct.k1,Zg,?_⟩;lk;refine kI ?_;refine kI ?_;lk;refine ⟨p,A.Keeper,dx,_,_,rfl,hp,ct.kc,ct.k2,Vo,?_⟩;refine ⟨a.q,A.bz,a.dq,_,_,rfl,h.lv.ob,ct.lc,ct.l1,Oi,?_⟩;lk;refine ⟨n,x,y,a.d1,kl ts,rfl,hx,hy,hxy,h.lv.e1,uu hk,λt ht=>?_⟩;generalize eu_:upd H t (.tup [.int (min x y:Nat),.int (max x y:Nat)])=H1;obtain ⟨S1,g1⟩:=kP eu_ ht;lk;exact ⟨p,dx,a,n,T,ts,as,R,t,min x y,max x y,rfl,ct,h.same S1,hn,by lia,by lia,g1,hk,hl,λb as' R' H' hb h' F' ac=>k b as' R' H' hb h' ((Fm.of S1).trans F') λc1 c2 c3 c4 ⟨e1,e2,e3,e4,e5,q⟩=>ac _ _ _ _ ⟨e1,e2,e3,e4,e5,S1 _ _ q⟩⟩
inductive mS (K:ae) (C:af) (A:CA) (Pt:af) (vs:List V) (H:Hp) (Q:VK) (E:XK):Prop
 | mk (p dx:af) (a:AL) (n T:Nat) (ts:List Ti) (as:Nat->List af) (R:Nat->Nat->List Int) (x y:Nat):vs=[.ref p,.int x,.int y]->BK K C A->KP C A H p dx a n T ts as R->n<=200->x<n->y<n->x≠y->(((min x y:Nat):Int),((max x y:Nat):Int))∈ts.map Ti.key->ts.length<99->rX Pt H->(∀ (q:af) (us:List Tt) (u:Ti) ts' as' R' H',u∈ts->u.key=(((min x y:Nat):Int),((max x y:Nat):Int))->H' q=some (.lst (us.map pE))->(∀ v∈us,Bq H' v/\∀ i r,v.xs≠V.int i::r)->us.length<=1000->GR us<=1->gF ts'+u.cC=gF ts+E5 us->(∀ c1 c2 c3 c4,Ac H p c1 c2 c3 c4->Ac H' p c1 (c2+(E5 us+GR us:Nat)) (c3+(E5 us:Nat)) (c4+(T-u.cC)))->KP C A H' p dx a n T ts' as' R'->ts'.map Ti.key=(ts.map Ti.key).filter (λk=>decide (k≠(((min x y:Nat):Int),((max x y:Nat):Int))))->rX Pt H'->Fm (p::Pt::fp a) H H'->Q (.ref q) H')->mS K C A Pt vs H Q E
theorem HV:Rn (mS K C A Pt) (AE K C A (eK K C) (eD K C) (cX K C A Pt) (gQ K C) (fk K C) (ck K C A)) N6:=by
 rintro vs H Q E ⟨p,dx,a,n,T,ts,as,R,x,y,rfl,ct,h,hn,hx,hy,hxy,hk,hl,hP,k⟩;obtain ⟨w,c1,c2,c3,c4,hw,hp⟩:=h.ob;obtain ⟨u,hu,eu⟩:=bq.mp hk;obtain ⟨eu1,eu2⟩:=cJ eu
 have eu1:u.x=min x y:=by lia
 have eu2:u.y=max x y:=by lia
 have nPp:p≠Pt:=hP.ne hp (λ_ z=>nomatch z);unfold AE;k_go;refine ⟨p,A.Keeper,dx,_,_,rfl,hp,ct.kc,ct.k1,Zg,?_⟩;lk;refine kI ?_;refine kI ?_;lk;refine ⟨p,A.Keeper,dx,_,_,rfl,hp,ct.kc,ct.k2,Vo,?_⟩;refine ⟨a.q,A.bz,a.dq,_,_,rfl,h.lv.ob,ct.lc,ct.l1,Oi,?_⟩;lk;refine ⟨n,x,y,a.d1,kl ts,rfl,hx,hy,hxy,h.lv.e1,by rw [← eu1,← eu2,gU h.iv.nd hu];rfl,λt ht=>?_⟩;rw [← eu1,← eu2];generalize eu_:upd H t (.tup [.int (u.x:Nat),.int (u.y:Nat)])=H1;obtain ⟨S1,g1⟩:=kP eu_ ht;have L1:=h.lv.same S1;have p1:=S1 _ _ hp;lk;refine x9 ?_;lk;refine ⟨p,A.Keeper,dx,_,_,rfl,p1,ct.kc,ct.k7,fK7,?_⟩;k_go;refine ⟨p,A.Keeper,dx,_,_,rfl,p1,ct.kc,ct.k1,Zg,?_⟩;lk;refine zf ?_;refine kI ?_;lk;refine ⟨p,A.Keeper,dx,_,_,rfl,p1,ct.kc,ct.k2,Vo,?_⟩;refine ⟨a.q,a.dq,_,rfl,L1.ob,WO,?_⟩;lk;refine ⟨a.q,a.dq,a.d1,a.d2,a.d3,a.L,t,kl ts,kw ts,u.x,u.y,_,_,rfl,ct,L1.ob,.inl L1.e1,.inl L1.e2,g1,gU (f:=λt=>V.int t.cC) h.iv.nd hu,gU (f:=λt=>V.bl t.wd) h.iv.nd hu,λr hr=>?_⟩;generalize eu_:upd H1 r (.tup [.int u.x,.int u.y,.int u.cC,.bl u.wd])=H2;obtain ⟨S2,g2⟩:=kP eu_ hr;lk;refine ⟨bK (m:=1) (au 1),λl hl3=>?_⟩;generalize eu_:upd H2 l (.lst [.ref r])=H3;obtain ⟨S3,g3⟩:=kP eu_ hl3;lk;refine ⟨n,T,l,[(u,r)],rfl,h.tp,g3,λv hv=>by rw [ay.mp hv];exact S3 _ _ g2,by simp,λH4 S4=>?_⟩
 have ec:([(u,r)].map λv:Ti×af=>(T:Int)-v.1.cC).sum=(T:Int)-u.cC:=by simp
 rw [ec];generalize hc:(T:Int)-u.cC=c;have S14:bJ H H4:=((S1.trans S2).trans S3).trans S4;have p4:=S14 _ _ hp;have L4:=h.lv.same S14;have t4:=S4 _ _ (S3 _ _ (S2 _ _ g1));refine ⟨c4,c,rfl,rfl,dx,_,p4,fKl,?_⟩;rw [fKp7];have L5:=L4.inst (o:=.ins A.Keeper dx (fK n a.q w.1 c1 c2 c3 (c4+c))) p4 Ey Ey;have p5:(upd H4 p (.ins A.Keeper dx (fK n a.q w.1 c1 c2 c3 (c4+c)))) p=_:=aF;have t5:(upd H4 p (.ins A.Keeper dx (fK n a.q w.1 c1 c2 c3 (c4+c)))) t=_:=(aG (gJ t4 p4)).trans t4
 have P5:rX Pt (upd H4 p (.ins A.Keeper dx (fK n a.q w.1 c1 c2 c3 (c4+c)))):=(hP.same S14).keep λb o _ _ h3 _ e=>by rw [aG];exact e;rintro rfl;rw [p4] at e;cases e;exact h3 _ _ _ rfl
 have F5:Fm (p::Pt::fp a) H (upd H4 p (.ins A.Keeper dx (fK n a.q w.1 c1 c2 c3 (c4+c)))):=(Fm.of S14).trans (Fm.upd aw);generalize upd H4 p (.ins A.Keeper dx (fK n a.q w.1 c1 c2 c3 (c4+c)))=H5 at L5 p5 t5 P5 F5;dsimp only;lk;refine zf ?_;refine kI ?_;lk;refine ⟨p,A.Keeper,dx,_,_,rfl,p5,ct.kc,ct.k2,Vo,?_⟩;refine ⟨a.q,a.dq,_,rfl,L5.ob,WO,?_⟩;lk;have hT8:=h.tp.small (by lia);refine ⟨a,n,T,ts,as,R,t,u,rfl,ct,L5,hn,by lia,h.tp.hi,h.iv,h.jn,hu,t5,hl,P5,λq us ts' as' R' H6 hq gq oks hlu L6 V6 J6 hk6 hs6 hf6 hv6 P6 F6=>?_⟩;have p6:=F6 _ _ (λz=>(aq.mp z).elim nPp (L5.outI p5)) p5;lk;refine x9 ?_;lk;refine ⟨p,A.Keeper,dx,_,_,rfl,p6,ct.kc,ct.k5,fK5,?_⟩;lk;refine ⟨q,us,rfl,gq,oks,hlu,hf6,λH7 S7=>?_⟩;generalize hc':((E5 us+GR us:Nat):Int)=c';have p7:=S7 _ _ p6;refine ⟨c2,c',rfl,rfl,dx,_,p7,fKl,?_⟩;rw [fKp5];have L8:=(L6.same S7).inst (o:=.ins A.Keeper dx (fK n a.q w.1 c1 (c2+c') c3 (c4+c))) p7 Ey Ey;have p8:(upd H7 p (.ins A.Keeper dx (fK n a.q w.1 c1 (c2+c') c3 (c4+c)))) p=_:=aF
 have n8:∀ {b:af}{o:HO},H7 b=some o->(∀ x y z,o≠.ins x y z)->(upd H7 p (.ins A.Keeper dx (fK n a.q w.1 c1 (c2+c') c3 (c4+c)))) b=some o:=λ{b o} e hno=>by rw [aG];exact e;rintro rfl;rw [p7] at e;cases e;exact hno _ _ _ rfl
 have F8:Fm (p::Pt::fp a) H (upd H7 p (.ins A.Keeper dx (fK n a.q w.1 c1 (c2+c') c3 (c4+c)))):=((F5.trans F6.tail).trans (Fm.of S7)).trans (Fm.upd aw);generalize upd H7 p (.ins A.Keeper dx (fK n a.q w.1 c1 (c2+c') c3 (c4+c)))=H8 at L8 p8 n8 F8;dsimp only;lk;refine x9 ?_;lk;refine ⟨p,A.Keeper,dx,_,_,rfl,p8,ct.kc,ct.k6,fK6,?_⟩;lk;refine ⟨q,us,rfl,n8 (S7 _ _ gq) (λ_ _ _ z=>nomatch z),λv hv=>⟨n8 (S7 _ _ (oks v hv).1) (λ_ _ _ z=>nomatch z),n8 (S7 _ _ (oks v hv).2) (λ_ _ _ z=>nomatch z)⟩,hlu,λH9 S9=>?_⟩;generalize hc'':((E5 us:Nat):Int)=c'';have p9:=S9 _ _ p8;refine ⟨c3,c'',rfl,rfl,dx,_,p9,fKl,?_⟩;rw [fKp6]
 have n9:∀ {b:af}{o:HO},H8 b=some o->(∀ x y z,o≠.ins x y z)->(upd H9 p (.ins A.Keeper dx (fK n a.q w.1 c1 (c2+c') (c3+c'') (c4+c)))) b=some o:=λ{b o} e hno=>by rw [aG];exact S9 _ _ e;rintro rfl;rw [p8] at e;cases e;exact hno _ _ _ rfl
 dsimp only;lk;refine k q us u ts' as' R' _ hu eu ?_ (λv hv=>⟨⟨?_,?_⟩,hv6 v hv⟩) hlu hf6 (by rw [hs6,← GC h.iv.nd hu];lia) (λd1 d2 d3 d4 qa=>?_) ⟨⟨w,_,_,_,_,hw,aF⟩,(L8.same S9).inst p9 Ey Ey,V6,J6,h.tp⟩ ?_ ?_ ((F8.trans (Fm.of S9)).trans (Fm.upd aw))
 .exact n9 (n8 (S7 _ _ gq) (λ_ _ _ z=>nomatch z)) (λ_ _ _ z=>nomatch z)
 .exact n9 (n8 (S7 _ _ (oks v hv).1) (λ_ _ _ z=>nomatch z)) (λ_ _ _ z=>nomatch z)
 .exact n9 (n8 (S7 _ _ (oks v hv).2) (λ_ _ _ z=>nomatch z)) (λ_ _ _ z=>nomatch z)
 .obtain ⟨rfl,rfl,rfl,rfl⟩:=qa.one hp;subst hc hc' hc'';exact ⟨_,_,_,_,_,aF⟩
 .rw [hk6,← eu1,← eu2,oE];rfl
 .refine ((P6.same S7).keep λb o _ _ h3 _ e=>S9 _ _ (n8 e h3)).keep λb o _ _ h3 _ e=>?_;rw [aG];exact e;rintro rfl;rw [p9] at e;cases e;exact h3 _ _ _ rfl
variable {X:EC}
inductive pF (K:ae) (C:af) (A:CA) (vs:List V) (H:Hp) (Q:VK) (E:XK):Prop
 | mk (p dx:af) (a:AL) (n T:Nat) (ts:List Ti) (as:Nat->List af) (R:Nat->Nat->List Int):vs=[.ref p]->BK K C A->KP C A H p dx a n T ts as R->ts.length<99->(∀ (q:af) (us:List (Ti×af)) (o:iF) (H':Hp),H q=none->H' q=some (.lst (us.map uQ))->(∀ u∈us,rD H' u)->(us.map (·.1)).Perm ts->H' a.d1=some (.frz o (.dT (kl ts)))->bf a.d1 H H'->Q (.ref q) H')->pF K C A vs H Q E
inductive cb (K:ae) (C:af) (A:CA) (vs:List V) (H:Hp) (Q:VK) (E:XK):Prop
 | mk (p dx:af) (a:AL) (n T:Nat) (ts:List Ti) (as:Nat->List af) (R:Nat->Nat->List Int):vs=[.ref p]->BK K C A->KP C A H p dx a n T ts as R->ts.length<99->(∀ (q:af) (us:List (Ti×af)) (H':Hp),H q=none->H' q=some (.lst (us.map uQ))->(∀ u∈us,rD H' u)->(us.map (·.1)).Perm ts->bJ H H'->Q (.ref q) H')->cb K C A vs H Q E
def Dy:∀ vs H Q E,cb K C A vs H Q E->pF K C A vs H (UX H Q) E:=by
 rintro vs H Q E ⟨p,dx,a,n,T,ts,as,R,rfl,ct,h,hl,k⟩;refine ⟨p,dx,a,n,T,ts,as,R,rfl,ct,h,hl,λq us o H' hq gq fl pm gd B=>.inr ⟨a.d1,o,kl ts,(λo' u' e=>by rw [h.lv.e1] at e;cases e),gd,?_⟩⟩;have hqd:q≠a.d1:=Ne.symm (aR h.lv.e1 hq);refine k q us _ hq (by rw [aG hqd];exact gq) (λu hu=>(aG (gJ (fl u hu) gd)).trans (fl u hu)) pm λb ob e=>?_
 by_cases hb:b=a.d1
 .subst hb;rw [aF,← h.lv.e1,e]
 .rw [aG hb];exact B _ _ e hb
theorem Dz:Rn (pF K C A) (xV K C A (ck K C A)) xA:=by
 rintro vs H Q E ⟨p,dx,a,n,T,ts,as,R,rfl,ct,h,hl,k⟩;obtain ⟨w,c1,c2,c3,c4,hw,hp⟩:=h.ob;have hnd:=h.iv.nd;unfold xV;lk;refine We ?_;refine kI ?_;refine kI ?_;lk;refine ⟨p,A.Keeper,dx,_,_,rfl,hp,ct.kc,ct.k2,Vo,?_⟩;refine ⟨a.q,A.bz,a.dq,_,_,rfl,h.lv.ob,ct.lc,ct.l1,Oi,?_⟩;refine ⟨a.d1,kl ts,rfl,.inl ⟨h.lv.e1,λo=>?_⟩⟩;have g1:(upd H a.d1 (.frz o (.dT (kl ts)))) a.d1=some (.frz o (.dT (kl ts))):=aF;have B1:bf a.d1 H (upd H a.d1 (.frz o (.dT (kl ts)))):=bf.upd;generalize upd H a.d1 (.frz o (.dT (kl ts)))=H1 at g1 B1;have p1:=B1 _ _ hp (gJ hp h.lv.e1);have q1:=B1 _ _ h.lv.ob (gJ h.lv.ob h.lv.e1);have w1:=B1 _ _ h.lv.e2 (Ne.symm h.lv.Pz);intro acc hacc;refine nF (n:=ts.length) (λt ys H4=>H4 acc=some (.lst ys)/\bJ H1 H4/\∃ us:List (Ti×af),ys=us.map uQ/\us.map (·.1)=ts.take t/\∀ u∈us,rD H4 u) (λZ=>∃ o,Z=[o,some (.ref p)]) ⟨aF,bJ.cH hacc,[],rfl,rfl,λz hz=>nomatch hz⟩ ⟨_,rfl⟩ ?_ ?_ ?_ ?_
 .rintro t ys H4 ⟨e,_⟩;exact e
 .rintro ys H4 ⟨g4,S4,us,rfl,hu,fl⟩;refine ⟨⟨by rw [mf];exact au _,S4 _ _ g1⟩,?_⟩;rw [cf (au _)] at hu
  have hul:us.length=ts.length:=by have:=congrArg fh hu;simpa using this
  lk;refine ⟨acc,us.map (λu=>([(u.1.x:Int),(u.1.y:Int),(u.1.cC:Int),b2i u.1.wd],u.2)),[false,false,true],rfl,by rw [cz];exact dm.of g4,λz hz=>?_,by rw [ag];lia,λl zs' hl4 hperm _=>?_⟩
  .obtain ⟨u,hum,rfl⟩:=bq.mp hz;exact ⟨_,fl u hum,.int _ (.int _ (.int _ (.bl _ .nil)))⟩
  obtain ⟨us',hp',rfl⟩:=Sy.perm_map hperm.symm us rfl
  have hlf:H l=none:=by
   cases z:H l with
   | none=>rfl
   | some ob =>
    by_cases hb:l=a.d1
    .rw [hb,S4 _ _ g1] at hl4;cases hl4
    .rw [S4 _ _ (B1 _ _ z hb)] at hl4;cases hl4
  have U:∀ {b:af}{u:HO}{xs:List V},H4 b=some u->(upd H4 l (.lst xs)) b=some u:=λe=>by rw [aG (aR e hl4)];exact e
  refine k l us' o _ hlf (by rw [aF,cz];rfl) (λu hum=>U (fl u (hp'.mem_iff.mp hum))) (by rw [← hu];exact hp'.map _) (U (S4 _ _ g1)) λb ob e hb=>U (S4 _ _ (B1 _ _ e hb))
 .rintro t ys H4 ht ⟨_,S4,_⟩;exact ⟨by rw [mf];exact ht,S4 _ _ g1⟩
 .rintro t ys σ' H4 x H5 ht ⟨g4,S4,us,rfl,hu,fl⟩ ⟨o',rfl⟩ ⟨eH,key,v,b,hk,ex,hb⟩;subst eH ex
  obtain ⟨u,hu',eu⟩:∃ u,ts[t]?=some u/\(pk u.x u.y,V.int u.cC)=(key,v):=by
   have hk:(ts.map λt=>(pk t.x t.y,V.int t.cC))[t]?=some (key,v):=hk;rw [aB] at hk;exact bo.mp hk
  cases eu;have hum:=aN hu';lk;refine l0 ?_;refine zf ?_;refine kI ?_;lk;refine ⟨p,A.Keeper,dx,_,_,rfl,S4 _ _ p1,ct.kc,ct.k2,Vo,?_⟩;refine ⟨a.q,a.dq,_,rfl,S4 _ _ q1,WO,?_⟩;lk;refine ⟨a.q,a.dq,a.d1,a.d2,a.d3,a.L,b,kl ts,kw ts,u.x,u.y,_,_,rfl,ct,S4 _ _ q1,.inr ⟨o,S4 _ _ g1⟩,.inl (S4 _ _ w1),hb,gU (f:=λt=>V.int t.cC) hnd hum,gU (f:=λt=>V.bl t.wd) hnd hum,λr hr=>?_⟩;generalize eu_:upd H5 r (.tup [.int u.x,.int u.y,.int u.cC,.bl u.wd])=H6;obtain ⟨T,gr⟩:=kP eu_ hr
  have hul:us.length=t:=by
   have:=congrArg fh hu;rw [ag,bM] at this;lia
  refine ⟨T _ _ g4,eT (m:=100) (by rw [ag];lia),lh.mk' ht ⟨_,rfl⟩ ⟨aF,λb' ob e=>by rw [aG (aR e hacc)];exact T _ _ (S4 _ _ e),us++[(u,r)],by simp [uQ],?_,λz hz'=>?_⟩⟩
  .rw [a9,hu,eN,hu'];rfl
  .have tn:∀ {z:Ti×af},rD H6 z->rD (upd H6 acc (.lst (us.map uQ++[.ref r]))) z:=λ{z} e=>(aG (gJ e (T _ _ g4))).trans e
   rcases aQ.mp hz' with hz'|hz'
   .exact tn (T _ _ (fl z hz'))
   .rw [ay.mp hz'];exact tn gr
variable {X:EC}
section
variable {X:EC}{mg:bB->Option aj}
inductive bS (K:ae) (C:af) (X:EC) (vs:List V) (H:Hp) (Q:VK) (E:XK):Prop
 | mk (n i j:Nat):vs=[.int n,.int i,.int j]->i<n->j<n->(i≠j/\Q .non H\/i=j/\E (.ref X.Alike) none H)->bS K C X vs H Q E
def tG:Rx (bS K C X) (λE=>iJ K C X E (bW K C)) xv:=by
 rintro vs H Q E ⟨n,i,j,rfl,hi,hj,hk⟩;unfold iJ;lk;refine ⟨n,i,j,rfl,hi,hj,?_⟩;lk
 rcases hk with ⟨hij,k⟩|⟨rfl,k⟩
 .refine sD (λz=>absurd (kC.mp z) (by lia)) λ_=>?_;lk;exact k
 .refine sD (λ_=>?_) λz=>absurd rfl z;exact k
def Pp (X:EC) (n:Nat) (kvs:List (List iL×V)) (x y:Nat) (put:Bool) (D:af):Prop:=x<n/\y<n/\(x=y/\D=X.Alike\/x≠y/\(iR kvs (pk (min x y) (max x y))).isSome=put/\D=if put then X.Pu else X.GV)
def Pp.em {kvs:List (List iL×V)}{x y:Nat}{put:Bool}{D:af}(T:Ex K mg C A X) (h:Pp X n kvs x y put D):hJ K (.ref D) (.ref X.qm)=some true:=by
 rcases h with ⟨_,_,⟨_,rfl⟩|⟨_,_,rfl⟩⟩
 .exact T.tZ
 .cases put
  .exact T.ub
  .exact T.yE
def spT (b:Bool) (X:EC):Sp:=λvs H _ E=>∃ (n x y:Nat) (d D:af) (kvs:List (List iL×V)),vs=[.int n,.ref d,.int x,.int y]/\H d=some (.dT kvs)/\Pp X n kvs x y b D/\∀ H',bJ H H'->E (.ref D) none H'
def ic (K:ae) (C:af) (X:EC):Sp:=spT true X
def E6:Rx (ic K C X) (λE=>nH K C X E (bS K C X) (dt K C)) Ki:=by
 rintro vs H Q E ⟨n,x,y,d,D,kvs,rfl,hd,⟨hx,hy,due⟩,k⟩;unfold nH;lk
 rcases due with ⟨rfl,rfl⟩|⟨hxy,hk,rfl⟩
 .exact ⟨n,x,x,rfl,hx,hx,.inr ⟨rfl,k H λ_ _ e=>e⟩⟩
 .refine ⟨n,x,y,rfl,hx,hy,.inl ⟨hxy,?_⟩⟩;lk;refine ⟨x,y,rfl,λp hp=>?_⟩;lk;have S:=bJ.cH (o:=.tup [.int (min x y:Nat),.int (max x y:Nat)]) hp;refine .inr ⟨d,_,rfl,wG.t (k:=pk (min x y) (max x y)) (S _ _ hd) aF,?_⟩;refine ⟨_,rfl,?_⟩;rw [show (if false=true then !(iR kvs (pk (min x y) (max x y))).isSome else (iR kvs (pk (min x y) (max x y))).isSome)=true from hk];exact l0 (NT (k _ S))
def d9 (K:ae) (C:af) (X:EC):Sp:=spT false X
def wu:Rx (d9 K C X) (λE=>ju K C X E (bS K C X) (dt K C)) Ki:=by
 rintro vs H Q E ⟨n,x,y,d,D,kvs,rfl,hd,⟨hx,hy,due⟩,k⟩;unfold ju;lk
 rcases due with ⟨rfl,rfl⟩|⟨hxy,hk,rfl⟩
 .exact ⟨n,x,x,rfl,hx,hx,.inr ⟨rfl,k H λ_ _ e=>e⟩⟩
 .refine ⟨n,x,y,rfl,hx,hy,.inl ⟨hxy,?_⟩⟩;lk;refine ⟨x,y,rfl,λp hp=>?_⟩;lk;have S:=bJ.cH (o:=.tup [.int (min x y:Nat),.int (max x y:Nat)]) hp;refine .inr ⟨d,_,rfl,wG.t (k:=pk (min x y) (max x y)) (S _ _ hd) aF,?_⟩;refine ⟨_,rfl,?_⟩;rw [show (if true=true then !(iR kvs (pk (min x y) (max x y))).isSome else (iR kvs (pk (min x y) (max x y))).isSome)=true by rw [if_pos rfl,hk];rfl];exact l0 (NT (k _ S))
def spU (b:Bool) (K:ae) (C:af) (A:CA) (X:EC):Sp:=λvs H _ E=>∃ (p dx:af) (a:AL) (n T:Nat) (ts:List Ti) (as:Nat->List af) (R:Nat->Nat->List Int) (x y:Nat) (D:af),vs=[.ref p,.int x,.int y]/\BK K C A/\KP C A H p dx a n T ts as R/\Pp X n (kl ts) x y b D/\∀ H',bJ H H'->E (.ref D) none H'
def kr (K:ae) (C:af) (A:CA) (X:EC):Sp:=spU true K C A X
def zy {s1:Sp}:Rx (kr K C A X) (λE=>ku K C A E s1 (ic K C X)) pV:=by
 rintro vs H Q E ⟨p,dx,a,n,T,ts,as,R,x,y,D,rfl,ct,h,due,k⟩;obtain ⟨w,c1,c2,c3,c4,hw,hp⟩:=h.ob;unfold ku;k_in;refine ⟨p,dx,_,rfl,hp,Ey,?_⟩;k_go;refine ⟨p,A.Keeper,dx,_,_,rfl,hp,ct.kc,ct.k1,Zg,?_⟩;lk;refine kI ?_;refine kI ?_;lk;refine ⟨p,A.Keeper,dx,_,_,rfl,hp,ct.kc,ct.k2,Vo,?_⟩;refine ⟨a.q,A.bz,a.dq,_,_,rfl,h.lv.ob,ct.lc,ct.l1,Oi,?_⟩;lk;exact ⟨n,x,y,a.d1,D,kl ts,rfl,h.lv.e1,due,k⟩
def mx (K:ae) (C:af) (A:CA) (X:EC):Sp:=spU false K C A X
def DA {s1 s2 s3 s4 s5:Sp}:Rx (mx K C A X) (λE=>mC K C A E (d9 K C X) s1 s2 s3 s4 s5) N6:=by
 rintro vs H Q E ⟨p,dx,a,n,T,ts,as,R,x,y,D,rfl,ct,h,due,k⟩;obtain ⟨w,c1,c2,c3,c4,hw,hp⟩:=h.ob;unfold mC;k_go;refine ⟨p,A.Keeper,dx,_,_,rfl,hp,ct.kc,ct.k1,Zg,?_⟩;lk;refine kI ?_;refine kI ?_;lk;refine ⟨p,A.Keeper,dx,_,_,rfl,hp,ct.kc,ct.k2,Vo,?_⟩;refine ⟨a.q,A.bz,a.dq,_,_,rfl,h.lv.ob,ct.lc,ct.l1,Oi,?_⟩;lk;exact ⟨n,x,y,a.d1,D,kl ts,rfl,h.lv.e1,due,k⟩
def YB {cT:aj}{tb:XK->TS}{th:TS}{D:rN}{Z:L2.St}(h:∃ E:XK,tb E D Z H/\∀ cls H2 σ',E cls none H2->∃ Dc:af,cls=.ref Dc/\hJ K cls cT=some true/\th { nx:=λ_ _=>False,rt:=D.rt } σ' H2):R8 K cT tb th D Z H:=h
inductive bV (K:ae) (C:af) (A:CA) (X:EC) (vs:List V) (H:Hp) (Q:VK) (E:XK):Prop
 | mk (p dx:af) (a:AL) (n T:Nat) (ts:List Ti) (as:Nat->List af) (R:Nat->Nat->List Int) (x y:Nat) (D:af) (b:Bool):vs=[.ref p,.bl b,.int x,.int y]->BK K C A->KP C A H p dx a n T ts as R->Pp X n (kl ts) x y b D->(∀ H',bJ H H'->Q (.bl true) H')->bV K C A X vs H Q E
def zA (T:Ex K mg C A X):Rn (bV K C A X) (rj K C A X (kr K C A X) (mx K C A X)) N4:=by
 rintro vs H Q E ⟨p,dx,a,n,Tp,ts,as,R,x,y,D,b,rfl,ct,h,due,k⟩;obtain ⟨w,c1,c2,c3,c4,hw,hp⟩:=h.ob;unfold rj;refine Gq ?_;refine YB ⟨λcls _ H2=>cls=.ref D/\bJ H H2,?_,?_⟩
 .lk;refine ⟨_,rfl,?_⟩
  cases b with
  | true =>
   refine l0 ?_;k_in;refine ⟨p,dx,_,rfl,hp,Ey,?_⟩;lk
   exact ⟨p,dx,a,n,Tp,ts,as,R,x,y,D,rfl,ct,h,due,λH' S=>⟨rfl,S⟩⟩
  | false =>
   refine lI ?_;k_in;refine ⟨p,dx,_,rfl,hp,Ey,?_⟩;lk;exact ⟨p,dx,a,n,Tp,ts,as,R,x,y,D,rfl,ct,h,due,λH' S=>⟨rfl,S⟩⟩
 .rintro cls H2 σ' ⟨rfl,S2⟩;refine ⟨D,rfl,due.em T,?_⟩;lk;exact k _ S2
end
def Vp {T:Int}{ts':List Ti}(p:ts.Perm ts'):(ts.map λt=>T-(t.cC:Int)).sum=(ts'.map λt=>T-(t.cC:Int)).sum:=by
 induction p with
 | nil=>rfl
 | cons t _ ih=>rw [aV,aV,gh,gh,ih]
 | swap t u _=>simp only [aV,gh];lia
 | trans _ _ h1 h2=>exact h1.trans h2
theorem SJ {T:Int}:∀ ts:List Ti,(ts.map λt=>T-(t.cC:Int)).sum=T*ts.length-gF ts
 | []=>by simp [gF]
 | t::ts=>by
  rw [aV,gh,SJ ts,kL,bI,Jq,Ua];lia
def WR {T:Int}(pm:(us.map (·.1)).Perm ts):(us.map λu=>T-(u.1.cC:Int)).sum=T*ts.length-gF ts:=by
 rw [← SJ,← Vp pm,cz];rfl
inductive bT (K:ae) (C:af) (A:CA) (vs:List V) (H:Hp) (Q:VK) (E:XK):Prop
 | mk (p dx:af) (a:AL) (n T:Nat) (ts:List Ti) (as:Nat->List af) (R:Nat->Nat->List Int) (c1 c2 c3 c4:Int):vs=[.ref p]->BK K C A->KP C A H p dx a n T ts as R->ts.length<99->Ac H p c1 c2 c3 c4->(∀ t H',bJ H H'->H' t=some (.tup [.int c1,.int c2,.int c3,.int c4,.int ((T:Int)*ts.length-gF ts)])->Q (.ref t) H')->bT K C A vs H Q E
def zB:Rn (bT K C A) (rC K C A (eD K C) (cb K C A)) xA:=by
 rintro vs H Q E ⟨p,dx,a,n,T,ts,as,R,c1,c2,c3,c4,rfl,ct,h,hl,ac,k⟩;obtain ⟨w,d1,d2,d3,d4,hw,hp⟩:=h.ob;obtain ⟨rfl,rfl,rfl,rfl⟩:=ac.one hp;unfold rC;k_go;refine ⟨p,A.Keeper,dx,_,_,rfl,hp,ct.kc,ct.k4,fK4,?_⟩;k_go;refine ⟨p,A.Keeper,dx,_,_,rfl,hp,ct.kc,ct.k5,fK5,?_⟩;k_go;refine ⟨p,A.Keeper,dx,_,_,rfl,hp,ct.kc,ct.k6,fK6,?_⟩;k_go;refine ⟨p,A.Keeper,dx,_,_,rfl,hp,ct.kc,ct.k7,fK7,?_⟩;k_go;refine ⟨p,A.Keeper,dx,_,_,rfl,hp,ct.kc,ct.k1,Zg,?_⟩;k_in;refine ⟨p,dx,_,rfl,hp,Ey,?_⟩;lk;refine ⟨p,dx,a,n,T,ts,as,R,rfl,ct,h,hl,λq us H1 hq gq fl pm S1=>?_⟩
 have hul:us.length=ts.length:=by have:=pm.length_eq;rwa [ag] at this
 lk;refine ⟨n,T,q,us,rfl,h.tp,gq,fl,by lia,λH2 S2=>?_⟩;rw [WR pm];lk;exact ⟨bK (m:=5) (au 5),λt ht=>k t _ ((S1.trans S2).trans (bJ.cH ht)) aF⟩
variable {X:EC}
inductive bu (K:ae) (C:af) (vs:List V) (H:Hp) (Q:VK) (E:XK):Prop
 | mk (a:af) (ns:List Int) (k:Nat):vs=[.ref a,.int k]->dm K H a (ns.map V.int)->(∀ z:Int,Q (.int z) H)->bu K C vs H Q E
def zC:Rn (bu K C) (qZ K C) N7:=by
 rintro vs H Q E ⟨a,ns,k,rfl,hS,q⟩;unfold qZ;lk;refine Rg hS ?_;lk;refine sD (λh=>?_) λh=>?_
 .lk
  have hk:k<ns.length:=by lia
  refine JU hS rfl (aA hk) ?_;exact q _
 .lk;exact q _
def em (hn:0<n) (x:Int):∃ j:Nat,x%(n:Int)=(j:Int)/\j<n:=by
 have h1:=Zv x (show (n:Int)≠0 by lia);have h2:=BB x (show (0:Int)<n by lia);exact ⟨(x%(n:Int)).toNat,by lia,by lia⟩
variable {X:EC}
def Vq {z:Int}(hn:1<=n) (h0:0<=z) (h1:z<(n:Int)*n):∃ m:Nat,z/(n:Int)=(m:Int)/\m<n:=by
 have a1:=Int.ediv_nonneg h0 (b:=(n:Int)) (by lia);have a2:=Int.ediv_lt_of_lt_mul (a:=z) (b:=(n:Int)) (c:=(n:Int)) (by lia) h1;exact ⟨(z/n).toNat,by lia,by lia⟩
inductive gP (K:ae) (C:af) (vs:List V) (H:Hp) (Q:VK) (E:XK):Prop
 | mk (c base:Int) (many:Nat):vs=[.int c,.int base,.int many]->0<base->base<1073741824->many<=1000->(∀ l H' ds,bJ H H'->H l=none->H' l=some (.lst (List.map V.int ds))->ds.length=many->(∀ d∈ds,0<=d/\d<base)->Q (.ref l) H')->gP K C vs H Q E
def Bg:Rn (gP K C) (sT K C) WB:=by
 rintro vs H Q E ⟨c,base,many,rfl,hb,hb2,hm,k⟩;unfold sT;lk;refine ⟨bK (m:=0) (au 0),λl hl0=>?_⟩;have S0:=bJ.cH (o:=.lst []) hl0;lk;unfold qc;lk
 refine ⟨by lia,by lia,ui (λi Z H1=>∃ (c':Int) (ds:List Int) (o4:Option V),Z=[some (.int c'),some (.int base),some (.int many),some (.ref l),o4]/\bJ H H1/\H1 l=some (.lst (ds.map V.int))/\ds.length=i/\∀ d∈ds,0<=d/\d<base)
  ⟨c,[],_,rfl,S0,aF,rfl,(λd h=>nomatch h)⟩ ?_ ?_⟩
 .rintro i Z H1 hi ⟨c',ds,o4,rfl,S,hL,hd,hB⟩;lk;refine ⟨.inl ⟨rfl,_,dm.of hL⟩,?_⟩;lk;refine sC hL (eT (m:=2000) (by rw [ag];lia)) ?_;lk;refine ⟨_,ds++[c'%base],_,rfl,λb o e=>?_,by rw [aF,a9];rfl,by rw [bb,hd];rfl,λd h=>?_⟩
  .rw [aG (aR e hl0)];exact S b o e
  .rcases aQ.mp h with h|h
   .exact hB d h
   .rw [ay.mp h];exact ⟨Zv _ (by lia),BB _ hb⟩
 .rintro Z H1 ⟨c',ds,o4,rfl,S,hL,hd,hB⟩;lk;exact k l H1 ds S hl0 hL (by lia) hB
def MH (n:Nat) (H:Hp) (z:Zt):Prop:=iY H z/\∃ i j:Nat,z.1=(i:Int)/\z.2.1=(j:Int)/\i<j/\j<n
inductive bZ (K:ae) (C:af) (vs:List V) (H:Hp) (Q:VK) (E:XK):Prop
 | mk (s:af) (ns:List Int) (n:Nat):vs=[.ref s,.int n]->dm K H s (ns.map V.int)->1<=n->n<=24->(∀ (l:af) (zs:List Zt) (H':Hp),bJ H H'->H l=none->H' l=some (.lst (zs.map fV))->(∀ z∈zs,MH n H' z)->zs.length<=40->Q (.ref l) H')->bZ K C vs H Q E
theorem zD:Rn (bZ K C) (rn K C (gP K C) (bu K C)) WD:=by
 rintro vs H Q E ⟨s,ns,n,rfl,hS,hn1,hn2,k⟩
 have hnn:(0:Int)<(n:Int)*n/\(n:Int)*n<=576:=by
  have h1:(n:Int)<=24:=by lia
  constructor
  .exact Int.mul_pos (by lia) (by lia)
  .have:=Int.mul_le_mul h1 h1 (by lia) (by lia);lia
 unfold rn;lk;refine ⟨bK (m:=0) (au 0),λl hl0=>?_⟩;have S1:=bJ.cH (o:=.lst []) hl0;have g1:(upd H l (.lst [])) l=some (.lst (([]:List Zt).map fV)):=aF;generalize upd H l (.lst [])=H1 at S1 g1;lk;unfold oV;lk;refine ⟨s,ns,1,rfl,S1.seq hS,λz1=>?_⟩;lk;refine ⟨s,ns,2,rfl,S1.seq hS,λz2=>?_⟩;lk;obtain ⟨many,hmany,hm⟩:=em (n:=41) (by decide) z2;rw [show z2%41=(many:Int) from hmany];refine ⟨z1,(n:Int)*n,many,rfl,hnn.1,by lia,by lia,λdl H2 ds S2 hdl hD hdn hdB=>?_⟩
 have ndl:dl≠l:=λz=>by rw [z,g1] at hdl;cases hdl
 refine ⟨dl,rfl,.inl ⟨⟨_,dm.of hD⟩,kW (K:=K) (a:=dl) (xs:=ds.map V.int) (λi Z H4=>∃ (zs:List Zt) (o:Option V),Z=[some (.ref s),some (.int n),some (.ref l),o]/\H4 l=some (.lst (zs.map fV))/\(∀ z∈zs,MH n H4 z)/\zs.length<=i/\bf l H2 H4) ⟨[],_,rfl,S2 _ _ g1,(λz hz=>nomatch hz),au _,bf.refl _ _⟩ ?_ ?_ ?_⟩⟩
 .rintro i Z H4 _ ⟨zs,o,_,_,_,_,B⟩;exact dm.of (B _ _ hD ndl)
 .rintro i v Z H4 hi ⟨zs,o,rfl,g4,hzs,hzl,B⟩;rw [aB] at hi;obtain ⟨d,hdi,rfl⟩:=bo.mp hi;obtain ⟨bd1,bd2⟩:=hdB d (aN hdi)
  have hi2:i<41:=by have:=(aC.mp hdi).1;lia
  obtain ⟨a,ea,ha⟩:=Vq hn1 bd1 bd2;obtain ⟨b,eb,hb⟩:=em hn1 d;lk;rw [ea,eb];refine ZZ (λc=>?_) λ_=>?_
  .have hab:a≠b:=λz=>c (by rw [z]);lk;refine ⟨.inl ⟨rfl,_,dm.of g4⟩,?_⟩;lk;rw [ea,eb];rw [show (if (b:Int)<a then (b:Int) else a)=((min a b:Nat):Int) by split<;>lia,show (if (b:Int)>a then (b:Int) else a)=((max a b:Nat):Int) by split<;>lia];refine ⟨bK (m:=2) (au 2),λp hp=>?_⟩;generalize eu_:upd H4 p (.tup [.int (min a b:Nat),.int (max a b:Nat)])=H5;obtain ⟨S5,g5⟩:=kP eu_ hp;have l5:=S5 _ _ g4;lk;refine sC l5 (eT (m:=100) (by rw [ag];lia)) ?_;have tn:∀ {b:af}{xs:List V}{ys:List V},H5 b=some (.tup xs)->(upd H5 l (.lst ys)) b=some (.tup xs):=λe=>(aG (gJ e l5)).trans e;refine ⟨zs++[(((min a b:Nat):Int),((max a b:Nat):Int),p)],_,rfl,by rw [aF,a9];rfl,λz hz=>?_,by rw [bb];simp;lia,λb' o' e hne=>by rw [aG hne];exact S5 _ _ (B _ _ e hne)⟩
   rcases aQ.mp hz with hz|hz
   .exact ⟨tn (S5 _ _ (hzs z hz).1),(hzs z hz).2⟩
   .rw [ay.mp hz];exact ⟨tn g5,min a b,max a b,rfl,rfl,by lia,by lia⟩
  .exact ⟨zs,_,rfl,g4,hzs,by lia,B⟩
 .rintro Z H4 ⟨zs,o,rfl,g4,hzs,hzl,B⟩;rw [ag] at hzl;lk;exact k l zs H4 (λb' o' e=>B _ _ (S2 _ _ (S1 _ _ e)) (aR e hl0)) hl0 g4 hzs (by lia)
variable {X:EC}
def SK {v w x y:V}:vY [v,w,x,y] none (some 2)=[v,w]:=by rw [wb (show (2:Int)=((2:Nat):Int) from rfl)];rfl
def YC {u:Ti×af}(h:rD H u) (k:∀ q,H q=none->Q (.ref q) (upd H q (.tup [.int u.1.x,.int u.1.y]))):QU K (.ref u.2) none (some 2) H Q :=
 ⟨u.2,_,rfl,jq.of h,(λz=>by have:=z.2;simp [HT.lY] at this),λq hq=>by rw [SK];exact k q hq⟩
structure Tb (H:Hp) (l:af) (us:List (Ti×af)) (ts:List Ti):Prop where
 g:H l=some (.lst (us.map uQ))
 fl:∀ u∈us,rD H u
 pm:(us.map (·.1)).Perm ts
 len:us.length<100
def Tb.same (h:Tb H l us ts) (S:bJ H H'):Tb H' l us ts:=⟨S _ _ h.g,λu hu=>S _ _ (h.fl u hu),h.pm,h.len⟩
def Tb.mem (h:Tb H l us ts) {u:Ti×af}(hu:u∈us):u.1∈ts:=h.pm.mem_iff.mp (bg hu)
def Tb.of (h:Tb H l us ts) {t:Ti}(ht:t∈ts):∃ u∈us,u.1=t:=bq.mp (h.pm.mem_iff.mpr ht)
def kd (ps:List (Int×Int)):List (List iL×V):=ps.map λp=>([eh p.1,eh p.2],.bl true)
def vB (ts:List Ti):kd (ts.map Ti.key)=kf (λ_=>V.bl true) ts:=by unfold kd kf;rw [cz];rfl
def mB (K:ae) (C:af):Sp:=λvs H Q _=>∃ x:Int,vs=[.int x]/\Q (.bl true) H
def DB:Rn (mB K C) (vn K C) ["_law_found"]:=by
 rintro vs H Q E ⟨x,rfl,k⟩;unfold vn;lk;refine JQ (.int _) Q8 ?_;refine ⟨true,rfl,l0 ?_⟩;lk;refine JQ (.int _) Q9 ?_;exact ⟨false,rfl,k⟩
variable {X:EC}
def zE {t u:TS}{D:rN}{Z:L2.St}(P:L2.St->Hp->Prop) (rest:∀ σ' H',P σ' H'->u D σ' H') (h:(∀ σ' H',P σ' H'->u D σ' H')->t { D with nx:=u D } Z H):bN t u D Z H:=h rest
def pick (ws:List (Ti×af)) (h:0<ws.length) (z:Int):∃ u∈ws,Qi (ws.map uQ) (z%(ws.length:Int))=some (uQ u):=by
 obtain ⟨j,ej,hj⟩:=em h z;exact ⟨ws[j],i9 hj,by rw [ej];exact eZ rfl (by rw [aB,aA hj];rfl)⟩
def Ol {tt:TT}{o:Option V}{rest:L2.St}{z acc:af}{R:Hp->Prop}(pf:Ti×af->Bool) (hz:H z=some (.lst (us.map uQ))) (fl:∀ u∈us,rD H u) (hl:us.length<100) (ha:H acc=none)
   (turn:∀ (u:Ti×af) (H':Hp) (G:Bool->Hp->Prop),u∈us->rD H' u->G (pf u) H'->tt (some (uQ u)::rest) H' G)
   (fin:∀ (H':Hp),bJ H H'->H' acc=some (.lst ((us.filter pf).map uQ))->R H') :
  ∃ W:Nat->Nat->List V->L2.St->Hp->Prop,(∃ m,W 0 m [] (o::rest) (upd H acc (.lst [])))/\∀ i m ys σ' H',W i m ys σ' H'->H' acc=some (.lst ys) /\
  (((Qg K z).stop i H'/\R H')\/((Qg K z).go i H'/\∀ x H2,(Qg K z).Nd i H' x H2->(bx 0) x σ' H2 λσ2 H3=>tt σ2 H3 λb H4 =>
   if b=true then (ao 0) σ2 H4 λy H5=>H5 acc=some (.lst ys)/\ys.length<aW/\∃ m',m'<m/\W (i+1) m' (ys++[y]) σ2 (upd H5 acc (.lst (ys++[y]))) else ∃ m',m'<m/\W (i+1) m' ys σ2 H4)):=by
 refine qD (K:=K) us pf uQ (λZ=>∃ o,Z=o::rest) (by rw [ag]) (dm.of hz) ha ⟨_,rfl⟩ (by rw [ag];lia) ?_ λH2 S2 g2=>fin H2 S2 g2;rintro i u x σ' H' G G' hu hx S' ⟨o,rfl⟩ hG hG';rw [aB,hu] at hx;cases hx;have r4:=S' _ _ (fl u (aN hu));refine NH ?_;refine turn u H' _ (aN hu) r4 ?_
 cases hw:pf u with
 | false=>exact lI (hG' hw _ ⟨_,rfl⟩)
 | true =>
  refine l0 (V9 rfl ?_);exact hG hw _ ⟨_,rfl⟩
def MI {q:af}{α:Type} {f:α->V}{ws:List α}(g:H q=some (.lst (ws.map f))) (k:∀ H',bJ H H'->Q (.bl (!ws.isEmpty)) H'):(vX aY) [] H λy H2=>R5 K (.ref q) y H2 Q:=by
 lk;refine ⟨bK (m:=0) (au 0),λe he=>?_⟩;have S:=bJ.cH (o:=.lst []) he;have g1:(upd H e (.lst [])) e=some (.lst []):=aF;have k:=k _ S;generalize upd H e (.lst [])=H1 at S g1 k
 cases ws with
 | nil=>exact .inl (Q6 (.lst (dm.of (S _ _ g)) .nil) (.lst (dm.of g1) .nil) (Oh []) (Oh []) k)
 | cons u ws=>exact .inr ⟨q,e,_,_,rfl,rfl,S _ _ g,g1,by simp,k⟩
inductive cN (K:ae) (C:af) (vs:List V) (H:Hp) (Q:VK) (E:XK):Prop
 | mk (c:Int) (kk n:Nat) (l:af) (us:List (Ti×af)) (ts:List Ti):vs=[.int c,.int kk,.int n,.ref l]->2<=n->n<=200->kk<=100->Tb H l us ts->(∀ t∈ts,t.x<t.y/\t.y<n)->(∀ (t:af) (x y:Nat) H',bJ H H'->H' t=some (.tup [.int x,.int y])->x<y->y<n->Q (.ref t) H')->cN K C vs H Q E
theorem E7:Rn (cN K C) (xO K C) ["_law_cell","_law_k","_law_n","_law_table_here","_law_way","_law_wood","_law_most","_law_a","_law_b"]:=by
 rintro vs H Q E ⟨c,kk,n,l,us,ts,rfl,hn,hn2,hkk,tb,hb,k⟩;have k1:∀ {H1:Hp}{u:Ti×af}{t:af},bJ H H1->u∈us->H1 t=none->Q (.ref t) (upd H1 t (.tup [.int u.1.x,.int u.1.y])):=λS hu ht=>k _ _ _ _ (S.trans (bJ.cH ht)) aF (hb _ (tb.mem hu)).1 (hb _ (tb.mem hu)).2;unfold xO;lk;refine .inl ⟨⟨_,dm.of tb.g⟩,λacc hacc=>Ol (o:=none) (rest:=[]) (λu=>u.1.wd) tb.g tb.fl tb.len hacc (λu H' G hu r4 g=>?_) λH1 S1 g1=>?_⟩
 .lk;refine fU (jq.of r4) (v:=.bl u.1.wd) rfl ?_;exact ⟨_,rfl,g⟩
 have sub:∀ u∈us.filter λu=>u.1.wd,u∈us:=λu hu=>(dX.mp hu).1;have wl:(us.filter λu=>u.1.wd).length<100:=bw (dM _ _) tb.len;generalize us.filter (λu=>u.1.wd)=ws at g1 sub wl;have fl1:∀ u∈us,rD H1 u:=λu hu=>S1 _ _ (tb.fl u hu);k_ne
 with_reducible refine zE (λZ H2=>bJ H H2/\Z=[some (.int c),some (.int kk),some (.int n),some (.ref l),some (.int (c%4)),some (.ref acc),none,none,none]) ?_ λgo=>?_
 .rintro Z H2 ⟨S2,rfl⟩
  with_reducible refine zE (λZ H3=>bJ H H3/\Z=[some (.int c),some (.int kk),some (.int n),some (.ref l),some (.int (c%4)),some (.ref acc),none,none,none]) ?_ λgo=>?_
  .rintro Z H3 ⟨S3,rfl⟩;obtain ⟨a,ea,ha⟩:=em (n:=n) (by lia) (c/4);obtain ⟨r,er,hr⟩:=em (n:=n-1) (by lia) (c/4/(n:Int)+kk);obtain ⟨b,eb,hbn⟩:=em (n:=n) (by lia) ((a:Int)+1+r)
   have hab:a≠b:=λe=>by
    rw [← e] at eb
    by_cases q:(a:Int)+1+r<n
    .rw [Xj (by lia) q] at eb;lia
    .rw [← Int.sub_emod_right,Xj (by lia) (by lia)] at eb;lia
   lk;rw [ea,show ((n:Int)-1)=((n-1:Nat):Int) by lia,er,eb];rw [show (if (b:Int)<a then (b:Int) else a)=((min a b:Nat):Int) by split<;>lia,show (if (b:Int)>a then (b:Int) else a)=((max a b:Nat):Int) by split<;>lia];refine ⟨bK (m:=2) (au 2),λt ht=>?_⟩;exact k t (min a b) (max a b) _ (S3.trans (bJ.cH ht)) aF (by lia) (by lia)
  .lk;refine sD (λ_=>?_) λ_=>?_
   .k_ne;k_ne;k_ne
    refine MI (S2 _ _ tb.g) λH3 S3=>⟨_,rfl,?_⟩
    have S03:=S2.trans S3
    cases hus:us.isEmpty with
    | true=>exact lI (go _ _ ⟨S03,rfl⟩)
    | false =>
     have h0:0<us.length:=by
      cases us with
      | nil=>cases hus
      | cons u us=>simp
     obtain ⟨u,hu,hat⟩:=pick us h0 (c/4+3*kk);refine l0 ?_;lk;refine qC (dm.of (S03 _ _ tb.g)) ?_;rw [ag];lk;refine mO (dm.of (S03 _ _ tb.g)) hat ?_;lk;exact YC (S03 _ _ (tb.fl u hu)) λt ht=>k1 S03 hu ht
   .exact lI (go _ _ ⟨S2,rfl⟩)
 .lk;refine sD (λ_=>?_) λ_=>?_
  .k_ne;k_ne;k_ne
   refine MI g1 λH3 S3=>⟨_,rfl,?_⟩
   have S03:=S1.trans S3
   cases hws:ws.isEmpty with
   | true=>exact lI (go _ _ ⟨S03,rfl⟩)
   | false =>
    have h0:0<ws.length:=by
     cases ws with
     | nil=>cases hws
     | cons u us=>simp
    refine l0 ?_;have g3:=S3 _ _ g1;have fl3:∀ u∈ws,rD H3 u:=λu hu=>S3 _ _ (fl1 u (sub u hu));lk;refine .inl ⟨⟨_,dm.of g3⟩,λacc2 hacc2=>qD (K:=K) ws (λ_=>true) (λu=>.int u.1.cC) (λZ=>∃ o,Z=[o]) (by rw [ag]) (dm.of g3) hacc2 ⟨_,rfl⟩ (by rw [ag];lia) ?_ λH4 S4 g4=>?_⟩
    .rintro i u x σ' H' G G' hu hx S' ⟨o,rfl⟩ hG hG';rw [aB,hu] at hx;cases hx;have r4:=S' _ _ (fl3 u (aN hu));lk;refine l0 ?_;lk;refine fU (jq.of r4) (v:=.int u.1.cC) rfl ?_;exact hG rfl _ ⟨_,rfl⟩
    rw [i7.mpr λ_ _=>rfl] at g4;lk;refine ⟨acc2,(ws.map λu=>(u.1.cC:Int)),rfl,by rw [cz];exact dm.of g4,by rw [ag];exact h0,λM hM _=>?_⟩;obtain ⟨u1,hu1,eM⟩:=bq.mp hM;have g5:=S4 _ _ g3;lk;refine .inl ⟨⟨_,dm.of g5⟩,λacc3 hacc3=>Ol (o:=none) (rest:=[some (.int M)]) (λu=>decide ((u.1.cC:Int)=M)) g5 (λu hu=>S4 _ _ (fl3 u hu)) wl hacc3 (λu H' G hu r4 g=>?_) λH5 S5 g5=>?_⟩
    .lk;refine fU (jq.of r4) (v:=.int u.1.cC) rfl ?_;lk;rw [show decide (V.int u.1.cC=V.int M)=decide ((u.1.cC:Int)=M) from decide_eq_decide.mpr ⟨V.int.inj,congrArg V.int⟩];exact g
    have h5:0<(ws.filter λu=>decide ((u.1.cC:Int)=M)).length:=uG (dX.mpr ⟨hu1,decide_eq_true eM⟩);have sub5:∀ u∈ws.filter λu=>decide ((u.1.cC:Int)=M),u∈us:=λu hu=>sub u (dX.mp hu).1;generalize ws.filter (λu=>decide ((u.1.cC:Int)=M))=xs at g5 h5 sub5;have S05:=S03.trans (S4.trans S5);obtain ⟨u,hu,hat⟩:=pick xs h5 (c/4+kk);lk;refine qC (dm.of g5) ?_;rw [ag];lk;refine mO (dm.of g5) hat ?_;lk;exact YC (S05 _ _ (tb.fl u (sub5 u hu))) λt ht=>k1 S05 (sub5 u hu) ht
  .exact lI (go _ _ ⟨S1,rfl⟩)
variable {X:EC}
def dg (K:ae) (C:af):Sp:=λvs H Q _=>∃ n:Int,vs=[.int n]/\∀ j:Nat,Top n j->Q (.int j) H
def HW:Rn (dg K C) (AC K C) WH:=by
 rintro vs H Q E ⟨n,rfl,k⟩;unfold AC;lk;unfold vp;refine Cu (λZ H'=>H'=H/\∃ j:Nat,Z=[some (.int n),some (.int j),some (.int (4*2^j))]/\(j=0\/2*(2:Int)^j<=n)) (λZ _=>match Z with|[_,_,some (.int p)]=>(n+1-p).toNat|_=>0) ⟨rfl,0,rfl,.inl rfl⟩ ?_;rintro Z H' ⟨rfl,j,rfl,hj⟩;have hp:=Ds j;lk;refine sD (λh=>⟨_,Q5,?_⟩) λh=>?_
 .lk;refine ⟨⟨rfl,j+1,?_,.inr ?_⟩,?_⟩
  .have e:(4*2^j*2:Int)=4*2^(j+1):=by rw [mZ];lia
   show [some (V.int n),some (V.int ((j:Int)+1)),some (V.int (4*2^j*2))]=_
   rw [e];rfl
  .rw [mZ];lia
  .show (n+1-4*2^j*2).toNat<(n+1-4*2^j).toNat
   lia
 .lk;exact k j ⟨hj,by lia⟩
inductive j8 (K:ae) (C:af) (vs:List V) (H:Hp) (Q:VK) (E:XK):Prop
 | mk (l t:af) (us:List (Ti×af)) (ts:List Ti) (u:Ti):vs=[.ref l,.ref t]->Tb H l us ts->(ts.map Ti.key).Nodup->u∈ts->H t=some (.tup [.int u.x,.int u.y])->(∀ H',bJ H H'->Q (.int u.cC) H')->j8 K C vs H Q E
def DC:Rn (j8 K C) (vq K C) WL:=by
 rintro vs H Q E ⟨l,t,us,ts,u,rfl,h,nd,hu,ht,k⟩;unfold vq;lk;unfold rk;lk;refine .inl ⟨⟨_,dm.of h.g⟩,kW (K:=K) (a:=l) (xs:=us.map uQ) (λi Z H4=>(∃ o2,Z=[some (.ref l),some (.ref t),o2])/\bJ H H4/\∀ v∈us.take i,v.1.key≠u.key) ⟨⟨_,rfl⟩,(λ_ _ e=>e),(λv hv=>nomatch hv)⟩ ?_ ?_ ?_⟩
 .rintro i Z H4 _ ⟨_,S4,_⟩;exact dm.of (S4 _ _ h.g)
 .rintro i v Z H4 hi ⟨⟨o2,rfl⟩,S4,hno⟩;rw [aB] at hi;obtain ⟨v,hvi,rfl⟩:=bo.mp hi;have hvm:=aN hvi;have r4:=S4 _ _ (h.fl v hvm)
  have et:us.take (i+1)=us.take i++[v]:=by rw [eN,hvi];rfl
  lk;refine YC r4 λc hc=>?_;generalize eu_:upd H4 c (.tup [.int v.1.x,.int v.1.y])=H5;obtain ⟨S5,g5⟩:=kP eu_ hc;have S05:=S4.trans S5;lk;refine aac (HK g5) (HK (S05 _ _ ht)) (BH _) (BH _) ?_;rw [HJ];lk;refine sD (λc=>?_) λc=>?_
  .have e:v.1=u:=m7 nd (h.mem hvm) hu c;lk;refine fU (jq.of (S5 _ _ r4)) (v:=.int v.1.cC) rfl ?_;rw [e];exact k _ S05
  .lk;refine ⟨⟨_,rfl⟩,S05,λw hw=>?_⟩;rw [et] at hw
   rcases aQ.mp hw with q|q
   .exact hno w q
   .rw [ay.mp q];exact c
 .rintro Z H4 ⟨⟨o2,rfl⟩,S4,hno⟩;rw [ag,r9] at hno;obtain ⟨w,hw,e⟩:=h.of hu;exact absurd (by rw [e]) (hno w hw)
def d5 (c1 c2 c3 c4 c5:Int):List Int:=[c1,c2,c3,c4,c5]
inductive jb (K:ae) (C:af) (vs:List V) (H:Hp) (Q:VK) (E:XK):Prop
 | mk (l q:af) (us:List Tt) (c1 c2 c3 c4 c5:Int):vs=[.ref l,.ref q]->H l=some (.lst ((d5 c1 c2 c3 c4 c5).map V.int))->H q=some (.lst (us.map pE))->(∀ v∈us,Bq H v/\∀ i r,v.xs≠V.int i::r)->(∀ H',H' l=some (.lst ((d5 c1 (c2+(E5 us+GR us:Nat)) (c3+(E5 us:Nat)) c4 c5).map V.int))->bf l H H'->Q .non H')->jb K C vs H Q E
theorem zF:Rn (jb K C) (rm K C) WI:=by
 rintro vs H Q E ⟨l,q,us,c1,c2,c3,c4,c5,rfl,hl,hq,hu,k⟩
 have nql:q≠l:=λe=>by
  rw [e,hl] at hq;cases us<;>cases hq
 unfold rm;unfold oU;lk;refine .inl ⟨⟨_,dm.of hq⟩,kW (K:=K) (a:=q) (xs:=us.map pE) (λi Z H4=>(∃ o2,Z=[some (.ref l),some (.ref q),o2])/\H4 l=some (.lst ((d5 c1 (c2+(E5 (us.take i)+GR (us.take i):Nat)) (c3+(E5 (us.take i):Nat)) c4 c5).map V.int))/\bf l H H4) ⟨⟨_,rfl⟩,?_,bf.refl _ _⟩ ?_ ?_ ?_⟩
 .rw [List.take_zero]
  show H l=some (.lst ((d5 c1 (c2+0) (c3+0) c4 c5).map V.int))
  rw [Qe,Qe];exact hl
 .rintro i Z H4 _ ⟨_,_,B⟩;exact dm.of (B _ _ hq nql)
 .rintro i v Z H4 hi ⟨⟨o2,rfl⟩,g4,B⟩;rw [aB] at hi;obtain ⟨v,hvi,rfl⟩:=bo.mp hi;obtain ⟨ok,hx⟩:=hu v (aN hvi)
  have nv:v.q≠l:=λe=>by
   have:=ok.2;rw [e,hl] at this
   injection this with this;injection this with this;exact hx _ _ this.symm
  have np:v.p≠l:=gJ ok.1 hl;have p4:=B _ _ ok.1 np;have q4:=B _ _ ok.2 nv
  have et:us.take (i+1)=us.take i++[v]:=by rw [eN,hvi];rfl
  rw [et,Oj,HS];generalize E5 (us.take i)=t0 at g4;generalize GR (us.take i)=f0 at g4;lk;refine Hw ?_;lk;refine ⟨l,_,1,_,rfl,rfl,dm.of g4,rfl,?_⟩;lk;refine fU (jq.of p4) (v:=.ref v.q) rfl ?_;lk;refine qC (dm.of q4) ?_;lk;refine fU (jq.of p4) (v:=v.f) rfl ?_;lk;refine .inr ⟨_,rfl,?_⟩;lk;refine ⟨_,_,rfl,rfl,?_⟩
  have e1:c2+((t0+f0:Nat):Int)+((v.xs.length:Int)+if (!decide (v.f=V.non))=true then 1 else 0)=c2+((t0+v.xs.length+(f0+if v.f=V.non then 0 else 1):Nat):Int):=by by_cases c:v.f=V.non<;>simp [c]<;>lia
  have e2:c3+((t0:Nat):Int)+(v.xs.length:Int)=c3+((t0+v.xs.length:Nat):Int):=by lia
  dsimp only;rw [e1];generalize ((t0+v.xs.length+(f0+if v.f=V.non then 0 else 1):Nat):Int)=x2;refine ⟨l,_,1,1,rfl,rfl,g4,rfl,?_⟩;have g5:(upd H4 l (.lst (((d5 c1 (c2+(t0+f0:Nat)) (c3+(t0:Nat)) c4 c5).map V.int).set 1 (.int (c2+x2))))) l=some (.lst ((d5 c1 (c2+x2) (c3+(t0:Nat)) c4 c5).map V.int)):=aF;have B5:bf l H (upd H4 l (.lst (((d5 c1 (c2+(t0+f0:Nat)) (c3+(t0:Nat)) c4 c5).map V.int).set 1 (.int (c2+x2))))):=B.trans bf.upd;generalize upd H4 l (.lst (((d5 c1 (c2+(t0+f0:Nat)) (c3+(t0:Nat)) c4 c5).map V.int).set 1 (.int (c2+x2))))=H5 at g5 B5;dsimp only;refine Hw ?_;lk;refine ⟨l,_,2,_,rfl,rfl,dm.of g5,rfl,?_⟩;lk;refine fU (jq.of (B5 _ _ ok.1 np)) (v:=.ref v.q) rfl ?_;lk;refine qC (dm.of (B5 _ _ ok.2 nv)) ?_;refine ⟨_,_,rfl,rfl,?_⟩;dsimp only;rw [e2];refine ⟨l,_,2,2,rfl,rfl,g5,rfl,?_⟩;exact ⟨⟨_,rfl⟩,aF,B5.trans bf.upd⟩
 .rintro Z H4 ⟨⟨o2,rfl⟩,g4,B⟩;rw [ag,r9] at g4;exact k _ g4 B
inductive cD (K:ae) (C:af) (vs:List V) (H:Hp) (Q:VK) (E:XK):Prop
 | mk (t l:af) (c1 c2 c3 c4 c5 m o:Int):vs=[.ref t,.ref l,.int m,.int o]->H t=some (.tup ((d5 c1 c2 c3 c4 c5).map V.int))->H l=some (.lst ((d5 c1 c2 c3 c4 c5).map V.int))->c1*m=c3+c4+c5->c2<=c3+o->0<=m->m<=10->(∀ H',bJ H H'->Q (.bl true) H')->cD K C vs H Q E
def E8:Rn (cD K C) (xP K C (mB K C)) N3:=by
 rintro vs H Q E ⟨t,l,c1,c2,c3,c4,c5,m,o,rfl,ht,hl,h1,h2,hm0,hm,k⟩;unfold xP;lk;refine JQ (.tup ht) Yd ?_;refine ⟨true,rfl,lI ?_⟩;lk;refine X6 (.of ht) ?_;lk;refine ZZ (λc=>absurd rfl c) λ_=>?_;lk;refine .inr (.inl ⟨⟨_,jq.of ht⟩,λacc hacc=>nF (n:=5) (λi ys H4=>ys=j5 i (V.bl true)/\H4 acc=some (.lst ys)/\bJ H H4) (λZ=>∃ o,Z=[o]) ⟨rfl,aF,bJ.cH hacc⟩ ⟨_,rfl⟩ ?_ ?_ ?_ ?_⟩)
 .rintro i ys H' ⟨_,h,_⟩;exact h
 .rintro ys H1 ⟨rfl,g1,S1⟩;refine ⟨⟨_,jq.of (S1 _ _ ht),au _⟩,?_⟩;lk;refine ⟨acc,[true,true,true,true,true],rfl,dm.of g1,?_⟩;refine ⟨true,rfl,lI ?_⟩;lk;refine ⟨t,_,rfl,.inr (jq.of (S1 _ _ ht)),λq hq=>?_⟩;generalize eu_:upd H1 q (.lst ((d5 c1 c2 c3 c4 c5).map V.int))=H2;obtain ⟨S2,g2⟩:=kP eu_ hq;have S02:=S1.trans S2;lk;refine Q6 (sE (dm.of g2)) (sE (dm.of (S02 _ _ hl))) (uo _) (uo _) ?_;rw [JS,decide_eq_true rfl];refine ⟨_,rfl,lI ?_⟩;have t2:=S02 _ _ ht;lk;refine fU (jq.of t2) (v:=.int c1) rfl ?_;lk;refine fU (jq.of t2) (v:=.int c3) rfl ?_;lk;refine fU (jq.of t2) (v:=.int c4) rfl ?_;lk;refine fU (jq.of t2) (v:=.int c5) rfl ?_;lk;refine sD (λ_=>?_) λc=>absurd (congrArg V.int h1) c;lk;refine fU (jq.of t2) (v:=.int c2) rfl ?_;lk;refine fU (jq.of t2) (v:=.int c3) rfl ?_;lk;rw [decide_eq_true h2];exact k _ S02
 .rintro i ys H4 hi ⟨_,_,S4⟩;exact ⟨_,_,jq.of (S4 _ _ ht),aA hi⟩
 .rintro i ys σ' H4 v H5 hi ⟨rfl,g4,S4⟩ ⟨o,rfl⟩ ⟨e,hv⟩;subst e;have hv:=hv _ (jq.of (S4 _ _ ht));rw [aB] at hv;obtain ⟨x,hx,rfl⟩:=bo.mp hv;lk;refine l0 ?_;lk;refine ⟨x,rfl,?_⟩;refine ⟨g4,eT (m:=10) (by rw [nc];lia),lh.mk' hi ⟨_,rfl⟩ ⟨?_,aF,λb o e=>by rw [aG (aR e hacc)];exact S4 _ _ e⟩⟩;rw [List.replicate_succ']
def KP.Zh (h:KP C A H p dx a n T ts as R) (hP:rX Pt H) (F:Fm (p::fp a) H H'):rX Pt H' :=
 hP.keep λb o h1 h2 h3 _ e=>F b o (λz=>by
  rcases aq.mp z with rfl|z
  .obtain ⟨fs,hp⟩:=h.p0;rw [hp] at e;cases e;exact h3 _ _ _ rfl
  .exact h.lv.out e h1 (λ_ _=>h2 _) z) e
def KP.keep (h:KP C A H p dx a n T ts as R) {X:List af}(F:Fm X H H') (h1:∀ b∈X,b∉p::a.L::fp a) (h2:∀ b∈X,(∀ c e f,H b=some (.ins c e f)->f.lookup ("rows":bB)=none/\f.lookup ("woods":bB)=none)/\∀ r:List Int,r≠[]->H b≠some (.lst (r.map V.int))):KP C A H' p dx a n T ts as R:=by
 obtain ⟨w,c1,c2,c3,c4,hw,hp⟩:=h.ob;refine ⟨⟨w,c1,c2,c3,c4,hw,F _ _ (λz=>h1 _ z aw) hp⟩,h.lv.keep F (λx f e _ hx hm=>?_) (λb hb z=>h1 b z (ai _ (ai _ hb))) (λz=>h1 _ z (ai _ aw)) (λb r hr e z=>(h2 b z).2 r hr e),h.iv,h.jn,h.tp⟩
 rcases hx with z|⟨v,hv,z⟩
 .have:=((h2 x hm).1 _ _ _ (by rw [z];exact h.lv.ob)).2;rw [WN] at this;cases this
 .obtain ⟨i,_,hi⟩:=h.lv.at hv;have:=((h2 x hm).1 _ _ _ (by rw [z];exact (h.lv.wa i v hi).ob)).1;rw [iO] at this;cases this
def KP.set (h:KP C A H p dx a n T ts as R) {d:af}{u u':List (List iL×V)}(hd:H d=some (.dT u)) (hn:d∉a.L::fp a):KP C A (upd H d (.dT u')) p dx a n T ts as R :=
 h.keep (X:=[d]) (Fm.upd aw) (λb hb z=>by
  rw [ay.mp hb] at z
  rcases aq.mp z with rfl|z
  .obtain ⟨fs,hp⟩:=h.p0;rw [hd] at hp;cases hp
  .exact hn z) λb hb=>by
  rw [ay.mp hb,hd];exact ⟨(λ_ _ _ z=>nomatch z),(λ_ _ z=>nomatch z)⟩
structure Lw (C:af) (A:CA) (Pt p dx d:af) (a:AL) (n T:Nat) (ts:List Ti) (H:Hp):Prop where
 kp:∃ as R,KP C A H p dx a n T ts as R
 hP:rX Pt H
 hd:H d=some (.dT (kd (ts.map Ti.key)))
section
variable {ts':List Ti}{d:af}
def Lw.same (h:Lw C A Pt p dx d a n T ts H) (S:bJ H H'):Lw C A Pt p dx d a n T ts H' :=
 let ⟨s,r,k⟩:=h.kp;⟨⟨s,r,k.same S⟩,h.hP.same S,S _ _ h.hd⟩
def Lw.fm (h:Lw C A Pt p dx d a n T ts H) (F:Fm (d::p::Pt::fp a) H H') {b:af}{o:HO}(e:H b=some o) (h1:∀ ks,o≠.dT ks) (h2:∀ x y z,o≠.ins x y z) (h3:∀ ps,o≠.tbl ps) (h4:b∉fp a):H' b=some o:=F _ _ (λz=>by
 obtain ⟨_,_,k⟩:=h.kp;obtain ⟨_,hp⟩:=k.p0
 rcases aq.mp z with rfl|z
 .rw [h.hd] at e;cases e;exact h1 _ rfl
 .rcases aq.mp z with rfl|z
  .rw [hp] at e;cases e;exact h2 _ _ _ rfl
  .rcases aq.mp z with z|z
   .exact h.hP.ne e h3 z
   .exact h4 z) e
def Lw.tup (h:Lw C A Pt p dx d a n T ts H) (F:Fm (d::p::Pt::fp a) H H') {b:af}{xs:List V}(e:H b=some (.tup xs)):H' b=some (.tup xs) :=
 let ⟨_,_,k⟩:=h.kp;h.fm F e (λ_ z=>nomatch z) (λ_ _ _ z=>nomatch z) (λ_ z=>nomatch z) (k.lv.yH e)
def Lw.st (h:Lw C A Pt p dx d a n T ts H) (k:KP C A H p dx a n T ts as R) (dn:d∉a.L::fp a) (u:List (List iL×V)):KP C A (upd H d (.dT u)) p dx a n T ts as R/\rX Pt (upd H d (.dT u))/\(∀ {b:af}{xs:List V},H b=some (.tup xs)->(upd H d (.dT u)) b=some (.tup xs))/\(∀ {l:af}{us:List (Ti×af)}{ts:List Ti},Tb H l us ts->Tb (upd H d (.dT u)) l us ts) /\
  ∀ H',Fm (p::Pt::fp a) (upd H d (.dT u)) H'->H' d=some (.dT u)/\Fm (d::p::Pt::fp a) H H':=by
 have nd:∀ {b:af}{o:HO},H b=some o->(∀ ks,o≠.dT ks)->(upd H d (.dT u)) b=some o:=λ{b o} e q=>by rw [aG];exact e;rintro rfl;rw [h.hd] at e;cases e;exact q _ rfl
 obtain ⟨fs,hp⟩:=k.p0;refine ⟨k.set h.hd dn,h.hP.keep λb o h1 _ _ _ e=>nd e h1,λe=>nd e (λ_ z=>nomatch z),λtb=>⟨nd tb.g (λ_ z=>nomatch z),λv hv=>nd (tb.fl v hv) (λ_ z=>nomatch z),tb.pm,tb.len⟩,λH' F=>⟨F _ _ (λz=>?_) aF,(Fm.upd aw).trans F.tail⟩⟩
 rcases aq.mp z with z|z
 .exact (gJ h.hd hp) z
 .exact (aq.mp z).elim (h.hP.ne h.hd (λ_ z=>nomatch z)) λz=>dn (ai _ z)
end
def SL {Pt2:af}{p p2:ue}{q q2:bB}(h:rP Pt p q H) (h2:rP Pt2 p2 q2 H) (hne:Pt≠Pt2) (S:qk Pt2 H H'):rP Pt p q H':=by
 obtain ⟨ps,hp⟩:=h2.tbl
 rcases h with h|⟨c',oc,vs,t,q1,q2,q3,q4⟩
 .exact .inl (S _ _ hne h)
 .exact .inr ⟨c',oc,vs,t,S _ _ hne q1,S _ _ (λz=>by rw [z,hp] at q2;cases q2) q2,q3,q4⟩
def kd_new {x y:Nat}{b:Bool}:kd (ts.map Ti.key)++[(pk x y,V.bl true)]=kd ((ts++[(⟨x,y,0,b⟩:Ti)]).map Ti.key):=by
 unfold kd;rw [a9,a9];rfl
abbrev LT2 (Pt:af) (H:Hp):Prop:=rP Pt ⟨273,37,273,94⟩ ((("_law_shape":bB)++".<locals>.")++"<lambda>") H
def Dv (w n:Int):List Int:=if w=1 then [1,n-1] else if w=3 then [1,2] else if w=4 then [1,2,3] else [1,2,4,8]
def Sh (w n:Int) (k:Int×Int):Prop:=if w=2 then k.2<8 else k.2-k.1∈Dv w n
def YD {w n:Int}{ks:List (Int×Int)}(nd:ks.Nodup) (h:∀ k∈ks,∃ i j:Nat,k.1=(i:Int)/\k.2=(j:Int)/\i<j/\j<24) (hs:∀ k∈ks,Sh w n k):ks.length<=96:=by
 by_cases c:w=2
 .refine br (CQ nd (m:=(gK 8).flatMap λa:Nat=>(gK 8).map λb:Nat=>((a:Int),(b:Int))) λk hk=>?_) (by decide);obtain ⟨i,j,e1,e2,h1,h2⟩:=h k hk;have:=hs k hk;unfold Sh at this;rw [if_pos c] at this;exact Xk.mpr ⟨i,mF.mpr (by lia),bq.mpr ⟨j,mF.mpr (by lia),BR e1.symm e2.symm⟩⟩
 .refine br (CQ nd (m:=(gK 24).flatMap λa:Nat=>(Dv w n).map λd=>((a:Int),(a:Int)+d)) λk hk=>?_) ?_
  .obtain ⟨i,j,e1,e2,h1,h2⟩:=h k hk;have:=hs k hk;unfold Sh at this;rw [if_neg c] at this;exact Xk.mpr ⟨i,mF.mpr (by lia),bq.mpr ⟨_,this,BR e1.symm (show (i:Int)+(k.2-k.1)=k.2 by lia)⟩⟩
  .have:(Dv w n).length<=4:=by unfold Dv;(repeat' split)<;>simp
   simp only [List.length_flatMap,ag,List.map_const',List.sum_replicate_nat,qV];lia
structure Zs (n:Nat) (w:Int) (H:Hp) (l:af) (zs:List Zt) (a b:Int):Prop where
 g:H l=some (.lst (zs.map fV))
 pz:∀ z∈zs,MH n H z
 sh:∀ z∈zs,Sh w n (zP z)
 lt:∀ z∈zs,z.1<a\/z.1=a/\z.2.1<b
 nd:(zs.map zP).Nodup
section
variable {w:Int}{a b:Int}
def Zs.len (Zzq:Zs n w H l zs a b) (hn:n<=24):zs.length<=96:=by
 have:=YD Zzq.nd (w:=w) (n:=n) (λk hk=>by
  obtain ⟨z,hz,rfl⟩:=bq.mp hk;obtain ⟨i,j,e1,e2,h1,h2⟩:=(Zzq.pz z hz).2
  exact ⟨i,j,e1,e2,h1,by lia⟩) λk hk=>by
  obtain ⟨z,hz,rfl⟩:=bq.mp hk;exact Zzq.sh z hz
 rwa [ag] at this
def Zs.same (Zzq:Zs n w H l zs a b) (S:bJ H H'):Zs n w H' l zs a b:=⟨S _ _ Zzq.g,λz hz=>⟨S _ _ (Zzq.pz z hz).1,(Zzq.pz z hz).2⟩,Zzq.sh,Zzq.lt,Zzq.nd⟩
def Zs.mono (Zzq:Zs n w H l zs a b) {a' b':Int}(h:∀ x y:Int,(x<a\/x=a/\y<b)->(x<a'\/x=a'/\y<b')\/¬ y<n):Zs n w H l zs a' b':=⟨Zzq.g,Zzq.pz,Zzq.sh,λz hz=>(h _ _ (Zzq.lt z hz)).resolve_right λq=>by
 obtain ⟨i,j,e1,e2,h1,h2⟩:=(Zzq.pz z hz).2
 lia,Zzq.nd⟩
theorem SN:∀ {ys:List V}{k:Nat},(∀ (i:Nat) (y:V),ys[i]?=some y->∃ c,y=.ref c/\H c=some (.tup [.int ((k+i:Nat):Int),.int ((k+i+1:Nat):Int)]))->∃ zs:List Zt,ys=zs.map fV/\∀ (i:Nat) (z:Zt),zs[i]?=some z->z.1=((k+i:Nat):Int)/\z.2.1=((k+i+1:Nat):Int)/\iY H z
 | [],k,_=>⟨[],rfl,λi z h=>by simp at h⟩
 | y::ys,k,h=>by
  obtain ⟨c,rfl,hc⟩:=h 0 y rfl
  obtain ⟨zs,e,hz⟩:=SN (ys:=ys) (k:=k+1) λi y hy=>by
   have:=h (i+1) y (by simpa using hy)
   rwa [show k+(i+1)=k+1+i by lia] at this
  refine ⟨(((k:Nat):Int),((k+1:Nat):Int),c)::zs,by rw [e];rfl,λi z hi=>?_⟩
  cases i with
  | zero =>
   cases hi
   exact ⟨rfl,rfl,hc⟩
  | succ i =>
   have:=hz i z (by simpa using hi)
   rwa [show k+(i+1)=k+1+i by lia]
theorem yc {i hd:Int}{X:TT}{D:rN}{a b:Nat}{o6:Option V}{H0:Hp}(hn:n<=24) (hab:a<b) (hb:b<n) (Zzq:Zs n w H l zs a (if w<i then b+1 else b)) (B:bf l H0 H)
  (hX:w=i->∀ H G,(∀ (c:Bool) H',bJ H H'->(c=true->Sh w n ((a:Int),(b:Int)))->G c H')->X [some (.int hd),some (.int n),some (.ref l),some (.int w),some (.int a),some (.int b),o6] H G)
  (fin:∀ zs' H',Zs n w H' l zs' a (if w<i+1 then b+1 else b)->bf l H0 H'->D.nx [some (.int hd),some (.int n),some (.ref l),some (.int w),some (.int a),some (.int b),o6] H') :
  iM (wX (dj (cm (kA K) (ao 3) (tC (.int i)))) X) (eE (EK K "list" kq (ao 2) (av (nC (av (ao 4) (av (ao 5) aY))) aY))) fH D [some (.int hd),some (.int n),some (.ref l),some (.int w),some (.int a),some (.int b),o6] H:=by
 have hl:=Zzq.len hn;lk;refine sD (λc=>?_) λc=>lI ?_
 .have c:w=i:=V.int.inj c;rw [if_neg (by lia)] at Zzq;rw [if_pos (by lia)] at fin;refine hX c _ _ λc' H1 S1 hs=>?_;have B1:bf l H0 H1:=λb o e ne=>S1 _ _ (B _ _ e ne);have Z1:=Zzq.same S1
  cases c' with
  | false=>exact lI (fin zs H1 (Z1.mono λx y h=>.inl (by lia)) B1)
  | true =>
   refine l0 ?_;lk;refine ⟨.inl ⟨rfl,_,dm.of Z1.g⟩,?_⟩;lk;refine ⟨bK (m:=2) (au 2),λp hp=>?_⟩;generalize eu_:upd H1 p (.tup [.int a,.int b])=H2;obtain ⟨S2,g2⟩:=kP eu_ hp;have Z2:=Z1.same S2;lk;refine sC Z2.g (eT (m:=100) (by rw [ag];lia)) ?_;have tn:∀ {b:af}{xs:List V}{ys:List V},H2 b=some (.tup xs)->(upd H2 l (.lst ys)) b=some (.tup xs):=λe=>(aG (gJ e Z2.g)).trans e
   refine fin (zs++[((a:Int),(b:Int),p)]) _ ⟨by rw [aF,a9];rfl,λz hz=>?_,λz hz=>?_,λz hz=>?_,?_⟩ λb' o' e hne=>by rw [aG hne];exact S2 _ _ (B1 _ _ e hne)
   .rcases aQ.mp hz with hz|hz
    .exact ⟨tn (Z2.pz z hz).1,(Z2.pz z hz).2⟩
    .rw [ay.mp hz];exact ⟨tn g2,a,b,rfl,rfl,hab,hb⟩
   .rcases aQ.mp hz with hz|hz
    .exact Z2.sh z hz
    .rw [ay.mp hz];exact hs rfl
   .rcases aQ.mp hz with hz|hz
    .have:=Z2.lt z hz;lia
    .rw [ay.mp hz];exact .inr ⟨rfl,show (b:Int)<b+1 by lia⟩
   .rw [a9,gH];refine ⟨Z2.nd,by simp,λk hk k' hk' e=>?_⟩;obtain ⟨z,hz,rfl⟩:=bq.mp hk;rw [pO,ay] at hk';rw [hk'] at e;obtain ⟨e1,e2⟩:=cJ e;have e1:z.1=(a:Int):=e1;have e2:z.2.1=(b:Int):=e2;have:=Z2.lt z hz;lia
 .have c:¬ w=i:=λe=>c (by rw [e]);refine fin zs H ?_ B
  by_cases q:w<i
  .rw [if_pos q] at Zzq;rw [if_pos (by lia)];exact Zzq
  .rw [if_neg q] at Zzq;rw [if_neg (by lia)];exact Zzq
end
def bJ.rf:bJ H H:=λ_ _ e=>e
theorem MJ {a:Nat}{w hd:Int}{H0:Hp}{D:rN}{o5 o6:Option V}(hn:n<=24) (hw:w<6) (ha:a<n) (Zzq:Zs n w H l zs a 0) (B:bf l H0 H)
  (fin:∀ o5 zs' H',Zs n w H' l zs' (a+1) 0->bf l H0 H'->D.nx [some (.int hd),some (.int n),some (.ref l),some (.int w),some (.int a),o5,o6] H') :
  m9 K C Pt D [some (.int hd),some (.int n),some (.ref l),some (.int w),some (.int a),o5,o6] H:=by
 unfold m9;lk;unfold QH;lk;refine ⟨_,_,rfl,⟨by lia,by lia,by lia,by lia⟩,?_⟩;refine ui (λi Z H4=>∃ o5 zs',Z=[some (.int hd),some (.int n),some (.ref l),some (.int w),some (.int a),o5,o6]/\Zs n w H4 l zs' a (a+1+i:Nat)/\bf l H0 H4) ⟨_,zs,rfl,Zzq.mono λx y h=>.inl (by lia),B⟩ ?_ ?_
 .rintro i Z H4 hi ⟨o5,zs',rfl,Z4,B4⟩
  obtain ⟨b,eb⟩:∃ b:Nat,b=a+1+i:=⟨_,rfl⟩
  have hab:a<b:=by lia
  have hb:b<n:=by lia
  k_ne;rw [show (a:Int)+1+(i:Int)=(b:Int) by lia];rw [← eb] at Z4
  with_reducible refine Gq ?_
  refine yc (i:=1) hn hab hb (by split<;>exact Z4.mono λx y h=>.inl (by lia)) B4 (λe H G go=>?_) λzs1 H1 Z1 B1=>?_
  .lk;refine sD (λc=>?_) λ_=>?_
   .have c:=V.int.inj c
    exact go true H bJ.rf λ_=>by unfold Sh;rw [if_neg (by lia),e];exact aq.mpr (.inl (by show (b:Int)-a=1;lia))
   .lk;refine go _ H bJ.rf λc=>?_;have c:=V.int.inj (of_decide_eq_true c);unfold Sh;rw [if_neg (by lia),e];exact ai _ (ay.mpr (by show (b:Int)-a=n-1;lia))
  dsimp only
  with_reducible refine Gq ?_
  refine yc (i:=2) hn hab hb Z1 B1 (λe H G go=>?_) λzs2 H2 Z2 B2=>?_
  .obtain ⟨m,em',hm⟩:=em (n:=5) (by decide) (hd/6);lk;refine go _ H bJ.rf λc=>?_;have c:=of_decide_eq_true c;unfold Sh;rw [if_pos e]
   show (b:Int)<8
   lia
  dsimp only
  with_reducible refine Gq ?_
  refine yc (i:=3) hn hab hb Z2 B2 (λe H G go=>?_) λzs3 H3 Z3 B3=>?_
  .lk;refine sD (λc=>?_) λ_=>?_
   .have c:=V.int.inj c
    exact go true H bJ.rf λ_=>by unfold Sh;rw [if_neg (by lia),e];exact ai _ (ay.mpr (by show (b:Int)-a=2;lia))
   .lk;refine sD (λc=>?_) λ_=>?_
    .have c:=V.int.inj c;lk
     exact go _ H bJ.rf λ_=>by unfold Sh;rw [if_neg (by lia),e];exact aq.mpr (.inl (by show (b:Int)-a=1;lia))
    .exact go false H bJ.rf λq=>nomatch q
  dsimp only
  with_reducible refine Gq ?_
  refine yc (i:=4) hn hab hb Z3 B3 (λe H G go=>?_) λzs4 H4 Z4 B4=>?_
  .lk;refine sD (λc=>?_) λ_=>?_
   .have hs:Sh w n ((a:Int),(b:Int)):=by
     unfold Sh;rw [if_neg (by lia),e]
     show (b:Int)-a∈[1,2,3]
     simp only [aq,c8,or_false];lia
    lk;refine sD (λc=>go true H bJ.rf λ_=>hs) λ_=>?_;lk;refine sD (λc=>go true H bJ.rf λ_=>hs) λ_=>?_;lk;exact go _ H bJ.rf λ_=>hs
   .exact go false H bJ.rf λq=>nomatch q
  dsimp only;refine yc (i:=5) hn hab hb Z4 B4 (λe H G go=>?_) λzs5 H5 Z5 B5=>?_
  .lk;refine ⟨bK (m:=4) (by decide),λt ht=>?_⟩;have S1:=bJ.cH (o:=.tup [.int 1,.int 2,.int 4,.int 8]) ht;have g1:(upd H t (.tup [.int 1,.int 2,.int 4,.int 8])) t=some (.tup (([1,2,4,8]:List Int).map V.int)):=aF;generalize upd H t (.tup [.int 1,.int 2,.int 4,.int 8])=H1 at S1 g1;refine .inl ⟨.int ((b:Int)-a),([1,2,4,8]:List Int).map Qp,.int _,.inr (.tup (.of g1) (e9.ints _)),⟨rfl,by simp [lU]⟩,iX _ (qF _),?_⟩;rw [if_neg bD,any_ints];refine ⟨_,rfl,go _ H1 S1 λc=>?_⟩;unfold Sh;rw [if_neg (by lia),e];exact of_decide_eq_true c
  exact ⟨_,zs5,rfl,by rw [if_pos (by lia)] at Z5;rw [show ((a+1+(i+1):Nat):Int)=(b:Int)+1 by lia];exact Z5,B5⟩
 .rintro Z H4 ⟨o5,zs',rfl,Z4,B4⟩;exact fin o5 zs' H4 (Z4.mono λx y h=>by lia) B4
inductive iw (K:ae) (C:af) (Pt:af) (vs:List V) (H:Hp) (Q:VK) (E:XK):Prop
 | mk (hd:Int) (n:Nat):vs=[.int hd,.int n]->1<=n->n<=200->LT2 Pt H->(∀ (l:af) (zs:List Zt) (H':Hp),qk Pt H H'->H l=none->H' l=some (.lst (zs.map fV))->(∀ z∈zs,MH n H' z)->(zs.map zP).Nodup->zs.length<=60->Q (.ref l) H')->iw K C Pt vs H Q E
theorem DD:Rn (iw K C Pt) (mw K C Pt) Yy:=by
 rintro vs H Q E ⟨hd,n,rfl,hn1,hn2,hT,k⟩;have hw:hd%6<6:=BB _ (by decide);unfold mw;lk;refine ⟨bK (m:=0) (au 0),λl hl0=>?_⟩;have S1:=bJ.cH (o:=.lst []) hl0;have g1:(upd H l (.lst [])) l=some (.lst (([]:List Zt).map fV)):=aF;generalize upd H l (.lst [])=H1 at S1 g1;lk;refine sD (λhbig=>?_) λhn=>?_
 .lk
  obtain ⟨m,em',hm⟩:∃ m:Nat,(if (n:Int)-1<60 then (n:Int)-1 else 60)=(m:Int)/\(m<=60/\m+1<=n):=by
   split
   .exact ⟨n-1,by lia,by lia,by lia⟩
   .exact ⟨60,rfl,by lia,by lia⟩
  rw [em'];refine ⟨by lia,by lia,λacc hacc=>Ri (n:=m) (E:=λi y H'=>∃ c,y=.ref c/\H' c=some (.tup [.int ((i:Nat):Int),.int ((i+1:Nat):Int)])) (S:=λZ=>∃ o,Z=[o]) hacc ⟨_,rfl⟩ (by lia) (λi y H2 H3 zs g B ⟨c,e,h⟩=>⟨c,e,B _ _ h (gJ h g)⟩) ?_ ?_⟩
  .rintro i σ' H' G hi S' ⟨o,rfl⟩ go;lk;rw [m5];refine ⟨bK (m:=2) (au 2),λc hc=>?_⟩;exact go _ _ _ ⟨_,rfl⟩ (bJ.cH hc) ⟨c,rfl,aF⟩
  .intro ys H2 hyl g2 S2 hys;obtain ⟨zs,rfl,hz⟩:=SN (k:=0) (ys:=ys) (H:=H2) (by simpa using hys);simp only [P9] at hz;rw [ag] at hyl;refine k acc zs H2 (λb o _ e=>S2 _ _ (S1 _ _ e)) (S1.free hacc) g2 (λz hz'=>?_) ?_ (by lia)
   .obtain ⟨i,hi⟩:=bC.mp hz';obtain ⟨e1,e2,e3⟩:=hz i z hi;have:=(aC.mp hi).1;exact ⟨e3,i,i+1,e1,e2,by lia,by lia⟩
   .refine iK.mpr (iE.mpr λi j h1 h2 hij e=>?_);have a1:=(hz i _ (aA h1)).1;have a2:=(hz j _ (aA h2)).1;have:=(cJ e).1;lia
 have hn:n<=24:=by lia
 lk;unfold rg;lk;refine ⟨by lia,by lia,ui (λi Z H4=>∃ o4 o5 zs,Z=[some (.int hd),some (.int n),some (.ref l),some (.int (hd%6)),o4,o5,none]/\Zs n (hd%6) H4 l zs i 0/\bf l H1 H4) ⟨_,_,[],rfl,⟨g1,(λz hz=>nomatch hz),(λz hz=>nomatch hz),(λz hz=>nomatch hz),pM⟩,bf.refl _ _⟩ ?_ ?_⟩
 .rintro i Z H4 hi ⟨o4,o5,zs,rfl,Z4,B4⟩;k_ne;rw [m5]
  exact MJ hn hw hi Z4 B4 λo5 zs' H5 Z5 B5=>⟨_,_,zs',rfl,Z5,B5⟩
 .rintro Z H4 ⟨o4,o5,zs,rfl,Zzq,B⟩;have hl:=Zzq.len hn;have S4:bJ H H4:=λb o e=>B _ _ (S1 _ _ e) (aR e hl0);have T4:LT2 Pt H4:=hT.same S4
  have fin:∀ (us:List Zt) (H5:Hp) (p:af),us.Perm zs->qk Pt H4 H5->LT2 Pt H5->H5 p=none->Q (.ref p) (upd H5 p (.lst ((us.map fV).take 36))):=λus H5 p pm ST T5 hp=>by
   have S6:=bJ.cH (o:=.lst ((us.map fV).take 36)) hp
   have g6:(upd H5 p (.lst ((us.map fV).take 36))) p=some (.lst ((us.take 36).map fV)):=by rw [aF,jI]
   generalize upd H5 p (.lst ((us.map fV).take 36))=H6 at S6 g6;have hm:∀ z∈us.take 36,z∈zs:=λz hz=>pm.mem_iff.mp (Qv hz);refine k p (us.take 36) H6 (λb o hb e=>S6 _ _ (ST _ _ hb (S4 _ _ e))) (S4.free (ST.free T5 hp)) g6 (λz hz=>⟨S6 _ _ (ST.tup T4 (Zzq.pz z (hm z hz)).1),(Zzq.pz z (hm z hz)).2⟩) ?_ (by rw [bM];lia);exact (((VN 36 us).map zP).nodup ((pm.map zP).nodup_iff.mpr Zzq.nd))
  lk;refine sD (λ_=>?_) λ_=>?_
  .lk;unfold Ms;lk;refine ⟨l,zs.map (λz=>(([z.2.1-z.1,z.1],z.2.2):Zn)),rfl,by rw [cz];exact Zzq.g,λz hz=>?_,by rw [ag];lia,T4,λl2 zs2 H2 hn2 ST T2 pm _=>?_⟩
   .obtain ⟨u,hu,rfl⟩:=bq.mp hz;exact ⟨_,_,rfl,(Zzq.pz u hu).1⟩
   obtain ⟨us,hu,rfl⟩:=Sy.perm_map pm.symm zs rfl;have S5:=bJ.cH (o:=.lst (us.map fV)) hn2;have g5:(upd H2 l2 (.lst (us.map fV))) l2=some (.lst (us.map fV)):=aF;rw [show (us.map (λz=>(([z.2.1-z.1,z.1],z.2.2):Zn))).map oG=us.map fV by rw [cz];rfl];generalize upd H2 l2 (.lst (us.map fV))=H5 at S5 g5;lk;refine ⟨l2,_,rfl,dm.of g5,λp hp=>?_⟩;rw [wb (show (36:Int)=((36:Nat):Int) from rfl)];exact fin us H5 p hu (λb o hb e=>S5 _ _ (ST _ _ hb e)) (T2.same S5) hp
  .lk;refine qC (dm.of Zzq.g) ?_;rw [ag];lk;obtain ⟨j,ej,hj⟩:=em (n:=zs.length+1) (by lia) (hd/30);rw [show ((zs.length:Int)+1)=((zs.length+1:Nat):Int) by lia,ej];refine ⟨l,_,rfl,dm.of Zzq.g,λp1 hp1=>?_⟩;rw [JT rfl];generalize eu_:upd H4 p1 (.lst ((zs.map fV).drop j))=H5;obtain ⟨S5,g5⟩:=kP eu_ hp1;lk;refine ⟨l,_,rfl,dm.of (S5 _ _ Zzq.g),λp2 hp2=>?_⟩;rw [wb rfl];generalize eu_:upd H5 p2 (.lst ((zs.map fV).take j))=H6;obtain ⟨S6,g6⟩:=kP eu_ hp2;refine Wb (S6 _ _ g5) g6 (bK (m:=200) (by rw [cY,bM,ag];lia)) λp3 hp3=>?_;have S7:=bJ.cH (o:=.lst ((zs.map fV).drop j++(zs.map fV).take j)) hp3
   have g7:(upd H6 p3 (.lst ((zs.map fV).drop j++(zs.map fV).take j))) p3=some (.lst ((zs.drop j++zs.take j).map fV)):=by rw [aF,a9,z9,jI]
   generalize upd H6 p3 (.lst ((zs.map fV).drop j++(zs.map fV).take j))=H7 at S7 g7;have S47:=S5.trans (S6.trans S7);lk;refine ⟨p3,_,rfl,dm.of g7,λp hp=>?_⟩;rw [wb (show (36:Int)=((36:Nat):Int) from rfl)]
   exact fin _ H7 p (by
    have:=fR (l₁:=zs.drop j) (l₂:=zs.take j)
    rwa [eS] at this) (λb o _ e=>S47 _ _ e) (T4.same S47) hp
def Vr {α:Type} {l:List α}(h:l.Nodup) {i:Nat}{a:α}(e:l[i]?=some a):a∉l.take i:=λha=>by
 rw [← eS i l] at h;refine (gH.mp h).2.2 a ha a ?_ rfl;obtain ⟨h1,h2⟩:=aC.mp e;rw [fQ h1,h2];exact aw
def Ac.same {c1 c2 c3 c4:Int}(h:Ac H p c1 c2 c3 c4) (S:bJ H H'):Ac H' p c1 c2 c3 c4:=let ⟨e1,e2,e3,e4,e5,q⟩:=h;⟨e1,e2,e3,e4,e5,S _ _ q⟩
def Ac.set {d:af}{c1 c2 c3 c4:Int}{u u':List (List iL×V)}(h:Ac H p c1 c2 c3 c4) (hd:H d=some (.dT u)):Ac (upd H d (.dT u')) p c1 c2 c3 c4:=let ⟨e1,e2,e3,e4,e5,q⟩:=h;⟨e1,e2,e3,e4,e5,(aG (gJ q hd)).trans q⟩
inductive cu (K:ae) (C:af) (A:CA) (Pt2:af) (vs:List V) (H:Hp) (Q:VK) (E:XK):Prop
 | mk (Pt p dx:af) (a:AL) (n T:Nat) (as:Nat->List af) (R:Nat->Nat->List Int) (hd:Int):vs=[.ref p,.int hd,.int n]->BK K C A->KP C A H p dx a n T [] as R->1<=n->n<=200->Pt≠Pt2->rX Pt H->LT2 Pt2 H->(∀ d ts H',Lw C A Pt p dx d a n T ts H'->gF ts=0->(∀ c1 c2 c3 c4,Ac H p c1 c2 c3 c4->Ac H' p (c1+ts.length) c2 c3 c4)->H d=none->d∉a.L::fp a->ts.length<=60->Fm (p::Pt::Pt2::fp a) H H'->Q (.ref d) H')->cu K C A Pt2 vs H Q E
theorem DE {Pt2:af}:Rn (cu K C A Pt2) (vo K C A (iw K C Pt2) (eG K C A)) Wy:=by
 rintro vs H Q E ⟨Pt,p,dx,a,n,T,as,R,hd,rfl,ct,h,hn1,hn,hne,hP,hT,k⟩;obtain ⟨ps,hps⟩:=hT.tbl;unfold vo;lk;intro d hd0;generalize eu_:upd H d (.dT [])=H1;obtain ⟨S1,g1⟩:=kP eu_ hd0
 have dn:d∉a.L::fp a:=λz=>by
  rcases aq.mp z with q|q
  .have:=h.lv.ls;rw [← q,hd0] at this;cases this
  .exact h.lv.yI hd0 q
 have h1:=h.same S1;lk;unfold rh;lk;refine ⟨hd,n,rfl,hn1,hn,hT.same S1,λl zs H2 ST hl0 gl pz nd hlen=>?_⟩;have tb1:H1 Pt2=some (.tbl ps):=S1 _ _ hps
 have h2:KP C A H2 p dx a n T [] as R:=h1.keep (X:=[Pt2]) (λb o hb e=>ST b o (λz=>hb (ay.mpr z)) e) (λb hb z=>by
  rw [ay.mp hb] at z
  rcases aq.mp z with z|z
  .obtain ⟨fs,hp⟩:=h1.p0;rw [z,hp] at tb1;cases tb1
  .rcases aq.mp z with z|z
   .rw [z,h1.lv.ls] at tb1;cases tb1
   .exact h1.lv.out tb1 (λ_ z=>nomatch z) (λ_ _ z=>nomatch z) z) λb hb=>by
  rw [ay.mp hb,tb1];exact ⟨(λ_ _ _ z=>nomatch z),(λ_ _ z=>nomatch z)⟩
 have d2:H2 d=some (.dT []):=ST _ _ (λz=>by rw [z,tb1] at g1;cases g1) g1
 have L2:Lw C A Pt p dx d a n T [] H2:=⟨⟨_,_,h2⟩,SL (hP.same S1) (hT.same S1) hne ST,d2⟩
 have ln:l∉fp a:=h1.lv.yI hl0;refine ⟨l,rfl,.inl ⟨⟨_,dm.of gl⟩,kW (K:=K) (a:=l) (xs:=zs.map fV) (λi Z H4=>∃ ts o4 o5,Lw C A Pt p dx d a n T ts H4/\gF ts=0/\(∀ c1 c2 c3 c4,Ac H2 p c1 c2 c3 c4->Ac H4 p (c1+ts.length) c2 c3 c4)/\ts.map Ti.key=(zs.take i).map zP/\H4 l=some (.lst (zs.map fV))/\(∀ z∈zs,MH n H4 z)/\Fm (d::p::Pt::fp a) H2 H4/\Z=[some (.ref p),some (.int hd),some (.int n),some (.ref d),o4,o5]) ⟨[],_,_,L2,rfl,(λc1 c2 c3 c4 h=>by rw [show c1+((([]:List Ti).length:Nat):Int)=c1 from Qe c1];exact h),rfl,gl,pz,Fm.refl,rfl⟩ ?_ ?_ ?_⟩⟩
 .rintro i Z H4 _ ⟨ts,o4,o5,_,_,_,_,g4,_⟩;exact dm.of g4
 .rintro i v Z H4 hi ⟨ts,o4,o5,L4,hs4,ac4,hk,g4,pz4,F4,rfl⟩;rw [aB] at hi;obtain ⟨w,hw,rfl⟩:=bo.mp hi;have hwm:=aN hw;obtain ⟨gw,x,y,ex,ey,hxy,hy⟩:=pz4 w hwm;unfold iY at gw;rw [ex,ey] at gw
  have et:zs.take (i+1)=zs.take i++[w]:=by rw [eN,hw];rfl
  have ekw:zP w=((x:Int),(y:Int)):=BR ex ey
  have hnk:((x:Int),(y:Int))∉ts.map Ti.key:=by
   rw [hk,jI,← ekw];exact Vr nd (by rw [aB,hw];rfl)
  have hln:ts.length<=i:=by
   have:=congrArg fh hk;rw [ag,ag,bM] at this;lia
  have hi2:=(aC.mp hw).1;obtain ⟨as4,R4,h4⟩:=L4.kp;refine Hm (.of gw) rfl ?_;lk;refine ⟨bK (m:=2) (au 2),λt ht=>?_⟩;have S5:=bJ.cH (o:=.tup [.int x,.int y]) ht;have g5:(upd H4 t (.tup [.int x,.int y])) t=some (.tup ((pk x y).map kV)):=aF;generalize upd H4 t (.tup [.int x,.int y])=H5 at S5 g5;have L5:=L4.same S5
  have hv:iR (kd (ts.map Ti.key)) (pk x y)=none:=by rw [vB];exact uu hnk
  refine .inr ⟨d,_,rfl,Br.t (k:=pk x y) L5.hd g5 (eT (m:=100) (by rw [vB,mf];lia)),?_⟩;rw [Cr _ hv];obtain ⟨h6,P6,tu,_,F6⟩:=L5.st (h4.same S5) dn (kd (ts.map Ti.key)++[(pk x y,.bl true)]);have a6:∀ {c1 c2 c3 c4},Ac H5 p c1 c2 c3 c4->Ac (upd H5 d (.dT (kd (ts.map Ti.key)++[(pk x y,.bl true)]))) p c1 c2 c3 c4:=λq=>q.set L5.hd;generalize upd H5 d (.dT (kd (ts.map Ti.key)++[(pk x y,.bl true)]))=H6 at h6 P6 tu F6 a6;obtain ⟨w',c1,c2,c3,c4,hw',hp⟩:=h6.ob
  have fin:∀ b as' R' H',KP C A H' p dx a n T (ts++[⟨x,y,0,b⟩]) as' R'->Fm (p::fp a) H6 H'->(∀ c1 c2 c3 c4,Ac H6 p c1 c2 c3 c4->Ac H' p (c1+1) c2 c3 c4)->∃ ts o4 o5,Lw C A Pt p dx d a n T ts H'/\gF ts=0/\(∀ c1 c2 c3 c4,Ac H2 p c1 c2 c3 c4->Ac H' p (c1+ts.length) c2 c3 c4)/\ts.map Ti.key=(zs.take (i+1)).map zP/\H' l=some (.lst (zs.map fV))/\(∀ z∈zs,MH n H' z)/\Fm (d::p::Pt::fp a) H2 H'/\[some (V.ref p),some (.int hd),some (.int n),some (.ref d),some (.int x),some (.int y)]=[some (.ref p),some (.int hd),some (.int n),some (.ref d),o4,o5]:=λb as' R' H7 h7 F7 ac7=>by
   obtain ⟨d7,F57⟩:=F6 H7 (F7.mono λb hb=>(aq.mp hb).elim (λz=>z▸aw) λz=>ai _ (ai _ z));refine ⟨_,_,_,⟨⟨_,_,h7⟩,h6.Zh P6 F7,by rw [d7,kd_new]⟩,by rw [Kh,hs4];rfl,λc1 c2 c3 c4 q=>?_,?_,L5.fm F57 (S5 _ _ g4) (λ_ z=>nomatch z) (λ_ _ _ z=>nomatch z) (λ_ z=>nomatch z) ln,λz hz=>⟨L5.tup F57 (S5 _ _ (pz4 z hz).1),(pz4 z hz).2⟩,F4.trans ((Fm.of S5).trans F57),rfl⟩
   .have:=ac7 _ _ _ _ (a6 (Ac.same (ac4 _ _ _ _ q) S5));rw [bb,Jq,← Int.add_assoc];exact this
   rw [et,a9,a9,hk]
   show _++[_]=_++[zP w]
   rw [ekw];rfl
  lk;refine sD (λ_=>?_) λ_=>?_
  .k_in;refine ⟨p,dx,_,rfl,hp,Ey,?_⟩;lk;refine ⟨p,dx,a,n,T,ts,as4,R4,x,y,rfl,ct,h6,by lia,by lia,hy,by lia,by rw [show min x y=x by lia,show max x y=y by lia];exact hnk,by lia,λb as' R' H7 _ h7 F7 ac7=>?_⟩;rw [show min x y=x by lia,show max x y=y by lia] at h7;exact fin b as' R' H7 h7 F7 ac7
  .k_in;refine ⟨p,dx,_,rfl,hp,Ey,?_⟩;lk;refine ⟨p,dx,a,n,T,ts,as4,R4,y,x,rfl,ct,h6,by lia,hy,by lia,by lia,by rw [show min y x=x by lia,show max y x=y by lia];exact hnk,by lia,λb as' R' H7 _ h7 F7 ac7=>?_⟩;rw [show min y x=x by lia,show max y x=y by lia] at h7;exact fin b as' R' H7 h7 F7 ac7
 .rintro Z H4 ⟨ts,o4,o5,L4,hs4,ac4,hk,g4,pz4,F4,rfl⟩;lk;refine k d ts H4 L4 hs4 (λc1 c2 c3 c4 q=>ac4 _ _ _ _ ?_) hd0 dn ?_ λb o hb e=>?_
  .obtain ⟨e1,e2,e3,e4,e5,q⟩:=Ac.same q S1;exact ⟨e1,e2,e3,e4,e5,ST _ _ (λz=>by rw [z,tb1] at q;cases q) q⟩
  .have:=congrArg fh hk;rw [ag,ag,bM] at this;lia
  .simp only [aq,not_or] at hb;refine F4 _ _ ?_ (ST _ _ hb.2.2.1 (S1 _ _ e));simp only [aq,not_or];exact ⟨(λz=>by rw [z,hd0] at e;cases e),hb.1,hb.2.1,hb.2.2.2⟩
variable {X:EC}
section
variable {g:af}
def c9:bJ (dw H g) H:=λ_ _ e=>(pT e).2
def bJ.hide (S:bJ H H'):bJ (dw H g) (dw H' g):=λb o e=>by
 obtain ⟨n,e⟩:=pT e;rw [iZ n];exact S _ _ e
def SQ (B:bf g H H'):bJ (dw H g) (dw H' g):=λb o e=>by
 obtain ⟨n,e⟩:=pT e;rw [iZ n];exact B _ _ e n
def DF {o:HO}:dw (upd H g o) g=dw H g:=funext λb=>by
 by_cases c:b=g
 .rw [c,kJ,kJ]
 .rw [iZ c,iZ c,aG c]
def zG {o:HO}(e:H g=none):dw (upd H g o) g=H:=funext λb=>by
 by_cases c:b=g
 .rw [c,kJ,e]
 .rw [iZ c,aG c]
def KE {d:af}{o:HO}(n:d≠g):dw (upd H d o) g=upd (dw H g) d o:=funext λb=>by
 by_cases c:b=g
 .rw [c,kJ,aG (Ne.symm n),kJ]
 .rw [iZ c]
  by_cases c':b=d
  .rw [c',aF,aF]
  .rw [aG c',aG c',iZ c]
def BL {b:af}{o:HO}{ns:List Int}(hg:H g=some (.lst (ns.map V.int))) (e:H b=some o) (h:∀ xs,o≠.lst xs):dw H g b=some o:=by
 rw [iZ];exact e;rintro rfl;rw [hg] at e;cases e;exact h _ rfl
def Tb.hide {i:Int}{ns:List Int}(tb:Tb H l us ts) (hg:H g=some (.lst ((i::ns).map V.int))):Tb (dw H g) l us ts :=
 ⟨(by rw [iZ];exact tb.g;rintro rfl;have:=tb.g;rw [hg] at this;cases us<;>cases this),λu hu=>BL hg (tb.fl u hu) (λ_ z=>nomatch z),tb.pm,tb.len⟩
end
theorem KF {u:Ti}:∀ {ts:List Ti},(ts.map Ti.key).Nodup->u∈ts->(ts.filter λv=>decide (v.key≠u.key)).length+1=ts.length
 | [],_,hu=>nomatch hu
 | t::ts,hn,hu=>by
  rw [aV,a7] at hn
  by_cases c:t.key=u.key
  .have ef:(ts.filter λv=>decide (v.key≠u.key))=ts:=i7.mpr λv hv=>decide_eq_true λe=>hn.1 (by rw [c,← e];exact bg hv);rw [kx,if_neg (by simp [c]),ef];rfl
  .have hu':u∈ts:=(aq.mp hu).resolve_left λe=>c (by rw [e]);rw [kx,if_pos (by simp [c]),bI,bI,KF hn.2 hu']
inductive cM (K:ae) (C:af) (A:CA) (Pt:af) (vs:List V) (H:Hp) (Q:VK) (E:XK):Prop
 | mk (p dx d g:af) (a:AL) (n T:Nat) (ts:List Ti) (t l:af) (us:List (Ti×af)) (x y:Nat) (c1 c2 c3 c4 c5:Int):vs=[.ref p,.ref g,.ref d,.ref l,.ref t,.int T]->BK K C A->Lw C A Pt p dx d a n T ts (dw H g)->n<=200->d∉a.L::fp a->x<y->y<n->H t=some (.tup [.int x,.int y])->ts.length<90->Tb H l us ts->Ac (dw H g) p c1 c2 c3 c4->H g=some (.lst ((d5 c1 c2 c3 c4 c5).map V.int))->(∀ ts' (e1 e2 e3 e4 o:Int) H',Lw C A Pt p dx d a n T ts' (dw H' g)->ts'.length<=ts.length+1->Ac (dw H' g) p e1 e2 e3 e4->H' g=some (.lst ((d5 e1 e2 e3 e4 c5).map V.int))->e1*T-e3-e4-((T:Int)*ts'.length-gF ts')=c1*T-c3-c4-((T:Int)*ts.length-gF ts)->e2-e3-o<=c2-c3->Fm (d::p::Pt::fp a) (dw H g) (dw H' g)->Q (.int o) H')->cM K C A Pt vs H Q E
theorem E9:Rn (cM K C A Pt) (xQ K C A (Hid (mS K C A Pt)) (jb K C) (Hid (eG K C A)) (j8 K C)) nl_7:=by
 rintro vs H Q E ⟨p,dx,d,g,a,n,T,ts,t,l,us,x,y,c1,c2,c3,c4,c5,rfl,ct,L,hn,dn,hxy,hy,ht,hlen,tb,ac,hg,k⟩;obtain ⟨as,R,h⟩:=L.kp;have hd:=c9 _ _ L.hd;have ndg:d≠g:=(pT L.hd).1;unfold xQ;lk;refine .inr ⟨d,_,rfl,wG.t (k:=pk x y) hd ht,?_⟩
 by_cases hk:((x:Int),(y:Int))∈ts.map Ti.key
 .obtain ⟨u,hu,eu⟩:=bq.mp hk;obtain ⟨e1,e2⟩:=cJ eu
  obtain rfl:u.x=x:=by lia
  obtain rfl:u.y=y:=by lia
  have hv:iR (kd (ts.map Ti.key)) (pk u.x u.y)=some (.bl true):=by rw [vB];exact gU (f:=λ_=>V.bl true) h.iv.nd hu
  rw [hv];lk;rw [if_pos (by rfl)];lk;refine ⟨.inr (.inr (.inl ⟨rfl,.inr ⟨_,hd⟩⟩)),?_⟩;lk;refine ⟨d,_,pk u.x u.y,t,.bl true,rfl,rfl,hd,ht,hv,?_⟩;obtain ⟨h1,P1,tu,tbl,F1⟩:=L.st h dn (mM (kd (ts.map Ti.key)) (pk u.x u.y));have tb1:=tbl (tb.hide hg);have ac1:Ac (upd (dw H g) d (.dT (mM (kd (ts.map Ti.key)) (pk u.x u.y)))) p c1 c2 c3 c4:=ac.set L.hd;have t1:=tu (BL hg ht (λ_ z=>nomatch z));have g1:(upd H d (.dT (mM (kd (ts.map Ti.key)) (pk u.x u.y)))) g=some (.lst ((d5 c1 c2 c3 c4 c5).map V.int)):=(aG (Ne.symm ndg)).trans hg;rw [← KE ndg] at h1 P1 tb1 ac1 t1 F1;generalize upd H d (.dT (mM (kd (ts.map Ti.key)) (pk u.x u.y)))=H1 at h1 P1 tb1 ac1 t1 F1 g1;lk;refine Hw ?_;lk;refine ⟨g,_,3,.int c4,rfl,rfl,dm.of g1,rfl,?_⟩;lk;refine ⟨l,t,us,ts,u,rfl,tb1.same c9,h.iv.nd,hu,c9 _ _ t1,λH2 S2=>?_⟩;lk;refine ⟨_,_,rfl,rfl,?_⟩;refine ⟨g,_,3,3,rfl,rfl,S2 _ _ g1,rfl,?_⟩
  obtain ⟨H3,e3⟩:∃ H3,upd H2 g (.lst (((d5 c1 c2 c3 c4 c5).map V.int).set 3 (.int (c4+((T:Int)-u.cC)))))=H3:=⟨_,rfl⟩
  have S12:bJ (dw H1 g) (dw H3 g):=by rw [← e3,DF];exact bJ.hide S2
  have g3:H3 g=some (.lst ((d5 c1 c2 c3 (c4+((T:Int)-u.cC)) c5).map V.int)):=by rw [← e3];exact aF
  dsimp only;rw [e3];have h3:=h1.same S12;obtain ⟨w,b1,b2,b3,b4,hw,hp⟩:=h3.ob;have t3:=c9 _ _ (S12 _ _ t1);k_in;refine ⟨p,dx,_,rfl,c9 _ _ hp,Ey,?_⟩;lk;refine fU (jq.of t3) (v:=.int u.y) rfl ?_;lk;refine fU (jq.of t3) (v:=.int u.x) rfl ?_;lk
  have em1:min u.y u.x=u.x:=by lia
  have em2:max u.y u.x=u.y:=by lia
  refine .inr ⟨g,_,g3,p,dx,a,n,T,ts,as,R,u.y,u.x,rfl,ct,h3,hn,hy,by lia,by lia,by rw [em1,em2];exact hk,by lia,P1.same S12,λq ws v ts' as' R' H4 hv' ev gq oks hlu hf hs ac4 h4 ek P4 F4 hg4=>?_⟩;rw [em1,em2] at ev ek;obtain rfl:v=u:=m7 h.iv.nd hv' hu ev;obtain ⟨d4,F⟩:=F1 H4 ((Fm.of S12).trans F4);have ac4:=ac4 _ _ _ _ (ac1.same S12)
  obtain ⟨H5,e5⟩:∃ H5,upd H4 g (.lst ((d5 c1 c2 c3 (c4+((T:Int)-v.cC)) c5).map V.int))=H5:=⟨_,rfl⟩
  have nh:∀ {b:af}{o:HO},H4 b=some o->H5 b=some o:=λ{b o} e=>by rw [← e5,aG (aR e hg4)];exact e
  have g5:H5 g=some (.lst ((d5 c1 c2 c3 (c4+((T:Int)-v.cC)) c5).map V.int)):=by rw [← e5];exact aF
  rw [e5]
  have e5:dw H5 g=H4:=by rw [← e5];exact zG hg4
  lk;refine MI (nh gq) λH6 S6=>?_;lk;refine .inr ⟨_,rfl,?_⟩;lk;refine ⟨g,q,ws,c1,c2,c3,c4+((T:Int)-v.cC),c5,rfl,S6 _ _ g5,S6 _ _ (nh gq),λv hv=>⟨⟨S6 _ _ (nh (oks v hv).1.1),S6 _ _ (nh (oks v hv).1.2)⟩,(oks v hv).2⟩,λH7 g7 B7=>?_⟩
  have S47:bJ H4 (dw H7 g):=by
   have:=(bJ.hide (g:=g) S6).trans (SQ B7)
   rwa [e5] at this
  lk
  have hl':ts'.length+1=ts.length:=by
   have:=congrArg fh ek;rw [ag,oE,ag] at this;rw [this];exact KF h.iv.nd hu
  refine k ts' _ _ _ _ _ H7 ⟨⟨_,_,h4.same S47⟩,P4.same S47,S47 _ _ ?_⟩ (by lia) (ac4.same S47) g7 ?_ ?_ (F.trans (Fm.of S47))
  .rw [d4,vB,BJ,← vB,ek,oE];rfl
  .have e:(ts.length:Int)=ts'.length+1:=by lia
   rw [e,Ua];lia
  .cases ws with
   | nil =>
    show c2+((0:Nat):Int)-(c3+((0:Nat):Int))-0<=c2-c3
    lia
   | cons w ws =>
    show c2+((E5 (w::ws)+GR (w::ws):Nat):Int)-(c3+((E5 (w::ws):Nat):Int))-1<=c2-c3
    lia
 .have hv:iR (kd (ts.map Ti.key)) (pk x y)=none:=by rw [vB];exact uu hk
  rw [hv];lk;rw [if_neg (by simp)];lk;refine .inr ⟨d,_,rfl,Br.t (k:=pk x y) hd ht (eT (m:=100) (by rw [vB,mf];lia)),?_⟩;rw [Cr _ hv];obtain ⟨h1,P1,tu,tbl,F1⟩:=L.st h dn (kd (ts.map Ti.key)++[(pk x y,.bl true)]);have ac1:Ac (upd (dw H g) d (.dT (kd (ts.map Ti.key)++[(pk x y,.bl true)]))) p c1 c2 c3 c4:=ac.set L.hd;have t1:=tu (BL hg ht (λ_ z=>nomatch z));have g1:(upd H d (.dT (kd (ts.map Ti.key)++[(pk x y,.bl true)]))) g=some (.lst ((d5 c1 c2 c3 c4 c5).map V.int)):=(aG (Ne.symm ndg)).trans hg;rw [← KE ndg] at h1 P1 ac1 t1 F1;generalize upd H d (.dT (kd (ts.map Ti.key)++[(pk x y,.bl true)]))=H1 at h1 P1 ac1 t1 F1 g1;lk;refine Hw ?_;lk;refine ⟨g,_,0,.int c1,rfl,rfl,dm.of g1,rfl,?_⟩;lk;refine ⟨_,_,rfl,rfl,?_⟩;refine ⟨g,_,0,0,rfl,rfl,g1,rfl,?_⟩
  obtain ⟨H3,e3⟩:∃ H3,upd H1 g (.lst (((d5 c1 c2 c3 c4 c5).map V.int).set 0 (.int (c1+1))))=H3:=⟨_,rfl⟩
  have S12:bJ (dw H1 g) (dw H3 g):=by rw [← e3,DF];exact λ_ _ e=>e
  have g3:H3 g=some (.lst ((d5 (c1+1) c2 c3 c4 c5).map V.int)):=by rw [← e3];exact aF
  dsimp only;rw [e3];have h3:=h1.same S12;obtain ⟨w,b1,b2,b3,b4,hw,hp⟩:=h3.ob;have t3:=c9 _ _ (S12 _ _ t1);k_in;refine ⟨p,dx,_,rfl,c9 _ _ hp,Ey,?_⟩;lk;refine fU (jq.of t3) (v:=.int x) rfl ?_;lk;refine fU (jq.of t3) (v:=.int y) rfl ?_;lk
  have em1:min x y=x:=by lia
  have em2:max x y=y:=by lia
  refine .inr ⟨g,_,g3,p,dx,a,n,T,ts,as,R,x,y,rfl,ct,h3,hn,by lia,hy,by lia,by rw [em1,em2];exact hk,by lia,λb as' R' H4 _ h4 F4 ac4 hg4=>?_⟩;rw [em1,em2] at h4;have F4':Fm (p::Pt::fp a) (dw H3 g) H4:=F4.mono λb hb=>(aq.mp hb).elim (λz=>z▸aw) λz=>ai _ (ai _ z);obtain ⟨d4,F⟩:=F1 H4 ((Fm.of S12).trans F4');have ac4:=ac4 _ _ _ _ (ac1.same S12)
  obtain ⟨H5,e5⟩:∃ H5,upd H4 g (.lst ((d5 (c1+1) c2 c3 c4 c5).map V.int))=H5:=⟨_,rfl⟩
  have g5:H5 g=some (.lst ((d5 (c1+1) c2 c3 c4 c5).map V.int)):=by rw [← e5];exact aF
  have P4:=h3.Zh (P1.same S12) F4;rw [e5]
  have e5:dw H5 g=H4:=by rw [← e5];exact zG hg4
  rw [← e5] at h4 d4 F ac4 P4;lk;refine k _ _ _ _ _ _ H5 ⟨⟨_,_,h4⟩,P4,by rw [d4,kd_new]⟩ (by rw [bb];exact au _) ac4 g5 ?_ (by lia) F;rw [Kh,bb,Jq,Ua,Int.add_mul]
  show c1 * ↑T+1 * ↑T-c3-c4-(↑T * ↑ts.length + ↑T*1-((gF ts+0:Nat):Int))=_
  lia
inductive DG (K:ae) (Pt1 Pt2:af) (vs:List V) (H:Hp) (Q:VK) (E:XK):Prop
 | mk (a:af) (ns:List Int):vs=[.ref a]->dm K H a (ns.map V.int)->ns.length<=63->Pt1≠Pt2->rX Pt1 H->LT2 Pt2 H->(∀ H',Q (.bl true) H')->DG K Pt1 Pt2 vs H Q E
def Cl (n:Nat) (b:Bool) (H:Hp) (q:af) (m:Nat):Prop:=(b=true/\∃ zs:List Zt,zs.length=m/\H q=some (.lst (zs.map fV))/\∀ z∈zs,MH n H z)\/b=false/\∃ ns:List Int,ns.length=m/\H q=some (.lst (ns.map V.int))
abbrev sgL (s:af) (b:Bool) (z n T0:Int) (p d q g:af) (o:Int) (r:af) (u v:Option V):L2.St:=[some (.ref s),some (.bl b),some (.int z),some (.int n),some (.int T0),some (.ref p),some (.ref d),some (.ref q),some (.ref g),some (.int o),some (.ref r),u,v]
abbrev LwI (C:af) (A:CA) (Pt1 p dx d:af) (a:AL) (n T0:Nat) (b:Bool) (q:af) (m:Nat) (s:af) (z:Int) (g:af) (i:Nat) (Z:L2.St) (H4:Hp):Prop:=∃ (ts:List Ti) (r:af) (us:List (Ti×af)) (c1 c2 c3 c4 o:Int) (o8 o9:Option V),Lw C A Pt1 p dx d a n T0 ts (dw H4 g)/\ts.length+m<=90+i/\ts.length<95/\Tb H4 r us ts/\Cl n b (dw H4 g) q m/\Ac (dw H4 g) p c1 c2 c3 c4/\H4 g=some (.lst ((d5 c1 c2 c3 c4 ((T0:Int)*(ts.length:Nat)-(gF ts:Nat))).map V.int))/\c1*T0=c3+c4+((T0:Int)*(ts.length:Nat)-(gF ts:Nat))/\c2<=c3+o/\Z=sgL s b z n T0 p d q g o r o8 o9
theorem Vs {Pt1 Pt2:af}{X:EC}(ct:BK K C A):Rn (DG K Pt1 Pt2) (Sz K C A (dg K C) (bU K C A) (cb K C A) (cD K C) (bu K C) (bZ K C) (cu K C A Pt2) (cM K C A Pt1) (bT K C A) (cN K C) (bV K C A X)) nl_1:=by
 rintro vs H Q E ⟨s,ns,rfl,hS,hlen,hne,hP,hT,k⟩;unfold Sz;lk;refine ⟨s,ns,0,rfl,hS,λz=>?_⟩;lk;refine ⟨s,ns,0,rfl,hS,λz'=>?_⟩;k_ne;k_ne;k_ne;k_ne;k_ne;k_ne;k_ne;k_ne;k_ne;k_ne;k_ne;k_ne;k_ne;generalize hb:decide (V.int (z%2)=V.int 0)=b
 obtain ⟨m,em1,hm1,hm2⟩:∃ m:Nat,(2+z'/2%23:Int)=(m:Int)/\2<=m/\m<=24:=⟨(2+z'/2%23).toNat,by lia,by lia,by lia⟩
 obtain ⟨m2,em2,hm3,hm4⟩:∃ m:Nat,(30+z'/2/184%171:Int)=(m:Int)/\2<=m/\m<=200:=⟨(30+z'/2/184%171).toNat,by lia,by lia,by lia⟩
 with_reducible refine zE (λZ H1=>H=H1/\∃ n:Nat,2<=n/\n<=200/\(b=true->n<=24)/\Z=[some (.ref s),some (.bl b),some (.int (z'/2)),some (.int n),none,none,none,none,none,none,none,none,none]) ?_ λgo=>?_
 rotate_left
 .lk;refine ⟨_,rfl,?_⟩
  cases b with
  | true=>exact lI (lI (go _ _ ⟨rfl,m,hm1,by lia,λ_=>hm2,by rw [em1];rfl⟩))
  | false =>
   refine l0 ?_;lk;refine sD (λ_=>?_) λ_=>?_
   .k_ne;k_ne;k_ne;k_ne;k_ne;k_ne;k_ne;k_ne;k_ne;k_ne;k_ne;refine go _ _ ⟨rfl,m2,hm3,hm4,(λz=>nomatch z),?_⟩;rw [em2];rfl
   .exact go _ _ ⟨rfl,m,hm1,by lia,(λz=>nomatch z),by rw [em1];rfl⟩
 rintro Z H1 ⟨rfl,n,hn1,hn2,hb24,rfl⟩;lk;refine ⟨n,rfl,λT0 tp0=>?_⟩;lk;refine MG ?_;lk;intro p dx hp hdx _
 have T0':bJ H (upd (upd H dx (.own p)) p (.ins A.Keeper dx [])):=λb o e=>by rw [aG (aR e hp),aG (aR e hdx)];exact e
 refine ⟨p,dx,n,rfl,aF,ct,by lia,by lia,λa T as H3 k3 B3 fr3 ac3=>⟨rfl,?_⟩⟩;have S3:bJ H H3:=λb o e=>B3 _ _ (T0' _ _ e) (aR e hp);obtain rfl:=tp0.one k3.tp;have hT8:=k3.tp.small (by lia);obtain ⟨w,b1,b2,b3,b4,hw,hp3⟩:=k3.ob;k_in;refine ⟨p,dx,_,rfl,hp3,Ey,?_⟩;lk;refine ⟨p,dx,a,n,_,[],as,_,0,0,0,0,rfl,ct,k3,by decide,ac3,λt H4 S4 gt=>?_⟩;lk;refine ⟨t,_,rfl,.inr (jq.of gt),λq1 hq1=>?_⟩;have S5:=bJ.cH (o:=.lst [.int 0,.int 0,.int 0,.int 0,.int ((T0:Int)*(([]:List Ti).length:Nat)-(gF []:Nat))]) hq1;have g5:(upd H4 q1 (.lst [.int 0,.int 0,.int 0,.int 0,.int ((T0:Int)*(([]:List Ti).length:Nat)-(gF []:Nat))])) q1=_:=aF;lk;refine ⟨bK (m:=5) (au 5),λq2 hq2=>?_⟩;have S6:=bJ.cH (o:=.lst [.int 0,.int 0,.int 0,.int 0,.int 0]) hq2;have g6:(upd (upd H4 q1 (.lst [.int 0,.int 0,.int 0,.int 0,.int ((T0:Int)*(([]:List Ti).length:Nat)-(gF []:Nat))])) q2 (.lst [.int 0,.int 0,.int 0,.int 0,.int 0])) q2=_:=aF;refine Q6 (sE (ns:=d5 0 0 0 0 ((T0:Int)*(([]:List Ti).length:Nat)-(gF []:Nat))) (dm.of (S6 _ _ g5))) (sE (ns:=d5 0 0 0 0 0) (dm.of g6)) (uo _) (uo _) ?_;rw [JS,decide_eq_true (by simp [d5,gF])];refine ⟨_,rfl,lI ?_⟩;have S46:=(S4.trans S5).trans S6;generalize upd (upd H4 q1 (.lst [.int 0,.int 0,.int 0,.int 0,.int ((T0:Int)*(([]:List Ti).length:Nat)-(gF []:Nat))])) q2 (.lst [.int 0,.int 0,.int 0,.int 0,.int 0])=H6 at S46;have S06:=S3.trans S46;have k6:=k3.same S46;have ac6:=ac3.same S46;lk;intro d hd;generalize eu_:upd H6 d (.dT [])=H7;obtain ⟨S7,g7⟩:=kP eu_ hd;have S07:=S06.trans S7;have h7:=k6.same S7
 have dn:d∉a.L::fp a:=λz=>by
  rcases aq.mp z with q|q
  .have:=k6.lv.ls;rw [← q,hd] at this;cases this
  .exact k6.lv.yI hd q
 lk;refine Gr (S07.seq hS) λq hq=>?_
 obtain ⟨ms,em3,hml⟩:∃ ms:List Int,vY (ns.map V.int) (some 1) (some 31)=ms.map V.int/\ms.length<=30:=by
  refine ⟨(ns.drop 1).take 30,?_,by rw [bM];lia⟩;rw [NL (show (1:Int)=((1:Nat):Int) from rfl) (show (31:Int)=((31:Nat):Int) from rfl),← z9,← jI]
 rw [em3];generalize eu_:upd H7 q (.lst (ms.map V.int))=H8;obtain ⟨S8,g8⟩:=kP eu_ hq;have S08:=S07.trans S8;have h8:=h7.same S8;have ac8:=(ac6.same S7).same S8;k_ne
 with_reducible refine zE (λZ H7=>∃ d q m ts,Lw C A Pt1 p dx d a n T0 ts H7/\gF ts=0/\Ac H7 p ts.length 0 0 0/\d∉a.L::fp a/\ts.length+m<=90/\Cl n b H7 q m/\q∉fp a/\m<=40/\Z=[some (.ref s),some (.bl b),some (.int (z'/2)),some (.int n),some (.int T0),some (.ref p),some (.ref d),some (.ref q),none,none,none,none,none]) ?_ λgo=>?_
 rotate_left
 .lk;refine ⟨_,rfl,?_⟩
  cases b with
  | true =>
   refine l0 ?_;lk;refine ⟨s,ns,n,rfl,S08.seq hS,by lia,hb24 rfl,λl zs H9 S9 hl g9 pz hzl=>?_⟩;k_ne
   exact go _ _ ⟨d,l,zs.length,[],⟨⟨_,_,h8.same S9⟩,hP.same (S08.trans S9),S9 _ _ (S8 _ _ g7)⟩,rfl,ac8.same S9,dn,by rw [lz];lia,.inl ⟨rfl,zs,rfl,g9,pz⟩,h8.lv.yI hl,hzl,rfl⟩
  | false =>
   refine lI ?_;lk;refine ⟨Pt1,p,dx,a,n,T0,_,_,z'/2/23,rfl,ct,h8,by lia,hn2,hne,hP.same S08,hT.same S08,λd' ts H9 L9 hs9 ac9 _ dn' hl9 F9=>?_⟩;k_ne;refine go _ _ ⟨d',q,ms.length,ts,L9,hs9,by have:=ac9 _ _ _ _ ac8;rwa [m5] at this,dn',by lia,.inr ⟨rfl,ms,rfl,F9 _ _ (λz=>?_) g8⟩,h7.lv.yI hq,by lia,rfl⟩;simp only [aq] at z
   rcases z with z|z|z|z
   .obtain ⟨fs,hp⟩:=h8.p0;exact (gJ g8 hp) z
   .exact (hP.same S08).ne g8 (λ_ z=>nomatch z) z
   .obtain ⟨ps,e⟩:=(hT.same S08).tbl;exact (gJ g8 e) z
   .exact h7.lv.yI hq z
 rintro Z H9 ⟨d,q,m,ts,L9,hs9,ac9,dn,hl9,C9,qn,hm,rfl⟩;obtain ⟨as9,R9,h9⟩:=L9.kp;lk;refine ⟨d,_,rfl,L9.hd,?_⟩;rw [vB,mf];lk;refine ⟨d,_,rfl,L9.hd,?_⟩;rw [vB,mf];lk;refine ⟨bK (m:=5) (au 5),λg hg=>?_⟩;have e10:dw (upd H9 g (.lst [.int (ts.length:Nat),.int 0,.int 0,.int 0,.int ((T0:Int)*(ts.length:Nat))])) g=H9:=zG hg;have g10:(upd H9 g (.lst [.int (ts.length:Nat),.int 0,.int 0,.int 0,.int ((T0:Int)*(ts.length:Nat))])) g=some (.lst ((d5 ts.length 0 0 0 ((T0:Int)*(ts.length:Nat))).map V.int)):=aF;generalize upd H9 g (.lst [.int (ts.length:Nat),.int 0,.int 0,.int 0,.int ((T0:Int)*(ts.length:Nat))])=H10 at e10 g10;rw [← e10] at L9 ac9 C9 h9;obtain ⟨w,b1,b2,b3,b4,hw,hp9⟩:=h9.ob;k_in;refine ⟨p,dx,_,rfl,c9 _ _ hp9,Ey,?_⟩;lk;refine ⟨p,dx,a,n,T0,ts,as9,R9,rfl,ct,h9.same c9,by lia,λr us H11 hr gr fl pm S11=>?_⟩
 have hul:us.length=ts.length:=by have:=pm.length_eq;rwa [ag] at this
 have tb11:Tb H11 r us ts:=⟨gr,fl,pm,by lia⟩
 have S11h:bJ (dw H10 g) (dw H11 g):=bJ.hide S11
 have C11:Cl n b (dw H11 g) q m:=C9.imp (λ⟨e,zs,h1,h2,h3⟩=>⟨e,zs,h1,S11h _ _ h2,λz hz=>⟨S11h _ _ (h3 z hz).1,(h3 z hz).2⟩⟩) λ⟨e,ns,h1,h2⟩=>⟨e,ns,h1,S11h _ _ h2⟩
 lk;unfold Kz;lk
 have hlm:∀ {H':Hp},Cl n b H' q m->∃ xs:List V,xs.length=m/\H' q=some (.lst xs):=λ{H'} c=>by
  rcases c with ⟨_,zs,e,g,_⟩|⟨_,ns,e,g⟩
  .exact ⟨_,by rw [ag];exact e,g⟩
  .exact ⟨_,by rw [ag];exact e,g⟩
 obtain ⟨xs,hxl,gx⟩:=hlm C11;refine qC (dm.of (c9 _ _ gx)) ?_;rw [hxl];lk;refine ⟨by lia,by lia,ui (LwI C A Pt1 p dx d a n T0 b q m s (z'/2) g) ⟨ts,r,us,ts.length,0,0,0,0,_,_,L9.same S11h,by lia,by lia,tb11,C11,ac9.same S11h,?_,?_,by lia,rfl⟩ ?_ ?_⟩
 .rw [hs9]
  show H11 g=some (.lst ((d5 ts.length 0 0 0 ((T0:Int)*(ts.length:Nat)-0)).map V.int))
  rw [Int.sub_zero];exact S11 _ _ g10
 .rw [hs9,Int.mul_comm]
  show _=(0:Int)+0+(_-0)
  lia
 .rintro i Z H4 hi ⟨ts,r,us,c1,c2,c3,c4,o,o8,o9,L4,hl4,hl95,tb4,C4,ac4,g4,he1,he2,rfl⟩;obtain ⟨as4,R4,h4⟩:=L4.kp
  obtain ⟨k5,g4⟩:∃ k5,H4 g=some (.lst ((d5 c1 c2 c3 c4 k5).map V.int)):=⟨_,g4⟩
  k_ne
  with_reducible refine zE (λZ H5=>H4=H5/\∃ v:V,(b=true/\(∃ (t:af) (x y:Nat),v=.ref t/\H4 t=some (.tup [.int x,.int y])/\x<y/\y<n)\/b=false)/\Z=sgL s b (z'/2) n T0 p d q g o r (some (.int (0+(i:Int)))) (some v)) ?_ λgo=>?_
  rotate_left
  .lk
   rcases id C4 with ⟨eb,zs,hzl,gz,pz⟩|⟨eb,ns',hnl,gn⟩
   .have hj:i<zs.length:=by lia
    have gi:zs[i]?=some zs[i]:=aA hj;obtain ⟨gw,x,y,ex,ey,hxy,hy⟩:=pz _ (i9 hj);generalize zs[i]=w at gi gw ex ey;unfold iY at gw;rw [ex,ey] at gw;refine mO (dm.of (c9 _ _ gz)) (v:=fV w) (eZ (m5 _) (by rw [aB,gi];rfl)) ?_;k_ne;exact go _ _ ⟨rfl,fV w,.inl ⟨eb,w.2.2,x,y,rfl,c9 _ _ gw,hxy,hy⟩,rfl⟩
   .have hj:i<ns'.length:=by lia
    have gi:ns'[i]?=some ns'[i]:=aA hj;generalize ns'[i]=c at gi;refine JU (dm.of (c9 _ _ gn)) (m5 _) gi ?_;k_ne;exact go _ _ ⟨rfl,_,.inr eb,rfl⟩
  rintro Z H5 ⟨rfl,v,hv,rfl⟩
  with_reducible refine zE (λZ H5=>∃ (t:af) (x y:Nat),bJ H4 H5/\H5 t=some (.tup [.int x,.int y])/\x<y/\y<n/\Z=sgL s b (z'/2) n T0 p d q g o r (some (.int (0+(i:Int)))) (some (.ref t))) ?_ λgo=>?_
  rotate_left
  .lk;refine ⟨_,rfl,?_⟩
   rcases hv with ⟨rfl,t,x,y,rfl,ht,hxy,hy⟩|rfl
   .exact lI (go _ _ ⟨t,x,y,(λ_ _ e=>e),ht,hxy,hy,rfl⟩)
   .obtain ⟨z,_⟩|⟨_,ns',hnl,gn⟩:=C4
    .cases z
    have hj:i<ns'.length:=by lia
    have gi:ns'[i]?=some ns'[i]:=aA hj;generalize ns'[i]=c at gi;refine l0 ?_;lk;refine JU (dm.of (c9 _ _ gn)) (m5 _) gi ?_;lk;refine ⟨c,i+1,n,r,us,ts,by rw [m5];rfl,hn1,hn2,by lia,tb4,λt ht=>⟨(h4.iv.lt t ht).1,(h4.iv.lt t ht).2.1⟩,λt x y H5 S5 gt hxy hy=>?_⟩;k_ne;exact go _ _ ⟨t,x,y,S5,gt,hxy,hy,rfl⟩
  rintro Z H5 ⟨t,x,y,S5,ht,hxy,hy,rfl⟩;have S5h:bJ (dw H4 g) (dw H5 g):=bJ.hide S5;have L5:=L4.same S5h;have g5:=S5 _ _ g4;lk;refine ⟨p,dx,d,g,a,n,T0,ts,t,r,us,x,y,c1,c2,c3,c4,_,rfl,ct,L5,hn2,dn,hxy,hy,ht,by lia,tb4.same S5,ac4.same S5h,g5,λts' e1 e2 e3 e4 o' H6 L6 hl6 ac6 g6 hc6 hd6 F6=>?_⟩;obtain ⟨as6,R6,h6⟩:=L6.kp;have t6:=c9 _ _ (L5.tup F6 (BL g5 ht (λ_ z=>nomatch z)))
  have C6:Cl n b (dw H6 g) q m:=C4.imp (λ⟨e,zs,h1,h2,h3⟩=>⟨e,zs,h1,L5.fm F6 (S5h _ _ h2) (λ_ z=>nomatch z) (λ_ _ _ z=>nomatch z) (λ_ z=>nomatch z) qn,λz hz=>⟨L5.tup F6 (S5h _ _ (h3 z hz).1),(h3 z hz).2⟩⟩) λ⟨e,ns,h1,h2⟩=>⟨e,ns,h1,L5.fm F6 (S5h _ _ h2) (λ_ z=>nomatch z) (λ_ _ _ z=>nomatch z) (λ_ z=>nomatch z) qn⟩
  lk;refine .inr ⟨d,_,rfl,wG.t (k:=pk x y) (c9 _ _ L6.hd) t6,?_⟩;rw [show (if false=true then !(iR (kd (ts'.map Ti.key)) (pk x y)).isSome else (iR (kd (ts'.map Ti.key)) (pk x y)).isSome)=(iR (kd (ts'.map Ti.key)) (pk x y)).isSome from rfl];lk;refine fU (jq.of t6) (v:=.int x) rfl ?_;lk;refine fU (jq.of t6) (v:=.int y) rfl ?_;lk;have k6:=h6.same c9
  have due:Pp X n (kl ts') x y (iR (kd (ts'.map Ti.key)) (pk x y)).isSome (if (iR (kd (ts'.map Ti.key)) (pk x y)).isSome then X.Pu else X.GV):=by
   refine ⟨by lia,hy,.inr ⟨by lia,?_,rfl⟩⟩;rw [show min x y=x by lia,show max x y=y by lia,vB]
   by_cases hk:((x:Int),(y:Int))∈ts'.map Ti.key
   .obtain ⟨u,hu,eu⟩:=bq.mp hk;obtain ⟨f1,f2⟩:=cJ eu
    obtain rfl:u.x=x:=by lia
    obtain rfl:u.y=y:=by lia
    rw [gU h6.iv.nd hu,gU h6.iv.nd hu];rfl
   .rw [uu hk,uu hk]
  refine ⟨p,dx,a,n,T0,ts',as6,R6,x,y,_,_,rfl,ct,k6,due,λH7 S7=>⟨true,rfl,lI ?_⟩⟩;lk;refine ⟨p,dx,a,n,T0,ts',as6,R6,0,0,X.Alike,true,rfl,ct,k6.same S7,⟨by lia,by lia,.inl ⟨rfl,rfl⟩⟩,λH8 S8=>⟨true,rfl,lI ?_⟩⟩;have S68:=S7.trans S8;have k8:=k6.same S68;obtain ⟨w,b1,b2,b3,b4,hw,hp8⟩:=k8.ob;k_in;refine ⟨p,dx,_,rfl,hp8,Ey,?_⟩;lk;refine ⟨p,dx,a,n,T0,ts',as6,R6,rfl,ct,k8,by lia,λr' us' H9 hr gr fl pm S9=>?_⟩
  have hul:us'.length=ts'.length:=by have:=pm.length_eq;rwa [ag] at this
  have S69:=S68.trans S9;lk;refine .inl ⟨⟨_,dm.of gr⟩,λacc hacc=>qD (K:=K) us' (λ_=>true) (λu=>.int ((T0:Int)-u.1.cC)) (λZ=>∃ o,Z=[o,some (.int T0)]) (by rw [ag]) (dm.of gr) hacc ⟨_,rfl⟩ (by rw [ag];lia) ?_ λH10 S10 g10=>?_⟩
  .rintro i u x σ' H' G G' hu hx S' ⟨o,rfl⟩ hG hG';rw [aB,hu] at hx;cases hx;lk;refine l0 ?_;lk;refine fU (jq.of (S' _ _ (fl u (aN hu)))) (v:=.int u.1.cC) rfl ?_;lk;exact hG rfl _ ⟨_,rfl⟩
  rw [i7.mpr λ_ _=>rfl] at g10;have S6A:=S69.trans S10;lk;refine ⟨acc,(us'.map λu=>(T0:Int)-u.1.cC),rfl,by rw [cz];exact dm.of g10,?_⟩;rw [WR pm];lk;refine Q3 (S6A _ _ g6) (Ra (j:=4) rfl (by simp [d5])) ?_
  obtain ⟨HB,eB⟩:∃ HB,upd H10 g (.lst (((d5 e1 e2 e3 e4 k5).map V.int).set 4 (.int ((T0:Int)*(ts'.length:Nat)-(gF ts':Nat)))))=HB:=⟨_,rfl⟩
  have gB:HB g=some (.lst ((d5 e1 e2 e3 e4 ((T0:Int)*(ts'.length:Nat)-(gF ts':Nat))).map V.int)):=by rw [← eB];exact aF
  have hB:dw HB g=dw H10 g:=by rw [← eB];exact DF
  have SB:bJ (dw H6 g) (dw HB g):=by rw [hB];exact bJ.hide S6A
  have tbB:Tb (dw HB g) r' us' ts':=by
   rw [hB];exact Tb.hide (Tb.same ⟨gr,fl,pm,by lia⟩ S10) (S6A _ _ g6)
  rw [eB];have kB:=h6.same SB;obtain ⟨w,b1,b2,b3,b4,hw,hpB⟩:=kB.ob
  have he3:e1*T0=e3+e4+((T0:Int)*(ts'.length:Nat)-(gF ts':Nat)):=by lia
  have he4:e2<=e3+(o+o'):=by lia
  k_in;refine ⟨p,dx,_,rfl,c9 _ _ hpB,Ey,?_⟩;lk;refine ⟨p,dx,a,n,T0,ts',as6,R6,e1,e2,e3,e4,rfl,ct,kB.same c9,by lia,(ac6.same SB).same c9,λt' HC SC gt=>?_⟩;lk;refine ⟨t',g,e1,e2,e3,e4,_,T0,o+o',rfl,gt,SC _ _ gB,he3,he4,by lia,by lia,λHD SD=>⟨true,rfl,lI ?_⟩⟩;have SE:=SC.trans SD;have SEh:=SB.trans (bJ.hide (g:=g) SE);lk;exact ⟨ts',r',us',e1,e2,e3,e4,o+o',_,_,L6.same SEh,by lia,by lia,(tbB.same c9).same SE,C6.imp (λ⟨e,zs,h1,h2,h3⟩=>⟨e,zs,h1,SEh _ _ h2,λz hz=>⟨SEh _ _ (h3 z hz).1,(h3 z hz).2⟩⟩) λ⟨e,ns,h1,h2⟩=>⟨e,ns,h1,SEh _ _ h2⟩,ac6.same SEh,SE _ _ gB,he3,he4,rfl⟩
 .rintro Z H4 ⟨ts,r,us,c1,c2,c3,c4,o,o8,o9,L4,hl4,hl95,tb4,C4,ac4,g4,he1,he2,rfl⟩;obtain ⟨as4,R4,h4⟩:=L4.kp;obtain ⟨w,b1,b2,b3,b4,hw,hp4⟩:=h4.ob;k_in;refine ⟨p,dx,_,rfl,c9 _ _ hp4,Ey,?_⟩;lk;refine ⟨p,dx,a,n,T0,ts,as4,R4,c1,c2,c3,c4,rfl,ct,h4.same c9,by lia,ac4.same c9,λt H5 S5 gt=>?_⟩;lk;exact ⟨t,g,c1,c2,c3,c4,_,T0,o,rfl,gt,S5 _ _ g4,he1,he2,by lia,by lia,λH6 _=>k H6⟩
end K63
namespace K63
local macro_rules | `(tactic| walk_at "oz")=>`(tactic| first|exact rfl|with_reducible assumption|exact lP|exact .inl rfl|exact .inr rfl|exact ir _|exact λ_=>rfl|exact λ_ _=>rfl|(exact .inr (.inl rfl))|(exact .inr (.inr rfl))|exact eO|assumption|decide|exact gZ.mono (by assumption) (by decide)|exact gZ.units (by assumption)|with_unfolding_all rfl)
local macro_rules | `(tactic| walk_at "oc")=>`(tactic| first|exact zb|exact Cs|exact F0 rfl|exact OL rfl|exact xr|exact O0|exact call_sortedE rfl|exact GA rfl)
local macro_rules | `(tactic| walk_at "op")=>`(tactic| first|exact jN|exact G6|exact y3|exact uj|exact XA|exact JC|exact NC|exact QJ|exact V3|exact l6 (gZ.units (by assumption))|exact Hl (gZ.units (by assumption))|exact Mg (gZ.units (by assumption))|exact Gp (gZ.units (by assumption))|exact op_eqL (gZ.units (by assumption))|exact Yw (gZ.units (by assumption)))
local macro_rules | `(tactic| walk_at "ob")=>`(tactic| first|exact BootT.len|exact BootT.v9|exact BootT.min|exact BootT.max|exact BootT.Ct|exact BootT.list|exact BootT.tuple|exact BootT.bool)
local macro_rules | `(tactic| walk_at "om")=>`(tactic| first|exact Ex.TK (by assumption)|exact Ex.qT (by assumption)|exact Ex.BN (by assumption)|exact Ex.W5 (by assumption)|exact Ex.WW (by assumption)|exact Ex.t8 (by assumption)|exact Ex.IL (by assumption)|exact Ex.VF (by assumption)|exact Ex.YT (by assumption))
local macro_rules | `(tactic| walk_at "ok")=>`(tactic| first|exact Ex.IM (by assumption)|exact Ex.uw (by assumption)|exact Ex.ql (by assumption))
local macro_rules | `(tactic| walk_at "o1")=>`(tactic| first
 | (with_reducible first|exact fw|refine bR ?_|refine aE ?_ ?_|refine fE ?_|refine jt ?_ ?_ ?_|exact cA|exact Zx|exact Xq|exact cV|refine QC ?_|refine sg ?_|refine L0 ?_|exact xa|refine xc ?_|exact BC|exact QY|refine Cc ?_ ?_|refine Cb ?_|refine sd ?_ ?_|refine Ab ?_ ?_|refine qz ?_|refine B9 ?_)
 | ((with_reducible refine jL ?_ ?hs);(case hs=>exact rfl))
 | ((with_reducible refine nu ?hN ?_ ?hi ?hx ?hs ?hf);(case hN|hi|hx|hs|hf=>walk_at "oz"))
 | ((with_reducible refine aaz ?_ ?_ ?hK ?hs);(case hK|hs=>exact rfl))
 | ((with_reducible refine QF ?_ ?_ ?hs ?hw ?h1);(case hs|hw|h1=>exact rfl))
 | ((with_reducible refine pv _ ?hN ?hv ?hd ?hc);(case hN|hv|hd|hc=>walk_at "oz"))
 | ((with_reducible refine iU ?ho ?_ ?_);(case ho=>walk_at "op"))
 | ((with_reducible refine QW ?hr ?_ ?_ ?hs);(case hr=>exact XT (gZ.units (by assumption)));(case hs=>exact λ_ _=>rfl))
 | ((with_reducible refine eV ?ho ?_ ?_ ?hm);(case ho=>walk_at "op");(case hm=>walk_at "oz"))
 | ((with_reducible refine Uz ?ho ?_ ?_ ?hm);(case ho=>walk_at "op");(case hm=>walk_at "oz"))
 | ((with_reducible refine bh ?_ ?_ ?hs);(case hs=>exact rfl))
 | ((with_reducible refine aay ?_ ?hK ?hb);(case hK|hb=>exact rfl))
 | ((with_reducible refine aax ?_ ?hK ?he);(case hK=>exact rfl);(case he=>exact λ_=>rfl))
 | ((with_reducible refine si ?hr ?_ ?_ ?_);(case hr=>first|exact xf|exact XF))
 | ((with_reducible refine aaw ?_ ?hK);(case hK=>exact rfl))
 | ((with_reducible refine yY ?hg ?hm ?_ ?hs);(case hg|hs=>exact rfl);(case hm=>walk_at "om"))
 | ((with_reducible refine FZ ?hg ?hm ?_ ?hs ?ht);(case hg|hs|ht=>exact rfl);(case hm=>walk_at "om"))
 | ((with_reducible refine ib ?hN ?hi ?hx ?hf);(case hN|hi|hx|hf=>walk_at "oz"))
 | ((with_reducible refine Xw ?_ ?_ ?hs ?ha);(case hs=>exact ZK (gZ.units (by assumption)));(case ha=>exact λ_=>rfl))
 | ((with_reducible refine aaA ?hc ?_ ?hK ?hn ?hs);(case hc|hK|hn|hs=>exact rfl))
 | ((with_reducible refine iN ?_ ?_ ?hs);(case hs=>exact rfl))
 | ((with_reducible refine' G1 ?hg ?hm ?hv ?hr ?hn ?hd);(case hg|hr=>exact rfl);(case hm=>walk_at "om");(case hv=>walk_at "ob");(case hn|hd=>decide))
 | ((with_reducible refine' ja ?hc ?hg ?hm ?hv ?_ ?hn ?hd ?he ?hp);(case hc=>walk_at "oc");(case hg|he|hp=>exact rfl);(case hm=>walk_at "om");(case hv=>walk_at "ob");(case hn|hd=>decide))
 | ((with_reducible refine' Qk ?c ?hr ?hg ?hx ?_ ?hd ?he ?hp);(case c=>assumption);(case hr=>walk_at "oz");(case hg|he|hp=>exact rfl);(case hx=>exact lP);(case hd=>decide))
 | ((with_reducible refine' Ym ?c ?cl ?hr ?_ ?hx ?_ ?hs ?hp ?ht);(case c=>assumption);(case cl=>walk_at "ok");(case hr=>walk_at "oz");(case hx=>exact lP);(case hs|hp|ht=>exact rfl))
 | ((with_reducible refine' pcm0 ?c ?cl ?hr ?_ ?hx ?ht);(case c=>assumption);(case cl=>walk_at "ok");(case hr=>walk_at "oz");(case hx=>exact lP);(case ht=>exact rfl))
 | ((with_reducible refine' o_bm ?pa ?sl ?ty ?hm ?_ ?_ ?hK ?hb ?hf ?hl ?hs ?hp);(case pa=>exact cZ);(case sl=>exact fY);(case ty=>exact fZ);(case hm=>exact lZ);(case hK|hb|hf|hl|hs|hp=>exact rfl))
 | with_reducible refine PW.pt ?_
 | (refine yZ ?hp ?hc ?_ ?_ ?_ ?hs;(case hp=>exact eO);(case hc=>exact rfl);(case hs=>exact λ_=>rfl))
 | (refine wZ ?hp ?_ ?_;(case hp=>exact eO)))
local macro_rules | `(tactic| z_go)=>`(tactic| repeat' walk_at "o1")
theorem YE {l:rK}{w:cg}{K:ae}{h:cK}{mg:bB->Option aj}{fa:af}(X:K.In h) (G:h.Ns bF mg) (hfa:mg "law"=some (.ref fa)) {c1 Pt1 c2 Pt2:af}{C A_Levels A_Keeper:af}
  (HX:bX K bF "Wood"=some (some (.ref C))) (HY:iS K C Ox=true) (HZ:jz K C=true) (Ia:lK K C=true) (Ib:bG K (.ref C) "__setattr__"=some (some (.builtin "object.__setattr__"))) (Ic:kM K C=true) (Ie:eL K (.ref C)=true)
  (uc:bG K (.ref C) "n"=some none)
  (mX:bG K (.ref C) "rows"=some none)
  (zH:bX K bF "Levels"=some (some (.ref A_Levels))) (zI:iS K A_Levels Ox=true) (zJ:jz K A_Levels=true) (zK:lK K A_Levels=true) (zL:bG K (.ref A_Levels) "__setattr__"=some (some (.builtin "object.__setattr__"))) (zM:kM K A_Levels=true) (zN:eL K (.ref A_Levels)=true)
  (ig:bG K (.ref A_Levels) "level_of"=some none)
  (gW:bG K (.ref A_Levels) "weight_of"=some none)
  (jf:bG K (.ref A_Levels) "wooden"=some none)
  (jG:bG K (.ref A_Levels) "woods"=some none)
  (zO:bX K bF "Keeper"=some (some (.ref A_Keeper))) (zQ:iS K A_Keeper Ox=true) (zS:jz K A_Keeper=true) (zT:lK K A_Keeper=true) (zU:bG K (.ref A_Keeper) "__setattr__"=some (some (.builtin "object.__setattr__"))) (zV:kM K A_Keeper=true) (zW:eL K (.ref A_Keeper)=true)
  (kg:bG K (.ref A_Keeper) "came"=some none)
  (jg:bG K (.ref A_Keeper) "levels"=some none)
  (je:bG K (.ref A_Keeper) "looked"=some none)
  (kh:bG K (.ref A_Keeper) "lost"=some none)
  (ou:bG K (.ref A_Keeper) "n"=some none)
  (jH:bG K (.ref A_Keeper) "risen"=some none)
  (ki:bG K (.ref A_Keeper) "wood"=some none)
  {X_Alike:af}(ax_Alike:bX K bF "Alike"=some (some (.ref X_Alike)))
  {X_NoTie:af}(ax_NoTie:bX K bF "NoTie"=some (some (.ref X_NoTie)))
  {X_TieError:af}(ax_TieError:bX K bF "TieError"=some (some (.ref X_TieError)))
  {X_Tied:af}(ax_Tied:bX K bF "Tied"=some (some (.ref X_Tied)))
  (ud:Hu K X_Alike)
  (tZ:hJ K (.ref X_Alike) (.ref X_TieError)=some true)
  (t7:Hu K X_NoTie)
  (ub:hJ K (.ref X_NoTie) (.ref X_TieError)=some true)
  (yG:Hu K X_Tied)
  (yE:hJ K (.ref X_Tied) (.ref X_TieError)=some true)
  (DH:rG K mg "is_whole" GF Aq)
  (DI:rG K mg "is_count" GG Aq)
  (DJ:rG K mg "is_place" GH Ao)
  (WS:rG K mg "top" stop ["n"])
  (KG:rG K mg "tie_of" Ob ["a","b"])
  (KH:rG K mg "credit" Oc Kk)
  (Om:rG K mg "rises" Sj Ar)
  (On:rG K mg "looks" Sk Ar)
  (vC:rG K mg "steps_along" xB ["row"])
  (KI:rG K mg "turned" Od ["row","a"])
  (GS:rG K mg "spliced" Kl ["row","other","a","b"])
  (KJ:rG K mg "parted" Oe ["row","a","b"])
  (oW:rG K mg "refuse_no_place" pW Ao)
  (oq:rG K mg "refuse_no_places" oO xv)
  (jQ:rG K mg "refuse_no_pair" m8 xv)
  (wx:rG K mg "in_order" zj GD)
  (vD:rG K mg "ends_within" xC N9)
  (uv:rG K mg "new_tie" CS Kj)
  (lg:rG K mg "standing_tie" pq Kj)
  (tH:rG K mg "_law_cell_at" ve N7)
  (yd:rG K mg "_law_whole" As ["_law_found"])
  (qM:rG K mg "_law_shape" sM Si)
  (AF:rG K mg "_law_next" CU WE)
  (ye:rG K mg "_law_begun" Au WK)
  (DK:rG K mg "_law_top" GI ["_law_n"])
  (tI:rG K mg "_law_refused" vf N4)
  (yf:rG K mg "_law_level" Av ["_law_table","_law_tie"])
  (AG:rG K mg "_law_good" CV N3)
  (tJ:rG K mg "_law_trailed" vg ["_law_due","_law_trail"])
  (vE:rG K mg "_law_digits" xD WJ)
  (tK:rG K mg "_law_toggles" vh ["_law_script","_law_n"])
  (AH:rG K mg "_law_step" CW Wx)
  (Oo:rG K mg "law" slaw Oa)
  (rE:lJ K C "__init__" "Wood.__init__" sN qX)
  (AI:lJ K C "keep" "Wood.keep" CY ["self","row"])
  (AJ:lJ K C "link" "Wood.link" CZ pV)
  (DL:lJ K C "cut" "Wood.cut" GJ pV)
  (vF:lJ K C "joined" "Wood.joined" xE pV)
  (yg:lJ K C "group" "Wood.group" Aw Ap)
  (AK:lJ K C "size" "Wood.size" C2 Ap)
  (oX:lJ K A_Levels "__init__" "Levels.__init__" pX qX)
  (yh:lJ K A_Levels "add" "Levels.add" Ax Hz)
  (tL:lJ K A_Levels "adopt" "Levels.adopt" vi uN)
  (vG:lJ K A_Levels "lift" "Levels.lift" xF uN)
  (vH:lJ K A_Levels "drop" "Levels.drop" xG uN)
  (oY:lJ K A_Levels "at_level" "Levels.at_level" pY ["self","level","wooden"])
  (vJ:lJ K A_Levels "told" "Levels.told" xH uN)
  (mV:lJ K A_Levels "lesser_side" "Levels.lesser_side" nz N8)
  (vK:lJ K A_Levels "look" "Levels.look" xI N8)
  (vL:lJ K A_Levels "take" "Levels.take" xJ uN)
  (rF:lJ K A_Keeper "__init__" "Kept.__init__" sO qX)
  (tM:lJ K A_Keeper "receive" "Kept.receive" vj Hz)
  (qN:lJ K A_Keeper "out" "Kept.out" zk pV)
  (AM:lJ K A_Keeper "ties" "Kept.ties" C3 xA)
  (tN:lJ K A_Keeper "account" "Kept.account" vk xA)
  (nI:lJ K A_Keeper "put" "Keeper.put" sP pV)
  (wy:wx.d.code=.ref c1)
  (qO:qM.d.code=.ref c2)
  (SR:bX K bF "all"=some none)
  (MK:bX K bF "bool"=some none)
  (SS:bX K bF "int"=some none)
  (qP:bX K bF "isinstance"=some none)
  (SU:bX K bF "len"=some none)
  (ML:bX K bF "list"=some none)
  (SV:bX K bF "max"=some none)
  (SW:bX K bF "min"=some none)
  (Ig:bX K bF "range"=some none)
  (SX:bX K bF "set"=some none)
  (DM:bX K bF "sorted"=some none)
  (SY:bX K bF "sum"=some none)
  (Ih:bX K bF "tuple"=some none)
  (SZ:bX K bF "zip"=some none)
  {Fb:VH}(pG:bX K bF "MOST_PLACES"=some (some (.int 200 Fb)))
  : ∃ fd:fN,(∀ (s:ax) (v:aj),IW s fd ⟨[v],[]⟩ [("_law_script",v)])/\∀ base:cK,K.In base->base.Ns bF mg->ik base c1 Pt1->base.BuiltinsAt mg Pt1->ik base c2 Pt2->base.BuiltinsAt mg Pt2->jr l.prog w K mg base wM 12 fa fd Oa (DG K Pt1 Pt2):=by
 have e:=Oo.law hfa;subst e
 have T:Ex K mg C (⟨A_Levels,A_Keeper⟩:CA) (⟨X_Alike,X_NoTie,X_TieError,X_Tied⟩:EC):=⟨⟨HY,HZ,Ia,Ib⟩,iH X G HX,uc,mX,⟨zI,zJ,zK,zL⟩,iH X G zH,ig,gW,jf,jG,⟨zQ,zS,zT,zU⟩,iH X G zO,kg,jg,je,kh,ou,jH,ki,iH X G ax_Alike,iH X G ax_NoTie,iH X G ax_TieError,iH X G ax_Tied,ud,t7,yG,tZ,ub,yE,cG X G SR,cG X G MK,cG X G SS,cG X G qP,cG X G SU,cG X G ML,cG X G SV,cG X G SW,cG X G Ig,cG X G SX,cG X G DM,cG X G SY,cG X G Ih,cG X G SZ,⟨_,iH X G pG⟩⟩
 have ct:BK K C (⟨A_Levels,A_Keeper⟩:CA):=⟨⟨T.IM,T.uc,T.mX⟩,T.uw,T.ig,T.jf,T.gW,T.jG,T.ql,T.ou,T.jg,T.ki,T.kg,T.je,T.jH,T.kh⟩
 refine ⟨Oo.d,λs v=>Oo.bt s [v] rfl,λbase _ _ CH1 B1 CH2 B2=>?_⟩;have DN:=DH.lC l.prog w base (DH.F.mE (k:=0) Mx (@HL K C) λhr nd=>bR (fE (Cc (ja Cs rfl T.qT BootT.v9 (bh (pv 0) (bh (G1 rfl T.Os BootT.int rfl) cV))) (Cb (QD (by z_go))))));have WT:=WS.lC l.prog w base (WS.F.mE (k:=0) Sl (@Vl K C) λhr nd=>aE (by z_go) (aE (by z_go) (aE (wZ eO (by z_go) (aE (Cd (i:=1) Sl.nd rfl (Or.inl rfl) cA G7) (bR (Cd (i:=2) Sl.nd rfl (Or.inl rfl) cA Uy)))) (by z_go))));have mU:=KG.lC l.prog w base (KG.F.mE (k:=0) Sn (@ME K C) λhr nd=>bR (fE (wY (by z_go) (by z_go) (by z_go))));have xY:=Om.lC l.prog w base (Om.F.mE (k:=0) Vk (@Pe K C) λhr nd=>bR (fE (ja (zd rfl) rfl T.TB BootT.sum (bh (kY EN (ys:=[]) [] rfl (l7 (pv 0)) trivial (λ_ _ _=>G2 rfl (iN (ib (show (EN:List bB).Nodup by decide +kernel)) (iN (ib (show (EN:List bB).Nodup by decide +kernel)) (iN (ib (show (EN:List bB).Nodup by decide +kernel)) (iN (ib (show (EN:List bB).Nodup by decide +kernel)) BC))))) (λ_ _ _=>kX) (λ_ _ _=>(by z_go))) cV))));have vM:=vC.lC l.prog w base (vC.F.mE (k:=0) EO (@A7 K C) λhr nd=>bR (fE (UV rfl rfl T.IL rfl T.aaX (by z_go))));have KL:=KI.lC l.prog w base (KI.F.mE (k:=0) Km (@MD K C) λhr nd=>aE (nu Km.nd (oK cZ gv kT (uq hr.units) (pv 0) (by z_go))) (by z_go));have wz:=wx.lC l.prog w base (Ky wx.F T wy CH1 B1 (by walk_at "l") HR);have vN:=vD.lC l.prog w base (vD.F.mE (k:=0) ER (@A9 K C) λhr nd=>bR (fE (ja zb rfl T.TK BootT.len (bh (kY ["place"] (ys:=["side"]) [1] rfl (l7 (pv 0)) ⟨rfl,.inl rfl,rfl,trivial⟩ (λ_ _ _=>ib (show (["place","side"]:List bB).Nodup by decide +kernel)) (λ_ _ _=>n0 (by z_go)) (λ_ _ _=>(pv 0))) cV))));have tO:=tH.lC l.prog w base (tH.F.mE (k:=0) C7 (@zC K C) λhr nd=>aE (by z_go) (by z_go));have yi:=yd.lC l.prog w base (yd.F.mE (k:=0) HA (@DB K C) λhr nd=>bR (fE (Cc (ja Cs rfl T.qT BootT.v9 (bh (pv 0) (bh (G1 rfl T.Os BootT.int rfl) cV))) (Cb (QD (by z_go))))));have yj:=qM.lC l.prog w base (EW qM.F T qO CH2 B2 (by walk_at "l") DD);have AN:=AF.lC l.prog w base (AF.F.mE (k:=0) oP (@E7 K C) λhr nd=>aE (by z_go) (aE (xm (i:=5) GE (ys:=[]) [] rfl oP.nd rfl rfl (l7 (pv 3)) trivial (λ_ _ _=>ib (show (GE:List bB).Nodup by decide +kernel)) (λ_ _ _=>n0 (by z_go)) (λ_ _ _=>(pv 0))) (aE (jt (by z_go) (aE (G4 (i:=6) oP.nd rfl (Or.inr rfl) (ja (GA rfl) rfl T.WW BootT.max (bh (kY GE (ys:=[]) [] rfl (l7 (pv 5)) trivial (λ_ _ _=>ib (show (GE:List bB).Nodup by decide +kernel)) (λ_ _ _=>kX) (λ_ _ _=>(by z_go))) cV))) (aE (xm (i:=5) GE (ys:=["_law_most"]) [6] rfl oP.nd rfl rfl (l7 (pv 5)) ⟨rfl,.inl rfl,rfl,trivial⟩ (λ_ _ _=>ib (show (["_law_row","_law_most"]:List bB).Nodup by decide +kernel)) (λ_ _ _=>n0 (by z_go)) (λ_ _ _=>(pv 0))) (by z_go))) fw) (by z_go))));have DO:=DK.lC l.prog w base (DK.F.mE (k:=0) C8 (@HW K C) λhr nd=>aE (by z_go) (aE (by z_go) (aE (wZ eO (by z_go) (aE (Cd (i:=1) C8.nd rfl (Or.inl rfl) cA G7) (by z_go))) (by z_go))));have yk:=yf.lC l.prog w base (yf.F.mE (k:=0) HF (@DC K C) λhr nd=>aE (by z_go) (by z_go));have tP:=tJ.lC l.prog w base (tJ.F.mE (k:=0) De (@zF K C) λhr nd=>bR (yZ eO rfl (l7 (pv 1)) (by z_go) (aE (BD (pv 0) cA xu (iU jN (by z_go) (uk Ga rfl T.Os BootT.int (bh (QB (Nw (by z_go))) cV))) G5 sj) (bR (BD (pv 0) cA xu (by z_go) G5 sj)))));have vO:=vE.lC l.prog w base (vE.F.mE (k:=0) ES (@Bg K C) λhr nd=>aE (by z_go) (by z_go));have jc:=rE.YJ l.prog w base Ic Ie (rE.F.mE (mg:=mg) (k:=0) A3 (@x6 K C) λhr nd=>aE (by z_go) (bR (G9 (pv 0) (kY ["place"] (ys:=[]) [] rfl (by z_go) trivial (λ_ _ _=>ib (show (["place"]:List bB).Nodup by decide +kernel)) (λ_ _ _=>kX) (λ_ _ _=>(by z_go))) rfl)));have AO:=AI.lC l.prog w base (AI.F.mE (mg:=mg) (k:=0) Kq (@E1 K C) λhr nd=>bR (yZ eO rfl (l7 (pv 1)) (by z_go) (by z_go)));have ke:=vJ.lC l.prog w base (vJ.F.mE (mg:=mg) (k:=0) EV (@Ba K C ⟨A_Levels,A_Keeper⟩) λhr nd=>bR (fE (by z_go)));have DP:=DI.lC l.prog w base (DI.F.mE (k:=1) My (@HQ K C) λhr nd=>bR (fE (Cc (by z_go) (Cb (JD NC NC cA (pv 0) (Us rfl T.FQ.choose_spec ⟨_,rfl⟩))))));have DQ:=DJ.lC l.prog w base (DJ.F.mE (k:=1) Mz (@HM K C) λhr nd=>bR (fE (Cc (by z_go) (Cb (JD NC JC cA (pv 1) (pv 0))))));have tq:=KH.lC l.prog w base (KH.F.mE (k:=1) So (@MF K C) λhr nd=>bR (fE (ja (zd rfl) rfl T.TB BootT.sum (bh (kY ["a","b","level","in_wood"] (ys:=["n"]) [0] rfl (l7 (pv 1)) ⟨rfl,.inl rfl,rfl,trivial⟩ (λ_ _ _=>G2 rfl (iN (ib (show (N5:List bB).Nodup by decide +kernel)) (iN (ib (show (N5:List bB).Nodup by decide +kernel)) (iN (ib (show (N5:List bB).Nodup by decide +kernel)) (iN (ib (show (N5:List bB).Nodup by decide +kernel)) BC))))) (λ_ _ _=>kX) (λ_ _ _=>(by z_go))) cV))));have xX:=On.lC l.prog w base (On.F.mE (k:=1) Og (@Pg K C) λhr nd=>aE (xm (i:=1) EN (ys:=[]) [] rfl Og.nd rfl rfl (l7 (pv 0)) trivial (λ_ _ _=>G2 rfl (iN (ib (show (EN:List bB).Nodup by decide +kernel)) (iN (ib (show (EN:List bB).Nodup by decide +kernel)) (iN (ib (show (EN:List bB).Nodup by decide +kernel)) (iN (ib (show (EN:List bB).Nodup by decide +kernel)) BC))))) (λ_ _ _=>n0 (Xu (Nw (pv 3)))) (λ_ _ _=>(pv 3))) (bR (fE (wY (by z_go) (by z_go) (by z_go)))));have GT:=GS.lC l.prog w base (GS.F.mE (k:=1) GK (@KC K C) λhr nd=>aE (nu GK.nd (oK cZ gv kT (uq hr.units) (pv 0) (by z_go))) (by z_go));have KM:=KJ.lC l.prog w base (KJ.F.mE (k:=1) C5 (@MC K C) λhr nd=>aE (by z_go) (aE (nu C5.nd (oK cZ gv kT (uq hr.units) (pv 3) (by z_go))) (aE (nu C5.nd (oK cZ gv kT (uq hr.units) (pv 3) (by z_go))) (aE (by z_go) (aE (by z_go) (aE (by z_go) (aE (by z_go) (bR (fE (wY (by z_go) (by z_go) (by z_go)))))))))));have AQ:=AG.lC l.prog w base (AG.F.mE (k:=1) Kn (@E8 K C) λhr nd=>aE (jt (PW.pt (Ab (by z_go) (Ab (by z_go) (Ab (QC (Mi (ja (Q1 rfl) rfl T.aaT BootT.all (bh (kY ["_law_x"] (ys:=[]) [] rfl (l7 (pv 0)) trivial (λ_ _ _=>ib (show (["_law_x"]:List bB).Nodup by decide +kernel)) (λ_ _ _=>kX) (λ_ _ _=>(by z_go))) cV)) (λ_=>rfl))) (B9 (eV (Hl hr.units) (uk xg rfl T.IL BootT.list (by z_go)) (pv 1) (ir _))))))) (by z_go) fw) (by z_go));have tQ:=tK.lC l.prog w base (tK.F.mE (k:=1) Dg (@zD K C) λhr nd=>aE (by z_go) (by z_go));have oZ:=oY.lC l.prog w base (jr.Px (oY.F.mE (mg:=mg) (k:=1) oQ (@tF K C ⟨A_Levels,A_Keeper⟩ Pt1) λhr nd=>aE (xm (i:=3) ["tie"] (ys:=["level","self"]) [1,0] rfl oQ.nd rfl rfl (Wg (by z_go)) ⟨rfl,.inl rfl,rfl,⟨rfl,.inl rfl,rfl,trivial⟩⟩ (λ_ _ _=>ib (show (["tie","level","self"]:List bB).Nodup by decide +kernel)) (λ_ _ _=>n0 (by z_go)) (λ_ _ _=>(pv 0))) (bR (fE (Qk wz hr.m rfl lP (bh (kY ["tie"] (ys:=["wooden","self"]) [2,0] rfl (l7 (pv 3)) ⟨rfl,.inl rfl,rfl,⟨rfl,.inl rfl,rfl,trivial⟩⟩ (λ_ _ _=>ib (show (["tie","wooden","self"]:List bB).Nodup by decide +kernel)) (λ_ _ _=>n0 (by z_go)) (λ_ _ _=>(pv 0))) (by z_go)))))) tE);have AR:=AM.lC l.prog w base (jr.Px (AM.F.mE (mg:=mg) (k:=1) Ku (@Dz K C ⟨A_Levels,A_Keeper⟩) λhr nd=>bR (fE (ja xr rfl T.t8 BootT.Ct (bh (kY ["tie"] (ys:=xA) [0] rfl (Wg (by z_go)) ⟨rfl,.inl rfl,rfl,trivial⟩ (λ_ _ _=>ib (show (["tie","self"]:List bB).Nodup by decide +kernel)) (λ_ _ _=>kX) (λ_ _ _=>(by z_go))) cV)))) Dy);have o7:=oW.lC l.prog w base (oW.F.mE (k:=2) xK (@uP K C) λhr nd=>bR (jt (by z_go) (bR nZ) fw));have ie:=oX.YJ l.prog w base zM zN (oX.F.mE (mg:=mg) (k:=2) xM (@uR K C ⟨A_Levels,A_Keeper⟩) λhr nd=>aE (by z_go) (aE (by z_go) (aE (by z_go) (bR (G9 (pv 0) (kY ["level"] (ys:=["n"]) [1] rfl (by z_go) ⟨rfl,.inl rfl,rfl,trivial⟩ (λ_ _ _=>ib (show (["level","n"]:List bB).Nodup by decide +kernel)) (λ_ _ _=>kX) (λ_ _ _=>Hb jc.m jc.G hr.m rfl T.Vz jc.b .nil lP (by z_go))) rfl)))));have tR:=tN.lC l.prog w base (tN.F.mE (mg:=mg) (k:=2) Dj (@zB K C ⟨A_Levels,A_Keeper⟩) λhr nd=>bR (fE (by z_go)));have gR:=oq.lC l.prog w base (oq.F.mE (k:=3) wj (@tD K C) λhr nd=>aE (by z_go) (by z_go));have qQ:=yg.lC l.prog w base (yg.F.mE (mg:=mg) (k:=3) HG (@Dq K C) λhr nd=>aE (by z_go) (bR (fE (Ke rfl rfl T.t8 rfl T.aa0 (by z_go)))));have AS:=AK.lC l.prog w base (AK.F.mE (mg:=mg) (k:=3) Kt (@E4 K C) λhr nd=>aE (by z_go) (by z_go));have qj:=jQ.lC l.prog w base (jQ.F.mE (k:=4) pZ (@wq K C) λhr nd=>aE (by z_go) (bR (jt (by z_go) (bR nZ) fw)));have vP:=vF.lC l.prog w base (vF.F.mE (mg:=mg) (k:=4) ET (@A8 K C) λhr nd=>aE (by z_go) (by z_go));have mW:=mV.lC l.prog w base (mV.F.mE (mg:=mg) (k:=4) sQ (@qL K C ⟨A_Levels,A_Keeper⟩) λhr nd=>aE (by z_go) (bR (fE (Ym qQ T.IM hr.m (pv 3) lP (bh (wY (by z_go) (by z_go) (by z_go)) cV)))));have jd:=rF.YJ l.prog w base zV zW (rF.F.mE (mg:=mg) (k:=4) A4 (@yb K C ⟨A_Levels,A_Keeper⟩) λhr nd=>aE (jt (by z_go) (bR nZ) fw) (aE (by z_go) (aE (G9 (pv 0) (Hb ie.m ie.G hr.m rfl T.Pn ie.b .nil lP (by z_go)) rfl) (by z_go))));have fG:=jQ.lC l.prog w base (uO jQ.F T gR (by walk_at "l") tG);have GU:=uv.lC l.prog w base (uv.F.mE (k:=5) zl (@KD K C) λhr nd=>aE (by z_go) (aE (by z_go) (aE (jt (by z_go) (bR nZ) fw) (by z_go))));have tS:=lg.lC l.prog w base (lg.F.mE (k:=5) n6 (@zu K C) λhr nd=>aE (by z_go) (aE (by z_go) (aE (jt (by z_go) (bR nZ) fw) (by z_go))));have AU:=AJ.lC l.prog w base (AJ.F.mE (mg:=mg) (k:=5) Kr (@E3 K C) λhr nd=>aE (by z_go) (aE (jt (by z_go) (bR nZ) fw) (by z_go)));have DR:=DL.lC l.prog w base (DL.F.mE (mg:=mg) (k:=5) MB (@HP K C) λhr nd=>aE (by z_go) (aE (jt (by z_go) (bR nZ) fw) (by z_go)));have tw:=uv.lC l.prog w base (HI uv.F T fG mU (by walk_at "l") E6);have ma:=lg.lC l.prog w base (xW lg.F T fG mU (by walk_at "l") wu);have tT:=tL.lC l.prog w base (tL.F.mE (mg:=mg) (k:=6) Dh (@zw K C ⟨A_Levels,A_Keeper⟩) λhr nd=>aE (by z_go) (by z_go));have vQ:=vG.lC l.prog w base (vG.F.mE (mg:=mg) (k:=6) EU (@Bb K C ⟨A_Levels,A_Keeper⟩) λhr nd=>aE (UM (bw (z8 (by decide) _) hr.units) (by z_go) (pv 1) cA sf (λ_ _ _=>rfl)) (by z_go));have vR:=vH.lC l.prog w base (vH.F.mE (mg:=mg) (k:=6) vm (@Bc K C ⟨A_Levels,A_Keeper⟩) λhr nd=>aE (jL (oK kU mK mL (BF hr.units) (by z_go) (by z_go))) (aE (nu vm.nd (oK kU mK mL (BF hr.units) (by z_go) (by z_go))) (bR (jt (Mi (oK kU mK mL (BF hr.units) (by z_go) (by z_go)) (λ_=>rfl)) (by z_go) fw))));have ym:=yh.lC l.prog w base (yh.F.mE (mg:=mg) (k:=7) HH (@Du K C ⟨A_Levels,A_Keeper⟩) λhr nd=>aE (by z_go) (by z_go));have vS:=vK.lC l.prog w base (vK.F.mE (mg:=mg) (k:=7) pC (@Bd K C ⟨A_Levels,A_Keeper⟩ Pt1) λhr nd=>aE (G4 (i:=3) pC.nd rfl (Or.inr rfl) (by z_go)) (aE (xm (i:=4) ["other"] (ys:=["side"]) [3] rfl pC.nd rfl rfl (by z_go) ⟨rfl,.inl rfl,rfl,trivial⟩ (λ_ _ _=>ib (show (["other","side"]:List bB).Nodup by decide +kernel)) (λ_ _ _=>n0 (by z_go)) (λ_ _ _=>(pv 0))) (by z_go)));have kb:=vL.lC l.prog w base (vL.F.mE (mg:=mg) (k:=8) pD (@Be K C ⟨A_Levels,A_Keeper⟩ Pt1) λhr nd=>aE (by z_go) (aE (by z_go) (aE (by z_go) (aE (by z_go) (aE (wZ eO (by z_go) (aE (by z_go) (aE (nu pD.nd (QB (Xt (QW (XT hr.units) (QW (XT hr.units) (pv 4) (ZA XB cA) (λ_ _=>rfl)) cA (λ_ _=>rfl))))) (bR (Cd (i:=2) pD.nd rfl (Or.inl rfl) cA Ux))))) (by z_go))))));have jF:=tM.lC l.prog w base (tM.F.mE (mg:=mg) (k:=8) Di (@zx K C ⟨A_Levels,A_Keeper⟩) λhr nd=>aE (lW (pv 0) cA sf) (by z_go));have qR:=qN.lC l.prog w base (qN.F.mE (mg:=mg) (k:=9) qJ (@HV K C ⟨A_Levels,A_Keeper⟩ Pt1) λhr nd=>aE (by z_go) (aE (lW (pv 0) (by z_go) sf) (aE (by z_go) (aE (lW (pv 0) (by z_go) sf) (aE (lW (pv 0) (by z_go) sf) (by z_go))))));have nJ:=nI.lC l.prog w base (nI.F.mE (mg:=mg) (k:=9) xN (@Dx K C ⟨A_Levels,A_Keeper⟩) λhr nd=>bR (fE (by z_go)));have Ii:=qN.lC l.prog w base (EZ qN.F T ma tq kb xX xY ke (by walk_at "l") DA);have DS:=nI.lC l.prog w base (A6 nI.F T jF tw (by walk_at "l") zy);have yn:=ye.lC l.prog w base (ye.F.mE (k:=10) HE (@DE K C ⟨A_Levels,A_Keeper⟩ Pt2) λhr nd=>aE (by z_go) (by z_go));have tU:=tI.lC l.prog w base (tI.F.mE (k:=10) Da (zA T) λhr nd=>aE (Vh (λ_ E=>bR (jt (by z_go) (bR (jL (Ym DS T.ql hr.m (pv 0) Wv (by z_go)))) (bR (jL (Ym Ii T.ql hr.m (pv 0) Wv (by z_go)))))) rfl ⟨rfl,rfl⟩ rfl T.Nj (λ_=>(by z_go))) (by z_go));have qR:=qR.hide;have nJ:=nJ.hide;have AV:=AH.lC l.prog w base (AH.F.mE (k:=10) Ay (@E9 K C ⟨A_Levels,A_Keeper⟩ Pt1) λhr nd=>aE (by z_go) (aE (jt (by z_go) (aE (jL (oK kU mK mL (BF hr.units) (pv 2) (by z_go))) (aE (BD (pv 1) cA xu (by z_go) G5 sj) (aE (by z_go) (aE (nu Ay.nd (uk Ga rfl T.Os BootT.int (by z_go))) (by z_go))))) (aE (by z_go) (aE (BD (pv 1) cA xu cA G5 sj) (by z_go)))) (by z_go)));exact Oo.F.mE (k:=11) Ko (Vs ct) λhr nd=>aE (by z_go) (aE (by z_go) (aE (by z_go) (aE (by z_go) (aE (G4 (i:=4) Ko.nd rfl (Or.inr rfl) (by z_go)) (aE (nu Ko.nd (Hb jd.m jd.G hr.m rfl T.Pq jd.b .nil lP (by z_go))) (aE (jt (eV (Hl hr.units) (uk xg rfl T.IL BootT.list (by z_go)) (by z_go) (ir _)) (by z_go) fw) (aE (by z_go) (aE (by z_go) (aE (by z_go) (aE (by z_go) (aE (by z_go) (aE (by z_go) (aE (yZ eO rfl (by z_go) (ib Ko.nd) (aE (by z_go) (aE (by z_go) (aE (Cd (i:=9) Ko.nd rfl (Or.inl rfl) (by z_go) G7) (aE (by z_go) (aE (by z_go) (aE (QF (ja (zd rfl) rfl T.TB BootT.sum (bh (kY GE (ys:=["_law_most"]) [4] rfl (l7 (pv 10)) ⟨rfl,.inl rfl,rfl,trivial⟩ (λ_ _ _=>ib (show (["_law_row","_law_most"]:List bB).Nodup by decide +kernel)) (λ_ _ _=>kX) (λ_ _ _=>(by z_go))) cV)) (by z_go)) (by z_go)))))))) (by z_go))))))))))))))
def walk {l:rK}{q:bA}{loose:List bB}{XP:(bB->Option aj)->cK->Prop}{YP:cg->cK->Prop}{d dy1 dy2:DefRec}{K:Params->ae}{c1 Pt1 c2 Pt2:af}(hn:l.most=some 63) (hdf:d.params.defaults=[])
  (hY:∀ (w:cg) (h:cK),YP w h->(K w.params).In h)
  (hrec1:(recsOf q).find? (λe=>e.name == ("in_order":bB))=some dy1) (htab1:∀ w:cg,T7 (K w.params) "in_order"=some (c1,Pt1))
  (hrec2:(recsOf q).find? (λe=>e.name == ("_law_shape":bB))=some dy2) (htab2:∀ w:cg,T7 (K w.params) "_law_shape"=some (c2,Pt2))
  (hnt:∀ w:cg,PySem.W.noTabs (K w.params)=true) (hne:Pt1≠Pt2)
  (F:∀ (w:cg) (mg:bB->Option aj) (fa:af) (h:cK),(K w.params).In h->h.Ns bF mg->mg d.name=some (.ref fa) ->
   ∃ fd:fN,(∀ (s:ax) (u:aj),IW s fd ⟨[u],[]⟩ [("_law_script",u)])/\∀ base:cK,(K w.params).In base->base.Ns bF mg->ik base c1 Pt1->base.BuiltinsAt mg Pt1->ik base c2 Pt2->base.BuiltinsAt mg Pt2->jr l.prog w (K w.params) mg base wM 12 fa fd Oa (DG (K w.params) Pt1 Pt2)) :
  TU q loose XP YP l.row.toRowW d [] (λf vs=>TV f vs):=by
 have m1:(c1,Pt1)∈[(c1,Pt1),(c2,Pt2)]:=aw;have m2:(c2,Pt2)∈[(c1,Pt1),(c2,Pt2)]:=ai _ aw;refine L2.RL (n:=63) (k:=12) (x:="_law_script") (Ps:=[(c1,Pt1),(c2,Pt2)]) (sp:=λw=>DG (K w.params) Pt1 Pt2) hn (by decide) hdf ⟨rfl,by decide,by decide⟩ hY (λp hp=>?_) hnt (λw mg fa h a b c=>?_) (λ_ _ a ns hl hT hS=>⟨a,ns,rfl,hS,hl,hne,.inl (hT _ m1),.inl (hT _ m2),λ_=>rfl⟩) λ_ _ _ _ z=>z
 .rcases aq.mp hp with e|hp
  .subst e;exact ⟨_,dy1,hrec1,htab1⟩
  .rw [ay.mp hp];exact ⟨_,dy2,hrec2,htab2⟩
 .obtain ⟨fd,q1,q2⟩:=F w mg fa h a b c;exact ⟨fd,q1,λbase i1 i2 hP=>q2 base i1 i2 (hP _ m1).1 (hP _ m1).2 (hP _ m2).1 (hP _ m2).2⟩
end K63
end
end
local macro_rules | `(tactic| walk_at "b1")=>`(tactic| exact λ_ _ _ _ _ _ us hl=>match us,hl with|[_],_=>rfl)
local macro_rules | `(tactic| walk_at "b2")=>`(tactic| exact λ_ _ _ _ _ _ us hl=>match us,hl with|[_,_],_=>rfl)
local macro_rules | `(tactic| walk_at "b3")=>`(tactic| exact λ_ _ _ _ _ _ us hl=>match us,hl with|[_,_,_],_=>rfl)
local macro_rules | `(tactic| walk_at "b4")=>`(tactic| exact λ_ _ _ _ _ _ us hl=>match us,hl with|[_,_,_,_],_=>rfl)
local macro_rules | `(tactic| walk_at "b5")=>`(tactic| exact λ_ _ _ _ _ _ us hl=>match us,hl with|[_,_,_,_,_],_=>rfl)
structure PySem.W.Fast:Prop where(tw11181613029014099478 tw15307059444240334720 tw1317518425669803680 tw17390749840966922934 tw14438741226085485995 tw13246233143858919904 tw11921127615192747206 tw10470191724826778273 tw164010552010112028 tw16550428701194656259 tw3461081815403936794 tw8817860224220411249 tw9421219761904465698 tw3683375236751236980 tw16908492108718435969 tw15577922051838584655 tw17180482049558778220 tw11776752643272825679 tw6023426755233189445 tw10501977486079668958 tw16161511499493976369 tw429670717066050975 tw16822575634262383472 tw7067975480109718939 tw5929913112545540098 tw6147637189924658273 tw5028803967902629377 tw3261839899776840907 tw3893265002570882278 tw16182226543268664509 tw11069266297470288235 tw12378449757002575057 tw2556142002310839562 tw7322308376767405866 tw17856570017309454736 tw13026980541261155095 tw15355840916385032384 tw368481324738634941 tw9754808307726389440 tw7627502911398389548 tw11482466517801445574 tw1265892042260376824 tw9903185503716040616 tw1194962893283983089 tw521768745356433528 tw6148423997603305726 tw9931283733638166678 tw6699884190389941841 tw8786062748961038857 tw7224493655630848721 tw10943752591614623510 tw6585955717580152964 tw9119774055947134031 tw3419715779746936203 tw8672779287746192938 tw15728724588189995597 tw5277192527931151405 tw8481416820449280741 tw1895558747767425721 tw6743843559374871430 tw10764205005324534848 tw217594462394115950 tw4512659808984365450 tw641746301084800390 tw18412264680116801349 tw9181044018888751197 tw17404818198508044426 tw12348775310539766390 tw7780853868781452778 tw600866350903822055 tw2798163143712596930 tw15825066218074156944 tw11053727892126642156 tw3874815704538530610 tw159789404897577880 tw3770610810561836213 tw15264028383006001275 tw16407846767380189376 tw14715196413235905355 tw9862331395740051350 tw15914748931104785616 tw1839532973070818109 tw9321504233748581720 tw7540599170190560891 tw12248845399612260308 tw2065779939340767672 tw14464369174826406980 tw17640024361769936903 tw10317946503646025074 tw3714135313950548009 tw16245126466257013166 tw12259620645656949940 tw15554652413662758726 tw3947873661947229171 tw16050741920161182749 tw14668525014678486591 tw10716501451780288963 tw15018943868164725672 tw11829817443130312097 tw15173497852637590776 tw2093372529889882405 tw12428369832160654058 tw411960376855568873 tw3657647836869018012 tw7581803461253138734 tw11064608958613221786 tw12942449163646442803 tw17307672297549767960 tw2041733004981719520 tw10573495477585828587 tw16995324904767610128 tw1656780414356155379 tw9510433531058506401 tw13424568679362448129 tw2643943636968109246 tw14004364913692332808 tw16345936498185236035 tw16641399267506664095 tw13532315892589722218 tw3334824956932465651 tw11230097032371622753 tw9990346227743581428 tw1840804708007708947 tw17600516133896849566 tw17686805269815915978 tw4274536804625872959 tw5465184105485207413 tw18410203761750592800 tw15719890711477751586 tw4506668954995828910 tw11587404892945720979 tw17925364942991608527 tw17022624720842367533 tw9854924524159684251 tw8858804916771464249 tw6518005273016364084 tw17176129994652745754 tw10732889717728216606 tw11398527570274184270 tw11565020214580587831 tw2018984454469367465 tw12082438263077069198 tw156287310117157607 tw6892843418602593197 tw3565859984556430131 tw1744840305030177802 tw3699683769732157451 tw3342765224816105101 tw18423811277190674621 tw5033358401975355109 tw3868608414738723892 tw14536942226180886354 tw10314619857347864237 tw9750070208023702014 tw17280858450285313525 tw14743034422059009197 tw16674191832730033964 tw1828726391222970175 tw3692591915673983768 tw10828387391753065915 tw1095544180248941153 tw4659713143574845601 tw16305321520237655145 tw5270861033903195217 tw5232845647956068476 tw10512537278386948364 tw18238059358856514197 tw17630443760883336226 tw2096075258197790749 tw258020214373812061 tw5451866844140687269 tw11598337872211914349 tw13170811025750782641 tw14065307857337382581 tw17532136134460440941 tw17364053574188637413 tw17366783691798574692 tw12600932342597888415 tw7798233923095287414 tw8237315629070380878 tw6260401215944881992 tw14830529652508558057 tw4027431410598746237 tw11797964758201381730 tw626111439123691518 tw17394805123528361591 tw10087777723011103240 tw16107216665884708020 tw14130443469869296208 tw8003664311245717093 tw18341074101347644452 tw4743316886314245986 tw2001736137140831568 tw8616060079332994251 tw5320225981951755424 tw9949181080635135898 tw16637172321209710511 tw15274164883616350482 tw10409922144677330306 tw3167433706841161016 tw11911175995385169325 tw5892011506207500167 tw10626531421764402369 tw4407644229338016342 tw6539934704485364899 tw12292953820938094927 tw2244016648290868317 tw10860518554803480497 tw10870693443263597420 tw1396757650894211336 tw11998333810727481680 tw5336298254324310733 tw9650991226988528450 tw540179842115288271 tw5619356032510454684 tw10137217111166386002 tw1023667062423437992 tw17021702100399135929 tw12509941470041376843 tw4235018358726508404 tw10180974655473711483 tw15924434673161921923 tw10106075710203385797 tw2257637194367462933 tw13259395434056581593 tw5050729633135132428 tw12175811320268096105 tw14493718580290129721 tw170482879934023162 tw205110971809450933 tw7780995863511983971 tw13181170245967116836 tw14281230620735903727 tw17384837423698952782 tw7607093973048636918 tw6493733112021420218 tw14039047051998054046 tw12147596488178564543 tw16563235641021018588 tw14494885960848816333 tw15505359310805598182 tw17468945775386458002 tw12338327831017638875 tw8380319682558071464 tw6440035920762523282 tw11843707695053133287 tw1515354545721388358 tw11748493905873167248 tw15406078010092694786 tw18115167893245410533 tw7257375953071667396 tw11762776395067410040 tw7897507771691031705 tw15409450772270192923 tw1633262794527319276 tw14426554950905475108 tw17675723180913324355 tw3823998009085330326 tw5315542981796506753 tw12191477206719409496 tw2940761950902176408 tw8149751748533470825 tw17880341997973879568 tw6970934057579489185 tw11781287024846669414 tw4213197809702733150 tw15852279559541792583 tw13050960107587858389 tw12643715983008237925 tw15946366716558282016 tw2584429068974577242 tw9063426349383073487 tw7056741618064055873 tw8846688581985243375 tw8885191886760373903 tw8963952521989692184 tw9686450183159891998 tw16416031925646566489 tw10001612680066091012 tw13254254273199318857 tw13716349955189148680 tw16059655236297897745 tw2496884612444023007 tw3412212970906325065 tw766057542973457820 tw5815917159147537535 tw5729245742823735787 tw1675297996302379008 tw13372870062220352706 tw10596458190974384121 tw16003376793526457863 tw1420346824883166843 tw10473260774414921771 tw7214955584953411861 tw11342660019463496341 tw3111701461812431593 tw7229064004292677877 tw7182897535698053136 tw224487625533381678 tw5716403102012996813 tw5184242318464450250 tw8058622367440989459 tw2447877689838283205 tw2875901623557328886 tw14467293762910930278 tw16561482384676352026 tw1921806461714360417 tw4164211527245692934 tw5380591825643637006 tw10465790688112902701 tw13985278025335854849 tw17685789410226077678 tw8181778169446584455 tw17357035204928495513 tw12127091424160827493 tw11766123597170570055 tw16245798869458786479 tw16645531750743968446 tw10442838842946619820 tw16722410790415728028 tw4551727242539972337 tw7908212356888839439 tw1896233302857523219 tw5445555969397268885 tw1292427818902248510 tw4334927229054697171 tw15284459032602285946 tw8005265614287398356 tw5549500694473256875 tw9485840253126552908 tw15984206044858098461 tw13647194718641012282 tw4679636796603677035 tw2963004681310111883 tw17090395012716345952 tw2518619932443081130 tw15825451438485720822 tw8877559479973056074 tw10049338413434237852 tw6813204037826182810 tw10119508084078995120 tw3585828572371598788 tw2077144441718376966 tw3063143777590506417 tw4261699528803696044 tw1975252926994244165 tw12658494205033891735 tw5611020184075797006 tw5520625589021085100 tw3311363276798577207 tw3172724759328699168 tw15454154622252696191 tw8410482807431795886 tw16206854551671657259 tw15593012559726185761 tw14132356191010790008 tw3564008125678352554 tw10958134079238382747 tw6939221715685828903 tw18106608354037690360 tw5501915296071500495 tw4613998300257220208 tw16924477365029816620 tw14641640604561553104 tw2119363268935074347 tw1881304504559856875 tw18341149841363655001 tw14823038894583213149 tw10990263791957474713 tw5242652712004637266 tw11153090222466791730 tw10601780291051009162 tw3948678796464100748 tw11798317734487253400 tw13260882166991769912 tw1570593151445462966 tw13977205966357949261 tw5010789690838267339 tw3472794893359932197 tw7058979710229982345 tw16357168255136812452 tw11899058856867427338 tw5733599127971838417 tw2674176237028872465 tw4816049168669228477 tw13384503291433261781 tw4519196844837749080 tw258749806412177534 tw9797346198163032220 tw11807722844584778165 tw16544445151959873817 tw12423696833972429503 tw12324583119297724056 tw10911394258806592466 tw1681974961995885768 tw3115954087729447496 tw6026546130095774543 tw7994990797579065879 tw15745097501083905536 tw8094782003235881835 tw11607208886050185741 tw7843620445750818877 tw15059430752312632737 tw6578328669981354735 tw3287945912434388686 tw16594799743386538943 tw1694639605760753066 tw3179171343682827928 tw14920424820224840397 tw9695190154702227910 tw7486130039320651821 tw16539886292972399162 tw3567802795984829072 tw3239054373535903895 tw4555245536460643873 tw18168588313196912719 tw6970686230524145806 tw1703148972543461373 tw15986081788541317645 tw8051588700993111251 tw10346297908307149351 tw5580029528869665422 tw9702333517410126343 tw13272651939219314080 tw8158865426116287894 tw12052614677762947199 tw13749609202542123852 tw16541971182352537912 tw1720088000654403564 tw6219150869927971719 tw18058320260693603959 tw94524676119196987 tw14153727835242690279 tw4620963336995979229 tw446523699939940209 tw16801137248922291567 tw17200060958385733373 tw10091508856227877097 tw6210388377694622649 tw12959134266168671966 tw14150297484444865990 tw11554784335603229869 tw5467678861795833476 tw5116101322418858846 tw15912712640135421104 tw697354238444796773 tw7898645477577320895 tw10491809297608369680 tw6020793665722832666 tw3539120949137470267 tw16905381937845592887 tw13564234333426527870 tw16421240409579035079 tw34774936967067398 tw229236311031966936 tw1538768019181181834 tw16549934228489390430 tw501454704934780322 tw10022408393100905450 tw14710785299318775515 tw16975247259439709142 tw1390089678729477225 tw3306978026194350898 tw4341875486524535061 tw13203819714713410976 tw4684415357131775643 tw11491335774748294140 tw15599519267499549555 tw5118658855977926345 tw10140826433390191168 tw18098455398545833717 tw4820915185102309667 tw12221183842956578974 tw3636961966076273708 tw688554343935924295 tw18142955794457439814 tw5022614519982872828 tw11223203553282995939 tw582887942302627787 tw13038999560621030401 tw17832477414477694774 tw16373779526208911159 tw13538359154866761499 tw3808595236485001917 tw12950568461832564641 tw11875398712641157150 tw2994132452374434128 tw5461254922391776003 tw17529135360907135725 tw10295452211135485172 tw18337461015169815021 tw1497815626088537436 tw909285493968531334 tw10525418768196266483 tw9319310450681680203 tw15029422363097031142 tw1686073002330644327 tw2096195455104675336 tw3754230921835527302 tw2419724331166128857 tw6061642574539311016 tw14824587874180855766 tw12781928336388783697 tw15783473453558828921 tw7824558957732346006 tw9018114022509894336 tw4628139840014915371 tw3940888290107397532 tw1377737459473008600 tw1184860677409284633 tw8104920941159917616 tw7613378999058828723 tw16323472128117689968 tw14740779145765976931 tw12922005372519528268 tw6476248269528281066 tw17362812717171002057 tw16722177673609299429 tw18301199444538885856 tw7181358852791310585 tw13681296451700017392 tw16253273167061585667 tw11664906406829502232 tw3808256803596304607 tw2645254613216318648 tw13327113396831354597 tw3835007923893366590 tw5756265617864419628 tw7765425704891479071 tw12271085575899474144 tw15684258679528460294 tw1263171941803511148 tw14038178433880055092 tw12219069330784304102:True)
open PySem PySem.W PyProof.Rows
theorem PySem.Challenge.cw_tiewood_k63_whole_the_account_holds : PySem.Challenge.rw_tiewood_k63_whole_the_account.Holds := by
  w_on;o_law;k_head;(case hw=>w_witness2)
  k_fill
  refine' K63.walk (l:=PySem.Challenge.rw_tiewood_k63_whole_the_account) rfl rfl (λw h Y=>PySem.W.km_in_of Y) ?hrec1 ?htab1 ?hrec2 ?htab2 ?hnt ?hne ?F
  case hrec1=>exact rfl
  case htab1=>intro w;exact rfl
  case hrec2=>exact rfl
  case htab2=>intro w;exact rfl
  case hnt=>intro w;exact rfl
  case hne=>decide
  case F =>
    intro w mg fa h KX G hmg;refine' K63.YE KX G hmg ?HX ?HY ?HZ ?Ia ?Ib ?Ic ?Ie ?uc ?mX ?zH ?zI ?zJ ?zK ?zL ?zM ?zN ?ig ?gW ?jf ?jG ?zO ?zQ ?zS ?zT ?zU ?zV ?zW ?kg ?jg ?je ?kh ?ou ?jH ?ki ?ax_Alike ?ax_NoTie ?ax_TieError ?ax_Tied ?ud ?tZ ?t7 ?ub ?yG ?yE (L2.uM KX G ?MM ?MN ?DN ?MO (by walk_at "b1")) (L2.uM KX G ?MP ?MQ ?DP ?MR (by walk_at "b1")) (L2.uM KX G ?MS ?MT ?DQ ?MU (by walk_at "b2")) (L2.uM KX G ?aaI ?aaJ ?WT ?aaK (by walk_at "b1")) (L2.uM KX G ?Ta ?Tc ?mU ?Td (by walk_at "b2")) (L2.uM KX G ?Te ?Tg ?tq ?Th (by walk_at "b2")) (L2.uM KX G ?Vt ?Vu ?xY ?Vv (by walk_at "b1")) (L2.uM KX G ?Vw ?Vx ?xX ?Vy (by walk_at "b1")) (L2.uM KX G ?Fc ?Fd ?vM ?Fe (by walk_at "b1")) (L2.uM KX G ?Tj ?Tn ?KL ?To (by walk_at "b2")) (L2.uM KX G ?Ph ?Pi ?GT ?Pj (by walk_at "b4")) (L2.uM KX G ?Tq ?Tr ?KM ?Ts (by walk_at "b3")) (L2.uM KX G ?yo ?yp ?o7 ?yq (by walk_at "b2")) (L2.uM KX G ?wA ?wB ?gR ?wC (by walk_at "b3")) (L2.uM KX G ?zX ?zY ?qj ?zZ (by walk_at "b3")) (L2.uM KX G ?MV ?MW ?wz ?MX (by walk_at "b2")) (L2.uM KX G ?Fg ?Fi ?vN ?Fj (by walk_at "b2")) (L2.uM KX G ?Pk ?Pl ?GU ?Pm (by walk_at "b4")) (L2.uM KX G ?DT ?DU ?tS ?DV (by walk_at "b4")) (L2.uM KX G ?DW ?DX ?tO ?DY (by walk_at "b2")) (L2.uM KX G ?Ij ?Ik ?yi ?Il (by walk_at "b1")) (L2.uM KX G ?Im ?Io ?yj ?Ip (by walk_at "b2")) (L2.uM KX G ?KN ?KQ ?AN ?KR (by walk_at "b4")) (L2.uM KX G ?Iq ?Ir ?yn ?Iu (by walk_at "b3")) (L2.uM KX G ?MY ?MZ ?DO ?M0 (by walk_at "b1")) (L2.uM KX G ?DZ ?D0 ?tU ?D5 (by walk_at "b4")) (L2.uM KX G ?Iv ?Iw ?yk ?Iy (by walk_at "b2")) (L2.uM KX G ?KU ?KW ?AQ ?KY (by walk_at "b4")) (L2.uM KX G ?D6 ?D7 ?tP ?D8 (by walk_at "b2")) (L2.uM KX G ?Fk ?Fn ?vO ?Fo (by walk_at "b3")) (L2.uM KX G ?D9 ?Ea ?tQ ?Eb (by walk_at "b2")) (L2.uM KX G ?KZ ?K0 ?AV ?K1 fun _ _ _ _ _ _ us hl => match us, hl with | [_, _, _, _, _, _], _ => rfl) (L2.uM KX G ?aaL ?aaM ?aaN ?aaO (by walk_at "b1")) (L2.CK ?Bh ?Bi ?Bj ?jc ?Bk (by walk_at "b2")) (L2.CK ?K2 ?K3 ?K4 ?AO ?K5 (by walk_at "b2")) (L2.CK ?K6 ?K7 ?K8 ?AU ?K9 (by walk_at "b3")) (L2.CK ?M1 ?M3 ?M4 ?DR ?M5 (by walk_at "b3")) (L2.CK ?Fp ?Fs ?Ft ?vP ?Fv (by walk_at "b3")) (L2.CK ?Iz ?IA ?IB ?qQ ?IC (by walk_at "b2")) (L2.CK ?La ?Lb ?Lc ?AS ?Ld (by walk_at "b2")) (L2.CK ?yr ?yt ?yu ?ie ?yw (by walk_at "b2")) (L2.CK ?ID ?IE ?IF ?ym ?IG (by walk_at "b3")) (L2.CK ?Ec ?Ee ?Eg ?tT ?Eh (by walk_at "b2")) (L2.CK ?Fw ?Fx ?Fy ?vQ ?Fz (by walk_at "b2")) (L2.CK ?FA ?FB ?FC ?vR ?FD (by walk_at "b2")) (L2.CK ?yz ?yA ?yB ?oZ ?yC (by walk_at "b3")) (L2.CK ?FE ?FF ?FG ?ke ?FH (by walk_at "b2")) (L2.CK ?tV ?tW ?tX ?mW ?tY (by walk_at "b3")) (L2.CK ?FI ?FJ ?FK ?vS ?FL (by walk_at "b3")) (L2.CK ?FM ?FN ?FO ?kb ?FP (by walk_at "b2")) (L2.CK ?Bl ?Bn ?Bo ?jd ?Bp (by walk_at "b2")) (L2.CK ?Ei ?Ej ?Ek ?jF ?El (by walk_at "b3")) (L2.CK ?M6 ?M7 ?M8 ?qR ?M9 (by walk_at "b3")) (L2.CK ?Le ?Lg ?Lh ?AR ?Li (by walk_at "b1")) (L2.CK ?Em ?En ?Eo ?tR ?Ep (by walk_at "b1")) (L2.CK ?IH ?II ?IJ ?nJ ?IK (by walk_at "b3")) ?wy ?qO ?SR ?MK ?SS ?qP ?SU ?ML ?SV ?SW ?Ig ?SX ?DM ?SY ?Ih ?SZ ?pG
    case HX|HY|HZ|Ia|Ib|Ic|Ie|uc|mX|zH|zI|zJ|zK|zL|zM|zN|ig|gW|jf|jG|zO|zQ|zS|zT|zU|zV|zW|kg|jg|je|kh|ou|jH|ki|ax_Alike|ax_NoTie|ax_TieError|ax_Tied|MM|MN|DN|MO|MP|MQ|DP|MR|MS|MT|DQ|MU|aaI|aaJ|WT|aaK|Ta|Tc|mU|Td|Te|Tg|tq|Th|Vt|Vu|xY|Vv|Vw|Vx|xX|Vy|Fc|Fd|vM|Fe|Tj|Tn|KL|To|Ph|Pi|GT|Pj|Tq|Tr|KM|Ts|yo|yp|o7|yq|wA|wB|gR|wC|zX|zY|qj|zZ|MV|MW|wz|MX|Fg|Fi|vN|Fj|Pk|Pl|GU|Pm|DT|DU|tS|DV|DW|DX|tO|DY|Ij|Ik|yi|Il|Im|Io|yj|Ip|KN|KQ|AN|KR|Iq|Ir|yn|Iu|MY|MZ|DO|M0|DZ|D0|tU|D5|Iv|Iw|yk|Iy|KU|KW|AQ|KY|D6|D7|tP|D8|Fk|Fn|vO|Fo|D9|Ea|tQ|Eb|KZ|K0|AV|K1|aaL|aaM|aaN|aaO|Bh|Bi|Bj|jc|Bk|K2|K3|K4|AO|K5|K6|K7|K8|AU|K9|M1|M3|M4|DR|M5|Fp|Fs|Ft|vP|Fv|Iz|IA|IB|qQ|IC|La|Lb|Lc|AS|Ld|yr|yt|yu|ie|yw|ID|IE|IF|ym|IG|Ec|Ee|Eg|tT|Eh|Fw|Fx|Fy|vQ|Fz|FA|FB|FC|vR|FD|yz|yA|yB|oZ|yC|FE|FF|FG|ke|FH|tV|tW|tX|mW|tY|FI|FJ|FK|vS|FL|FM|FN|FO|kb|FP|Bl|Bn|Bo|jd|Bp|Ei|Ej|Ek|jF|El|M6|M7|M8|qR|M9|Le|Lg|Lh|AR|Li|Em|En|Eo|tR|Ep|IH|II|IJ|nJ|IK=>k_is
    case tZ|ub|yE=>exact rfl
    case ud|t7|yG=>exact L2.exK rfl rfl (L2.nsq rfl rfl rfl rfl rfl rfl) (L2.nsq rfl rfl rfl rfl rfl rfl)
    case wy|qO=>exact rfl
    case SR|MK|SS|qP|SU|ML|SV|SW|Ig|SX|DM|SY|Ih|SZ|pG=>k_is
