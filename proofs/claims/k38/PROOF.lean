import PyProof.Rows.All
import Wide.All
import OpenK.AllK
import Wide.FinOn
import Lean
import PyProof.EqAt
import PyProof.EqKinds
import PyProof.TupleCall
import KE.KMinKey
import KE.KLam
import PyProof.Rows.CallKwBuiltin
import PyProof.Rows.Range3
import PyProof.Rows.SeqMore2
import PyProof.SeqI3
import KE.KSortTup
import PyProof.ZipIter
import KE.KItemsList
import KE.KDictList
import KE.KRevIter
import PyProof.Rows.SetFrom
import PyProof.EnumMake
import PyProof.EnumStmt
import PyProof.EnumFor
import KE.KTryMore
import KE.KTryOn
import KE.KSortKey
import PyProof.ListRange
import PyProof.Rows.SumAny
import KE.KSortTup
import PySem.Challenge.RW_tiewood_k38_whole_the_wood_spans
set_option Elab.async false
set_option linter.all false
set_option maxRecDepth 100000
set_option maxHeartbeats 4000000
open PySem.W renaming Frag->aa,findIn->bD,mg_none_of->cR,nsIn->dk,keepIn->eI,kia_one->eJ,emptyDict->fi,CodeHd->ik,instObj->il,fnOf->iu,plainGet->iP,kitOne->iQ,hasDictIn->ji,makesIn->kA,plainOver->lh,codeIn->nM,mg_of->pG,OpenLaw->qx,isFn->qI,lookIn->tN,plainGet_of->vo,callWith_K->xv,kla_obj->xB,methodObj->yG,takerIn->Dc,kat_cons->HK,kat_yes->HL,cellsFrom_some->Ki,tabObj->Kk,methodCall_KW->Kv,kitx_list->O1,kitx_dict->O2,handedIn->RU,WalkO->RV,tabIn->R5
open PySem renaming wpAny_bind->ae,Addr->af,Value->ai,wpAny_pure->ak,Shared->ao,wpAny->aG,model->aM,sizeLine->aV,Program->a6,Str->bj,starEach->bL,World->bO,Around->bR,mainGlobals->bU,Heap->cf,wpAny_holding->cA,rawInt->cB,wpAny_newObj_type->cD,wpAny_call_entry->cL,wpAny_callSpecial?_slot->cW,compareOp->df,Stmt->dz,bootBuiltins->dI,wpAny_mono->dO,codeAny_builtin->d8,FuncData->eK,eval->fh,wpAny_Call_Name_kw->fj,Obj->fT,Builtin->gG,plainId_quiet->gH,SetTable->gN,cLine->gZ,backTo->g9,wpAny_attempt->ip,wpAny_askSetting->iw,wpAny_setState_of->iU,sysModules->i8,pyNext->i9,wpAny_rule->jd,wpAny_setField->jg,Scope->jx,wpAny_typeNameOfWhole_keyiter->jy,tupleKind_room_in1->jF,wpAny_passesOwn->jM,NameKind->jN,wpAny_ite_split->jO,behindInMarks->jQ,wpAny_truthy_bool->j8,holding->j9,codeAny->ka,wpAny_dictEntries->ke,mem_of_lookup->kq,wpAny_loadName_local->kC,wpAny_field->kD,tupleKind->kP,Pos->lg,wpAny_setEntries_of->ll,wpAny_typeNameOf_keyiter->lO,wpAny_updateSeq->lU,Arguments->ma,intKind->mJ,codeAny_mono->mK,wpAny_fieldsOf->mO,firstArgMember->mP,builtinLookup_eq_fast->nG,assignEach->nK,wpAny_isInstance->nN,wpAny_newList->og,sizeLine_eq->oz,sliceBounds->oA,wpAny_Name->qG,binaryOp->qH,recursionLimit->qJ,standAt->sV,foldedSetIterable->sW,keywordEach->sX,wpAny_standAt->tM,attributeBase->tO,IsPair->tT,relayAll->vp,scanBound->vq,wpAny_nextOf_list_item->xC,wpAny_execs_nil->xG,letOwnedTupleGo->xH,typeLookup_type->xI,Operator->Am,bindArgs->An,wpAny_pyIter_keyiter->Ao,ZipApart->Ap,wpAny_newTuple->Aq,isSubtype_stop->Ar,layNew->Au,swapsWith->AE,inplaceOp->AF,getMethod->AG,pickOrder->AI,seqItems?->AJ,wpAny_Tuple_spliced->De,Env->EH,wpAny_load->EI,rule->EJ,setsByText->EL,BindsTo->Hw,backToKw->Hx,wpAny_typeOf->Hy,valueAt->Hz,atKey->HA,callerA->HB,wpAny_pyIter_slot->HE,collect->HF,fits_of_scanBound->HG,assign->Kg,Result->Kh,IsPart->Kj,updateSeq->Km,Fin->Kx,wpAny_letGo->Ky,wpAny_of_eq->Kz,Within->Mn,wpAny_specialOf->Mp,wpAny_dictEpoch->Mq,getItem->Nw,setNext->NA,pyIter->OE,wpAny_call->OF,call_meets->OH,wpAny_runValue->OM,isSubtype_type->OP,slotArgs->OQ,setEntries->OR,checkCount->OT,call->RW,wpAny_handled->RY,CmpOp->Se,bindL->Si,bindC->Sj,Tok->Uo,Sem->Uq,Keyword->Ur,newExc->Ut,wpAny_isTrue_Compare1->VD,wpAny_nextOf_list_end->VI,wpAny_notOrdered_dict->VJ,wpAny_isOneOf_keyiter->VL,GenState->Xl,callWith->Xm,seqIndex_of->Xn,wpAny_newFunctionEnv->Xp,wpAny_throw->Xr,intItems->Xy,wpAny_loadName_cell->XQ,wpAny_loadName_free->XR
open List renaming length_map->ag,mem_cons_of_mem->aj,mem_cons->au,mem_cons_self->aw,getElem?_eq_getElem->ay,mem_singleton->aA,getElem?_map->aB,getElem?_eq_some_iff->aC,mem_append->aN,size_toArray->aO,map_append->aP,mem_of_getElem?->aR,mem_map->aT,mem_map_of_mem->aZ,map_map->bo,nodup_cons->br,length_append->bz,mem_append_right->bB,mem_filter->bH,mem_iff_getElem?->bJ,length_take->bK,length_cons->bV,map_cons->b0,take_of_length_le->b9,length_filter_le->cw,lookup_cons->cJ,getLast?_append->cO,length_drop->cQ,filter_append->cU,getElem?_eq_none->cV,length->dt,range->dv,not_mem_nil->dw,append_assoc->dB,pairwise_map->dC,lookup->dN,take_add_one->dP,mem_append_left->dX,getElem?_append_right->dY,map_congr_left->eE,take_append_drop->eL,idxOf_lt_length_iff->eN,count_eq_zero->e9,nodup_append->fA,getElem?_append_left->fQ,drop_eq_getElem_cons->fS,perm_append_comm->fU,eq_nil_or_concat->fV,concat_eq_append->fW,pairwise_append->gC,count_append->gI,filter_sublist->gP,map_take->hJ,getElem_mem->hZ,getElem?_set_self->je,zip_cons_cons->jf,mem_of_mem_head?->jA,ext_getElem?->jG,mem_range->jP,count_cons_self->jR,pairwise_iff_getElem->kr,find?_cons->kQ,getElem?_take->kU,append_of_mem->kW,getLast?_cons->kX,count_pos_iff->kY,getElem?_cons_zero->lj,drop_of_length_le->lT,length_range->lV,eraseIdx_eq_take_drop_succ->md,getElem?_set_ne->mU,eq_nil_of_length_eq_zero->mX,nodup_iff_count->mY,length_nil->nF,getElem?_range->nO,mem_filterMap->oB,replicate->oC,nodup_nil->oF,getElem_idxOf->oG,getElem?_drop->oH,map_singleton->oI,getElem?_zip_eq_some->pL,map_drop->qz,length_erase_of_mem->qB,pairwise_singleton->qK,take_length->qM,length_pos_of_mem->tm,append_eq_nil_iff->tq,append_inj_right'->tw,append_nil->tP,of_mem_zip->tQ,forIn_cons->tS,length_zip->tU,count_cons->tW,length_replicate->uM,getElem?_zipWith->uO,mem_of_mem_take->vB,filterMap_cons->xF,filter_eq_self->xM,sum_cons->yK,map_nil->AH,reverse_perm->AK,perm_middle->Dq,any_eq_true->Du,count_eq_zero_of_not_mem->EM,filter_map->FM,drop_zero->HU,forIn_nil->HV,nodup_iff_pairwise_ne->HX,mem_of_find?_eq_some->Kn,any_cons->Kw,getElem?_replicate->Mo,getElem?_cons_succ->Mr,eraseIdx_cons_succ->Ms,pairwise_lt_range->Ny,map_set->NC,any_map->ND,length_singleton->OI,countP_mono_left->OL,eraseIdx_sublist->ON,getElem?_toArray->OS,singleton_append->OU,length_eraseIdx->O5,mem_iff_getElem->O6,map->O7,drop_eq_nil_iff->O9,map_id->Pa,length_pos_iff->R6,find?_eq_none->Sl,take_sublist->Us,drop_sublist->UC,getElem?_set->UD,filter_cons->VF,all_eq_true->VG,countP_cons->VH,map_snd_zip->VN,cons_append->VO,take_append->VP,mem_flatMap->VR,length_set->Xo,find?_some->Xq,head?_cons->XC,idxOf_cons->XD,take_succ->XT,drop_drop->XW
open PySem.Heap renaming get?_push_of_some->ar,get?_push_size->aI,lt_size->aJ,get?_update_other->bx,get?_update_self->bT,SameBut->gY,size_push->iW,size_update->qL,get?_none_of_le->O0,ExtBut->O4
open Nat renaming le_refl->av,zero_le->aK,lt_of_le_of_lt->bf,ne_of_lt->bg,le_trans->bu,lt_of_lt_of_le->bA,ne_of_gt->dU,lt_irrefl->eS,le_add_right->ib,le_succ->iL,le_of_lt->ki,le_of_eq->kj,lt_succ_self->km,min_eq_left->kT,le_of_not_lt->mM,min_eq_right->mN,mul_le_mul_right->nC,lt_succ_of_lt->qy,succ_le_succ->sM,add_le_add_left->yJ,le_succ_of_le->Dg,le_total->Di,strongRecOn->HQ,lt_trans->OJ,add_comm->OV,pow_succ->OW,pow_le_pow_right->R8,le_zero->R9,max_eq_right->XE,min_le_left->XS,max_eq_left->XZ
open PySem.Value renaming ref->aD,none->eW,type->eX,int->fw,str->qF,bool->sJ,float->OD,isStrOf->XO
open Array renaming length_toList->aL,getElem?_eq_getElem->bX,getElem?_eq_some_iff->cE,getElem?_toList->dm,perm_iff_toList_perm->ft,toList_append->gO,getElem?_eq_none->gW,size_push->iB,toList_inj->j5,toList_map->ml,reverse_append->mT,size_append->pM,append_assoc->yH,toList_push->As,toList_zip->Dh,getElem?_reverse->Mt,reverse_reverse->NB,forIn_toList->RX,getD->RZ,getElem_mem->Sr
open PyProof.Rows renaming wpS_bind->aS,Keyed->aU,wpS_pure->bh,seqObj->bW,pendingOf->cN,SortSt->dJ,IntsAre->fz,wpS_forRange->fR,callWith_type1->gA,slot_tuple_getitem->hV,wpS_modify->iE,get?_update_seq->iS,failedOf->iV,SortKind->jh,listUpdate_at->lN,elem'->mf,arrOf->mR,wpS_mono->mS,IsTup->pK,wpS_get->qe,minRun'->tj,envOfC->tR,reverseSlice'_eq->vt,callWith_builtin1->vw,wpS->vA,AllBare->xu,subscriptTail_builtinR->xA,entry_list_sort->xK,slot_list_sort->Av,reverseSlice'->Ds,listItems_at->HD,plain_sorted->HI,entry_sorted->HJ,wpS_lift->HM,kind_sorted->KA,seqEpoch_at->KB,Subscript_->OG,Constant_none->RT,lt_int->Sg,tuples'->Uy,minRun'_succ->Uz,call_function_entry_kw->UB,iadd_int->VE,mirror_size->Xz,binarySort'->XA,mergeAt'->XB,getElem?_mirror_all->XX,wpAny_call_entry_kw->XY
open Option.some renaming inj->aY,injEq->gg
open PyProof.Rows.SortSt renaming mk'->a8
open Option renaming map_eq_some_iff->bw,map->xJ,isSome_map->zG,map_some->Do,bind_eq_some_iff->Ko,bind_eq_bind->OO,isNone_some->O3,getD_none->Sk,pure_def->Uw
open Bool renaming false_ne_true->bC,false_eq_true->bY,and_eq_true->hW,eq_iff_iff->iD
open PySem.Obj renaming mapSeq->bE,data_mapFields->di,isFreed_of_fields->jH,mapFields->mW,cls_mapFields->qA,putSet->tV,data_mapDictKeys->xD,isFreed_of_dict->Sn
open PySem.NameKind renaming free->bM,cell->gM
open Prod.mk renaming inj->cg,injEq->HP
open PySem.F renaming plainAttrs_list->cI,plain_extend_loop->dZ,slot_list_append->gb,type_list_append->gf,slot_list_index->gB,type_list_index->kE,plainAttrs_dict->kF,slot_dict_pop->lX,type_dict_pop->lY,slot_dict_getitem->FI,args_list_index_2->FK,entry_extend_loop->FL,entry_list_index->HC,slot_list_remove->HN
open PySem.PyData renaming eqv->cM,depthAll->fF,canLayAll0->gF,depth->lz,canLay0->uN,int->FJ
open PySem.Around renaming under_plainId->cX,under->Ku
open Int renaming le_trans->c8,le_of_lt->gp,toNat_natCast->gL,zero_add->iM,le_refl->nB,not_lt->pH,emod_lt_of_pos->Aw,pow_succ->Dj,emod_eq_of_lt->VQ,emod_nonneg->X0
open PySem.Heap.SameBut renaming update->c9
open Sum renaming inl->du,inr->Da
open PySem.SetTable renaming below->dG,grown->iO,has->HW,orStandIn->Nz,relaid->R3,fresh->So,slot->Uu,laid->Uv,fits->Ux
open PySem.Str renaming ofString->fE,empty->Nu
open PySem.Builtin.SmallTypes renaming ownedTupleIsFree->f9,nextOf->jb
open PySem.PassesOwn renaming never->gv
open PySem.Builtin.List renaming listExtendWith->gE,listUpdate->iC,listLengthHint->jc,listSameRef->jI,listItems->Dp
open False renaming elim->h9
open PySem.Calls renaming spliced_cons->ia,spliced_nil->lM,call_function_entry->pF,Name_function_global->Hv
open List.cons renaming inj->iz
open True renaming intro->iN
open PySem.SeqAt.EqAt renaming int_int->iR
open ForInStep renaming yield->ja
open PySem.Builtin.Slice renaming slicePlaces->jk,sliceAdjust->mL,sliceApplied->yI
open PySem.MeetsSeq renaming plain_remove_loop->jz,entry_remove_loop->Dt
open PySem.Builtin.Tuple renaming tupleExact->jE
open List.Perm renaming cons->kR,append_left->lA,refl->sL
open Int.ofNat renaming inj->lW
open PySem.SetTable.below renaming go->mQ
open List.Pairwise renaming nil->mV
open Prod renaming ext->oE,fst->O8
open PySem.Builtin.Dict_items renaming ownsTuple->sY
open PySem.SetTable.probe renaming go->sZ
open List.Sublist renaming map->vz
open PySem.Paired renaming length->xt
open PySem.Builtin.Dict renaming showsAll->EK
open PySem.pickOrder renaming go->HH
open PySem.SeqAt renaming readOf->Kl,eqv_refl->XF
open Sum.inl renaming inj->Mm
open PySem.Code renaming isFrame->Nv
open PyProof.Rows.IntsAre renaming int_at->Sq
open StateT renaming run_pure->UA
open PySem.SetTable.Met.empty renaming injEq->VM
open PySem.Builtin.Frozenset renaming newClass->Xs,updateFrom->Xt,slot0->Xu,addrOf->Xv,sizeOf->Xw
open PySem.W.KatTups renaming cons->Xx
open PySem.Data renaming seq->XU
section
open PySem PySem.Spec PyProof.Rows
namespace L2
abbrev iA:=Sum Int bj
def AM:iA->ai->Bool
 | .inl k,v=>Value.isInt k v
 | .inr x,v=>XO x v
def keyH (w:bO):iA->Int
 | .inl k=>hashInt k
 | .inr x=>hashStr w x
theorem gJ:∀ {k:iA}{v:ai},AM k v=true->(∃ i t,k=du i/\v=fw i t)\/(∃ x t,k=Da x/\v=qF x t)
 | .inl i,v,h=>by
  obtain ⟨t,e⟩:=Value.isInt_shape (k:=i) (v:=v) h
  exact .inl ⟨i,t,rfl,e⟩
 | .inr x,v,h=>by
  obtain ⟨t,e⟩:=Value.isStrOf_shape (x:=x) (v:=v) h;exact .inr ⟨x,t,rfl,e⟩
def NF (i:Int) (t:Uo):AM (.inl i) (.int i t)=true:=by simp [AM,Value.isInt]
def NG (x:bj) (t:Uo):AM (.inr x) (.str x t)=true:=by simp [AM,XO]
def VS (a b:Int):decide ((du a:iA)=du b)=(a == b):=by
 by_cases e:a=b
 ·subst e;simp
 ·have h:¬ (du a:iA)=du b:=λq=>e (Mm q);rw [decide_eq_false h];exact (beq_eq_false_iff_ne.mpr e).symm
def VT (a b:bj):decide ((Da a:iA)=Da b)=decide (a=b):=by
 by_cases e:a=b
 ·subst e;simp
 ·have h:¬ (Da a:iA)=Da b:=λq=>e (Sum.inr.inj q);rw [decide_eq_false h,decide_eq_false e]
def VU (a:Int) (b:bj):decide ((du a:iA)=Da b)=false:=decide_eq_false (λq=>nomatch q)
def VV (a:bj) (b:Int):decide ((Da a:iA)=du b)=false:=decide_eq_false (λq=>nomatch q)
def fu (prog:a6) (w:bO):PySem.KeyKind prog w iA where
 is:=AM
 hash:=keyH w
 inj:=λv a b ha hb=>by
  rcases gJ ha with ⟨i,t,rfl,rfl⟩|⟨x,t,rfl,rfl⟩
  ·rcases gJ hb with ⟨j,u,rfl,e⟩|⟨y,u,rfl,e⟩
   ·injection e with e1 _;rw [e1]
   ·exact nomatch e
  ·rcases gJ hb with ⟨j,u,rfl,e⟩|⟨y,u,rfl,e⟩
   ·exact nomatch e
   ·injection e with e1 _;rw [e1]
 byValue:=λk v h=>by
  rcases gJ h with ⟨i,t,rfl,rfl⟩|⟨x,t,rfl,rfl⟩<;>rfl
 pyHash:=λhv h=>by
  rcases gJ hv with ⟨i,t,rfl,rfl⟩|⟨x,t,rfl,rfl⟩
  ·exact wpAny_pyHash_int h
  ·exact wpAny_pyHash_str h
 eqBool:=λhu hv h=>by
  rcases gJ hu with ⟨i,t,rfl,rfl⟩|⟨x,t,rfl,rfl⟩
  ·rcases gJ hv with ⟨j,u,rfl,rfl⟩|⟨y,u,rfl,rfl⟩
   ·rw [VS] at h;exact wpAny_eqBool_int h
   ·rw [VU] at h;exact SeqAt.EqAt.int_str i t y u _ _ _ _ h
  ·rcases gJ hv with ⟨j,u,rfl,rfl⟩|⟨y,u,rfl,rfl⟩
   ·rw [VV] at h;exact SeqAt.EqAt.str_int x t j u _ _ _ _ h
   ·rw [VT] at h;exact wpAny_eqBool_str h
 «strs»:=λk x t v h=>by
  rcases gJ h with ⟨i,u,rfl,e⟩|⟨y,u,rfl,e⟩
  ·exact nomatch e
  ·injection e with e1 _
   subst e1;cases v<;>rfl
def HY (prog:a6) (w:bO) (i:Int) (t:Uo):(fu prog w).is (.inl i) (.int i t)=true:=NF i t
def HZ (prog:a6) (w:bO) (x:bj) (t:Uo):(fu prog w).is (.inr x) (.str x t)=true:=NG x t
end L2
namespace L2
inductive V where
 | non|bl (b:Bool)|int (i:Int)|str (x:bj)|byt (b:Array UInt8)|flt (b:UInt64)|ref (a:af)|ty (n:String)
 deriving DecidableEq
def RelV:V->ai->Prop
 | .non,u=>u=eW
 | .bl b,u=>u=sJ b
 | .int i,u=>∃ t,u=fw i t
 | .str x,u=>∃ t,u=qF x t
 | .byt b,u=>∃ t,u=Value.bytes b t
 | .flt b,u=>∃ t,u=OD b t
 | .ref a,u=>u=aD a
 | .ty n,u=>u=eX n
abbrev Vals:List V->List ai->Prop:=Paired RelV
def Vals.length {xs:List V}{us:List ai}(r:Vals xs us):xs.length=us.length:=xt r
theorem Vals.get:∀ {xs:List V}{us:List ai}{i:Nat}{x:V},Vals xs us->xs[i]?=some x->∃ u,us[i]?=some u/\RelV x u
 | _,_,_,_,.nil,e=>by simp at e
 | _,_,0,_,.cons r _,e=>by simp at e;subst e;exact ⟨_,rfl,r⟩
 | _,_,i+1,x,.cons _ t,e=>by
  obtain ⟨u,h1,h2⟩:=Vals.get (i:=i) (x:=x) t (by simpa using e);exact ⟨u,by simpa using h1,h2⟩
theorem Vals.set {x:V}{u:ai}(r:RelV x u):∀ {xs:List V}{us:List ai}(i:Nat),Vals xs us->Vals (xs.set i x) (us.set i u)
 | _,_,_,.nil=>.nil
 | _,_,0,.cons _ t=>.cons r t
 | _,_,i+1,.cons q t=>.cons q (Vals.set r i t)
theorem Vals.append:∀ {xs ys:List V}{us ws:List ai},Vals xs us->Vals ys ws->Vals (xs++ys) (us++ws)
 | _,_,_,_,.nil,s=>s
 | _,_,_,_,.cons r t,s=>.cons r (Vals.append t s)
theorem Vals.take:∀ {xs:List V}{us:List ai}(n:Nat),Vals xs us->Vals (xs.take n) (us.take n)
 | _,_,0,_=>.nil
 | _,_,_+1,.nil=>.nil
 | _,_,n+1,.cons r t=>.cons r (Vals.take n t)
theorem Vals.drop:∀ {xs:List V}{us:List ai}(n:Nat),Vals xs us->Vals (xs.drop n) (us.drop n)
 | _,_,0,r=>r
 | _,_,_+1,.nil=>.nil
 | _,_,n+1,.cons _ t=>Vals.drop n t
def sD:Option V->Option ai->Prop
 | some v,some u=>RelV v u
 | none,none=>True
 | _,_=>False
def KV {κ:Type}:List (κ×V)->List (κ×ai)->Prop:=Paired λ(p:κ×V) (q:κ×ai)=>p.1=q.1/\RelV p.2 q.2
def kV:iA->V
 | .inl i=>.int i
 | .inr x=>.str x
inductive HO where
  | lst (xs:List V)
  | tup (xs:List V)
  | dK (kvs:List (iA×V))|dT (kvs:List (List iA×V))
  | set (S:Int->Bool) (n:Nat)
  | ins (C dx:af) (fs:List (bj×V))
  | own (x:af)
  | xd (fs:List (bj×V))
  | met (f x:af)
  | rng (lo hi:Int)
  | frz (o:fT) (u:HO)
  | tbl (ps:Array ai)
  | ext (φ:cf->Prop)
abbrev Hp:=af->Option HO
def upd (H:Hp) (a:af) (o:HO):Hp:=λb=>if b=a then some o else H b
def aF {H:Hp}{a:af}{o:HO}:upd H a o a=some o:=by unfold upd;rw [if_pos rfl]
def aH {H:Hp}{a b:af}{o:HO}(h:b≠a):upd H a o b=H b:=by unfold upd;rw [if_neg h]
def fX {H:Hp}{a b:af}{o u:HO}(h:H a=some o) (h':H b=some u) (d:o≠u:=by intro z;cases z):a≠b:=by
 intro e;subst e;rw [h] at h';exact d (aY h')
def aQ {H:Hp}{a b:af}{o:HO}(h:H a=some o) (h':H b=none):a≠b:=by
 intro e;subst e;rw [h] at h';cases h'
section
variable (P:a6) (w:bO)
def fg (H:Hp) (h:cf) (a:af):HO->Prop
 | .lst xs=>xs.length<=aV/\∃ (its:List ai) (n:Nat),Vals xs its/\h.get? a=some { cls:=.type "list",data:=.seq its.toArray n }
 | .tup xs=>xs.length<=aV/\∃ its:List ai,Vals xs its/\pK h a its.toArray
 | .dK kvs=>kvs.length<=aV/\(a == i8)=false/\∃ vs,KV kvs vs/\h.DictOf (fu P w) a vs
 | .dT kvs=>kvs.length<=aV/\(a == i8)=false/\∃ xs:List (List iA×af×ai),
   Paired (λ(p:List iA×V) (q:List iA×af×ai)=>p.1=q.1/\H q.2.1=some (.tup (p.1.map kV))/\RelV p.2 q.2.2) kvs xs /\
   ∃ o es ep,h.get? a=some o/\o.ExactDict/\o.data=.dict es ep/\es.toList=xs.map (entryOfKey (kP (fu P w)))/\(xs.map (·.1)).Nodup
 | .set S n=>h.SetOf (mJ P w) a S n
 | .ins C dx fs=>H dx=some (.own a)/\fs.length<=1000/\dx≠a/\h.get? a=some (il C dx) /\
   ∃ mA,h.Ns1 dx mA/\(∀ f,sD (fs.lookup f) (mA f))/\Mn mA (fs.map (·.1))
 | .own _=>∃ o,h.get? a=some o
 | .xd fs=>∃ mA,h.Ns1 a mA/\∀ f,sD (fs.lookup f) (mA f)
 | .rng lo hi=>∃ t u v,h.get? a=some { cls:=.type "range",data:=.fields #[.int lo t,.int hi u,.int 1 v] }
 | .frz o u=>h.get? a=some o/\fg H h a u
 | .tbl ps=>h.get? a=some { cls:=.none,data:=.fields ps }
 | .met f x=>h.get? a=some (yG (.ref f) (.ref x))
 | .ext φ=>φ h/\(∃ o,h.get? a=some o)/\∀ h1 h2:cf,φ h1->(∀ o,h1.get? a=some o->h2.get? a=some o)->φ h2
def qD (H:Hp) (h:cf):Prop:=∀ a o,H a=some o->fg P w H h a o
end
section
variable {P:a6}{w:bO}{H H':Hp}{h h':cf}{a:af}{o:HO}
def fg.lt (x:fg P w H h a o):a<h.objs.size:=by
 cases o with
 | lst xs=>obtain ⟨_,_,_,_,e⟩:=x;exact aJ e
 | tup xs=>obtain ⟨_,_,_,p⟩:=x;exact p.lt
 | dK kvs=>obtain ⟨_,_,_,_,o,_,_,e,_⟩:=x;exact aJ e
 | dT kvs=>obtain ⟨_,_,_,_,o,_,_,e,_⟩:=x;exact aJ e
 | set S n=>obtain ⟨o,_,_,_,e,_⟩:=x;exact aJ e
 | ins C dx fs=>obtain ⟨_,_,_,e,_⟩:=x;exact aJ e
 | own y=>obtain ⟨_,e⟩:=x;exact aJ e
 | xd fs=>obtain ⟨_,⟨_,_,_,e,_⟩,_⟩:=x;exact aJ e
 | rng lo hi=>obtain ⟨_,_,_,e⟩:=x;exact aJ e
 | frz ob u=>obtain ⟨e,_⟩:=x;exact aJ e
 | tbl ps=>exact aJ (show h.get? a=some _ from x)
 | met f y=>exact aJ (show h.get? a=some _ from x)
 | ext φ=>obtain ⟨_,⟨_,e⟩,_⟩:=x;exact aJ e
theorem Paired.Oz {α β:Type} {F G:α->β->Prop}:∀ {l₁:List α} {l₂:List β},Paired F l₁ l₂->(∀ a b,F a b->G a b)->Paired G l₁ l₂
 | _,_,.nil,_=>.nil
 | _,_,.cons r t,f=>.cons (f _ _ r) (Paired.Oz t f)
def fg.Ak (x:fg P w H h a o) (k:∀ b u,(b=a\/H b=some (.own a))->h.get? b=some u->h'.get? b=some u)
  (ho:∀ b,H b=some (.own a)->H' b=some (.own a)) (ht:∀ b xs,H b=some (.tup xs)->H' b=some (.tup xs)):fg P w H' h' a o:=by
 induction o with
 | lst xs=>obtain ⟨z,its,n,r,e⟩:=x;exact ⟨z,its,n,r,k _ _ (.inl rfl) e⟩
 | tup xs=>obtain ⟨z,its,r,ob,e,c⟩:=x;exact ⟨z,its,r,ob,k _ _ (.inl rfl) e,c⟩
 | dK kvs=>obtain ⟨z,y,vs,r,ob,es,ep,e,c⟩:=x;exact ⟨z,y,vs,r,ob,es,ep,k _ _ (.inl rfl) e,c⟩
 | dT kvs =>
  obtain ⟨z,y,xs,r,ob,es,ep,e,c⟩:=x
  exact ⟨z,y,xs,Paired.Oz r λp q z=>⟨z.1,ht _ _ z.2.1,z.2.2⟩,ob,es,ep,k _ _ (.inl rfl) e,c⟩
 | set S n=>obtain ⟨ob,es,ep,t,e,c⟩:=x;exact ⟨ob,es,ep,t,k _ _ (.inl rfl) e,c⟩
 | ins C dx fs =>
  obtain ⟨d,z,ne,e,mA,⟨od,es,ep,e2,c⟩,r⟩:=x
  exact ⟨ho _ d,z,ne,k _ _ (.inl rfl) e,mA,⟨od,es,ep,k _ _ (.inr d) e2,c⟩,r⟩
 | own y=>obtain ⟨ob,e⟩:=x;exact ⟨ob,k _ _ (.inl rfl) e⟩
 | xd fs=>obtain ⟨mA,⟨od,es,ep,e,c⟩,r⟩:=x;exact ⟨mA,⟨od,es,ep,k _ _ (.inl rfl) e,c⟩,r⟩
 | rng lo hi=>obtain ⟨t,u,v,e⟩:=x;exact ⟨t,u,v,k _ _ (.inl rfl) e⟩
 | frz ob u ih=>obtain ⟨e,q⟩:=x;exact ⟨k _ _ (.inl rfl) e,ih q⟩
 | tbl ps =>
  have e:h.get? a=some { cls:=.none,data:=.fields ps }:=x
  show h'.get? a=some { cls:=.none,data:=.fields ps }
  exact k a _ (.inl rfl) e
 | met f y =>
  have e:h.get? a=some (yG (.ref f) (.ref y)):=x
  show h'.get? a=some (yG (.ref f) (.ref y))
  exact k a _ (.inl rfl) e
 | ext φ=>obtain ⟨p,⟨o,e⟩,st⟩:=x;exact ⟨st _ _ p λo q=>k _ _ (.inl rfl) q,⟨o,k _ _ (.inl rfl) e⟩,st⟩
def qD.lt (x:qD P w H h) (e:H a=some o):a<h.objs.size:=(x a o e).lt
def qD.fresh (x:qD P w H h) (e:h.objs.size<=a):H a=none:=by
 cases q:H a with
 | none=>rfl
 | some u=>exact absurd (bA (x.lt q) e) (eS _)
def qD.kept (x:qD P w H h) (k:∀ b u,h.get? b=some u->h'.get? b=some u):qD P w H h':=λa o e =>
 (x a o e).Ak (λb u _ q=>k b u q) (λ_ q=>q) λ_ _ q=>q
def qD.laid (x:qD P w H h) (k:∀ b u,h.get? b=some u->h'.get? b=some u) (hp:h.objs.size<=a) (new:fg P w (upd H a o) h' a o):qD P w (upd H a o) h':=λb u e=>by
 have hn:=x.fresh hp
 by_cases hb:b=a
 ·subst hb;rw [aF] at e;cases e;exact new
 ·rw [aH hb] at e
  exact (x b u e).Ak (λc v _ q=>k c v q) (λc q=>by rw [aH (aQ q hn)];exact q) λc xs q=>by rw [aH (aQ q hn)];exact q
end
def Rd (H:Hp) (a:af) (u:HO):Prop:=H a=some u\/∃ o,H a=some (.frz o u)
def Rd.ok {P:a6}{w:bO}{H:Hp}{h:cf}{a:af}{u:HO}(r:Rd H a u) (x:qD P w H h):fg P w H h a u:=by
 rcases r with r|⟨o,r⟩
 ·exact x a u r
 ·obtain ⟨_,q⟩:=x a _ r;exact q
def X1:Option HO->Prop
 | some (.lst _)=>True
 | some (.dK _)=>True
 | some (.dT _)=>True
 | some (.set _ _)=>True
 | some (.ins _ _ _)=>True
 | some (.ext _)=>True
 | _=>False
section
variable {P:a6}{w:bO}{H:Hp}{h h':cf}{x e:af}{o':HO}
def qD.write (ok:qD P w H h) (mu:X1 (H x)) (he:e=x\/H e=some (.own x)) (k:∀ b u,b≠e->h.get? b=some u->h'.get? b=some u) (heo:∃ u,h'.get? e=some u)
  (new:fg P w (upd H x o') h' x o'):qD P w (upd H x o') h':=λb u q=>by
 have nown:∀ c y,H c=some (.own y)->c≠x:=λc y r z=>by subst z;rw [r] at mu;exact mu
 have ntup:∀ c xs,H c=some (.tup xs)->c≠x:=λc xs r z=>by subst z;rw [r] at mu;exact mu
 by_cases hb:b=x
 ·subst hb;rw [aF] at q;cases q;exact new
 ·rw [aH hb] at q
  by_cases hbe:b=e
  ·have q':H b=some (.own x):=by
    rcases he with z|z
    ·exact absurd (hbe.trans z) hb
    ·rw [hbe];exact z
   rw [q] at q';cases q';obtain ⟨v,hv⟩:=heo;exact ⟨v,by rw [hbe];exact hv⟩
  ·refine (ok b u q).Ak (λc v hc r=>k c v ?_ r) (λc r=>by rw [aH (nown c b r)];exact r) λc xs r=>by rw [aH (ntup c xs r)];exact r
   rcases hc with rfl|hc
   ·exact hbe
   ·rintro rfl
    rcases he with z|z
    ·exact nown c b hc z
    ·rw [hc] at z;cases z;exact hb rfl
end
structure Un (fs ex:List af) (H H':Hp) (h h':cf):Prop where
 keep:∀ b o,h.get? b=some o->H b=none->b∉fs->b∉ex->h'.get? b=some o
 slot:∀ b o,h.get? b=some o->H b=none->b∈fs->b∉ex->∃ sl,h'.get? b=some { o with slots:=sl }
 free:∀ b o,h.get? b=some o->H b=none->b∉ex->H' b=none
 there:∀ b o,h.get? b=some o->b∉ex->∃ o',h'.get? b=some o'
 EF:∀ b xs,H b=some (.tup xs)->H' b=some (.tup xs)
 C8:∀ b o u,H b=some (.frz o u)->H' b=some (.frz o u)
 C5:∀ b ps,H b=some (.tbl ps)->∃ more,H' b=some (.tbl (ps++more))
section
variable {fs fs' ex ex':List af}{H H1 H2:Hp}{h h1 h2 h':cf}{a x e:af}{o:HO}
def Un.any (u:Un fs ex H H1 h h1) {b:af}{ob:fT}(q:h.get? b=some ob) (n:H b=none) (hx:b∉ex):∃ sl,h1.get? b=some { ob with slots:=sl }:=by
 by_cases hb:b∈fs
 ·exact u.slot b ob q n hb hx
 ·exact ⟨ob.slots,u.keep b ob q n hb hx⟩
def Un.kept (k:∀ b u,h.get? b=some u->h'.get? b=some u):Un fs ex H H h h' :=
 ⟨λb ob q _ _ _=>k b ob q,λb ob q _ _ _=>⟨ob.slots,k b ob q⟩,λ_ _ _ n _=>n,λb ob q _=>⟨ob,k b ob q⟩,λ_ _ q=>q,λ_ _ _ q=>q,λ_ ps q=>⟨#[],by rw [q];simp⟩⟩
def Un.refl:Un fs ex H H h h:=Un.kept λ_ _ q=>q
def Un.laid (k:∀ b u,h.get? b=some u->h'.get? b=some u) (hp:h.objs.size<=a) (hn:H a=none):Un fs ex H (upd H a o) h h' where
 keep:=λb u q _ _ _=>k b u q
 slot:=λb u q _ _ _=>⟨u.slots,k b u q⟩
 free:=λb u q n _=>by rw [aH (bg (bA (aJ q) hp))];exact n
 there:=λb u q _=>⟨u,k b u q⟩
 EF:=λb xs q=>by rw [aH (aQ q hn)];exact q
 C8:=λb u xs q=>by rw [aH (aQ q hn)];exact q
 C5:=λb ps q=>⟨#[],by rw [aH (aQ q hn),q];simp⟩
def Un.write (mu:X1 (H x)) (he:e=x\/H e=some (.own x)) (k:∀ b u,b≠e->h.get? b=some u->h'.get? b=some u) (heo:∃ u,h'.get? e=some u):Un fs ex H (upd H x o) h h':=by
 have hx:∀ b,H b=none->b≠x:=λb n z=>by subst z;rw [n] at mu;exact mu
 have hb:∀ b,H b=none->b≠e:=λb n z=>by
  subst z
  rcases he with r|r
  ·exact hx b n r
  ·rw [n] at r;cases r
 have hm:∀ b u,H b=some u->¬ X1 (some u)->b≠x:=λb u q nm z=>by subst z;rw [q] at mu;exact nm mu
 refine ⟨λb u q n _ _=>k b u (hb b n) q,λb u q n _ _=>⟨u.slots,k b u (hb b n) q⟩,λb u q n _=>by rw [aH (hx b n)];exact n,λb u q _=>?_,
  λb xs q=>by rw [aH (hm b _ q λz=>z)];exact q,λb u xs q=>by rw [aH (hm b _ q λz=>z)];exact q,λb ps q=>⟨#[],by rw [aH (hm b _ q λz=>z),q];simp⟩⟩
 by_cases hbe:b=e
 ·subst hbe;exact heo
 ·exact ⟨u,k b u hbe q⟩
end
def ZR (h:cf) (H:Hp):List af:=(dv h.objs.size).filter λa=>(H a).isSome
def AN (h:cf) (H:Hp):cf:=PySem.W.hideAll h (ZR h H)
def NH (h:cf) (H:Hp):(AN h H).objs.size=h.objs.size:=PySem.W.hideAll_size _ _
def Pb {h:cf}{H:Hp}{b:af}{o:fT}(e:h.get? b=some o) (n:H b=none):(AN h H).get? b=some o :=
 PySem.W.hideAll_get _ e λhm=>by
  have q:(H b).isSome=true:=(bH.mp hm).2;rw [n] at q;simp at q
def Ss {h:cf}{H:Hp}{b:af}{o:fT}(e:(AN h H).get? b=some o):h.get? b=some o/\H b=none:=by
 have e':h.get? b=some o:=PySem.W.of_hideAll (ZR h H) e;refine ⟨e',?_⟩
 cases q:H b with
 | none=>rfl
 | some x =>
  have hm:b∈ZR h H:=bH.mpr ⟨jP.mpr (aJ e'),by simp [q]⟩;have z:(AN h H).get? b=none:=PySem.W.hideAll_none (ZR h H) hm;rw [z] at e;cases e
def sN (g h:cf) (L:af):List (af×fT):=(dv h.objs.size).filterMap λa=>if a=L\/(g.get? a).isSome=true then none else (h.get? a).map λo=>(a,o)
def yL {g h:cf}{L a:af}{o:fT}(h1:a≠L) (h2:g.get? a=none) (h3:h.get? a=some o):(a,o)∈sN g h L :=
 oB.mpr ⟨a,jP.mpr (aJ h3),by simp [h1,h2,h3]⟩
def AO {g h:cf}{L:af}{p:af×fT}(hp:p∈sN g h L):p.1≠L/\g.get? p.1=none/\h.get? p.1=some p.2:=by
 obtain ⟨b,_,e⟩:=oB.mp hp
 split at e
 ·cases e
 ·rename_i hn
  cases q:h.get? b with
  | none=>rw [q] at e;simp at e
  | some u =>
   rw [q] at e;simp only [Do,gg] at e;subst e;refine ⟨λz=>hn (.inl z),?_,q⟩
   show g.get? b=none
   cases r:g.get? b with
   | none=>rfl
   | some v=>exact (hn (.inr (by simp [r]))).elim
def Pc {g h:cf}{L:af}:News g L h (sN g h L):=λp hp=>let ⟨a,b,c⟩:=AO hp;⟨c,a,b⟩
end L2
namespace L2
structure Mod (K:aa) (mg:bj->Option ai) (base:cf):Prop where
 VC:K.In base
 glob:base.Ns bU mg
 blt:∃ mb,base.Ns builtinsNs mb/\∀ x:bj,x≠"__name__"->mb x=dI x
 nolimit:base.NoLimit
structure Cx where
 prog:a6
 w:bO
 K:aa
 mg:bj->Option ai
 base:cf
 A:bR
 N:List bj
 s₀:ao
 H₀:Hp
 env:EH
 outer:List EH
 stack:List EH
 ex:List af
 fn:bj->Bool
 calm:Bool
 pn:List (af×fT)
 xe:ai->ao->Prop
def Ov (l:List EH):List af:=l.filterMap (·.frame)
abbrev Cx.fs (X:Cx):List af:=Ov X.outer
def ZT (sc:jx) (x:bj):Prop:=sc.names.lookup x=some .local\/sc.names.lookup x=some .cell\/sc.names.lookup x=some .free
def Loc (sc:jx) (x:bj):Prop:=sc.names.lookup x=some .local\/sc.names.lookup x=some .cell
def Look (env:EH) (h:cf) (m:bj->Option ai) (x:bj) (u:ai):Prop :=
 (env.kindOf x=some .local/\m x=some u)\/((env.kindOf x=some .cell\/env.kindOf x=some .free)/\∃ c,env.cells.lookup x=some c/\h.IsCell c (some u))
structure Cx.Ok (X:Cx):Prop where
 mod:Mod X.K X.mg X.base
 kind:X.env.scope.kind=.function
 glob:X.env.globals=bU
 blt:X.env.builtins=builtinsNs
 above:X.s₀.heap.objs.size<=X.env.locals
 inj:∀ x y c,X.env.cells.lookup x=some c->X.env.cells.lookup y=some c->x=y
 has:∀ x,(X.env.kindOf x=some .cell\/X.env.kindOf x=some .free)->∃ c,X.env.cells.lookup x=some c
 XN:∀ x c,X.fn x=true->X.env.cells.lookup x=some c->X.s₀.heap.objs.size<=c
 hd:X.calm=true->X.A.handled=none
 frames:X.A.frames=some X.stack
 Zw:X.stack=X.outer\/(X.stack=X.env::X.outer/\X.env.frame=some X.env.locals)
 exf:∀ b∈X.ex,b≠X.env.locals/\∀ x c,X.env.cells.lookup x=some c->c≠b
 bs:∀ b o,X.base.get? b=some o->X.s₀.heap.get? b=some o/\X.H₀ b=none
 RQ:X.base.objs.size<=X.s₀.heap.objs.size
 Os:∀ b o,X.base.get? b=some o->b∉X.ex
 OA:∀ b∈X.ex,b∉X.fs
 yF:X.s₀.heap.FunFrames X.base X.outer
 Vw:∀ b∈X.fs,X.H₀ b=none
structure Inv (X:Cx) (pins:List (af×fT)) (Z:List (Option V)) (H:Hp) (s:ao):Prop where
 ok:X.Ok
 os:s.os=X.s₀.os
 bare:xu s.gens
 base:Un X.fs X.ex X.H₀ H X.s₀.heap s.heap
 loc:∃ m,s.heap.Ns X.env.locals m/\∀ (i:Nat) (x:bj) (v:V),X.N[i]?=some x->Z[i]?=some (some v)->ZT X.env.scope x->∃ u,RelV v u/\Look X.env s.heap m x u
 cell:∀ x c,X.env.cells.lookup x=some c->∃ v,s.heap.IsCell c v
 free:H X.env.locals=none
 sC:∀ x c,X.env.cells.lookup x=some c->H c=none
 pin:∀ p∈X.pn++pins,s.heap.get? p.1=some p.2/\H p.1=none/\p.1≠X.env.locals/\p.1∉X.fs/\∀ v,p.2.data≠.cell v
 fo:qD X.prog X.w H s.heap
 len:Z.length=X.N.length
section
variable {X:Cx}{pins:List (af×fT)}{Z:List (Option V)}{H H':Hp}{s:ao}{h':cf}
def Cx.Ok.nofr (ok:X.Ok) {b:af}{o:fT}(e:X.base.get? b=some o):b∉X.fs:=λhb=>by
 have:=(ok.yF.mem hb).1;rw [e] at this;cases this
def Inv.bs (I:Inv X pins Z H s):∀ b o,X.base.get? b=some o->s.heap.get? b=some o/\H b=none:=λb o e =>
 ⟨I.base.keep b o (I.ok.bs b o e).1 (I.ok.bs b o e).2 (I.ok.nofr e) (I.ok.Os b o e),I.base.free b o (I.ok.bs b o e).1 (I.ok.bs b o e).2 (I.ok.Os b o e)⟩
def Inv.bk (I:Inv X pins Z H s):∀ b o,X.base.get? b=some o->s.heap.get? b=some o:=λb o e=>(I.bs b o e).1
def Inv.mod (I:Inv X pins Z H s):Mod X.K X.mg X.base:=I.ok.mod
def Inv.Al (I:Inv X pins Z H s):X.K.In s.heap:=I.ok.mod.VC.keeps I.bk
def Inv.fr (I:Inv X pins Z H s):∃ m,Fr X.base X.env.locals s.heap m :=
 let ⟨m,hn,_⟩:=I.loc
 ⟨m,hn,I.bk,bu I.ok.RQ I.ok.above⟩
def Inv.lt (I:Inv X pins Z H s):X.env.locals<s.heap.objs.size:=let ⟨_,hn,_⟩:=I.loc;hn.lt
def Inv.sz (I:Inv X pins Z H s):X.s₀.heap.objs.size<=s.heap.objs.size:=bu I.ok.above (ki I.lt)
def Inv.nofs (I:Inv X pins Z H s) {a:af}(h:s.heap.objs.size<=a):a∉X.fs:=λhb=>by
 obtain ⟨_,o,ho,_⟩:=I.ok.yF.mem hb;exact absurd (bA (aJ ho) (bu I.sz h)) (eS _)
def Inv.Xa (I:Inv X pins Z H s):∀ x c,X.env.cells.lookup x=some c->c≠X.env.locals:=λx c e z=>by
 obtain ⟨v,o,ho,hd⟩:=I.cell x c e;obtain ⟨m,⟨o',es,ep,ho',hd',_⟩,_⟩:=I.loc;rw [z,ho'] at ho;cases ho;rw [hd'] at hd;cases hd
def Inv.yF (I:Inv X pins Z H s):s.heap.FunFrames X.base X.outer:=by
 have all:∀ (l:List EH),(∀ b∈Ov l,b∈X.fs)->X.s₀.heap.FunFrames X.base l->s.heap.FunFrames X.base l:=by
  intro l
  induction l with
  | nil=>intro _ _;trivial
  | cons env r ih =>
   intro hs hl;obtain ⟨hk,⟨L,o,hf,hn,ho,hd⟩,hr⟩:=hl;have hL:L∈X.fs:=hs L (by unfold Ov;rw [xF,hf];exact aw);obtain ⟨sl,e⟩:=I.base.slot L o ho (I.ok.Vw L hL) hL λz=>I.ok.OA L z hL;exact ⟨hk,⟨L,_,hf,hn,e,hd⟩,ih (λb hb=>hs b (by unfold Ov;rw [xF,hf];exact aj _ hb)) hr⟩
 exact all X.outer (λ_ hb=>hb) I.ok.yF
def Inv.stack (I:Inv X pins Z H s):s.heap.FunFrames X.base X.stack:=by
 rcases I.ok.Zw with e|⟨e,hf⟩
 ·rw [e];exact I.yF
 ·rw [e];obtain ⟨m,hn,_⟩:=I.loc;refine .cons (by rw [I.ok.kind];decide) hf hn ?_ I.yF;exact O0 (bu I.ok.RQ I.ok.above)
def Inv.Me (I:Inv X pins Z H s):∀ b∈Ov X.stack,b∈X.env.locals::X.fs:=λb hb=>by
 rcases I.ok.Zw with e|⟨e,hf⟩
 ·rw [e] at hb;exact aj _ hb
 ·rw [e] at hb;unfold Ov at hb;rw [xF,hf] at hb;exact hb
def Inv.Nr (I:Inv X pins Z H s):∀ b∈Ov X.stack,H b=none:=λb hb=>by
 rcases au.mp (I.Me b hb) with e|hb
 ·rw [e];exact I.free
 ·obtain ⟨_,o,ho,_⟩:=I.ok.yF.mem hb;exact I.base.free b o ho (I.ok.Vw b hb) λz=>I.ok.OA b z hb
def Inv.step {g':Array Xl}{t':Nat}{d':Drawn}{ch:List af}(I:Inv X pins Z H s)
  (hch:∀ b∈ch,(b∈X.ex\/X.s₀.heap.objs.size<=b)/\b≠X.env.locals/\(∀ x c,X.env.cells.lookup x=some c->c≠b)/\∀ p∈X.pn++pins,p.1≠b)
  (keep:∀ b o,b≠X.env.locals->b∉X.fs->b∉ch->s.heap.get? b=some o->H b=none->h'.get? b=some o)
  (slot:∀ b o,b≠X.env.locals->b∈X.fs->b∉ch->s.heap.get? b=some o->H b=none->∃ sl,h'.get? b=some { o with slots:=sl }) (free:∀ b o,b∉ch->s.heap.get? b=some o->H b=none->H' b=none)
  (there:∀ b o,b∉ch->s.heap.get? b=some o->∃ o',h'.get? b=some o')
  (EF:∀ b xs,H b=some (.tup xs)->H' b=some (.tup xs)) (C8:∀ b o u,H b=some (.frz o u)->H' b=some (.frz o u)) (C5:∀ b ps,H b=some (.tbl ps)->∃ more,H' b=some (.tbl (ps++more)))
  (ns:∀ m,s.heap.Ns X.env.locals m->h'.Ns X.env.locals m) (fo:qD X.prog X.w H' h') (hg:xu g') :
  Inv X pins Z H' { s with heap:=h',gens:=g',drawn:=d',toks:=t' }:=by
 have neL:∀ b o,X.s₀.heap.get? b=some o->b≠X.env.locals:=λb o e=>bg (bA (aJ e) I.ok.above)
 have neC:∀ b o,X.s₀.heap.get? b=some o->b∉X.ex->b∉ch:=λb o e hx hb=>by
  rcases (hch b hb).1 with z|z
  ·exact hx z
  ·exact absurd (bA (aJ e) z) (eS _)
 have cellK:∀ x c,X.env.cells.lookup x=some c->∀ v,s.heap.IsCell c v->h'.IsCell c v:=λx c e v ⟨o,ho,hd⟩=>by
  have nch:c∉ch:=λz=>(hch c z).2.2.1 x c e rfl
  by_cases hc:c∈X.fs
  ·obtain ⟨sl,q⟩:=slot c o (I.Xa x c e) hc nch ho (I.sC x c e);exact ⟨_,q,hd⟩
  ·exact ⟨o,keep c o (I.Xa x c e) hc nch ho (I.sC x c e),hd⟩
 refine ⟨I.ok,I.os,hg,⟨λb o e n hb hx=>?_,λb o e n hb hx=>?_,λb o e n hx=>?_,λb o e hx=>?_,λb xs e=>EF b xs (I.base.EF b xs e),λb o xs e=>C8 b o xs (I.base.C8 b o xs e),λb ps e=>?_⟩,?_,λx c e=>?_,?_,λx c e=>?_,λp hp=>?_,fo,I.len⟩
 ·exact keep b o (neL b o e) hb (neC b o e hx) (I.base.keep b o e n hb hx) (I.base.free b o e n hx)
 ·obtain ⟨sl,e1⟩:=I.base.slot b o e n hb hx;obtain ⟨sl',e2⟩:=slot b _ (neL b o e) hb (neC b o e hx) e1 (I.base.free b o e n hx);exact ⟨sl',e2⟩
 ·obtain ⟨o',e1⟩:=I.base.there b o e hx;exact free b o' (neC b o e hx) e1 (I.base.free b o e n hx)
 ·obtain ⟨o',e1⟩:=I.base.there b o e hx;exact there b o' (neC b o e hx) e1
 ·obtain ⟨m1,e1⟩:=I.base.C5 b ps e;obtain ⟨m2,e2⟩:=C5 b _ e1;exact ⟨m1++m2,by rw [e2,yH]⟩
 ·obtain ⟨m,hn,hl⟩:=I.loc;refine ⟨m,ns m hn,λi x v e1 e2 e3=>?_⟩;obtain ⟨u,r,l⟩:=hl i x v e1 e2 e3;refine ⟨u,r,?_⟩
  rcases l with l|⟨k,c,e,z⟩
  ·exact .inl l
  ·exact .inr ⟨k,c,e,cellK x c e _ z⟩
 ·obtain ⟨v,z⟩:=I.cell x c e;exact ⟨v,cellK x c e v z⟩
 ·obtain ⟨m,⟨o,_,_,ho,_⟩,_⟩:=I.loc;exact free _ o (λz=>(hch _ z).2.1 rfl) ho I.free
 ·obtain ⟨v,o,ho,hd⟩:=I.cell x c e;exact free c o (λz=>(hch c z).2.2.1 x c e rfl) ho (I.sC x c e)
 ·obtain ⟨e,n,ne,nf,d⟩:=I.pin p hp;have nch:p.1∉ch:=λz=>(hch p.1 z).2.2.2 p hp rfl;exact ⟨keep p.1 p.2 ne nf nch e n,free p.1 p.2 nch e n,ne,nf,d⟩
def Inv.un {t':Nat}(I:Inv X pins Z H s) (u:Un X.fs [] H H' s.heap h') (fo:qD X.prog X.w H' h'):Inv X pins Z H' { s with heap:=h',toks:=t' }:=by
 obtain ⟨m,⟨o,es,ep,ho,r⟩,_⟩:=id I.loc;obtain ⟨sl,hL⟩:=u.any ho I.free (by simp)
 exact I.step (g':=s.gens) (d':=s.drawn) (ch:=[]) (λ_ z=>nomatch z) (λb o _ hb _ e n=>u.keep b o e n hb (by simp)) (λb o _ hb _ e n=>u.slot b o e n hb (by simp)) (λb o _ e n=>u.free b o e n (by simp)) (λb o _ e=>u.there b o e (by simp)) u.EF u.C8 u.C5 (λm' hm=>by
  obtain ⟨o',es',ep',ho',r'⟩:=hm;rw [ho] at ho';cases ho'
  exact ⟨_,es',ep',hL,r'⟩) fo I.bare
def Inv.call {g':Array Xl}{t':Nat}{d':Drawn}{ch:List af}(I:Inv X pins Z H s) (u:Un (Ov X.stack) ch H H' s.heap h') (fo:qD X.prog X.w H' h') (hg:xu g')
  (hch:∀ b∈ch,(b∈X.ex\/X.s₀.heap.objs.size<=b)/\b≠X.env.locals/\(∀ x c,X.env.cells.lookup x=some c->c≠b)/\∀ p∈X.pn++pins,p.1≠b) :
  Inv X pins Z H' { s with heap:=h',gens:=g',drawn:=d',toks:=t' }:=by
 obtain ⟨m,⟨o,es,ep,ho,r⟩,_⟩:=id I.loc;obtain ⟨sl,hL⟩:=u.any ho I.free λz=>(hch _ z).2.1 rfl
 exact I.step (ch:=ch) hch (λb o hL hb hc e n=>u.keep b o e n (λz=>(au.mp (I.Me b z)).elim hL hb) hc) (λb o _ _ hc e n=>u.any e n hc) (λb o hc e n=>u.free b o e n hc) (λb o hc e=>u.there b o e hc) u.EF u.C8 u.C5 (λm' hm=>by
  obtain ⟨o',es',ep',ho',r'⟩:=hm;rw [ho] at ho';cases ho'
  exact ⟨_,es',ep',hL,r'⟩) fo hg
def Inv.turned {t':Nat}{it:af}(I:Inv X pins Z H s) (k:∀ b o,b≠it->s.heap.get? b=some o->h'.get? b=some o) (hn:H it=none) (hL:it≠X.env.locals)
  (h1:it∈X.ex\/X.s₀.heap.objs.size<=it) (h2:∀ x c,X.env.cells.lookup x=some c->c≠it) (h3:∀ p∈X.pn++pins,p.1≠it):Inv X pins Z H { s with heap:=h',toks:=t' }:=by
 have nit:∀ b u,H b=some u->b≠it:=λb u e z=>by rw [z,hn] at e;cases e
 refine I.step (g':=s.gens) (d':=s.drawn) (ch:=[it]) (λb hb=>?_) (λb o _ _ hc e _=>k b o (λz=>hc (by simp [z])) e) (λb o _ _ hc e _=>⟨o.slots,k b o (λz=>hc (by simp [z])) e⟩) (λ_ _ _ _ n=>n)
  (λb o hc e=>⟨o,k b o (λz=>hc (by simp [z])) e⟩) (λ_ _ e=>e) (λ_ _ _ e=>e) (λb ps e=>⟨#[],by rw [e];simp⟩) (λm hm=>?_) (λb u e=>?_) I.bare
 ·have e:b=it:=by simpa using hb
  subst e;exact ⟨h1,hL,h2,h3⟩
 ·obtain ⟨o,es,ep,ho,r⟩:=hm;exact ⟨o,es,ep,k _ o (Ne.symm hL) ho,r⟩
 ·refine (I.fo b u e).Ak (λc v hc q=>k c v ?_ q) (λ_ q=>q) λ_ _ q=>q
  rcases hc with z|z
  ·rw [z];exact nit b u e
  ·exact nit c _ z
def Inv.tok (I:Inv X pins Z H s) (t:Nat):Inv X pins Z H { s with toks:=t }:=I.un (h':=s.heap) (t':=t) Un.refl I.fo
def Inv.kept {t':Nat}(I:Inv X pins Z H s) (k:∀ b u,s.heap.get? b=some u->h'.get? b=some u):Inv X pins Z H { s with heap:=h',toks:=t' }:=I.un (Un.kept k) (I.fo.kept k)
def Inv.laid {a:af}{o:HO}{t':Nat}(I:Inv X pins Z H s) (k:∀ b u,s.heap.get? b=some u->h'.get? b=some u) (hp:s.heap.objs.size<=a) (new:fg X.prog X.w (upd H a o) h' a o) :
  Inv X pins Z (upd H a o) { s with heap:=h',toks:=t' }:=I.un (Un.laid k hp (I.fo.fresh hp)) (I.fo.laid k hp new)
def Inv.write {x e:af}{o:HO}{t':Nat}(I:Inv X pins Z H s) (mu:X1 (H x)) (he:e=x\/H e=some (.own x)) (k:∀ b u,b≠e->s.heap.get? b=some u->h'.get? b=some u) (heo:∃ u,h'.get? e=some u)
  (new:fg X.prog X.w (upd H x o) h' x o):Inv X pins Z (upd H x o) { s with heap:=h',toks:=t' }:=I.un (Un.write mu he k heo) (I.fo.write mu he k heo new)
def Inv.Nm {pins':List (af×fT)}(I:Inv X pins Z H s) (h:∀ p∈pins',s.heap.get? p.1=some p.2/\H p.1=none/\p.1≠X.env.locals/\p.1∉X.fs/\∀ v,p.2.data≠.cell v):Inv X pins' Z H s :=
 ⟨I.ok,I.os,I.bare,I.base,I.loc,I.cell,I.free,I.sC,λp hp=>(aN.mp hp).elim (λz=>I.pin p (dX _ z)) (h p),I.fo,I.len⟩
def Ia {N:List bj}(hN:N.Nodup) {i j:Nat}{x:bj}(a:N[i]?=some x) (b:N[j]?=some x):i=j:=by
 obtain ⟨h1,e1⟩:=aC.mp a;obtain ⟨h2,e2⟩:=aC.mp b;exact (List.getElem_inj hN).mp (e1.trans e2.symm)
def EN {M:Model}{A:bR}{E:ai->ao->Prop}{i:Nat}{x:bj}{v:V}{u:ai}{Q:Unit->ao->Prop}(I:Inv X pins Z H s) (hN:X.N.Nodup) (hi:X.N[i]?=some x) (hx:Loc X.env.scope x) (r:RelV v u)
  (h:∀ s',Inv X pins (Z.set i (some v)) H s'->(∃ a,gY a s.heap s'.heap/\(a=X.env.locals\/X.env.cells.lookup x=some a))->Q () s') (hf:X.fn x=true\/X.env.scope.names.lookup x=some .local:=by first|exact .inl rfl|exact .inr rfl|assumption):aG M A (storeName X.env x u) Q E s:=by
 obtain ⟨m,hn,hl⟩:=id I.loc
 have hcls:(X.env.scope.kind == .class || (X.env.scope.kind == .module && X.env.locals != X.env.globals))=false:=by rw [I.ok.kind];rfl
 have hiσ:i<Z.length:=by rw [I.len];exact (aC.mp hi).1
 have Xa:=I.Xa
 have tracked:∀ {a:af}{h':cf},(∃ o,s.heap.get? a=some o/\H a=none)->gY a s.heap h'->qD X.prog X.w H h':=λ{a h'} ha hs b ob e=>by
  obtain ⟨_,_,hfree⟩:=ha;refine (I.fo b ob e).Ak (λc w' hc q=>(hs.2 c ?_).trans q) (λ_ q=>q) λ_ _ q=>q;rintro rfl
  rcases hc with rfl|hc
  ·rw [hfree] at e;cases e
  ·rw [hfree] at hc;cases hc
 rcases hx with hk|hk
 ·refine wpAny_storeName_local hk hn (λh' hn' hs=>?_) hcls;obtain ⟨oL,_,_,hoL,_⟩:=id hn;refine h _ ⟨I.ok,I.os,I.bare,⟨λb o e n hb hx=>?_,λb o e n hb hx=>?_,I.base.free,λb o e hx=>?_,I.base.EF,I.base.C8,I.base.C5⟩,⟨_,hn',λj y v' e1 e2 e3=>?_⟩,λy c e=>?_,I.free,I.sC,λp hp=>?_,tracked ⟨oL,hoL,I.free⟩ hs,by simpa using I.len⟩ ⟨_,hs,.inl rfl⟩
  ·exact (hs.2 b (bg (bA (aJ e) I.ok.above))).trans (I.base.keep b o e n hb hx)
  ·obtain ⟨sl,e1⟩:=I.base.slot b o e n hb hx;exact ⟨sl,(hs.2 b (bg (bA (aJ e) I.ok.above))).trans e1⟩
  ·obtain ⟨o',e1⟩:=I.base.there b o e hx;exact ⟨o',(hs.2 b (bg (bA (aJ e) I.ok.above))).trans e1⟩
  ·by_cases hj:j=i
   ·subst hj;rw [hi] at e1;cases e1;rw [je hiσ] at e2;cases e2;exact ⟨u,r,.inl ⟨hk,by simp⟩⟩
   ·rw [mU (Ne.symm hj)] at e2;obtain ⟨u',r',q⟩:=hl j y v' e1 e2 e3;refine ⟨u',r',?_⟩
    rcases q with ⟨k,e⟩|⟨k,c,e,z⟩
    ·refine .inl ⟨k,?_⟩;have:y≠x:=λe=>hj (Ia hN e1 (e▸hi));simp [this,e]
    ·exact .inr ⟨k,c,e,z.sameBut hs (Xa y c e)⟩
  ·obtain ⟨w',z⟩:=I.cell y c e;exact ⟨w',z.sameBut hs (Xa y c e)⟩
  ·obtain ⟨e,n,ne,nf,d⟩:=I.pin p hp;exact ⟨(hs.2 p.1 ne).trans e,n,ne,nf,d⟩
 ·have hfn:X.fn x=true:=by
   rcases hf with z|z
   ·exact z
   ·rw [z] at hk;cases hk
  obtain ⟨c,hc⟩:=I.ok.has x (.inl hk);obtain ⟨w',z⟩:=I.cell x c hc;refine wpAny_storeName_cell I.ok.kind hk hc z (λh' hc' hs=>?_);obtain ⟨oc,hoc,hocd⟩:=id z;refine h { s with heap:=h' } ⟨I.ok,I.os,I.bare,⟨λb o e n hb hx=>?_,λb o e n hb hx=>?_,I.base.free,λb o e hx=>?_,I.base.EF,I.base.C8,I.base.C5⟩,⟨m,hn.sameBut hs (Ne.symm (Xa x c hc)),λj y v' e1 e2 e3=>?_⟩,λy c' e=>?_,I.free,I.sC,λp hp=>?_,tracked ⟨oc,hoc,I.sC x c hc⟩ hs,by simpa using I.len⟩ ⟨c,hs,.inr hc⟩
  ·exact (hs.2 b (bg (bA (aJ e) (I.ok.XN x c hfn hc)))).trans (I.base.keep b o e n hb hx)
  ·obtain ⟨sl,e1⟩:=I.base.slot b o e n hb hx;exact ⟨sl,(hs.2 b (bg (bA (aJ e) (I.ok.XN x c hfn hc)))).trans e1⟩
  ·obtain ⟨o',e1⟩:=I.base.there b o e hx;exact ⟨o',(hs.2 b (bg (bA (aJ e) (I.ok.XN x c hfn hc)))).trans e1⟩
  ·by_cases hj:j=i
   ·subst hj;rw [hi] at e1;cases e1;rw [je hiσ] at e2;cases e2;exact ⟨u,r,.inr ⟨.inl hk,c,hc,hc'⟩⟩
   ·rw [mU (Ne.symm hj)] at e2;obtain ⟨u',r',q⟩:=hl j y v' e1 e2 e3;refine ⟨u',r',?_⟩
    rcases q with q|⟨k,c',e,z'⟩
    ·exact .inl q
    ·refine .inr ⟨k,c',e,z'.sameBut hs ?_⟩;rintro rfl;exact hj (Ia hN e1 (I.ok.inj _ _ _ e hc▸hi))
  ·by_cases hcc:c'=c
   ·subst hcc;exact ⟨_,hc'⟩
   ·obtain ⟨w2,z2⟩:=I.cell y c' e;exact ⟨w2,z2.sameBut hs hcc⟩
  ·obtain ⟨e,n,ne,nf,d⟩:=I.pin p hp;refine ⟨(hs.2 p.1 ?_).trans e,n,ne,nf,d⟩;intro q;rw [q,hoc] at e;have q':oc=p.2:=aY e;exact d w' (by rw [← q'];exact hocd)
def AQ {M:Model}{A:bR}{E:ai->ao->Prop}{i:Nat}{x:bj}{v:V}{u:ai}{Q:Unit->ao->Prop}(I:Inv X pins Z H s) (hN:X.N.Nodup) (hi:X.N[i]?=some x) (hx:Loc X.env.scope x) (r:RelV v u)
  (h:∀ s',Inv X pins (Z.set i (some v)) H s'->Q () s') (hf:X.fn x=true\/X.env.scope.names.lookup x=some .local:=by first|exact .inl rfl|exact .inr rfl|assumption):aG M A (storeName X.env x u) Q E s :=
 EN I hN hi hx r (λs' I' _=>h s' I') hf
def Inv.Zo {s':ao}{ch:List af}(I:Inv X pins Z H s) (ho:s'.os=s.os) (u:Un (Ov X.stack) ch H H' s.heap s'.heap) (fo:qD X.prog X.w H' s'.heap) (hg:xu s'.gens)
  (hch:∀ b∈ch,(b∈X.ex\/X.s₀.heap.objs.size<=b)/\b≠X.env.locals/\(∀ x c,X.env.cells.lookup x=some c->c≠b)/\∀ p∈X.pn++pins,p.1≠b):Inv X pins Z H' s':=by
 obtain ⟨h',g',d',t',o'⟩:=s';have e:o'=s.os:=ho;subst e;exact I.call (g':=g') (t':=t') (d':=d') u fo hg hch
end
abbrev XK:=ai->Option af->Hp->Prop
abbrev St:=List (Option V)
abbrev VK:=V->Hp->Prop
abbrev TE:=St->Hp->VK->Prop
abbrev TT:=St->Hp->(Bool->Hp->Prop)->Prop
abbrev TA:=St->Hp->(List V->Hp->Prop)->Prop
structure tD where
 nx:St->Hp->Prop
 rt:VK
 bk:St->Hp->Prop:=λ_ _=>False
 ct:St->Hp->Prop:=λ_ _=>False
abbrev TS:=tD->St->Hp->Prop
def EP (X:Cx) (pins:List (af×fT)) (Z:St) (Q:VK) (u:ai) (s':ao):Prop:=∃ v H',Inv X pins Z H' s'/\RelV v u/\Q v H'
def TP (X:Cx) (pins:List (af×fT)) (Z:St) (Q:Bool->Hp->Prop) (b:Bool) (s':ao):Prop:=∃ H',Inv X pins Z H' s'/\Q b H'
def AP (X:Cx) (pins:List (af×fT)) (Z:St) (Q:List V->Hp->Prop) (us:List ai) (s':ao):Prop:=∃ vs H',Inv X pins Z H' s'/\Vals vs us/\Q vs H'
def SP (X:Cx) (pins:List (af×fT)) (D:tD) (f:Flow) (s':ao):Prop :=
 match f with
 | .next=>∃ σ' H',Inv X pins σ' H' s'/\D.nx σ' H'
 | .brk=>∃ σ' H',Inv X pins σ' H' s'/\D.bk σ' H'
 | .cont=>∃ σ' H',Inv X pins σ' H' s'/\D.ct σ' H'
 | .ret u=>∃ v σ' H',Inv X pins σ' H' s'/\RelV v u/\D.rt v H'
def PE (X:Cx) (e:Expr) (t:TE):Prop :=
 ∀ (pins:List (af×fT)) (s:ao) (Z:St) (H:Hp) (Q:VK),Inv X pins Z H s->t Z H Q->aG (aM X.prog X.w) X.A (fh e X.env) (EP X pins Z Q) X.xe s
def PT (X:Cx) (e:Expr) (t:TT):Prop :=
 ∀ (pins:List (af×fT)) (s:ao) (Z:St) (H:Hp) (Q:Bool->Hp->Prop),Inv X pins Z H s->t Z H Q->aG (aM X.prog X.w) X.A (isTrue e X.env (fh e X.env)) (TP X pins Z Q) X.xe s
def PW (X:Cx) (e:Expr) (t:TT):Prop :=
 ∀ (whole:Uq ai) (pins:List (af×fT)) (s:ao) (Z:St) (H:Hp) (Q:Bool->Hp->Prop),Inv X pins Z H s->t Z H Q->aG (aM X.prog X.w) X.A (isTrue e X.env whole) (TP X pins Z Q) X.xe s
def PW.pt {X:Cx}{e:Expr}{t:TT}(h:PW X e t):PT X e t:=h _
def PA (X:Cx) (es:List Expr) (t:TA):Prop :=
 ∀ (pos:lg) (pins:List (af×fT)) (s:ao) (Z:St) (H:Hp) (Q:List V->Hp->Prop),Inv X pins Z H s->t Z H Q->aG (aM X.prog X.w) X.A (spliced (g9 pos (bL es X.env))) (AP X pins Z Q) X.xe s
def PS (X:Cx) (st:dz) (t:TS):Prop :=
 ∀ (pins:List (af×fT)) (s:ao) (Z:St) (H:Hp) (D:tD),Inv X pins Z H s->t D Z H->aG (aM X.prog X.w) X.A (exec st X.env) (SP X pins D) X.xe s
def Kt (X:Cx) (st:List dz) (t:TS):Prop :=
 ∀ (pins:List (af×fT)) (s:ao) (Z:St) (H:Hp) (D:tD),Inv X pins Z H s->t D Z H->aG (aM X.prog X.w) X.A (execs st X.env) (SP X pins D) X.xe s
def ic {α:Type} {t:Uq α}{Q Q':α->ao->Prop}{M:Model}{A:bR}{E:ai->ao->Prop}{s:ao}(h:aG M A t Q E s) (hQ:∀ a s,Q a s->Q' a s):aG M A t Q' E s:=dO h hQ λ_ _ x=>x
end L2
namespace L2
section
variable {X:Cx}
def aq (i:Nat):TE:=λZ H Q=>∃ v,Z[i]?=some (some v)/\Q v H
def tC (v:V):TE:=λ_ H Q=>Q v H
def VW {i:Nat}{x:bj}{pos:lg}(hN:X.N[i]?=some x) (hv:ZT X.env.scope x) (hd:(x == ("__debug__":bj))=false:=by decide) (hcd:(x == ("__classdict__":bj))=false:=by decide):PE X (.Name x pos) (aq i):=by
 intro pins s Z H Q I h;obtain ⟨v,e,h⟩:=h;obtain ⟨m,hn,hl⟩:=I.loc;obtain ⟨u,r,l⟩:=hl i x v hN e hv
 have fin:EP X pins Z Q u s:=⟨v,H,I,r,h⟩
 rcases l with ⟨hk,hm⟩|⟨hk,c,hc,hcell⟩
 ·exact qG (kC I.ok.kind hk hn hm fin) hd
 ·rcases hk with hk|hk
  ·exact qG (XQ I.ok.kind hk hc hcell fin) hd
  ·exact qG (XR I.ok.kind hk hc hcell fin hcd) hd
def cT {i j pos}:PE X (.Constant (.int i) j pos) (tC (.int i)):=λ_ _ _ H _ I h=>wpAny_Constant_int ⟨.int i,H,I.tok _,⟨_,rfl⟩,h⟩
def X2 {b j pos}:PE X (.Constant (.bool b) j pos) (tC (.bl b)):=λ_ _ _ H _ I h=>Constant_bool ⟨.bl b,H,I,rfl,h⟩
def VX {j pos}:PE X (.Constant .none j pos) (tC .non):=λ_ _ _ H _ I h=>RT ⟨.non,H,I,rfl,h⟩
def Gl (X:Cx) (x:bj):Prop:=X.env.kindOf x=some .globalImplicit
def FN {E:ai->ao->Prop}{pins:List (af×fT)}{s:ao}{Z:St}{H:Hp}{x:bj}{u:ai}{pos:lg}{Q:ai->ao->Prop}(I:Inv X pins Z H s) (hg:Gl X x) (hm:X.mg x=some u) (h:Q u s)
  (hd:(x == ("__debug__":bj))=false:=by decide):aG (aM X.prog X.w) X.A (fh (.Name x pos) X.env) Q E s :=
 Hv I.ok.kind hg (Calls.loadGlobal_global (by rw [I.ok.glob];exact I.mod.glob.keeps I.bk) hm h) hd
def oh {E:ai->ao->Prop}{pins:List (af×fT)}{s:ao}{Z:St}{H:Hp}{x:bj}{u:ai}{pos:lg}{Q:ai->ao->Prop}(I:Inv X pins Z H s) (hg:Gl X x) (hm:X.mg x=none) (hv:dI x=some u) (h:Q u s)
  (hn:x≠"__name__":=by decide) (hd:(x == ("__debug__":bj))=false:=by decide):aG (aM X.prog X.w) X.A (fh (.Name x pos) X.env) Q E s:=by
 obtain ⟨mb,h1,h2⟩:=I.mod.blt;exact Hv I.ok.kind hg (Calls.loadGlobal_builtin (by rw [I.ok.glob];exact I.mod.glob.keeps I.bk) hm (by rw [I.ok.blt];exact h1.keeps I.bk) ((h2 x hn).trans hv) h) hd
def Su {x:bj}{v:V}{u:ai}{pos:lg}(hg:Gl X x) (hm:X.mg x=some u) (r:RelV v u) (hd:(x == ("__debug__":bj))=false:=by decide):PE X (.Name x pos) (tC v) :=
 λ_ _ _ H _ I h=>FN I hg hm ⟨v,H,I,r,h⟩ hd
def FO {x:bj}{v:V}{u:ai}{pos:lg}(hg:Gl X x) (hm:X.mg x=none) (hv:dI x=some u) (r:RelV v u) (hn:x≠"__name__":=by decide) (hd:(x == ("__debug__":bj))=false:=by decide):PE X (.Name x pos) (tC v) :=
 λ_ _ _ H _ I h=>oh I hg hm hv ⟨v,H,I,r,h⟩ hn hd
variable {a b:Expr}{ta tb:TE}{pos:lg}
def PC (X:Cx) (op:Se) (a b:Expr) (t:TE):Prop :=
 ∀ (pins:List (af×fT)) (s:ao) (Z:St) (H:Hp) (Q:VK),Inv X pins Z H s->t Z H Q ->
  aG (aM X.prog X.w) X.A (fh a X.env) (λv s₁=>aG (aM X.prog X.w) X.A (fh b X.env) (λu s₂=>aG (aM X.prog X.w) X.A (df op v u) (EP X pins Z Q) X.xe s₂) X.xe s₁) X.xe s
def Ib (b:Expr) {op:Se}(h:op≠.In) (h2:op≠.NotIn):jQ op b=false:=by
 have e1:(op == CmpOp.In)=false:=by cases op<;>first|rfl|exact absurd rfl h
 have e2:(op == CmpOp.NotIn)=false:=by cases op<;>first|rfl|exact absurd rfl h2
 cases b<;>simp [jQ,e1,e2]
def Pd (ta:TE):TE:=λZ H Q=>ta Z H λx H1=>Q (.bl (decide (x=.non))) H1
def Pe (ta:TE):TE:=λZ H Q=>ta Z H λx H1=>Q (.bl (!decide (x=.non))) H1
def RelV.Kc {x:V}{v:ai}(r:RelV x v):(v == eW)=decide (x=.non):=by
 cases x with
 | non=>cases r;rfl
 | bl _=>cases r;rfl
 | int _=>obtain ⟨t,rfl⟩:=r;rfl
 | str _=>obtain ⟨t,rfl⟩:=r;rfl
 | byt _=>obtain ⟨t,rfl⟩:=r;rfl
 | flt _=>obtain ⟨t,rfl⟩:=r;rfl
 | ref _=>cases r;rfl
 | ty _=>cases r;rfl
def KC {j pos'} (ha:PE X a ta):PC X .Is a (.Constant .none j pos') (Pd ta):=by
 intro pins s Z H Q I h;refine ic (ha pins s Z H _ I h) λv s1 ⟨x,H1,I1,r1,q1⟩=>?_;exact RT (is_none_gen ⟨.bl _,H1,I1,by rw [r1.Kc];rfl,q1⟩)
def Sv {j pos'} (ha:PE X a ta):PC X .IsNot a (.Constant .none j pos') (Pe ta):=by
 intro pins s Z H Q I h;refine ic (ha pins s Z H _ I h) λv s1 ⟨x,H1,I1,r1,q1⟩=>?_;exact RT (isnot_none_gen ⟨.bl _,H1,I1,by rw [r1.Kc];rfl,q1⟩)
def tB (t:TE):TT:=λZ H Q=>t Z H λx H1=>∃ c,x=.bl c/\Q c H1
def Pg {op:Se}{t:TE}(h:PC X op a b t) (h1:jQ op b=false:=by first|exact Ib _ (by decide) (by decide)|rfl):PE X (.Compare a [op] [b] pos) t:=λpins s Z H Q I hw=>wpAny_Compare1 (h pins s Z H Q I hw) h1
def Ph {op:Se}{t:TE}(h:PC X op a b t) (h1:jQ op b=false:=by first|exact Ib _ (by decide) (by decide)|rfl):PT X (.Compare a [op] [b] pos) (tB t):=by
 intro pins s Z H Q I hw;refine VD (ic (h pins s Z H _ I hw) λv s1 h1=>ic h1 λu s2 h2=>ic h2 λc s3 ⟨x,H1,I1,r1,q1⟩=>?_) h1;obtain ⟨d,rfl,q⟩:=q1;cases r1;exact j8 ⟨H1,I1,q⟩
variable {tA tB':TT}{rest:List Expr}
def xN (t u:TT):TT:=λZ H Q=>t Z H λc H1=>if c=true then u Z H1 Q else Q false H1
def Ic (t u:TT):TT:=λZ H Q=>t Z H λc H1=>if c=true then Q true H1 else u Z H1 Q
def oJ (t:TT):TT:=λZ H Q=>t Z H λc H1=>Q (!c) H1
def pO (ha:PT X a tA):PW X (.BoolOp .And [a] pos) tA:=by
 intro wh pins s Z H Q I h;refine isTrue_and (ic (ha pins s Z H Q I h) λc s1 e=>?_)
 cases c with
 | true=>exact isTrue_and_nil e
 | false=>exact e
def AR (ha:PT X a tA):PW X (.BoolOp .Or [a] pos) tA:=by
 intro wh pins s Z H Q I h;refine isTrue_or (ic (ha pins s Z H Q I h) λc s1 e=>?_)
 cases c with
 | false=>exact isTrue_or_nil e
 | true=>exact e
def qN (ha:PT X a tA) (hb:PW X (.BoolOp .And (b::rest) pos) tB'):PW X (.BoolOp .And (a::b::rest) pos) (xN tA tB'):=by
 intro wh pins s Z H Q I h;refine isTrue_and (ic (ha pins s Z H _ I h) λc s1 ⟨H1,I1,q1⟩=>?_)
 cases c with
 | true=>exact hb wh pins s1 Z H1 Q I1 q1
 | false=>exact ⟨H1,I1,q1⟩
def AS (ha:PT X a tA) (hb:PW X (.BoolOp .Or (b::rest) pos) tB'):PW X (.BoolOp .Or (a::b::rest) pos) (Ic tA tB'):=by
 intro wh pins s Z H Q I h;refine isTrue_or (ic (ha pins s Z H _ I h) λc s1 ⟨H1,I1,q1⟩=>?_)
 cases c with
 | true=>exact ⟨H1,I1,q1⟩
 | false=>exact hb wh pins s1 Z H1 Q I1 q1
def Pi (ha:PT X a tA):PT X (.UnaryOp .Not a pos) (oJ tA):=by
 intro pins s Z H Q I h;exact isTrue_not (ha pins s Z H (λc H1=>Q (!c) H1) I h)
def tX (ta tb:TE):TE:=λZ H Q=>ta Z H λx H1=>∃ c,x=.bl c/\if c=true then tb Z H1 Q else Q (.bl false) H1
def Mu (ta:TE):TE:=λZ H Q=>ta Z H λx H1=>∃ c,x=.bl c/\Q (.bl (!c)) H1
def AU {op} {t:TE}(h:PE X a t):PE X (.BoolOp op [a] pos) t:=λpins s Z H Q I hw=>BoolOp_one (h pins s Z H Q I hw)
def xO (ha:PE X a ta) (hb:PE X (.BoolOp .And (b::rest) pos) tb):PE X (.BoolOp .And (a::b::rest) pos) (tX ta tb):=by
 intro pins s Z H Q I h;refine BoolOp_and (ic (ha pins s Z H _ I h) λv s1 ⟨x,H1,I1,r1,q1⟩=>?_);obtain ⟨c,rfl,q1⟩:=q1;cases r1;refine j8 ?_
 cases c with
 | true=>exact hb pins s1 Z H1 Q I1 q1
 | false=>exact ⟨.bl false,H1,I1,rfl,q1⟩
def Pj (ha:PE X a ta):PE X (.UnaryOp .Not a pos) (Mu ta):=by
 intro pins s Z H Q I h;refine UnaryOp_ (ic (ha pins s Z H _ I h) λv s1 ⟨x,H1,I1,r1,q1⟩=>?_);obtain ⟨c,rfl,q1⟩:=q1;cases r1;exact not_of (j8 ⟨.bl (!c),H1,I1,rfl,q1⟩)
def XG (t:TT) (ta tb:TE):TE:=λZ H Q=>t Z H λc H1=>if c=true then ta Z H1 Q else tb Z H1 Q
def vC {c:Expr}(hc:PT X c tA) (ha:PE X a ta) (hb:PE X b tb):PE X (.IfExp c a b pos) (XG tA ta tb):=by
 intro pins s Z H Q I h;refine wpAny_IfExp (ic (hc pins s Z H _ I h) λd s1 ⟨H1,I1,q1⟩=>?_)
 cases d with
 | true=>exact ha pins s1 Z H1 Q I1 q1
 | false=>exact hb pins s1 Z H1 Q I1 q1
end
end L2
namespace L2
def c6 (K:aa) (H:Hp) (a:af) (xs:List V):Prop :=
 Rd H a (.lst xs) \/
  ∃ (o:fT) (its:Array ai) (n:Nat),K.lookup a=some o/\o.cls=.type "list"/\o.dict=none/\o.data=.seq its n/\its.size<=aV/\Vals xs its.toList
def jZ (K:aa) (H:Hp) (a:af) (xs:List V):Prop :=
 Rd H a (.tup xs) \/
  ∃ (o:fT) (its:Array ai) (n:Nat),K.lookup a=some o/\o.cls=.type "tuple"/\o.data=.seq its n/\its.size<=aV/\Vals xs its.toList
def absV:ai->Option V
 | .none=>some .non
 | .bool b=>some (.bl b)
 | .int i _=>some (.int i)
 | .str x _=>some (.str x)
 | .bytes b _=>some (.byt b)
 | .float b _=>some (.flt b)
 | .ref a=>some (.ref a)
 | .type n=>some (.ty n)
 | _=>none
def RelV.abs {x:V}{u:ai}(r:RelV x u):absV u=some x:=by
 cases x with
 | non=>cases r;rfl
 | bl _=>cases r;rfl
 | int _=>obtain ⟨t,rfl⟩:=r;rfl
 | str _=>obtain ⟨t,rfl⟩:=r;rfl
 | byt _=>obtain ⟨t,rfl⟩:=r;rfl
 | flt _=>obtain ⟨t,rfl⟩:=r;rfl
 | ref _=>cases r;rfl
 | ty _=>cases r;rfl
def RelV.inj {x y:V}{u:ai}(r:RelV x u) (q:RelV y u):x=y:=aY (r.abs.symm.trans q.abs)
theorem Vals.inj:∀ {xs ys:List V}{us:List ai},Vals xs us->Vals ys us->xs=ys
 | _,_,_,.nil,.nil=>rfl
 | _,_,_,.cons r t,.cons r' t'=>by rw [r.inj r',Vals.inj t t']
section
variable {X:Cx}{pins:List (af×fT)}{Z:St}{H:Hp}{s:ao}{a:af}{xs ys:List V}
def c6.of {K:aa}(h:H a=some (.lst xs)):c6 K H a xs:=.inl (.inl h)
def jZ.of {K:aa}(h:H a=some (.tup xs)):jZ K H a xs:=.inl (.inl h)
def Inv.list (I:Inv X pins Z H s) (h:c6 X.K H a xs):∃ its:List ai,Vals xs its/\PlainL s.heap a its.toArray/\xs.length<=aV:=by
 rcases h with h|⟨o,its,n,hk,hc,hd,hs,hz,r⟩
 ·obtain ⟨z,its,n,r,e⟩:=h.ok I.fo;exact ⟨its,r,⟨_,n,e,rfl,rfl,rfl⟩,z⟩
 ·refine ⟨its.toList,r,⟨o,n,I.Al a o hk,hc,hd,by simpa using hs⟩,?_⟩;have e:=r.length;simp only [aL] at e;lia
def Inv.tuple (I:Inv X pins Z H s) (h:jZ X.K H a xs):∃ its:List ai,Vals xs its/\pK s.heap a its.toArray/\xs.length<=aV:=by
 rcases h with h|⟨o,its,n,hk,hc,hs,hz,r⟩
 ·obtain ⟨z,its,r,p⟩:=h.ok I.fo;exact ⟨its,r,p,z⟩
 ·refine ⟨its.toList,r,⟨o,I.Al a o hk,hc,n,by simpa using hs⟩,?_⟩;have e:=r.length;simp only [aL] at e;lia
def Inv.RH (I:Inv X pins Z H s) (h:c6 X.K H a xs) (h':c6 X.K H a ys):xs=ys:=by
 obtain ⟨its,r,⟨o,n,e,_,_,d⟩,_⟩:=I.list h;obtain ⟨its',r',⟨o',n',e',_,_,d'⟩,_⟩:=I.list h';rw [e] at e';cases e';rw [d] at d'
 injection d' with d1 _
 have:its=its':=by simpa using congrArg Array.toList d1
 subst this;exact r.inj r'
def Inv.OC (I:Inv X pins Z H s) (h:jZ X.K H a xs) (h':jZ X.K H a ys):xs=ys:=by
 obtain ⟨its,r,⟨o,e,_,n,d⟩,_⟩:=I.tuple h;obtain ⟨its',r',⟨o',e',_,n',d'⟩,_⟩:=I.tuple h';rw [e] at e';cases e';rw [d] at d'
 injection d' with d1 _
 have:its=its':=by simpa using congrArg Array.toList d1
 subst this;exact r.inj r'
end
abbrev Cx.EG (X:Cx) (E:ai->ao->Prop):Cx:={ X with xe:=E }
abbrev Cx.Vy (X:Cx):Cx:=X.EG λ_ _=>False
def Cx.Ok.EG {X:Cx}(ok:X.Ok) (E:ai->ao->Prop):(X.EG E).Ok :=
 ⟨ok.mod,ok.kind,ok.glob,ok.blt,ok.above,ok.inj,ok.has,ok.XN,ok.hd,ok.frames,ok.Zw,ok.exf,ok.bs,ok.RQ,ok.Os,ok.OA,ok.yF,ok.Vw⟩
def Cx.Ok.sE {X:Cx}{E:ai->ao->Prop}(ok:(X.EG E).Ok):X.Ok :=
 ⟨ok.mod,ok.kind,ok.glob,ok.blt,ok.above,ok.inj,ok.has,ok.XN,ok.hd,ok.frames,ok.Zw,ok.exf,ok.bs,ok.RQ,ok.Os,ok.OA,ok.yF,ok.Vw⟩
section
variable {X:Cx}{pins:List (af×fT)}{Z:St}{H:Hp}{s:ao}{E:ai->ao->Prop}
def Inv.EG (I:Inv X pins Z H s) (E:ai->ao->Prop):Inv (X.EG E) pins Z H s:=⟨I.ok.EG E,I.os,I.bare,I.base,I.loc,I.cell,I.free,I.sC,I.pin,I.fo,I.len⟩
def Inv.sE (I:Inv (X.EG E) pins Z H s):Inv X pins Z H s:=⟨I.ok.sE,I.os,I.bare,I.base,I.loc,I.cell,I.free,I.sC,I.pin,I.fo,I.len⟩
def SP.sE {D:tD}{f:Flow}{s':ao}(h:SP (X.EG E) pins D f s'):SP X pins D f s':=by
 cases f with
 | next=>obtain ⟨σ',H',I,q⟩:=h;exact ⟨σ',H',I.sE,q⟩
 | brk=>obtain ⟨σ',H',I,q⟩:=h;exact ⟨σ',H',I.sE,q⟩
 | cont=>obtain ⟨σ',H',I,q⟩:=h;exact ⟨σ',H',I.sE,q⟩
 | ret u=>obtain ⟨v,σ',H',I,r,q⟩:=h;exact ⟨v,σ',H',I.sE,r,q⟩
def Kt.Vy {st:List dz}{t:TS}(h:Kt X.Vy st t):Kt X st t:=λpins s Z H D I hw =>
 dO (h pins s Z H D (I.EG _) hw) (λ_ _ q=>q.sE) λ_ _ z=>h9 z
end
section
variable {X:Cx}{st:dz}{rest:List dz}{t u:TS}{e:Expr}{te:TE}{pos:lg}
def eY:TS:=λD Z H=>D.nx Z H
def bQ (t u:TS):TS:=λD Z H=>t { D with nx:=u D } Z H
def gh:Kt X [] eY:=λ_ _ Z H _ I h=>xG ⟨Z,H,I,h⟩
def aE (h1:PS X st t) (h2:Kt X rest u):Kt X (st::rest) (bQ t u):=by
 intro pins s Z H D I h;refine wpAny_execs_cons (ic (h1 pins s Z H { D with nx:=u D } I h) λf s1 q=>?_)
 cases f with
 | next =>
  obtain ⟨σ',H',I',q⟩:=q
  exact h2 pins s1 σ' H' D I' q
 | ret v=>exact q
 | brk=>exact q
 | cont=>exact q
def cb (h1:PS X st t):Kt X [st] t:=by
 intro pins s Z H D I h;refine wpAny_execs_cons (ic (h1 pins s Z H D I h) λf s1 q=>?_)
 cases f with
 | next=>exact xG q
 | ret v=>exact q
 | brk=>exact q
 | cont=>exact q
def Inv.quiet {pins:List (af×fT)}{Z:St}{H:Hp}{s:ao}(I:Inv X pins Z H s):interactive X.env=false:=by simp [interactive,I.ok.kind]
def fB (te:TE):TS:=λD Z H=>te Z H λ_ H1=>D.nx Z H1
def mE (he:PE X e te) (hs:AE e none pos.line X.env=pure false:=by rfl):PS X (.Expr e pos) (fB te):=by
 intro pins s Z H D I h;exact wpAny_Expr_any (ic (he pins s Z H _ I h) λv s1 ⟨x,H1,I1,r1,q1⟩=>⟨Z,H1,I1,q1⟩) I.quiet hs
def eF (te:TE):TS:=λD Z H=>te Z H D.rt
def fY (he:PE X e te):PS X (.Return (some e) pos) (eF te):=by
 intro pins s Z H D I h;exact wpAny_Return_some (ic (he pins s Z H _ I h) λv s1 ⟨x,H1,I1,r1,q1⟩=>⟨x,Z,H1,I1,r1,q1⟩)
def ie (c:TT) (t u:TS):TS:=λD Z H=>c Z H λb H1=>if b=true then t D Z H1 else u D Z H1
def jS {c:Expr}{a b:List dz}{tc:TT}(hc:PT X c tc) (ha:Kt X a t) (hb:Kt X b u):PS X (.If c a b pos) (ie tc t u):=by
 intro pins s Z H D I h;refine wpAny_If (ic (hc pins s Z H _ I h) λd s1 ⟨H1,I1,q1⟩=>?_)
 cases d with
 | true=>exact ha pins s1 Z H1 D I1 q1
 | false=>exact hb pins s1 Z H1 D I1 q1
def qO:TS:=λ_ _ _=>False
def mZ:PS X st qO:=λ_ _ _ _ _ _ h=>h.elim
end
abbrev TG:=V->St->Hp->(St->Hp->Prop)->Prop
abbrev Sa:=List V->St->Hp->(St->Hp->Prop)->Prop
def PG (X:Cx) (target:Expr) (t:TG):Prop :=
 ∀ (pins:List (af×fT)) (s:ao) (Z:St) (H:Hp) (v:V) (u:ai) (Q:St->Hp->Prop),Inv X pins Z H s->RelV v u->t v Z H Q ->
  aG (aM X.prog X.w) X.A (Kg target X.env u) (λ_ s'=>∃ σ' H',Inv X pins σ' H' s'/\Q σ' H') X.xe s
def X3 (X:Cx) (ts:List Expr) (t:Sa):Prop :=
 ∀ (pins:List (af×fT)) (s:ao) (Z:St) (H:Hp) (vs:List V) (us:List ai) (Q:St->Hp->Prop),Inv X pins Z H s->Vals vs us->t vs Z H Q ->
  aG (aM X.prog X.w) X.A (assignInOrder ((nK ts X.env).map (·.2)) us) (λ_ s'=>∃ σ' H',Inv X pins σ' H' s'/\Q σ' H') X.xe s
abbrev Sx:=V->V->V->Hp->(Hp->Prop)->Prop
def Sz (X:Cx) (t:Sx):Prop :=
 ∀ (pins:List (af×fT)) (s:ao) (Z:St) (H:Hp) (o i v:V) (ov iv u:ai) (Q:Hp->Prop),Inv X pins Z H s->RelV o ov->RelV i iv->RelV v u->t o i v H Q ->
  aG (aM X.prog X.w) X.A (setItem ov iv u) (λ_ s'=>∃ H',Inv X pins Z H' s'/\Q H') X.xe s
abbrev ZU:=V->V->Hp->VK->Prop
def PIp (X:Cx) (op:Am) (t:ZU):Prop :=
 ∀ (pins:List (af×fT)) (s:ao) (Z:St) (H:Hp) (x y:V) (v u:ai) (Q:VK),Inv X pins Z H s->RelV x v->RelV y u->t x y H Q ->
  aG (aM X.prog X.w) X.A (AF op v u) (EP X pins Z Q) X.xe s
section
variable {X:Cx}{pos:lg}
def bp (i:Nat):TG:=λv Z H Q=>Q (Z.set i (some v)) H
def SB {i:Nat}{x:bj}(hN:X.N.Nodup) (hi:X.N[i]?=some x) (hx:Loc X.env.scope x) (hf:X.fn x=true\/X.env.scope.names.lookup x=some .local:=by first|exact .inl rfl|exact .inr rfl|assumption):PG X (.Name x pos) (bp i):=by
 intro pins s Z H v u Q I r h;exact wpAny_assign_Name (AQ I hN hi hx r (λs' I'=>⟨_,H,I',h⟩) hf)
def KD:Sa:=λvs Z H Q=>vs=[]/\Q Z H
def lp (t:TG) (u:Sa):Sa:=λvs Z H Q=>∃ v r,vs=v::r/\t v Z H λσ' H'=>u r σ' H' Q
def Ax:X3 X [] KD:=by
 intro pins s Z H vs us Q I r h;obtain ⟨e,h⟩:=h;subst e;cases r;exact assignInOrder_nil ⟨Z,H,I,h⟩
def iF {e:Expr}{es:List Expr}{t:TG}{u:Sa}(h1:PG X e t) (h2:X3 X es u)
  (hs:(nK (e::es) X.env).map (·.2)=Kg e X.env::(nK es X.env).map (·.2):=by rfl):X3 X (e::es) (lp t u):=by
 intro pins s Z H vs us Q I r h;obtain ⟨v,vr,e1,h⟩:=h;subst e1
 cases r with
 | cons r rr =>
  rw [hs];refine assignInOrder_cons (ic (h1 pins s Z H _ _ _ I r h) λ_ s1 ⟨σ1,H1,I1,q1⟩=>?_);exact h2 pins s1 σ1 H1 _ _ Q I1 rr q1
def Ie (K:aa) (n:Nat) (t:Sa):TG:=λv Z H Q=>∃ a xs,v=.ref a/\jZ K H a xs/\xs.length=n/\t xs Z H Q
def FP {es:List Expr}{k:Nat}{t:Sa}{n:Nat}(hc:X.calm=true) (h:X3 X es t)
  (hn:(nK es X.env).length=n:=by rfl) (hst:(nK es X.env).findIdx? (·.1)=none:=by rfl):PG X (.Tuple es k pos) (Ie X.K n t):=by
 intro pins s Z H v u Q I r hw;obtain ⟨a,xs,e1,hq,hl,hw⟩:=hw;subst e1;cases r;obtain ⟨its,rv,ht,hz⟩:=I.tuple hq;refine assign_Tuple_tuple (I.ok.hd hc) ht (by simp [hn,← hl,rv.length]) hst λh' hx=>?_;have I1:Inv X pins Z H { s with heap:=h' }:=I.kept (t':=s.toks) λb o e=>hx b o (bg (aJ e)) e;exact h pins _ Z H xs _ Q I1 (by simpa using rv) hw
def AV (to ti:TE) (t:Sx):TG:=λv Z H Q=>to Z H λo H1=>ti Z H1 λi H2=>t o i v H2 λH3=>Q Z H3
def VY {o i:Expr}{to ti:TE}{t:Sx}(ho:PE X o to) (hi:PE X i ti) (hs:Sz X t)
  (ha:∀ v,Kg (.Subscript o i pos) X.env v=(do
   let ov ← j9 [v] (fh o X.env)
   let iv ← j9 [v,ov] (fh i X.env)
   sV pos
   j9 [v,ov,iv] (setItem ov iv v)
   release [v,ov,iv] []):=by intro _;rfl):PG X (.Subscript o i pos) (AV to ti t):=by
 intro pins s Z H v u Q I r h;rw [ha];refine ae (cA (ic (ho pins s Z H _ I h) λov s1 ⟨x,H1,I1,r1,q1⟩=>?_));refine ae (cA (ic (hi pins s1 Z H1 _ I1 q1) λiv s2 ⟨y,H2,I2,r2,q2⟩=>?_));refine ae (tM (ae (cA (ic (hs pins s2 Z H2 x y v ov iv u _ I2 r1 r2 r q2) λ_ s3 ⟨H3,I3,q3⟩=>?_))));exact wpAny_release ⟨Z,H3,I3,q3⟩
def de (te:TE) (g:TG):TS:=λD Z H=>te Z H λx H1=>g x Z H1 D.nx
def VZ {tg e:Expr}{te:TE}{g:TG}(he:PE X e te) (hg:PG X tg g) (hs:swapsWithSole [tg] e pos.line X.env=pure false:=by rfl) (hw:swappedStores [tg] e X.env=pure none:=by rfl)
  (h1:(nK [tg] X.env).map (·.2)=[Kg tg X.env]:=by rfl):PS X (.Assign [tg] e pos) (de te g):=by
 intro pins s Z H D I h;refine wpAny_Assign_stores (ic (he pins s Z H _ I h) λv s1 ⟨x,H1,I1,r1,q1⟩=>?_) hs hw;rw [h1];exact ic (hg pins s1 Z H1 x v _ I1 r1 q1) λ_ s2 q=>q
def AW {i:Nat}{x:bj}{e:Expr}{te:TE}{pos':lg}(hN:X.N.Nodup) (hi:X.N[i]?=some x) (hx:Loc X.env.scope x) (he:PE X e te) (hs:AE e (some (.Name x pos')) pos.line X.env=pure false:=by rfl) (hf:X.fn x=true\/X.env.scope.names.lookup x=some .local:=by first|exact .inl rfl|exact .inr rfl|assumption) :
  PS X (.Assign [.Name x pos'] e pos) (de te (bp i)):=by
 intro pins s Z H D I h;refine wpAny_Assign_Name (ic (he pins s Z H _ I h) λv s1 ⟨y,H1,I1,r1,q1⟩=>?_) hs;exact AQ I1 hN hi hx r1 (λs2 I2=>⟨_,H1,I2,q1⟩) hf
def Pk (i:Nat) (te:TE) (ti:ZU):TS:=λD Z H=>∃ x,Z[i]?=some (some x)/\te Z H λy H1=>ti x y H1 λz H2=>D.nx (Z.set i (some z)) H2
def KE {i:Nat}{x:bj}{e:Expr}{te:TE}{op:Am}{ti:ZU}{pos':lg}(hN:X.N.Nodup) (hi:X.N[i]?=some x) (hx:Loc X.env.scope x) (he:PE X e te) (ho:PIp X op ti) (hf:X.fn x=true\/X.env.scope.names.lookup x=some .local:=by first|exact .inl rfl|exact .inr rfl|assumption) :
  PS X (.AugAssign (.Name x pos') op e pos) (Pk i te ti):=by
 intro pins s Z H D I h;obtain ⟨v,e1,h⟩:=h;obtain ⟨m,hn,hl⟩:=I.loc
 have vis:ZT X.env.scope x:=by rcases hx with k|k;exact .inl k;exact .inr (.inl k)
 obtain ⟨u,r,l⟩:=hl i x v hi e1 vis;refine wpAny_AugAssign_Name ?_
 have go:aG (aM X.prog X.w) X.A (fh e X.env) (λw s₂=>aG (aM X.prog X.w) X.A (AF op u w) (λr s₃=>aG (aM X.prog X.w) X.A (storeName X.env x r) (λ_=>SP X pins D .next) X.xe s₃) X.xe s₂) X.xe s:=by
  refine ic (he pins s Z H _ I h) λw s1 ⟨y,H1,I1,r1,q1⟩=>?_;refine ic (ho pins s1 Z H1 v y u w _ I1 r r1 q1) λz s2 ⟨zv,H2,I2,r2,q2⟩=>?_;exact AQ I2 hN hi hx r2 (λs3 I3=>⟨_,H2,I3,q2⟩) hf
 rcases l with ⟨hk,hm⟩|⟨hk,c,hc,hcell⟩
 ·exact kC I.ok.kind hk hn hm go
 ·rcases hk with hk|hk
  ·exact XQ I.ok.kind hk hc hcell go
  ·rcases hx with k|k
   ·have:X.env.scope.names.lookup x=some .free:=hk;rw [k] at this;cases this
   ·have:X.env.scope.names.lookup x=some .free:=hk;rw [k] at this;cases this
end
section
variable {X:Cx}{pos:lg}
def AX (c:TT) (tb:TS):TS:=λD Z H=>∃ W:Nat->St->Hp->Prop,(∃ m,W m Z H)/\∀ m Z H,W m Z H ->
 c Z H λb H1=>if b=true then ∃ N:St->Hp->Prop,(∀ σ' H',N σ' H'->∃ m',m'<m/\W m' σ' H')/\tb { D with nx:=N,ct:=N,bk:=D.nx } Z H1 else D.nx Z H1
def AY {c:Expr}{body:List dz}{tc:TT}{tb:TS}(hp:PassesOwn (aM X.prog X.w) X.A X.env X.xe) (hc:PT X c tc) (hb:Kt X body tb):PS X (.While c body [] pos) (AX tc tb):=by
 intro pins s Z H D I h;obtain ⟨W,⟨m0,w0⟩,turn⟩:=h;refine wpAny_While (codeAny_whileLoop (λn s'=>∃ σ' H',Inv X pins σ' H' s'/\W n σ' H') ?_ m0 ⟨Z,H,I,w0⟩);rintro n s1 ⟨σ1,H1,I1,w1⟩;refine jM hp (ic (hc pins s1 σ1 H1 _ I1 (turn n σ1 H1 w1)) λb s2 ⟨H2,I2,q2⟩=>?_)
 cases b with
 | true =>
  obtain ⟨N,hN,q2⟩:=q2;rw [if_pos rfl];refine jM hp (ic (hb pins s2 σ1 H2 _ I2 q2) λf s3 q3=>?_)
  cases f with
  | next =>
   obtain ⟨σ3,H3,I3,n3⟩:=q3;obtain ⟨m',hm,w3⟩:=hN σ3 H3 n3
   exact ⟨m',hm,σ3,H3,I3,w3⟩
  | cont =>
   obtain ⟨σ3,H3,I3,n3⟩:=q3;obtain ⟨m',hm,w3⟩:=hN σ3 H3 n3
   exact ⟨m',hm,σ3,H3,I3,w3⟩
  | brk=>exact q3
  | ret v=>exact q3
 | false =>
  rw [if_neg bC];exact xG ⟨σ1,H2,I2,q2⟩
end
structure It where
 go:Nat->Hp->Prop
 Ka:Nat->Hp->V->Hp->Prop
 stop:Nat->Hp->Prop
def xP (X:Cx) (pins:List (af×fT)) (H:Hp) (b:af):Prop :=
 H b=none/\b≠X.env.locals/\b∉X.fs/\(b∈X.ex\/X.s₀.heap.objs.size<=b)/\(∀ x c,X.env.cells.lookup x=some c->c≠b)/\∀ p∈X.pn++pins,p.1≠b
def Inv.Mh {X:Cx}{pins:List (af×fT)}{Z:St}{H H':Hp}{s:ao}{b:af}(I:Inv X pins Z H s) (hb:s.heap.objs.size<=b) (hn:H' b=none):xP X pins H' b:=by
 refine ⟨hn,dU (bA I.lt hb),I.nofs hb,.inr (bu I.sz hb),λx c e z=>?_,λp hp z=>?_⟩
 ·obtain ⟨v,q⟩:=I.cell x c e;exact absurd (bA q.lt (by rw [z];exact hb)) (eS _)
 ·exact absurd (bA (aJ (I.pin p hp).1) (by rw [z];exact hb)) (eS _)
structure NI (P:a6) (w:bO) (K:aa) (tg:Expr) (J:It) (fp:List af) (it:af) (tn:Nat->cf->Prop):Prop where
 mem:it∈fp
 obj:∀ i h,tn i h->∀ b∈fp,∃ o,h.get? b=some o/\∀ v,o.data≠.cell v
 keep:∀ i h h',tn i h->(∀ b∈fp,∀ o,h.get? b=some o->h'.get? b=some o)->tn i h'
 item:∀ (X:Cx),X.prog=P->X.w=w->X.K=K->X.calm=true->∀ (i:Nat) (pins:List (af×fT)) (s:ao) (Z:St) (H:Hp) (E:ai->ao->Prop),Inv X pins Z H s->(∀ b∈fp,xP X pins H b)->tn i s.heap->J.go i H ->
  aG (aM P w) X.A (i9 (.ref it)) (λr s1=>∃ u,r=some u /\
   aG (aM P w) X.A (xH tg (.ref it) u) (λ_ s2=>∃ x H',Inv X pins Z H' s2/\RelV x u/\J.Ka i H x H'/\tn (i+1) s2.heap/\∀ b∈fp,H' b=none) E s1) E s
 done:∀ (X:Cx),X.prog=P->X.w=w->X.K=K->X.calm=true->∀ (i:Nat) (pins:List (af×fT)) (s:ao) (Z:St) (H:Hp) (E:ai->ao->Prop),Inv X pins Z H s->(∀ b∈fp,xP X pins H b)->tn i s.heap->J.stop i H ->
  aG (aM P w) X.A (i9 (.ref it)) (λr s1=>r=none/\Inv X pins Z H s1) E s
 self:∀ (A:bR) (i:Nat) (s:ao) (Q:ai->ao->Prop) (E:ai->ao->Prop),tn i s.heap->Q (.ref it) s->aG (aM P w) A (OE (.ref it)) Q E s
abbrev TI:=St->Hp->(It->Hp->Prop)->Prop
def PIE (X:Cx) (pins:List (af×fT)) (Z:St) (tg:Expr) (R:It->Hp->Prop) (itv:ai) (s2:ao):Prop :=
 ∃ (it:af) (fp:List af) (tn:Nat->cf->Prop) (J:It) (H':Hp),itv=.ref it/\Inv X pins Z H' s2/\NI X.prog X.w X.K tg J fp it tn/\tn 0 s2.heap/\(∀ b∈fp,xP X pins H' b)/\R J H'
def PI (X:Cx) (tg iter:Expr) (wi:TI):Prop :=
 ∀ (pins:List (af×fT)) (s:ao) (Z:St) (H:Hp) (R:It->Hp->Prop),Inv X pins Z H s->wi Z H R ->
  aG (aM X.prog X.w) X.A (fh iter X.env) (λv s1=>aG (aM X.prog X.w) X.A (OE v) (PIE X pins Z tg R) X.xe s1) X.xe s
def Ig {M:Model}{A:bR}{E:ai->ao->Prop}{s:ao}{tg:Expr}{it:af}{u:ai}{o:fT}{n:String}{vs:Array ai}{Q:Unit->ao->Prop}(ho:s.heap.get? it=some o) (hc:o.cls=.type n) (hd:o.data=.fields vs)
    (hn:["enumerate","zip","dict_itemiterator","dict_reverseitemiterator","odict_iterator","itertools.zip_longest","itertools.pairwise"].contains n=false) (hQ:Q () s):aG M A (xH tg (.ref it) u) Q E s:=by
  unfold xH
  cases tg<;>first
    | exact ak hQ
    | (cases u<;>first
        | exact ak hQ
        | (refine ae (EI ho ?_)
           rw [hc,hd]
           show aG M A (if (["enumerate","zip","dict_itemiterator","dict_reverseitemiterator","odict_iterator","itertools.zip_longest","itertools.pairwise"].contains n && vs[0]? == some (cB _))=true then _ else _) Q E s
           rw [if_neg (by intro h;rw [hn,Bool.false_and] at h;cases h)]
           exact ak hQ))
def HR (K:aa) (a:af):It :=
 ⟨λi H=>∃ xs x,c6 K H a xs/\xs[i]?=some x,λi H x H'=>H'=H/\∀ xs,c6 K H a xs->xs[i]?=some x,λi H=>∃ xs,c6 K H a xs/\xs.length<=i⟩
def XH (K:aa) (a:af):It :=
 ⟨λi H=>∃ xs x,jZ K H a xs/\xs[i]?=some x,λi H x H'=>H'=H/\∀ xs,jZ K H a xs->xs[i]?=some x,λi H=>∃ xs,jZ K H a xs/\xs.length<=i⟩
def Pl (lo:Int) (n:Nat):It:=⟨λi _=>i<n,λi H x H'=>H'=H/\x=.int (lo+i),λi _=>n<=i⟩
def NJ {P:a6}{w:bO}{K:aa}{tg:Expr}(a it:af):NI P w K tg (HR K a) [it] it (λi h=>h.IsListIter it a i) where
 mem:=by simp
 obj:=λi h st b hb=>by
  have e:b=it:=by simpa using hb
  subst e;obtain ⟨o,e,c,d⟩:=st;exact ⟨o,e,λv z=>by rw [d] at z;cases z⟩
 keep:=λi h h' st k=>st.at λo e=>k it (by simp) o e
 item:=by
  intro X hP hw hK hc i pins s Z H E I hf st hg;subst hP hw hK;obtain ⟨xs,x,hq,hx⟩:=hg;obtain ⟨its,rv,p,hz⟩:=I.list hq;obtain ⟨u,hu,ru⟩:=rv.get hx;obtain ⟨f0,f1,f2,f3,f4,f5⟩:=hf it (by simp);refine wpAny_pyNext_list_item st p.isList (x:=u) (by simpa using hu) λh' st' sb=>?_;have I1:Inv X pins Z H { s with heap:=h' }:=I.turned (t':=s.toks) (λb o hb e=>(sb.2 b hb).trans e) f0 f1 f3 f4 f5;obtain ⟨o,e,c,d⟩:=id st';exact ⟨u,rfl,Ig (s:={ s with heap:=h' }) e c d (by decide) ⟨x,H,I1,ru,⟨rfl,λys hy=>by rw [I.RH hy hq];exact hx⟩,st',λb hb=>(hf b hb).1⟩⟩
 done:=by
  intro X hP hw hK hc i pins s Z H E I hf st hg;subst hP hw hK;obtain ⟨xs,hq,hx⟩:=hg;obtain ⟨its,rv,p,hz⟩:=I.list hq;obtain ⟨f0,f1,f2,f3,f4,f5⟩:=hf it (by simp);have hl:=rv.length
  exact wpAny_pyNext_list_end (I.ok.hd hc) st p.isList (by simp;lia) λh' eb=>⟨rfl,I.turned (t':=s.toks) (λb o hb e=>eb b o hb e) f0 f1 f3 f4 f5⟩
 self:=λ_ _ _ _ _ st h=>wpAny_pyIter_listiter st h
def KF {P:a6}{w:bO}{K:aa}{tg:Expr}(a it:af):NI P w K tg (XH K a) [it] it (λi h=>h.IsTupleIter it a i) where
 mem:=by simp
 obj:=λi h st b hb=>by
  have e:b=it:=by simpa using hb
  subst e;obtain ⟨o,e,c,d⟩:=st;exact ⟨o,e,λv z=>by rw [d] at z;cases z⟩
 keep:=λi h h' st k=>st.at λo e=>k it (by simp) o e
 item:=by
  intro X hP hw hK hc i pins s Z H E I hf st hg;subst hP hw hK;obtain ⟨xs,x,hq,hx⟩:=hg;obtain ⟨its,rv,p,hz⟩:=I.tuple hq;obtain ⟨u,hu,ru⟩:=rv.get hx;obtain ⟨f0,f1,f2,f3,f4,f5⟩:=hf it (by simp);refine wpAny_pyNext_tuple_item st (show s.heap.IsTuple a its.toArray from p) (x:=u) (by simpa using hu) λh' st' sb=>?_;have I1:Inv X pins Z H { s with heap:=h' }:=I.turned (t':=s.toks) (λb o hb e=>(sb.2 b hb).trans e) f0 f1 f3 f4 f5;obtain ⟨o,e,c,d⟩:=id st';exact ⟨u,rfl,Ig (s:={ s with heap:=h' }) e c d (by decide) ⟨x,H,I1,ru,⟨rfl,λys hy=>by rw [I.OC hy hq];exact hx⟩,st',λb hb=>(hf b hb).1⟩⟩
 done:=by
  intro X hP hw hK hc i pins s Z H E I hf st hg;subst hP hw hK;obtain ⟨xs,hq,hx⟩:=hg;obtain ⟨its,rv,p,hz⟩:=I.tuple hq;obtain ⟨f0,f1,f2,f3,f4,f5⟩:=hf it (by simp);have hl:=rv.length
  exact wpAny_pyNext_tuple_end (I.ok.hd hc) st (show s.heap.IsTuple a its.toArray from p) (by simp;lia) λh' eb=>⟨rfl,I.turned (t':=s.toks) (λb o hb e=>eb b o hb e) f0 f1 f3 f4 f5⟩
 self:=λ_ _ _ _ _ st h=>wpAny_pyIter_tupleiter st h
def KG {P:a6}{w:bO}{K:aa}{tg:Expr}(it:af) (lo:Int) (n:Nat):NI P w K tg (Pl lo n) [it] it (λi h=>IsRangeIter h it (lo+(i:Nat)*1) ((n:Int)-(i:Nat)) 1) where
 mem:=by simp
 obj:=λi h st b hb=>by
  have e:b=it:=by simpa using hb
  subst e
  exact ⟨_,st,λv z=>by
   have z':Data.fields _=Data.cell v:=z
   cases z'⟩
 keep:=λi h h' st k=>k it (by simp) _ st
 item:=by
  intro X hP hw hK hc i pins s Z H E I hf st hg;subst hP hw hK;obtain ⟨f0,f1,f2,f3,f4,f5⟩:=hf it (by simp);have W:=Walks.range (prog:=X.prog) (w:=X.w) (I.ok.hd hc) it lo 1 n;refine W.item i s _ _ hg st λv h' tk hv st' kk=>?_;obtain ⟨t,rfl⟩:=hv;have I1:Inv X pins Z H { s with heap:=h',toks:=tk }:=I.turned (λb o hb e=>kk b o (by simpa using hb) e) f0 f1 f3 f4 f5;refine ⟨_,rfl,Ig (s:={ s with heap:=h',toks:=tk }) (n:="range_iterator") st' rfl rfl (by decide) ⟨.int (lo+i),H,I1,⟨t,?_⟩,⟨rfl,rfl⟩,st',λb hb=>(hf b hb).1⟩⟩;rw [Int.mul_one]
 done:=by
  intro X hP hw hK hc i pins s Z H E I hf st hg;subst hP hw hK;obtain ⟨f0,f1,f2,f3,f4,f5⟩:=hf it (by simp)
  exact wpAny_pyNext_range_end (I.ok.hd hc) st (by have:n<=i:=hg;lia) λh' eb=>⟨rfl,I.turned (t':=s.toks) (λb o hb e=>eb b o hb e) f0 f1 f3 f4 f5⟩
 self:=λ_ _ _ _ _ st h=>wpAny_pyIter_rangeiter st h
end L2
namespace L2
section
variable {X:Cx}{tg:Expr}
def Ih {pins:List (af×fT)}{Z:St}{H:Hp}{s:ao}{R:It->Hp->Prop}{E:ai->ao->Prop}{lo hi:Int}{t u v:Uo}{tk:Nat}(I:Inv X pins Z H s) (h1:-(2^62)<=lo) (h2:lo<2^62) (h3:-(2^62)<=hi) (h4:hi<2^62)
  (q:R (Pl lo (hi-lo).toNat) H):aG (aM X.prog X.w) X.A (OE (.ref s.heap.objs.size)) (PIE X pins Z tg R) E { s with heap:=s.heap.push { cls:=.type "range",data:=.fields #[.int lo t,.int hi u,.int 1 v] },toks:=tk }:=by
 refine wpAny_pyIter_range (IsRange.new ..) (small_one h1 h2 h3 h4) ?_;have I1:Inv X pins Z H { s with heap:=s.heap.push { cls:=.type "range",data:=.fields #[.int lo t,.int hi u,.int 1 v] },toks:=tk }:=I.kept λb o e=>ar _ e
 refine ⟨(s.heap.push { cls:=.type "range",data:=.fields #[.int lo t,.int hi u,.int 1 v] }).objs.size,[(s.heap.push { cls:=.type "range",data:=.fields #[.int lo t,.int hi u,.int 1 v] }).objs.size],_,_,H,rfl,
  I1.kept (t':=tk) λb o e=>ar _ e,KG _ lo (hi-lo).toNat,?_,λb hb=>?_,q⟩
 ·have e1:lo+((0:Nat):Int)*1=lo:=by simp
  have e2:(((hi-lo).toNat:Nat):Int)-((0:Nat):Int)=Builtin.Range.rangeSize lo hi 1:=by rw [rangeSize_one];split<;>lia
  show IsRangeIter _ _ (lo+((0:Nat):Int)*1) ((((hi-lo).toNat:Nat):Int)-((0:Nat):Int)) 1
  rw [e1,e2];exact aI _ rfl
 ·have e:b=(s.heap.push { cls:=.type "range",data:=.fields #[.int lo t,.int hi u,.int 1 v] }).objs.size:=by simpa using hb
  subst e;exact I1.Mh (av _) (I1.fo.fresh (av _))
def qf (ta:TA):TI:=λZ H R=>ta Z H λvs H1=>∃ j:Int,vs=[.int j]/\-(2^62)<=j/\j<2^62/\R (Pl 0 j.toNat) H1
def Pm (ta:TA):TI:=λZ H R=>ta Z H λvs H1=>∃ i j:Int,vs=[.int i,.int j]/\(-(2^62)<=i/\i<2^62/\-(2^62)<=j/\j<2^62)/\R (Pl i (j-i).toNat) H1
def EO {a:Expr}{ta:TA}{p pos:lg}(hg:Gl X "range") (hm:X.mg "range"=none) (ha:PA X [a] ta) (hs:bL [a] X.env=[(false,fh a X.env)]:=by rfl):PI X tg (.Call (.Name "range" p) [a] [] pos) (qf ta):=by
 intro pins s Z H R I h;refine Call_ (oh I hg hm boot_range (gA (ic (ha pos pins s Z H _ I h) λus s1 ⟨vs,H1,I1,r1,q1⟩=>?_) hs rfl));obtain ⟨j,e,q1,q2,q⟩:=q1;subst e
 cases r1 with
 | cons r rr =>
  cases rr;obtain ⟨t,rfl⟩:=r;exact call_range_1 (Ih I1 (by lia) (by lia) q1 q2 (by simpa using q))
def ER {a b:Expr}{ta:TA}{p pos:lg}(hg:Gl X "range") (hm:X.mg "range"=none) (ha:PA X [a,b] ta) (hs:bL [a,b] X.env=[(false,fh a X.env),(false,fh b X.env)]:=by rfl) (hs2:bL [b] X.env=[(false,fh b X.env)]:=by rfl) :
  PI X tg (.Call (.Name "range" p) [a,b] [] pos) (Pm ta):=by
 intro pins s Z H R I h;refine Call_ (oh I hg hm boot_range (gA (ic (ha pos pins s Z H _ I h) λus s1 ⟨vs,H1,I1,r1,q1⟩=>?_) (by rw [hs,hs2]) (by rw [hs2];rfl)));obtain ⟨i,j,e,⟨q1,q2,q3,q4⟩,q⟩:=q1;subst e
 cases r1 with
 | cons r rr =>
  cases rr with
  | cons r' rr =>
   cases rr;obtain ⟨t,rfl⟩:=r;obtain ⟨t',rfl⟩:=r';exact call_range_2 (Ih I1 q1 q2 q3 q4 q)
def qP (wi:TI) (g:TG) (tb:TS):TS:=λD Z H=>wi Z H λJ H1=>∃ W:Nat->Nat->St->Hp->Prop,(∃ m,W 0 m Z H1)/\∀ i m Z H,W i m Z H ->
 (J.stop i H/\D.nx Z H)\/(J.go i H/\∃ N:St->Hp->Prop,(∀ σ' H',N σ' H'->∃ m',m'<m/\W (i+1) m' σ' H')/\∀ x H',J.Ka i H x H'->g x Z H' λσ2 H2=>tb { D with nx:=N,ct:=N,bk:=D.nx } σ2 H2)
def AZ (fp:List af) (h:cf):List (af×fT):=fp.filterMap λb=>(h.get? b).map λo=>(b,o)
def pP {fp:List af}{h:cf}{b:af}{o:fT}(hb:b∈fp) (e:h.get? b=some o):(b,o)∈AZ fp h:=oB.mpr ⟨b,hb,by rw [e];rfl⟩
def NK {fp:List af}{h:cf}{p:af×fT}(hp:p∈AZ fp h):p.1∈fp/\h.get? p.1=some p.2:=by
 obtain ⟨b,hb,e⟩:=oB.mp hp
 cases q:h.get? b with
 | none=>rw [q] at e;cases e
 | some o =>
  rw [q] at e;have e':(b,o)=p:=aY e;subst e';exact ⟨hb,q⟩
def Inv.pinned {pins:List (af×fT)}{Z:St}{H:Hp}{s:ao}{fp:List af}(I:Inv X pins Z H s) (hf:∀ b∈fp,xP X pins H b) (ho:∀ b∈fp,∃ o,s.heap.get? b=some o/\∀ v,o.data≠.cell v):Inv X (pins++AZ fp s.heap) Z H s :=
 I.Nm λp hp=>(aN.mp hp).elim (λz=>I.pin p (bB _ z)) λz=>by
  obtain ⟨hb,e⟩:=NK z;obtain ⟨f0,f1,f2,_⟩:=hf p.1 hb;obtain ⟨o,e',d⟩:=ho p.1 hb;rw [e] at e';cases e';exact ⟨e,f0,f1,f2,d⟩
def Inv.xq {pins pl:List (af×fT)}{Z:St}{H:Hp}{s:ao}(I:Inv X (pins++pl) Z H s):Inv X pins Z H s:=I.Nm λp hp=>I.pin p (bB _ (dX _ hp))
def A1 {iter:Expr}{body:List dz}{wi:TI}{g:TG}{tb:TS}{pos:lg}(hp:PassesOwn (aM X.prog X.w) X.A X.env X.xe) (hc:X.calm=true) (hi:PI X tg iter wi) (hg:PG X tg g) (hb:Kt X body tb)
  (hs:∀ x,sW iter X.env x=pure x:=by intro _;rfl):PS X (.For tg iter body [] pos) (qP wi g tb):=by
 intro pins s Z H D I h;refine wpAny_For (ic (hi pins s Z H _ I h) λv s1 h1=>ic h1 λitv s2 h2=>?_) hs;obtain ⟨it,fp,tn,J,H2,e,I2,T,st2,f2,W,⟨m0,w0⟩,turn⟩:=h2;subst e
 -- what stays true of the iterator's objects through the KH
 have stat:∀ {H':Hp},(∀ b∈fp,H' b=none)->∀ b∈fp,xP X pins H' b:=λhn b hb=>⟨hn b hb,(f2 b hb).2⟩
 refine codeAny_forLoop_any (λn s'=>∃ i σ' H',Inv X pins σ' H' s'/\tn i s'.heap/\(∀ b∈fp,H' b=none)/\W i n σ' H') ?_ m0 ⟨0,Z,H2,I2,st2,λb hb=>(f2 b hb).1,w0⟩;rintro n s3 ⟨i,σ3,H3,I3,st3,fr3,w3⟩
 rcases turn i n σ3 H3 w3 with ⟨stop,qn⟩|⟨go,N,hN,step⟩
 ·refine jM hp (ic (T.done X rfl rfl rfl hc i pins s3 σ3 H3 X.xe I3 (stat fr3) st3 stop) λr s4 ⟨hr,I4⟩=>?_);subst hr;exact xG ⟨σ3,H3,I4,qn⟩
 ·refine jM hp (ic (T.item X rfl rfl rfl hc i pins s3 σ3 H3 X.xe I3 (stat fr3) st3 go) λr s4 ⟨u,hr,h4⟩=>?_);subst hr;refine jM hp (ic h4 λ_ s5 ⟨x,H5,I5,r5,y5,st5,fr5⟩=>?_);have I5':=I5.pinned (stat fr5) (T.obj _ _ st5);refine jM hp (ic (hg _ s5 σ3 H5 x u _ I5' r5 (step x H5 y5)) λ_ s6 ⟨σ6,H6,I6,q6⟩=>?_);refine jM hp (ic (hb _ s6 σ6 H6 _ I6 q6) λf s7 q7=>?_)
  have again:∀ {σ7:St}{H7:Hp},Inv X (pins++AZ fp s5.heap) σ7 H7 s7->N σ7 H7->∃ m,m<n/\∃ i σ' H',Inv X pins σ' H' s7/\tn i s7.heap/\(∀ b∈fp,H' b=none)/\W i m σ' H':=λ{σ7 H7} I7 n7=>by
   obtain ⟨m',hm,w7⟩:=hN σ7 H7 n7;refine ⟨m',hm,i+1,σ7,H7,I7.xq,T.keep _ _ _ st5 λb hb o e=>(I7.pin (b,o) (bB _ (bB _ (pP hb e)))).1,λb hb=>?_,w7⟩;obtain ⟨o,e,d⟩:=T.obj _ _ st5 b hb;exact (I7.pin (b,o) (bB _ (bB _ (pP hb e)))).2.1
  cases f with
  | next=>obtain ⟨σ7,H7,I7,n7⟩:=q7;exact again I7 n7
  | cont=>obtain ⟨σ7,H7,I7,n7⟩:=q7;exact again I7 n7
  | brk=>obtain ⟨σ7,H7,I7,q7⟩:=q7;exact ⟨σ7,H7,I7.xq,q7⟩
  | ret v=>obtain ⟨x7,σ7,H7,I7,r7,q7⟩:=q7;exact ⟨x7,σ7,H7,I7.xq,r7,q7⟩
end
def kH {K:aa}{a:af}{xs:List V}{g:TG}{tb:TS}{D:tD}{Z:St}{H:Hp}(Pv:Nat->St->Hp->Prop) (h0:Pv 0 Z H) (hl:∀ i Z H,i<=xs.length->Pv i Z H->c6 K H a xs)
  (hs:∀ i x Z H,xs[i]?=some x->Pv i Z H->g x Z H λσ2 H2=>tb { D with nx:=Pv (i+1),ct:=Pv (i+1),bk:=D.nx } σ2 H2) (hd:∀ Z H,Pv xs.length Z H->D.nx Z H) :
  ∃ W:Nat->Nat->St->Hp->Prop,(∃ m,W 0 m Z H)/\∀ i m Z H,W i m Z H ->
   ((HR K a).stop i H/\D.nx Z H)\/((HR K a).go i H/\∃ N:St->Hp->Prop,(∀ σ' H',N σ' H'->∃ m',m'<m/\W (i+1) m' σ' H')/\∀ x H',(HR K a).Ka i H x H'->g x Z H' λσ2 H2=>tb { D with nx:=N,ct:=N,bk:=D.nx } σ2 H2):=by
 refine ⟨λi m Z H=>m=xs.length-i/\i<=xs.length/\Pv i Z H,⟨xs.length,by simp,aK _,h0⟩,?_⟩;rintro i m Z H ⟨rfl,hi,p⟩;have q:=hl i Z H hi p
 by_cases hlt:i<xs.length
 ·refine .inr ⟨⟨xs,xs[i],q,by simp [hlt]⟩,Pv (i+1),λσ' H' p'=>⟨xs.length-(i+1),by lia,rfl,hlt,p'⟩,λx H' y=>?_⟩;obtain ⟨e,y⟩:=y;subst e;exact hs i x Z _ (y xs q) p
 ·have e:i=xs.length:=by lia
  subst e;exact .inl ⟨⟨xs,q,av _⟩,hd Z H p⟩
def SC {K:aa}{a:af}{xs:List V}{g:TG}{tb:TS}{D:tD}{Z:St}{H:Hp}(Pv:Nat->St->Hp->Prop) (h0:Pv 0 Z H) (hl:∀ i Z H,i<=xs.length->Pv i Z H->jZ K H a xs)
  (hs:∀ i x Z H,xs[i]?=some x->Pv i Z H->g x Z H λσ2 H2=>tb { D with nx:=Pv (i+1),ct:=Pv (i+1),bk:=D.nx } σ2 H2) (hd:∀ Z H,Pv xs.length Z H->D.nx Z H) :
  ∃ W:Nat->Nat->St->Hp->Prop,(∃ m,W 0 m Z H)/\∀ i m Z H,W i m Z H ->
   ((XH K a).stop i H/\D.nx Z H)\/((XH K a).go i H/\∃ N:St->Hp->Prop,(∀ σ' H',N σ' H'->∃ m',m'<m/\W (i+1) m' σ' H')/\∀ x H',(XH K a).Ka i H x H'->g x Z H' λσ2 H2=>tb { D with nx:=N,ct:=N,bk:=D.nx } σ2 H2):=by
 refine ⟨λi m Z H=>m=xs.length-i/\i<=xs.length/\Pv i Z H,⟨xs.length,by simp,aK _,h0⟩,?_⟩;rintro i m Z H ⟨rfl,hi,p⟩;have q:=hl i Z H hi p
 by_cases hlt:i<xs.length
 ·refine .inr ⟨⟨xs,xs[i],q,by simp [hlt]⟩,Pv (i+1),λσ' H' p'=>⟨xs.length-(i+1),by lia,rfl,hlt,p'⟩,λx H' y=>?_⟩;obtain ⟨e,y⟩:=y;subst e;exact hs i x Z _ (y xs q) p
 ·have e:i=xs.length:=by lia
  subst e;exact .inl ⟨⟨xs,q,av _⟩,hd Z H p⟩
def oK {lo:Int}{n:Nat}{g:TG}{tb:TS}{D:tD}{Z:St}{H:Hp}(Pv:Nat->St->Hp->Prop) (h0:Pv 0 Z H)
  (hs:∀ i Z H,i<n->Pv i Z H->g (.int (lo+i)) Z H λσ2 H2=>tb { D with nx:=Pv (i+1),ct:=Pv (i+1),bk:=D.nx } σ2 H2) (hd:∀ Z H,Pv n Z H->D.nx Z H) :
  ∃ W:Nat->Nat->St->Hp->Prop,(∃ m,W 0 m Z H)/\∀ i m Z H,W i m Z H ->
   ((Pl lo n).stop i H/\D.nx Z H)\/((Pl lo n).go i H/\∃ N:St->Hp->Prop,(∀ σ' H',N σ' H'->∃ m',m'<m/\W (i+1) m' σ' H')/\∀ x H',(Pl lo n).Ka i H x H'->g x Z H' λσ2 H2=>tb { D with nx:=N,ct:=N,bk:=D.nx } σ2 H2):=by
 refine ⟨λi m Z H=>m=n-i/\i<=n/\Pv i Z H,⟨n,by simp,aK _,h0⟩,?_⟩;rintro i m Z H ⟨rfl,hi,p⟩
 by_cases hlt:i<n
 ·refine .inr ⟨hlt,Pv (i+1),λσ' H' p'=>⟨n-(i+1),by lia,rfl,hlt,p'⟩,λx H' y=>?_⟩;obtain ⟨e,y⟩:=y;subst e y;exact hs i Z _ hlt p
 ·have e:i=n:=by lia
  subst e;exact .inl ⟨av _,hd Z H p⟩
end L2
namespace L2
abbrev R2:=V->V->Hp->VK->Prop
def pJ (X:Cx) (f:ai->ai->Uq ai) (r:R2):Prop :=
 ∀ (pins:List (af×fT)) (s:ao) (Z:St) (H:Hp) (x y:V) (v u:ai) (Q:VK),Inv X pins Z H s->RelV x v->RelV y u->r x y H Q ->
  aG (aM X.prog X.w) X.A (f v u) (EP X pins Z Q) X.xe s
def UnR (X:Cx) (f:ai->Uq ai) (r:V->Hp->VK->Prop):Prop :=
 ∀ (pins:List (af×fT)) (s:ao) (Z:St) (H:Hp) (x:V) (v:ai) (Q:VK),Inv X pins Z H s->RelV x v->r x H Q ->
  aG (aM X.prog X.w) X.A (f v) (EP X pins Z Q) X.xe s
def mD (X:Cx) (f:ai) (r:List V->Hp->VK->Prop):Prop :=
 ∀ (pins:List (af×fT)) (s:ao) (Z:St) (H:Hp) (xs:List V) (us:List ai) (Q:VK),Inv X pins Z H s->Vals xs us->r xs H Q ->
  aG (aM X.prog X.w) X.A (call f us) (EP X pins Z Q) X.xe s
def TruR (X:Cx) (r:V->Hp->(Bool->Hp->Prop)->Prop):Prop :=
 ∀ (pins:List (af×fT)) (s:ao) (Z:St) (H:Hp) (x:V) (v:ai) (Q:Bool->Hp->Prop),Inv X pins Z H s->RelV x v->r x H Q ->
  aG (aM X.prog X.w) X.A (truthy v) (TP X pins Z Q) X.xe s
def cq (r:R2) (ta tb:TE):TE:=λZ H Q=>ta Z H λx H1=>tb Z H1 λy H2=>r x y H2 Q
def XI (r:V->Hp->VK->Prop) (ta:TE):TE:=λZ H Q=>ta Z H λx H1=>r x H1 Q
def rI (C:Int->Int->Prop) (g:Int->Int->V):R2:=λx y H Q=>∃ i j,x=.int i/\y=.int j/\C i j/\Q (g i j) H
def qQ (g:Int->Int->V):R2:=λx y H Q=>∃ i j,x=.int i/\y=.int j/\Q (g i j) H
def rU (g:Int->V):V->Hp->VK->Prop:=λx H Q=>∃ i,x=.int i/\Q (g i) H
section
variable {X:Cx}{a b c:Expr}{ta tb tc:TE}{pos:lg}
def V1 (ha:PE X a ta) (hb:PE X b tb) {pins:List (af×fT)}{s:ao}{Z:St}{H:Hp}{R:V->V->Hp->Prop}(I:Inv X pins Z H s)
  (h:ta Z H λx H1=>tb Z H1 λy H2=>R x y H2) {Q:ai->ao->Prop}{f:ai->ai->Uq ai}
  (hf:∀ v u s2 x y H2,Inv X pins Z H2 s2->RelV x v->RelV y u->R x y H2->aG (aM X.prog X.w) X.A (f v u) Q X.xe s2) :
  aG (aM X.prog X.w) X.A (fh a X.env) (λv s₁=>aG (aM X.prog X.w) X.A (fh b X.env) (λu s₂=>aG (aM X.prog X.w) X.A (f v u) Q X.xe s₂) X.xe s₁) X.xe s:=by
 refine ic (ha pins s Z H _ I h) λv s1 ⟨x,H1,I1,r1,q1⟩=>?_;refine ic (hb pins s1 Z H1 _ I1 q1) λu s2 ⟨y,H2,I2,r2,q2⟩=>?_;exact hf v u s2 x y H2 I2 r1 r2 q2
def jl {op:Am}{r:R2}(ho:pJ X (qH op) r) (ha:PE X a ta) (hb:PE X b tb):PE X (.BinOp a op b pos) (cq r ta tb):=by
 intro pins s Z H Q I h;exact wpAny_BinOp (V1 ha hb I h λv u s2 x y H2 I2 rx ry q=>ho pins s2 Z H2 x y v u Q I2 rx ry q)
def Mv {op:UnaryOp}{r:V->Hp->VK->Prop}(ho:UnR X (unaryOp op) r) (ha:PE X a ta):PE X (.UnaryOp op a pos) (XI r ta):=by
 intro pins s Z H Q I h;exact UnaryOp_ (ic (ha pins s Z H _ I h) λv s1 ⟨x,H1,I1,r1,q1⟩=>ho pins s1 Z H1 x v Q I1 r1 q1)
def ZV {f:ai->ai->Uq ai}{C:Int->Int->Prop}{g:Int->Int->Int}
  (EJ:∀ (i j:Int) (t u:Uo) (s:ao) (Q:ai->ao->Prop) (E:ai->ao->Prop),C i j->Q (.int (g i j) s.toks) { s with toks:=s.toks+1 }->aG (aM X.prog X.w) X.A (f (.int i t) (.int j u)) Q E s) :
  pJ X f (rI C λi j=>.int (g i j)):=by
 intro pins s Z H x y v u Q I rx ry h;obtain ⟨i,j,rfl,rfl,hc,q⟩:=h;obtain ⟨t,rfl⟩:=rx;obtain ⟨t',rfl⟩:=ry;exact EJ i j t t' s _ _ hc ⟨.int (g i j),H,I.tok _,⟨_,rfl⟩,q⟩
def SD {f:ai->ai->Uq ai}{g:Int->Int->Int}
  (EJ:∀ (i j:Int) (t u:Uo) (s:ao) (Q:ai->ao->Prop) (E:ai->ao->Prop),Q (.int (g i j) s.toks) { s with toks:=s.toks+1 }->aG (aM X.prog X.w) X.A (f (.int i t) (.int j u)) Q E s) :
  pJ X f (qQ λi j=>.int (g i j)):=by
 intro pins s Z H x y v u Q I rx ry h;obtain ⟨i,j,rfl,rfl,q⟩:=h;obtain ⟨t,rfl⟩:=rx;obtain ⟨t',rfl⟩:=ry;exact EJ i j t t' s _ _ ⟨.int (g i j),H,I.tok _,⟨_,rfl⟩,q⟩
def SE {f:ai->ai->Uq ai}{g:Int->Int->Bool}
  (EJ:∀ (i j:Int) (t u:Uo) (s:ao) (Q:ai->ao->Prop) (E:ai->ao->Prop),Q (.bool (g i j)) s->aG (aM X.prog X.w) X.A (f (.int i t) (.int j u)) Q E s) :
  pJ X f (qQ λi j=>.bl (g i j)):=by
 intro pins s Z H x y v u Q I rx ry h;obtain ⟨i,j,rfl,rfl,q⟩:=h;obtain ⟨t,rfl⟩:=rx;obtain ⟨t',rfl⟩:=ry;exact EJ i j t t' s _ _ ⟨.bl (g i j),H,I,rfl,q⟩
def qC (i j:Int):Prop:=0<j/\j<1073741824
def Mg (i j:Int):Prop:=(-(2^64)<i/\i<2^64)\/(-(2^64)<j/\j<2^64)
def Mg.ok {i j:Int}(h:Mg i j):IntMulOk i j:=by
 rcases h with ⟨h1,h2⟩|⟨h1,h2⟩
 ·exact .of_left (intBits_le_64 h1 h2)
 ·exact .of_right (intBits_le_64 h1 h2)
def V2:pJ X (qH .Add) (qQ λi j=>.int (i+j)):=SD λ_ _ _ _ _ _ _ q=>add_int q
def KI:pJ X (qH .Sub) (qQ λi j=>.int (i-j)):=SD λ_ _ _ _ _ _ _ q=>sub_int q
def V3:pJ X (qH .Mult) (rI Mg λi j=>.int (i*j)):=ZV λ_ _ _ _ _ _ _ hc q=>mul_int q hc.ok
def sO:pJ X (qH .FloorDiv) (rI qC λi j=>.int (i/j)):=ZV λi j _ _ _ _ _ hc q=>by
 have h1:(0:Int)<j:=hc.1;have h2:j<1073741824:=hc.2;exact floordiv_int (by lia) (by rw [Int.fdiv_eq_ediv_of_nonneg i (by lia)];exact q) (.inl (PyProof.noPylong_small (by lia)))
def xQ:pJ X (qH .Mod) (rI (λ_ j=>0<j) λi j=>.int (i%j)):=ZV λi j _ _ _ _ _ hc q=>by
 have h1:(0:Int)<j:=hc;exact mod_int' (by lia) (by rw [Int.fmod_eq_emod_of_nonneg i (by lia)];exact q)
def SF:pJ X (AF .Add) (qQ λi j=>.int (i+j)):=SD λ_ _ _ _ _ _ _ q=>VE q
def SG:pJ X (AF .Sub) (qQ λi j=>.int (i-j)):=SD λ_ _ _ _ _ _ _ q=>isub_int q
def SH:pJ X (AF .Mult) (rI Mg λi j=>.int (i*j)):=ZV λ_ _ _ _ _ _ _ hc q=>imul_int q hc.ok
def unI {f:ai->Uq ai}{g:Int->Int}
  (EJ:∀ (i:Int) (t:Uo) (s:ao) (Q:ai->ao->Prop) (E:ai->ao->Prop),Q (.int (g i) s.toks) { s with toks:=s.toks+1 }->aG (aM X.prog X.w) X.A (f (.int i t)) Q E s) :
  UnR X f (rU λi=>.int (g i)):=by
 intro pins s Z H x v Q I rx h;obtain ⟨i,rfl,q⟩:=h;obtain ⟨t,rfl⟩:=rx;exact EJ i t s _ _ ⟨.int (g i),H,I.tok _,⟨_,rfl⟩,q⟩
def FQ:UnR X (unaryOp .USub) (rU λi=>.int (-i)):=unI λ_ _ _ _ _ q=>neg_int q
end
def X4:V->V->Bool
 | .non,.non=>true | .non,.int _=>true | .int _,.non=>true | .non,.bl _=>true | .bl _,.non=>true | .non,.str _=>true | .str _,.non=>true
 | .int _,.int _=>true | .bl _,.bl _=>true | .str _,.str _=>true | .byt _,.byt _=>true
 | .int _,.str _=>true | .str _,.int _=>true | .bl _,.str _=>true | .str _,.bl _=>true
 | _,_=>false
def rEq:R2:=λx y H Q=>X4 x y=true/\Q (.bl (decide (x=y))) H
def rNe:R2:=λx y H Q=>X4 x y=true/\Q (.bl (!decide (x=y))) H
def Mw {i j:Int}:decide (V.int i=V.int j)=(i == j):=by
 rw [iD];simp
def Pn {i j:Bool}:decide (V.bl i=V.bl j)=(i == j):=by
 rw [iD];simp
def Mx {i j:bj}:decide (V.str i=V.str j)=(i == j):=by
 rw [iD];simp
def My {i j:Array UInt8}:decide (V.byt i=V.byt j)=(i.toList == j.toList):=by
 rw [iD];cases i;cases j;simp
section
variable {X:Cx}{a b c:Expr}{ta tb tc:TE}{pos:lg}
def eU {pins:List (af×fT)}{Z:St}{H:Hp}{s:ao}{Q:VK}{k k':Bool}(I:Inv X pins Z H s) (q:Q (.bl k) H) (e:k=k'):EP X pins Z Q (.bool k') s:=by
 subst e;exact ⟨.bl k,H,I,rfl,q⟩
def X5:pJ X (df .Eq) rEq:=by
 intro pins s Z H x y v u Q I rx ry h;obtain ⟨hs,q⟩:=h
 cases x with
 | non =>
  cases rx
  cases y with
  | non=>cases ry;exact PySem.EqNone.eq_none_none (eU I q (by simp))
  | bl j=>cases ry;exact PySem.EqNone.eq_none_bool (eU I q (by simp))
  | int j=>obtain ⟨t',rfl⟩:=ry;exact PySem.EqNone.eq_none_int (eU I q (by simp))
  | str j=>obtain ⟨t',rfl⟩:=ry;exact PySem.EqNone.eq_none_str (eU I q (by simp))
  | _=>exact absurd (show false=true from hs) bC
 | bl i =>
  cases rx
  cases y with
  | non=>cases ry;exact PySem.EqNone.eq_bool_none (eU I q (by simp))
  | bl j=>cases ry;exact eq_bool (eU I q Pn)
  | str j=>obtain ⟨t',rfl⟩:=ry;exact PySem.EqMixed.eq_bool_str (eU I q (by simp))
  | _=>exact absurd (show false=true from hs) bC
 | int i =>
  obtain ⟨t,rfl⟩:=rx
  cases y with
  | non=>cases ry;exact PySem.EqNone.eq_int_none (eU I q (by simp))
  | int j=>obtain ⟨t',rfl⟩:=ry;exact eq_int (eU I q Mw)
  | str j=>obtain ⟨t',rfl⟩:=ry;exact PySem.EqMixed.eq_int_str (eU I q (by simp))
  | _=>exact absurd (show false=true from hs) bC
 | str i =>
  obtain ⟨t,rfl⟩:=rx
  cases y with
  | non=>cases ry;exact PySem.EqNone.eq_str_none (eU I q (by simp))
  | bl j=>cases ry;exact PySem.EqMixed.eq_str_bool (eU I q (by simp))
  | int j=>obtain ⟨t',rfl⟩:=ry;exact PySem.EqMixed.eq_str_int (eU I q (by simp))
  | str j=>obtain ⟨t',rfl⟩:=ry;exact eq_str (eU I q Mx)
  | _=>exact absurd (show false=true from hs) bC
 | byt i =>
  obtain ⟨t,rfl⟩:=rx
  cases y with
  | byt j=>obtain ⟨t',rfl⟩:=ry;exact PySem.W.eq_bytes (eU I q My)
  | _=>exact absurd (show false=true from hs) bC
 | _=>cases y<;>exact absurd (show false=true from hs) bC
def X6:pJ X (df .NotEq) rNe:=by
 intro pins s Z H x y v u Q I rx ry h;obtain ⟨hs,q⟩:=h
 cases x with
 | non =>
  cases rx
  cases y with
  | non=>cases ry;exact PySem.EqNone.ne_none_none (eU I q (by simp))
  | bl j=>cases ry;exact PySem.EqNone.ne_none_bool (eU I q (by simp))
  | int j=>obtain ⟨t',rfl⟩:=ry;exact PySem.EqNone.ne_none_int (eU I q (by simp))
  | str j=>obtain ⟨t',rfl⟩:=ry;exact PySem.EqNone.ne_none_str (eU I q (by simp))
  | _=>exact absurd (show false=true from hs) bC
 | bl i =>
  cases rx
  cases y with
  | non=>cases ry;exact PySem.EqNone.ne_bool_none (eU I q (by simp))
  | bl j=>cases ry;exact ne_bool (eU I q (congrArg not Pn))
  | str j=>obtain ⟨t',rfl⟩:=ry;exact PySem.EqMixed.ne_bool_str (eU I q (by simp))
  | _=>exact absurd (show false=true from hs) bC
 | int i =>
  obtain ⟨t,rfl⟩:=rx
  cases y with
  | non=>cases ry;exact PySem.EqNone.ne_int_none (eU I q (by simp))
  | int j=>obtain ⟨t',rfl⟩:=ry;exact ne_int (eU I q (congrArg not Mw))
  | str j=>obtain ⟨t',rfl⟩:=ry;exact PySem.EqMixed.ne_int_str (eU I q (by simp))
  | _=>exact absurd (show false=true from hs) bC
 | str i =>
  obtain ⟨t,rfl⟩:=rx
  cases y with
  | non=>cases ry;exact PySem.EqNone.ne_str_none (eU I q (by simp))
  | bl j=>cases ry;exact PySem.EqMixed.ne_str_bool (eU I q (by simp))
  | int j=>obtain ⟨t',rfl⟩:=ry;exact PySem.EqMixed.ne_str_int (eU I q (by simp))
  | str j=>obtain ⟨t',rfl⟩:=ry;exact ne_str (eU I q (congrArg not Mx))
  | _=>exact absurd (show false=true from hs) bC
 | byt i =>
  obtain ⟨t,rfl⟩:=rx
  cases y with
  | byt j=>obtain ⟨t',rfl⟩:=ry;exact PySem.W.ne_bytes (eU I q (congrArg not My))
  | _=>exact absurd (show false=true from hs) bC
 | _=>cases y<;>exact absurd (show false=true from hs) bC
def Ii:pJ X (df .Lt) (qQ λi j=>.bl (decide (i<j))):=SE λ_ _ _ _ _ _ _ q=>Sg q
def Mz:pJ X (df .LtE) (qQ λi j=>.bl (decide (i<=j))):=SE λ_ _ _ _ _ _ _ q=>le_int q
def UE:pJ X (df .Gt) (qQ λi j=>.bl (decide (j<i))):=SE λ_ _ _ _ _ _ _ q=>gt_int q
def UF:pJ X (df .GtE) (qQ λi j=>.bl (decide (j<=i))):=SE λ_ _ _ _ _ _ _ q=>ge_int q
def pJ.or {f:ai->ai->Uq ai}{r r':R2}(h:pJ X f r) (h':pJ X f r'):pJ X f (λx y H Q=>r x y H Q\/r' x y H Q):=by
 intro pins s Z H x y v u Q I rx ry q
 rcases q with q|q
 ·exact h pins s Z H x y v u Q I rx ry q
 ·exact h' pins s Z H x y v u Q I rx ry q
def iG (b:Expr) {op:Se}(h:op≠.In:=by decide) (h2:op≠.NotIn:=by decide):jQ op b=false:=by
 have e1:(op == CmpOp.In)=false:=by cases op<;>first|rfl|exact absurd rfl h
 have e2:(op == CmpOp.NotIn)=false:=by cases op<;>first|rfl|exact absurd rfl h2
 cases b<;>simp [jQ,e1,e2]
def FR {op:Se}{r:R2}(ho:pJ X (df op) r) (ha:PE X a ta) (hb:PE X b tb) (hm:jQ op b=false):PE X (.Compare a [op] [b] pos) (cq r ta tb):=by
 intro pins s Z H Q I h;exact wpAny_Compare1 (V1 ha hb I h λv u s2 x y H2 I2 rx ry q=>ho pins s2 Z H2 x y v u Q I2 rx ry q) hm
def dj (t:TE):TT:=λZ H Q=>t Z H λx H'=>∃ k,x=.bl k/\Q k H'
def gj {op:Se}{r:R2}(ho:pJ X (df op) r) (ha:PE X a ta) (hb:PE X b tb) (hm:jQ op b=false):PT X (.Compare a [op] [b] pos) (dj (cq r ta tb)):=by
 intro pins s Z H Q I h
 refine VD (ic (ha pins s Z H _ I h) λv s1 ⟨x,H1,I1,r1,q1⟩=>ic (hb pins s1 Z H1 _ I1 q1) λu s2 ⟨y,H2,I2,r2,q2⟩ =>
  ic (ho pins s2 Z H2 x y v u _ I2 r1 r2 q2) λc s3 ⟨z,H3,I3,r3,k,e,q3⟩=>?_) hm
 subst e;cases r3;exact j8 ⟨H3,I3,q3⟩
def FS (r r':R2) (ta tb tc:TE):TE:=λZ H Q=>ta Z H λx H1=>tb Z H1 λy H2=>r x y H2 λz H3=>∃ k,z=.bl k /\
 (if k=true then tc Z H3 λw' H4=>r' y w' H4 Q else Q (.bl false) H3)
def Ij {op op':Se}{r r':R2}(ho:pJ X (df op) r) (ho':pJ X (df op') r') (ha:PE X a ta) (hb:PE X b tb) (hc:PE X c tc)
  (hm:lastMarks [op,op'] [b,c]=false:=by with_unfolding_all rfl):PE X (.Compare a [op,op'] [b,c] pos) (FS r r' ta tb tc):=by
 intro pins s Z H Q I h
 refine Compare_chain (ic (ha pins s Z H _ I h) λv s1 ⟨x,H1,I1,r1,q1⟩=>chain_link (ic (hb pins s1 Z H1 _ I1 q1) λu s2 ⟨y,H2,I2,r2,q2⟩ =>
  ic (ho pins s2 Z H2 x y v u _ I2 r1 r2 q2) λd s3 ⟨z,H3,I3,r3,k,e,q3⟩=>?_)) hm
 subst e;cases r3;refine j8 ?_
 cases k with
 | false=>exact ite_ff ⟨.bl false,H3,I3,rfl,q3⟩
 | true=>exact ite_tt (chain_last (ic (hc pins s3 Z H3 _ I3 q3) λw' s4 ⟨z',H4,I4,r4,q4⟩=>ho' pins s4 Z H4 y z' u w' Q I4 r2 r4 q4))
def SI (K:aa) (x:V) (H:Hp) (k:Bool):Prop :=
 match x with
 | .non=>k=false
 | .bl b=>k=b
 | .int i=>k=(i != 0)
 | .str y=>y.length<=aV/\k=((y.length:Int) != 0)
 | .byt y=>y.size<=aV/\k=((y.size:Int) != 0)
 | .ref p=>(∃ xs,c6 K H p xs/\k=!xs.isEmpty)\/(∃ xs,jZ K H p xs/\k=!xs.isEmpty)\/∃ kvs,H p=some (.dK kvs)/\k=!kvs.isEmpty
 | _=>False
def KJ {κ:Type} {kvs:List (κ×V)}{vs:List (κ×ai)}(r:KV kvs vs):(!vs.isEmpty)=!kvs.isEmpty:=by
 cases r<;>rfl
def A2 {xs:List V}{its:List ai}(r:Vals xs its):(!its.toArray.isEmpty)=!xs.isEmpty:=by
 cases r<;>simp
def qR:(aV:Nat)<2^63:=by rw [oz];decide
def V4:TruR X (λx H Q=>∃ k,SI X.K x H k/\Q k H):=by
 intro pins s Z H x v Q I rx h;obtain ⟨k,e,q⟩:=h;have hl:=qR;have hs:aV=16777216:=oz
 cases x with
 | non =>
  cases rx;have e':k=false:=e;subst e'
  exact truthy_none ⟨H,I,q⟩
 | bl b =>
  cases rx;have e':k=b:=e;subst e'
  exact j8 ⟨H,I,q⟩
 | int i =>
  obtain ⟨t,rfl⟩:=rx;have e':k=(i != 0):=e;subst e'
  exact PySem.P.truthy_int ⟨H,I,q⟩
 | str y =>
  obtain ⟨t,rfl⟩:=rx;obtain ⟨hy,e'⟩:y.length<=aV/\k=((y.length:Int) != 0):=e;subst e'
  exact PySem.P.truthy_str (by lia) ⟨H,I.tok _,q⟩
 | byt y =>
  obtain ⟨t,rfl⟩:=rx;obtain ⟨hy,e'⟩:y.size<=aV/\k=((y.size:Int) != 0):=e;subst e'
  exact PySem.W.truthy_bytes (by lia) ⟨H,I.tok _,q⟩
 | ref p =>
  cases rx;have e':(∃ xs,c6 X.K H p xs/\k=!xs.isEmpty)\/(∃ xs,jZ X.K H p xs/\k=!xs.isEmpty)\/∃ kvs,H p=some (.dK kvs)/\k=!kvs.isEmpty:=e
  rcases e' with ⟨xs,hx,e'⟩|⟨xs,hx,e'⟩|⟨kvs,hx,e'⟩
  ·subst e';obtain ⟨its,r,pl,hz⟩:=I.list hx;have hlen:=r.length;exact wpAny_truthy_list pl.isList (by simp only [aO];lia) ⟨H,I.tok _,by rw [A2 r];exact q⟩
  ·subst e';obtain ⟨its,r,pl,hz⟩:=I.tuple hx;have hlen:=r.length;exact truthy_tuple pl (by simp only [aO];lia) ⟨H,I.tok _,by rw [A2 r];exact q⟩
  ·subst e';obtain ⟨hz,hS,vs,r,m⟩:kvs.length<=aV/\(p == i8)=false/\∃ vs,KV kvs vs/\s.heap.DictOf (fu X.prog X.w) p vs:=I.fo p _ hx;have hlen:kvs.length=vs.length:=xt r
   exact wpAny_truthy_dict hS m (by lia) ⟨H,I.tok _,by rw [KJ r];exact q⟩
 | _=>exact (show False from e).elim
def Po (ha:PE X a ta) (he:∀ whole,isTrue a X.env whole=(do let v ← whole;sV a.pos;j9 [v] (truthy v))) :
  PT X a (λZ H Q=>ta Z H λx H'=>∃ k,SI X.K x H' k/\Q k H'):=by
 intro pins s Z H Q I h;exact isTrue_plain (ic (ha pins s Z H _ I h) λv s1 ⟨x,H1,I1,r1,q1⟩=>V4 pins s1 Z H1 x v Q I1 r1 q1) (he _)
def vals1 {x:V}{us:List ai}(r:Vals [x] us):∃ u,us=[u]/\RelV x u:=by
 cases r with
 | cons r1 r2=>cases r2;exact ⟨_,rfl,r1⟩
def vals2 {x y:V}{us:List ai}(r:Vals [x,y] us):∃ u w',us=[u,w']/\RelV x u/\RelV y w':=by
 cases r with
 | cons r1 r2 =>
  cases r2 with
  | cons r3 r4=>cases r4;exact ⟨_,_,rfl,r1,r3⟩
def NL (hc:X.calm=true):mD X (.builtin "max") (λxs H Q=>∃ i j,xs=[.int i,.int j]/\Q (.int (if j>i then j else i)) H):=by
 intro pins s Z H xs us Q I r h;obtain ⟨i,j,rfl,q⟩:=h;obtain ⟨u,w',rfl,⟨t,rfl⟩,⟨t',rfl⟩⟩:=vals2 r
 refine max_two_ints (I.ok.hd hc) λh' tk k=>⟨_,H,I.kept k,?_,q⟩
 by_cases hj:j>i
 ·rw [if_pos hj,if_pos hj];exact ⟨_,rfl⟩
 ·rw [if_neg hj,if_neg hj];exact ⟨_,rfl⟩
def NM (hc:X.calm=true):mD X (.builtin "min") (λxs H Q=>∃ i j,xs=[.int i,.int j]/\Q (.int (if j<i then j else i)) H):=by
 intro pins s Z H xs us Q I r h;obtain ⟨i,j,rfl,q⟩:=h;obtain ⟨u,w',rfl,⟨t,rfl⟩,⟨t',rfl⟩⟩:=vals2 r
 refine min_two_ints (I.ok.hd hc) λh' tk k=>⟨_,H,I.kept k,?_,q⟩
 by_cases hj:j<i
 ·rw [if_pos hj,if_pos hj];exact ⟨_,rfl⟩
 ·rw [if_neg hj,if_neg hj];exact ⟨_,rfl⟩
end
end L2
namespace L2
structure Mi (h:cf) (x dx C:af) (mA:bj->Option ai):Prop where
 obj:h.get? x=some (il C dx)
 ns:h.Ns1 dx mA
 ne:dx≠x
def NN {h:cf}{dx:af}{mA:bj->Option ai}(n:h.Ns1 dx mA):∃ od,h.get? dx=some od/\∀ name,tN name od=some (mA name):=by
 obtain ⟨o,es,ep,ho,hd,hk,_,hm⟩:=n;refine ⟨o,ho,λname=>?_⟩;have e:=hm name;unfold nsFind findBy at e;rw [← Array.find?_toList] at e;unfold tN;rw [hd];dsimp only
 split
 ·rename_i y q
  rw [q] at e;exact congrArg some e
 ·rename_i q
  rw [q] at e
  have a:es.toList.any (·.refKey)=false:=by
   rw [List.any_eq_false];intro y hy;obtain ⟨z,t,hkey⟩:=hk y (Array.mem_toList_iff.mp hy);simp [DictEntry.refKey,hkey]
  have a':¬ es.toList.any (·.refKey)=true:=by rw [a];exact bC
  rw [if_neg a'];exact congrArg some e
def Mi.look {h:cf}{x dx C:af}{mA:bj->Option ai}(I:Mi h x dx C mA):∃ od,PySem.W.InstAt h x (il C dx) C (some od)/\∀ name,tN name od=some (mA name) :=
 let ⟨od,ho,hl⟩:=NN I.ns
 ⟨od,⟨I.obj,rfl,rfl,ho⟩,hl⟩
section
variable {prog:a6}{w:bO}{A:bR}{E:ai->ao->Prop}{s:ao}{K:aa}{x dx C f:af}{mA:bj->Option ai}{name:bj}{v:ai}
def SJ {expr:Bool}{Q:ai->ao->Prop}(X:K.In s.heap) (I:Mi s.heap x dx C mA) (hg:iP K C name=true) (hh:ji K C=true)
  (ha:bD K (.ref C) name=some none) (hv:mA name=some v) (hv':RU v=true) (h:Q v { s with toks:=s.toks+1 }) :
  aG (aM prog w) A (getAttr (.ref x) name expr) Q E s:=by
 obtain ⟨od,J,hl⟩:=I.look;exact PySem.W.get_value X J (vo hg).1 (PySem.W.findObj_own hh ha rfl (by rw [hl,hv])) hv' h
def Pp {pl:Uq Bool}{Q:ai×List ai->ao->Prop}(X:K.In s.heap) (I:Mi s.heap x dx C mA) (hg:iP K C name=true)
  (hf:bD K (.ref C) name=some (some (.ref f))) (ht:qI K (.ref f)=true) (hv:mA name=none) (h:Q (.ref f,[.ref x]) s) :
  aG (aM prog w) A (AG (.ref x) name pl) Q E s:=by
 obtain ⟨od,J,hl⟩:=I.look;exact PySem.W.method_fn X J (vo hg).1 (vo hg).2 hf (beq_iff_eq.mp ht) (by show (tN name od).map (·.isSome)=some false;rw [hl,hv];rfl) h
def SK {ns:List bj}{Q:Unit->ao->Prop}(X:K.In s.heap) (I:Mi s.heap x dx C mA)
  (hs:bD K (.ref C) "__setattr__"=some (some (.builtin "object.__setattr__"))) (hp:lh K C=true) (ht:Dc K C name=some none) (hh:ji K C=true)
  (hw:Mn mA ns) (hsz:ns.length<=aV)
  (h:∀ h',Mi h' x dx C (λy=>if y=name then some v else mA y)->gY dx s.heap h'->Q () { s with heap:=h',toks:=s.toks+2 }) :
  aG (aM prog w) A (setAttr (.ref x) name v) Q E s:=by
 obtain ⟨od,J,hl⟩:=I.look;refine PySem.W.set_plain X J hs (PySem.W.osa_open (s:={ s with toks:=s.toks+1 }) (r:=none) X J hp ht λb=>?_);obtain ⟨cd,hc,hd'⟩:=PySem.W.any_some hh;have hx:s.heap.get? x=some ⟨.ref C,some dx,.plain,#[]⟩:=I.obj;refine ae (ak (ae (ae (wpAny_loadPart hx (ae (PySem.W.Looks.here (s:={ s with toks:=s.toks+1 }) (PySem.W.looks_clsIn X hc) ?_))))));rw [hd'];refine ak (a:=some dx) (ae (ak (ae ?_)));refine wpAny_nsSet1 (s:={ s with toks:=s.toks+1 }) I.ns λh' hn2 hs2=>?_;obtain ⟨oD,esD,epD,hoD,hdD,hcD⟩:=hn2.count (PySem.Within.cons name v hw);refine ae (wpAny_lookBehind hoD (by rw [hdD];exact pastItsLine_dict (bu hcD (by rw [bV];lia))) ?_);exact ak (h _ ⟨(hs2.2 _ (Ne.symm I.ne)).trans I.obj,hn2,I.ne⟩ hs2)
def Pq {R:Kh->ao->Prop}{vs:List ai}{kw:List (bj×ai)}(X:K.In s.heap) (hm:kA K C=true)
  (hi:bD K (.ref C) "__init__"=some (some (.ref f))) (hf:PySem.W.typeIn K (.ref f)=some (.type "function"))
  (h:ka (aM prog w) (A.under (.builtin "type.__call__" ⟨.ref C::vs,kw⟩)) (.call (.ref f) ⟨.ref (s.heap.objs.size+1)::vs,kw⟩) (PySem.W.InitBack (s.heap.objs.size+1) R)
   { s with heap:=(s.heap.push fi).push (il C s.heap.objs.size) }) :
  ka (aM prog w) A (.call (.ref C) ⟨vs,kw⟩) R s:=by
 obtain ⟨hh,g,d,t,os⟩:=s;exact PySem.W.make_core (PySem.W.makes_of X hm) (PySem.W.looks_findIn X hi) (λself=>PySem.W.bind_fn X self hf) (.inl rfl) h
end
def dW (f:bj) (v:V):List (bj×V)->List (bj×V)
 | []=>[(f,v)]
 | (g,x)::r=>if g=f then (g,v)::r else (g,x)::dW f v r
theorem fk (f g:bj) (v:V):∀ fs:List (bj×V),(dW f v fs).lookup g=if g=f then some v else fs.lookup g
 | []=>by
  show dN g [(f,v)]=_
  by_cases h:g=f
  ·have hb:(g == f)=true:=beq_iff_eq.mpr h;simp only [dN,hb,if_pos h]
  ·have hb:(g == f)=false:=beq_eq_false_iff_ne.mpr h
   simp only [dN,hb,if_neg h]
 | (k,x)::r=>by
  have ih:=fk f g v r;rw [show dW f v ((k,x)::r)=(if k=f then (k,v)::r else (k,x)::dW f v r) from rfl]
  by_cases hk:k=f
  ·rw [if_pos hk]
   by_cases h:g=k
   ·have hb:(g == k)=true:=beq_iff_eq.mpr h;simp only [dN,hb,if_pos (h.trans hk)]
   ·have hb:(g == k)=false:=beq_eq_false_iff_ne.mpr h;simp only [dN,hb,if_neg (λe:g=f=>h (e.trans hk.symm))]
  ·rw [if_neg hk]
   by_cases h:g=k
   ·have hb:(g == k)=true:=beq_iff_eq.mpr h;simp only [dN,hb,if_neg (λe:g=f=>hk (h.symm.trans e))]
   ·have hb:(g == k)=false:=beq_eq_false_iff_ne.mpr h;simp only [dN,hb];exact ih
theorem xR (f:bj) (v:V):∀ fs:List (bj×V),f∈(dW f v fs).map (·.1)/\∀ g,g∈fs.map (·.1)->g∈(dW f v fs).map (·.1)
 | []=>⟨by simp [dW],λg h=>by simp at h⟩
 | (k,x)::r=>by
  obtain ⟨i1,i2⟩:=xR f v r;rw [show dW f v ((k,x)::r)=(if k=f then (k,v)::r else (k,x)::dW f v r) from rfl]
  by_cases hk:k=f
  ·rw [if_pos hk];subst hk;exact ⟨by simp,λg h=>by simpa using h⟩
  ·rw [if_neg hk];refine ⟨?_,λg h=>?_⟩
   ·rw [b0];exact aj _ i1
   ·rw [b0] at h ⊢
    rcases au.mp h with e|e
    ·exact au.mpr (.inl e)
    ·exact aj _ (i2 g e)
theorem yM (f:bj) (v:V):∀ fs:List (bj×V),(dW f v fs).length<=fs.length+1
 | []=>by simp [dW]
 | (k,x)::r=>by
  have ih:=yM f v r;rw [show dW f v ((k,x)::r)=(if k=f then (k,v)::r else (k,x)::dW f v r) from rfl]
  by_cases hk:k=f
  ·rw [if_pos hk,bV,bV];lia
  ·rw [if_neg hk,bV,bV];lia
def sD.some_of {v:V}{o:Option ai}(r:sD (some v) o):∃ u,o=some u/\RelV v u:=by
 cases o with
 | none=>exact (show False from r).elim
 | some u=>exact ⟨u,rfl,r⟩
def sD.none_of {o:Option ai}(r:sD none o):o=none:=by
 cases o with
 | none=>rfl
 | some u=>exact (show False from r).elim
def NO {v:V}{u:ai}(r:RelV v u):RU u=true:=by
 cases v with
 | non=>cases (show u=eW from r);rfl
 | bl b=>cases (show u=sJ b from r);rfl
 | int i=>obtain ⟨t,e⟩:=(show ∃ t,u=fw i t from r);cases e;rfl
 | str x=>obtain ⟨t,e⟩:=(show ∃ t,u=qF x t from r);cases e;rfl
 | byt b=>obtain ⟨t,e⟩:=(show ∃ t,u=Value.bytes b t from r);cases e;rfl
 | flt b=>obtain ⟨t,e⟩:=(show ∃ t,u=OD b t from r);cases e;rfl
 | ref a=>cases (show u=aD a from r);rfl
 | ty n=>cases (show u=eX n from r);rfl
section
variable {P:a6}{w:bO}{H H':Hp}{h h':cf}{a C dx:af}{fs fs':List (bj×V)}
def Ay (fo:qD P w H h) (e:H a=some (.ins C dx fs)):∃ mA,Mi h a dx C mA/\(∀ f,sD (fs.lookup f) (mA f))/\Mn mA (fs.map (·.1))/\fs.length<=1000/\H dx=some (.own a):=by
 obtain ⟨d,z,ne,ob,mA,n,r,q⟩:=(show fg P w H h a (.ins C dx fs) from fo a _ e)
 exact ⟨mA,⟨ob,n,ne⟩,r,q,z,d⟩
end
structure Dm (K:aa) (C:af):Prop where
 pg:iP K C Nu=true
 hd:ji K C=true
 po:lh K C=true
 sa:bD K (.ref C) "__setattr__"=some (some (.builtin "object.__setattr__"))
def Dm.get {K:aa}{C:af}(c:Dm K C) (f:bj):iP K C f=true:=c.pg
def dM (K:aa) (C:af) (f:bj):Prop:=bD K (.ref C) f=some none
def dM.Zr {K:aa}{C:af}{f:bj}(n:dM K C f):Dc K C f=some none:=by
 unfold Dc;rw [show bD K (.ref C) f=some none from n]
 rfl
structure SL (K:aa) (C:af) (m:bj) (f:af):Prop where
 at_:bD K (.ref C) m=some (some (.ref f))
 fn:qI K (.ref f)=true
 kp:eI K (.ref f)=true
section
variable {X:Cx}{pins:List (af×fT)}{Z:St}{H:Hp}{s:ao}{a C dx:af}{fs:List (bj×V)}{f:bj}{v:V}{A:bR}{E:ai->ao->Prop}
def A3 {b:Bool}{Q:ai->ao->Prop}(I:Inv X pins Z H s) (e:H a=some (.ins C dx fs)) (c:Dm X.K C) (n:dM X.K C f) (l:fs.lookup f=some v)
  (h:∀ u s',Inv X pins Z H s'->RelV v u->Q u s'):aG (aM X.prog X.w) A (getAttr (.ref a) f b) Q E s:=by
 obtain ⟨mA,O,r,_,_,_⟩:=Ay I.fo e;obtain ⟨u,hu,ru⟩:=sD.some_of (v:=v) (o:=mA f) (by rw [← l];exact r f);exact SJ I.Al O (c.get f) c.hd n hu (NO ru) (h u _ (I.tok _) ru)
def A4 {m:bj}{g:af}{pl:Uq Bool}{Q:ai×List ai->ao->Prop}(I:Inv X pins Z H s) (e:H a=some (.ins C dx fs)) (c:Dm X.K C) (k:SL X.K C m g) (l:fs.lookup m=none)
  (h:Q (.ref g,[.ref a]) s):aG (aM X.prog X.w) A (AG (.ref a) m pl) Q E s:=by
 obtain ⟨mA,O,r,_,_,_⟩:=Ay I.fo e;have hn:mA m=none:=sD.none_of (by rw [← l];exact r m);exact Pp I.Al O (c.get m) k.at_ k.fn hn h
def A5 {y:V}{u:ai}{Q:Unit->ao->Prop}(I:Inv X pins Z H s) (e:H a=some (.ins C dx fs)) (c:Dm X.K C) (n:dM X.K C f) (hl:fs.length<1000) (ry:RelV y u)
  (h:∀ s',Inv X pins Z (upd H a (.ins C dx (dW f y fs))) s'->Q () s'):aG (aM X.prog X.w) A (setAttr (.ref a) f u) Q E s:=by
 obtain ⟨mA,O,r,wi,_,ho⟩:=Ay I.fo e
 have hz:(fs.map (·.1)).length<=aV:=by rw [ag,oz];lia
 refine SK I.Al O c.sa c.po n.Zr c.hd wi hz λh' O' sb=>h _ ?_
 have hd:∃ o,h'.get? dx=some o:=let ⟨o,_,_,e',_⟩:=O'.ns;⟨o,e'⟩
 refine I.write (x:=a) (e:=dx) (by rw [e];exact iN) (.inr ho) (λb q hb z=>(sb.2 b hb).trans z) hd ?_;refine ⟨by rw [aH O.ne];exact ho,?_,O.ne,O'.obj,_,O'.ns,λg=>?_,λg hg=>?_⟩
 ·have:=yM f y fs;lia
 ·show sD ((dW f y fs).lookup g) (if g=f then some u else mA g)
  rw [fk]
  by_cases q:g=f
  ·rw [if_pos q,if_pos q];exact ry
  ·rw [if_neg q,if_neg q];exact r g
 ·by_cases q:g=f
  ·rw [q];exact (xR f y fs).1
  ·refine (xR f y fs).2 g (wi g λz=>hg ?_)
   show (if g=f then some u else mA g)=none
   rw [if_neg q];exact z
def Inv.made (I:Inv X pins Z H s):Inv X pins Z (upd (upd H s.heap.objs.size (.own (s.heap.objs.size+1))) (s.heap.objs.size+1) (.ins C s.heap.objs.size []))
  { s with heap:=(s.heap.push fi).push (il C s.heap.objs.size) }:=by
 have e1:(s.heap.push fi).get? s.heap.objs.size=some fi:=aI s.heap rfl
 have e2:((s.heap.push fi).push (il C s.heap.objs.size)).get? (s.heap.objs.size+1)=some (il C s.heap.objs.size):=by
  have:=aI (s.heap.push fi) (o:=il C s.heap.objs.size) rfl
  rwa [iW] at this
 have e3:(s.heap.push fi).Ns s.heap.objs.size (λ_=>none):=⟨fi,#[],_,e1,rfl,(λe he=>absurd he (by simp)),λ_=>rfl⟩
 have I1:=I.laid (a:=s.heap.objs.size) (o:=.own (s.heap.objs.size+1)) (h':=s.heap.push fi) (t':=s.toks) (λb u q=>ar _ q) (av _) ⟨_,e1⟩;refine I1.laid (a:=s.heap.objs.size+1) (o:=.ins C s.heap.objs.size []) (t':=s.toks) (λb u q=>ar _ q) (kj (iW _ _)) ?_;have ne:s.heap.objs.size≠s.heap.objs.size+1:=bg (km _);refine ⟨by rw [aH ne,aF],aK _,ne,e2,λ_=>none,(Heap.Ns1.of_empty e3).at λo q=>ar _ q,λ_=>iN,λy hy=>absurd rfl hy⟩
def SN {prog:a6}{w:bO}{env:EH}{e:Expr}{f:bj}{pos:lg}{s:ao}{Q:ai->ao->Prop}(hb:tO e f env (fh e env)=fh e env)
  (h:aG (aM prog w) A (fh e env) (λo s₁=>aG (aM prog w) A (getAttr o f true) Q E s₁) E s):aG (aM prog w) A (fh (.Attribute e f pos) env) Q E s :=
 Attribute_any_ h (by rw [arm_eval_Attribute,hb])
end
def fq (K:aa) (ta:TE) (f:bj):TE:=λZ H Q=>ta Z H λx H1=>∃ a C dx fs v,x=.ref a/\H1 a=some (.ins C dx fs)/\Dm K C/\dM K C f/\fs.lookup f=some v/\Q v H1
def tE (K:aa) (ta tv:TE) (f:bj):TS:=λD Z H=>tv Z H λy H1=>ta Z H1 λx H2=>∃ a C dx fs,x=.ref a/\H2 a=some (.ins C dx fs)/\Dm K C/\dM K C f/\fs.length<1000 /\
 D.nx Z (upd H2 a (.ins C dx (dW f y fs)))
def V5 (X:Cx) (op:Am) (rd:V->V->Hp->VK->Prop):Prop :=
 ∀ (pins:List (af×fT)) (s:ao) (Z:St) (H:Hp) (x y:V) (u v:ai) (Q:VK),Inv X pins Z H s->RelV x u->RelV y v->rd x y H Q->aG (aM X.prog X.w) X.A (AF op u v) (EP X pins Z Q) X.xe s
def sP (K:aa) (ta tv:TE) (rd:V->V->Hp->VK->Prop) (f:bj):TS:=λD Z H=>ta Z H λx H1=>∃ a C dx fs v,x=.ref a/\H1 a=some (.ins C dx fs)/\Dm K C/\dM K C f/\fs.lookup f=some v /\
 tv Z H1 λy H2=>rd v y H2 λz H3=>∃ dx' fs',H3 a=some (.ins C dx' fs')/\fs'.length<1000/\D.nx Z (upd H3 a (.ins C dx' (dW f z fs')))
section
variable {X:Cx}{o e value:Expr}{f:bj}{pos pos' tpos:lg}{ta tv:TE}
def V7 (he:PE X e ta) (hb:tO e f X.env (fh e X.env)=fh e X.env):PE X (.Attribute e f pos) (fq X.K ta f):=by
 intro pins s Z H Q I h;refine SN hb (ic (he pins s Z H _ I h) λu s1 ⟨x,H1,I1,rx,a,C,dx,fs,v,ex,ea,c,n,l,q⟩=>?_);subst ex;obtain rfl:u=aD a:=rx
 exact A3 I1 ea c n l λu' s2 I2 ru=>⟨v,H1,I2,ru,q⟩
def FT (ha:PE X o ta) (hv:PE X value tv) (hs:AE value (some (.Attribute o f pos')) pos.line X.env=pure false):PS X (.Assign [.Attribute o f pos'] value pos) (tE X.K ta tv f):=by
 intro pins s Z H D I h;refine plainObj_wpAny_Assign_Attribute (ic (hv pins s Z H _ I h) λu s1 ⟨y,H1,I1,ry,q⟩=>ic (ha pins s1 Z H1 _ I1 q) λov s2 ⟨x,H2,I2,rx,a,C,dx,fs,ex,ea,c,n,l,q2⟩=>?_) hs;subst ex;obtain rfl:ov=aD a:=rx
 exact A5 I2 ea c n l ry λs3 I3=>⟨Z,_,I3,q2⟩
def sQ {op:Am}{rd:V->V->Hp->VK->Prop}(ha:PE X o ta) (hv:PE X value tv) (hop:V5 X op rd):PS X (.AugAssign (.Attribute o f tpos) op value pos) (sP X.K ta tv rd f):=by
 intro pins s Z H D I h;refine wpAny_AugAssign_AttributeAny (ic (ha pins s Z H _ I h) λov s1 ⟨x,H1,I1,rx,a,C,dx,fs,v,ex,ea,c,n,l,q⟩=>?_);subst ex;obtain rfl:ov=aD a:=rx;refine A3 I1 ea c n l λu s2 I2 ru=>ic (hv pins s2 Z H1 _ I2 q) λw3 s3 ⟨y,H2,I3,ry,q3⟩=>ic (hop pins s3 Z H2 v y u w3 _ I3 ru ry q3) λw4 s4 ⟨z,H3,I4,rz,dx',fs',ea',l',q4⟩=>?_
 exact A5 I4 ea' c n l' rz λs5 I5=>⟨Z,_,I5,q4⟩
def NP:V->V->Hp->VK->Prop:=λx y H Q=>∃ i j,x=.int i/\y=.int j/\Q (.int (i+j)) H
def A6:V5 X .Add NP:=by
 rintro pins s Z H x y u v Q I rx ry ⟨i,j,rfl,rfl,q⟩
 obtain ⟨t,rfl⟩:=(show ∃ t,u=fw i t from rx)
 obtain ⟨t',rfl⟩:=(show ∃ t',v=fw j t' from ry)
 exact VE ⟨.int (i+j),H,I.tok _,⟨_,rfl⟩,q⟩
end
section
variable {X:Cx}{pins:List (af×fT)}{Z:St}{H:Hp}{s:ao}{A:bR}{E:ai->ao->Prop}{Q:ai->ao->Prop}{c:ai}{b:Bool}
inductive vD (K:aa) (H:Hp):V->ai->Prop where
 | non:vD K H .non (.type "NoneType")
 | bl (x:Bool):vD K H (.bl x) (.type "bool")
 | int (i:Int):vD K H (.int i) (.type "int")
 | str (x:bj):vD K H (.str x) (.type "str")
 | flt (x:UInt64):vD K H (.flt x) (.type "float")
 | lst {a:af}{xs:List V}(e:H a=some (.lst xs)):vD K H (.ref a) (.type "list")
 | frz {a:af}{o:fT}{xs:List V}(e:H a=some (.frz o (.lst xs))):vD K H (.ref a) (.type "list")
 | tup {a:af}{xs:List V}(e:H a=some (.tup xs)):vD K H (.ref a) (.type "tuple")
 | dK {a:af}{kvs:List (iA×V)}(e:H a=some (.dK kvs)):vD K H (.ref a) (.type "dict")
 | dT {a:af}{kvs:List (List iA×V)}(e:H a=some (.dT kvs)):vD K H (.ref a) (.type "dict")
 | ins {a C dx:af}{fs:List (bj×V)}(e:H a=some (.ins C dx fs)) (cl:Dm K C) (ha:bD K (.ref C) "__class__"=some (some (.builtin "object.__class__")))
   (hn:PySem.W.specialIn K (.builtin "object.__class__") "__get__"=some (some (.builtin "getset_descriptor.__get__"))) (htk:PySem.W.takesIn K (.builtin "object.__class__")=some true)
   (hm:PySem.W.mroIn K C (.type "object")=some true):vD K H (.ref a) (.ref C)
def NQ {x:V}{u t:ai}(I:Inv X pins Z H s) (rx:RelV x u) (ty:vD X.K H x t) (e:iQ X.K t c=some b) (h:∀ tk,Q (.bool b) { s with toks:=tk }) :
  aG (aM X.prog X.w) A (call (.builtin "isinstance") [u,c]) Q E s:=by
 cases ty with
 | non=>cases (show u=eW from rx);exact eJ PySem.W.kitx_none I.Al iN e (λz=>nomatch z) h
 | bl y=>cases (show u=sJ y from rx);exact eJ PySem.W.kitx_bool I.Al iN e (λz=>nomatch z) h
 | int i=>obtain ⟨t,q⟩:=(show ∃ t,u=fw i t from rx);cases q;exact eJ PySem.W.kitx_int I.Al iN e (λz=>nomatch z) h
 | str y=>obtain ⟨t,q⟩:=(show ∃ t,u=qF y t from rx);cases q;exact eJ PySem.W.kitx_str I.Al iN e (λz=>nomatch z) h
 | flt y=>obtain ⟨t,q⟩:=(show ∃ t,u=OD y t from rx);cases q;exact eJ PySem.W.kitx_float I.Al iN e (λz=>nomatch z) h
 | @lst a xs ea =>
  cases (show u=aD a from rx)
  obtain ⟨_,_,n,_,h1⟩:=(show fg X.prog X.w H s.heap a (.lst xs) from I.fo a _ ea)
  exact eJ O1 I.Al ⟨_,h1,rfl⟩ e (λz=>nomatch z) h
 | @frz a ob xs ea =>
  cases (show u=aD a from rx)
  obtain ⟨_,_,_,n,_,h1⟩:=(show fg X.prog X.w H s.heap a (.frz ob (.lst xs)) from I.fo a _ ea)
  exact eJ O1 I.Al ⟨_,h1,rfl⟩ e (λz=>nomatch z) h
 | @tup a xs ea =>
  cases (show u=aD a from rx)
  obtain ⟨_,_,_,p⟩:=(show fg X.prog X.w H s.heap a (.tup xs) from I.fo a _ ea)
  obtain ⟨o,h1,h2,_⟩:=p
  exact eJ PySem.W.kitx_tuple I.Al ⟨o,h1,h2⟩ e (λz=>nomatch z) h
 | @dK a kvs ea =>
  cases (show u=aD a from rx)
  obtain ⟨_,_,vs,_,p⟩:=(show fg X.prog X.w H s.heap a (.dK kvs) from I.fo a _ ea)
  obtain ⟨o,es,ep,h1,h2,_⟩:=p
  exact eJ O2 I.Al ⟨o,h1,h2.1⟩ e (λz=>nomatch z) h
 | @dT a kvs ea =>
  cases (show u=aD a from rx)
  obtain ⟨_,_,xs,_,o,es,ep,h1,h2,_⟩:=(show fg X.prog X.w H s.heap a (.dT kvs) from I.fo a _ ea)
  exact eJ O2 I.Al ⟨o,h1,h2.1⟩ e (λz=>nomatch z) h
 | @ins a C dx fs ea cl ha hn htk hm =>
  cases (show u=aD a from rx);obtain ⟨mA,O,_⟩:=Ay I.fo ea;obtain ⟨od,J,_⟩:=O.look;exact eJ (PySem.W.kitx_own (cl.get _) cl.hd ha hn htk hm) I.Al J e (λz=>nomatch z) h
end
end L2
namespace L2
structure h8 (k:Nat) (A:bR):Prop where
 hd:A.handled=none
 dp:A.depth+3*k+5<qJ
 un:A.units+16*k+200<gZ
def h8.mono {j k:Nat}{A:bR}(r:h8 k A) (h:j<=k):h8 j A:=⟨r.hd,by have:=r.dp;lia,by have:=r.un;lia⟩
def h8.deeper {k:Nat}{A:bR}(r:h8 (k+1) A) (env:EH):h8 k (A.deeper env) :=
 ⟨r.hd,by have:=r.dp;show A.depth+1+3*k+5<_;lia,by have:=r.un;show A.units+3+16*k+200<_;lia⟩
def KL {A:bR}{C:af}{us:List ai}{kw:List (bj×ai)}:(A.under (.builtin "type.__call__" ⟨.ref C::us,kw⟩)).depth=A.depth+1:=by
 first|rfl|simp [Ku,Code.weight,Code.isCreation,Code.isGuard,Code.isCaller,Code.frames,Nv,guardIds]
def KM {A:bR}{C:af}{us:List ai}{kw:List (bj×ai)}:(A.under (.builtin "type.__call__" ⟨.ref C::us,kw⟩)).units=A.units+1:=by
 first|rfl|simp [Ku,Code.cUnits,Code.frames,Nv]
def h8.make {k:Nat}{A:bR}(r:h8 (k+1) A) (C:af) (us:List ai) (kw:List (bj×ai)):h8 k (A.under (.builtin "type.__call__" ⟨.ref C::us,kw⟩)) :=
 ⟨r.hd,by have:=r.dp;rw [KL];lia,by have:=r.un;rw [KM];lia⟩
def h8.depth {k:Nat}{A:bR}(r:h8 k A):A.depth<qJ:=by have:=r.dp;lia
def h8.units {k:Nat}{A:bR}(r:h8 k A):A.units+64<gZ:=by have:=r.un;lia
def aX:TA:=λ_ H Q=>Q [] H
def ax (ta:TE) (tr:TA):TA:=λZ H Q=>ta Z H λx H1=>tr Z H1 λxs H2=>Q (x::xs) H2
section
variable {X:Cx}{e:Expr}{es:List Expr}{te:TE}{t:TA}{pos:lg}
def eV:PA X [] aX:=λ_ _ _ _ H Q I h=>lM ⟨[],H,I,.nil,h⟩
def cm (ha:PE X e te) (hr:PA X es t) (hs:bL (e::es) X.env=(false,fh e X.env)::bL es X.env:=by rfl):PA X (e::es) (ax te t):=by
 intro pos pins s Z H Q I h;rw [hs]
 show aG _ _ (spliced ((false,fh e X.env)::g9 pos (bL es X.env))) _ _ s
 refine ia (ic (ha pins s Z H _ I h) λu s1 ⟨x,H1,I1,r1,q1⟩=>?_)
 exact ic (hr pos pins s1 Z H1 _ I1 q1) λus s2 ⟨xs,H2,I2,r2,q2⟩=>⟨x::xs,H2,I2,.cons r1 r2,q2⟩
def nH (t:TA):TE:=λZ H Q=>t Z H λxs H1=>xs.length<=aV/\∀ p,H1 p=none->Q (.ref p) (upd H1 p (.tup xs))
def tF (t:TA):TE:=λZ H Q=>t Z H λxs H1=>xs.length<=aV/\∀ p,H1 p=none->Q (.ref p) (upd H1 p (.lst xs))
def uP {x1} (h:PA X es t):PE X (.Tuple es x1 pos) (nH t):=by
 intro pins s Z H Q I hq;refine De (ic (h pos pins s Z H _ I hq) λus s1 ⟨xs,H1,I1,r,z,q⟩=>⟨by rw [← r.length];exact z,?_⟩);have hf:H1 s1.heap.objs.size=none:=I1.fo.fresh (av _);refine ⟨.ref s1.heap.objs.size,upd H1 s1.heap.objs.size (.tup xs),I1.laid (t':=s1.toks) (λb u e=>ar _ e) (av _) ?_,rfl,q _ hf⟩;exact ⟨z,us,r,⟨_,aI _ rfl,rfl,_,rfl⟩⟩
def Pr (h:PA X es t):PE X (.List es pos) (tF t):=by
 intro pins s Z H Q I hq;refine wpAny_List_spliced (ic (h pos pins s Z H _ I hq) λus s1 ⟨xs,H1,I1,r,z,q⟩=>⟨by rw [← r.length];exact z,?_⟩);have hf:H1 s1.heap.objs.size=none:=I1.fo.fresh (av _);refine ⟨.ref s1.heap.objs.size,upd H1 s1.heap.objs.size (.lst xs),I1.laid (t':=s1.toks) (λb u e=>ar _ e) (av _) ?_,rfl,q _ hf⟩;exact ⟨z,us,0,r,aI _ rfl⟩
end
abbrev Sp:=List V->Hp->VK->XK->Prop
abbrev Kp:=List EH->Hp->ao->XK->ai->ao->Prop
structure Md (P:a6) (w:bO) (K:aa) (mg:bj->Option ai) (base:cf) (A:bR) (outer:List EH) (s:ao) (H:Hp):Prop where
 frames:A.frames=some outer
 mod:Mod K mg base
 bs:∀ b o,base.get? b=some o->s.heap.get? b=some o/\H b=none
 RQ:base.objs.size<=s.heap.objs.size
 yF:s.heap.FunFrames base outer
 Vw:∀ b∈Ov outer,H b=none
 fo:qD P w H s.heap
 bare:xu s.gens
def CE (outer:List EH) (P:a6) (w:bO) (H:Hp) (s:ao) (Q:VK) (u:ai) (s':ao):Prop :=
 ∃ v H',s'.os=s.os/\xu s'.gens/\Un (Ov outer) [] H H' s.heap s'.heap/\qD P w H' s'.heap/\RelV v u/\Q v H'
def CR (CX:Kp) (outer:List EH) (P:a6) (w:bO) (H:Hp) (s:ao) (Q:VK) (E:XK) (r:Kh) (s':ao):Prop :=
 match r with
 | .ok (.ret u)=>CE outer P w H s Q u s'
 | .ok _=>False
 | .error e=>CX outer H s E e s'
structure k9 (P:a6) (w:bO) (K:aa) (mg:bj->Option ai) (base:cf) (CX:Kp) (k:Nat) (f:af) (fd:eK) (ps:List bj) (sp:Sp):Prop where
 len:∀ vs H Q E,sp vs H Q E->vs.length=ps.length
 run:∀ (A:bR) (outer:List EH) (s:ao) (H:Hp) (args:Args) (us:List ai) (vs:List V) (Q:VK) (E:XK),h8 k A->Md P w K mg base A outer s H->Hw s fd args (ps.zip us)->Vals vs us->sp vs H Q E ->
  ka (aM P w) A (.call (.ref f) args) (CR CX outer P w H s Q E) s
def Md.make {P:a6}{w:bO}{K:aa}{mg:bj->Option ai}{base:cf}{A:bR}{outer:List EH}{s:ao}{H:Hp}(e:Md P w K mg base A outer s H) (C:af) (us:List ai) (kw:List (bj×ai)) :
  Md P w K mg base (A.under (.builtin "type.__call__" ⟨.ref C::us,kw⟩)) outer s H:=⟨by first|exact e.frames|(simpa [Ku,Code.envs,Nv,pushEnvs] using e.frames),e.mod,e.bs,e.RQ,e.yF,e.Vw,e.fo,e.bare⟩
section
variable {X:Cx}{pins:List (af×fT)}{Z:St}{H:Hp}{s s':ao}
def Inv.Zj (I:Inv X pins Z H s):Md X.prog X.w X.K X.mg X.base X.A X.stack s H :=
 ⟨I.ok.frames,I.ok.mod,I.bs,bu I.ok.RQ I.sz,I.stack,I.Nr,I.fo,I.bare⟩
def Inv.after {Q:VK}{u:ai}(I:Inv X pins Z H s) (h:CE X.stack X.prog X.w H s Q u s'):EP X pins Z Q u s':=by
 obtain ⟨v,H',os,bare,un,fo,r,q⟩:=h;obtain ⟨hh,g,d,t,os'⟩:=s';obtain rfl:os'=s.os:=os;exact ⟨v,H',I.call (h':=hh) (g':=g) (d':=d) (t':=t) (ch:=[]) un fo bare (λb z=>absurd z (by simp)),r,q⟩
end
def cC (sp:Sp) (dvs:List V) (E:XK) (t:TA):TE:=λZ H Q=>t Z H λvs H1=>sp (vs++dvs) H1 Q E
def eZ (C:af) (m:bj) (sp:Sp) (dvs:List V) (E:XK) (ta:TE) (t:TA):TE:=λZ H Q=>ta Z H λx H1=>∃ a dx fs,x=.ref a/\H1 a=some (.ins C dx fs)/\fs.lookup m=none /\
 t Z H1 λvs H2=>sp (x::(vs++dvs)) H2 Q E
def Ik (C:af) (sp:Sp) (dvs:List V) (E:XK) (t:TA):TE:=λZ H Q=>t Z H λvs H1=>∀ x dx,H1 x=none->H1 dx=none->dx≠x ->
 sp (.ref x::(vs++dvs)) (upd (upd H1 dx (.own x)) x (.ins C dx [])) (λv H2=>v=.non/\Q (.ref x) H2) E
def Binds (K:aa) (fd:eK) (ps:List bj) (ds:List ai):Prop :=
 ∀ (s:ao) (us:List ai),K.In s.heap->(us++ds).length=ps.length->Hw s fd ⟨us,[]⟩ (ps.zip (us++ds))
def Binds.all {K:aa}{fd:eK}{ps:List bj}(h:∀ us:List ai,us.length=ps.length->An fd ⟨us,[]⟩=pure (ps.zip us)):Binds K fd ps []:=λs us _ hl=>by
 rw [tP] at hl ⊢;exact .of_eq (h us hl)
def oi (CX:Kp) (X:Cx) (E:XK):Prop:=∀ (pins:List (af×fT)) (Z:St) (H:Hp) (s:ao) (e:ai) (s':ao),Inv X pins Z H s->CX X.stack H s E e s'->X.xe e s'
section
variable {X:Cx}{CX:Kp}{k:Nat}{f C:af}{fd:eK}{ps:List bj}{sp:Sp}{dvs:List V}{ds:List ai}{E:XK}{x m:bj}{p pos apos:lg}{e o:Expr}{es:List Expr}{ta:TE}{t:TA}
def KN {pins:List (af×fT)}{Z:St}{H:Hp}{s:ao}{Q:VK}{us:List ai}{vs:List V}(F:k9 X.prog X.w X.K X.mg X.base CX k f fd ps sp) (hr:h8 k X.A) (hb:Binds X.K fd ps ds) (hd:Vals dvs ds) (hx:oi CX X E)
  (I:Inv X pins Z H s) (r:Vals vs us) (h:sp (vs++dvs) H Q E):aG (aM X.prog X.w) X.A (call (.ref f) us) (EP X pins Z Q) X.xe s:=by
 have r2:Vals (vs++dvs) (us++ds):=r.append hd
 have hl:(us++ds).length=ps.length:=by rw [← r2.length];exact F.len _ _ _ _ h
 refine OF (mK (F.run X.A X.stack s H ⟨us,[]⟩ (us++ds) (vs++dvs) Q E hr I.Zj (hb s us I.Al hl) r2 h) λr s' hq=>?_)
 cases r with
 | error e=>exact hx pins Z H s e s' I hq
 | ok fl =>
  cases fl with
  | ret u=>exact I.after hq
  | next=>exact h9 hq
  | brk=>exact h9 hq
  | cont=>exact h9 hq
def SQ (F:k9 X.prog X.w X.K X.mg X.base CX k f fd ps sp) (hr:h8 k X.A) (hg:Gl X x) (hm:X.mg x=some (.ref f)) (hk:eI X.K (.ref f)=true) (hb:Binds X.K fd ps ds) (hd:Vals dvs ds) (hx:oi CX X E)
  (ha:PA X (e::es) t) (hdb:(x == ("__debug__":bj))=false:=by decide) (he:bL (e::es) X.env=(false,fh e X.env)::bL es X.env:=by rfl) (hpl:(g9 pos (bL es X.env)).any (·.1)=false:=by rfl) :
  PE X (.Call (.Name x p) (e::es) [] pos) (cC sp dvs E t):=by
 intro pins s Z H Q I h;refine fj (FN I hg hm ?_ hdb);refine xv (h₀:=X.base) I.ok.mod.VC hk (ic (ha pos pins s Z H _ I h) λus s1 ⟨vs,H1,I1,r,q⟩=>⟨I1.Al,?_⟩) he hpl;exact KN F hr hb hd hx I1 r q
def SR {pl:Uq Bool}(he:PE X o ta) (c:Dm X.K C) (hm:SL X.K C m f) (F:k9 X.prog X.w X.K X.mg X.base CX k f fd ps sp) (hr:h8 k X.A) (hb:Binds X.K fd ps ds) (hd:Vals dvs ds) (hx:oi CX X E) (ha:PA X (e::es) t)
  (hst:bL (e::es) X.env=(false,fh e X.env)::bL es X.env:=by rfl) (hpl:(g9 pos (bL es X.env)).any (·.1)=false:=by rfl)
  (ht:fh (.Call (.Attribute o m apos) (e::es) [] pos) X.env=(do
   let ov ← fh o X.env
   sV apos.atName
   let (f,first) ← j9 [ov] (AG ov m pl)
   Xm pos f first (g9 pos (bL (e::es) X.env)) (Hx pos (sX [] X.env))):=by rfl) :
  PE X (.Call (.Attribute o m apos) (e::es) [] pos) (eZ C m sp dvs E ta t):=by
 intro pins s Z H Q I h;refine Kv (pl:=pl) (ic (he pins s Z H _ I h) λu s1 ⟨x,H1,I1,rx,a,dx,fs,ex,ea,l,q⟩=>?_) ht;subst ex;obtain rfl:u=aD a:=rx;refine A4 I1 ea c hm l ?_;refine xv (first:=[.ref a]) (h₀:=X.base) I.ok.mod.VC hm.kp (ic (ha pos pins s1 Z H1 _ I1 q) λus s2 ⟨vs,H2,I2,r,q2⟩=>⟨I2.Al,?_⟩) hst hpl;exact KN (us:=.ref a::us) (vs:=.ref a::vs) F hr hb hd hx I2 (.cons rfl r) q2
def Pu {pl:Uq Bool}(he:PE X o ta) (c:Dm X.K C) (hm:SL X.K C m f) (F:k9 X.prog X.w X.K X.mg X.base CX k f fd ps sp) (hr:h8 k X.A) (hb:Binds X.K fd ps ds) (hd:Vals dvs ds) (hx:oi CX X E)
  (ht:fh (.Call (.Attribute o m apos) [] [] pos) X.env=(do
   let ov ← fh o X.env
   sV apos.atName
   let (f,first) ← j9 [ov] (AG ov m pl)
   Xm pos f first (g9 pos (bL [] X.env)) (Hx pos (sX [] X.env))):=by rfl) :
  PE X (.Call (.Attribute o m apos) [] [] pos) (eZ C m sp dvs E ta aX):=by
 intro pins s Z H Q I h;refine Kv (pl:=pl) (ic (he pins s Z H _ I h) λu s1 ⟨x,H1,I1,rx,a,dx,fs,ex,ea,l,q⟩=>?_) ht;subst ex;obtain rfl:u=aD a:=rx;refine A4 I1 ea c hm l ?_;exact PySem.W.callWith_K0 (first:=[.ref a]) I1.Al hm.kp (KN (us:=[.ref a]) (vs:=[.ref a]) F hr hb hd hx I1 (.cons rfl .nil) q)
structure Mk (K:aa) (C f:af):Prop where
 makes:kA K C=true
 init:bD K (.ref C) "__init__"=some (some (.ref f))
 fn:qI K (.ref f)=true
 kp:eI K (.ref C)=true
def Pw {pins:List (af×fT)}{Z:St}{H:Hp}{s:ao}{Q:VK}{us:List ai}{vs:List V}(M:Mk X.K C f) (F:k9 X.prog X.w X.K X.mg X.base CX k f fd ps sp) (hr:h8 (k+1) X.A) (hb:Binds X.K fd ps ds) (hd:Vals dvs ds)
  (hx:oi CX X E) (I:Inv X pins Z H s) (r:Vals vs us)
  (h:∀ x dx,H x=none->H dx=none->dx≠x->sp (.ref x::(vs++dvs)) (upd (upd H dx (.own x)) x (.ins C dx [])) (λv H2=>v=.non/\Q (.ref x) H2) E) :
  aG (aM X.prog X.w) X.A (call (.ref C) us) (EP X pins Z Q) X.xe s:=by
 have hq:=h (s.heap.objs.size+1) s.heap.objs.size (I.fo.fresh (iL _)) (I.fo.fresh (av _)) (bg (km _));have I2:=Inv.made (C:=C) I;have r2:Vals (V.ref (s.heap.objs.size+1)::(vs++dvs)) (aD (s.heap.objs.size+1)::(us++ds)):=.cons rfl (r.append hd)
 have hl:(aD (s.heap.objs.size+1)::us++ds).length=ps.length:=by
  have e:=r2.length;rw [F.len _ _ _ _ hq] at e;exact e.symm
 refine OF (Pq (f:=f) I.Al M.makes M.init (beq_iff_eq.mp M.fn) (mK (F.run _ X.stack _ _ ⟨aD (s.heap.objs.size+1)::us,[]⟩ (aD (s.heap.objs.size+1)::(us++ds)) _ _ E (hr.make C us [])
  (I2.Zj.make C us []) (hb _ (aD (s.heap.objs.size+1)::us) I2.Al hl) r2 hq) λr s' hq'=>?_))
 cases r with
 | error e=>exact hx pins Z _ _ e s' I2 hq'
 | ok fl =>
  cases fl with
  | ret u =>
   obtain ⟨v,H',I3,rv,ev,q3⟩:=I2.after hq';subst ev
   exact ⟨rv,⟨V.ref (s.heap.objs.size+1),H',I3,rfl,q3⟩⟩
  | next=>exact h9 hq'
  | brk=>exact h9 hq'
  | cont=>exact h9 hq'
def FU (M:Mk X.K C f) (F:k9 X.prog X.w X.K X.mg X.base CX k f fd ps sp) (hr:h8 (k+1) X.A) (hg:Gl X x) (hm:X.mg x=some (.ref C)) (hb:Binds X.K fd ps ds) (hd:Vals dvs ds) (hx:oi CX X E)
  (ha:PA X (e::es) t) (hdb:(x == ("__debug__":bj))=false:=by decide) (he:bL (e::es) X.env=(false,fh e X.env)::bL es X.env:=by rfl) (hpl:(g9 pos (bL es X.env)).any (·.1)=false:=by rfl) :
  PE X (.Call (.Name x p) (e::es) [] pos) (Ik C sp dvs E t):=by
 intro pins s Z H Q I h;refine fj (FN I hg hm ?_ hdb);refine xv (h₀:=X.base) I.ok.mod.VC M.kp (ic (ha pos pins s Z H _ I h) λus s1 ⟨vs,H1,I1,r,q⟩=>⟨I1.Al,?_⟩) he hpl;exact Pw M F hr hb hd hx I1 r q
end
section
variable {X:Cx}{CX:Kp}{k:Nat}{f C:af}{fd:eK}{ps ks:List bj}{sp:Sp}{E:XK}{x m:bj}{p pos apos kpos:lg}{e o:Expr}{es:List Expr}{kws:List Ur}{te ta:TE}{t tk:TA}{nm:Option bj}
variable {g:List ai->List ai->List ai}{gV:List V->List V->List V}
end
structure bF (N P:List bj) (sc:jx):Prop where
 kind:sc.kind=.function
 co:sc.isCoroutine=false
 gen:sc.isGenerator=false
 nd:N.Nodup
 pre:N.take P.length=P
 par:∀ x∈P,sc.names.lookup x=some .local\/sc.names.lookup x=some .cell
 Xc:∀ y∈sc.names,y.2≠.free
theorem ES {kindOf:bj->Option jN}{x:bj}:∀ {binds:List (bj×ai)}{m:bj->Option ai},(∀ v,(x,v)∉binds)->Si kindOf binds m x=m x
 | [],_,_=>rfl
 | (n,v)::r,m,h=>by
  unfold Si;rw [ES λw hw=>h w (aj _ hw)]
  split
  ·have:x≠n:=by rintro rfl;exact h v aw
   simp [this]
  ·rfl
theorem ET {kindOf:bj->Option jN}{x:bj}:∀ {binds:List (bj×ai)}{m:bj->Option ai},(∀ v,(x,v)∉binds)->Sj kindOf binds m x=m x
 | [],_,_=>rfl
 | (n,v)::r,m,h=>by
  unfold Sj;rw [ET λw hw=>h w (aj _ hw)]
  split
  ·rfl
  ·have:x≠n:=by rintro rfl;exact h v aw
   simp [this]
theorem EU {kindOf:bj->Option jN}{x:bj}{v:ai}:∀ {P:List bj}{vs:List ai}{i:Nat}{m:bj->Option ai},P.Nodup->P[i]?=some x->vs[i]?=some v->kindOf x=some .local ->
  Si kindOf (P.zip vs) m x=some v
 | [],_,_,_,_,h,_,_=>by simp at h
 | _::_,[],_,_,_,_,h,_=>by simp at h
 | p::P,w::vs,0,m,nd,h1,h2,hk=>by
  simp at h1 h2;subst h1;subst h2
  show Si kindOf ((p,w)::P.zip vs) m p=_
  unfold Si;rw [ES λv hv=>(br.mp nd).1 (tQ hv).1,if_pos hk]
  simp
 | p::P,w::vs,i+1,m,nd,h1,h2,hk=>by
  show Si kindOf ((p,w)::P.zip vs) m x=_
  unfold Si;exact EU (i:=i) (br.mp nd).2 (by simpa using h1) (by simpa using h2) hk
theorem EV {kindOf:bj->Option jN}{x:bj}{v:ai}:∀ {P:List bj}{vs:List ai}{i:Nat}{m:bj->Option ai},P.Nodup->P[i]?=some x->vs[i]?=some v->kindOf x≠some .local ->
  Sj kindOf (P.zip vs) m x=some v
 | [],_,_,_,_,h,_,_=>by simp at h
 | _::_,[],_,_,_,_,h,_=>by simp at h
 | p::P,w::vs,0,m,nd,h1,h2,hk=>by
  simp at h1 h2;subst h1;subst h2
  show Sj kindOf ((p,w)::P.zip vs) m p=_
  unfold Sj;rw [ET λv hv=>(br.mp nd).1 (tQ hv).1,if_neg hk]
  simp
 | p::P,w::vs,i+1,m,nd,h1,h2,hk=>by
  show Sj kindOf ((p,w)::P.zip vs) m x=_
  unfold Sj;exact EV (i:=i) (br.mp nd).2 (by simpa using h1) (by simpa using h2) hk
def start (N:List bj) (vs:List V):St:=vs.map some++oC (N.length-vs.length) none
def FV (CX:Kp) (P:a6) (w:bO) (K:aa) (mg:bj->Option ai) (base:cf) (N:List bj) (qual:bj) (scope:jx) (f:af) (cd:ai) (A:bR) (outer:List EH) (s:ao) (H:Hp) (E:XK):Cx where
 prog:=P
 w:=w
 K:=K
 mg:=mg
 base:=base
 A:=A.deeper (tR qual scope s.heap.objs.size f cd)
 N:=N
 s₀:=s
 H₀:=H
 env:=tR qual scope s.heap.objs.size f cd
 outer:=outer
 stack:=tR qual scope s.heap.objs.size f cd::outer
 ex:=[]
 calm:=true
 fn:=λ_=>true
 pn:=[]
 xe:=λe s'=>aG (aM P w) (A.deeper (tR qual scope s.heap.objs.size f cd)) (leaving (tR qual scope s.heap.objs.size f cd) e) (λ_ s''=>CX outer H s E e s'') (λe' s''=>CX outer H s E e' s'') s'
def Il {sc:jx}{n:Nat}{x:bj}(h:sc.names.lookup x=some .cell):∃ c,(cellsFrom n sc.names []).lookup x=some c:=by
 have q:=Ki sc.names n [] (.inl h);exact Option.isSome_iff_exists.mp q
def NR {CX:Kp}{P:a6}{w:bO}{K:aa}{mg:bj->Option ai}{base:cf}{N ps:List bj}{qual:bj}{scope:jx}{f:af}{cd:ai}{A:bR}{outer:List EH}{s s1:ao}{H:Hp}{E:XK}{us:List ai}{vs:List V}
  (S:bF N ps scope) (hd:A.handled=none) (e0:Md P w K mg base A outer s H) (hl:vs.length=ps.length) (r:Vals vs us)
  (x:InCallC s s.heap.objs.size (Si (tR qual scope s.heap.objs.size f cd).kindOf (ps.zip us) λ_=>none) (cellsFrom (s.heap.objs.size+1) scope.names []) (Sj (tR qual scope s.heap.objs.size f cd).kindOf (ps.zip us) λ_=>none) s1) :
  Inv (FV CX P w K mg base N qual scope f cd A outer s H E) [] (start N vs) H s1:=by
 have hpl:ps.length<=N.length:=by have:=congrArg dt S.pre;rw [bK] at this;lia
 obtain ⟨h1,tk,rfl,hk⟩:=x.done;have noA:∀ b:af,b∉(FV CX P w K mg base N qual scope f cd A outer s H E).ex:=λb z=>absurd (show b∈([]:List af) from z) (by simp)
 refine ⟨⟨e0.mod,S.kind,rfl,rfl,av _,λy z c h1 h2=>?_,λy hy=>?_,λy c _ h=>?_,λ_=>hd,Around.frames_deeper e0.frames,.inr ⟨rfl,rfl⟩,λb z=>absurd z (noA b),e0.bs,e0.RQ,λb _ _=>noA b,λb z=>absurd z (noA b),e0.yF,e0.Vw⟩,
  rfl,e0.bare,Un.kept hk,⟨_,x.toInCall.ns,λi y v h1 h2 h3=>?_⟩,λy c h=>⟨_,x.cell y c h⟩,e0.fo.fresh (av _),λy c h=>?_,λp hp=>absurd (show p∈([]:List (af×fT)) from hp) (by simp),e0.fo.kept hk,?_⟩
 ·exact name_of_addr x.apart (kq h1) (kq h2)
 ·have hy:scope.names.lookup y=some .cell\/scope.names.lookup y=some .free:=hy
  rcases hy with hy|hy
  ·exact Il hy
  ·exact absurd rfl (S.Xc _ (kq hy))
 ·exact ki (x.above y c (kq h))
 ·have hi:i<vs.length:=by
   unfold start at h2
   by_cases hi:i<vs.length
   ·exact hi
   ·rw [dY (by simpa using hi)] at h2;rw [Mo] at h2
    split at h2<;>cases h2
  have ha:vs[i]?=some v:=by
   unfold start at h2;rw [fQ (by simpa using hi),aB] at h2
   cases e:vs[i]? with
   | none=>rw [e] at h2;cases h2
   | some a=>rw [e] at h2;cases h2;rfl
  obtain ⟨u,hu,rv⟩:=r.get ha
  have hp:ps[i]?=some y:=by
   rw [← S.pre,List.getElem?_take_of_lt (by lia)];exact h1
  have ndP:ps.Nodup:=by rw [← S.pre];exact S.nd.sublist (Us _ _)
  refine ⟨u,rv,?_⟩
  rcases S.par y (aR hp) with k|k
  ·exact .inl ⟨k,EU ndP hp hu k⟩
  ·obtain ⟨c,e⟩:=Il (n:=s.heap.objs.size+1) k;refine .inr ⟨.inl k,c,e,?_⟩;have q:=x.cell y c e;rw [EV ndP hp hu (by show scope.names.lookup y≠_;rw [k];decide)] at q;exact q
 ·exact e0.fo.fresh (ki (x.above y c (kq h)))
 ·unfold start
  show _=N.length
  rw [bz,ag,uM];lia
def UG {CX:Kp}{P:a6}{w:bO}{K:aa}{mg:bj->Option ai}{base:cf}{k:Nat}{f:af}{name qual:bj}{params:ma}{body:List dz}{scope:jx}{dV kV doc pm nE ct oc:ai}{an od:Option af}
  {osl:Array (Option ai)}{N ps:List bj}{sp:Sp}(lk:K.lookup f=some ⟨oc,od,.func (iu name qual params body scope dV kV doc pm an nE ct),osl⟩) (hcd:nM K nE qual=true) (S:bF N ps scope)
  (len:∀ vs H Q E,sp vs H Q E->vs.length=ps.length)
  (hbody:∀ (A:bR) (outer:List EH) (s:ao) (H:Hp) (vs:List V) (Q:VK) (E:XK),h8 k (A.deeper (tR qual scope s.heap.objs.size f nE))->sp vs H Q E ->
   ∃ t,Kt (FV CX P w K mg base N qual scope f nE A outer s H E) body t/\t { nx:=λ_ H'=>Q .non H',rt:=Q } (start N vs) H) :
  k9 P w K mg base CX (k+1) f (iu name qual params body scope dV kV doc pm an nE ct) ps sp:=by
 refine ⟨len,λA outer s H args us vs Q E hr e0 hb r hsp=>?_⟩;have hl:=len _ _ _ _ hsp;have KX:K.In s.heap:=e0.mod.VC.keeps λb o e=>(e0.bs b o e).1;have lim:s.heap.NoLimit:=e0.mod.nolimit.keeps λb o e=>(e0.bs b o e).1
 have hkind:∀ y∈ps.zip us,scope.names.lookup y.1=some .local\/(scope.names.lookup y.1=some .cell/\((cellsFrom (s.heap.objs.size+1) scope.names []).lookup y.1).isSome=true):=λ⟨n,v⟩ hy=>by
  rcases S.par n (tQ hy).1 with q|q
  ·exact .inl q
  ·exact .inr ⟨q,Ki _ _ _ (.inl q)⟩
 refine codeAny_call_function hr.depth (KX _ _ lk) rfl S.co S.gen rfl (PySem.W.codeRec_of KX hcd) (hb _ _ _ _ ?_);refine wpAny_newFunctionEnv_cells S.kind hkind λenv he s1 x=>?_;subst he;refine ⟨lim.keeps x.toInCall.keep,codeAny_func ?_⟩;obtain ⟨t,ht,hq⟩:=hbody A outer s H vs Q E (hr.deeper _) hsp;have I:Inv (FV CX P w K mg base N qual scope f nE A outer s H E) [] (start N vs) H s1:=NR S hr.hd e0 hl r x;refine dO (ht [] s1 (start N vs) H _ I hq) (λfl s' hs=>?_) λe s' hs=>hs
 have fin:∀ {σ':St}{H':Hp}{v:V}{u:ai},Inv (FV CX P w K mg base N qual scope f nE A outer s H E) [] σ' H' s'->RelV v u->Q v H'->CE outer P w H s Q u s' :=
  λ{σ' H' v u} J rv q=>⟨v,H',J.os,J.bare,J.base,J.fo,rv,q⟩
 cases fl with
 | ret u =>
  obtain ⟨v,σ',H',J,rv,q⟩:=hs
  exact fin J rv q
 | next =>
  obtain ⟨σ',H',J,q⟩:=hs
  exact fin (v:=V.non) (u:=eW) J rfl q
 | brk =>
  obtain ⟨_,_,_,q⟩:=hs
  exact h9 q
 | cont =>
  obtain ⟨_,_,_,q⟩:=hs;exact h9 q
end L2
namespace L2
section
variable {X:Cx}{x:bj}{p pos:lg}{e:Expr}{es:List Expr}{t:TA}{id T:String}{r:List V->Hp->VK->Prop}
def nI (r:List V->Hp->VK->Prop) (t:TA):TE:=λZ H Q=>t Z H λvs H1=>r vs H1 Q
def jm (hc:mD X (.builtin id) r) (hg:Gl X x) (hm:X.mg x=none) (hv:dI x=some (.builtin id)) (ha:PA X (e::es) t) (hn:x≠"__name__":=by decide) (hdb:(x == ("__debug__":bj))=false:=by decide)
  (he:bL (e::es) X.env=(false,fh e X.env)::bL es X.env:=by rfl) (hpl:(g9 pos (bL es X.env)).any (·.1)=false:=by rfl):PE X (.Call (.Name x p) (e::es) [] pos) (nI r t):=by
 intro pins s Z H Q I h;refine fj (oh I hg hm hv ?_ hn hdb);exact vw (ic (ha pos pins s Z H _ I h) λus s1 ⟨vs,H1,I1,r1,q1⟩=>hc pins s1 Z H1 vs us Q I1 r1 q1) he hpl
end
end L2
namespace HT
open PySem PyProof.Rows
def lexLt:List Int->List Int->Bool
 | [],[]=>false
 | [],_::_=>true
 | _::_,[]=>false
 | x::xs,y::ys=>if x=y then lexLt xs ys else decide (x<y)
def A7 (x y:Int) (xs ys:List Int):lexLt (x::xs) (y::ys)=if x=y then lexLt xs ys else decide (x<y):=rfl
def Dw:lexLt [] []=false:=rfl
def A8 (y:Int) (ys:List Int):lexLt [] (y::ys)=true:=rfl
def A9 (x:Int) (xs:List Int):lexLt (x::xs) []=false:=rfl
def Px (A:bR) (s:ao) (a:Int) (t:Uo) (c:Int) (u:Uo):∃ e,SeqAt.EqAt A s (.int a t) (.int c u) e/\(e=true↔a=c) :=
 ⟨(a == c),iR a t c u,by simp⟩
def Py (A:bR) (s:ao) (a:Int) (t:Uo) (c:Int) (u:Uo) (prog:a6) (w:bO) (E:ai->ao->Prop) (Q:ai->ao->Prop) (h:Q (.bool (decide (a<c))) s) :
  aG (aM prog w) A (richCompare .Lt (.int a t) (.int c u)) Q E s :=
 (Sg h:aG (aM prog w) A (df .Lt (.int a t) (.int c u)) Q E s)
section
open PySem.SeqAt
open PySem.AutoSeq1 (wpAny_loadPart')
open PySem.MeetsSeq PySem.MeetsSeq2 PySem.MeetsSeq3
def Dx (l b:af) (items items2:Array ai) (n n2:Nat) (dd dd2:Option af) (sl sl2:Array (Option ai)) (ns ms:List Int) (hi:fz items.toList ns) (hj:fz items2.toList ms) :
  Meets (gG.«tuple.__lt__» ⟨[.ref l,.ref b],[]⟩)
   (λ_ R s=>s.heap.get? l=some { cls:=.type "tuple",dict:=dd,data:=.seq items n,slots:=sl }/\s.heap.get? b=some { cls:=.type "tuple",dict:=dd2,data:=.seq items2 n2,slots:=sl2 } /\
    R (.ok (.ret (.bool (lexLt ns ms)))) s) :=
 .of_wp λprog w A R s h=>by
  obtain ⟨hp,g,d,tk,os⟩:=s;obtain ⟨hl,hb,h⟩:=h;have f2:=AutoSeq1.sub_tuple_tuple
  have z1:items.size=ns.length:=by rw [← hi.length];simp
  have z2:items2.size=ms.length:=by rw [← hj.length];simp
  wp_walk using wpAny_loadPart' hl,wpAny_loadPart' hb,wpAny_forIn_list _ (λrest b s'=>b.1=none/\s'=⟨hp,g,d,tk,os⟩/\∃ (vs ws:List ai) (ns' ms':List Int),rest=vs.zip ws /\
   fz vs ns'/\fz ws ms'/\ns'.length+items2.size=ms'.length+items.size/\R (.ok (.ret (.bool (lexLt ns' ms')))) ⟨hp,g,d,tk,os⟩) _
  case turn =>
   rintro ⟨y,x⟩ rest b s' ⟨hb',rfl,vs,ws,ns',ms',hz,hvi,hwi,hlen,hR⟩
   cases hvi with
   | nil=>rw [List.zip_nil_left] at hz;cases hz
   | cons a t hvi' =>
    cases hwi with
    | nil=>rw [List.zip_nil_right] at hz;cases hz
    | cons c u hwi' =>
     rw [jf] at hz
     injection hz with hyx hrest
     injection hyx with hy hx
     subst hy hx;rw [A7] at hR;simp only [bV] at hlen;obtain ⟨e,he,hiff⟩:=Px A.in1 ⟨hp,g,d,tk,os⟩ a t c u;refine ae (he prog w _ _ ?_)
     cases e with
     | true =>
      rw [if_pos (hiff.mp rfl)] at hR
      wp_walk
      exact ⟨rfl,rfl,_,_,_,_,hrest,hvi',hwi',by lia,hR⟩
     | false =>
      rw [if_neg (λq=>absurd (hiff.mpr q) bC)] at hR;have hri:=Py A.in1 ⟨hp,g,d,tk,os⟩ a t c u prog w
      wp_walk using hri
      exact ⟨_,rfl,by simpa using hR⟩
  case fin =>
   rintro ⟨b1,b2⟩ s' ⟨hb',rfl,vs,ws,ns',ms',hz,hvi,hwi,hlen,hR⟩;simp only at hb';subst hb'
   have hv:lexLt ns' ms'=decide (items.size<items2.size):=by
    cases hvi with
    | nil =>
     cases hwi with
     | nil =>
      simp only [nF] at hlen;rw [Dw]
      exact (decide_eq_false (by lia)).symm
     | cons c u hw =>
      simp only [nF,bV] at hlen;rw [A8]
      exact (decide_eq_true (by lia)).symm
    | cons a t hv =>
     cases hwi with
     | nil =>
      simp only [nF,bV] at hlen;rw [A9]
      exact (decide_eq_false (by lia)).symm
     | cons c u hw =>
      rw [jf] at hz;cases hz
   rw [hv] at hR
   wp_walk
   exact ⟨_,rfl,by simpa [Builtin.Tuple.tupleCompareSizes] using hR⟩
  case h =>
   exact ⟨rfl,rfl,items.toList,items2.toList,ns,ms,rfl,hi,hj,by lia,h⟩
end
section
variable {prog:a6}{w:bO}{A:bR}{E:ai->ao->Prop}{s:ao}
def KQ {l b:af}{items items2:Array ai}{ns ms:List Int}{Q:ai->ao->Prop}(hl:pK s.heap l items) (hb:pK s.heap b items2) (hi:fz items.toList ns) (hj:fz items2.toList ms)
  (hu:A.units<gZ) (h:Q (.bool (lexLt ns ms)) s):aG (aM prog w) A (df .Lt (.ref l) (.ref b)) Q E s:=by
 obtain ⟨⟨cls,dd,data,sl⟩,ho,hc,n,hd⟩:=id hl;obtain ⟨⟨cls2,dd2,data2,sl2⟩,ho2,hc2,n2,hd2⟩:=id hb;simp only at hc hd hc2 hd2;subst hc hd hc2 hd2
 exact richCompare_meets_room (op:=.Lt) ⟨_,ho,rfl⟩ ⟨_,ho2,rfl⟩ PySem.F.slot_tuple_lt PySem.F.entry_tuple_lt (PySem.F.args_tuple_lt_2 _ _) (Dx l b items items2 n n2 dd dd2 sl sl2 ns ms hi hj)
  ⟨ho,ho2,show sJ (lexLt ns ms)≠Value.notImplemented/\Q (.bool (lexLt ns ms)) s from ⟨(λx=>nomatch x),h⟩⟩ hu
def lB (n d:Nat):Option Int->Nat
 | none=>d
 | some v=>if v<0 then (v+(n:Int)).toNat else min v.toNat n
def Im (n d:Nat):lB n d none=d:=rfl
def SS (n d k:Nat):lB n d (some (k:Int))=min k n:=by
 show (if (k:Int)<0 then ((k:Int)+(n:Int)).toNat else min (k:Int).toNat n)=min k n
 rw [if_neg (by lia),gL]
def V8 (n d:Nat) (hd:d<=n) (o:Option Int):lB n d o<=n:=by
 cases o with
 | none=>exact hd
 | some v =>
  show (if v<0 then (v+(n:Int)).toNat else min v.toNat n)<=n
  by_cases hv:v<0
  ·rw [if_pos hv];lia
  ·rw [if_neg hv];exact Nat.min_le_right _ _
def MA (v:Int) (n d:Nat):(if v<0 then max (v+(n:Int)) 0 else min v (n:Int))=((lB n d (some v):Nat):Int):=by
 show (if v<0 then max (v+(n:Int)) 0 else min v (n:Int))=(((if v<0 then (v+(n:Int)).toNat else min v.toNat n):Nat):Int)
 by_cases hv:v<0
 ·simp only [if_pos hv];lia
 ·simp only [if_neg hv];lia
def KR (lo hi:Option Int) (n:Nat):mL lo hi 1 (n:Int)=(((lB n 0 lo:Nat):Int),((lB n n hi:Nat):Int)):=by
 have h1:¬ ((1:Int)<0):=by lia
 unfold mL;simp only [h1,if_false];refine oE ?_ ?_
 ·cases lo with
  | none=>rfl
  | some v=>exact MA v n 0
 ·cases hi with
  | none=>rfl
  | some v=>exact MA v n n
def KU (i j:Nat):jk (i:Int) (j:Int) 1=j-i:=by
 unfold jk
 have h1:(1:Int)>0:=by lia
 simp only [h1,if_true,Int.ediv_one]
 split<;>lia
def Ba {v:ai}{o:Option Int}{Q:Option Int->ao->Prop}(p:Kj v o) (h:Q o s):aG (aM prog w) A (Builtin.Slice.slicePartIndex v) Q E s:=by
 cases p with
 | none=>exact slicePart_none h
 | int i t=>exact slicePart_int h
def xS {sl:af}{vl vu:ai}{lo hi:Option Int}{n:Nat}{Q:Int×Int×Nat->ao->Prop}(hs:s.heap.IsSliceOf sl vl vu .none) (pl:Kj vl lo) (pu:Kj vu hi)
  (h:Q (((lB n 0 lo:Nat):Int),1,lB n n hi-lB n 0 lo) s):aG (aM prog w) A (yI (.ref sl) (pure (n:Int))) Q E s:=by
 obtain ⟨os,hos,hcs,hds⟩:=id hs;unfold yI Builtin.Slice.sliceFields;refine ae (ae (kD hos hds (x:=vl) rfl (ae (kD hos hds (x:=vu) rfl (ae (kD hos hds (x:=.none) rfl (ak ?_)))))));refine ae (slicePart_none ?_)
 show aG _ _ (if ((1:Int) == 0)=true then _ else _) _ _ s
 rw [if_neg (by decide)];refine ae (Ba pl (ae (Ba pu (ae (ak ?_)))))
 show aG _ _ (match mL lo hi 1 (n:Int) with|(lo,hi)=>pure (lo,(1:Int),jk lo hi 1)) _ _ s
 rw [KR lo hi n]
 show aG _ _ (pure (((lB n 0 lo:Nat):Int),(1:Int),jk ((lB n 0 lo:Nat):Int) ((lB n n hi:Nat):Int) 1)) _ _ s
 rw [KU];exact ak h
def PB (xs:Array ai) (i k:Nat):((dv k).filterMap λ(m:Nat)=>xs[((i:Int)+(m:Int)*1).toNat]?).toArray=((xs.toList.drop i).take k).toArray:=by
 have e:(λ(m:Nat)=>xs[((i:Int)+(m:Int)*1).toNat]?)=λm=>xs[i+m]?:=by
  funext m
  have:((i:Int)+(m:Int)*1).toNat=i+m:=by lia
  rw [this]
 rw [e];have:=pick_run xs i k;rw [List.filterMap_map] at this;have e2:((λx=>xs[x]?)∘λx=>i+x)=λm=>xs[i+m]?:=rfl;rw [e2] at this;rw [this]
def vE {t sl:af}{items:Array ai}{vl vu:ai}{lo hi:Option Int}{Q:ai->ao->Prop}(ht:pK s.heap t items) (hs:s.heap.IsSliceOf sl vl vu .none) (pl:Kj vl lo) (pu:Kj vu hi)
  (hw:¬ (lB items.size 0 lo=0/\lB items.size items.size hi=items.size))
  (h:Q (.ref s.heap.objs.size) { s with heap:=s.heap.push { cls:=.type "tuple",data:=.seq ((items.toList.drop (lB items.size 0 lo)).take (lB items.size items.size hi-lB items.size 0 lo)).toArray } })
  (hsz:items.size<=aV):aG (aM prog w) A (Nw (.ref t) (.ref sl)) Q E s:=by
 have htake:sizeOk (.seq ((items.toList.drop (lB items.size 0 lo)).take (lB items.size items.size hi-lB items.size 0 lo)).toArray):=by
  show ((items.toList.drop (lB items.size 0 lo)).take (lB items.size items.size hi-lB items.size 0 lo)).toArray.size<=aV
  rw [aO,bK,cQ,aL];lia
 have hj:lB items.size items.size hi<=items.size:=V8 _ _ (av _) hi;obtain ⟨os,hos,hcs,hds⟩:=id hs
 have hTs:s.TypeIs (.ref sl) "slice":=⟨os,hos,hcs⟩
 unfold Nw
 try with_reducible refine cA ?_
 first|refine ae (ak ?_)|skip
 refine ae (wpAny_sequenceKey ht.typeIs (by decide) ?_)
 refine ae (cW (name:=fE "__getitem__") ht.typeIs hV
  (cL hV ht.typeIs entry_tuple_getitem ?_ (args_tuple_getitem _ _)))
 show aG _ _ (Builtin.Tuple.tupleItemsOf (.ref t) >>= _) _ _ s
 refine ae (tupleItemsOf_ ht ?_);refine ae (Hy hTs ?_);rw [if_pos (by decide)];refine ae (xS hs pl pu ?_)
 have hno:¬ ((((lB items.size 0 lo:Nat):Int) == 0 && (1:Int) == 1 && (lB items.size items.size hi-lB items.size 0 lo) == items.size)=true):=by
  intro q;rw [hW,hW] at q;have q1:((lB items.size 0 lo:Nat):Int)=0:=eq_of_beq q.1.1;have q2:lB items.size items.size hi-lB items.size 0 lo=items.size:=eq_of_beq q.2;exact hw ⟨by lia,by lia⟩
 show aG _ _ (if (((lB items.size 0 lo:Nat):Int) == 0 && (1:Int) == 1 && (lB items.size items.size hi-lB items.size 0 lo) == items.size)=true then _ else _) _ _ s
 rw [if_neg hno,PB]
 first
  | exact ae (m:=jE _) (cD (ak ⟨_,rfl,ak h⟩) htake)
  | exact ae (m:=jE _) (cD (ae (ak (ak ⟨_,rfl,ak h⟩))) htake)
  | exact ae (ae (m:=jE _) (cD (ak (ak ⟨_,rfl,ak h⟩)) htake))
  | exact ae (ae (m:=jE _) (cD (ak ⟨_,rfl,ak h⟩) htake))
end
end HT
namespace L2
abbrev TO:=St->Hp->(Option Int->Hp->Prop)->Prop
def PO (X:Cx) (e:Option Expr) (t:TO):Prop :=
 ∀ (pins:List (af×fT)) (s:ao) (Z:St) (H:Hp) (Q:Option Int->Hp->Prop),Inv X pins Z H s->t Z H Q ->
  aG (aM X.prog X.w) X.A (evalPart e X.env) (λu s'=>∃ o H',Inv X pins Z H' s'/\Kj u o/\Q o H') X.xe s
def eT:TO:=λ_ H Q=>Q none H
def hU (t:TE):TO:=λZ H Q=>t Z H λx H1=>∃ i,x=.int i/\Q (some i) H1
def intsAre_of {ns:List Int}:∀ {us:List ai},Vals (ns.map V.int) us->fz us ns:=by
 induction ns with
 | nil=>intro us r;rw [AH] at r;cases r;exact .nil
 | cons n ns ih =>
  intro us r;rw [b0] at r
  cases r with
  | cons r1 r2 =>
   obtain ⟨t,e⟩:=r1;subst e;exact .cons n t (ih r2)
section
variable {X:Cx}{e:Expr}{te:TE}{lo hi:Option Expr}{tl th:TO}{pos p2:lg}
def vF:PO X none eT:=by
 intro pins s Z H Q I h;rw [evalPart_none];exact ak ⟨none,H,I,.none,h⟩
def vG (h:PE X e te):PO X (some e) (hU te):=by
 intro pins s Z H Q I hw;rw [evalPart_some];refine ic (h pins s Z H _ I hw) λu s1 ⟨x,H1,I1,r1,q1⟩=>?_;obtain ⟨i,rfl,q⟩:=q1;obtain ⟨t,rfl⟩:=r1;exact ⟨some i,H1,I1,.int i t,q⟩
def SlR (X:Cx) (r:V->Option Int->Option Int->Hp->VK->Prop):Prop :=
 ∀ (pins:List (af×fT)) (s:ao) (Z:St) (H:Hp) (x:V) (v vl vu:ai) (lo hi:Option Int) (sl:af) (Q:VK),Inv X pins Z H s->RelV x v->s.heap.IsSliceOf sl vl vu .none->Kj vl lo->Kj vu hi->r x lo hi H Q ->
  ∃ T id,typeLookup (.type T) "__getitem__"=pure (some (.builtin id))/\s.TypeIs v T/\aG (aM X.prog X.w) X.A (Nw v (.ref sl)) (EP X pins Z Q) X.xe s
def xU (r:V->Option Int->Option Int->Hp->VK->Prop) (te:TE) (tl th:TO):TE:=λZ H Q=>te Z H λx H1=>tl Z H1 λl H2=>th Z H2 λu H3=>r x l u H3 Q
def qS {r:V->Option Int->Option Int->Hp->VK->Prop}(hr:SlR X r) (he:PE X e te) (hl:PO X lo tl) (hu:PO X hi th):PE X (.Subscript e (.Slice lo hi none p2) pos) (xU r te tl th):=by
 intro pins s Z H Q I h;refine OG (ic (he pins s Z H _ I h) λv s1 ⟨x,H1,I1,r1,q1⟩=>?_);refine wpAny_Slice (ic (hl pins s1 Z H1 _ I1 q1) λvl s2 ⟨l,H2,I2,pl,q2⟩=>ic (hu pins s2 Z H2 _ I2 q2) λvu s3 ⟨u,H3,I3,pu,q3⟩=>?_);rw [evalPart_none];refine ak ?_;have I4:Inv X pins Z H3 { s3 with heap:=s3.heap.push { cls:=.type "slice",data:=.fields #[vl,vu,.none] } }:=I3.kept (t':=s3.toks) λb ob q=>ar _ q;obtain ⟨T,id,hT,ht,hg⟩:=hr pins { s3 with heap:=s3.heap.push { cls:=.type "slice",data:=.fields #[vl,vu,.none] } } Z H3 x v vl vu l u s3.heap.objs.size Q I4 r1 (Heap.IsSliceOf.new ..) pl pu q3
 show aG (aM X.prog X.w) X.A (subscriptTail e (.Slice lo hi none p2) v (.ref s3.heap.objs.size)) (EP X pins Z Q) X.xe { s3 with heap:=s3.heap.push { cls:=.type "slice",data:=.fields #[vl,vu,.none] } }
 exact tail_any (ops:=[.ref s3.heap.objs.size,v]) ht hT hg (by with_unfolding_all rfl)
def uQ (xs:List V) (lo hi:Option Int):List V:=(xs.drop (HT.lB xs.length 0 lo)).take (HT.lB xs.length xs.length hi-HT.lB xs.length 0 lo)
def yN (xs:List V) (lo hi:Option Int):(uQ xs lo hi).length<=xs.length:=by
 unfold uQ;rw [bK,cQ];lia
def zH (K:aa):V->Option Int->Option Int->Hp->VK->Prop:=λx lo hi H Q=>∃ a xs,x=.ref a/\jZ K H a xs /\
 ¬ (HT.lB xs.length 0 lo=0/\HT.lB xs.length xs.length hi=xs.length)/\∀ p,H p=none->Q (.ref p) (upd H p (.tup (uQ xs lo hi)))
def V9:SlR X (zH X.K):=by
 intro pins s Z H x v vl vu lo hi sl Q I rx hs pl pu h;obtain ⟨a,xs,rfl,hx,hw,q⟩:=h;cases rx;obtain ⟨its,r,ht,hz⟩:=I.tuple hx
 have hlen:its.toArray.size=xs.length:=by rw [aO];exact r.length.symm
 refine ⟨"tuple",_,hV.lookup,ht.typeIs,?_⟩;refine HT.vE ht hs pl pu (by rw [hlen];exact hw) ?_ (by rw [hlen];exact hz);rw [hlen];refine ⟨.ref s.heap.objs.size,_,I.laid (t':=s.toks) (o:=.tup (uQ xs lo hi)) (λb ob q=>ar _ q) (av _) ?_,rfl,q _ (I.fo.fresh (av _))⟩;exact ⟨bu (yN xs lo hi) hz,_,(r.drop (HT.lB xs.length 0 lo)).take (HT.lB xs.length xs.length hi-HT.lB xs.length 0 lo),IsTup.new _ _⟩
end
end L2
namespace L2
def OX (n:Nat) (i:Int):Option Nat:=if 0<=i then (if i<n then some i.toNat else none) else if -(n:Int)<=i then some (i+n).toNat else none
def NS {α:Type} (xs:List α) (i:Int):Option α:=(OX xs.length i).bind λj=>xs[j]?
def MB {n:Nat}{i:Int}{j:Nat}(h:OX n i=some j):seqIndex? i n=some j/\j<n/\-(n:Int)<=i/\i<n:=by
 unfold OX at h
 by_cases h0:0<=i
 ·rw [if_pos h0] at h
  by_cases h1:i<n
  ·rw [if_pos h1] at h;have e:i.toNat=j:=aY h;exact ⟨by rw [Xn h0 h1,e],by lia,by lia,h1⟩
  ·rw [if_neg h1] at h;cases h
 ·rw [if_neg h0] at h
  by_cases h1:-(n:Int)<=i
  ·rw [if_pos h1] at h;have e:(i+n).toNat=j:=aY h;exact ⟨by rw [seqIndex_neg (by lia) h1,e],by lia,h1,by lia⟩
  ·rw [if_neg h1] at h;cases h
def MC {α:Type} {xs:List α}{i:Int}{v:α}(h:NS xs i=some v):∃ j,seqIndex? i xs.length=some j/\xs[j]?=some v/\j<xs.length/\-(xs.length:Int)<=i/\i<xs.length:=by
 unfold NS at h
 cases e:OX xs.length i with
 | none=>rw [e] at h;cases h
 | some j =>
  rw [e] at h;obtain ⟨h1,h2,h3,h4⟩:=MB e;exact ⟨j,h1,h,h2,h3,h4⟩
def SU {α:Type} {xs:List α}{j:Nat}{v:α}(h:xs[j]?=some v):NS xs (j:Int)=some v:=by
 have hj:j<xs.length:=(aC.mp h).1
 have e:OX xs.length (j:Int)=some j:=by
  unfold OX;rw [if_pos (by lia),if_pos (by lia)];simp
 unfold NS;rw [e];exact h
def Io {α:Type} (xs:List α) (v:α):NS (xs++[v]) (-1)=some v:=by
 have hl:(xs++[v]).length=xs.length+1:=by simp
 have e:OX (xs++[v]).length (-1)=some xs.length:=by
  unfold OX;rw [hl,if_neg (by decide),if_pos (by lia)]
  congr 1
  lia
 unfold NS;rw [e]
 show (xs++[v])[xs.length]?=some v
 simp
def SV (b:Expr):Prop:=∀ o i,subscripted b false o i=operate [o,i] (Nw o i)
def Uj (X:Cx) (r:R2):Prop :=
 ∀ (value slice:Expr) (pins:List (af×fT)) (s:ao) (Z:St) (H:Hp) (x y:V) (v u:ai) (Q:VK),Inv X pins Z H s->RelV x v->RelV y u->r x y H Q ->
  subscripted slice false v u=operate [v,u] (Nw v u)->aG (aM X.prog X.w) X.A (subscriptTail value slice v u) (EP X pins Z Q) X.xe s
def MtR (X:Cx) (id:String) (r:V->List V->Hp->VK->Prop):Prop :=
 ∀ (pins:List (af×fT)) (s:ao) (Z:St) (H:Hp) (x:V) (xs:List V) (v:ai) (us:List ai) (Q:VK),Inv X pins Z H s->RelV x v->Vals xs us->r x xs H Q ->
  aG (aM X.prog X.w) X.A (call (.builtin id) (v::us)) (EP X pins Z Q) X.xe s
section
variable {X:Cx}{a b:Expr}{ta tb:TE}{pos:lg}
def Uj.or {r r':R2}(h:Uj X r) (h':Uj X r'):Uj X (λx y H Q=>r x y H Q\/r' x y H Q):=by
 intro value slice pins s Z H x y v u Q I rx ry q hs
 rcases q with q|q
 ·exact h value slice pins s Z H x y v u Q I rx ry q hs
 ·exact h' value slice pins s Z H x y v u Q I rx ry q hs
def Bb {r:R2}(hr:Uj X r) (ha:PE X a ta) (hb:PE X b tb) (hs:SV b):PE X (.Subscript a b pos) (cq r ta tb):=by
 intro pins s Z H Q I h;exact OG (V1 ha hb I h λv u s2 x y H2 I2 rx ry q=>hr a b pins s2 Z H2 x y v u Q I2 rx ry q (hs _ _))
def X7 (K:aa):R2:=λx y H Q=>∃ p xs i v,x=.ref p/\y=.int i/\c6 K H p xs/\NS xs i=some v/\Q v H
def X8 (K:aa):R2:=λx y H Q=>∃ p xs i v,x=.ref p/\y=.int i/\jZ K H p xs/\NS xs i=some v/\Q v H
def SW:Uj X (X7 X.K):=by
 intro value slice pins s Z H x y v u Q I rx ry h hs;obtain ⟨p,xs,i,z,rfl,rfl,hq,he,q⟩:=h;cases rx;obtain ⟨t,rfl⟩:=ry;obtain ⟨its,r,pl,hz⟩:=I.list hq;obtain ⟨j,h1,h2,h3,h4,h5⟩:=MC he;obtain ⟨w,ew,rw'⟩:=r.get h2;have hl:=r.length;have hn:=qR
 have fin:EP X pins Z Q w s:=⟨z,H,I,rw',q⟩
 by_cases h0:0<=i
 ·have hj:i.toNat=j:=by
   rw [Xn h0 h5] at h1;exact aY h1
  exact item_listR pl.isList h0 (by lia) (by rw [hj];simpa using ew) fin hs
 ·have hj:(i+(its.toArray.size:Int)).toNat=j:=by
   rw [seqIndex_neg (by lia) h4] at h1;rw [aO,← hl];exact aY h1
  exact xA (x:=w) pl.isList.typeIs slot_list_getitem.lookup
   (wpAny_getItem_list_neg (Q:=λr s'=>r=w/\EP X pins Z Q r s') pl.isList (by lia) (by rw [aO]<;>lia) (by lia) (by rw [hj];simpa using ew) ⟨rfl,fin⟩) hs
def Wa:Uj X (X8 X.K):=by
 intro value slice pins s Z H x y v u Q I rx ry h hs;obtain ⟨p,xs,i,z,rfl,rfl,hq,he,q⟩:=h;cases rx;obtain ⟨t,rfl⟩:=ry;obtain ⟨its,r,pl,hz⟩:=I.tuple hq;obtain ⟨j,h1,h2,h3,h4,h5⟩:=MC he;obtain ⟨w,ew,rw'⟩:=r.get h2;have hl:=r.length;have hn:=qR
 have fin:EP X pins Z Q w s:=⟨z,H,I,rw',q⟩
 exact xA (x:=w) pl.typeIs hV.lookup
  (getItem_tuple (j:=j) (Q:=λr s'=>r=w/\EP X pins Z Q r s') pl (by lia) (by lia) (by rw [aO,← hl];exact h1) (by simpa using ew) ⟨rfl,fin⟩) hs
def KW (its:List ai) (n j:Nat) (u:ai):bE (·.setIfInBounds j u) { cls:=.type "list",data:=.seq its.toArray n }={ cls:=.type "list",data:=.seq (its.set j u).toArray n }:=by
 simp [bE]
def Inv.lst {pins:List (af×fT)}{Z:St}{H:Hp}{s:ao}{p:af}{xs:List V}(I:Inv X pins Z H s) (h:H p=some (.lst xs)) :
  ∃ (its:List ai) (n:Nat),Vals xs its/\s.heap.get? p=some { cls:=.type "list",data:=.seq its.toArray n }/\xs.length<=aV:=by
 obtain ⟨z,its,n,r,e⟩:=I.fo p _ h;exact ⟨its,n,r,e,z⟩
def Inv.Xg {pins:List (af×fT)}{Z:St}{H:Hp}{s:ao}{p:af}{xs ys:List V}{its its':List ai}{n n':Nat}{f:fT->fT}(I:Inv X pins Z H s) (h:H p=some (.lst xs))
  (ho:s.heap.get? p=some { cls:=.type "list",data:=.seq its.toArray n }) (hf:f { cls:=.type "list",data:=.seq its.toArray n }={ cls:=.type "list",data:=.seq its'.toArray n' }) (r:Vals ys its') (hz:ys.length<=aV) (t:Nat) :
  Inv X pins Z (upd H p (.lst ys)) { s with heap:=s.heap.update p f,toks:=t }:=by
 have e:(s.heap.update p f).get? p=some { cls:=.type "list",data:=.seq its'.toArray n' }:=by
  rw [bT f ho (by rw [hf]<;>rfl),hf]
 refine I.write (x:=p) (e:=p) (by rw [h];trivial) (.inl rfl) (λb u hb q=>(bx _ _ (Ne.symm hb)).trans q) ⟨_,e⟩ ?_;exact ⟨hz,its',n',r,e⟩
def UH:V->V->V->Hp->(Hp->Prop)->Prop:=λo i v H Q=>∃ p xs k j,o=.ref p/\i=.int k/\H p=some (.lst xs)/\OX xs.length k=some j/\Q (upd H p (.lst (xs.set j v)))
def PD:Sz X UH:=by
 intro pins s Z H o i v ov iv u Q I ro ri rv h;obtain ⟨p,xs,k,j,rfl,rfl,hp,hj,q⟩:=h;cases ro;obtain ⟨t,rfl⟩:=ri;obtain ⟨its,n,r,ho,hz⟩:=I.lst hp;obtain ⟨h1,h2,h3,h4⟩:=MB hj;have hl:=r.length;have hn:=qR
 have I':Inv X pins Z (upd H p (.lst (xs.set j v))) { s with heap:=s.heap.update p (bE (·.setIfInBounds j u)) } :=
  I.Xg hp ho (KW its n j u) (r.set rv j) (by rw [Xo];exact hz) s.toks
 by_cases h0:0<=k
 ·have hk:k.toNat=j:=by
   rw [Xn h0 h4] at h1;exact aY h1
  exact PySem.W.ki_setAt ho h0 (by lia) (by rw [aO,← hl];exact h4) (by rw [hk];exact ⟨_,I',q⟩)
 ·have hk:(k+(its.toArray.size:Int)).toNat=j:=by
   rw [seqIndex_neg (by lia) h3] at h1;rw [aO,← hl];exact aY h1
  exact PySem.W.ki_setBack ho (by lia) (by rw [aO,← hl];exact h3) (by lia) (by rw [hk];exact ⟨_,I',q⟩)
def FW (lo hi:Option Int) (n:Nat):(oA lo hi none n).1=((HT.lB n 0 lo:Nat):Int)/\(oA lo hi none n).2.1=((HT.lB n n hi:Nat):Int)/\(oA lo hi none n).2.2=1:=by
 refine ⟨?_,?_,rfl⟩
 ·cases lo with
  | none=>simp [oA,HT.lB]
  | some i =>
   simp only [oA,HT.lB,Sk,show (1:Int)>0 by decide,if_true]
   by_cases h:i<0
   ·simp only [h,if_true]<;>lia
   ·simp only [h,if_false]<;>lia
 ·cases hi with
  | none=>simp [oA,HT.lB]
  | some i =>
   simp only [oA,HT.lB,Sk,show (1:Int)>0 by decide,if_true]
   by_cases h:i<0
   ·simp only [h,if_true]<;>lia
   ·simp only [h,if_false]<;>lia
def Dy (its:List ai) (lo hi:Option Int):slicePick its.toArray lo hi none=((its.drop (HT.lB its.length 0 lo)).take (HT.lB its.length its.length hi-HT.lB its.length 0 lo)).toArray:=by
 obtain ⟨h1,h2,h3⟩:=FW lo hi its.toArray.size;unfold slicePick;rw [h1,h2,h3];simp only [sliceRange_one,pick_run,aO]<;>rfl
def oM (K:aa):V->Option Int->Option Int->Hp->VK->Prop:=λx lo hi H Q=>∃ a xs,x=.ref a/\c6 K H a xs/\∀ p,H p=none->Q (.ref p) (upd H p (.lst (uQ xs lo hi)))
def vH:SlR X (oM X.K):=by
 intro pins s Z H x v vl vu lo hi sl Q I rx hs pl pu h;obtain ⟨a,xs,rfl,hx,q⟩:=h;cases rx;obtain ⟨its,r,ht,hz⟩:=I.list hx;have hlen:=r.length;refine ⟨"list",_,slot_list_getitem.lookup,ht.isList.typeIs,?_⟩;refine wpAny_getItem_list_slice ht.isList hs pl pu .none (by simp) ?_ (by rw [aO]<;>lia);rw [Dy,← hlen];refine ⟨.ref s.heap.objs.size,_,I.laid (t':=s.toks) (o:=.lst (uQ xs lo hi)) (λb ob q=>ar _ q) (av _) ?_,rfl,q _ (I.fo.fresh (av _))⟩;exact ⟨bu (yN xs lo hi) hz,_,0,(r.drop (HT.lB xs.length 0 lo)).take (HT.lB xs.length xs.length hi-HT.lB xs.length 0 lo),aI _ rfl⟩
def FX:mD X (.builtin "len") (λxs H Q=>∃ p ys,xs=[.ref p]/\(c6 X.K H p ys\/jZ X.K H p ys)/\Q (.int ys.length) H):=by
 intro pins s Z H xs us Q I r h;obtain ⟨p,ys,rfl,hq,q⟩:=h;obtain ⟨u,rfl,rx⟩:=vals1 r;cases rx;have hn:=qR
 rcases hq with hq|hq
 ·obtain ⟨its,r',pl,hz⟩:=I.list hq;have hlen:=r'.length;exact Calls.call_len_list pl.isList (by simp only [aO]<;>lia) ⟨.int ys.length,H,I.tok _,⟨s.toks+1,by rw [aO,hlen]⟩,q⟩
 ·obtain ⟨its,r',pl,hz⟩:=I.tuple hq;have hlen:=r'.length;exact len_tuple pl (by simp only [aO]<;>lia) ⟨.int ys.length,H,I.tok _,⟨s.toks+1,by rw [aO,hlen]⟩,q⟩
def mD.or {f:ai}{r r':List V->Hp->VK->Prop}(h:mD X f r) (h':mD X f r'):mD X f (λxs H Q=>r xs H Q\/r' xs H Q):=by
 intro pins s Z H xs us Q I rs q
 rcases q with q|q
 ·exact h pins s Z H xs us Q I rs q
 ·exact h' pins s Z H xs us Q I rs q
def tyV (K:aa) (T:String) (x:V) (H:Hp):Prop:=match x with
 | .str _=>T="str"
 | .int _=>T="int"
 | .ref p=>(T="list"/\∃ xs,c6 K H p xs)\/(T="tuple"/\∃ o,K.lookup p=some o/\o.cls=.type "tuple"/\o.dict=none) \/
   (T="dict"/\((∃ kvs,H p=some (.dK kvs))\/∃ kvs,H p=some (.dT kvs)))\/(T="set"/\∃ S n,H p=some (.set S n))
 | _=>False
def Wb {pins:List (af×fT)}{Z:St}{H:Hp}{s:ao}{T:String}{x:V}{v:ai}(I:Inv X pins Z H s) (r:RelV x v) (ty:tyV X.K T x H) :
  s.TypeIs v T/\∀ a,v=.ref a->∃ ob,s.heap.get? a=some ob/\ob.dict=none:=by
 cases x with
 | str z =>
  obtain ⟨t,rfl⟩:=r;cases (show T="str" from ty)
  exact ⟨typeIs_str s z t,λ_ e=>nomatch e⟩
 | int i =>
  obtain ⟨t,rfl⟩:=r;cases (show T="int" from ty)
  exact ⟨typeIs_int s i t,λ_ e=>nomatch e⟩
 | ref p =>
  cases r
  rcases ty with ⟨rfl,xs,hq⟩|⟨rfl,o,hk,hc,hd⟩|⟨rfl,hk⟩|⟨rfl,S,n,hk⟩
  ·obtain ⟨its,_,pl,_⟩:=I.list hq;refine ⟨pl.isList.typeIs,λa e=>?_⟩;cases e;obtain ⟨o,n,e,c,hd,_⟩:=pl;exact ⟨o,e,hd⟩
  ·refine ⟨⟨o,I.Al p o hk,hc⟩,λa e=>?_⟩;cases e;exact ⟨o,I.Al _ o hk,hd⟩
  ·have z:∃ o,s.heap.get? p=some o/\o.ExactDict:=by
    rcases hk with ⟨kvs,hk⟩|⟨kvs,hk⟩
    ·obtain ⟨_,_,_,_,o,_,_,e,ex,_⟩:=I.fo p _ hk;exact ⟨o,e,ex⟩
    ·obtain ⟨_,_,_,_,o,_,_,e,ex,_⟩:=I.fo p _ hk;exact ⟨o,e,ex⟩
   obtain ⟨o,e,ex⟩:=z;refine ⟨⟨o,e,ex.1⟩,λa e2=>?_⟩;cases e2;exact ⟨o,e,ex.2.1⟩
  ·obtain ⟨o,_,_,_,e,ex,_⟩:=I.fo p _ hk;refine ⟨⟨o,e,ex.1⟩,λa e2=>?_⟩;cases e2
   exact ⟨o,e,ex.2.1⟩
 | _=>exact h9 ty
def Dk (K:aa) (T:String) (r:V->List V->Hp->VK->Prop) (to:TE) (t:TA):TE:=λZ H Q=>to Z H λx H1=>tyV K T x H1/\t Z H1 λxs H2=>r x xs H2 Q
variable {o e:Expr}{es:List Expr}{to:TE}{t:TA}{name:bj}{apos cpos:lg}{T id:String}{r:V->List V->Hp->VK->Prop}
def m5 (pa:PlainAttrs T) (slot:Slot T name id) (hty:typeOf (.builtin id)=pure (.type "method_descriptor")) (hm:MtR X id r) (ho:PE X o to) (ha:PA X (e::es) t)
  (hbase:tO o name X.env (fh o X.env)=fh o X.env:=by rfl)
  (hfew:((g9 cpos (bL (e::es) X.env)).all (λx=>!x.1) && (Hx cpos (sX [] X.env)).all (λx=>x.1.isSome)
   && decide ((e::es).length+([]:List Ur).length+(if ([]:List Ur).isEmpty then 0 else 1)<30))=true:=by rfl)
  (hline:(apos.endLine == cpos.line)=true:=by rfl) (hs:bL (e::es) X.env=(false,fh e X.env)::bL es X.env:=by rfl) (hplain:(g9 cpos (bL es X.env)).any (·.1)=false:=by rfl) :
  PE X (.Call (.Attribute o name apos) (e::es) [] cpos) (Dk X.K T r to t):=by
 intro pins s Z H Q I h;refine wpAny_Call_method_late hbase hfew hline rfl (ic (ho pins s Z H _ I h) λv s1 ⟨x,H1,I1,r1,ty,q1⟩=>?_);obtain ⟨h1,h2⟩:=Wb I1 r1 ty;refine ⟨T,id,pa,slot,hty,h1,h2,?_⟩;have hA:=ha cpos pins s1 Z H1 _ I1 q1;rw [hs] at hA ⊢;refine Calls.callWith_builtin (by show (false || (g9 cpos (bL es X.env)).any (·.1))=false;rw [hplain]<;>rfl) (Calls.evalArgs_plain ?_);exact ic hA λus s2 ⟨vs,H2,I2,r2,q2⟩=>hm pins s2 Z H2 x vs v us Q I2 r1 r2 q2
end
end L2
namespace L2
def Sd (X:Cx) (id:String) (r:V->List V->Hp->VK->Prop):Prop :=
 ∀ (pins:List (af×fT)) (s:ao) (Z:St) (H:Hp) (x:V) (xs:List V) (v:ai) (us:List ai) (Q:VK),Inv X pins Z H s->RelV x v->Vals xs us->r x xs H Q ->
  aG (aM X.prog X.w) X.A (call (.builtin id) (v::us)) (EP X pins Z Q) X.xe s
theorem Vals.one:∀ {x:V}{us:List ai},Vals [x] us->∃ u,us=[u]/\RelV x u
 | _,_,.cons r .nil=>⟨_,rfl,r⟩
theorem Vals.eraseIdx:∀ {xs:List V}{us:List ai}(i:Nat),Vals xs us->Vals (xs.eraseIdx i) (us.eraseIdx i)
 | _,_,_,.nil=>.nil
 | _,_,0,.cons _ t=>t
 | _,_,i+1,.cons r t=>.cons r (Vals.eraseIdx i t)
section
variable {X:Cx}{pins:List (af×fT)}{Z:St}{H:Hp}{s:ao}{l b:af}{xs ys zs:List V}
def Inv.Zi {its its':List ai}{n:Nat}{f:Array ai->Array ai}{t':Nat}(I:Inv X pins Z H s) (hH:H l=some (.lst xs))
  (e:s.heap.get? l=some { cls:=.type "list",data:=.seq its.toArray n }) (hf:f its.toArray=its'.toArray) (hv:Vals ys its') (hz:ys.length<=aV) :
  Inv X pins Z (upd H l (.lst ys)) { s with heap:=s.heap.update l (bE f),toks:=t' }:=by
 have q:=PySem.IsL.update e f;rw [hf] at q;refine I.write (x:=l) (e:=l) (by rw [hH];exact trivial) (.inl rfl) (λb' u hb hu=>(bx s.heap (bE f) (Ne.symm hb)).trans hu) ⟨_,q⟩ ?_;exact ⟨hz,its',_,hv,q⟩
def Inv.Zq {its:List ai}{t':Nat}(I:Inv X pins Z H s) (hv:Vals ys its) (hz:ys.length<=aV) :
  Inv X pins Z (upd H s.heap.objs.size (.lst ys)) { s with heap:=s.heap.push { cls:=.type "list",data:=.seq its.toArray },toks:=t' } :=
 I.laid (λ_ _ q=>ar _ q) (av _) ⟨hz,its,0,hv,aI _ rfl⟩
def Inv.fresh (I:Inv X pins Z H s):H s.heap.objs.size=none:=I.fo.fresh (av _)
def Inv.Uk (I:Inv X pins Z H s) (hH:H l=some (.lst xs)):xs.length<=aV/\∃ (its:List ai) (n:Nat),Vals xs its/\xs.length=its.length/\s.heap.get? l=some { cls:=.type "list",data:=.seq its.toArray n }:=by
 obtain ⟨z,its,n,r,e⟩:=I.fo l _ hH;exact ⟨z,its,n,r,r.length,e⟩
end
section
variable {X:Cx}
def j6:V->List V->Hp->VK->Prop:=λx vs H Q=>∃ l xs y,x=.ref l/\vs=[y]/\H l=some (.lst xs)/\xs.length<aV/\Q .non (upd H l (.lst (xs++[y])))
def lC:Sd X "list.append" j6:=by
 intro pins s Z H x vs v us Q I rx rv h;obtain ⟨l,xs,y,rfl,rfl,hH,hz,q⟩:=h;cases rx;obtain ⟨u,rfl,ru⟩:=rv.one;obtain ⟨z,its,n,r,hl,e⟩:=I.Uk hH;refine OH F.slot_list_append ⟨_,e,rfl⟩ F.entry_list_append (F.args_list_append_2 _ _) (PySem.list_append l its.toArray n u (by rw [aO];lia)) ⟨e,?_⟩;refine ⟨.non,_,I.Zi (its':=its++[u]) hH e (by simp) (r.append (.cons ru .nil)) ?_,rfl,q⟩;rw [bz,OI];lia
def X9:R2:=λx y H Q=>∃ l b xs zs,x=.ref l/\y=.ref b/\H l=some (.lst xs)/\H b=some (.lst zs)/\xs.length+zs.length<=aV/\∀ p,H p=none->Q (.ref p) (upd H p (.lst (xs++zs)))
def Wc:pJ X (qH .Add) X9:=by
 intro pins s Z H x y v u Q I rx ry h;obtain ⟨l,b,xs,zs,rfl,rfl,hH,hB,hz,q⟩:=h;cases rx;cases ry;obtain ⟨z,its,n,r,hl,e⟩:=I.Uk hH;obtain ⟨z2,its2,n2,r2,hl2,e2⟩:=I.Uk hB;refine PySem.P.add_list e e2 ?_ (by rw [aO,aO];lia)
 have ea:its.toArray++its2.toArray=(its++its2).toArray:=by simp
 rw [ea];exact ⟨.ref _,_,I.Zq (t':=s.toks) (r.append r2) (by rw [bz];lia),rfl,q _ I.fresh⟩
end
section
variable {prog:a6}{w:bO}{A:bR}{E:ai->ao->Prop}{s:ao}
end
section
variable {X:Cx}
end
end L2
namespace L2
section
variable {κ:Type} [DecidableEq κ]
def kB (kvs:List (κ×V)) (k:κ):Option V:=(kvs.find? λkv=>decide (kv.1=k)).map (·.2)
def tG (kvs:List (κ×V)) (k:κ) (v:V):List (κ×V) :=
 if (kvs.any λkv=>decide (kv.1=k))=true then kvs.map (λkv=>if kv.1=k then (kv.1,v) else kv) else kvs++[(k,v)]
def nQ (kvs:List (κ×V)) (k:κ):List (κ×V):=kvs.filter λkv=>decide (kv.1≠k)
def qT {p:κ×V}{r:List (κ×V)}{k:κ}(e:p.1=k):kB (p::r) k=some p.2:=by simp [kB,kQ,e]
def oN {p:κ×V}{r:List (κ×V)}{k:κ}(e:¬ p.1=k):kB (p::r) k=kB r k:=by simp [kB,kQ,e]
theorem vI (k:κ):∀ kvs:List (κ×V),(kvs.any λkv=>decide (kv.1=k))=(kB kvs k).isSome
 | []=>rfl
 | p::r=>by
  rw [Kw]
  by_cases e:p.1=k
  ·simp only [qT e,decide_eq_true e,Bool.true_or,Option.isSome_some]
  ·rw [oN e,decide_eq_false e,Bool.false_or];exact vI k r
def yO (kvs:List (κ×V)) (k:κ) (v:V):(tG kvs k v).length<=kvs.length+1:=by
 unfold tG
 split
 ·rw [ag];lia
 ·rw [bz,bV,nF];lia
def Bc {kvs:List (κ×V)}{k:κ}(v:V) (h:kB kvs k=none):tG kvs k v=kvs++[(k,v)]:=by
 unfold tG;rw [vI,h];exact if_neg (by decide)
def sD.pE {o:Option V}{u:Option ai}(r:sD o u):o.isSome=u.isSome:=by
 cases o with
 | none=>cases u with
  | none=>rfl
  | some _=>exact (show False from r).elim
 | some _=>cases u with
  | none=>exact (show False from r).elim
  | some _=>rfl
def KV.val {kvs:List (κ×V)}{vs:List (κ×ai)}(r:KV kvs vs) (k:κ):sD (kB kvs k) (Hz vs k):=by
 unfold KV at r
 induction r with
 | nil=>exact iN
 | @cons p q ps qs h t ih =>
  obtain ⟨h1,h2⟩:=h
  by_cases e:p.1=k
  ·have e':q.1=k:=h1.symm.trans e
   have b:Hz (q::qs) k=some q.2:=by simp [Hz,kQ,e']
   rw [qT e,b];exact h2
  ·have e':¬ q.1=k:=λz=>e (h1.trans z)
   have b:Hz (q::qs) k=Hz qs k:=by simp [Hz,kQ,e']
   rw [oN e,b];exact ih
def KV.any {kvs:List (κ×V)}{vs:List (κ×ai)}(r:KV kvs vs) (k:κ):(kvs.any λkv=>decide (kv.1=k))=vs.any λkv=>decide (kv.1=k):=by
 unfold KV at r
 induction r with
 | nil=>rfl
 | cons h t ih=>rw [Kw,Kw,ih,h.1]
def KV.Xi {kvs:List (κ×V)}{vs:List (κ×ai)}(r:KV kvs vs) (k:κ) {y:V}{u:ai}(ry:RelV y u) :
  KV (kvs.map λkv=>if kv.1=k then (kv.1,y) else kv) (vs.map λkv=>if kv.1=k then (kv.1,u) else kv):=by
 unfold KV at r ⊢
 induction r with
 | nil=>exact .nil
 | @cons p q ps qs h t ih =>
  rw [b0,b0];refine .cons ?_ ih;obtain ⟨h1,h2⟩:=h
  by_cases e:p.1=k
  ·rw [if_pos e,if_pos (h1.symm.trans e)];exact ⟨h1,ry⟩
  ·rw [if_neg e,if_neg (λz=>e (h1.trans z))];exact ⟨h1,h2⟩
def KV.put {kvs:List (κ×V)}{vs:List (κ×ai)}(r:KV kvs vs) (k:κ) {y:V}{u:ai}(ry:RelV y u):KV (tG kvs k y) (stored vs k u):=by
 unfold tG stored;rw [r.any k]
 by_cases e:(vs.any λkv=>decide (kv.1=k))=true
 ·rw [if_pos e,if_pos e];exact r.Xi k ry
 ·rw [if_neg e,if_neg e];exact Paired.snoc r ⟨rfl,ry⟩
def KV.length {kvs:List (κ×V)}{vs:List (κ×ai)}(r:KV kvs vs):kvs.length=vs.length:=xt r
end
def Ip {P:a6}{w:bO}{k:iA}{u:ai}(r:RelV (kV k) u):(fu P w).is k u=true:=by
 cases k with
 | inl i=>obtain ⟨t,e⟩:=(show ∃ t,u=fw i t from r);subst e;exact HY P w i t
 | inr x=>obtain ⟨t,e⟩:=(show ∃ t,u=qF x t from r);subst e;exact HZ P w x t
theorem EW {P:a6}{w:bO}:∀ {ks:List iA}{us:List ai},Vals (ks.map kV) us->ItemsAre (fu P w) ks us
 | [],_,r=>by rw [AH] at r;cases r;exact .nil
 | k::ks,_,r=>by
  rw [b0] at r
  cases r with
  | cons h t=>exact .cons (Ip h) (EW t)
abbrev KT (H:Hp):List (List iA×V)->List (List iA×af×ai)->Prop:=Paired λp q=>p.1=q.1/\H q.2.1=some (.tup (p.1.map kV))/\RelV p.2 q.2.2
def KT.val {H:Hp}{kvs:List (List iA×V)}{xs:List (List iA×af×ai)}(r:KT H kvs xs) (k:List iA):sD (kB kvs k) ((HA xs k).map (·.2)):=by
 induction r with
 | nil=>exact iN
 | @cons p q ps qs h t ih =>
  obtain ⟨h1,_,h2⟩:=h
  by_cases e:p.1=k
  ·have e':q.1=k:=h1.symm.trans e
   have b:HA (q::qs) k=some q.2:=by simp [HA,kQ,e']
   rw [qT e,b];exact h2
  ·have e':¬ q.1=k:=λz=>e (h1.trans z)
   have b:HA (q::qs) k=HA qs k:=by simp [HA,kQ,e']
   rw [oN e,b];exact ih
def KT.Xi {H:Hp}{kvs:List (List iA×V)}{xs:List (List iA×af×ai)}(r:KT H kvs xs) (k:List iA) {y:V}{u:ai}(ry:RelV y u) :
  KT H (kvs.map λkv=>if kv.1=k then (kv.1,y) else kv) (xs.map (putAt k u)):=by
 induction r with
 | nil=>exact .nil
 | @cons p q ps qs h t ih =>
  rw [b0,b0];refine .cons ?_ ih;obtain ⟨h1,h2,h3⟩:=h;unfold putAt
  by_cases e:p.1=k
  ·rw [if_pos e,if_pos (h1.symm.trans e)];exact ⟨h1,h2,ry⟩
  ·rw [if_neg e,if_neg (λz=>e (h1.trans z))];exact ⟨h1,h2,h3⟩
def KT.put {H:Hp}{kvs:List (List iA×V)}{xs:List (List iA×af×ai)}(r:KT H kvs xs) (k:List iA) {b:af}{y:V}{u:ai}(hb:H b=some (.tup (k.map kV))) (ry:RelV y u) :
  KT H (tG kvs k y) (storedH xs k b u):=by
 have e:(kvs.any λkv=>decide (kv.1=k))=(HA xs k).isSome:=by
  rw [vI,(r.val k).pE,zG]
 unfold tG storedH;rw [e]
 by_cases q:(HA xs k).isSome=true
 ·rw [if_pos q,if_pos q];exact r.Xi k ry
 ·rw [if_neg q,if_neg q];exact Paired.snoc r ⟨rfl,hb,ry⟩
def KT.keeps {H H':Hp}{kvs:List (List iA×V)}{xs:List (List iA×af×ai)}(r:KT H kvs xs) (ht:∀ b ys,H b=some (.tup ys)->H' b=some (.tup ys)):KT H' kvs xs :=
 Paired.Oz r λ_ _ z=>⟨z.1,ht _ _ z.2.1,z.2.2⟩
section
variable {P:a6}{w:bO}{H:Hp}{h:cf}{a:af}
def UI {u:HO}(ok:qD P w H h) (e:Rd H a u):fg P w H h a u:=e.ok ok
def EX {kvs:List (iA×V)}(ok:qD P w H h) (e:Rd H a (.dK kvs)):kvs.length<=aV/\(a == i8)=false/\∃ vs,KV kvs vs/\h.DictOf (fu P w) a vs :=
 show fg P w H h a (.dK kvs) from UI ok e
def UJ {kvs:List (iA×V)}(ok:qD P w H h) (e:H a=some (.dK kvs)):kvs.length<=aV/\(a == i8)=false/\∃ vs,KV kvs vs/\h.DictOf (fu P w) a vs:=EX ok (.inl e)
def qU {ks:List iA}(ok:qD P w H h) (e:H a=some (.tup (ks.map kV))):(kP (fu P w)).is h ks a:=by
 obtain ⟨_,its,r,o,h1,h2,n,h3⟩:=(show fg P w H h a (.tup (ks.map kV)) from ok a _ e)
 exact ⟨o,its.toArray,n,h1,h2,h3,by simpa using EW r⟩
def EY {kvs:List (List iA×V)}(ok:qD P w H h) (e:Rd H a (.dT kvs)):kvs.length<=aV/\(a == i8)=false /\
  ∃ xs,KT H kvs xs/\h.DictOfH (kP (fu P w)) a xs:=by
 obtain ⟨z,y,xs,r,o,es,ep,h1,h2,h3,h4,h5⟩:=(show fg P w H h a (.dT kvs) from UI ok e)
 refine ⟨z,y,xs,r,o,es,ep,h1,h2,h3,h4,λx hx=>?_,h5⟩
 have all:∀ {l:List (List iA×V)}{m:List (List iA×af×ai)},KT H l m->∀ x∈m,(kP (fu P w)).is h x.1 x.2.1:=by
  intro l m q
  induction q with
  | nil=>intro x hx;exact nomatch hx
  | @cons p q ps qs hq t ih =>
   intro x hx
   rcases au.mp hx with e|hx
   ·subst e;exact qU ok (by rw [← hq.1];exact hq.2.1)
   ·exact ih x hx
 exact all r x hx
def Ya {kvs:List (List iA×V)}(ok:qD P w H h) (e:H a=some (.dT kvs)):kvs.length<=aV/\(a == i8)=false /\
  ∃ xs,KT H kvs xs/\h.DictOfH (kP (fu P w)) a xs:=EY ok (.inl e)
end
def Aj (H:Hp) (a:af) (y:V) (r:Option V):Prop :=
 (∃ kvs k,Rd H a (.dK kvs)/\y=kV k/\r=kB kvs k)\/∃ kvs k b,Rd H a (.dT kvs)/\y=.ref b/\H b=some (.tup (k.map kV))/\r=kB kvs k
def Ai (H:Hp) (a:af) (y v:V) (H':Hp):Prop :=
 (∃ kvs k,H a=some (.dK kvs)/\y=kV k/\kvs.length<aV/\H'=upd H a (.dK (tG kvs k v))) \/
 ∃ kvs k b,H a=some (.dT kvs)/\y=.ref b/\H b=some (.tup (k.map kV))/\kvs.length<aV/\H'=upd H a (.dT (tG kvs k v))
def Aj.t {H:Hp}{a b:af}{kvs:List (List iA×V)}{k:List iA}(e:H a=some (.dT kvs)) (eb:H b=some (.tup (k.map kV))):Aj H a (.ref b) (kB kvs k):=.inr ⟨kvs,k,b,.inl e,rfl,eb,rfl⟩
def Ai.t {H:Hp}{a b:af}{kvs:List (List iA×V)}{k:List iA}{v:V}(e:H a=some (.dT kvs)) (eb:H b=some (.tup (k.map kV))) (hl:kvs.length<aV) :
  Ai H a (.ref b) v (upd H a (.dT (tG kvs k v))):=.inr ⟨kvs,k,b,e,rfl,eb,hl,rfl⟩
section
variable {X:Cx}{pins:List (af×fT)}{Z:St}{H:Hp}{s:ao}{a:af}{y v:V}{u r:ai}{o:Option V}{A:bR}{E:ai->ao->Prop}
def Inv.big (I:Inv X pins Z H s):i8<s.heap.objs.size:=by
 have h:bU<s.heap.objs.size:=(I.mod.glob.keeps I.bk).lt;exact OJ (by decide) h
def EZ {Q:ai->ao->Prop}(hu:A.units+1<gZ) (I:Inv X pins Z H s) (g:Aj H a y (some v)) (ry:RelV y u) (h:∀ w' s',Inv X pins Z H s'->RelV v w'->Q w' s') :
  aG (aM X.prog X.w) A (Nw (.ref a) u) Q E s:=by
 rcases g with ⟨kvs,k,e,ey,l⟩|⟨kvs,k,b,e,ey,eb,l⟩
 ·subst ey;obtain ⟨z,hd,vs,rel,dd⟩:=EX I.fo e;obtain ⟨w',hw,rw'⟩:=sD.some_of (v:=v) (o:=Hz vs k) (by rw [l];exact rel.val k);exact wpAny_getItem_of (Ip ry) dd.mapOf hw (h w' _ (I.tok _) rw')
 ·subst ey;cases (show u=aD b from ry);obtain ⟨z,hd,xs,rel,dd⟩:=EY I.fo e;obtain ⟨w',hw,rw'⟩:=sD.some_of (v:=v) (o:=(HA xs k).map (·.2)) (by rw [l];exact rel.val k);obtain ⟨p,hp,hp2⟩:=bw.mp hw;refine wpAny_getItem_heap (jF hu) (qU I.fo eb) dd hp ?_;rw [hp2];exact h w' _ (I.tok _) rw'
def d_in {Q:ai->ao->Prop}(hu:A.units+1<gZ) (I:Inv X pins Z H s) (g:Aj H a y o) (ry:RelV y u) (h:∀ s',Inv X pins Z H s'->Q (.bool o.isSome) s') :
  aG (aM X.prog X.w) A (df .In u (.ref a)) Q E s:=by
 rcases g with ⟨kvs,k,e,ey,l⟩|⟨kvs,k,b,e,ey,eb,l⟩
 ·subst ey;obtain ⟨z,hd,vs,rel,dd⟩:=EX I.fo e;refine wpAny_in_of (Ip ry) hd dd.mapOf ?_;rw [← (rel.val k).pE,← l];exact h _ (I.tok _)
 ·subst ey;cases (show u=aD b from ry);obtain ⟨z,hd,xs,rel,dd⟩:=EY I.fo e;refine wpAny_in_heap (jF hu) (qU I.fo eb) hd dd ?_;have q:=(rel.val k).pE;rw [zG] at q;rw [← q,← l];exact h _ (I.tok _)
def SX {Q:ai->ao->Prop}(hu:A.units+1<gZ) (I:Inv X pins Z H s) (g:Aj H a y o) (ry:RelV y u) (h:∀ s',Inv X pins Z H s'->Q (.bool (!o.isSome)) s') :
  aG (aM X.prog X.w) A (df .NotIn u (.ref a)) Q E s:=by
 rcases g with ⟨kvs,k,e,ey,l⟩|⟨kvs,k,b,e,ey,eb,l⟩
 ·subst ey;obtain ⟨z,hd,vs,rel,dd⟩:=EX I.fo e;refine wpAny_notIn_of (Ip ry) hd dd.mapOf ?_;rw [← (rel.val k).pE,← l];exact h _ (I.tok _)
 ·subst ey;cases (show u=aD b from ry);obtain ⟨z,hd,xs,rel,dd⟩:=EY I.fo e;refine wpAny_notIn_heap (jF hu) (qU I.fo eb) hd dd ?_;have q:=(rel.val k).pE;rw [zG] at q;rw [← q,← l];exact h _ (I.tok _)
def FY {h':cf}{t':Nat}{ob:HO}(I:Inv X pins Z H s) (mu:X1 (H a)) (hs:gY a s.heap h') (he:∃ q,h'.get? a=some q) (new:fg X.prog X.w (upd H a ob) h' a ob) :
  Inv X pins Z (upd H a ob) { s with heap:=h',toks:=t' } :=
 I.write (x:=a) (e:=a) mu (.inl rfl) (λb q hb z=>(hs.2 b hb).trans z) he new
def We {P:a6}{w:bO}{H':Hp}{h':cf}{kvs:List (iA×V)}{vs:List (iA×ai)}(z:kvs.length<=aV) (hd:(a == i8)=false) (rel:KV kvs vs) (dd:h'.DictOf (fu P w) a vs) :
  fg P w H' h' a (.dK kvs):=⟨z,hd,vs,rel,dd⟩
def E1 {H':Hp}{Q:Unit->ao->Prop}(hu:A.units+1<gZ) (I:Inv X pins Z H s) (g:Ai H a y v H') (ry:RelV y u) (rv:RelV v r) (h:∀ s',Inv X pins Z H' s'->Q () s') :
  aG (aM X.prog X.w) A (setItem (.ref a) u r) Q E s:=by
 rcases g with ⟨kvs,k,e,ey,l,eH⟩|⟨kvs,k,b,e,ey,eb,l,eH⟩
 ·subst ey eH;obtain ⟨z,hd,vs,rel,dd⟩:=UJ I.fo e
  have hz:vs.length<=aV:=by rw [← rel.length];exact z
  have hl:(tG kvs k v).length<=aV:=by have:=yO kvs k v;lia
  refine wpAny_setItem_pairs (hsz:=hz) (Ip ry) dd λh' dd' hs=>h _ ?_
  have he:∃ q,h'.get? a=some q:=let ⟨q,_,_,hq,_⟩:=dd';⟨q,hq⟩
  exact FY I (by rw [e];exact iN) hs he (We hl hd (rel.put k rv) dd')
 ·subst ey eH;cases (show u=aD b from ry);obtain ⟨z,hd,xs,rel,dd⟩:=Ya I.fo e
  have hz:xs.length<=aV:=by rw [← xt rel];exact z
  have hl:(tG kvs k v).length<=aV:=by have:=yO kvs k v;lia
  refine wpAny_setItem_heap (hsz:=hz) (jF hu) (qU I.fo eb) dd λh' dd' hs=>h _ ?_;obtain ⟨q,es,ep,hq,h2,h3,h4,_,h5⟩:=dd';refine FY I (by rw [e];exact iN) hs ⟨q,hq⟩ ⟨hl,hd,_,(rel.put k eb rv).keeps λc ys ec=>?_,q,es,ep,hq,h2,h3,h4,h5⟩;rw [aH (fX ec e (λz=>nomatch z))];exact ec
end
section
variable {X:Cx}{pins:List (af×fT)}{Z:St}{H:Hp}{s:ao}{a:af}{kvs:List (iA×V)}{k:iA}{u:ai}{A:bR}{E:ai->ao->Prop}
def Yb {Q:ai->ao->Prop}(I:Inv X pins Z H s) (e:Rd H a (.dK kvs)) (h:∀ t s',Inv X pins Z H s'->Q (.int kvs.length t) s'):aG (aM X.prog X.w) A (call (.builtin "len") [.ref a]) Q E s:=by
 obtain ⟨z,hd,vs,rel,dd⟩:=EX I.fo e;refine call_len_dict hd dd (by rw [← rel.length];rw [oz] at z;lia) ?_;rw [← rel.length];exact h _ _ (I.tok _)
end
def Iq {X:Cx}{pins:List (af×fT)}{Z:St}{H:Hp}{s:ao}{a:af}{y:V}{o:Option V}(I:Inv X pins Z H s) (g:Aj H a y o):s.TypeIs (.ref a) "dict":=by
 rcases g with ⟨kvs,k,e,_,_⟩|⟨kvs,k,b,e,_,_,_⟩
 ·obtain ⟨_,_,vs,_,dd⟩:=EX I.fo e;exact dd.typeIs
 ·obtain ⟨_,_,xs,_,dd⟩:=EY I.fo e;exact dd.typeIs
def UK (td ty tv:TE) (rd:V->V->Hp->VK->Prop):TS:=λD Z H=>td Z H λx H1=>ty Z H1 λy H2=>∃ a v,x=.ref a/\Aj H2 a y (some v) /\
 tv Z H2 λy2 H3=>rd v y2 H3 λz H4=>∃ H5,Ai H4 a y z H5/\D.nx Z H5
section
variable {X:Cx}{o i e value:Expr}{pos pos' tpos:lg}{td ty tv:TE}
def SY {op:Am}{rd:V->V->Hp->VK->Prop}(hu:X.A.units+1<gZ) (ho:PE X o td) (hi:PE X i ty) (hv:PE X value tv) (hop:V5 X op rd)
  (ha:∀ ov iv new,augStore i ov iv new=(do j9 [new,ov,iv] (setItem ov iv new);release [new,ov,iv] [];pure .next)):PS X (.AugAssign (.Subscript o i tpos) op value pos) (UK td ty tv rd):=by
 intro pins s Z H D I h;refine wpAny_AugAssign_SubscriptAny (ic (ho pins s Z H _ I h) λu s1 ⟨x,H1,I1,rx,q1⟩=>ic (hi pins s1 Z H1 _ I1 q1) λiv s2 ⟨y,H2,I2,ry,a,v,ex,g,q2⟩=>?_) ha;subst ex;obtain rfl:u=aD a:=rx;refine EZ hu I2 g ry λw' s3 I3 rw'=>ic (hv pins s3 Z H2 _ I3 q2) λw2 s4 ⟨y2,H3,I4,ry2,q3⟩=>ic (hop pins s4 Z H3 v y2 w' w2 _ I4 rw' ry2 q3) λw3 s5 ⟨z,H4,I5,rz,H5,g5,q4⟩=>?_
 exact E1 hu I5 g5 ry rz λs6 I6=>⟨Z,H5,I6,q4⟩
end
def PF {P:a6}{w:bO}{H:Hp}(h:cf) (hb:i8<h.objs.size):fg P w H (h.push { cls:=.type "dict",data:=.dict #[] }) h.objs.size (.dT []) :=
 ⟨aK _,beq_eq_false_iff_ne.mpr (Ne.symm (bg hb)),[],.nil,_,#[],0,aI _ rfl,⟨rfl,rfl,rfl⟩,rfl,rfl,oF⟩
def uR:TE:=λ_ H Q=>∀ p,H p=none->Q (.ref p) (upd H p (.dT []))
section
variable {X:Cx}{pos:lg}
def PH:PE X (.Dict [] [] pos) uR:=λpins s Z H Q I h =>
 wpAny_Dict_empty ⟨.ref s.heap.objs.size,_,I.laid (a:=s.heap.objs.size) (o:=.dT []) (t':=s.toks) (λ_ _ q=>ar _ q) (av _) (PF s.heap I.big),rfl,h _ (I.fo.fresh (av _))⟩
end
section
variable {X:Cx}{pins:List (af×fT)}{Z:St}{H:Hp}{s:ao}{a:af}{y d:V}{u r:ai}{o:Option V}{A:bR}{E:ai->ao->Prop}
end
section
variable {X:Cx}{o e f:Expr}{apos cpos:lg}{td ty tx:TE}
end
section
variable {X:Cx}{pins:List (af×fT)}{Z:St}{H:Hp}{s:ao}{a:af}{kvs:List (iA×V)}{A:bR}{E:ai->ao->Prop}
end
section
variable {X:Cx}{pins:List (af×fT)}{Z:St}{H:Hp}{s:ao}{a:af}{y:V}{u:ai}{A:bR}{E:ai->ao->Prop}
end
end L2
namespace Att
open PySem PySem.W PySem.Calls PyProof.Rows
def zI {P:Params}{h:cf}:∀ (ns:List Int) (vs:List ai),WellAll P h vs (ns.map WData.int)->fz vs ns:=by
 intro ns
 induction ns with
 | nil =>
  intro vs w;rw [AH] at w;cases w
  exact .nil
 | cons n ns ih =>
  intro vs w;rw [b0] at w
  cases w with
  | cons a b =>
   cases a;exact .cons _ _ (ih _ b)
def NT {l:qx}{n:Nat}(hn:l.most=some n) {P:Params}{h:cf}{args:List WData}{vals:List ai}
  (hpre:l.row.toRowW.claim.pre args=true) (hwl:WellAll P h vals args) :
  ∃ a vs ns,vals=[aD a]/\args=[WData.list (ns.map WData.int)]/\h.get? a=some { cls:=.type "list",data:=.seq vs.toArray }/\fz vs ns/\ns.length<=n:=by
 have hsh:WShape.hasAll [] args [.list .int]=true:=(pre_splitW hpre).1;have hc:l.pre.holds [] { args:=args }=true:=(pre_splitW hpre).2;obtain ⟨d,r,rfl,h1,h2⟩:=hasAllW_cons hsh;obtain rfl:=hasAllW_nil h2;obtain ⟨xs,rfl,h3⟩:=hasW_list h1;obtain ⟨ns,rfl⟩:=items_int h3
 have hlen:ns.length<=n:=by
  unfold OpenLaw.pre at hc
  have h4:(WTm.not (.lt (.lit (.int (n:Int))) (.len (.arg 0)))).holds [] { args:=[.list (ns.map .int)] }=true:=by
   have h4:=(holds_andW hc).1;rw [hn] at h4;exact h4
  have h5:=condW_of h4 (w_not (w_lt w_lit (w_len_list (w_arg rfl))));rw [ag] at h5;refine mM λq=>?_
  have q':(n:Int)<((ns.length:Nat):Int):=by lia
  first
   | (rw [decide_eq_true q'] at h5;exact absurd h5 (by decide))
   | (simp at h5;lia)
 cases hwl with
 | cons w1 w2 =>
  cases w2
  cases w1 with
  | list ho hall=>exact ⟨_,_,ns,rfl,rfl,ho,zI ns _ hall,hlen⟩
def NU (l:qx) (args:List WData):l.row.toRowW.claim.post args (.bool true) args=true :=
 postW_of (r:=l.row.toRowW) (X:=(true == true))
  (show WShape.has [] (.bool true) .bool=true by first|rfl|decide|simp [WShape.has,WShape.arms,WShape.armsAll])
  (show (WTm.eq .res (.lit (.bool true))).value [] { args:=args,res:=some (.bool true),after:=args }=some (.bool (true == true)) from w_eq_bool (w_res rfl) w_lit) rfl
def Ir {l:qx}{n:Nat}{q:a6}{loose:List bj}{XP:(bj->Option ai)->cf->Prop}{YP:bO->cf->Prop}{d:DefRec}
  (hn:l.most=some n) (hdf:d.params.defaults=[])
  (call:∀ (w:bO) (s₀ s₁:ao) (mg mb:bj->Option ai) (fa:af) (o:fT) (pm cd doc:ai) (a:af) (vs:List ai) (ns:List Int),
   Ground q loose [] XP w s₀ mg mb s₁.heap->YP w s₁.heap ->
   s₁.heap.get? fa=some o->o.data=.func (docDef d.name d.params d.body d.scope pm cd doc)->s₁.heap.CodeRec cd d.name->mg d.name=some (.ref fa) ->
   s₁.heap.get? a=some { cls:=.type "list",data:=.seq vs.toArray }->fz vs ns->ns.length<=n->s₁.gens=#[] ->
   ka (aM l.prog w) HB (.call (.ref fa) ⟨[.ref a],[]⟩) (λr s'=>r=.ok (.ret (.bool true))/\OldK s₁.heap s'.heap/\s'.os=s₁.os/\xu s'.gens) s₁) :
  RV q loose XP YP l.row.toRowW d [] (λf vs=>RW f vs):=by
 intro w s₀ s₁ mg mb G Y fa o pm cd doc dV kV ho hd hcd hD hmg hg args vals as hpre hlay hrd hwl hlo;obtain rfl:dV=.none:=Dflts.none hD hdf;obtain rfl:kV=.none:=Dflts.noKw hD;obtain ⟨a,vs,ns,rfl,rfl,hobj,hints,hlen⟩:=NT hn hpre hwl;refine enter_call (mK (call w s₀ s₁ mg mb fa o pm cd doc a vs ns G Y ho (fd_plain hd) hcd hmg hobj hints hlen hg) λr s' hq=>?_);obtain ⟨rfl,h2,h3,h4⟩:=hq;exact ⟨.inl ⟨.bool true,.bool true,[],rfl,λ_=>rfl,.bool true,NU l _,λ_=>⟨mV,λ_ hm=>(nomatch hm)⟩⟩,h2,h3,h4⟩
section
variable {prog:a6}{w:bO}{A:bR}{E:ai->ao->Prop}{s:ao}{K:aa}
end
end Att
namespace L2
theorem xV:∀ {vs:List ai}{ns:List Int},fz vs ns->Vals (ns.map V.int) vs
 | _,_,.nil=>.nil
 | _,_,.cons n t h=>.cons ⟨t,rfl⟩ (xV h)
end L2
namespace L2
end L2
namespace L2
def fv (s:dz) (j:Nat):dz:=match s with
 | .ClassDef _ _ _ body _ _ _ _ _ _ _=>body.getD j (.Pass ⟨0,0,0,0⟩)
 | _=>.Pass ⟨0,0,0,0⟩
def nR (s:dz):ma:=match s with
 | .FunctionDef _ a _ _ _ _ _ _ _ _=>a
 | _=>{ posonlyargs:=[],args:=[],vararg:=none,kwonlyargs:=[],kw_defaults:=[],kwarg:=none,defaults:=[] }
def j7 (s:dz):List dz:=match s with
 | .FunctionDef _ _ b _ _ _ _ _ _ _=>b
 | _=>[]
def aW (s:dz):jx:=match s with
 | .FunctionDef _ _ _ _ _ _ sc _ _ _=>sc
 | _=>{ kind:=.function,names:=[],isGenerator:=false,isCoroutine:=false }
abbrev Iu:Kp:=λ_ _ _ _ _ _=>False
abbrev E0:XK:=λ_ _ _=>False
def qg {X:Cx}:oi Iu X E0:=λ_ _ _ _ _ _ _ h=>h.elim
structure Mj (K:aa) (x qual:bj) (st:dz) (f:af) (fd:eK):Prop where
 ex:∃ (oc:ai) (od:Option af) (kV doc pm:ai) (an:Option af) (nE ct:ai) (osl:Array (Option ai)),
  fd=iu x qual (nR st) (j7 st) (aW st) .none kV doc pm an nE ct/\K.lookup f=some ⟨oc,od,.func fd,osl⟩/\nM K nE qual=true
 kp:eI K (.ref f)=true
section
variable {P:a6}{w:bO}{K:aa}{mg:bj->Option ai}{base:cf}
def Mj.ok {x qual:bj}{st:dz}{f:af}{fd:eK}{N ps:List bj}{k:Nat}{sp:Sp}(F:Mj K x qual st f fd) (S:bF N ps (aW st)) (len:∀ vs H Q E,sp vs H Q E->vs.length=ps.length)
  (hbody:∀ (nE:ai) (A:bR) (outer:List EH) (s:ao) (H:Hp) (vs:List V) (Q:VK) (E:XK),h8 k (A.deeper (tR qual (aW st) s.heap.objs.size f nE))->sp vs H Q E ->
   ∃ t,Kt (FV Iu P w K mg base N qual (aW st) f nE A outer s H E).Vy (j7 st) t/\t { nx:=λ_ H'=>Q .non H',rt:=Q } (start N vs) H):k9 P w K mg base Iu (k+1) f fd ps sp:=by
 obtain ⟨oc,od,kV,doc,pm,an,nE,ct,osl,rfl,lk,hcd⟩:=F.ex;refine UG lk hcd S len λA outer s H vs Q E hr hsp=>?_;obtain ⟨t,h,q⟩:=hbody nE A outer s H vs Q E hr hsp;exact ⟨t,h.Vy,q⟩
def Mj.binds {x qual:bj}{st:dz}{f:af}{fd:eK}{ps:List bj}(F:Mj K x qual st f fd)
  (h:∀ (kV doc pm:ai) (an:Option af) (nE ct:ai) (us:List ai),us.length=ps.length->An (iu x qual (nR st) (j7 st) (aW st) .none kV doc pm an nE ct) ⟨us,[]⟩=pure (ps.zip us)):Binds K fd ps []:=by
 obtain ⟨oc,od,kV,doc,pm,an,nE,ct,osl,rfl,lk,hcd⟩:=F.ex;exact .all (h kV doc pm an nE ct)
def FZ {x qual:bj}{st:dz}{f:af}{oc:ai}{od an:Option af}{osl:Array (Option ai)}{kV doc pm nE ct:ai}(l:K.lookup f=some ⟨oc,od,.func (iu x qual (nR st) (j7 st) (aW st) .none kV doc pm an nE ct),osl⟩)
  (c:nM K nE qual=true) (k:eI K (.ref f)=true):Mj K x qual st f (iu x qual (nR st) (j7 st) (aW st) .none kV doc pm an nE ct):=⟨⟨oc,od,kV,doc,pm,an,nE,ct,osl,rfl,l,c⟩,k⟩
end
section
variable {X:Cx}
def pv (i:Nat) {x:bj}{pos:lg}(hN:X.N[i]?=some x:=by rfl) (hv:ZT X.env.scope x:=by first|exact Or.inl rfl|exact Or.inr (Or.inl rfl)|exact Or.inr (Or.inr rfl)) (hd:(x == ("__debug__":bj))=false:=by decide)
  (hcd:(x == ("__classdict__":bj))=false:=by decide):PE X (.Name x pos) (aq i):=VW hN hv hd hcd
end
def iX {A B:Prop}(h:B):if false=true then A else B:=by
 rw [if_neg bC];exact h
def lD {A B:Prop}(h:A):if true=true then A else B:=by
 rw [if_pos rfl];exact h
def bN (H H':Hp):Prop:=∀ b o,H b=some o->H' b=some o
def bN.trans {H H1 H2:Hp}(a:bN H H1) (b:bN H1 H2):bN H H2:=λc o h=>b c o (a c o h)
def bN.free {H H':Hp}(e:bN H H') {l:af}(h:H' l=Option.none):H l=Option.none:=by
 cases q:H l with
 | none=>rfl
 | some o =>
  rw [e l o q] at h;cases h
def bN.seq {K:aa}{H H':Hp}{a:af}{xs:List V}(e:bN H H') (h:c6 K H a xs):c6 K H' a xs:=by
 rcases h with (h|⟨o,h⟩)|h
 ·exact .inl (.inl (e _ _ h))
 ·exact .inl (.inr ⟨o,e _ _ h⟩)
 ·exact .inr h
end L2
namespace L2
section
variable {X:Cx}
def NV:mD X (.builtin "len") (λxs H Q=>∃ a kvs,xs=[V.ref a]/\H a=some (.dK kvs)/\Q (.int kvs.length) H):=by
 intro pins s Z H xs us Q I r h;obtain ⟨a,kvs,rfl,ha,q⟩:=h;obtain ⟨u,rfl,ru⟩:=vals1 r;cases ru
 exact Yb I (.inl ha) λt s' I'=>⟨.int kvs.length,H,I',⟨t,rfl⟩,q⟩
end
section
variable {κ:Type} [DecidableEq κ]
theorem MD:∀ {l:List κ}{k:κ},l.Nodup->¬ k∈l->(l++[k]).Nodup
 | [],k,_,_=>by simp
 | a::r,k,h,hk=>by
  obtain ⟨h1,h2⟩:=br.mp h
  show (a::(r++[k])).Nodup
  refine br.mpr ⟨λm=>?_,MD h2 λm=>hk (au.mpr (Or.inr m))⟩
  rcases aN.mp m with q|q
  ·exact h1 q
  ·exact hk (au.mpr (Or.inl (aA.mp q).symm))
def NW {p:κ×V}{r:List (κ×V)}{k:κ}(e:p.1=k):nQ (p::r) k=nQ r k:=by
 unfold nQ;rw [VF,if_neg (by simp [e])]
def E3 {p:κ×V}{r:List (κ×V)}{k:κ}(e:¬ p.1=k):nQ (p::r) k=p::nQ r k:=by
 unfold nQ;rw [VF,if_pos (by simp [e])]
theorem Iv:∀ {kvs:List (κ×V)}{k:κ},¬ k∈kvs.map (·.1)->nQ kvs k=kvs
 | [],_,_=>rfl
 | p::r,k,h=>by
  have h':¬ k∈r.map (·.1):=λm=>by
   obtain ⟨q,hq,e⟩:=aT.mp m;exact h (aT.mpr ⟨q,au.mpr (Or.inr hq),e⟩)
  rw [E3 λe=>h (aT.mpr ⟨p,au.mpr (Or.inl rfl),e⟩),Iv h']
end
end L2
namespace L2
def nJ (cells:List (bj×af)):List (bj×jN)->List (bj×af)->List (bj×af)
 | [],acc=>acc
 | (n,k)::r,acc=>nJ cells r (if k == .free then (n,(cells.lookup n).getD 0)::acc else acc)
theorem uS {env:EH}:∀ (names:List (bj×jN)) (acc:List (bj×af)),(∀ n,(n,bM)∈names->∃ c,env.cells.lookup n=some c) ->
  (forIn names acc λ(x:bj×jN) (r:List (bj×af))=>(if x.2 == .free then (cellOf env x.1 >>= λc=>pure (ja ((x.1,c)::r))) else pure (ja r):Uq (ForInStep (List (bj×af)))))=pure (nJ env.cells names acc)
 | [],acc,_=>rfl
 | (n,k)::r,acc,h=>by
  rw [tS];have hr:∀ n,(n,bM)∈r->∃ c,env.cells.lookup n=some c:=λn hn=>h n (aj _ hn)
  cases hk:k == bM with
  | false =>
   simp only [hk,bY,if_false,pure_bind];rw [uS r acc hr]
   show _=pure (nJ env.cells r (if k == bM then _ else acc))
   rw [hk];rfl
  | true =>
   have e:k=.free:=by simpa using hk
   subst e;obtain ⟨c,hc⟩:=h n aw
   have e2:cellOf env n=pure c:=by unfold cellOf;rw [hc]
   simp only [hk,if_true,e2,pure_bind];rw [uS r _ hr]
   show _=pure (nJ env.cells r (if bM == bM then (n,(env.cells.lookup n).getD 0)::acc else acc))
   rw [hc];rfl
def uT {scope:jx}{env:EH}(h:∀ n,(n,bM)∈scope.names->∃ c,env.cells.lookup n=some c):closureFor scope env=pure (nJ env.cells scope.names []):=by
 have e:=uS (env:=env) scope.names [] h;unfold closureFor;rw [← bind_pure (pure (nJ env.cells scope.names []):Uq _),← e]
theorem ku {cells:List (bj×af)}{x:bj}{c:af}:∀ (names:List (bj×jN)) (acc:List (bj×af)),(∀ n,(n,bM)∈names->∃ c,cells.lookup n=some c) ->
  (nJ cells names acc).lookup x=some c->cells.lookup x=some c\/acc.lookup x=some c
 | [],acc,_,h=>.inr h
 | (n,k)::r,acc,hf,h=>by
  have hr:∀ n,(n,bM)∈r->∃ c,cells.lookup n=some c:=λn hn=>hf n (aj _ hn);unfold nJ at h
  rcases ku r _ hr h with z|z
  ·exact .inl z
  ·cases hk:k == bM with
   | false=>rw [hk] at z;exact .inr z
   | true =>
    have e:k=.free:=by simpa using hk
    subst e;obtain ⟨d,hd⟩:=hf n aw;rw [hk,if_pos rfl,hd] at z
    by_cases hx:x=n
    ·subst hx;rw [cJ,beq_self_eq_true] at z;exact .inl (by rw [hd];exact z)
    ·rw [cJ,beq_false_of_ne hx] at z;exact .inr z
theorem vJ {cells:List (bj×af)}{x:bj}:∀ (names:List (bj×jN)) (acc:List (bj×af)),((x,bM)∈names\/∃ c,acc.lookup x=some c)->∃ c,(nJ cells names acc).lookup x=some c
 | [],acc,h=>h.elim (λz=>nomatch z) λz=>z
 | (n,k)::r,acc,h=>by
  unfold nJ;refine vJ r _ ?_
  rcases h with z|⟨c,z⟩
  ·rcases au.mp z with e|z
   ·have e1:n=x:=(cg e).1.symm;have e2:k=.free:=(cg e).2.symm;subst e1 e2;exact .inr ⟨_,by rw [if_pos (by rfl),cJ,beq_self_eq_true]⟩
   ·exact .inl z
  ·refine .inr ?_
   split
   ·rw [cJ];cases x == n
    ·exact ⟨c,z⟩
    ·exact ⟨_,rfl⟩
   ·exact ⟨c,z⟩
theorem vK {env:EH}{x:bj}{k:jN}:∀ {names:List (bj×jN)},
  (names.map λ(n,k)=>if (k == bM && env.scope.kind == .function && env.kindOf n == some .cell) then (n,gM) else (n,k)).lookup x=some k ->
   ∃ k0,names.lookup x=some k0/\(k=k0\/(k0=.free/\k=.cell))
 | [],h=>by simp at h
 | (n,k1)::r,h=>by
  have ih:=@vK env x k r;have h:dN x ((if (k1 == bM && env.scope.kind == .function && env.kindOf n == some .cell)=true then (n,gM) else (n,k1))::r.map λ(n,k)=>if (k == bM && env.scope.kind == .function && env.kindOf n == some .cell) then (n,gM) else (n,k))=some k:=h
  by_cases hc:(k1 == bM && env.scope.kind == .function && env.kindOf n == some .cell)=true
  ·rw [if_pos hc,cJ] at h;rw [cJ]
   have e:k1=.free:=by
    rw [hW,hW] at hc
    simpa using hc.1.1
   cases hx:x == n with
   | true=>rw [hx] at h;exact ⟨k1,rfl,.inr ⟨e,(aY h).symm⟩⟩
   | false=>rw [hx] at h;exact ih h
  ·rw [if_neg hc,cJ] at h;rw [cJ]
   cases hx:x == n with
   | true=>rw [hx] at h;exact ⟨k1,rfl,.inl (aY h).symm⟩
   | false=>rw [hx] at h;exact ih h
theorem yP {env:EH}{x:bj}:∀ {names:List (bj×jN)},names.lookup x=some .free ->
  (names.map λ(n,k)=>if (k == bM && env.scope.kind == .function && env.kindOf n == some .cell) then (n,gM) else (n,k)).lookup x=some .free \/
  (names.map λ(n,k)=>if (k == bM && env.scope.kind == .function && env.kindOf n == some .cell) then (n,gM) else (n,k)).lookup x=some .cell
 | [],h=>by simp at h
 | (n,k1)::r,h=>by
  have ih:=@yP env x r
  show dN x ((if (k1 == bM && env.scope.kind == .function && env.kindOf n == some .cell)=true then (n,gM) else (n,k1))::r.map λ(n,k)=>if (k == bM && env.scope.kind == .function && env.kindOf n == some .cell) then (n,gM) else (n,k))=some .free \/
   dN x ((if (k1 == bM && env.scope.kind == .function && env.kindOf n == some .cell)=true then (n,gM) else (n,k1))::r.map λ(n,k)=>if (k == bM && env.scope.kind == .function && env.kindOf n == some .cell) then (n,gM) else (n,k))=some .cell
  rw [cJ] at h
  by_cases hc:(k1 == bM && env.scope.kind == .function && env.kindOf n == some .cell)=true
  ·rw [if_pos hc,cJ]
   cases hx:x == n with
   | true=>exact .inr rfl
   | false=>rw [hx] at h;exact ih h
  ·rw [if_neg hc,cJ]
   cases hx:x == n with
   | true=>rw [hx] at h;exact .inl h
   | false=>rw [hx] at h;exact ih h
theorem mem_of_lookup {x:bj}{k:jN}:∀ {names:List (bj×jN)},names.lookup x=some k->(x,k)∈names
 | [],h=>by simp at h
 | (n,k1)::r,h=>by
  rw [cJ] at h
  cases hx:x == n with
  | true =>
   rw [hx] at h
   have e:x=n:=by simpa using hx
   rw [e,aY h];exact aw
  | false=>rw [hx] at h;exact aj _ (mem_of_lookup h)
def F0 (X:Cx) (N:List bj) (scope:jx) (s:ao) (H:Hp) (fp:List af):Cx where
 prog:=X.prog
 w:=X.w
 K:=X.K
 mg:=X.mg
 base:=X.base
 A:=X.A
 N:=N
 s₀:=s
 H₀:=H
 env:=compEnvC scope (nJ X.env.cells scope.names []) s.heap.objs.size X.env
 outer:=X.stack
 stack:=X.stack
 ex:=fp
 fn:=λ_=>false
 calm:=X.calm
 pn:=[]
 xe:=λ_ _=>False
def C6 (X:Cx) (scope:jx):List Nat->List bj->Prop
 | [],[]=>True
 | j::js,y::ys=>X.N[j]?=some y/\(X.env.kindOf y=some .cell\/X.env.kindOf y=some .free)/\scope.names.lookup y=some .free/\C6 X scope js ys
 | _,_=>False
def Iw (Z:St) (js:List Nat):St:=js.map λj=>(Z[j]?).join
theorem C6.len {X:Cx}{scope:jx}:∀ {js:List Nat}{ys:List bj},C6 X scope js ys->js.length=ys.length
 | [],[],_=>rfl
 | _::_,_::_,h=>by rw [bV,bV,C6.len h.2.2.2]
 | [],_::_,h=>h.elim
 | _::_,[],h=>h.elim
theorem C6.get {X:Cx}{scope:jx}{Z:St}{y:bj}{v:V}:∀ {js:List Nat}{ys:List bj}{i:Nat},C6 X scope js ys->ys[i]?=some y->(Iw Z js)[i]?=some (some v) ->
  ∃ j:Nat,X.N[j]?=some y/\Z[j]?=some (some v)/\(X.env.kindOf y=some .cell\/X.env.kindOf y=some .free)/\scope.names.lookup y=some .free
 | [],[],i,_,e,_=>by simp at e
 | j::js,z::ys,0,h,e,q=>by
  simp only [lj,gg] at e;subst e;refine ⟨j,h.1,?_,h.2.1,h.2.2.1⟩
  have q':(Z[j]?).join=some v:=by simpa [Iw] using q
  cases hj:Z[j]? with
  | none=>rw [hj] at q';simp at q'
  | some o=>rw [hj] at q';rw [← q'];rfl
 | j::js,z::ys,i+1,h,e,q=>C6.get (i:=i) h.2.2.2 (by simpa using e) (by simpa [Iw] using q)
 | [],_::_,_,h,_,_=>h.elim
 | _::_,[],_,h,_,_=>h.elim
section
variable {X:Cx}{pins:List (af×fT)}{Z:St}{H:Hp}{s s':ao}{scope:jx}{fp:List af}
def KY {N:List bj}(I:Inv X pins Z H s) (hf:∀ b∈fp,xP X pins H b) (hlt:∀ b∈fp,b<s.heap.objs.size) (hkind:scope.kind=.function) (hcell:∀ y∈scope.names,y.2≠.cell)
  (hfr:∀ n,(n,bM)∈scope.names->∃ c,X.env.cells.lookup n=some c):(F0 X N scope s H fp).Ok where
 mod:=I.mod
 kind:=hkind
 glob:=I.ok.glob
 blt:=I.ok.blt
 above:=av _
 inj:=λx y c h1 h2=>I.ok.inj x y c ((ku _ _ hfr h1).resolve_right (by simp)) ((ku _ _ hfr h2).resolve_right (by simp))
 has:=λx hx=>by
  refine vJ _ _ (.inl ?_)
  have key:∀ k,(k=gM\/k=bM)->(relabel scope X.env).names.lookup x=some k->(x,bM)∈scope.names:=λk hk e=>by
   obtain ⟨k0,e0,z⟩:=vK e
   rcases z with z|⟨z,_⟩
   ·subst z
    rcases hk with hk|hk
    ·subst hk;exact absurd rfl (hcell _ (mem_of_lookup e0))
    ·subst hk;exact mem_of_lookup e0
   ·subst z;exact mem_of_lookup e0
  rcases hx with hx|hx
  ·exact key _ (.inl rfl) hx
  ·exact key _ (.inr rfl) hx
 XN:=λx c h=>by cases h
 hd:=I.ok.hd
 frames:=I.ok.frames
 Zw:=.inl rfl
 exf:=λb hb=>⟨bg (hlt b hb),λx c e=>(hf b hb).2.2.2.2.1 x c ((ku _ _ hfr e).resolve_right (by simp))⟩
 bs:=I.bs
 RQ:=bu I.ok.RQ I.sz
 Os:=λb o e hb=>by
  rcases (hf b hb).2.2.2.1 with z|z
  ·exact I.ok.Os b o e z
  ·exact absurd (bA (aJ e) (bu I.ok.RQ z)) (eS _)
 OA:=λb hb hs=>by
  rcases au.mp (I.Me b hs) with z|z
  ·exact (hf b hb).2.1 z
  ·exact (hf b hb).2.2.1 z
 yF:=I.stack
 Vw:=I.Nr
def SZ {own ys:List bj}{js:List Nat}{h1:cf}{tk:Nat}{m:bj->Option ai}(I:Inv X pins Z H s) (hf:∀ b∈fp,xP X pins H b) (hlt:∀ b∈fp,b<s.heap.objs.size) (hkind:scope.kind=.function)
  (hcell:∀ y∈scope.names,y.2≠.cell) (hfr:∀ n,(n,bM)∈scope.names->∃ c,X.env.cells.lookup n=some c) (hc:C6 X scope js ys)
  (hn:h1.Ns s.heap.objs.size m) (hk:∀ b o,s.heap.get? b=some o->h1.get? b=some o) :
  Inv (F0 X (own++ys) scope s H fp) [] (oC own.length none++Iw Z js) H { s with heap:=h1,toks:=tk }:=by
 have hcl:∀ x c,(nJ X.env.cells scope.names []).lookup x=some c->X.env.cells.lookup x=some c:=λx c e=>(ku _ _ hfr e).resolve_right (by simp);refine ⟨KY I hf hlt hkind hcell hfr,rfl,I.bare,Un.kept hk,⟨m,hn,λi x v e1 e2 e3=>?_⟩,λx c e=>?_,I.fresh,λx c e=>I.sC x c (hcl x c e),(λp hp=>nomatch hp),I.fo.kept hk,?_⟩
 ·have e1':(own++ys)[i]?=some x:=e1
  by_cases hi:i<own.length
  ·rw [fQ (by simpa using hi)] at e2;rw [Mo] at e2
   split at e2
   ·cases aY e2
   ·cases e2
  ·have hi':own.length<=i:=mM hi;rw [dY hi'] at e1';rw [dY (by simpa using hi'),uM] at e2;obtain ⟨j,q1,q2,q3,q4⟩:=hc.get e1' e2;obtain ⟨m0,_,hl⟩:=I.loc
   obtain ⟨u,r,l⟩:=hl j x v q1 q2 (by
    rcases q3 with q3|q3
    ·exact .inr (.inl q3)
    ·exact .inr (.inr q3))
   refine ⟨u,r,.inr ⟨?_,?_⟩⟩
   ·rcases yP (env:=X.env) q4 with z|z
    ·exact .inr z
    ·exact .inl z
   ·rcases l with ⟨k,_⟩|⟨_,c,hc1,hc2⟩
    ·rcases q3 with q3|q3<;>rw [k] at q3<;>cases aY q3
    ·obtain ⟨d,hd⟩:=vJ (cells:=X.env.cells) (x:=x) scope.names [] (.inl (mem_of_lookup q4));have hd':=hcl x d hd;rw [hc1] at hd';cases aY hd';obtain ⟨o,ho,hod⟩:=hc2;exact ⟨c,hd,o,hk c o ho,hod⟩
 ·obtain ⟨v,o,ho,hod⟩:=I.cell x c (hcl x c e);exact ⟨v,o,hk c o ho,hod⟩
 ·show (oC own.length none++Iw Z js).length=(own++ys).length
  rw [bz,bz,uM,Iw,ag,hc.len]
def PJ {N:List bj}{σ':St}{H':Hp}(I:Inv X pins Z H s) (hf:∀ b∈fp,xP X pins H b) (J:Inv (F0 X N scope s H fp) [] σ' H' s'):Inv X pins Z H' s' :=
 I.Zo (ch:=fp) J.os J.base J.fo J.bare λb hb=>⟨(hf b hb).2.2.2.1,(hf b hb).2.1,(hf b hb).2.2.2.2.1,(hf b hb).2.2.2.2.2⟩
end
section
variable {prog:a6}{w:bO}{A:bR}{R:Kh->ao->Prop}{s:ao}
def F9 {elt target iter:Expr}{ifs:List Expr}{scope:jx}{pos:lg}{it acc:ai}{env:EH}(I:Nat->ao->Prop)
  (turn:∀ n s,I n s->aG (aM prog w) A (i9 it) (λr s₁=>match r with
   | none=>R (.ok .next) s₁
   | some v=>aG (aM prog w) A (xH target it v) (λ_ s₁'=>aG (aM prog w) A (Kg target env v) (λ_ s₂ =>
     aG (aM prog w) A (forIn ifs true λc r=>if r=true then do let ok ← isTrue c env (fh c env);pure (ja ok) else pure (ja r)) (λok s₃ =>
      if ok=true then aG (aM prog w) A (fh elt env) (λx s₄ =>
       aG (aM prog w) A (call (.builtin "list.append") [acc,x]) (λ_ s₅=>∃ m,m<n/\I m s₅) (λ_ _=>False) s₄) (λ_ _=>False) s₃
      else ∃ m,m<n/\I m s₃) (λ_ _=>False) s₂) (λ_ _=>False) s₁') (λ_ _=>False) s₁) (λ_ _=>False) s)
  (n:Nat) (h:I n s) :
  ka (aM prog w) A (.compLoop (.ListComp elt [⟨target,iter,ifs,0⟩] scope pos) 0 it acc env) R s:=by
 refine codeAny_loop rfl I (λn s hI=>?_) n h
 show aG _ A ((compTurn (.ListComp elt [⟨target,iter,ifs,0⟩] scope pos) 0 it acc env).onRaise (λx=>do noteFrame x env;theTreesLotGoes x)) _ _ s
 refine wpAny_noted ?_;rw [compTurn_list];refine ae (tM (ae (dO (turn n s hI) (λr s₁ h₁=>?_) λ_ _ h'=>h'.elim)))
 cases r with
 | none=>exact ak h₁
 | some v =>
  refine ae (dO h₁ (λ_ s₁' h₁'=>?_) λ_ _ h'=>h'.elim);refine ae (dO h₁' (λ_ s₂ h₂=>ae (dO h₂ (λok s₃ h₃=>?_) λ_ _ h'=>h'.elim)) λ_ _ h'=>h'.elim)
  cases ok with
  | false=>exact ak ⟨rfl,h₃⟩
  | true =>
   exact ae (ae (dO h₃ (λx s₄ h₄=>ae (dO h₄ (λ_ s₅ h₅=>ak (ak ⟨rfl,h₅⟩)) λ_ _ h'=>h'.elim)) λ_ _ h'=>h'.elim))
end
def PK (X:Cx) (ifs:List Expr) (t:TT):Prop :=
 ∀ (pins:List (af×fT)) (s:ao) (Z:St) (H:Hp) (Q:Bool->Hp->Prop),Inv X pins Z H s->t Z H Q ->
  aG (aM X.prog X.w) X.A (forIn ifs true λc r=>if r=true then do let ok ← isTrue c X.env (fh c X.env);pure (ja ok) else pure (ja r)) (TP X pins Z Q) X.xe s
def pQ:TT:=λ_ H Q=>Q true H
def iH {X:Cx}:PK X [] pQ:=λ_ _ _ H _ I h=>wpAny_tests_nil ⟨H,I,h⟩
def jT {X:Cx}{c:Expr}{t:TT}(h:PT X c t):PK X [c] t:=λpins s Z H Q I q=>wpAny_tests_one (h pins s Z H Q I q)
def iI (own:Nat) (js:List Nat) (wi:TI) (g:TG) (tt:TT) (te:TE):TE:=λZ H Q=>wi Z H λJ H1=>∀ acc,H1 acc=none ->
 ∃ W:Nat->Nat->List V->St->Hp->Prop,(∃ m,W 0 m [] (oC own none++Iw Z js) (upd H1 acc (.lst [])))/\∀ i m ys σ' H',W i m ys σ' H'->H' acc=some (.lst ys) /\
  ((J.stop i H'/\Q (.ref acc) H')\/(J.go i H'/\∀ x H2,J.Ka i H' x H2->g x σ' H2 λσ2 H3=>tt σ2 H3 λb H4 =>
   if b=true then te σ2 H4 λy H5=>H5 acc=some (.lst ys)/\ys.length<aV/\∃ m',m'<m/\W (i+1) m' (ys++[y]) σ2 (upd H5 acc (.lst (ys++[y]))) else ∃ m',m'<m/\W (i+1) m' ys σ2 H4))
section
variable {X:Cx}
def Iy {elt tg iter:Expr}{ifs:List Expr}{scope:jx}{pos:lg}{own ys:List bj}{js:List Nat}{wi:TI}{g:TG}{tt:TT}{te:TE}{pins:List (af×fT)}{s:ao}{Z:St}{H:Hp}{Q:VK}
  {use:Option (ai->Uq Unit)}{Q':ai->ao->Prop}{p:lg}(hcalm:X.calm=true)
  (hi:PI X tg iter wi) (hkind:scope.kind=.function) (hcell:∀ y∈scope.names,y.2≠.cell) (hnames:∀ y∈scope.names,y.2=.local->scope.names.lookup y.1=some .local)
  (hfr:∀ n,(n,bM)∈scope.names->∃ c,X.env.cells.lookup n=some c) (hc:C6 X scope js ys)
  (hg:∀ s0 H0 fp,PG (F0 X (own++ys) scope s0 H0 fp) tg g) (ht:∀ s0 H0 fp,PK (F0 X (own++ys) scope s0 H0 fp) ifs tt) (he:∀ s0 H0 fp,PE (F0 X (own++ys) scope s0 H0 fp) elt te)
  (I:Inv X pins Z H s) (h:iI own.length js wi g tt te Z H Q)
  (hu:∀ (D C:af) (H':Hp) (s':ao),Inv X pins Z H' s'->Q (.ref D) H'->xP X pins H' C->(∃ m,s'.heap.Ns C m)->compPost (aM X.prog X.w) X.A X.xe use Q' (.ref D) C (.ok .next) s')
  (hs:∀ x,sW iter X.env x=pure x) :
  aG (aM X.prog X.w) X.A (comprehension (.ListComp elt [⟨tg,iter,ifs,0⟩] scope pos) scope X.env p (newList []) false (fh iter X.env) use) Q' X.xe s:=by
 refine wpAny_comprehension_free (g:=⟨tg,iter,ifs,0⟩) (gs:=[]) rfl hs (uT hfr) hkind hnames (ic (hi pins s Z H _ I h) λv s1 h1=>ic h1 λitv s2 h2=>?_);obtain ⟨it,fp,tn,J,H2,e,I2,T,st2,f2,q⟩:=h2;subst e;refine cD (Xp hcell (by intro y hy;simp at hy) (λh₁ hns₁ hsb₁=>?_) hkind);dsimp only at hns₁ hsb₁ ⊢;have nD:H2 s2.heap.objs.size=none:=I2.fresh;have I3:Inv X pins Z (upd H2 s2.heap.objs.size (.lst [])) { s2 with heap:=s2.heap.push { cls:=.type "list",data:=.seq ([]:List ai).toArray },toks:=s2.toks }:=I2.Zq (its:=[]) .nil (aK _)
 have hlt2:∀ b∈fp,b<s2.heap.objs.size:=λb hb=>let ⟨o,e,_⟩:=T.obj _ _ st2 b hb;aJ e
 obtain ⟨W,⟨m0,w0⟩,turn⟩:=q _ nD;generalize hs3:({ s2 with heap:=s2.heap.push { cls:=.type "list",data:=.seq ([]:List ai).toArray },toks:=s2.toks }:ao)=s3 at I3
 have hh3:s2.heap.push { cls:=.type "list",dict:=none,data:=.seq ([]:List ai).toArray }=s3.heap:=by rw [← hs3]
 have hsz3:s3.heap.objs.size=s2.heap.objs.size+1:=by rw [← hh3,iW]
 have hlt3:∀ b∈fp,b<s3.heap.objs.size:=λb hb=>by rw [hsz3];exact qy (hlt2 b hb)
 have f3:∀ b∈fp,xP X pins (upd H2 s2.heap.objs.size (.lst [])) b:=λb hb=>⟨by rw [aH (bg (hlt2 b hb))];exact (f2 b hb).1,(f2 b hb).2⟩
 have fC:xP X pins (upd H2 s2.heap.objs.size (.lst [])) s3.heap.objs.size:=I3.Mh (av _) I3.fresh;rw [hh3] at hns₁ hsb₁ ⊢;have hk3:∀ b o,s3.heap.get? b=some o->h₁.get? b=some o:=λb o e=>hsb₁.extBut b o (bg (aJ e)) (ar _ e)
 have es4:({ s2 with heap:=h₁,toks:=s2.toks+([]:List (bj×ai)).length }:ao)={ s3 with heap:=h₁,toks:=s2.toks+([]:List (bj×ai)).length }:=by rw [← hs3]
 have I4:=SZ (own:=own) (h1:=h₁) (tk:=s2.toks+([]:List (bj×ai)).length) I3 f3 hlt3 hkind hcell hfr hc hns₁ hk3;have st4:tn 0 h₁:=T.keep _ _ _ st2 λb hb o e=>hk3 b o (by rw [← hh3];exact ar _ e)
 have stat:∀ {H':Hp},(∀ b∈fp,H' b=none)->∀ b∈fp,xP (F0 X (own++ys) scope s3 (upd H2 s2.heap.objs.size (.lst [])) fp) [] H' b:=λhn b hb =>
  ⟨hn b hb,bg (hlt3 b hb),(KY (N:=own++ys) I3 f3 hlt3 hkind hcell hfr).OA b hb,.inl hb,λx c e=>((KY (N:=own++ys) I3 f3 hlt3 hkind hcell hfr).exf b hb).2 x c e,λp hp=>nomatch hp⟩
 have KH:∀ s4:ao,s4={ s3 with heap:=h₁,toks:=s2.toks+([]:List (bj×ai)).length } ->
   ka (aM X.prog X.w) X.A (.compLoop (.ListComp elt [⟨tg,iter,ifs,0⟩] scope pos) 0 (.ref it) (.ref s2.heap.objs.size) (compEnvC scope (nJ X.env.cells scope.names []) s3.heap.objs.size X.env))
    (compPost (aM X.prog X.w) X.A X.xe use Q' (.ref s2.heap.objs.size) s3.heap.objs.size) s4:=by
  rintro s4 rfl
  refine F9 (λn s'=>∃ i ys' σ' H',Inv (F0 X (own++ys) scope s3 (upd H2 s2.heap.objs.size (.lst [])) fp) [] σ' H' s'/\tn i s'.heap/\(∀ b∈fp,H' b=none)/\W i n ys' σ' H') ?_ m0
   ⟨0,[],_,_,I4,st4,λb hb=>(f3 b hb).1,w0⟩
  rintro n s5 ⟨i,ys',σ5,H5,I5,st5,fr5,w5⟩;obtain ⟨hacc,rest⟩:=turn i n ys' σ5 H5 w5
  rcases rest with ⟨stop,qn⟩|⟨go,step⟩
  ·refine ic (T.done (F0 X (own++ys) scope s3 (upd H2 s2.heap.objs.size (.lst [])) fp) rfl rfl rfl hcalm i [] s5 σ5 H5 _ I5 (stat fr5) st5 stop) λr s6 ⟨hr,I6⟩=>?_;subst hr;exact hu _ _ H5 s6 (PJ I3 f3 I6) qn ⟨I6.free,fC.2⟩ (let ⟨m,hn,_⟩:=I6.loc;⟨m,hn⟩)
  ·refine ic (T.item (F0 X (own++ys) scope s3 (upd H2 s2.heap.objs.size (.lst [])) fp) rfl rfl rfl hcalm i [] s5 σ5 H5 _ I5 (stat fr5) st5 go) λr s6 ⟨u,hr,h6⟩=>?_;subst hr;refine ic h6 λ_ s7 ⟨x,H7,I7,r7,y7,st7,fr7⟩=>?_;have I7':=I7.pinned (stat fr7) (T.obj _ _ st7);refine ic (hg _ _ _ _ s7 σ5 H7 x u _ I7' r7 (step x H7 y7)) λ_ s8 ⟨σ8,H8,I8,q8⟩=>?_;refine ic (ht _ _ _ _ s8 σ8 H8 _ I8 q8) λok s9 ⟨H9,I9,q9⟩=>?_
   have kept:∀ {s10:ao}{σ10:St}{H10:Hp},Inv (F0 X (own++ys) scope s3 (upd H2 s2.heap.objs.size (.lst [])) fp) ([]++AZ fp s7.heap) σ10 H10 s10 ->
     Inv (F0 X (own++ys) scope s3 (upd H2 s2.heap.objs.size (.lst [])) fp) [] σ10 H10 s10/\tn (i+1) s10.heap/\∀ b∈fp,H10 b=none:=λ{s10 σ10 H10} I10=>by
    refine ⟨I10.xq,T.keep _ _ _ st7 λb hb o e=>(I10.pin (b,o) (bB _ (bB _ (pP hb e)))).1,λb hb=>?_⟩;obtain ⟨o,e,d⟩:=T.obj _ _ st7 b hb;exact (I10.pin (b,o) (bB _ (bB _ (pP hb e)))).2.1
   cases ok with
   | false =>
    simp only [bY,if_false] at q9 ⊢;obtain ⟨m',hm,w9⟩:=q9;obtain ⟨k1,k2,k3⟩:=kept I9
    exact ⟨m',hm,i+1,ys',σ8,H9,k1,k2,k3,w9⟩
   | true =>
    simp only [if_true] at q9 ⊢;refine ic (he _ _ _ _ s9 σ8 H9 _ I9 q9) λyv s10 ⟨y,H10,I10,r10,a10,l10,m',hm,w10⟩=>?_;refine ic (lC (X:=F0 X (own++ys) scope s3 (upd H2 s2.heap.objs.size (.lst [])) fp) _ s10 σ8 H10 (.ref s2.heap.objs.size) [y] (.ref s2.heap.objs.size) [yv] (λv H'=>v=.non/\H'=upd H10 s2.heap.objs.size (.lst (ys'++[y]))) I10 rfl (.cons r10 .nil) ⟨_,_,_,rfl,rfl,a10,l10,rfl,rfl⟩) λ_ s11 ⟨_,H11,I11,_,_,e11⟩=>?_;subst e11;obtain ⟨k1,k2,k3⟩:=kept I11;exact ⟨m',hm,i+1,_,σ8,_,k1,k2,k3,w10⟩
 have fin:=codeAny_compStart_list (R:=compPost (aM X.prog X.w) X.A X.xe use Q' (.ref s2.heap.objs.size) s3.heap.objs.size) (KH _ rfl) (T.self X.A 0 { s3 with heap:=h₁,toks:=s2.toks+([]:List (bj×ai)).length } _ _ st4 (KH _ rfl));rw [← hs3] at fin ⊢;exact fin
def qV {pins:List (af×fT)}{Z:St}{H:Hp}{s:ao}{scope:jx}(I:Inv X pins Z H s) (h:(scope.names.all λy=>y.2 != .free || X.env.kindOf y.1 == some .cell || X.env.kindOf y.1 == some .free)=true) :
  ∀ n,(n,bM)∈scope.names->∃ c,X.env.cells.lookup n=some c:=λn hn=>by
 have q:=VG.mp h _ hn;simp only [bne_self_eq_false,Bool.false_or,Bool.or_eq_true,beq_iff_eq] at q;exact I.ok.has n q
def gX {elt tg iter:Expr}{ifs:List Expr}{scope:jx}{pos:lg}(own:List bj) {ys:List bj}(js:List Nat) {wi:TI}{g:TG}{tt:TT}{te:TE}(hcalm:X.calm=true)
  (hi:PI X tg iter wi) (hc:C6 X scope js ys)
  (hg:∀ s0 H0 fp,PG (F0 X (own++ys) scope s0 H0 fp) tg g) (ht:∀ s0 H0 fp,PK (F0 X (own++ys) scope s0 H0 fp) ifs tt) (he:∀ s0 H0 fp,PE (F0 X (own++ys) scope s0 H0 fp) elt te)
  (hfr:(scope.names.all λy=>y.2 != .free || X.env.kindOf y.1 == some .cell || X.env.kindOf y.1 == some .free)=true:=by rfl)
  (hkind:scope.kind=.function:=by rfl) (hcell:∀ y∈scope.names,y.2≠.cell:=by decide +kernel) (hnames:∀ y∈scope.names,y.2=.local->scope.names.lookup y.1=some .local:=by decide +kernel)
  (hs:∀ x,sW iter X.env x=pure x:=by intro _;rfl):PE X (.ListComp elt [⟨tg,iter,ifs,0⟩] scope pos) (iI own.length js wi g tt te):=by
 intro pins s Z H Q I h;rw [eval_ListComp];refine Iy (use:=none) hcalm hi hkind hcell hnames (qV I hfr) hc hg ht he I h (λD C H' s' I' q fC ⟨m,hn⟩=>⟨m,hn,λh' hs'=>⟨.ref D,H',?_,rfl,q⟩⟩) hs;exact I'.turned (t':=s'.toks) (λb o hb e=>(hs'.2 b hb).trans e) fC.1 fC.2.1 fC.2.2.2.1 fC.2.2.2.2.1 fC.2.2.2.2.2
def vL {elt tg iter:Expr}{ifs:List Expr}{scope:jx}{pos spos py:lg}{i:Nat}{y:bj}(own:List bj) {ys:List bj}(js:List Nat) {wi:TI}{g:TG}{tt:TT}{te:TE}(hcalm:X.calm=true)
  (hN:X.N.Nodup) (hy:X.N[i]?=some y) (hl:X.env.scope.names.lookup y=some .local)
  (hi:PI X tg iter wi) (hc:C6 X scope js ys)
  (hg:∀ s0 H0 fp,PG (F0 X (own++ys) scope s0 H0 fp) tg g) (ht:∀ s0 H0 fp,PK (F0 X (own++ys) scope s0 H0 fp) ifs tt) (he:∀ s0 H0 fp,PE (F0 X (own++ys) scope s0 H0 fp) elt te)
  (hfr:(scope.names.all λy=>y.2 != .free || X.env.kindOf y.1 == some .cell || X.env.kindOf y.1 == some .free)=true:=by rfl)
  (hsw:AE (.ListComp elt [⟨tg,iter,ifs,0⟩] scope pos) (some (.Name y py)) spos.line X.env=pure true:=by rfl)
  (hkind:scope.kind=.function:=by rfl) (hcell:∀ y∈scope.names,y.2≠.cell:=by decide +kernel) (hnames:∀ y∈scope.names,y.2=.local->scope.names.lookup y.1=some .local:=by decide +kernel)
  (hs:∀ x,sW iter X.env x=pure x:=by intro _;rfl) :
  PS X (.Assign [.Name y py] (.ListComp elt [⟨tg,iter,ifs,0⟩] scope pos) spos) (de (iI own.length js wi g tt te) (bp i)):=by
 intro pins s Z H D I h;rw [exec_Assign_Name_used _ _ _ _ hsw];refine ae (tM (ae ?_))
 show aG _ X.A (do let _ ← comprehension (.ListComp elt [⟨tg,iter,ifs,0⟩] scope pos) scope X.env _ (newList []) false (fh iter X.env) (some (Kg (.Name y py) X.env))) _ _ s
 refine ae (dO (Iy (Q:=λx H1=>bp i x Z H1 D.nx) (Q':=λ_ s'=>SP X pins D .next s') (use:=some (Kg (.Name y py) X.env)) hcalm hi hkind hcell hnames (qV I hfr) hc hg ht he I h (λDd C H' s' I' q fC ⟨m,hn⟩=>?_) hs) (λ_ s' hq=>ak (ak hq)) λ_ _ e=>e)
 show aG _ X.A (Kg (.Name y py) X.env (.ref Dd)) _ _ _
 refine wpAny_assign_Name (EN (v:=.ref Dd) I' hN hy (.inl hl) rfl (λs'' I'' ⟨a,sb,ha⟩=>?_) (.inr hl))
 have hCa:C≠a:=by
  rcases ha with z|z
  ·rw [z];exact fC.2.1
  ·exact Ne.symm (fC.2.2.2.2.1 _ _ z)
 refine ⟨m,hn.sameBut sb hCa,λh' hs'=>?_⟩;exact ⟨_,H',I''.turned (t':=s''.toks) (λb o hb e=>(hs'.2 b hb).trans e) fC.1 fC.2.1 fC.2.2.2.1 fC.2.2.2.2.1 fC.2.2.2.2.2,q⟩
end
end L2
namespace L2
mutual
def Rep (K:aa) (H:Hp):PyData->V->Prop
 | .none,v=>v=.non
 | .bool b,v=>v=.bl b
 | .int i,v=>v=.int i
 | .str x,v=>v=.str x
 | .list ds,v=>∃ a xs,v=.ref a/\c6 K H a xs/\eD K H ds xs
 | .tuple ds,v=>∃ a xs,v=.ref a/\jZ K H a xs/\eD K H ds xs
 | .dict _,_=>False
def eD (K:aa) (H:Hp):List PyData->List V->Prop
 | [],vs=>vs=[]
 | d::ds,vs=>∃ v r,vs=v::r/\Rep K H d v/\eD K H ds r
end
section
variable {X:Cx}{pins:List (af×fT)}{Z:St}{H:Hp}{s:ao}
mutual
theorem Rep.reads (I:Inv X pins Z H s):∀ (d:PyData) (v:V) (u:ai),Rep X.K H d v->RelV v u->∃ as,Reads s.heap u d as
 | .none,v,u,h,r=>by
  cases (show v=.non by simpa only [Rep] using h)
  cases (show u=eW from r);exact ⟨_,.none⟩
 | .bool b,v,u,h,r=>by
  cases (show v=.bl b by simpa only [Rep] using h)
  cases (show u=sJ b from r);exact ⟨_,.bool b⟩
 | .int i,v,u,h,r=>by
  cases (show v=.int i by simpa only [Rep] using h)
  obtain ⟨t,rfl⟩:=(show ∃ t,u=fw i t from r);exact ⟨_,.int i t⟩
 | .str x,v,u,h,r=>by
  cases (show v=.str x by simpa only [Rep] using h)
  obtain ⟨t,rfl⟩:=(show ∃ t,u=qF x t from r);exact ⟨_,.str x t⟩
 | .list ds,v,u,h,r=>by
  obtain ⟨a,xs,rfl,hq,ha⟩:=(show ∃ a xs,v=.ref a/\c6 X.K H a xs/\eD X.K H ds xs by simpa only [Rep] using h)
  cases (show u=aD a from r);obtain ⟨its,rv,⟨o,n,e1,e2,_,e3⟩,_⟩:=I.list hq;obtain ⟨as,ra⟩:=eD.reads I ds xs its ha rv
  exact ⟨_,.list e1 e2 e3 (by simpa using ra)⟩
 | .tuple ds,v,u,h,r=>by
  obtain ⟨a,xs,rfl,hq,ha⟩:=(show ∃ a xs,v=.ref a/\jZ X.K H a xs/\eD X.K H ds xs by simpa only [Rep] using h)
  cases (show u=aD a from r);obtain ⟨its,rv,⟨o,e1,e2,n,e3⟩,_⟩:=I.tuple hq;obtain ⟨as,ra⟩:=eD.reads I ds xs its ha rv
  exact ⟨_,.tuple e1 e2 e3 (by simpa using ra)⟩
 | .dict _,v,u,h,r=>absurd h (by simp only [Rep];exact λz=>z)
theorem eD.reads (I:Inv X pins Z H s):∀ (ds:List PyData) (vs:List V) (us:List ai),eD X.K H ds vs->Vals vs us->∃ as,ReadsAll s.heap us ds as
 | [],vs,us,h,r=>by
  cases (show vs=[] by simpa only [eD] using h)
  cases r;exact ⟨_,.nil⟩
 | d::ds,vs,us,h,r=>by
  obtain ⟨v,rr,rfl,h1,h2⟩:=(show ∃ v r,vs=v::r/\Rep X.K H d v/\eD X.K H ds r by simpa only [eD] using h)
  cases r with
  | cons ru rs =>
   obtain ⟨as,r1⟩:=Rep.reads I d v _ h1 ru;obtain ⟨bs,r2⟩:=eD.reads I ds rr _ h2 rs;exact ⟨_,.cons r1 r2⟩
end
end
def bN.Xk {K:aa}{H H':Hp}{a:af}{xs:List V}(e:bN H H') (h:jZ K H a xs):jZ K H' a xs:=by
 rcases h with (h|⟨o,h⟩)|h
 ·exact .inl (.inl (e _ _ h))
 ·exact .inl (.inr ⟨o,e _ _ h⟩)
 ·exact .inr h
def eD.cons {K:aa}{H:Hp}{d:PyData}{v:V}{ds:List PyData}{vs:List V}(h1:Rep K H d v) (h2:eD K H ds vs):eD K H (d::ds) (v::vs):=by
 simp only [eD];exact ⟨v,vs,rfl,h1,h2⟩
def eD.nil {K:aa}{H:Hp}:eD K H [] []:=by simp only [eD]
def Rep.int {K:aa}{H:Hp}(i:Int):Rep K H (.int i) (.int i):=by simp only [Rep]
def Rep.lst {K:aa}{H:Hp}{a:af}{xs:List V}{ds:List PyData}(h:c6 K H a xs) (r:eD K H ds xs):Rep K H (.list ds) (.ref a):=by
 simp only [Rep];exact ⟨a,xs,rfl,h,r⟩
def Rep.tup {K:aa}{H:Hp}{a:af}{xs:List V}{ds:List PyData}(h:jZ K H a xs) (r:eD K H ds xs):Rep K H (.tuple ds) (.ref a):=by
 simp only [Rep];exact ⟨a,xs,rfl,h,r⟩
theorem eD.ints {K:aa}{H:Hp}:∀ (ns:List Int),eD K H (ns.map .int) (ns.map V.int)
 | []=>eD.nil
 | n::ns=>eD.cons (Rep.int n) (eD.ints ns)
section
variable {X:Cx}
structure vM (d:PyData):Prop where
 lay:d.canLay0=true
 dep:d.depth<=60
def Ta (K:aa) (neg:Bool):R2:=λx y H Q=>∃ dx dy,Rep K H dx x/\Rep K H dy y/\vM dx/\vM dy/\Q (.bl (if neg then !PyData.eqv dx dy else cM dx dy)) H
def Wg (hu:X.A.units+64<gZ):pJ X (df .Eq) (Ta X.K false):=by
 intro pins s Z H x y v u Q I rx ry h;obtain ⟨dx,dy,h1,h2,f1,f2,q⟩:=h;obtain ⟨as,r1⟩:=Rep.reads I dx x v h1 rx;obtain ⟨bs,r2⟩:=Rep.reads I dy y u h2 ry;have:=f1.dep;exact SeqAt.compareEq_reads r1 r2 f1.lay f2.lay (bf (yJ (bu (XS _ _) (bu f1.dep (by decide))) _) hu) ⟨.bl _,H,I,rfl,q⟩
def Wh (hu:X.A.units+64<gZ):pJ X (df .NotEq) (Ta X.K true):=by
 intro pins s Z H x y v u Q I rx ry h;obtain ⟨dx,dy,h1,h2,f1,f2,q⟩:=h;obtain ⟨as,r1⟩:=Rep.reads I dx x v h1 rx;obtain ⟨bs,r2⟩:=Rep.reads I dy y u h2 ry;exact SeqAt.compareNe_reads r1 r2 f1.lay f2.lay (bf (yJ (bu (XS _ _) (bu f1.dep (by decide))) _) hu) ⟨.bl _,H,I,rfl,q⟩
def iT (K:aa):R2:=λx y H Q=>rEq x y H Q\/Ta K false x y H Q
def zJ (K:aa):R2:=λx y H Q=>rNe x y H Q\/Ta K true x y H Q
def kg (hu:X.A.units+64<gZ):pJ X (df .Eq) (iT X.K):=X5.or (Wg hu)
def KZ (hu:X.A.units+64<gZ):pJ X (df .NotEq) (zJ X.K):=X6.or (Wh hu)
def Wi (K:aa) (neg:Bool):R2:=λx y H Q=>∃ d ds,Rep K H d x/\(Rep K H (.list ds) y\/Rep K H (.tuple ds) y)/\vM d/\gF ds=true/\Q (.bl (if neg then !(ds.any λe=>cM e d) else ds.any λe=>cM e d)) H
def Wj (hu:X.A.units+64<gZ):pJ X (df .In) (Wi X.K false):=by
 intro pins s Z H x y v u Q I rx ry h;obtain ⟨d,ds,h1,h2,f1,f2,q⟩:=h;obtain ⟨as,r1⟩:=Rep.reads I d x v h1 rx;have hb:X.A.units+1+min (fF ds) d.depth<gZ:=bf (by have:=f1.dep;lia) hu
 rcases h2 with h2|h2
 ·obtain ⟨bs,r2⟩:=Rep.reads I _ y u h2 ry;exact SeqAt.in_list_reads r2 r1 f2 f1.lay hb ⟨.bl _,H,I,rfl,q⟩
 ·obtain ⟨bs,r2⟩:=Rep.reads I _ y u h2 ry;exact SeqAt.in_tuple_reads r2 r1 f2 f1.lay hb ⟨.bl _,H,I,rfl,q⟩
def NX (hu:X.A.units+64<gZ):pJ X (df .NotIn) (Wi X.K true):=by
 intro pins s Z H x y v u Q I rx ry h;obtain ⟨d,ds,h1,h2,f1,f2,q⟩:=h;obtain ⟨as,r1⟩:=Rep.reads I d x v h1 rx;have hb:X.A.units+1+min (fF ds) d.depth<gZ:=bf (by have:=f1.dep;lia) hu
 rcases h2 with h2|h2
 ·obtain ⟨bs,r2⟩:=Rep.reads I _ y u h2 ry;exact SeqAt.notIn_list_reads r2 r1 f2 f1.lay hb ⟨.bl _,H,I,rfl,q⟩
 ·obtain ⟨bs,r2⟩:=Rep.reads I _ y u h2 ry;exact SeqAt.notIn_tuple_reads r2 r1 f2 f1.lay hb ⟨.bl _,H,I,rfl,q⟩
def Wk (neg:Bool):R2:=λy x H Q=>∃ a o,x=.ref a/\Aj H a y o/\Q (.bl (if neg then !o.isSome else o.isSome)) H
def Wl (hu:X.A.units+64<gZ):pJ X (df .In) (Wk false):=by
 intro pins s Z H y x iv u Q I ry rx h;obtain ⟨a,o,rfl,g,q⟩:=h;cases rx
 exact d_in (bf (by lia) hu) I g ry λs' I'=>⟨.bl _,H,I',rfl,q⟩
def NY (hu:X.A.units+64<gZ):pJ X (df .NotIn) (Wk true):=by
 intro pins s Z H y x iv u Q I ry rx h;obtain ⟨a,o,rfl,g,q⟩:=h;cases rx
 exact SX (bf (by lia) hu) I g ry λs' I'=>⟨.bl _,H,I',rfl,q⟩
def zK (K:aa) (neg:Bool):R2:=λx y H Q=>Wi K neg x y H Q\/Wk neg x y H Q
def PL (hu:X.A.units+64<gZ):pJ X (df .In) (zK X.K false):=(Wj hu).or (Wl hu)
def E4 (hu:X.A.units+64<gZ):pJ X (df .NotIn) (zK X.K true):=(NX hu).or (NY hu)
def eO:R2:=λx y H Q=>qQ (λi j=>.int (i+j)) x y H Q\/X9 x y H Q
def kI:pJ X (qH .Add) eO:=V2.or Wc
def Yc:R2:=λx y H Q=>∃ a v,x=.ref a/\Aj H a y (some v)/\Q v H
def Tc (hu:X.A.units+64<gZ):Uj X Yc:=by
 intro value slice pins s Z H x y v u Q I rx ry h hs;obtain ⟨a,z,rfl,g,q⟩:=h;cases rx;exact tail_any (Iq I g) FI.lookup (EZ (bf (by lia) hu) I g ry λw' s' I' r'=>⟨z,H,I',r',q⟩) hs
def dr (K:aa):R2:=λx y H Q=>(X7 K x y H Q\/X8 K x y H Q)\/Yc x y H Q
def K0 (hu:X.A.units+64<gZ):Uj X (dr X.K):=(SW.or Wa).or (Tc hu)
def UL:V->V->V->Hp->(Hp->Prop)->Prop:=λo i v H Q=>∃ a H',o=.ref a/\Ai H a i v H'/\Q H'
def set_dict (hu:X.A.units+64<gZ):Sz X UL:=by
 intro pins s Z H o i v ov iv u Q I ro ri rv h;obtain ⟨a,H',rfl,g,q⟩:=h;cases ro
 exact E1 (bf (by lia) hu) I g ri rv λs' I'=>⟨H',I',q⟩
def qW:V->V->V->Hp->(Hp->Prop)->Prop:=λo i v H Q=>UH o i v H Q\/UL o i v H Q
def Yd (hu:X.A.units+64<gZ):Sz X qW:=by
 intro pins s Z H o i v ov iv u Q I ro ri rv h
 rcases h with h|h
 ·exact PD pins s Z H o i v ov iv u Q I ro ri rv h
 ·exact set_dict hu pins s Z H o i v ov iv u Q I ro ri rv h
def tH (K:aa):List V->Hp->VK->Prop:=λxs H Q=>(∃ p ys,xs=[.ref p]/\(c6 K H p ys\/jZ K H p ys)/\Q (.int ys.length) H)\/(∃ a kvs,xs=[V.ref a]/\H a=some (.dK kvs)/\Q (.int kvs.length) H)
def sR:mD X (.builtin "len") (tH X.K):=FX.or NV
def zL (K:aa):List V->Hp->VK->Prop:=λxs H Q=>∃ x T t b,xs=[x,.ty T]/\vD K H x t/\iQ K t (.type T)=some b/\Q (.bl b) H
def vN:mD X (.builtin "isinstance") (zL X.K):=by
 intro pins s Z H xs us Q I r h;obtain ⟨x,T,t,b,rfl,ty,e,q⟩:=h;obtain ⟨u,w',rfl,ru,rw'⟩:=vals2 r;cases (show w'=eX T from rw')
 exact NQ I ru ty e λtk=>⟨.bl b,H,I.tok tk,rfl,q⟩
def Inv.Ov {pins:List (af×fT)}{Z:St}{H:Hp}{s:ao}(I:Inv X pins Z H s):∃ m,Fr X.base X.env.locals s.heap m/\News X.base X.env.locals s.heap (sN X.base s.heap X.env.locals) :=
 let ⟨m,F⟩:=I.fr
 ⟨m,F,Pc⟩
end
end L2
namespace L2
section
variable {Z:St}{H:Hp}{Q:VK}{D:tD}{ta tb te:TE}{t u:TS}{c c':TT}{tA:TA}{QT:Bool->Hp->Prop}{QA:List V->Hp->Prop}
def Iz (h:t { D with nx:=u D } Z H):bQ t u D Z H:=h
def Ye {g:TG}(h:te Z H λx H1=>g x Z H1 D.nx):de te g D Z H:=h
def Ga {i:Nat}{v:V}{R:St->Hp->Prop}(h:R (Z.set i (some v)) H):bp i v Z H R:=h
def Wm {to ti:TE}{ts:Sx}{v:V}{R:St->Hp->Prop}(h:to Z H λo H1=>ti Z H1 λi H2=>ts o i v H2 λH3=>R Z H3):AV to ti ts v Z H R:=h
def IA {i:Nat}{v:V}(h:Z[i]?=some (some v)) (k:Q v H):aq i Z H Q:=⟨v,h,k⟩
def x_c {v:V}(k:Q v H):tC v Z H Q:=k
def x_op {r:R2}(h:ta Z H λx H1=>tb Z H1 λy H2=>r x y H2 Q):cq r ta tb Z H Q:=h
def x_un {r:V->Hp->VK->Prop}(h:ta Z H λx H1=>r x H1 Q):XI r ta Z H Q:=h
def Yg (h:te Z H D.rt):eF te D Z H:=h
def Wn (h:te Z H λ_ H1=>D.nx Z H1):fB te D Z H:=h
def Wo (h:D.nx Z H):eY D Z H:=h
def Yh (h:c Z H λb H1=>if b=true then t D Z H1 else u D Z H1):ie c t u D Z H:=h
def x_if (h:c Z H λb H1=>if b=true then ta Z H1 Q else tb Z H1 Q):XG c ta tb Z H Q:=h
def Wp (h:te Z H λx H'=>∃ k,x=.bl k/\QT k H'):dj te Z H QT:=h
def Yi (h:c Z H λb H1=>if b=true then c' Z H1 QT else QT false H1):xN c c' Z H QT:=h
def x_or (h:c Z H λb H1=>if b=true then QT true H1 else c' Z H1 QT):Ic c c' Z H QT:=h
def Yj (h:c Z H λb H1=>QT (!b) H1):oJ c Z H QT:=h
def Wq (h:ta Z H λx H1=>∃ c,x=.bl c/\if c=true then tb Z H1 Q else Q (.bl false) H1):tX ta tb Z H Q:=h
def Wr (h:ta Z H λx H1=>∃ c,x=.bl c/\Q (.bl (!c)) H1):Mu ta Z H Q:=h
def Yk (h:QT true H):pQ Z H QT:=h
def Yl (h:QA [] H):aX Z H QA:=h
def Ws (h:te Z H λx H1=>tA Z H1 λxs H2=>QA (x::xs) H2):ax te tA Z H QA:=h
def Ym (h:tA Z H λxs H1=>xs.length<=aV/\∀ p,H1 p=none->Q (.ref p) (upd H1 p (.tup xs))):nH tA Z H Q:=h
def Yn (h:tA Z H λxs H1=>xs.length<=aV/\∀ p,H1 p=none->Q (.ref p) (upd H1 p (.lst xs))):tF tA Z H Q:=h
def Wt {sp:Sp}{dvs:List V}{E:XK}(h:tA Z H λvs H1=>sp (vs++dvs) H1 Q E):cC sp dvs E tA Z H Q:=h
def x_cb {r:List V->Hp->VK->Prop}(h:tA Z H λvs H1=>r vs H1 Q):nI r tA Z H Q:=h
def x_bm {K:aa}{T:String}{r:V->List V->Hp->VK->Prop}{to:TE}(h:to Z H λx H1=>tyV K T x H1/\tA Z H1 λxs H2=>r x xs H2 Q):Dk K T r to tA Z H Q:=h
def x_sl {r:V->Option Int->Option Int->Hp->VK->Prop}{tl th:TO}(h:te Z H λx H1=>tl Z H1 λl H2=>th Z H2 λu H3=>r x l u H3 Q):xU r te tl th Z H Q:=h
def PN {R:Option Int->Hp->Prop}(h:R none H):eT Z H R:=h
def Wu {R:Option Int->Hp->Prop}(h:te Z H λx H1=>∃ i,x=.int i/\R (some i) H1):hU te Z H R:=h
def Yo {g:Int->Int->V}{i j:Int}(h:Q (g i j) H):qQ g (.int i) (.int j) H Q:=⟨i,j,rfl,rfl,h⟩
def x_rI {C:Int->Int->Prop}{g:Int->Int->V}{i j:Int}(hc:C i j) (h:Q (g i j) H):rI C g (.int i) (.int j) H Q:=⟨i,j,rfl,rfl,hc,h⟩
def Wv {i j:Int}(h:Q (.int (i+j)) H):eO (.int i) (.int j) H Q:=.inl ⟨i,j,rfl,rfl,h⟩
def Yp {K:aa}{i j:Int}(h:Q (.bl (decide (V.int i=V.int j))) H):iT K (.int i) (.int j) H Q:=.inl ⟨rfl,h⟩
def Yq {K:aa}{i j:Int}(h:Q (.bl (!decide (V.int i=V.int j))) H):zJ K (.int i) (.int j) H Q:=.inl ⟨rfl,h⟩
def jU {K:aa}{p:af}{xs:List V}{i:Int}{v:V}(h:c6 K H p xs) (e:NS xs i=some v) (k:Q v H):dr K (.ref p) (.int i) H Q:=.inl (.inl ⟨p,xs,i,v,rfl,rfl,h,e,k⟩)
def fD {K:aa}{p:af}{xs:List V}{i:Int}{v:V}(h:jZ K H p xs) (e:NS xs i=some v) (k:Q v H):dr K (.ref p) (.int i) H Q:=.inl (.inr ⟨p,xs,i,v,rfl,rfl,h,e,k⟩)
def pR {K:aa}{p:af}{xs:List V}(h:c6 K H p xs) (k:Q (.int xs.length) H):tH K [.ref p] H Q:=.inl ⟨p,xs,rfl,.inl h,k⟩
def PP {K:aa}{p:af}{xs:List V}(h:jZ K H p xs) (k:Q (.int xs.length) H):tH K [.ref p] H Q:=.inl ⟨p,xs,rfl,.inr h,k⟩
def qX {l:af}{xs:List V}{y:V}(h:H l=some (.lst xs)) (hl:xs.length<aV) (k:Q .non (upd H l (.lst (xs++[y])))):j6 (.ref l) [y] H Q:=⟨l,xs,y,rfl,rfl,h,hl,k⟩
def K1 {p:af}{xs:List V}{k:Int}{j:Nat}{v:V}{R:Hp->Prop}(h:H p=some (.lst xs)) (e:OX xs.length k=some j) (q:R (upd H p (.lst (xs.set j v)))):qW (.ref p) (.int k) v H R:=.inl ⟨p,xs,k,j,rfl,rfl,h,e,q⟩
def tI {p A B:Prop} [Decidable p] (h1:p->A) (h2:¬ p->B):if decide p=true then A else B:=by
 by_cases h:p
 ·rw [if_pos (decide_eq_true h)];exact h1 h
 ·rw [if_neg (by rw [decide_eq_false h];decide)];exact h2 h
def K2 {p A B:Prop} [Decidable p] (h1:¬ p->A) (h2:p->B):if (!decide p)=true then A else B:=by
 by_cases h:p
 ·rw [if_neg (by rw [decide_eq_true h];decide)];exact h2 h
 ·rw [if_pos (by rw [decide_eq_false h];decide)];exact h1 h
def lE {i j:Int}:(V.int i=V.int j)↔i=j:=⟨λh=>by injection h,λh=>by rw [h]⟩
end
end L2
namespace BootT
open PySem
def len:dI "len"=some (.builtin "len"):=by decide +kernel
def pS:dI "isinstance"=some (.builtin "isinstance"):=by decide +kernel
def Bd:dI "sorted"=some (.builtin "sorted"):=by decide +kernel
def min:dI "min"=some (.builtin "min"):=by decide +kernel
def max:dI "max"=some (.builtin "max"):=by decide +kernel
def int:dI "int"=some (.type "int"):=by decide +kernel
def bool:dI "bool"=some (.type "bool"):=by decide +kernel
def list:dI "list"=some (.type "list"):=by decide +kernel
def tuple:dI "tuple"=some (.type "tuple"):=by decide +kernel
end BootT
namespace L2
def E5:List V->Hp->VK->Prop:=λxs H Q=>∃ i j,xs=[.int i,.int j]/\Q (.int (if j<i then j else i)) H
def E6:List V->Hp->VK->Prop:=λxs H Q=>∃ i j,xs=[.int i,.int j]/\Q (.int (if j>i then j else i)) H
def kh (K:aa) (ta:TE):TT:=λZ H Q=>ta Z H λx H'=>∃ k,SI K x H' k/\Q k H'
def Yr {K:aa}{ta:TE}{Z:St}{H:Hp}{Q:Bool->Hp->Prop}(h:ta Z H λx H'=>∃ k,SI K x H' k/\Q k H'):kh K ta Z H Q:=h
section
variable {X:Cx}{a:Expr}{ta:TE}
def K3 (ha:PE X a ta) (he:∀ whole,isTrue a X.env whole=(do let v ← whole;sV a.pos;j9 [v] (truthy v))):PT X a (kh X.K ta):=Po ha he
end
def Itd (a:af) (kvs:List (iA×V)) (o:fT):It :=
 ⟨λi H=>i<kvs.length/\H a=some (.frz o (.dK kvs)),λi H x H'=>H'=H/\∃ k v,kvs[i]?=some (k,v)/\x=kV k,λi H=>kvs.length<=i/\H a=some (.frz o (.dK kvs))⟩
def Ww {k:iA}{u:ai}(h:AM k u=true):RelV (kV k) u:=by
 rcases gJ h with ⟨i,t,rfl,rfl⟩|⟨x,t,rfl,rfl⟩
 ·exact ⟨t,rfl⟩
 ·exact ⟨t,rfl⟩
def KV.get {kvs:List (iA×V)}{vs:List (iA×ai)}(r:KV kvs vs) {i:Nat}{k:iA}{v:V}(e:kvs[i]?=some (k,v)):∃ u,vs[i]?=some (k,u)/\RelV v u:=by
 unfold KV at r
 induction r generalizing i with
 | nil=>simp at e
 | @cons p q ps qs h t ih =>
  cases i with
  | zero =>
   simp at e;subst e;obtain ⟨q1,q2⟩:=q;obtain ⟨h1,h2⟩:=h;simp only at h1 h2;subst h1
   exact ⟨q2,rfl,h2⟩
  | succ i =>
   obtain ⟨u,e1,e2⟩:=ih (by simpa using e);exact ⟨u,by simpa using e1,e2⟩
def NZ {P:a6}{w:bO}{K:aa}{tg:Expr}(a it:af) (o:fT) (kvs:List (iA×V)) (vs:List (iA×ai)) (ep:Nat) (rel:KV kvs vs)
  (od:∀ h:cf,h.get? a=some o->h.DictAt (fu P w) a vs ep):NI P w K tg (Itd a kvs o) [it] it (λi h=>h.IsKeyIter it a i vs.length ep) where
 mem:=by simp
 obj:=λi h st b hb=>by
  have e:b=it:=by simpa using hb
  subst e;obtain ⟨o,e,c,d⟩:=st;exact ⟨o,e,λv z=>by rw [d] at z;cases z⟩
 keep:=λi h h' st k=>st.at λo e=>k it (by simp) o e
 item:=by
  intro X hP hw hK hc i pins s Z H E I hf st hg;subst hP hw hK;obtain ⟨hlt,hq⟩:=hg
  obtain ⟨e0,_⟩:=(show fg X.prog X.w H s.heap a (.frz o (.dK kvs)) from I.fo a _ hq)
  obtain ⟨⟨k,v⟩,hx⟩:∃ p,kvs[i]?=some p:=⟨kvs[i],by simp [hlt]⟩
  obtain ⟨u,hu,ru⟩:=rel.get hx;obtain ⟨f0,f1,f2,f3,f4,f5⟩:=hf it (by simp);refine wpAny_pyNext_dict_item st (od _ e0) hu λkey h' hkey st' sb=>?_;have I1:Inv X pins Z H { s with heap:=h' }:=I.turned (t':=s.toks) (λb o hb e=>(sb.2 b hb).trans e) f0 f1 f3 f4 f5;obtain ⟨o',e,c,d⟩:=id st';exact ⟨key,rfl,Ig (s:={ s with heap:=h' }) e c d (by decide) ⟨kV k,H,I1,Ww hkey,⟨rfl,k,v,hx,rfl⟩,st',λb hb=>(hf b hb).1⟩⟩
 done:=by
  intro X hP hw hK hc i pins s Z H E I hf st hg;subst hP hw hK;obtain ⟨hle,hq⟩:=hg
  obtain ⟨e0,_⟩:=(show fg X.prog X.w H s.heap a (.frz o (.dK kvs)) from I.fo a _ hq)
  obtain ⟨f0,f1,f2,f3,f4,f5⟩:=hf it (by simp);have hl:=rel.length
  exact wpAny_pyNext_dict_end (I.ok.hd hc) st (od _ e0) (by simp;lia) λh' eb=>⟨rfl,I.turned (t':=s.toks) (λb o hb e=>eb b o hb e) f0 f1 f3 f4 f5⟩
 self:=λ_ _ _ _ _ st h=>Ao st h
def kZ (K:aa) (tl:TE):TI:=λZ H R=>tl Z H λx H1=>∃ a,x=.ref a/\(((∃ xs,c6 K H1 a xs)/\R (HR K a) H1)\/((∃ xs,jZ K H1 a xs)/\R (XH K a) H1) \/
 ∃ kvs,H1 a=some (.dK kvs)/\∀ o,R (Itd a kvs o) (upd H1 a (.frz o (.dK kvs))))
def Wx {K:aa}{tl:TE}{Z:St}{H:Hp}{R:It->Hp->Prop}(h:tl Z H λx H1=>∃ a,x=.ref a/\(((∃ xs,c6 K H1 a xs)/\R (HR K a) H1)\/((∃ xs,jZ K H1 a xs)/\R (XH K a) H1) \/
 ∃ kvs,H1 a=some (.dK kvs)/\∀ o,R (Itd a kvs o) (upd H1 a (.frz o (.dK kvs))))):kZ K tl Z H R:=h
section
variable {X:Cx}{tg:Expr}
def jJ {l:Expr}{tl:TE}(hl:PE X l tl):PI X tg l (kZ X.K tl):=by
 intro pins s Z H R I h;refine ic (hl pins s Z H _ I h) λv s1 ⟨x,H1,I1,r1,q1⟩=>?_;obtain ⟨a,e,q1⟩:=q1;subst e;cases r1
 rcases q1 with ⟨⟨xs,hq⟩,q⟩|⟨⟨xs,hq⟩,q⟩|⟨kvs,hq,q⟩
 ·obtain ⟨its,rv,p,hz⟩:=I1.list hq;refine wpAny_pyIter_list p.isList ?_;refine ⟨s1.heap.objs.size,[s1.heap.objs.size],_,_,H1,rfl,I1.kept (t':=s1.toks) λb o e=>ar _ e,NJ a _,⟨_,aI _ rfl,rfl,rfl⟩,λb hb=>?_,q⟩
  have e:b=s1.heap.objs.size:=by simpa using hb
  subst e;exact I1.Mh (av _) (I1.fo.fresh (av _))
 ·obtain ⟨its,rv,p,hz⟩:=I1.tuple hq;refine wpAny_pyIter_tuple (show s1.heap.IsTuple a its.toArray from p) ?_;refine ⟨s1.heap.objs.size,[s1.heap.objs.size],_,_,H1,rfl,I1.kept (t':=s1.toks) λb o e=>ar _ e,KF a _,⟨_,aI _ rfl,rfl,rfl⟩,λb hb=>?_,q⟩
  have e:b=s1.heap.objs.size:=by simpa using hb
  subst e;exact I1.Mh (av _) (I1.fo.fresh (av _))
 ·obtain ⟨hz,hsys,vs,rel,dd⟩:=UJ I1.fo hq;obtain ⟨ep,da⟩:=dd.dictAt;obtain ⟨ob,es,ho,rr⟩:=id da
  have od:∀ h:cf,h.get? a=some ob->h.DictAt (fu X.prog X.w) a vs ep:=λh e=>⟨ob,es,e,rr⟩
  have un:Un X.fs [] H1 (upd H1 a (.frz ob (.dK kvs))) s1.heap s1.heap:=by
   have hne:∀ b u,H1 b=some u->u≠.dK kvs->b≠a:=λb u e n z=>by subst z;rw [hq] at e;exact n (aY e).symm
   refine ⟨λb o e _ _ _=>e,λb o e _ _ _=>⟨o.slots,e⟩,λb o e n _=>?_,λb o e _=>⟨o,e⟩,λb ys e=>?_,λb o u e=>?_,λb ps e=>?_⟩
   ·rw [aH (λz=>by subst z;rw [hq] at n;cases n)];exact n
   ·rw [aH (hne b _ e (by intro z;cases z))];exact e
   ·rw [aH (hne b _ e (by intro z;cases z))];exact e
   ·exact ⟨#[],by rw [aH (hne b _ e (by intro z;cases z)),e];simp⟩
  have fo:qD X.prog X.w (upd H1 a (.frz ob (.dK kvs))) s1.heap:=λb u e=>by
   by_cases hb:b=a
   ·subst hb;rw [aF] at e;cases e;exact ⟨ho,hz,hsys,vs,rel,dd⟩
   ·rw [aH hb] at e;refine (I1.fo b u e).Ak (λc v _ q=>q) (λc q0=>?_) λc ys q0=>?_
    ·rw [aH (λz=>by rw [z,hq] at q0;cases q0)];exact q0
    ·rw [aH (λz=>by rw [z,hq] at q0;cases q0)];exact q0
  have I2:Inv X pins Z (upd H1 a (.frz ob (.dK kvs))) { s1 with heap:=s1.heap,toks:=s1.toks }:=I1.un un fo;refine wpAny_pyIter_dict hsys da ?_;refine ⟨s1.heap.objs.size,[s1.heap.objs.size],_,_,_,rfl,I2.kept (t':=s1.toks) λb o e=>ar _ e,NZ a _ ob kvs vs ep rel od,⟨_,aI _ rfl,rfl,rfl⟩,λb hb=>?_,q ob⟩
  have e:b=s1.heap.objs.size:=by simpa using hb
  subst e;exact I2.Mh (av _) (I2.fo.fresh (av _))
end
section
variable {K:aa}{Z:St}{H:Hp}{Q:VK}
structure ky (n i:Nat) (S:St->Prop) (Pv:List V->Hp->Prop) (m:Nat) (ys:List V) (Z:St) (H:Hp):Prop where
 m:m=n-i
 le:i<=n
 s:S Z
 p:Pv ys H
def ky.mk' {n i:Nat}{S:St->Prop}{Pv:List V->Hp->Prop}{ys:List V}{Z:St}{H:Hp}(hi:i<n) (s:S Z) (p:Pv ys H):∃ m',m'<n-i/\ky n (i+1) S Pv m' ys Z H:=⟨n-(i+1),by lia,rfl,hi,s,p⟩
def mF {σ0:St}{g:TG}{tt:TT}{te:TE}{J:It}{n:Nat}{acc:af}{R:Hp->Prop}(Pv:Nat->List V->Hp->Prop) (S:St->Prop) (h0:Pv 0 [] (upd H acc (.lst []))) (s0:S σ0)
  (ha:∀ i ys H,Pv i ys H->H acc=some (.lst ys)) (hst:∀ ys H,Pv n ys H->J.stop n H/\R H) (hgo:∀ i ys H,i<n->Pv i ys H->J.go i H)
  (hs:∀ i ys σ' H x H2,i<n->Pv i ys H->S σ'->J.Ka i H x H2->g x σ' H2 λσ2 H3=>tt σ2 H3 λb H4=>if b=true then te σ2 H4 λy H5=>H5 acc=some (.lst ys)/\ys.length<aV/\∃ m',m'<n-i/\ky n (i+1) S (Pv (i+1)) m' (ys++[y]) σ2 (upd H5 acc (.lst (ys++[y]))) else ∃ m',m'<n-i/\ky n (i+1) S (Pv (i+1)) m' ys σ2 H4) :
  ∃ W:Nat->Nat->List V->St->Hp->Prop,(∃ m,W 0 m [] σ0 (upd H acc (.lst [])))/\∀ i m ys σ' H',W i m ys σ' H'->H' acc=some (.lst ys) /\
  ((J.stop i H'/\R H')\/(J.go i H'/\∀ x H2,J.Ka i H' x H2->g x σ' H2 λσ2 H3=>tt σ2 H3 λb H4 =>
   if b=true then te σ2 H4 λy H5=>H5 acc=some (.lst ys)/\ys.length<aV/\∃ m',m'<m/\W (i+1) m' (ys++[y]) σ2 (upd H5 acc (.lst (ys++[y]))) else ∃ m',m'<m/\W (i+1) m' ys σ2 H4)):=by
 refine ⟨λi m ys σ' H'=>ky n i S (Pv i) m ys σ' H',⟨n,by simp,aK _,s0,h0⟩,?_⟩;rintro i m ys σ' H' ⟨rfl,hi,hS,p⟩;refine ⟨ha i ys H' p,?_⟩
 by_cases hlt:i<n
 ·exact .inr ⟨hgo i ys H' hlt p,λx H2 y=>hs i ys σ' H' x H2 hlt p hS y⟩
 ·have e:i=n:=by lia
  subst e;exact .inl (hst ys H' p)
structure PQ (Pv:St->Hp->Prop) (μ:St->Hp->Nat) (m:Nat) (Z:St) (H:Hp):Prop where
 m:m=μ Z H
 p:Pv Z H
def Be {c:TT}{tb:TS}{D:tD}(Pv:St->Hp->Prop) (μ:St->Hp->Nat) (h0:Pv Z H)
  (hs:∀ Z H,Pv Z H->c Z H λb H1=>if b=true then ∃ N:St->Hp->Prop,(∀ σ' H',N σ' H'->∃ m',m' < μ Z H/\PQ Pv μ m' σ' H')/\tb { D with nx:=N,ct:=N,bk:=D.nx } Z H1 else D.nx Z H1):AX c tb D Z H:=by
 refine ⟨PQ Pv μ,⟨_,rfl,h0⟩,?_⟩;rintro m Z H ⟨rfl,p⟩;exact hs Z H p
def wN (Pv:St->Hp->Prop) (μ:St->Hp->Nat) (b:Nat):St->Hp->Prop:=λZ H=>Pv Z H/\μ Z H<b
def PR {Pv:St->Hp->Prop}{μ:St->Hp->Nat} {b:Nat}:∀ σ' H',wN Pv μ b σ' H'->∃ m',m'<b/\PQ Pv μ m' σ' H':=λσ' H' ⟨p,l⟩=>⟨_,l,rfl,p⟩
end
end L2
namespace L2
section
variable {Z:St}{H:Hp}{Q:VK}{D:tD}{ta tb te:TE}{t u:TS}{tA:TA}{QT:Bool->Hp->Prop}{QA:List V->Hp->Prop}{K:aa}
def Td {r r':R2}{tc:TE}(h:ta Z H λx H1=>tb Z H1 λy H2=>r x y H2 λz H3=>∃ k,z=.bl k/\(if k=true then tc Z H3 λw' H4=>r' y w' H4 Q else Q (.bl false) H3)):FS r r' ta tb tc Z H Q:=h
def x_rU {g:Int->V}{i:Int}(h:Q (g i) H):rU g (.int i) H Q:=⟨i,rfl,h⟩
def Ys {i j:Bool}(h:Q (.bl (decide (V.bl i=V.bl j))) H):iT K (.bl i) (.bl j) H Q:=.inl ⟨rfl,h⟩
def x_tB (h:te Z H λx H1=>∃ c,x=.bl c/\QT c H1):tB te Z H QT:=h
def Yt (h:ta Z H λx H1=>Q (.bl (decide (x=.non))) H1):Pd ta Z H Q:=h
def Wy (h:ta Z H λx H1=>Q (.bl (!decide (x=.non))) H1):Pe ta Z H Q:=h
def Wz {R:It->Hp->Prop}(h:tA Z H λvs H1=>∃ j:Int,vs=[.int j]/\-(2^62)<=j/\j<2^62/\R (Pl 0 j.toNat) H1):qf tA Z H R:=h
def Yu {wi:TI}{g:TG}{tb:TS}(h:wi Z H λJ H1=>∃ W:Nat->Nat->St->Hp->Prop,(∃ m,W 0 m Z H1)/\∀ i m Z H,W i m Z H ->
 (J.stop i H/\D.nx Z H)\/(J.go i H/\∃ N:St->Hp->Prop,(∀ σ' H',N σ' H'->∃ m',m'<m/\W (i+1) m' σ' H')/\∀ x H',J.Ka i H x H'->g x Z H' λσ2 H2=>tb { D with nx:=N,ct:=N,bk:=D.nx } σ2 H2)):qP wi g tb D Z H:=h
def WB {own:Nat}{js:List Nat}{wi:TI}{g:TG}{tt:TT}(h:wi Z H λJ H1=>∀ acc,H1 acc=none ->
 ∃ W:Nat->Nat->List V->St->Hp->Prop,(∃ m,W 0 m [] (oC own none++Iw Z js) (upd H1 acc (.lst [])))/\∀ i m ys σ' H',W i m ys σ' H'->H' acc=some (.lst ys) /\
  ((J.stop i H'/\Q (.ref acc) H')\/(J.go i H'/\∀ x H2,J.Ka i H' x H2->g x σ' H2 λσ2 H3=>tt σ2 H3 λb H4 =>
   if b=true then te σ2 H4 λy H5=>H5 acc=some (.lst ys)/\ys.length<aV/\∃ m',m'<m/\W (i+1) m' (ys++[y]) σ2 (upd H5 acc (.lst (ys++[y]))) else ∃ m',m'<m/\W (i+1) m' ys σ2 H4))):iI own js wi g tt te Z H Q:=h
def Yv {i:Nat}{ti:ZU}{x:V}(hx:Z[i]?=some (some x)) (h:te Z H λy H1=>ti x y H1 λz H2=>D.nx (Z.set i (some z)) H2):Pk i te ti D Z H:=⟨x,hx,h⟩
def Bg {n:Nat}{ts:Sa}{a:af}{xs:List V}{R:St->Hp->Prop}(h:jZ K H a xs) (hn:xs.length=n) (k:ts xs Z H R):Ie K n ts (.ref a) Z H R:=⟨a,xs,rfl,h,hn,k⟩
def Te {g:TG}{gs:Sa}{v:V}{r:List V}{R:St->Hp->Prop}(h:g v Z H λσ' H'=>gs r σ' H' R):lp g gs (v::r) Z H R:=⟨v,r,rfl,h⟩
def WC {R:St->Hp->Prop}(h:R Z H):KD [] Z H R:=⟨rfl,h⟩
def PU {l b:af}{xs zs:List V}(h:H l=some (.lst xs)) (h':H b=some (.lst zs)) (hl:xs.length+zs.length<=aV) (k:∀ p,H p=none->Q (.ref p) (upd H p (.lst (xs++zs)))):eO (.ref l) (.ref b) H Q:=.inr ⟨l,b,xs,zs,rfl,rfl,h,h',hl,k⟩
def Yw {i j:Int}(k:Q (.int (if j<i then j else i)) H):E5 [.int i,.int j] H Q:=⟨i,j,rfl,k⟩
def Yx {i j:Int}(k:Q (.int (if j>i then j else i)) H):E6 [.int i,.int j] H Q:=⟨i,j,rfl,k⟩
def tY {x:V}{T:String}{t:ai}{b:Bool}(ty:vD K H x t) (e:iQ K t (.type T)=some b) (k:Q (.bl b) H):zL K [x,.ty T] H Q:=⟨x,T,t,b,rfl,ty,e,k⟩
def E7 {a:af}{xs:List V}{lo hi:Option Int}(h:c6 K H a xs) (k:∀ p,H p=none->Q (.ref p) (upd H p (.lst (uQ xs lo hi)))):oM K (.ref a) lo hi H Q:=⟨a,xs,rfl,h,k⟩
def ME {x y:V}{dx dy:PyData}(h1:Rep K H dx x) (h2:Rep K H dy y) (f1:vM dx) (f2:vM dy) (k:Q (.bl (cM dx dy)) H):iT K x y H Q:=.inr ⟨dx,dy,h1,h2,f1,f2,k⟩
def UM {x y:V}{dx dy:PyData}(h1:Rep K H dx x) (h2:Rep K H dy y) (f1:vM dx) (f2:vM dy) (k:Q (.bl (!PyData.eqv dx dy)) H):zJ K x y H Q:=.inr ⟨dx,dy,h1,h2,f1,f2,k⟩
def Bh {x y:V}{d:PyData}{ds:List PyData}(h1:Rep K H d x) (h2:Rep K H (.list ds) y) (f1:vM d) (f2:gF ds=true) (k:Q (.bl (!(ds.any λe=>cM e d))) H):zK K true x y H Q:=.inl ⟨d,ds,h1,.inl h2,f1,f2,k⟩
def Yy {x y:V}{d:PyData}{ds:List PyData}(h1:Rep K H d x) (h2:Rep K H (.list ds) y) (f1:vM d) (f2:gF ds=true) (k:Q (.bl (ds.any λe=>cM e d)) H):zK K false x y H Q:=.inl ⟨d,ds,h1,.inl h2,f1,f2,k⟩
end
section
variable {K:aa}
def PV:iQ K (.type "int") (.type "int")=some true:=by rfl
def PX:iQ K (.type "int") (.type "bool")=some false:=by rfl
def PY:iQ K (.type "bool") (.type "bool")=some true:=by rfl
def PZ:iQ K (.type "list") (.type "list")=some true:=by rfl
def P0:iQ K (.type "tuple") (.type "tuple")=some true:=by rfl
end
def bN.cK {H:Hp}{l:af}{o:HO}(h:H l=none):bN H (upd H l o):=λb u e=>by rw [aH (aQ e h)];exact e
def bq (c:af) (H H':Hp):Prop:=∀ b o,H b=some o->b≠c->H' b=some o
def bq.refl (c:af) (H:Hp):bq c H H:=λ_ _ h _=>h
def bq.trans {c:af}{H H1 H2:Hp}(a:bq c H H1) (b:bq c H1 H2):bq c H H2:=λx o h n=>b x o (a x o h n) n
def bq.same {c:af}{H H':Hp}(e:bN H H'):bq c H H':=λb o h _=>e b o h
def bq.upd {c:af}{H:Hp}{o:HO}:bq c H (upd H c o):=λb u e n=>by rw [aH n];exact e
def d9 {α:Type} {xs:List α}{j:Nat}{i:Int}{v:α}(hi:i=(j:Int)) (h:xs[j]?=some v):NS xs i=some v:=by subst hi;exact SU h
def K4 {n j:Nat}{i:Int}(hi:i=(j:Int)) (h:j<n):OX n i=some j:=by
 subst hi;unfold OX;rw [if_pos (by lia),if_pos (by lia)]
 rfl
def bI {n m:Nat}(h:n<=m) (hm:m<=100000:=by decide):n<=aV:=bu h (bu hm (by rw [oz];decide))
def eP {n m:Nat}(h:n<m) (hm:m<=100000:=by decide):n<aV:=bA h (bu hm (by rw [oz];decide))
mutual
def mh:PyData->Bool
 | .int _=>true
 | .list xs=>jo xs
 | .tuple xs=>jo xs
 | _=>false
def jo:List PyData->Bool
 | []=>true
 | x::xs=>mh x && jo xs
end
mutual
theorem xW:∀ d:PyData,mh d=true->d.canLay0=true
 | .int _,_=>by simp [uN]
 | .list xs,h=>by simp only [mh] at h;simp only [uN];exact fc xs h
 | .tuple xs,h=>by simp only [mh] at h;simp only [uN];exact fc xs h
 | .none,h=>by simp [mh] at h
 | .bool _,h=>by simp [mh] at h
 | .str _,h=>by simp [mh] at h
 | .dict _,h=>by simp [mh] at h
theorem fc:∀ ds:List PyData,jo ds=true->gF ds=true
 | [],_=>by simp [gF]
 | d::ds,h=>by
  simp only [jo,hW] at h;simp only [gF,hW];exact ⟨xW d h.1,fc ds h.2⟩
end
end L2
namespace L2
section
variable {Z:St}{H:Hp}{Q:VK}{K:aa}
end
end L2
namespace L2
open PySem PySem.Spec PySem.Calls PyProof.Rows
open PySem.W (kla_fn kla_obj tabObj CodeHd)
def pD (Pt:af) (H H':Hp):Prop:=∀ b o,b≠Pt->H b=some o->H' b=some o
def qE (Pt:af) (pos:lg) (qual:bj) (H:Hp):Prop :=
 H Pt=some (.tbl #[])\/∃ c' oc vs t,H Pt=some (.tbl #[cB pos.line,cB pos.col,.ref c'])/\H c'=some (.frz oc (.ext λ_=>True))/\oc.data=.fields vs/\vs[1]?=some (qF qual t)
def qE.tbl {Pt:af}{pos:lg}{qual:bj}{H:Hp}(h:qE Pt pos qual H):∃ ps,H Pt=some (.tbl ps):=by
 rcases h with h|⟨_,_,_,_,h,_⟩
 ·exact ⟨_,h⟩
 ·exact ⟨_,h⟩
section
variable {X:Cx}{pins:List (af×fT)}{Z:St}{H:Hp}{s:ao}{c Pt:af}
def IB {E:ai->ao->Prop}{Q:ai->ao->Prop}{params:ma}{body:Expr}{scope:jx}{pos:lg}(I:Inv X pins Z H s) (hcode:X.env.code=.ref c) (C:ik X.base c Pt) (B:X.base.BuiltinsAt X.mg Pt)
  (hdef:defaultsOf params X.env=([],[])) (hfr:∀ n,(n,bM)∈scope.names->∃ c,X.env.cells.lookup n=some c) (hT:qE Pt pos (X.env.qual++"<lambda>") H)
  (h:∀ f c' ctv h' tk H2,Inv X pins Z H2 { s with heap:=h',toks:=tk }->h'.get? f=some (xB "<lambda>" (X.env.qual++"<lambda>") params body scope (nJ X.env.cells scope.names []) ((X.mg "__name__").getD .none) c' ctv)->h'.CodeRec (.ref c') (X.env.qual++"<lambda>") ->
   pD Pt H H2->qE Pt pos (X.env.qual++"<lambda>") H2->(∀ b o,b≠Pt->s.heap.get? b=some o->h'.get? b=some o)->Q (.ref f) { s with heap:=h',toks:=tk }) :
  aG (aM X.prog X.w) X.A (fh (.Lambda params body scope pos) X.env) Q E s:=by
 have hg:s.heap.Ns bU X.mg:=I.mod.glob.keeps I.bk;have C1:=C.keeps I.bk
 have B1:s.heap.BuiltinsAt X.mg Pt:=let ⟨bm,o,b1,b2,b3,b4,b5,b6⟩:=B;⟨bm,o,b1,b2,b3,b4,I.bk _ _ b5,b6⟩
 refine PySem.W.kla_eval hdef ?_
 rcases hT with hT|⟨c',oc,vs,t,hT,hc',hd,hv⟩
 ·have hP:s.heap.get? Pt=some (Kk #[]):=I.fo Pt _ hT
  have hgP:bU≠Pt:=λq=>by
   obtain ⟨o,es,ep,e,hd,_⟩:=hg;rw [q,hP] at e;cases e;cases hd
  refine PySem.W.kla_makeFunction (mg:=X.mg) (uT hfr) I.ok.glob hg hcode C1 hP trivial rfl hgP B1 λc' ctv h' tk hx hge hlt hrec htb=>?_;obtain ⟨c₂,oc,vs,t,e2,hoc,hd,hv⟩:=id hrec;cases e2;have hn:H c'=none:=I.fo.fresh hge
  have ncP:c'≠Pt:=λq=>by rw [q,hT] at hn;cases hn
  have hL:X.env.locals≠Pt:=λq=>by have:=I.free;rw [q,hT] at this;cases this
  have k:∀ b o,b≠Pt->s.heap.get? b=some o->(h'.push (xB "<lambda>" (X.env.qual++"<lambda>") params body scope (nJ X.env.cells scope.names []) ((X.mg "__name__").getD .none) c' ctv)).get? b=some o:=λb o hb e=>ar _ (hx b o hb e);have hP':(h'.push (xB "<lambda>" (X.env.qual++"<lambda>") params body scope (nJ X.env.cells scope.names []) ((X.mg "__name__").getD .none) c' ctv)).get? Pt=some (Kk #[cB pos.line,cB pos.col,.ref c']):=ar _ htb;have hoc':(h'.push (xB "<lambda>" (X.env.qual++"<lambda>") params body scope (nJ X.env.cells scope.names []) ((X.mg "__name__").getD .none) c' ctv)).get? c'=some oc:=ar _ hoc;have hf:(h'.push (xB "<lambda>" (X.env.qual++"<lambda>") params body scope (nJ X.env.cells scope.names []) ((X.mg "__name__").getD .none) c' ctv)).get? h'.objs.size=some (xB "<lambda>" (X.env.qual++"<lambda>") params body scope (nJ X.env.cells scope.names []) ((X.mg "__name__").getD .none) c' ctv):=aI _ rfl;generalize h'.push (xB "<lambda>" (X.env.qual++"<lambda>") params body scope (nJ X.env.cells scope.names []) ((X.mg "__name__").getD .none) c' ctv)=h2 at k hP' hoc' hf
  have st:∀ b o,b≠Pt->H b=some o->upd (upd H Pt (.tbl #[cB pos.line,cB pos.col,.ref c'])) c' (.frz oc (.ext λ_=>True)) b=some o:=λb o hb e=>by
   rw [aH (aQ e hn),aH hb];exact e
  refine h _ c' ctv h2 tk (upd (upd H Pt (.tbl #[cB pos.line,cB pos.col,.ref c'])) c' (.frz oc (.ext λ_=>True))) ?_ hf ⟨c',oc,vs,t,rfl,hoc',hd,hv⟩ st (.inr ⟨c',oc,vs,t,by rw [aH (Ne.symm ncP)];exact aF,aF,hd,hv⟩) k
  have nP:∀ b,H b=none->b≠Pt:=λb e q=>by rw [q,hT] at e;cases e
  refine I.step (g':=s.gens) (d':=s.drawn) (ch:=[]) (λ_ z=>nomatch z) (λb o _ _ _ e n=>k b o (nP b n) e) (λb o _ _ _ e n=>⟨o.slots,k b o (nP b n) e⟩) (λb o _ e n=>?_) (λb o _ e=>?_) (λb xs e=>?_) (λb o u e=>?_)
   (λb ps e=>?_) (λm' hm'=>?_) (λb u e=>?_) I.bare
  ·rw [aH (bg (bA (aJ e) hge)),aH (nP b n)];exact n
  ·by_cases hb:b=Pt
   ·exact ⟨_,hb▸hP'⟩
   ·exact ⟨o,k b o hb e⟩
  ·exact st b _ (λq=>by rw [q,hT] at e;cases e) e
  ·exact st b _ (λq=>by rw [q,hT] at e;cases e) e
  ·by_cases hb:b=Pt
   ·subst hb;rw [hT] at e;cases e;exact ⟨#[cB pos.line,cB pos.col,.ref c'],by rw [aH (Ne.symm ncP),aF];simp⟩
   ·exact ⟨#[],by rw [st b _ hb e];simp⟩
  ·obtain ⟨o,es,ep,e,r⟩:=hm';exact ⟨o,es,ep,k _ o hL e,r⟩
  ·by_cases hb:b=c'
   ·subst hb;rw [aF] at e;cases e;exact ⟨hoc',trivial,⟨oc,hoc'⟩,λ_ _ _ _=>trivial⟩
   ·rw [aH hb] at e
    by_cases hb2:b=Pt
    ·subst hb2;rw [aF] at e;cases e;exact hP'
    ·rw [aH hb2] at e;refine (I.fo b u e).Ak (λd v hc q=>k d v ?_ q) (λd q=>st d _ (λz=>by rw [z,hT] at q;cases q) q) λd xs q=>st d _ (λz=>by rw [z,hT] at q;cases q) q;rintro rfl
     rcases hc with hc|hc
     ·exact hb2 hc.symm
     ·rw [hT] at hc;cases hc
 ·have hP:s.heap.get? Pt=some (Kk #[cB pos.line,cB pos.col,.ref c']):=I.fo Pt _ hT;refine PySem.W.kla_makeFunctionHit (mg:=X.mg) (cv:=.ref c') (uT hfr) I.ok.glob hg hcode C1 hP (by simp [TriplesOk,cB]) (by simp [codeAmong,cB]) B1 λctv h' tk hk hsz=>?_;have k:∀ b o,s.heap.get? b=some o->(h'.push (xB "<lambda>" (X.env.qual++"<lambda>") params body scope (nJ X.env.cells scope.names []) ((X.mg "__name__").getD .none) c' ctv)).get? b=some o:=λb o e=>ar _ (hk b o e);refine h h'.objs.size c' ctv _ tk H (I.kept k) (aI _ rfl) ⟨c',oc,vs,t,rfl,k _ _ (I.fo c' _ hc').1,hd,hv⟩ (λ_ _ _ e=>e) (.inr ⟨c',oc,vs,t,hT,hc',hd,hv⟩) λb o _ e=>k b o e
end
end L2
namespace L2
open PySem PySem.Spec PySem.Calls PyProof.Rows
open PySem.W (kla_fn kla_obj tabObj CodeHd)
section
variable {X:Cx}{c Pt:af}{e:Expr}{tx:TA}{x y:bj}{j:Nat}{params:ma}{scope:jx}{p0 p1 p2 p3 lpos kpos pos:lg}
end
end L2
namespace L2
open PySem PySem.Spec PySem.Calls PyProof.Rows
open PySem.W (tabObj CodeHd noTabs tabIn)
end L2
namespace L2
def Mj.okC {P:a6}{w:bO}{K:aa}{mg:bj->Option ai}{base:cf}{x qual:bj}{st:dz}{f:af}{fd:eK}{N ps:List bj}{k:Nat}{sp:Sp}{nE:ai}(F:Mj K x qual st f fd) (hc:fd.code=nE) (S:bF N ps (aW st)) (len:∀ vs H Q E,sp vs H Q E->vs.length=ps.length)
  (hbody:∀ (A:bR) (outer:List EH) (s:ao) (H:Hp) (vs:List V) (Q:VK) (E:XK),h8 k (A.deeper (tR qual (aW st) s.heap.objs.size f nE))->sp vs H Q E ->
   ∃ t,Kt (FV Iu P w K mg base N qual (aW st) f nE A outer s H E).Vy (j7 st) t/\t { nx:=λ_ H'=>Q .non H',rt:=Q } (start N vs) H):k9 P w K mg base Iu (k+1) f fd ps sp:=by
 obtain ⟨oc,od,kV,doc,pm,an,cdv',ct,osl,rfl,lk,hcd⟩:=F.ex;have e:cdv'=nE:=hc;subst e;refine UG lk hcd S len λA outer s H vs Q E hr hsp=>?_;obtain ⟨t,h,q⟩:=hbody A outer s H vs Q E hr hsp;exact ⟨t,h.Vy,q⟩
end L2
namespace L2
end L2
namespace L2
def qE.same {Pt:af}{p:lg}{q:bj}{H H':Hp}(h:qE Pt p q H) (e:bN H H'):qE Pt p q H':=by
 rcases h with h|⟨c',oc,vs,t,h1,h2,h3,h4⟩
 ·exact .inl (e _ _ h)
 ·exact .inr ⟨c',oc,vs,t,e _ _ h1,e _ _ h2,h3,h4⟩
def pD.tup {Pt:af}{p:lg}{q:bj}{H H':Hp}(S:pD Pt H H') (L:qE Pt p q H) {b:af}{xs:List V}(e:H b=some (.tup xs)):H' b=some (.tup xs):=by
 obtain ⟨ps,h⟩:=L.tbl;exact S b _ (λz=>by rw [z,h] at e;cases e) e
def pD.free {Pt:af}{p:lg}{q:bj}{H H':Hp}(S:pD Pt H H') (L':qE Pt p q H') {b:af}(e:H' b=none):H b=none:=by
 cases h:H b with
 | none=>rfl
 | some o =>
  obtain ⟨ps,ht⟩:=L'.tbl;rw [S b o (λz=>by rw [z,ht] at e;cases e) h] at e;cases e
end L2
namespace L2
section
variable {K:aa}{Z:St}{H:Hp}{Q:VK}
def vO {σ0:St}{g:TG}{tt:TT}{te:TE}{z acc:af}{xs:List V}{R:Hp->Prop}{α:Type} (items:List α) (p:α->Bool) (f:α->V) (S:St->Prop) (hlen:items.length=xs.length) (hz:c6 K H z xs) (ha:H acc=none) (s0:S σ0) (hs:xs.length<=100000)
  (turn:∀ (i:Nat) (a:α) (x:V) (σ':St) (H':Hp) (G:V->St->Hp->Prop) (G':St->Hp->Prop),items[i]?=some a->xs[i]?=some x->bN H H'->S σ'->(p a=true->∀ σ2,S σ2->G (f a) σ2 H')->(p a=false->∀ σ2,S σ2->G' σ2 H') ->
   g x σ' H' λσ2 H3=>tt σ2 H3 λb H4=>if b=true then te σ2 H4 λy H5=>G y σ2 H5 else G' σ2 H4)
  (fin:∀ H',bN H H'->H' acc=some (.lst ((items.filter p).map f))->R H') :
  ∃ W:Nat->Nat->List V->St->Hp->Prop,(∃ m,W 0 m [] σ0 (upd H acc (.lst [])))/\∀ i m ys σ' H',W i m ys σ' H'->H' acc=some (.lst ys) /\
  (((HR K z).stop i H'/\R H')\/((HR K z).go i H'/\∀ x H2,(HR K z).Ka i H' x H2->g x σ' H2 λσ2 H3=>tt σ2 H3 λb H4 =>
   if b=true then te σ2 H4 λy H5=>H5 acc=some (.lst ys)/\ys.length<aV/\∃ m',m'<m/\W (i+1) m' (ys++[y]) σ2 (upd H5 acc (.lst (ys++[y]))) else ∃ m',m'<m/\W (i+1) m' ys σ2 H4)):=by
 refine mF (n:=xs.length) (λi ys H'=>ys=((items.take i).filter p).map f/\H' acc=some (.lst ys)/\bN H H') S ⟨by simp,aF,bN.cK ha⟩ s0 ?_ ?_ ?_ ?_
 ·rintro i ys H' ⟨_,h,_⟩;exact h
 ·rintro ys H' ⟨e,h,S'⟩;refine ⟨⟨_,S'.seq hz,av _⟩,fin H' S' ?_⟩;rw [h,e,b9 (by lia)]
 ·rintro i ys H' hi ⟨e,h,S'⟩;exact ⟨_,_,S'.seq hz,ay hi⟩
 ·rintro i ys σ' H' x H2 hi ⟨e,h,S'⟩ hσ ⟨e2,hx⟩;subst e2;have hxi:=hx _ (S'.seq hz)
  obtain ⟨a,hai⟩:∃ a,items[i]?=some a:=⟨_,ay (by lia)⟩
  have et:items.take (i+1)=items.take i++[a]:=by rw [dP,hai];rfl
  refine turn i a x σ' H2 _ _ hai hxi S' hσ (λhp σ2 h2=>?_) λhp σ2 h2=>?_
  ·refine ⟨h,bf (m:=i) ?_ (bA hi (bI hs)),ky.mk' hi h2 ⟨?_,aF,λb o q=>by rw [aH (aQ q ha)];exact S' _ _ q⟩⟩
   ·rw [e,ag];exact bu (cw _ _) (by rw [bK];lia)
   ·rw [et,e,cU,aP];simp [hp]
  ·refine ky.mk' hi h2 ⟨?_,h,S'⟩;rw [et,e,cU,aP];simp [hp]
theorem pT:∀ ns:List Int,jo (ns.map .int)=true
 | []=>rfl
 | n::ns=>by simp only [b0,jo,hW];exact ⟨by simp [mh],pT ns⟩
theorem Bi:∀ ns:List Int,fF (ns.map .int)<=1
 | []=>by simp [fF]
 | n::ns=>by
  have:=Bi ns;simp only [b0,fF]
  have e:(FJ n).depth<=1:=by simp [lz]
  lia
def Bj {H:Hp}{a:af}{ns:List Int}(h:c6 K H a (ns.map V.int)):Rep K H (.list (ns.map .int)) (.ref a):=.lst h (eD.ints ns)
end
end L2
namespace BootT
open PySem
def sum:dI "sum"=some (.builtin "sum"):=by decide +kernel
def zip:dI "zip"=some (.type "zip"):=by decide +kernel
def set:dI "set"=some (.type "set"):=by decide +kernel
end BootT
namespace L2
open PySem PySem.Spec PyProof.Rows PySem.SeqAt
section
variable {X:Cx}
def P8 (K:aa):V->List V->Hp->VK->Prop:=λx vs H Q=>∃ (l:af) (ns:List Int) (k:Int),x=.ref l/\vs=[.int k]/\c6 K H l (ns.map V.int)/\k∈ns/\Q (.int (ns.idxOf k:Nat)) H
def P9:Sd X "list.index" (P8 X.K):=by
 intro pins s Z H x vs v us Q I rx rv h;obtain ⟨l,ns,k,rfl,rfl,hq,hk,q⟩:=h;cases rx;obtain ⟨u,rfl,t,rfl⟩:=rv.one;obtain ⟨its,r,pl,hz⟩:=I.list hq;have hi:fz its ns:=intsAre_of r;have hlen:=hi.length;have hl2:=r.length;have hj:ns.idxOf k<ns.length:=eN.mpr hk;have h63:=qR;rw [ag] at hz hl2;obtain ⟨⟨cls,dd,data,sl⟩,ho,hc,n,hd⟩:=pl.isList;simp only at hc hd;subst hc hd
 refine OH gB ⟨_,ho,rfl⟩ HC (FK _ _)
  (list_indexAt l its.toArray n dd sl (.int k t) (isInt k) (ns.idxOf k) (by rw [aO];lia) (by lia) ?_ ?_) ⟨ho,λy hy=>(eq_isInt k t hi y (by simpa using hy)).at _ _,⟨.int _,H,I.tok _,⟨_,rfl⟩,q⟩⟩
 ·show isInt k its[ns.idxOf k]=true
  rw [isInt_at k hi _ (by lia) hj]
  simpa using oG hj
 ·intro j hjs hlt
  show isInt k its[j]=false
  rw [isInt_at k hi j (by simpa using hjs) (by lia)];exact ne_of_lt_idxOf hlt _
def MF (K:aa):V->List V->Hp->VK->Prop:=λx vs H Q=>∃ (l:af) (y:V) (ds:List PyData) (d:PyData) (j:Nat) (ej:PyData),x=.ref l/\vs=[y]/\Rep K H (.list ds) (.ref l)/\Rep K H d y/\vM d/\gF ds=true /\
 ds.length<=aV/\ds[j]?=some ej/\cM ej d=true/\(∀ m e,m<j->ds[m]?=some e->cM e d=false)/\Q (.int (j:Nat)) H
def N0 (hu:X.A.units+64<gZ):Sd X "list.index" (MF X.K):=by
 intro pins s Z H x vs v us Q I rx rv h;obtain ⟨l,y,ds,d,j,ej,rfl,rfl,hR,hd,hf,hc,hz,hj,he,hno,q⟩:=h;cases rx;obtain ⟨u,rfl,ru⟩:=rv.one;obtain ⟨as,r1⟩:=Rep.reads I _ _ _ hR rfl;obtain ⟨bs,r2⟩:=Rep.reads I d y u hd ru;have h63:=qR;have hdep:=hf.dep;have hjl:j<ds.length:=(aC.mp hj).1
 cases r1 with
 | @list _ o items n _ as2 h1 h2 h3 h4 =>
  obtain ⟨cls,dd,data,sl⟩:=o;have h2':cls=_:=h2;have h3':data=_:=h3;subst h2' h3';have hm:=readsAll_map _ _ _ hc h4
  have hsz:items.size=ds.length:=by rw [← hm,ag,aL]
  have at_:∀ (m:Nat) (hm':m<items.size) (e:PyData),ds[m]?=some e->Kl s.heap items[m]=e:=λm hm' e z=>by
   rw [← hm,aB,dm,bX hm'] at z;exact aY z
  refine OH gB ⟨_,h1,rfl⟩ HC (FK _ _)
   (list_indexAt l items n dd sl u (λy=>cM (Kl s.heap y) d) j (by lia) (by lia) ?_ ?_) ⟨h1,items_eqAt h4 r2 hc hf.lay (by lia),⟨.int _,H,I.tok _,⟨_,rfl⟩,q⟩⟩
  ·show cM (Kl s.heap items[j]) d=true
   rw [at_ j (by lia) _ hj];exact he
  ·intro m hm' hlt
   obtain ⟨e,z⟩:∃ e,ds[m]?=some e:=⟨_,ay (by lia)⟩
   show cM (Kl s.heap items[m]) d=false
   rw [at_ m hm' e z];exact hno m e hlt z
def Sd.or {id:String}{r r':V->List V->Hp->VK->Prop}(h:Sd X id r) (h':Sd X id r'):Sd X id (λx vs H Q=>r x vs H Q\/r' x vs H Q):=by
 intro pins s Z H x vs v us Q I rx rv z
 rcases z with z|z
 ·exact h pins s Z H x vs v us Q I rx rv z
 ·exact h' pins s Z H x vs v us Q I rx rv z
def pU (K:aa):V->List V->Hp->VK->Prop:=λx vs H Q=>P8 K x vs H Q\/MF K x vs H Q
def sS (hu:X.A.units+64<gZ):Sd X "list.index" (pU X.K):=P9.or (N0 hu)
variable {tg:Expr}
def MG {K:aa}{l:af}{ns:List Int}{k:Int}{H:Hp}{Q:VK}(h:c6 K H l (ns.map V.int)) (hk:k∈ns) (q:Q (.int (ns.idxOf k:Nat)) H):pU K (.ref l) [.int k] H Q:=.inl ⟨l,ns,k,rfl,rfl,h,hk,q⟩
end
end L2
namespace L2
end L2
namespace L2
section
variable {K:aa}{H:Hp}{Q:VK}{a:af}{xs:List V}{ns:List Int}{i i':Int}{j j':Nat}
def Gb {n d:Nat}(h:i=(j:Int)):HT.lB n d (some i)=min j n:=by subst h;exact HT.SS n d j
def IC (h:i=(j:Int)):uQ xs (some i) none=xs.drop j:=by
 unfold uQ;rw [Gb h,HT.Im]
 by_cases e:j<=xs.length
 ·rw [kT e,b9 (by rw [cQ];lia)]
 ·rw [mN (by lia),lT (av _),lT (by lia)];simp
def uU (h:i=(j:Int)):uQ xs none (some i)=xs.take j:=by
 unfold uQ;rw [Gb h,HT.Im,HU,Nat.sub_zero]
 by_cases e:j<=xs.length
 ·rw [kT e]
 ·rw [mN (by lia),b9 (av _),b9 (by lia)]
def MH (h:i=(j:Int)) (h':i'=(j':Int)):uQ xs (some i) (some i')=(xs.drop j).take (j'-j):=by
 unfold uQ;rw [Gb h,Gb h']
 by_cases e:j<=xs.length
 ·rw [kT e]
  by_cases e':j'<=xs.length
  ·rw [kT e']
  ·rw [mN (by lia),b9 (by rw [cQ];lia),b9 (by rw [cQ];lia)]
 ·rw [lT (show xs.length<=min j xs.length by lia),lT (show xs.length<=j by lia)];simp
def vP (h:c6 K H a (ns.map V.int)) (e:i=(j:Int)) (k:∀ p,H p=none->Q (.ref p) (upd H p (.lst ((ns.drop j).map V.int)))):oM K (.ref a) (some i) none H Q :=
 E7 h λp hp=>by rw [IC e,← qz];exact k p hp
def Qa (h:c6 K H a (ns.map V.int)) (e:i=(j:Int)) (k:∀ p,H p=none->Q (.ref p) (upd H p (.lst ((ns.take j).map V.int)))):oM K (.ref a) none (some i) H Q :=
 E7 h λp hp=>by rw [uU e,← hJ];exact k p hp
def MI (h:c6 K H a (ns.map V.int)) (e:i=(j:Int)) (e':i'=(j':Int)) (k:∀ p,H p=none->Q (.ref p) (upd H p (.lst (((ns.drop j).take (j'-j)).map V.int)))):oM K (.ref a) (some i) (some i') H Q :=
 E7 h λp hp=>by rw [MH e e',← qz,← hJ];exact k p hp
def Gc {l b:af}{ms:List Int}(h:H l=some (.lst (ns.map V.int))) (h':H b=some (.lst (ms.map V.int))) (hl:ns.length+ms.length<=100000) (k:∀ p,H p=none->Q (.ref p) (upd H p (.lst ((ns++ms).map V.int)))):eO (.ref l) (.ref b) H Q :=
 PU h h' (by rw [ag,ag];exact bI hl) λp hp=>by rw [← aP];exact k p hp
def Tg {j:Nat}{v:Int}(h:ns[j]?=some v):(ns.map V.int)[j]?=some (.int v):=by rw [aB,h];rfl
def yQ {v:Int}(h:c6 K H a (ns.map V.int)) (e:i=(j:Int)) (g:ns[j]?=some v) (k:Q (.int v) H):dr K (.ref a) (.int i) H Q:=jU h (d9 e (Tg g)) k
def Qb (h:c6 K H a (ns.map V.int)) (k:Q (.int ns.length) H):tH K [.ref a] H Q:=pR h (by rw [ag];exact k)
end
end L2
namespace L2
section
variable {K:aa}{Z:St}{H:Hp}{Q:VK}
def ID {σ0:St}{g:TG}{te:TE}{J:It}{n:Nat}{acc:af}{R:Hp->Prop}(E:Nat->V->Hp->Prop) (X:Nat->V->Prop) (S:St->Prop) (ha:H acc=none) (s0:S σ0) (hn:n<=100000)
  (hgo:∀ i H',bN H H'->i<n->J.go i H') (hstop:∀ H',bN H H'->J.stop n H') (hy:∀ i H' x H2,bN H H'->i<n->J.Ka i H' x H2->H2=H'/\X i x)
  (st:∀ i y H1 H2 zs,H1 acc=some (.lst zs)->bq acc H1 H2->E i y H1->E i y H2)
  (turn:∀ (i:Nat) (x:V) (σ':St) (H':Hp) (G:V->St->Hp->Prop),i<n->X i x->bN H H'->S σ'->(∀ y σ2 H5,S σ2->bN H' H5->E i y H5->G y σ2 H5)->g x σ' H' λσ2 H3=>te σ2 H3 λy H5=>G y σ2 H5)
  (fin:∀ ys H',ys.length=n->H' acc=some (.lst ys)->bN H H'->(∀ i y,ys[i]?=some y->E i y H')->R H') :
  ∃ W:Nat->Nat->List V->St->Hp->Prop,(∃ m,W 0 m [] σ0 (upd H acc (.lst [])))/\∀ i m ys σ' H',W i m ys σ' H'->H' acc=some (.lst ys) /\
  ((J.stop i H'/\R H')\/(J.go i H'/\∀ x H2,J.Ka i H' x H2->g x σ' H2 λσ2 H3=>pQ σ2 H3 λb H4 =>
   if b=true then te σ2 H4 λy H5=>H5 acc=some (.lst ys)/\ys.length<aV/\∃ m',m'<m/\W (i+1) m' (ys++[y]) σ2 (upd H5 acc (.lst (ys++[y]))) else ∃ m',m'<m/\W (i+1) m' ys σ2 H4)):=by
 refine mF (n:=n) (tt:=pQ) (λi ys H'=>ys.length=i/\H' acc=some (.lst ys)/\bN H H'/\∀ j y,ys[j]?=some y->E j y H') S ⟨rfl,aF,bN.cK ha,λj y e=>by simp at e⟩ s0 ?_ ?_ ?_ ?_
 ·rintro i ys H' ⟨_,h,_⟩;exact h
 ·rintro ys H' ⟨e,h,S',hE⟩;exact ⟨hstop H' S',fin ys H' e h S' hE⟩
 ·rintro i ys H' hi ⟨e,h,S',hE⟩;exact hgo i H' S' hi
 ·rintro i ys σ' H' x H2 hi ⟨e,h,S',hE⟩ hσ hyl;obtain ⟨rfl,hX⟩:=hy i H' x H2 S' hi hyl;have z:=turn i x σ' H2 (λy σ2 H5=>H5 acc=some (.lst ys)/\ys.length<aV/\∃ m',m'<n-i/\ky n (i+1) S (λys H'=>ys.length=i+1/\H' acc=some (.lst ys)/\bN H H'/\∀ j y,ys[j]?=some y->E j y H') m' (ys++[y]) σ2 (upd H5 acc (.lst (ys++[y])))) hi hX S' hσ ?_
  ·exact z
  ·intro y σ2 H5 h2 S5 hE5;refine ⟨S5 _ _ h,eP (m:=100000) (by lia),ky.mk' hi h2 ⟨by rw [bz,e];rfl,aF,λb o q=>by rw [aH (aQ q ha)];exact S5 _ _ (S' _ _ q),λj v hv=>?_⟩⟩;have hb:bq acc H5 (upd H5 acc (.lst (ys++[y]))):=bq.upd
   by_cases hj:j<ys.length
   ·rw [fQ hj] at hv;exact st j v _ _ _ (S5 _ _ h) hb (st j v _ _ _ h (bq.same S5) (hE j v hv))
   ·rw [dY (by lia)] at hv
    have ej:j=i:=by
     by_cases z:j-ys.length=0
     ·lia
     ·rw [cV (by simp;lia)] at hv;cases hv
    subst ej;rw [e,Nat.sub_self] at hv
    have ev:y=v:=by simpa using hv
    subst ev;exact st j y _ _ _ (S5 _ _ h) hb hE5
def vQ {σ0:St}{g:TG}{te:TE}{lo:Int}{n:Nat}{acc:af}{R:Hp->Prop}(E:Nat->V->Hp->Prop) (S:St->Prop) (ha:H acc=none) (s0:S σ0) (hn:n<=100000)
  (st:∀ i y H1 H2 zs,H1 acc=some (.lst zs)->bq acc H1 H2->E i y H1->E i y H2)
  (turn:∀ (i:Nat) (σ':St) (H':Hp) (G:V->St->Hp->Prop),i<n->bN H H'->S σ'->(∀ y σ2 H5,S σ2->bN H' H5->E i y H5->G y σ2 H5)->g (.int (lo+i)) σ' H' λσ2 H3=>te σ2 H3 λy H5=>G y σ2 H5)
  (fin:∀ ys H',ys.length=n->H' acc=some (.lst ys)->bN H H'->(∀ i y,ys[i]?=some y->E i y H')->R H') :
  ∃ W:Nat->Nat->List V->St->Hp->Prop,(∃ m,W 0 m [] σ0 (upd H acc (.lst [])))/\∀ i m ys σ' H',W i m ys σ' H'->H' acc=some (.lst ys) /\
  (((Pl lo n).stop i H'/\R H')\/((Pl lo n).go i H'/\∀ x H2,(Pl lo n).Ka i H' x H2->g x σ' H2 λσ2 H3=>pQ σ2 H3 λb H4 =>
   if b=true then te σ2 H4 λy H5=>H5 acc=some (.lst ys)/\ys.length<aV/\∃ m',m'<m/\W (i+1) m' (ys++[y]) σ2 (upd H5 acc (.lst (ys++[y]))) else ∃ m',m'<m/\W (i+1) m' ys σ2 H4)) :=
 ID E (λi x=>x=.int (lo+i)) S ha s0 hn (λi H' _ h=>h) (λH' _=>av n) (λi H' x H2 _ _ h=>h) st (λi x σ' H' G hi hX S' hσ k=>by subst hX;exact turn i σ' H' G hi S' hσ k) fin
def Qc {σ0:St}{g:TG}{te:TE}{z acc:af}{xs:List V}{R:Hp->Prop}(E:Nat->V->Hp->Prop) (S:St->Prop) (hz:c6 K H z xs) (ha:H acc=none) (s0:S σ0) (hn:xs.length<=100000)
  (st:∀ i y H1 H2 zs,H1 acc=some (.lst zs)->bq acc H1 H2->E i y H1->E i y H2)
  (turn:∀ (i:Nat) (x:V) (σ':St) (H':Hp) (G:V->St->Hp->Prop),i<xs.length->xs[i]?=some x->bN H H'->S σ'->(∀ y σ2 H5,S σ2->bN H' H5->E i y H5->G y σ2 H5)->g x σ' H' λσ2 H3=>te σ2 H3 λy H5=>G y σ2 H5)
  (fin:∀ ys H',ys.length=xs.length->H' acc=some (.lst ys)->bN H H'->(∀ i y,ys[i]?=some y->E i y H')->R H') :
  ∃ W:Nat->Nat->List V->St->Hp->Prop,(∃ m,W 0 m [] σ0 (upd H acc (.lst [])))/\∀ i m ys σ' H',W i m ys σ' H'->H' acc=some (.lst ys) /\
  (((HR K z).stop i H'/\R H')\/((HR K z).go i H'/\∀ x H2,(HR K z).Ka i H' x H2->g x σ' H2 λσ2 H3=>pQ σ2 H3 λb H4 =>
   if b=true then te σ2 H4 λy H5=>H5 acc=some (.lst ys)/\ys.length<aV/\∃ m',m'<m/\W (i+1) m' (ys++[y]) σ2 (upd H5 acc (.lst (ys++[y]))) else ∃ m',m'<m/\W (i+1) m' ys σ2 H4)) :=
 ID E (λi x=>xs[i]?=some x) S ha s0 hn (λi H' S' h=>⟨xs,_,S'.seq hz,ay h⟩) (λH' S'=>⟨xs,S'.seq hz,av _⟩) (λi H' x H2 S' _ h=>⟨h.1,h.2 xs (S'.seq hz)⟩) st turn fin
end
end L2
namespace Sx
open PySem PySem.W PyProof.Rows
variable {n:Nat}{k:Nat->Int}
end Sx
namespace L2
open PySem PySem.Spec PyProof.Rows PySem.W
def WD {h:cf}{a:af}{m m':bj->Option ai}(x:h.Ns a m) (y:h.Ns a m'):m=m':=by
 obtain ⟨o,es,ep,e,d,_,r⟩:=x;obtain ⟨o',es',ep',e',d',_,r'⟩:=y;rw [e] at e';cases e';rw [d] at d';cases d'
 funext n
 rw [← r n,← r' n]
def fg.obj {P:a6}{w:bO}{H:Hp}{h:cf}{a:af}{o:HO}(x:fg P w H h a o):∃ ob,h.get? a=some ob:=by
 cases o with
 | lst xs=>obtain ⟨_,_,_,_,e⟩:=x;exact ⟨_,e⟩
 | tup xs=>obtain ⟨_,_,_,ob,e,_⟩:=x;exact ⟨_,e⟩
 | dK kvs=>obtain ⟨_,_,_,_,ob,_,_,e,_⟩:=x;exact ⟨_,e⟩
 | dT kvs=>obtain ⟨_,_,_,_,ob,_,_,e,_⟩:=x;exact ⟨_,e⟩
 | set S n=>obtain ⟨ob,_,_,_,e,_⟩:=x;exact ⟨_,e⟩
 | ins C dx fs=>obtain ⟨_,_,_,e,_⟩:=x;exact ⟨_,e⟩
 | own y=>exact x
 | xd fs=>obtain ⟨_,⟨ob,_,_,e,_⟩,_⟩:=x;exact ⟨_,e⟩
 | rng lo hi=>obtain ⟨_,_,_,e⟩:=x;exact ⟨_,e⟩
 | frz ob u=>exact ⟨_,x.1⟩
 | tbl ps=>exact ⟨_,x⟩
 | met f y=>exact ⟨_,x⟩
 | ext φ=>exact x.2.1
section
variable {X:Cx}{pins:List (af×fT)}{Z:St}{H:Hp}{s:ao}
def Inv.RL {h':cf}{m:bj->Option ai}{t':Nat}{D:af}{ob:fT}{o:HO}(I:Inv X pins Z H s) (hm:s.heap.Ns X.env.locals m) (F:Fr X.base X.env.locals h' m)
  (N:News X.base X.env.locals h' ((D,ob)::sN X.base s.heap X.env.locals)) (hD:∀ q∈sN X.base s.heap X.env.locals,q.1<D) (new:fg X.prog X.w (upd H D o) h' D o):H D=none/\Inv X pins Z (upd H D o) { s with heap:=h',toks:=t' }:=by
 have nd:=N (D,ob) aw
 have gD:s.heap.get? D=none:=by
  cases q:s.heap.get? D with
  | none=>rfl
  | some u=>exact absurd (hD (D,u) (yL nd.2.1 nd.2.2 q)) (eS _)
 have hn:H D=none:=by
  cases q:H D with
  | none=>rfl
  | some u =>
   obtain ⟨w,e⟩:∃ w,s.heap.get? D=some w:=(I.fo D u q).obj;rw [gD] at e;cases e
 have k:∀ b o,b≠X.env.locals->s.heap.get? b=some o->h'.get? b=some o:=λb o h1 e=>by
  cases q:X.base.get? b with
  | some u =>
   have z:=I.bk b u q;rw [e] at z;cases z
   exact F.keep b _ q
  | none=>exact (N (b,o) (aj _ (yL h1 q e))).1
 have nD:∀ b o,s.heap.get? b=some o->b≠D:=λb o e z=>by rw [z,gD] at e;cases e
 have hH:∀ b u,H b=some u->b≠D:=λb u e=>aQ e hn
 refine ⟨hn,I.step (g':=s.gens) (d':=s.drawn) (ch:=[]) (λ_ z=>nomatch z) (λb o h1 _ _ e _=>k b o h1 e) (λb o h1 _ _ e _=>⟨o.slots,k b o h1 e⟩) (λb o _ e n=>by rw [aH (nD b o e)];exact n) (λb o _ e=>?_)
  (λb _ e=>by rw [aH (hH b _ e)];exact e) (λb _ _ e=>by rw [aH (hH b _ e)];exact e) (λb ps e=>⟨#[],by rw [aH (hH b _ e),e];simp⟩) (λm' hm'=>by rw [← WD hm hm'];exact F.ns) (λb u e=>?_) I.bare⟩
 ·by_cases hb:b=X.env.locals
  ·subst hb;obtain ⟨o',_,_,e',_⟩:=F.ns;exact ⟨o',e'⟩
  ·exact ⟨o,k b o hb e⟩
 ·by_cases hb:b=D
  ·subst hb;rw [aF] at e;cases e;exact new
  ·rw [aH hb] at e
   refine (I.fo b u e).Ak (λc v hc q=>k c v ?_ q) (λc q=>by rw [aH (hH c _ q)];exact q) λc _ q=>by rw [aH (hH c _ q)];exact q
   rintro rfl
   rcases hc with hc|hc
   ·rw [← hc,I.free] at e;cases e
   ·rw [I.free] at hc;cases hc
end
theorem IE {α:Type} {p q:α->Bool}:∀ {l:List α}{x:α},(∀ y∈l,p y=true->q y=true)->x∈l->p x=false->q x=true->l.countP p<l.countP q
 | y::l,x,h,hx,h1,h2=>by
  have hl:∀ y∈l,p y=true->q y=true:=λy hy=>h y (aj _ hy);have hle:l.countP p<=l.countP q:=OL hl;rw [VH,VH]
  rcases au.mp hx with e|hx
  ·subst e;rw [h1,h2];simp;lia
  ·have hlt:=IE hl hx h1 h2
   by_cases hp:p y=true
   ·rw [if_pos hp,if_pos (h y aw hp)];lia
   ·rw [if_neg hp];lia
abbrev Zt:=Int×Int×af
def zP (z:Zt):Int×Int:=(z.1,z.2.1)
def dQ (z:Zt):V:=.ref z.2.2
def fG (H:Hp) (z:Zt):Prop:=H z.2.2=some (.tup [.int z.1,.int z.2.1])
section
variable {prog:a6}{w:bO}{A:bR}{s:ao}
end
end L2
namespace L2
open PySem PySem.Spec PyProof.Rows PySem.W
theorem E8:∀ zs:List Zt,Vals (zs.map dQ) (zs.map λz=>aD z.2.2)
 | []=>.nil
 | z::zs=>.cons rfl (E8 zs)
section
variable {X:Cx}
end
section
variable {X:Cx}
end
end L2
namespace Zl
open PySem PySem.W PyProof.Rows
section
variable {prog:a6}{w:bO}{A:bR}{E:ai->ao->Prop}{s:ao}{z TI TO i1 i2 l1 l2:af}{xs ys:Array ai}{k:Nat}
abbrev Bk (h:cf) (z TI TO T:af) (f:Bool):Prop:=h.get? z=some { cls:=.type "zip",dict:=none,data:=.fields #[cB T,.bool f,.bool false,.ref TI,.ref TO],slots:=#[] }
def IF {T:af}{f:Bool}{oT:fT}{Q:Bool->ao->Prop}(hz:Bk s.heap z TI TO T f) (hT:s.heap.get? T=some oT)
  (hQ:∀ h',Bk h' z TI TO T true->gY z s.heap h'->Q false { s with heap:=h' }):aG (aM prog w) A (f9 (.ref z)) Q E s:=by
 unfold f9;refine ae (kD hz rfl (x:=cB T) rfl ?_);unfold cB;dsimp only;refine ae (kdx_alive (a:=T) hT ?_);simp only [O3,bY,if_false];refine ae (kD hz rfl (x:=.bool f) rfl ?_)
 cases f with
 | true =>
  rw [if_neg (by decide)]
  exact ak (hQ s.heap hz ⟨rfl,λb hb=>rfl⟩)
 | false =>
  rw [if_pos (by decide)];exact ae (wpAny_setField_rec hz (by simp) λh' hz' hs'=>ak (hQ h' hz' hs'))
def Qd {T:af}{f:Bool}{oT:fT}{x y:ai}{Q:ai->ao->Prop}(D:Ap z TI TO i1 i2 l1 l2) (hz:Bk s.heap z TI TO T f) (hT:s.heap.get? T=some oT) (hTI:tT s.heap TI (.ref i1) (.ref i2))
  (h1:s.heap.IsListIter i1 l1 k) (h2:s.heap.IsListIter i2 l2 k) (hl1:s.heap.IsList l1 xs) (hl2:s.heap.IsList l2 ys) (hx:xs[k]?=some x) (hy:ys[k]?=some y)
  (hQ:∀ h',Bk h' z TI TO T true->h'.IsListIter i1 l1 (k+1)->h'.IsListIter i2 l2 (k+1)->tT h' s.heap.objs.size x y ->
   (∀ c o,c≠z->c≠i1->c≠i2->s.heap.get? c=some o->h'.get? c=some o)->Q (.ref s.heap.objs.size) { s with heap:=h' }) :
  aG (aM prog w) A (gG.«zip.__next__» ⟨[.ref z],[]⟩) (λfin s'=>∃ v,fin=.done (.ret v)/\Q v s') E s:=by
 show aG _ _ (field (.ref z) 2 >>= _) _ _ _
 refine ae (kD hz rfl (x:=.bool false) rfl ?_)
 show aG _ _ (field (.ref z) 3 >>= _) _ _ _
 refine ae (kD hz rfl (x:=.ref TI) rfl (ae (wpAny_seqItems hTI rfl ?_)))
 show aG _ _ (f9 (.ref z) >>= _) _ _ _
 refine ae (IF hz hT λh₀ z₀ s₀=>?_);simp only [bY,if_false];refine ae ?_;rw [← RX];simp only [tS,HV];refine ae (ae (cA ?_))
 show aG _ _ (jb (.ref i1) >>= _) _ _ _
 refine ae (xC (s:={ s with heap:=h₀ }) (h1.extBut s₀.extBut D.i1z) (hl1.extBut s₀.extBut D.l1z) hx λh₁ j₁ s₁=>ak (ak ?_));refine ae (ae (cA ?_))
 show aG _ _ (jb (.ref i2) >>= _) _ _ _
 refine ae (xC (s:={ s with heap:=h₁ }) ((h2.extBut s₀.extBut D.i2z).extBut s₁.extBut D.i12.symm) ((hl2.extBut s₀.extBut D.l2z).extBut s₁.extBut D.l2i1) hy λh₂ j₂ s₂=>ak (ak (ak ?_)))
 have sz:h₂.objs.size=s.heap.objs.size:=by rw [s₂.1,s₁.1,s₀.1]
 have zz:Bk h₂ z TI TO T true:=s₂.extBut _ _ D.i2z.symm (s₁.extBut _ _ D.i1z.symm z₀);have kp:∀ c o,c≠z->c≠i1->c≠i2->s.heap.get? c=some o->h₂.get? c=some o:=λc o c1 c2 c3 e=>s₂.extBut _ _ c3 (s₁.extBut _ _ c2 (s₀.extBut _ _ c1 e));refine ae (Aq ?_ (by show 2<=aV;exact L2.bI (m:=2) (av 2)));refine ak ⟨_,rfl,?_⟩
 show Q (.ref h₂.objs.size) { s with heap:=h₂.push { cls:=.type "tuple",data:=.seq #[x,y] } }
 rw [sz];refine hQ _ (ar _ zz) ((Heap.IsListIter.extBut j₁ s₂.extBut D.i12).at λo e=>ar _ e) (j₂.at λo e=>ar _ e) (by rw [← sz];exact aI _ rfl) λc o c1 c2 c3 e=>ar _ (kp c o c1 c2 c3 e)
def Th {T:af}{f:Bool}{oT:fT}{Q:Kx->ao->Prop}(hh:A.handled=none) (D:Ap z TI TO i1 i2 l1 l2) (hz:Bk s.heap z TI TO T f) (hT:s.heap.get? T=some oT) (hTI:tT s.heap TI (.ref i1) (.ref i2))
  (h1:s.heap.IsListIter i1 l1 k) (h2:s.heap.IsListIter i2 l2 k) (hl1:s.heap.IsList l1 xs) (hl2:s.heap.IsList l2 ys) (hend:xs[k]?=none\/ys[k]?=none)
  (hE:∀ h' e,(∀ c o,c≠z->c≠i1->c≠i2->s.heap.get? c=some o->h'.get? c=some o)->(∃ o,h'.get? e=some o/\o.cls=.type "StopIteration")->E (.ref e) { s with heap:=h' }) :
  aG (aM prog w) A (gG.«zip.__next__» ⟨[.ref z],[]⟩) Q E s:=by
 show aG _ _ (field (.ref z) 2 >>= _) _ _ _
 refine ae (kD hz rfl (x:=.bool false) rfl ?_)
 show aG _ _ (field (.ref z) 3 >>= _) _ _ _
 refine ae (kD hz rfl (x:=.ref TI) rfl (ae (wpAny_seqItems hTI rfl ?_)))
 show aG _ _ (f9 (.ref z) >>= _) _ _ _
 refine ae (IF hz hT λh₀ z₀ s₀=>?_);simp only [bY,if_false];refine ae ?_;rw [← RX];simp only [tS,HV];refine ae (ae (cA ?_))
 show aG _ _ (jb (.ref i1) >>= _) _ _ _
 cases hx:xs[k]? with
 | none=>exact ae (VI (s:={ s with heap:=h₀ }) hh (h1.extBut s₀.extBut D.i1z) (hl1.extBut s₀.extBut D.l1z) hx λh₁ e s₁ he=>hE h₁ e (λc o c1 c2 c3 q=>s₁ _ _ c2 (s₀.extBut _ _ c1 q)) he)
 | some x =>
  have hy:ys[k]?=none:=by rcases hend with q|q;rw [hx] at q;cases q;exact q
  refine ae (xC (s:={ s with heap:=h₀ }) (h1.extBut s₀.extBut D.i1z) (hl1.extBut s₀.extBut D.l1z) hx λh₁ j₁ s₁=>ak (ak ?_));refine ae (ae (cA ?_))
  show aG _ _ (jb (.ref i2) >>= _) _ _ _
  exact ae (VI (s:={ s with heap:=h₁ }) hh ((h2.extBut s₀.extBut D.i2z).extBut s₁.extBut D.i12.symm) ((hl2.extBut s₀.extBut D.l2z).extBut s₁.extBut D.l2i1) hy λh₂ e s₂ he =>
   hE h₂ e (λc o c1 c2 c3 q=>s₂ _ _ c3 (s₁.extBut _ _ c2 (s₀.extBut _ _ c1 q))) he)
structure ZS (h:cf) (z TI TO i1 i2 l1 l2 S:af) (xs ys:Array ai) (k:Nat):Prop where
 zz:(k=0/\IsZip h z TI TO .none/\∃ a b,tT h TO a b)\/∃ T f oT,Bk h z TI TO T f/\h.get? T=some oT/\T≠z/\T≠i1/\T≠i2/\T≠S
 ti:tT h TI (.ref i1) (.ref i2)
 a1:h.IsListIter i1 l1 k
 a2:h.IsListIter i2 l2 k
 b1:h.IsList l1 xs
 b2:h.IsList l2 ys
structure Off (z TI TO i1 i2 l1 l2 S:af):Prop where
 z:z≠S
 ti:TI≠S
 to:TO≠S
 i1:i1≠S
 i2:i2≠S
 l1:l1≠S
 l2:l2≠S
def ZS.keep {h h':cf}{S:af}(x:ZS h z TI TO i1 i2 l1 l2 S xs ys k) (O:Off z TI TO i1 i2 l1 l2 S) (hk:∀ b o,b≠S->h.get? b=some o->h'.get? b=some o):ZS h' z TI TO i1 i2 l1 l2 S xs ys k where
 zz:=by
  rcases x.zz with ⟨e,hz,a,b,hp⟩|⟨T,f,oT,hz,hT,n1,n2,n3,n4⟩
  ·exact .inl ⟨e,hk _ _ O.z hz,a,b,hk _ _ O.to hp⟩
  ·exact .inr ⟨T,f,oT,hk _ _ O.z hz,hk _ _ n4 hT,n1,n2,n3,n4⟩
 ti:=hk _ _ O.ti x.ti
 a1:=x.a1.at λo e=>hk _ o O.i1 e
 a2:=x.a2.at λo e=>hk _ o O.i2 e
 b1:=x.b1.at λo e=>hk _ o O.l1 e
 b2:=x.b2.at λo e=>hk _ o O.l2 e
def ZS.item {S:af}{x y:ai}{Q:Option ai->ao->Prop}(D:Ap z TI TO i1 i2 l1 l2) (st:ZS s.heap z TI TO i1 i2 l1 l2 S xs ys k) (hS:S<s.heap.objs.size) (hx:xs[k]?=some x) (hy:ys[k]?=some y)
  (hQ:∀ h',ZS h' z TI TO i1 i2 l1 l2 S xs ys (k+1)->tT h' s.heap.objs.size x y->(∀ c o,c≠z->c≠TO->c≠i1->c≠i2->s.heap.get? c=some o->h'.get? c=some o)->Q (some (.ref s.heap.objs.size)) { s with heap:=h' }) :
  aG (aM prog w) A (i9 (.ref z)) Q E s:=by
 have XM:i1<s.heap.objs.size:=by obtain ⟨_,e,_⟩:=st.a1;exact aJ e
 have lt2:i2<s.heap.objs.size:=by obtain ⟨_,e,_⟩:=st.a2;exact aJ e
 rcases st.zz with ⟨e,hz,a,b,hp⟩|⟨T,f,oT,hz,hT,n1,n2,n3,n4⟩
 ·refine wpAny_pyNext_zip_item D hz st.ti hp st.a1 st.a2 st.b1 st.b2 hx hy λh' q1 q2 q3 q4 q5 q6 q7=>?_;refine hQ h' ⟨.inr ⟨_,false,_,q1,q5,dU (aJ hz),dU XM,dU lt2,dU hS⟩,q7 _ _ D.TIz D.TITO D.TIi1 D.TIi2 st.ti,q3,q4,st.b1.at λo e=>q7 _ o D.l1z D.l1TO D.l1i1 D.l1i2 e,st.b2.at λo e=>q7 _ o D.l2z D.l2TO D.l2i1 D.l2i2 e⟩ q5 q7
 ·have ty:s.TypeIs (.ref z) "zip":=⟨_,hz,rfl⟩
  unfold i9
  refine ae (ip (cW (name:=fE "__next__") ty F.slot_zip_next (cL F.slot_zip_next ty F.entry_zip_next
   (Qd D hz hT st.ti st.a1 st.a2 st.b1 st.b2 hx hy λh' q1 q3 q4 q5 q7=>ak ?_) (F.args_zip_next_1 _))))
  refine hQ h' ⟨.inr ⟨T,true,oT,q1,q7 _ _ n1 n2 n3 hT,n1,n2,n3,n4⟩,q7 _ _ D.TIz D.TIi1 D.TIi2 st.ti,q3,q4,st.b1.at λo e=>q7 _ o D.l1z D.l1i1 D.l1i2 e,st.b2.at λo e=>q7 _ o D.l2z D.l2i1 D.l2i2 e⟩ q5 λc o c1 _ c3 c4 e=>q7 c o c1 c3 c4 e
def ZS.done {S:af}{Q:Option ai->ao->Prop}(hh:A.handled=none) (D:Ap z TI TO i1 i2 l1 l2) (st:ZS s.heap z TI TO i1 i2 l1 l2 S xs ys k) (hend:xs[k]?=none\/ys[k]?=none)
  (hQ:∀ h',(∀ c o,c≠z->c≠TO->c≠i1->c≠i2->s.heap.get? c=some o->h'.get? c=some o)->Q none { s with heap:=h' }):aG (aM prog w) A (i9 (.ref z)) Q E s:=by
 rcases st.zz with ⟨e,hz,a,b,hp⟩|⟨T,f,oT,hz,hT,n1,n2,n3,n4⟩
 ·exact wpAny_pyNext_zip_end hh D hz st.ti hp st.a1 st.a2 st.b1 st.b2 hend hQ
 ·have ty:s.TypeIs (.ref z) "zip":=⟨_,hz,rfl⟩
  unfold i9
  refine ae (ip (cW (name:=fE "__next__") ty F.slot_zip_next (cL F.slot_zip_next ty F.entry_zip_next
   (Th hh D hz hT st.ti st.a1 st.a2 st.b1 st.b2 hend λh' e hk he=>?_) (F.args_zip_next_1 _))))
  obtain ⟨o,ho,hc⟩:=he;exact ae (nN (T:="StopIteration") (b:=true) ⟨o,ho,hc⟩ Ar (ak (hQ _ λc o c1 _ c3 c4 q=>hk c o c1 c3 c4 q)))
structure Made (h:cf) (lo:af) (xs ys:Array ai) (as:List af):Prop where
 up:as.Pairwise (· < ·)
 lo:∀ a∈as,lo<a
 pr:∀ (j:Nat) (a:af),as[j]?=some a->∃ x y,xs[j]?=some x/\ys[j]?=some y/\tT h a x y
def KH {S n:Nat}{R:Kh->ao->Prop}(hh:A.handled=none) (D:Ap z TI TO i1 i2 l1 l2) (O:Off z TI TO i1 i2 l1 l2 S) (hn:min xs.size ys.size=n) (hn2:n<=100000) (res:ai) (lo:af) (hlo:z<=lo/\TO<=lo/\i1<=lo/\i2<=lo/\S<=lo) {h₀:cf}
  (hR:∀ h' tk acc c as,(∀ b o,b≠S->b≠z->b≠TO->b≠i1->b≠i2->h₀.get? b=some o->h'.get? b=some o)->h'.get? S=some { cls:=.type "list",dict:=none,data:=.seq acc c,slots:=#[] }->acc.toList=as.map aD->as.length=n->Made h' lo xs ys as->R (.ok (.ret res)) { s with heap:=h',toks:=tk }) :
  ∀ (m i:Nat) (h:cf) (tk c:Nat) (acc:Array ai) (as:List af),n-i=m->i<=n->ZS h z TI TO i1 i2 l1 l2 S xs ys i->(∀ b o,b≠S->b≠z->b≠TO->b≠i1->b≠i2->h₀.get? b=some o->h.get? b=some o) ->
   h.get? S=some { cls:=.type "list",dict:=none,data:=.seq acc c,slots:=#[] }->acc.toList=as.map aD->as.length=i->Made h lo xs ys as->lo<h.objs.size ->
   ka (aM prog w) A (.builtin "list.extend.loop" ⟨[.ref S,.ref z,res],[]⟩) R { s with heap:=h,toks:=tk }:=by
 intro m
 induction m with
 | zero =>
  intro i h tk c acc as hm hi st kp hS hacc hal hM hlh
  have ei:i=n:=by lia
  subst ei;refine d8 FL ?_;rw [cX dZ _]
  show aG _ A.in1 (i9 (.ref z) >>= _) _ _ _
  have hend:xs[i]?=none\/ys[i]?=none:=by
   by_cases q:xs.size<=i
   ·exact .inl (gW q)
   ·exact .inr (gW (by lia))
  refine ae (ZS.done (s:={ s with heap:=h,toks:=tk }) (A:=A.in1) hh D st hend λh' he=>?_);refine ak (hR h' tk acc c as (λb o b1 b2 b3 b4 b5 e=>he b o b2 b3 b4 b5 (kp b o b1 b2 b3 b4 b5 e)) (he S _ (Ne.symm O.z) (Ne.symm O.to) (Ne.symm O.i1) (Ne.symm O.i2) hS) hacc hal ⟨hM.up,hM.lo,λj a hj=>?_⟩);obtain ⟨x,y,q1,q2,q3⟩:=hM.pr j a hj;have far:∀ {b:af},b<=lo->a≠b:=λhb=>dU (bf hb (hM.lo a (aR hj)))
  exact ⟨x,y,q1,q2,he a _ (far hlo.1) (far hlo.2.1) (far hlo.2.2.1) (far hlo.2.2.2.1) q3⟩
 | succ m ih =>
  intro i h tk c acc as hm hi st kp hS hacc hal hM hlh
  have hlt:i<n:=by lia
  obtain ⟨x,hx⟩:∃ x,xs[i]?=some x:=⟨_,bX (by lia)⟩
  obtain ⟨y,hy⟩:∃ y,ys[i]?=some y:=⟨_,bX (by lia)⟩
  refine d8 FL ?_;rw [cX dZ _]
  show aG _ A.in1 (i9 (.ref z) >>= _) _ _ _
  refine ae (ZS.item (s:={ s with heap:=h,toks:=tk }) (A:=A.in1) D st (aJ hS) hx hy λh' st' hp kk=>?_);have hS':=kk S _ (Ne.symm O.z) (Ne.symm O.to) (Ne.symm O.i1) (Ne.symm O.i2) hS
  have hsz:acc.size=i:=by rw [← aL,hacc,ag,hal]
  show aG _ A.in1 (Km S (·.push (aD h.objs.size)) >>= _) _ _ _
  refine ae (lU hS' rfl (ak ⟨gH dZ _,?_⟩) (by rw [hsz];exact L2.bI (m:=100000) (by lia)) (by rw [iB,hsz];exact Dg (L2.bI (m:=100000) (by lia))));have oth:∀ b o,b≠S->h'.get? b=some o->(h'.update S (bE (·.push (aD h.objs.size)))).get? b=some o:=λb o hb e=>(bx _ _ (Ne.symm hb)).trans e;have hnS:h.objs.size≠S:=dU (aJ hS);refine ih (i+1) _ tk _ (acc.push (aD h.objs.size)) (as++[h.objs.size]) (by lia) hlt (st'.keep O oth) (λb o b1 b2 b3 b4 b5 e=>oth b o b1 (kk b o b2 b3 b4 b5 (kp b o b1 b2 b3 b4 b5 e))) (bT _ hS' rfl) (by rw [As,hacc,aP];rfl) (by rw [bz,hal];rfl) ⟨?_,λa ha=>?_,λj a hj=>?_⟩ ?_
  ·refine gC.mpr ⟨hM.up,qK _ _,λa ha b hb=>?_⟩;rw [aA.mp hb];obtain ⟨j,hj⟩:=bJ.mp ha;obtain ⟨_,_,_,_,q⟩:=hM.pr j a hj;exact aJ q
  ·rcases aN.mp ha with q|q
   ·exact hM.lo a q
   ·rw [aA.mp q];exact hlh
  ·by_cases q:j<as.length
   ·rw [fQ q] at hj;obtain ⟨x',y',q1,q2,q3⟩:=hM.pr j a hj;have far:∀ {b:af},b<=lo->a≠b:=λhb=>dU (bf hb (hM.lo a (aR hj)));exact ⟨x',y',q1,q2,oth a _ (far hlo.2.2.2.2) (kk a _ (far hlo.1) (far hlo.2.1) (far hlo.2.2.1) (far hlo.2.2.2.1) q3)⟩
   ·rw [dY (by lia)] at hj
    have ej:j-as.length=0:=by
     by_cases w:j-as.length=0
     ·exact w
     ·rw [cV (by simp;lia)] at hj;cases hj
    rw [ej] at hj
    have ea:h.objs.size=a:=by simpa using hj
    have ej':j=i:=by lia
    subst ea ej';exact ⟨x,y,hx,hy,oth _ _ hnS hp⟩
  ·rw [qL];exact bA hlh (ki (aJ hp))
def WE:typeLookup (.type "zip") "__len__"=pure none:=by rw [xI,nG];kernel_rfl
def Tj:typeLookup (.type "zip") "__length_hint__"=pure none:=by rw [xI,nG];kernel_rfl
def WG {Q:Bool->ao->Prop}(ty:s.TypeIs (.ref z) "zip") (h:Q true s):aG (aM prog w) A (jc (.ref z)) Q E s:=by
 unfold jc;refine ae (Mp ty WE ?_);refine ae (Mp ty Tj ?_);exact ak h
def WH {S c₀ n:Nat} {R:Kh->ao->Prop}{va vb:ai}(hh:A.handled=none) (D:Ap z TI TO i1 i2 l1 l2) (O:Off z TI TO i1 i2 l1 l2 S) (hn:min xs.size ys.size=n) (hn2:n<=100000) (res:ai) (hz:IsZip s.heap z TI TO .none) (hTO:tT s.heap TO va vb)
  (st:ZS s.heap z TI TO i1 i2 l1 l2 S xs ys 0) (hS:s.heap.get? S=some { cls:=.type "list",data:=.seq #[] c₀ })
  (hR:∀ h' tk acc c as,(∀ b o,b≠S->b≠z->b≠TO->b≠i1->b≠i2->s.heap.get? b=some o->h'.get? b=some o)->h'.get? S=some { cls:=.type "list",dict:=none,data:=.seq acc c,slots:=#[] }->acc.toList=as.map aD->as.length=n->Made h' (s.heap.objs.size-1) xs ys as->R (.ok (.ret res)) { s with heap:=h',toks:=tk }) :
  aG (aM prog w) A.in1 (gE (.ref S) (.ref z) res) (λfin s'=>match fin with | .done f=>R (.ok f) s' | .again c'=>c'.quiet=true/\ka (aM prog w) A c' R s') (λe s'=>R (.error e) s') s:=by
 have ty:s.TypeIs (.ref z) "zip":=⟨_,hz,rfl⟩
 have lts:∀ {b:af}{o:fT},s.heap.get? b=some o->b<=s.heap.objs.size-1:=λe=>Nat.le_sub_one_of_lt (aJ e)
 have XM:i1<=s.heap.objs.size-1:=by obtain ⟨_,e,_⟩:=st.a1;exact lts e
 have lt2:i2<=s.heap.objs.size-1:=by obtain ⟨_,e,_⟩:=st.a2;exact lts e
 have pos:0<s.heap.objs.size:=bf (aK _) (aJ hz)
 have key:∀ (h:cf) (c₁ tk:Nat),h.objs.size=s.heap.objs.size->(∀ b o,b≠S->s.heap.get? b=some o->h.get? b=some o)->h.get? S=some { cls:=.type "list",data:=.seq #[] c₁ } ->
   ka (aM prog w) A (.builtin "list.extend.loop" ⟨[.ref S,.ref z,res],[]⟩) R { s with heap:=h,toks:=tk }:=λh c₁ tk hsz kp hS₁ =>
  KH (h₀:=s.heap) hh D O hn hn2 res (s.heap.objs.size-1) ⟨lts hz,lts hTO,XM,lt2,lts hS⟩ hR n 0 h tk c₁ #[] [] rfl (aK _) (st.keep O kp) (λb o b1 _ _ _ _ e=>kp b o b1 e) hS₁ rfl rfl ⟨mV,(λa ha=>nomatch ha),λj a hj=>by simp at hj⟩ (by rw [hsz];exact Nat.sub_lt pos (by decide))
 unfold gE;refine ae (Hy (T:="zip") ty ?_)
 have e1:jI (.ref S) (.ref z)=false:=by simp [jI,Ne.symm O.z]
 have e2:(eX "zip" == eX "list")=false:=by decide
 have e3:(eX "zip" == eX "tuple")=false:=by decide
 simp only [e1,e2,e3,Bool.or_false,bY,if_false];refine ae (wpAny_pyIter_zip hz (ae (cA (WG ty ?_))));refine jO (λ_=>ae (jd (ae ?_))) (λ_=>ak ⟨gH dZ _,key _ c₀ _ rfl (λb o _ e=>e) hS⟩)
 show aG _ _ (Km S (·.push .none) >>= λ_=>Km S (·.pop)) _ _ _
 have g₂:=bT (bE (·.push eW)) hS rfl;have g₃:=bT (bE (·.pop)) g₂ rfl;refine ae (lU hS rfl (lU (hz:=by seq_fits) g₂ rfl (ak ⟨gH dZ _,key _ _ _ ?_ (λb o hb e=>?_) g₃⟩)))
 ·rw [qL,qL]
 ·exact (bx _ _ (Ne.symm hb)).trans ((bx _ _ (Ne.symm hb)).trans e)
def N2 {n:Nat}{Q:ai->ao->Prop}{va vb:ai}(hh:A.handled=none) (D:Ap z TI TO i1 i2 l1 l2) (hn:min xs.size ys.size=n) (hn2:n<=100000) (hz:IsZip s.heap z TI TO .none) (hTO:tT s.heap TO va vb) (hTI:tT s.heap TI (.ref i1) (.ref i2))
  (a1:s.heap.IsListIter i1 l1 0) (a2:s.heap.IsListIter i2 l2 0) (b1:s.heap.IsList l1 xs) (b2:s.heap.IsList l2 ys)
  (hQ:∀ h' tk acc c as,(∀ b o,b≠z->b≠TO->b≠i1->b≠i2->s.heap.get? b=some o->h'.get? b=some o)->h'.get? s.heap.objs.size=some { cls:=.type "list",dict:=none,data:=.seq acc c,slots:=#[] }->acc.toList=as.map aD->as.length=n->Made h' s.heap.objs.size xs ys as->Q (.ref s.heap.objs.size) { s with heap:=h',toks:=tk }) :
  aG (aM prog w) A (call (.type "list") [.ref z]) Q E s:=by
 refine callType_codes (Q₁:=λobj s₁=>obj=.ref s.heap.objs.size/\s₁={ s with heap:=s.heap.push { cls:=.type "list",data:=.seq #[] } }) PySem.F.called_list (PySem.F.typeCall_list_1 _) PySem.F.entry_list_init (code_list_new _ ⟨rfl,rfl⟩) ?_;rintro obj s₁ ⟨rfl,rfl⟩;have hS:(s.heap.push { cls:=.type "list",data:=.seq #[] }).get? s.heap.objs.size=some { cls:=.type "list",data:=.seq #[] }:=aI _ rfl;refine ⟨⟨_,hS,rfl⟩,PySem.F.args_list_init_2 _ _,?_⟩;have ne:∀ {b:af}{o:fT},s.heap.get? b=some o->b≠s.heap.objs.size:=λe=>bg (aJ e)
 have O:Off z TI TO i1 i2 l1 l2 s.heap.objs.size:=⟨ne hz,ne hTI,ne hTO,by obtain ⟨_,e,_⟩:=a1;exact ne e,by obtain ⟨_,e,_⟩:=a2;exact ne e,by obtain ⟨_,e,_⟩:=b1;exact ne e,by obtain ⟨_,e,_⟩:=b2;exact ne e⟩
 show aG _ _ (do let old ← Dp (.ref s.heap.objs.size);iC (.ref s.heap.objs.size) (λ_=>#[]);letGo old.toList.reverse;gE (.ref s.heap.objs.size) (.ref z) .none) _ _ _
 refine ae (HD hS rfl (ae (lN hS rfl (ae (Ky ?_)) (aK _) (aK _))));have g₂:=bT (bE (λ_=>(#[]:Array ai))) hS rfl;have kp:∀ b o,s.heap.get? b=some o->((s.heap.push { cls:=.type "list",data:=.seq #[] }).update s.heap.objs.size (bE (λ_=>(#[]:Array ai)))).get? b=some o:=λb o e=>(bx _ _ (Ne.symm (ne e))).trans (ar _ e)
 have sz:((s.heap.push { cls:=.type "list",data:=.seq #[] }).update s.heap.objs.size (bE (λ_=>(#[]:Array ai)))).objs.size-1=s.heap.objs.size:=by rw [qL,iW];rfl
 refine WH (s:={ s with heap:=(s.heap.push { cls:=.type "list",data:=.seq #[] }).update s.heap.objs.size (bE (λ_=>(#[]:Array ai))) }) (A:=A.in1) hh D O hn hn2 .none (kp _ _ hz) (kp _ _ hTO) ⟨.inl ⟨rfl,kp _ _ hz,_,_,kp _ _ hTO⟩,kp _ _ hTI,a1.at λo e=>kp _ o e,a2.at λo e=>kp _ o e,b1.at λo e=>kp _ o e,b2.at λo e=>kp _ o e⟩ g₂ λh' tk acc c as k1 k2 k3 k4 k5=>?_;have k5':Made h' s.heap.objs.size xs ys as:=sz▸k5;exact ⟨rfl,hQ h' tk acc c as (λb o c1 c2 c3 c4 e=>k1 b o (ne e) c1 c2 c3 c4 (kp b o e)) k2 k3 k4 k5'⟩
end
end Zl
namespace L2
open PySem PySem.Spec PyProof.Rows PySem.W
section
variable {X:Cx}{pins:List (af×fT)}{Z:St}{H H':Hp}{s:ao}
def Inv.grow {h':cf}{t':Nat}(I:Inv X pins Z H s) (k:∀ b u,s.heap.get? b=some u->h'.get? b=some u) (sub:bN H H') (new:∀ b,b<s.heap.objs.size->H b=none->H' b=none) (ok:qD X.prog X.w H' h'):Inv X pins Z H' { s with heap:=h',toks:=t' } :=
 I.un ⟨λb o e _ _ _=>k b o e,λb o e _ _ _=>⟨o.slots,k b o e⟩,λb o e n _=>new b (aJ e) n,λb o e _=>⟨o,k b o e⟩,λb _ e=>sub _ _ e,λb _ _ e=>sub _ _ e,λb ps e=>⟨#[],by rw [sub _ _ e];simp⟩⟩ ok
end
def Dz (H:Hp) (zs:List Zt):Hp:=λb=>match zs.find? (λz=>z.2.2 == b) with|some z=>some (.tup [.int z.1,.int z.2.1])|none=>H b
def Qe {H:Hp}{zs:List Zt}{b:af}(h:∀ z∈zs,z.2.2≠b):Dz H zs b=H b:=by
 unfold Dz;rw [Sl.mpr λz hz=>by simpa using h z hz]
theorem IG {H:Hp}:∀ {zs:List Zt}{z:Zt},(zs.map λz=>z.2.2).Nodup->z∈zs->Dz H zs z.2.2=some (.tup [.int z.1,.int z.2.1])
 | y::zs,z,hn,hz=>by
  unfold Dz;rw [b0,br] at hn
  rcases au.mp hz with e|hz
  ·subst e;rw [List.find?_cons_of_pos (by simp)]
  ·have hne:¬ (y.2.2 == z.2.2)=true:=λq=>hn.1 (by
    have e:y.2.2=z.2.2:=by simpa using q
    rw [e];exact aZ hz)
   rw [List.find?_cons_of_neg (p:=λw:Zt=>w.2.2 == z.2.2) hne];exact IG hn.2 hz
def Qg (K:aa) (t:TA):TE:=λZ H Q=>t Z H λvs H1=>∃ (a b:af) (ns ms:List Int),vs=[.ref a,.ref b]/\c6 K H1 a (ns.map V.int)/\c6 K H1 b (ms.map V.int)/\ns.length<=100000 /\
 ∀ (l:af) (zs:List Zt) (H2:Hp),bN H1 H2->H1 l=none->H2 l=some (.lst (zs.map dQ))->(∀ z∈zs,fG H2 z)->zs.map zP=ns.zip ms->Q (.ref l) H2
theorem Gd:∀ {vs:List ai}{ns:List Int}{j:Nat}{v:ai},fz vs ns->vs[j]?=some v->∃ i t,ns[j]?=some i/\v=.int i t
 | _,_,0,v,.cons n t r,e=>by simp at e;exact ⟨n,t,rfl,e.symm⟩
 | _,_,j+1,v,.cons n t r,e=>Gd (j:=j) r (by simpa using e)
 | _,_,j,v,.nil,e=>by simp at e
def Qh {h:cf}{lo:af}{xs ys:List ai}{ns ms:List Int}(hx:fz xs ns) (hy:fz ys ms):∀ {as:List af},(∀ (j:Nat) (a:af),as[j]?=some a->∃ x y,xs.toArray[j]?=some x/\ys.toArray[j]?=some y/\tT h a x y)->as.length=min ns.length ms.length ->
  ∃ zs:List Zt,zs.map (λz=>z.2.2)=as/\zs.map zP=ns.zip ms/\∀ z∈zs,∃ t u,tT h z.2.2 (.int z.1 t) (.int z.2.1 u):=by
 intro as hp hl;have hlx:=hx.length;have hly:=hy.length;refine ⟨(ns.zip ms).zipWith (λt a=>(t.1,t.2,a)) as,?_,?_,λz hz=>?_⟩
 ·apply jG
  intro j;rw [aB,uO]
  by_cases hj:j<as.length
  ·rw [ay hj,ay (by rw [tU];lia)];rfl
  ·rw [cV (mM hj)];cases (ns.zip ms)[j]?<;>rfl
 ·apply jG
  intro j;rw [aB,uO]
  by_cases hj:j<as.length
  ·rw [ay hj,ay (by rw [tU];lia)];rfl
  ·rw [cV (mM hj),cV (by rw [tU];lia)];rfl
 ·obtain ⟨j,hj⟩:=bJ.mp hz;rw [uO] at hj
  cases ea:as[j]? with
  | none =>
   rw [ea] at hj
   cases ew:(ns.zip ms)[j]? with
   | none=>rw [ew] at hj;cases hj
   | some w=>rw [ew] at hj;cases hj
  | some a =>
   obtain ⟨x,y,q1,q2,q3⟩:=hp j a ea;obtain ⟨i,t,e1,rfl⟩:=Gd (j:=j) hx (by simpa using q1);obtain ⟨i',u,e2,rfl⟩:=Gd (j:=j) hy (by simpa using q2)
   have ez:(ns.zip ms)[j]?=some (i,i'):=by rw [pL];exact ⟨e1,e2⟩
   rw [ea,ez] at hj;have:z=(i,i',a):=(aY hj).symm;subst this;exact ⟨t,u,q3⟩
section
variable {X:Cx}{x y:Expr}{t:TA}{p1 p2 q1 q2:lg}
def Tn (hc:X.calm=true) (hgl:Gl X "list") (hml:X.mg "list"=none) (hgz:Gl X "zip") (hmz:X.mg "zip"=none) (ha:PA X [x,y] t)
  (he:bL [.Call (.Name "zip" p1) [x,y] [] p2] X.env=[(false,fh (.Call (.Name "zip" p1) [x,y] [] p2) X.env)]:=by rfl) (he2:bL [x,y] X.env=(false,fh x X.env)::bL [y] X.env:=by rfl) (hpl:(g9 p2 (bL [y] X.env)).any (·.1)=false:=by rfl) :
  PE X (.Call (.Name "list" q1) [.Call (.Name "zip" p1) [x,y] [] p2] [] q2) (Qg X.K t):=by
 intro pins s Z H Q I h;refine fj (oh I hgl hml BootT.list (gA ?_ he rfl));rw [he]
 show aG _ _ (spliced ((false,fh (.Call (.Name "zip" p1) [x,y] [] p2) X.env)::g9 q2 (bL [] X.env))) _ _ s
 refine ia (fj (oh I hgz hmz BootT.zip (gA (ic (ha p2 pins s Z H _ I h) λus s1 ⟨vs,H1,I1,r1,q⟩=>?_) he2 hpl)));obtain ⟨a,b,ns,ms,rfl,hA,hB,hle,k⟩:=q;obtain ⟨u,v,rfl,ru,rv⟩:=vals2 r1;cases ru;cases rv;obtain ⟨xs,vx,px,_⟩:=I1.list hA;obtain ⟨ys,vy,py,_⟩:=I1.list hB;have ix:=intsAre_of vx;have iy:=intsAre_of vy;have lx:=ix.length;have ly:=iy.length
 have al:a<s1.heap.objs.size:=by obtain ⟨_,e,_⟩:=px.isList;exact aJ e
 have bl:b<s1.heap.objs.size:=by obtain ⟨_,e,_⟩:=py.isList;exact aJ e
 refine call_zip_2 px.isList py.isList λh' hz hTI hTO j1 j2 hsz hk=>lM ?_;refine Zl.N2 (s:={ s1 with heap:=h' }) (n:=min ns.length ms.length) (I1.ok.hd hc) (zipApart_new al bl) (by rw [aO,aO,lx,ly]) (by lia) hz hTO hTI j1 j2 (px.isList.at λo e=>hk _ o e) (py.isList.at λo e=>hk _ o e) λh2 tk acc c as k1 k2 k3 k4 k5=>?_;obtain ⟨zs,e1,e2,e3⟩:=Qh (lo:=0) ix iy k5.pr k4
 have old:∀ b o,s1.heap.get? b=some o->h2.get? b=some o:=λb o e=>by
  have hb:=aJ e;refine k1 b o (bg (bA hb (ib _ _))) (bg (bA hb (ib _ _))) (bg hb) (bg (bA hb (ib _ _))) (hk b o e)
 have up:∀ z∈zs,h'.objs.size<z.2.2:=λz hz=>k5.lo _ (by rw [← e1];exact aZ hz);have hs5:h'.objs.size=s1.heap.objs.size+5:=hsz
 have nd:(zs.map λz=>z.2.2).Nodup:=by rw [e1];exact k5.up.imp λq=>bg q
 have far:∀ z∈zs,∀ b:af,b<s1.heap.objs.size->z.2.2≠b:=λz hz b hb=>dU (OJ (bA hb (by rw [hs5];exact ib _ _)) (up z hz));have lf:∀ b:af,b<s1.heap.objs.size->b≠h'.objs.size:=λb hb=>bg (bA hb (by rw [hs5];exact ib _ _))
 have hold:∀ b:af,b<s1.heap.objs.size->upd (Dz H1 zs) h'.objs.size (.lst (zs.map dQ)) b=H1 b:=λb hb=>by rw [aH (lf b hb),Qe λz hz=>far z hz b hb]
 have S:bN H1 (upd (Dz H1 zs) h'.objs.size (.lst (zs.map dQ))):=λb o e=>by rw [hold b (I1.fo.lt e)];exact e
 have hpair:∀ z∈zs,fG (upd (Dz H1 zs) h'.objs.size (.lst (zs.map dQ))) z:=λz hz=>by
  show upd (Dz H1 zs) h'.objs.size (.lst (zs.map dQ)) z.2.2=_
  rw [aH (dU (up z hz))];exact IG nd hz
 have hlz:zs.length<=100000:=by
  have:=congrArg dt e2;rw [ag,tU] at this;lia
 have I2:Inv X pins Z (upd (Dz H1 zs) h'.objs.size (.lst (zs.map dQ))) { s1 with heap:=h2,toks:=tk }:=I1.grow old S (λb hb n=>by rw [hold b hb];exact n) λb o e=>by
  by_cases hb:b<s1.heap.objs.size
  ·rw [hold b hb] at e;exact (I1.fo b o e).Ak (λc v _ q=>old c v q) (λc q=>S _ _ q) λc _ q=>S _ _ q
  ·by_cases hl:b=h'.objs.size
   ·subst hl;rw [aF] at e;cases e;refine ⟨by rw [ag];exact bI hlz,acc.toList,c,?_,by rw [Array.toArray_toList];exact k2⟩;rw [k3,← e1,bo];exact E8 zs
   ·rw [aH hl] at e;unfold Dz at e
    cases w:zs.find? (λz=>z.2.2 == b) with
    | none =>
     rw [w] at e;have e:H1 b=some o:=e;rw [I1.fo.fresh (mM hb)] at e
     cases e
    | some z =>
     rw [w] at e;cases e;have hz':=Kn w
     have eb:z.2.2=b:=by simpa using Xq w
     subst eb;obtain ⟨t,u,hp⟩:=e3 z hz';exact ⟨bI (m:=2) (av 2),[.int z.1 t,.int z.2.1 u],.cons ⟨t,rfl⟩ (.cons ⟨u,rfl⟩ .nil),⟨_,hp,rfl,_,rfl⟩⟩
 exact ⟨.ref h'.objs.size,_,I2,rfl,k _ zs _ S (I1.fo.fresh (by rw [hs5];exact ib _ _)) aF hpair e2⟩
def WI {K:aa}{t:TA}{Z:St}{H:Hp}{Q:VK}(h:t Z H λvs H1=>∃ (a b:af) (ns ms:List Int),vs=[.ref a,.ref b]/\c6 K H1 a (ns.map V.int)/\c6 K H1 b (ms.map V.int)/\ns.length<=100000 /\
 ∀ (l:af) (zs:List Zt) (H2:Hp),bN H1 H2->H1 l=none->H2 l=some (.lst (zs.map dQ))->(∀ z∈zs,fG H2 z)->zs.map zP=ns.zip ms->Q (.ref l) H2):Qg K t Z H Q:=h
end
end L2
namespace L2
open PySem PySem.Spec PyProof.Rows PySem.W
def yD (h:cf) (d:af) (ks:List ai) (ep:Nat):Prop:=∃ o es,h.get? d=some o/\o.ExactDict/\o.data=.dict es ep/\es.toList.map (·.key)=ks
def yD.at {h h':cf}{d:af}{ks:List ai}{ep:Nat}(x:yD h d ks ep) (k:∀ o,h.get? d=some o->h'.get? d=some o):yD h' d ks ep :=
 let ⟨o,es,e,r⟩:=x;⟨o,es,k o e,r⟩
def yD.lt {h:cf}{d:af}{ks:List ai}{ep:Nat}(x:yD h d ks ep):d<h.objs.size:=let ⟨_,_,e,_⟩:=x;aJ e
section
variable {prog:a6}{w:bO}{A:bR}{E:ai->ao->Prop}{s:ao}{d it:af}{ks:List ai}{ep i:Nat}
def yD.typeIs (x:yD s.heap d ks ep):s.TypeIs (.ref d) "dict":=let ⟨o,_,e,c,_⟩:=x;⟨o,e,c.1⟩
def Bl {Q:ai->ao->Prop}(hd:(d == i8)=false) (x:yD s.heap d ks ep)
  (q:Q (.ref s.heap.objs.size) { s with heap:=s.heap.push { cls:=.type "dict_keyiterator",data:=.fields #[.ref d,.int 0 0,.int ks.length 0,.int ep 0] } }):aG (aM prog w) A (OE (.ref d)) Q E s:=by
 have hT:=x.typeIs;obtain ⟨o,es,e,c,da,hk⟩:=x
 have hs:es.size=ks.length:=by rw [← hk,ag,aL]
 refine HE hT F.slot_dict_iter (cL F.slot_dict_iter hT F.entry_dict_iter ?_ (F.args_dict_iter_1 _));unfold gG.«dict.__iter__» Builtin.Dict.dictSlotNone;refine ae (ae (VJ hT ?_))
 show aG _ _ (pure (aD d)) _ _ s
 refine ak ?_
 show aG _ _ (EK d >>= _) _ _ s
 unfold EK;rw [if_neg (by rw [hd];exact bC)];refine ae (ak (ae (ke e da (ae (Mq e da ?_)))));refine ae (cD (ak ⟨_,rfl,"dict_keyiterator",_,⟨_,aI _ rfl,rfl⟩,F.slot_dict_keyiterator_next.lookup,?_⟩))
 simpa [cB,hs] using q
def IH {Q:Option ai->ao->Prop}{v:ai}(t:s.heap.IsKeyIter it d i ks.length ep) (x:yD s.heap d ks ep) (hv:ks[i]?=some v)
  (q:∀ h',h'.IsKeyIter it d (i+1) ks.length ep->gY it s.heap h'->Q (some v) { s with heap:=h' }):aG (aM prog w) A (i9 (.ref it)) Q E s:=by
 have tt:=t.typeIs;obtain ⟨ob,g,gc,gd⟩:=id t;obtain ⟨o,es,e,c,da,hk⟩:=x
 have hs:es.size=ks.length:=by rw [← hk,ag,aL]
 have hi:i<es.size:=by rw [hs];exact (aC.mp hv).1
 have ev:es[i].key=v:=by
  rw [← hk,aB] at hv
  simpa [hi] using hv
 unfold i9;refine ae (ip (cW (name:=fE "__next__") tt F.slot_dict_keyiterator_next (cL F.slot_dict_keyiterator_next tt F.entry_dict_keyiterator_next ?_ (F.args_dict_keyiterator_next_1 _))));refine ae (ak (ae (ae ?_)))
 first|refine ae (jy tt (ak ?_))|refine ae (lO tt (ak ?_))
 refine ae (mO g gd ?_);simp only [show sY "dict_keyiterator"=false by decide,bY,if_false]
 show aG _ _ (if (aD d == eW)=true then _ else _) _ _ s
 rw [if_neg (show ¬ ((aD d == eW)=true) from bC)];refine ae (ak (ae (ke e da ?_)));rw [if_neg (by rw [hs];simp)];refine ae (ak (ae (Mq e da ?_)));rw [if_neg (by simp)];refine ak ?_;simp only [show ¬ ((i:Int)<0) from by lia,if_false,gL,bX hi];refine ae ?_
 first|refine ae (jy tt (ak ?_))|refine ae (lO tt (ak ?_))
 refine ae (VL tt ?_)
 show aG _ _ (setField (.ref it) 1 (cB ((i:Int)+1)) >>= _) _ _ s
 refine ae (jg g gd (by simp) ?_)
 have t':(s.heap.update it (mW (·.setIfInBounds 1 (cB ((i:Int)+1))))).IsKeyIter it d (i+1) ks.length ep :=
  ⟨_,bT _ g (jH (di gd _)),(qA ..).trans gc,by rw [di gd];simp [cB]⟩
 refine ae (cA ?_);refine ae (VL (s:={ s with heap:=s.heap.update it (mW (·.setIfInBounds 1 (cB ((i:Int)+1)))) }) t'.typeIs ?_)
 show aG _ _ (pure es[i].key) _ _ _
 rw [ev];exact ak (ak ⟨_,rfl,ak (q _ t' (c9 ..))⟩)
def MJ {Q:Option ai->ao->Prop}(hh:A.handled=none) (hi:ks.length<=i) (t:s.heap.IsKeyIter it d i ks.length ep) (x:yD s.heap d ks ep) (q:∀ h',O4 it s.heap h'->Q none { s with heap:=h' }):aG (aM prog w) A (i9 (.ref it)) Q E s:=by
 have tt:=t.typeIs;obtain ⟨ob,g,gc,gd⟩:=id t;obtain ⟨o,es,e,c,da,hk⟩:=x
 have hs:es.size=ks.length:=by rw [← hk,ag,aL]
 unfold i9;refine ae (ip (cW (name:=fE "__next__") tt F.slot_dict_keyiterator_next (cL F.slot_dict_keyiterator_next tt F.entry_dict_keyiterator_next ?_ (F.args_dict_keyiterator_next_1 _))));refine ae (ak (ae (ae ?_)))
 first|refine ae (jy tt (ak ?_))|refine ae (lO tt (ak ?_))
 refine ae (mO g gd ?_);simp only [show sY "dict_keyiterator"=false by decide,bY,if_false]
 show aG _ _ (if (aD d == eW)=true then _ else _) _ _ s
 rw [if_neg (show ¬ ((aD d == eW)=true) from bC)];refine ae (ak (ae (ke e da ?_)));rw [if_neg (by rw [hs];simp)];refine ae (ak (ae (Mq e da ?_)));rw [if_neg (by simp)];refine ak ?_;simp only [show ¬ ((i:Int)<0) from by lia,if_false,gL,gW (bu (kj hs) hi)];refine ae ?_
 first|refine ae (jy tt (ak ?_))|refine ae (lO tt (ak ?_))
 show aG _ _ (setField (.ref it) 0 .none >>= _) _ _ s
 refine ae (jg g gd (by simp) ?_)
 show aG _ _ (Ut (.type "StopIteration") [] >>= _) _ _ _
 refine ae ?_;simp only [Ut,newTuple];refine ae (cD ?_ (by size_fits));refine ae (m:=mP _ _) (Kz (a:=eW) (by first|rfl|(simp only [mP];rfl)) ?_);refine cD ?_ (by size_fits);simp only [raiseNew];refine ae (RY ?_);rw [show A.in1.handled=none from hh];refine ae (ak (Xr ?_));refine ae (nN (T:="StopIteration") (b:=true) ⟨_,aI _ rfl,rfl⟩ Ar ?_);exact ak (q _ (((c9 ..).extBut.push _).push _))
def N3 (hh:A.handled=none) (I d:af) (hne:d≠I) (ks:List ai) (ep:Nat):Walks prog w A I [I,d] [I] ks.length (λi v=>ks[i]?=some v) (λi h=>h.IsKeyIter I d i ks.length ep/\yD h d ks ep) where
 sub:=λb hb=>by simp at hb;simp [hb]
 frame:=λ_ _ _ st hk=>⟨st.1.at λo e=>hk I (by simp) o e,st.2.at λo e=>hk d (by simp) o e⟩
 item:=λi s Q E hi st hQ=>by
  have hv:ks[i]?=some ks[i]:=ay hi;refine IH st.1 st.2 hv λh' t' hs'=>hQ _ h' s.toks hv ⟨t',st.2.at λo e=>hs'.extBut d o hne e⟩ λb o hb e=>hs'.extBut b o (λh=>hb (by simp [h])) e
 done:=λs Q E st hQ=>MJ hh (av _) st.1 st.2 λh' he=>hQ h' s.toks λb o hb e=>he b o (λh=>hb (by simp [h])) e
 self:=λ_ _ _ _ st hQ=>Ao st.1 hQ
def To (lo:(d == i8)=false):KdlSrc prog w "dict" d d ks.length (λi v=>ks[i]?=some v) (λh=>yD h d ks ep) where
 type:=λ_ x=>x.typeIs
 there:=λ_ x=>⟨x.lt,x.lt⟩
 keep:=λ_ _ x hk=>x.at λo e=>hk d (.inl rfl) o e
 notList:=by decide
 notTuple:=by decide
 hint:=λ_ _ _ _ x hq=>kdl_hint_dict x.typeIs hq
 iter:=λ_ _ hh x=>⟨_,_,(λ_ _ hq=>Bl lo x hq),N3 hh _ d (bg x.lt) ks ep,⟨⟨_,aI _ rfl,rfl,rfl⟩,x.at λo e=>ar _ e⟩⟩
def Qi {T:String}{r S:af}{n:Nat}{P:Nat->ai->Prop}{OK:cf->Prop}{R:Kh->ao->Prop}(K:KdlSrc prog w T r d n P OK) (hh:A.handled=none) (ok:OK s.heap) (h1:S≠r) (h2:S≠d) (hn:n<=aV) (g:s.heap.get? S=some { cls:=.type "list",data:=.seq #[] 0 })
  (q:∀ h' tk acc' c',(∀ b o,b≠S->s.heap.get? b=some o->h'.get? b=some o)->h'.get? S=some { cls:=.type "list",dict:=none,data:=.seq acc' c',slots:=#[] }->ItemsOf P acc' n->R (.ok (.ret (.ref S))) { s with heap:=h',toks:=tk }) :
  ka (aM prog w) A (.builtin "list.__iadd__" ⟨[.ref S,.ref r],[]⟩) R s:=by
 refine d8 F.entry_list_iadd ?_;rw [cX F.plain_list_iadd _];exact kdl_extend K hh ok S h1 h2 (.ref S) 0 g q hn
def II {T:String}{r:af}{n:Nat}{P:Nat->ai->Prop}{OK:cf->Prop}{Q:List ai->ao->Prop}(K:KdlSrc prog w T r d n P OK) (hh:A.handled=none) (ok:OK s.heap) (hn:n<=aV)
  (q:∀ h' tk acc,(∀ b o,s.heap.get? b=some o->h'.get? b=some o)->ItemsOf P acc n->Q acc.toList { s with heap:=h',toks:=tk }):aG (aM prog w) A (HF (.ref r)) Q E s:=by
 have th:=K.there _ ok;unfold HF;refine ae (OM (d8 F.entry_proto_collect ?_));rw [cX F.plain_proto_collect _]
 show aG _ A.in1 (newList [] >>= λl=>again (.builtin "list.__iadd__" ⟨[l,.ref r],[]⟩)) _ _ s
 have g:(s.heap.push { cls:=.type "list",data:=.seq ([]:List ai).toArray }).get? s.heap.objs.size=some { cls:=.type "list",data:=.seq #[] 0 }:=aI _ rfl;refine ae (cD (ak ⟨gH F.plain_list_iadd _,Qi (s:={ s with heap:=s.heap.push { cls:=.type "list",data:=.seq ([]:List ai).toArray } }) K hh (K.keep _ _ ok λb _ o e=>ar _ e) (dU th.1) (dU th.2) hn g λh' tk acc' c' hk hS hacc=>?_⟩))
 show aG _ A (load s.heap.objs.size >>= _) _ _ { s with heap:=h',toks:=tk }
 refine ae (EI hS (ak (q h' tk acc' (λb o e=>hk b o (bg (aJ e)) (ar _ e)) hacc)))
def IJ {acc:Array ai}(h:ItemsOf (λi v=>ks[i]?=some v) acc ks.length):acc.toList=ks:=by
 apply jG
 intro j
 cases e:acc.toList[j]? with
 | some v=>exact (h.2 j v (by rw [← dm];exact e)).symm
 | none =>
  have:ks.length<=j:=by have:=List.getElem?_eq_none_iff.mp e;rw [aL,h.1] at this;exact this
  exact (cV this).symm
end
theorem MK {H:Hp}:∀ {kvs:List (List iA×V)}{xs:List (List iA×af×ai)},Paired (λ(p:List iA×V) (q:List iA×af×ai)=>p.1=q.1/\H q.2.1=some (.tup (p.1.map kV))/\RelV p.2 q.2.2) kvs xs ->
  (∀ p∈kvs,∃ x y:Int,p.1=[du x,du y])->∃ zs:List Zt,xs.map (λq=>aD q.2.1)=(zs.map λz=>aD z.2.2)/\(∀ z∈zs,fG H z)/\kvs.map (·.1)=zs.map λz=>[du z.1,du z.2.1]
 | _,_,.nil,_=>⟨[],rfl,(λz hz=>nomatch hz),rfl⟩
 | _,_,.cons (a:=p) (b:=q) r t,hp=>by
  obtain ⟨zs,e1,e2,e3⟩:=MK t λp' hp'=>hp p' (aj _ hp');obtain ⟨x,y,exy⟩:=hp _ aw;refine ⟨(x,y,q.2.1)::zs,by simp [e1],λz hz=>?_,by simp [exy,e3]⟩
  rcases au.mp hz with rfl|hz
  ·have:=r.2.1;rw [exy] at this;exact this
  ·exact e2 z hz
section
variable {X:Cx}
end
end L2
namespace L2
open PySem PySem.Spec PyProof.Rows PySem.W
def Paired.at {α β:Type} {F:α->β->Prop}{l₁:List α} {l₂:List β} (r:Paired F l₁ l₂):∀ {i:Nat}{a:α},l₁[i]?=some a->∃ b,l₂[i]?=some b/\F a b:=by
 induction r with
 | nil=>intro i a e;simp at e
 | cons h t ih =>
  intro i a e
  cases i with
  | zero =>
   simp only [lj,gg] at e;subst e
   exact ⟨_,rfl,h⟩
  | succ i=>exact ih (by simpa using e)
def Paired.len {α β:Type} {F:α->β->Prop}{l₁:List α} {l₂:List β} (r:Paired F l₁ l₂):l₁.length=l₂.length:=by
 induction r with
 | nil=>rfl
 | cons h t ih=>simp [ih]
def Yz (a:af) (kvs:List (List iA×V)) (o:fT):It :=
 ⟨λi H=>i<kvs.length/\H a=some (.frz o (.dT kvs)),λi H x H'=>H'=H/\∃ k v b,kvs[i]?=some (k,v)/\x=.ref b/\H b=some (.tup (k.map kV)),λi H=>kvs.length<=i/\H a=some (.frz o (.dT kvs))⟩
def ML {P:a6}{w:bO}{K:aa}{tg:Expr}(a it:af) (o:fT) (kvs:List (List iA×V)) (es:Array DictEntry) (ep:Nat) (hx:o.ExactDict) (hd:o.data=.dict es ep) (hl:es.size=kvs.length) :
  NI P w K tg (Yz a kvs o) [it] it (λi h=>h.IsKeyIter it a i (es.toList.map (·.key)).length ep) where
 mem:=by simp
 obj:=λi h st b hb=>by
  have e:b=it:=by simpa using hb
  subst e;obtain ⟨o,e,c,d⟩:=st;exact ⟨o,e,λv z=>by rw [d] at z;cases z⟩
 keep:=λi h h' st k=>st.at λo e=>k it (by simp) o e
 item:=by
  intro X hP hw hK hc i pins s Z H E I hf st hg;subst hP hw hK;obtain ⟨hlt,hq⟩:=hg
  obtain ⟨e0,_,_,xs,rel,o',es',ep',e1,e2,e3,e4,e5⟩:=(show fg X.prog X.w H s.heap a (.frz o (.dT kvs)) from I.fo a _ hq)
  rw [e0] at e1;cases e1;rw [hd] at e3
  injection e3 with e3 e3'
  subst e3 e3'
  obtain ⟨⟨k,v⟩,hkv⟩:∃ p,kvs[i]?=some p:=⟨kvs[i],by simp [hlt]⟩
  obtain ⟨q,hq2,rq⟩:=L2.Paired.at rel hkv
  have hkey:(es.toList.map (·.key))[i]?=some (.ref q.2.1):=by rw [e4,bo,aB,hq2];rfl
  obtain ⟨f0,f1,f2,f3,f4,f5⟩:=hf it (by simp);refine IH st ⟨o,es,e0,hx,hd,rfl⟩ hkey λh' st' sb=>?_;have I1:Inv X pins Z H { s with heap:=h' }:=I.turned (t':=s.toks) (λb o hb e=>(sb.2 b hb).trans e) f0 f1 f3 f4 f5;obtain ⟨o',e,c,d⟩:=id st';exact ⟨_,rfl,Ig (s:={ s with heap:=h' }) e c d (by decide) ⟨.ref q.2.1,H,I1,rfl,⟨rfl,k,v,q.2.1,hkv,rfl,rq.2.1⟩,st',λb hb=>(hf b hb).1⟩⟩
 done:=by
  intro X hP hw hK hc i pins s Z H E I hf st hg;subst hP hw hK;obtain ⟨hle,hq⟩:=hg
  obtain ⟨e0,_⟩:=(show fg X.prog X.w H s.heap a (.frz o (.dT kvs)) from I.fo a _ hq)
  obtain ⟨f0,f1,f2,f3,f4,f5⟩:=hf it (by simp)
  have hn:(es.toList.map (·.key)).length=kvs.length:=by rw [ag,aL,hl]
  exact MJ (I.ok.hd hc) (by lia) st ⟨o,es,e0,hx,hd,rfl⟩ λh' eb=>⟨rfl,I.turned (t':=s.toks) (λb o hb e=>eb b o hb e) f0 f1 f3 f4 f5⟩
 self:=λ_ _ _ _ _ st h=>Ao st h
def ZW (tl:TE):TI:=λZ H R=>tl Z H λx H1=>∃ a kvs,x=.ref a/\((H1 a=some (.dT kvs)/\∀ o,R (Yz a kvs o) (upd H1 a (.frz o (.dT kvs))))\/∃ o,H1 a=some (.frz o (.dT kvs))/\R (Yz a kvs o) H1)
def UN {tl:TE}{Z:St}{H:Hp}{R:It->Hp->Prop}(h:tl Z H λx H1=>∃ a kvs,x=.ref a/\((H1 a=some (.dT kvs)/\∀ o,R (Yz a kvs o) (upd H1 a (.frz o (.dT kvs))))\/∃ o,H1 a=some (.frz o (.dT kvs))/\R (Yz a kvs o) H1)):ZW tl Z H R:=h
section
variable {X:Cx}{tg:Expr}
def UO {l:Expr}{tl:TE}(hl:PE X l tl):PI X tg l (ZW tl):=by
 intro pins s Z H R I h;refine ic (hl pins s Z H _ I h) λv s1 ⟨x,H1,I1,r1,q1⟩=>?_;obtain ⟨a,kvs,e,q1⟩:=q1;subst e;cases r1
 rcases q1 with ⟨hq,q⟩|⟨ob,hq,q⟩
 rotate_left
 ·obtain ⟨ho,hz,hsys,xs,rel,ob',es,ep,ho',hx,hd,he,hn⟩:=(show fg X.prog X.w H1 s1.heap a (.frz ob (.dT kvs)) from I1.fo a _ hq)
  rw [ho] at ho';cases ho'
  have hl:es.size=kvs.length:=by rw [← aL,he,ag,Paired.len rel]
  refine Bl hsys ⟨ob,es,ho,hx,hd,rfl⟩ ?_;refine ⟨s1.heap.objs.size,[s1.heap.objs.size],_,_,_,rfl,I1.kept (t':=s1.toks) λb o e=>ar _ e,ML a _ ob kvs es ep hx hd hl,⟨_,aI _ rfl,rfl,rfl⟩,λb hb=>?_,q⟩
  have e:b=s1.heap.objs.size:=by simpa using hb
  subst e;exact I1.Mh (av _) (I1.fo.fresh (av _))
 obtain ⟨hz,hsys,xs,rel,ob,es,ep,ho,hx,hd,he,hn⟩:=(show fg X.prog X.w H1 s1.heap a (.dT kvs) from I1.fo a _ hq)
 have un:Un X.fs [] H1 (upd H1 a (.frz ob (.dT kvs))) s1.heap s1.heap:=by
  have hne:∀ b u,H1 b=some u->u≠.dT kvs->b≠a:=λb u e n z=>by subst z;rw [hq] at e;exact n (aY e).symm
  refine ⟨λb o e _ _ _=>e,λb o e _ _ _=>⟨o.slots,e⟩,λb o e n _=>?_,λb o e _=>⟨o,e⟩,λb ys e=>?_,λb o u e=>?_,λb ps e=>?_⟩
  ·rw [aH (λz=>by subst z;rw [hq] at n;cases n)];exact n
  ·rw [aH (hne b _ e (by intro z;cases z))];exact e
  ·rw [aH (hne b _ e (by intro z;cases z))];exact e
  ·exact ⟨#[],by rw [aH (hne b _ e (by intro z;cases z)),e];simp⟩
 have nt:∀ c ys,H1 c=some (.tup ys)->(upd H1 a (.frz ob (.dT kvs))) c=some (.tup ys):=λc ys q0=>by
  rw [aH (λz=>by rw [z,hq] at q0;cases q0)];exact q0
 have fo:qD X.prog X.w (upd H1 a (.frz ob (.dT kvs))) s1.heap:=λb u e=>by
  by_cases hb:b=a
  ·subst hb;rw [aF] at e;cases e;exact ⟨ho,hz,hsys,xs,Paired.Oz rel λp q z=>⟨z.1,nt _ _ z.2.1,z.2.2⟩,ob,es,ep,ho,hx,hd,he,hn⟩
  ·rw [aH hb] at e;refine (I1.fo b u e).Ak (λc v _ q=>q) (λc q0=>?_) nt;rw [aH (λz=>by rw [z,hq] at q0;cases q0)];exact q0
 have I2:Inv X pins Z (upd H1 a (.frz ob (.dT kvs))) { s1 with heap:=s1.heap,toks:=s1.toks }:=I1.un un fo
 have hl:es.size=kvs.length:=by rw [← aL,he,ag,Paired.len rel]
 refine Bl hsys ⟨ob,es,ho,hx,hd,rfl⟩ ?_;refine ⟨s1.heap.objs.size,[s1.heap.objs.size],_,_,_,rfl,I2.kept (t':=s1.toks) λb o e=>ar _ e,ML a _ ob kvs es ep hx hd hl,⟨_,aI _ rfl,rfl,rfl⟩,λb hb=>?_,q ob⟩
 have e:b=s1.heap.objs.size:=by simpa using hb
 subst e;exact I2.Mh (av _) (I2.fo.fresh (av _))
end
def Tp (H:Hp) (Q:VK):VK:=λx H'=>Q x H'\/∃ a o kvs,(∀ o' u',H a≠some (.frz o' u'))/\H' a=some (.frz o (.dT kvs))/\Q x (upd H' a (.dT kvs))
def Un.Ox {fs ex:List af}{H H':Hp}{h h':cf}{a:af}{o:fT}{kvs:List (List iA×V)}(u:Un fs ex H H' h h') (hn:∀ o' u',H a≠some (.frz o' u')) (ha:H' a=some (.frz o (.dT kvs))):Un fs ex H (upd H' a (.dT kvs)) h h' where
 keep:=u.keep
 slot:=u.slot
 free:=λb ob e n hx=>by
  have q:=u.free b ob e n hx;rw [aH (λz=>by rw [z,ha] at q;cases q)];exact q
 there:=u.there
 EF:=λb xs e=>by
  have q:=u.EF b xs e;rw [aH (λz=>by rw [z,ha] at q;cases q)];exact q
 C8:=λb ob w e=>by
  have q:=u.C8 b ob w e;rw [aH (λz=>hn ob w (by rw [← z];exact e))];exact q
 C5:=λb ps e=>by
  obtain ⟨more,q⟩:=u.C5 b ps e;exact ⟨more,by rw [aH (λz=>by rw [z,ha] at q;cases q)];exact q⟩
def qD.Ox {P:a6}{w:bO}{H:Hp}{h:cf}{a:af}{o:fT}{kvs:List (List iA×V)}(k:qD P w H h) (ha:H a=some (.frz o (.dT kvs))):qD P w (upd H a (.dT kvs)) h:=by
 have nt:∀ c ys,H c=some (.tup ys)->(upd H a (.dT kvs)) c=some (.tup ys):=λc ys q0=>by
  rw [aH (λz=>by rw [z,ha] at q0;cases q0)];exact q0
 intro b u e
 by_cases hb:b=a
 ·subst hb;rw [aF] at e;cases e
  obtain ⟨_,hz,hsys,xs,rel,ob,es,ep,r⟩:=(show fg P w H h b (.frz o (.dT kvs)) from k b _ ha)
  exact ⟨hz,hsys,xs,Paired.Oz rel λp q z=>⟨z.1,nt _ _ z.2.1,z.2.2⟩,ob,es,ep,r⟩
 ·rw [aH hb] at e;refine (k b u e).Ak (λc v _ q=>q) (λc q0=>?_) nt;rw [aH (λz=>by rw [z,ha] at q0;cases q0)];exact q0
end L2
namespace BootT
end BootT
namespace L2
open PySem PySem.Spec PyProof.Rows PySem.W
def k9.Ox {P:a6}{w:bO}{K:aa}{mg:bj->Option ai}{base:cf}{CX:Kp}{k:Nat}{f:af}{fd:eK}{ps:List bj}{sp sp':Sp}(F:k9 P w K mg base CX k f fd ps sp')
  (h:∀ vs H Q E,sp vs H Q E->sp' vs H (Tp H Q) E):k9 P w K mg base CX k f fd ps sp:=by
 refine ⟨λvs H Q E q=>F.len vs H _ E (h _ _ _ _ q),λA outer s H args us vs Q E hr he hb hv hs=>?_⟩;refine mK (F.run A outer s H args us vs _ E hr he hb hv (h _ _ _ _ hs)) λr s' q=>?_
 cases r with
 | error e=>exact q
 | ok fl =>
  cases fl with
  | ret u =>
   obtain ⟨v,H',h1,h2,h3,h4,h5,q⟩:=(show CE outer P w H s (Tp H Q) u s' from q)
   rcases q with q|⟨a,o,kvs,hn,ha,q⟩
   ·exact (show CE outer P w H s Q u s' from ⟨v,H',h1,h2,h3,h4,h5,q⟩)
   ·exact (show CE outer P w H s Q u s' from ⟨v,_,h1,h2,h3.Ox hn ha,h4.Ox ha,h5,q⟩)
  | _=>exact q
def Paired.eraseIdx {α β:Type} {F:α->β->Prop}{l₁:List α} {l₂:List β} (r:Paired F l₁ l₂):∀ j,Paired F (l₁.eraseIdx j) (l₂.eraseIdx j):=by
 induction r with
 | nil=>intro j;exact .nil
 | cons h t ih =>
  intro j
  cases j with
  | zero=>exact t
  | succ j=>exact .cons h (ih j)
theorem Bn {κ:Type} [DecidableEq κ] {k:κ}{v:V}:∀ {kvs:List (κ×V)}{j:Nat},(kvs.map (·.1)).Nodup->kvs[j]?=some (k,v)->kvs.eraseIdx j=nQ kvs k
 | [],j,_,e=>by simp at e
 | p::r,0,hn,e=>by
  simp only [lj,gg] at e;subst e;have h1:=(br.mp hn).1
  rw [NW rfl,Iv h1];rfl
 | p::r,j+1,hn,e=>by
  simp only [Mr] at e;have h1:=(br.mp hn).1;have hm:k∈r.map (·.1):=aT.mpr ⟨_,aR e,rfl⟩;have hne:¬ p.1=k:=λz=>h1 (by rw [show (λx:κ×V=>x.1) p=k from z];exact hm);rw [E3 hne,Ms,Bn (br.mp hn).2 e]
theorem yR {κ:Type} [DecidableEq κ] {k:κ}{v:V}:∀ {kvs:List (κ×V)}{j:Nat},(kvs.map (·.1)).Nodup->kvs[j]?=some (k,v)->kB kvs k=some v
 | [],j,_,e=>by simp at e
 | p::r,0,hn,e=>by
  simp only [lj,gg] at e;subst e
  exact qT rfl
 | p::r,j+1,hn,e=>by
  simp only [Mr] at e;have h1:=(br.mp hn).1;have hm:k∈r.map (·.1):=aT.mpr ⟨_,aR e,rfl⟩;have hne:¬ p.1=k:=λz=>h1 (by rw [show (λx:κ×V=>x.1) p=k from z];exact hm);rw [oN hne];exact yR (br.mp hn).2 e
theorem E9 {α β:Type} (f:α->β):∀ (l:List α) (j:Nat),(l.map f).eraseIdx j=(l.eraseIdx j).map f
 | [],_=>by simp
 | a::l,0=>rfl
 | a::l,j+1=>by simp [Ms,E9 f l j]
def N4 {H:Hp}{kvs:List (List iA×V)}{xs:List (List iA×af×ai)}(r:KT H kvs xs):kvs.map (·.1)=xs.map (·.1):=by
 induction r with
 | nil=>rfl
 | cons h t ih=>simp [h.1,ih]
section
variable {X:Cx}
def UP:List V->Hp->VK->Prop:=λxs H Q=>∃ a kvs,xs=[V.ref a]/\H a=some (.dT kvs)/\Q (.int kvs.length) H
def N5:mD X (.builtin "len") UP:=by
 intro pins s Z H xs us Q I r h;obtain ⟨a,kvs,rfl,ha,q⟩:=h;obtain ⟨u,rfl,ru⟩:=vals1 r;cases ru
 obtain ⟨hz,lo,ys,rel,o,es,ep,e1,e2,e3,e4,e5⟩:=(show fg X.prog X.w H s.heap a (.dT kvs) from I.fo a _ ha)
 have hl:es.size=kvs.length:=by rw [← aL,e4,ag,Paired.len rel]
 have hT:s.TypeIs (.ref a) "dict":=⟨o,e1,e2.1⟩
 have hfit:(kvs.length:Int)<2^63:=by rw [oz] at hz;lia
 refine pF kind_len plain_len entry_len (args_len1 _) ?_;unfold gG.«len»;refine ae (m:=oneArg "len" _) (ak ?_);refine ae (m:=callSpecial? (.ref a) (fE "__len__")) (cW (name:=fE "__len__") hT F.slot_dict_len (cL F.slot_dict_len hT F.entry_dict_len ?_ (F.args_dict_len_1 _)))
 show aG _ _ (dictSize a >>= _) _ _ s
 unfold dictSize;refine ae (ae (ke e1 e3 (ak ?_)))
 show aG _ _ (Builtin.Dict.pendingCount a >>= _) _ _ s
 refine ae (wpAny_pendingCount_other lo (wpAny_ret_mkInt ?_));rw [Nat.add_zero,hl]
 show aG _ _ _ _ _ { s with toks:=s.toks+1 }
 refine ae (cA (ak (ae (Ky ?_))))
 show aG _ _ (if ((kvs.length:Nat):Int)<0 then _ else _) _ _ _
 rw [if_neg (by lia)]
 show aG _ _ (if ((kvs.length:Nat):Int)>=2^63 then _ else _) _ _ _
 rw [if_neg (by lia)];exact ae (wpAny_mkInt (ak ⟨_,rfl,.int kvs.length,H,(I.tok _).tok _,⟨_,rfl⟩,q⟩))
def IK:V->List V->Hp->VK->Prop:=λx vs H Q=>∃ a kvs k b v,x=.ref a/\vs=[.ref b]/\H a=some (.dT kvs)/\H b=some (.tup (k.map kV))/\kB kvs k=some v/\Q v (upd H a (.dT (nQ kvs k)))
def Az (hu:X.A.units+64<gZ):Sd X "dict.pop" IK:=by
 intro pins s Z H x xs v us Q I rx rs h;obtain ⟨a,kvs,k,b,y,rfl,rfl,ha,hb,hy,q⟩:=h;cases rx;obtain ⟨u,rfl,ru⟩:=vals1 rs;cases ru
 obtain ⟨hz,lo,ys,rel,o,es,ep,e1,e2,e3,e4,e5⟩:=(show fg X.prog X.w H s.heap a (.dT kvs) from I.fo a _ ha)
 have hl:es.size=kvs.length:=by rw [← aL,e4,ag,Paired.len rel]
 have hT:s.TypeIs (.ref a) "dict":=⟨o,e1,e2.1⟩
 have hes:es.size<=aV:=by rw [hl];exact hz
 have hkey:=qU (P:=X.prog) (w:=X.w) I.fo hb
 have his:∀ x∈ys,(kP (fu X.prog X.w)).is s.heap x.1 x.2.1:=λx hx=>by
  obtain ⟨i,hi⟩:=bJ.mp hx
  obtain ⟨p,hp⟩:∃ p,kvs[i]?=some p:=⟨kvs[i]'(by rw [Paired.len rel];exact (aC.mp hi).1),by simp⟩
  obtain ⟨x',hx',r1,r2,_⟩:=L2.Paired.at rel hp;rw [hi] at hx';cases hx';rw [← r1];exact qU I.fo r2
 have rel:KT H kvs ys:=rel;have ev:=KT.val rel k;rw [hy] at ev;have hroom:(kP (fu X.prog X.w)).room X.A.in1:=jF (by lia)
 have hnd:(kvs.map (·.1)).Nodup:=by rw [N4 rel];exact e5
 refine cL F.slot_dict_pop hT F.entry_dict_pop ?_ (F.args_dict_pop_2 _ _);unfold gG.«dict.pop» Builtin.Dict.keyAndDefault;refine ae (ae (VJ hT ?_))
 show aG _ _ (pure (a,aD b,none)) _ _ s
 refine ak ?_
 have hne:es.isEmpty=false:=by
  cases e:es.isEmpty with
  | false=>rfl
  | true =>
   have:es.size=0:=by simpa [Array.isEmpty] using e
   have:kvs=[]:=mX (by lia);subst this;cases hy
 show aG _ _ (dictEntries a >>= _) _ _ s
 refine ae (ke e1 e3 ?_);simp only [hne,bY,if_false,pure_bind];refine ae ?_;unfold Builtin.Dict.takeOut
 try with_reducible refine cA ?_
 refine ae ((kP (fu X.prog X.w)).pyHash hroom hkey ?_);refine ae (wpAny_dictFind_heap (s:={ s with toks:=s.toks+(kP (fu X.prog X.w)).draws k }) hroom hkey e1 e3 e4 his e5 (λhno=>?_) λj p hj=>?_)
 ·rw [atKey_none_of_get hno] at ev;exact ev.elim
 ·have ep':HA ys k=some p:=atKey_of_get e5 hj;rw [ep'] at ev;have ev:RelV y p.2:=ev;refine ae (ke (s:={ s with toks:=s.toks+(kP (fu X.prog X.w)).draws k }) e1 e3 ?_);rw [entry_at e4 j,hj];refine ae (wpAny_updateDictKeys (hz:=hes) (s:={ s with toks:=s.toks+(kP (fu X.prog X.w)).draws k }) e1 e3 (ak ?_));simp only [Do,O3,bY,if_false];refine ae (Ky (ak ⟨_,rfl,y,upd H a (.dT (nQ kvs k)),?_,ev,q⟩))
  have hk2:kvs[j]?=some (k,y):=by
   have hjl:j<kvs.length:=by rw [Paired.len rel];exact (aC.mp hj).1
   obtain ⟨x',hx',r1,_⟩:=L2.Paired.at rel (ay hjl);rw [hj] at hx';cases hx'
   have e:kvs[j]?=some (k,kvs[j].2):=by
    rw [ay hjl];have r1:kvs[j].1=k:=r1;exact congrArg some (oE r1 rfl)
   have:=yR hnd e;rw [hy] at this;rw [e,← aY this]
  have hrel:KT H (nQ kvs k) (ys.eraseIdx j):=by rw [← Bn hnd hk2];exact Paired.eraseIdx rel j
  refine FY I (by rw [ha];exact iN) (c9 ..) ⟨_,bT _ e1 (Sn (xD e3 _))⟩
   ⟨bu (cw _ _) hz,lo,_,hrel.keeps λc zs ec=>?_,_,_,ep+1,bT _ e1 (Sn (xD e3 _)),e2.mapDictKeys _,xD e3 _,?_,?_⟩
  ·rw [aH (fX ec ha (λz=>nomatch z))];exact ec
  ·have:(es.eraseIdxIfInBounds j).toList=es.toList.eraseIdx j:=by obtain ⟨l⟩:=es;simp
   rw [this,e4,E9]
  ·exact (vz _ (ON _ _)).nodup e5
end
end L2
namespace L2
open PySem PySem.Spec PyProof.Rows PySem.W
namespace Rv
section
variable {prog:a6}{w:bO}{A:bR}{E:ai->ao->Prop}{s:ao}{I l:af}
end
end Rv
section
variable {X:Cx}{x:Expr}{t:TA}{p1 p2 q1 q2:lg}
end
end L2
namespace Sw
open PySem
def yE (xs:Array Nat):Prop:=xs.toList.Pairwise (· < ·)
def yE.lt {xs:Array Nat}(h:yE xs) {i j a b:Nat}(hij:i<j) (h1:xs[i]?=some a) (h2:xs[j]?=some b):a<b:=by
 rw [← dm] at h1 h2;obtain ⟨hi,e1⟩:=aC.mp h1;obtain ⟨hj,e2⟩:=aC.mp h2;have:=kr.mp h i j hi hj hij;rw [e1,e2] at this;exact this
theorem Bo {xs:Array Nat}{j:Nat}(h:yE xs):∀ (fuel lo hi:Nat),lo<=hi->hi<=xs.size->hi-lo<=fuel->(∀ i a,i<lo->xs[i]?=some a->a<j)->(∀ i a,hi<=i->xs[i]?=some a->j<=a) ->
  (mQ xs j fuel lo hi<=xs.size/\(∀ i a,i<mQ xs j fuel lo hi->xs[i]?=some a->a<j)/\∀ i a,mQ xs j fuel lo hi<=i->xs[i]?=some a->j<=a)
 | 0,lo,hi,h1,h2,h3,h4,h5=>by
  have:lo=hi:=by lia
  subst this
  exact ⟨h2,h4,h5⟩
 | fuel+1,lo,hi,h1,h2,h3,h4,h5=>by
  unfold mQ
  by_cases c:lo<hi
  ·rw [if_pos c]
   have hm:(lo+hi)/2<xs.size:=by lia
   have em:xs[(lo+hi)/2]?=some xs[(lo+hi)/2]:=bX hm
   have eg:xs.getD ((lo+hi)/2) j=xs[(lo+hi)/2]:=by simp [RZ,hm]
   simp only [eg]
   by_cases c2:xs[(lo+hi)/2]<j
   ·rw [if_pos c2];refine Bo h fuel _ _ (by lia) h2 (by lia) (λi a hi' ha=>?_) h5
    by_cases e:i=(lo+hi)/2
    ·subst e;rw [em] at ha;cases ha;exact c2
    ·exact OJ (h.lt (show i<(lo+hi)/2 by lia) ha em) c2
   ·rw [if_neg c2];refine Bo h fuel _ _ (by lia) (by lia) (by lia) h4 (λi a hi' ha=>?_)
    by_cases e:i=(lo+hi)/2
    ·subst e;rw [em] at ha;cases ha;lia
    ·have:=h.lt (show (lo+hi)/2<i by lia) em ha;lia
  ·rw [if_neg c]
   have:lo=hi:=by lia
   subst this;exact ⟨h2,h4,h5⟩
def Bp {xs:Array Nat}(h:yE xs) (j:Nat):dG xs j<=xs.size/\(∀ i a,i<dG xs j->xs[i]?=some a->a<j)/\∀ i a,dG xs j<=i->xs[i]?=some a->j<=a :=
 Bo h _ _ _ (aK _) (av _) (by lia) (λi a hi=>absurd hi (by lia)) λi a hi ha=>by
  have:=(cE.mp ha).1;lia
def IL {xs:Array Nat}(h:yE xs) {k p:Nat}(hk:k=0/\p=0\/∃ k',k=k'+1/\∃ a,xs[k']?=some a/\p=a+1):dG xs p=k:=by
 obtain ⟨h1,h2,h3⟩:=Bp h p
 rcases hk with ⟨rfl,rfl⟩|⟨k',rfl,a,ha,rfl⟩
 ·by_cases e:dG xs 0=0
  ·exact e
  ·have:xs[0]?=some xs[0]:=bX (by lia);have:=h2 0 _ (by lia) this;lia
 ·have hk:=(cE.mp ha).1
  rcases Nat.lt_trichotomy (dG xs (a+1)) (k'+1) with c|c|c
  ·have:=h3 k' a (by lia) ha;lia
  ·exact c
  ·have e:xs[k'+1]?=some (xs[k'+1]'(by lia)):=bX (by lia);have q1:=h2 (k'+1) _ c e;have q2:=h.lt (show k'<k'+1 by lia) ha e;lia
def yE.insert {xs:Array Nat}(h:yE xs) {j:Nat}(hj:xs[dG xs j]?≠some j):yE (SetTable.insertAt xs (dG xs j) j):=by
 obtain ⟨h1,h2,h3⟩:=Bp h j;generalize dG xs j=p at h1 h2 h3 hj;unfold yE;rw [SetTable.toList_insertAt];have e:xs.toList=xs.toList.take p++xs.toList.drop p:=(eL _ _).symm
 have hp:(xs.toList.take p++xs.toList.drop p).Pairwise (· < ·):=by rw [← e];exact h
 rw [gC] at hp;obtain ⟨p1,p2,p3⟩:=hp
 have m1:∀ a∈xs.toList.take p,a<j:=λa ha=>by
  obtain ⟨i,hi⟩:=bJ.mp ha;rw [kU] at hi
  split at hi
  ·exact h2 i a (by assumption) (by rw [← dm];exact hi)
  ·cases hi
 have m2:∀ a∈xs.toList.drop p,j<a:=λa ha=>by
  obtain ⟨i,hi⟩:=bJ.mp ha;rw [oH,dm] at hi;have q:=h3 (p+i) a (by lia) hi
  rcases Nat.lt_or_eq_of_le q with q|q
  ·exact q
  ·subst q
   cases i with
   | zero=>exact absurd hi hj
   | succ i =>
    have e0:xs[p]?=some (xs[p]'(by have:=(cE.mp hi).1;lia)):=bX _;have q1:=h3 p _ (av _) e0;have q2:=h.lt (show p<p+(i+1) by lia) e0 hi;lia
 rw [gC];refine ⟨p1,List.pairwise_cons.mpr ⟨m2,p2⟩,λa ha b hb=>?_⟩
 rcases au.mp hb with rfl|hb
 ·exact m1 a ha
 ·exact p3 a ha b hb
structure TI (t:gN):Prop where
 rise:yE t.place
 nod:t.dummies=#[]
def MM (j:Nat):HW #[] j=false:=by simp [HW]
theorem IM {t:gN}(h:TI t) {hashAt:Nat->Int}{hh:Int}:∀ (fuel:Nat) (p:SetTable.Probe) {j:Nat}{d:Option Nat},sZ t hashAt hh fuel p=some (.empty j d)->p.dummy=none->d=none/\t.place[dG t.place j]?≠some j
 | 0,p,j,d,e,_=>by simp [sZ] at e
 | fuel+1,p,j,d,e,hd=>by
  unfold sZ at e
  have adv:(t.advance p).dummy=none:=by unfold SetTable.advance;split<;>exact hd
  cases hs:t.slot p.j with
  | empty =>
   rw [hs] at e;simp only [gg,VM] at e;obtain ⟨rfl,rfl⟩:=e;refine ⟨hd,λz=>?_⟩;unfold Uu at hs
   simp [z] at hs
  | dummy =>
   unfold Uu at hs;rw [h.nod] at hs;simp only [MM] at hs
   split at hs<;>simp at hs
  | live i =>
   rw [hs] at e;simp only at e
   split at e
   ·simp at e
   ·exact IM h fuel _ e adv
def N6 {t:gN}(h:TI t) {hh:Int}{j:Nat}{b:Bool}(e:t.freeSlot hh=some (j,b)):t.place[dG t.place j]?≠some j:=by
 unfold SetTable.freeSlot at e
 split at e
 ·rename_i j' d he
  obtain ⟨e1,e2⟩:=IM h _ _ he rfl;subst e1;simp at e;rw [← e.1];exact e2
 ·cases e
def TI.standIn (t:gN) (n:Nat):TI (t.standIn n):=⟨by unfold yE SetTable.standIn;simp only [Array.toList_range];exact Ny,rfl⟩
def TI.orStandIn {t:gN}(h:TI t) (n:Nat):TI (t.orStandIn n):=by
 unfold Nz
 split
 ·exact h
 ·exact TI.standIn t n
def TI.put {t:gN}(h:TI t) {j:Nat}(hj:t.place[dG t.place j]?≠some j):TI (t.put j).1:=by
 refine ⟨h.rise.insert hj,?_⟩
 show (if HW t.dummies j then _ else t.dummies)=#[]
 rw [h.nod,MM,if_neg (by decide)]
def TI.layNew {t:gN}(h:TI t) (es:Array (Int×ai)) (hh:Int) (x:ai):TI (Au t es hh x).2.1:=by
 unfold Au
 split
 ·rename_i slot wd he
  exact (h.put (N6 h he)).orStandIn _
 ·exact TI.standIn t _
def TI.relayAll {t:gN}(es:Array (Int×ai)) (wanted:Nat):TI (vp t es wanted).2.1:=by
 unfold vp
 split
 ·rename_i t' order he
  dsimp only
  split
  ·unfold R3 Uv at he;simp only [OO,Ko,Uw,gg] at he;obtain ⟨owner,_,he⟩:=he;have:=(cg he).1;subst this;refine ⟨?_,rfl⟩
   show ((dv _).filterMap _ |>.map _).toArray.toList.Pairwise _
   rw [List.toList_toArray,List.map_filterMap]
   have:(λx=>xJ (λy:Nat×Nat=>y.1) (xJ (λy=>(x,y)) (owner.getD x none)))=λx=>xJ (λ_=>x) (owner.getD x none):=by funext x;cases owner.getD x none<;>rfl
   refine List.Pairwise.filterMap _ (λa b hab c hc d hd=>?_) Ny;cases ha:owner.getD a none<;>rw [ha] at hc<;>simp at hc;cases hb:owner.getD b none<;>rw [hb] at hd<;>simp at hd;lia
  ·exact TI.standIn t _
 ·exact TI.standIn t _
def TI.off {t:gN}(h:TI t):TI { t with plain:=false }:=⟨h.rise,h.nod⟩
def TI.fresh (a b:Nat) (c:Bool):TI (So a b c):=⟨by simp [yE,So],rfl⟩
def K5 (t:gN) (es:Array (Int×ai)) (hh:Int) (x:ai):(Au t es hh x).2.1.led=t.led:=by
 unfold Au
 split
 ·simp only [Nz];split<;>rfl
 ·rfl
def Ge (t:gN) (es:Array (Int×ai)) (wanted:Nat):(vp t es wanted).2.1.led=t.led:=by
 unfold vp
 split
 ·rename_i t' order he
  dsimp only
  split
  ·unfold R3 Uv at he;simp only [OO,Ko,Uw,gg] at he;obtain ⟨owner,_,he⟩:=he;have:=(cg he).1;subst this
   rfl
  ·rfl
 ·rfl
end Sw
namespace Sw
def key (e:Int×ai):Int:=match e.2 with | .int i _=>i|_=>0
section
variable {prog:a6}{w:bO}
def SO (prog:a6) (w:bO) (bt:Bool) (h:cf) (a:af) (ks:List Int):Prop :=
 ∃ o es ep t,h.get? a=some o/\o.ExactSet/\o.data=.set es ep t/\ElemsOf (mJ prog w) es.toList/\(∀ e∈es.toList,∃ u,e.2=.int (key e) u)/\es.size<vq/\t.fits es.size=true/\TI t/\t.led=!bt/\ks=es.toList.map key/\ks.Nodup
def SO.keep {bt:Bool}{h h':cf}{a:af}{ks:List Int}(x:SO prog w bt h a ks) (k:∀ o,h.get? a=some o->h'.get? a=some o):SO prog w bt h' a ks :=
 let ⟨o,es,ep,t,e,r⟩:=x;⟨o,es,ep,t,k o e,r⟩
def SO.lt {bt:Bool}{h:cf}{a:af}{ks:List Int}(x:SO prog w bt h a ks):a<h.objs.size:=let ⟨_,_,_,_,e,_⟩:=x;aJ e
variable {A:bR}{E:ai->ao->Prop}{s:ao}
def IP {g:Bool->Uq Unit}(hg:∀ (b:Bool) (s₁:ao) (Q':Unit->ao->Prop),Q' () s₁->aG (aM prog w) A (g b) Q' E s₁)
  {a:af}{o:fT}{es:Array (Int×ai)}{ep:Nat}{t:gN}(ho:s.heap.get? a=some o) (hd:o.data=.set es ep t)
  {es1:Array (Int×ai)}{t2:gN}(hb1:es1.size<vq) (hf2:t2.fits es1.size=true) (ti:TI t2) {wasDummy:Bool}{R:Option Bool->ao->Prop}
  (h:∀ h' es2 ep2 t3,gY a s.heap h'->h'.get? a=some { o with data:=.set es2 ep2 t3 }->es2.toList.Perm es1.toList->t3.fits es2.size=true->TI t3->t3.led=t2.led->R (some true) { s with heap:=h' }) :
  aG (aM prog w) A (do
    storeSet a es1 t2
    if (!wasDummy && t2.tooFull)=true then do
      g (relayAll t2 es1 (iO es1.size)).2.2
      storeSet a (relayAll t2 es1 (iO es1.size)).1 (relayAll t2 es1 (iO es1.size)).2.1
      pure (some true)
     else pure (some true)) R E s:=by
 refine ae (wpAny_storeSet_of ho hd ?_ (HG hb1))
 have g1:(s.heap.update a (tV es1 t2)).get? a=some { o with data:=.set es1 (ep+1) t2 }:=by
  have:=bT (tV es1 t2) ho (by rw [putSet_of es1 t2 hd];rfl);rw [putSet_of es1 t2 hd] at this;exact this
 have b1:=c9 s.heap a (tV es1 t2)
 split
 ·have hp:=relayAll_perm t2 es1 (iO es1.size);have hfr:=relayAll_fits t2 es1 (iO es1.size);have tir:=TI.relayAll (t:=t2) es1 (iO es1.size);have lr:=Ge t2 es1 (iO es1.size);generalize relayAll t2 es1 (iO es1.size)=Rl at hp hfr tir lr ⊢;obtain ⟨es2,t3,gave2⟩:=Rl;dsimp only at hp hfr tir lr ⊢
  have hsz:es2.size=es1.size:=by rw [← aL,hp.length_eq,aL]
  refine ae (hg _ _ _ (ae (wpAny_storeSet_of g1 rfl ?_ (HG (by rw [hsz];exact hb1)))));have g2:((s.heap.update a (tV es1 t2)).update a (tV es2 t3)).get? a=some { o with data:=.set es2 (ep+1+1) t3 }:=bT (tV es2 t3) g1 rfl;exact ak (h _ es2 _ t3 (b1.trans (c9 _ a _)) g2 hp hfr tir lr)
 ·exact ak (h _ es1 _ t2 b1 g1 (sL _) hf2 ti rfl)
def WJ {bt:Bool}{a:af}{ks:List Int}{k:Int}{u:Uo}{Q:Bool->ao->Prop}(hS:SO prog w bt s.heap a ks) (hroom:ks.length+1<vq)
  (h:∀ h' ks' b,gY a s.heap h'->SO prog w bt h' a ks'->(∀ x,x∈ks'↔x∈ks\/x=k)->ks'.length<=ks.length+1->Q b { s with heap:=h' }) :
  aG (aM prog w) A (setAddHashed a (.int k u) ((mJ prog w).hash k)) Q E s:=by
 obtain ⟨o,es,ep,t,ho,hex,hd,hel,hin,hb,hf,ti,hled,rfl,hnd⟩:=hS;have hsc:(fw k u).scannable=true:=rfl;have hkey:(mJ prog w).is k (.int k u)=true:=intKind_is _ _ _ _
 have hisk:∀ e∈es.toList,((mJ prog w).is k e.2=true↔key e=k):=λe he=>by
  obtain ⟨v,hv⟩:=hin e he;rw [hv,KeyKind.is_eq_decide (intKind_is prog w (key e) v) k,decide_eq_true_iff];exact eq_comm
 unfold setAddHashed setAddHashedIn;refine cA (ae (iU ho hd hf ?_));dsimp only;rw [byScan_of hsc hb hel];simp only [↓reduceIte];unfold setAddByScan;refine ae (ae (jd (ae (wpAny_setScan_of hkey ho hd hf hel ?_))))
 cases hr:List.findIdx? (λe=>(mJ prog w).is k e.2) es.toList with
 | some j =>
  dsimp only;obtain ⟨hj,hpj,_⟩:=List.findIdx?_eq_some_iff_getElem.mp hr;have hm:k∈es.toList.map key:=aT.mpr ⟨es.toList[j],hZ hj,(hisk _ (hZ hj)).mp hpj⟩;refine ak (ak ?_)
  have e:s={ s with heap:=s.heap }:=by cases s;rfl
  rw [e]
  exact h s.heap _ _ (Heap.SameBut.refl a s.heap) ⟨o,es,ep,t,ho,hex,hd,hel,hin,hb,hf,ti,hled,rfl,hnd⟩ (λx=>⟨.inl,λq=>q.elim id λe=>e▸hm⟩) (iL _)
 | none =>
  dsimp only
  have hnm:k∉es.toList.map key:=λhm=>by
   obtain ⟨e,he,ek⟩:=aT.mp hm;have:=List.findIdx?_eq_none_iff.mp hr e he;rw [(hisk e he).mpr ek] at this;exact Bool.noConfusion this
  have hgw:∀ (b:Bool) {s₁:ao} {Q':Unit->ao->Prop},Q' () s₁->aG (aM prog w) A (match b with|true=>EJ "set.scan.the-table-gave-way" | false=>pure ()) Q' E s₁ :=
   λb s₁ Q' hq=>by cases b<;>first|exact ak hq|exact jd hq
  have hperm:=layNew_perm t es ((mJ prog w).hash k) (.int k u);have hfits:=layNew_fits t es ((mJ prog w).hash k) (.int k u);have tin:=ti.layNew es ((mJ prog w).hash k) (.int k u);have ledn:=K5 t es ((mJ prog w).hash k) (.int k u);generalize layNew t es ((mJ prog w).hash k) (.int k u)=L at hperm hfits tin ledn ⊢;obtain ⟨es1,t1,wasDummy,gave⟩:=L;dsimp only at hperm hfits tin ledn ⊢;rw [As] at hperm
  have hsz1:es1.size=es.size+1:=by rw [← aL,hperm.length_eq,bz,aL];rfl
  rw [ag,aL] at hroom
  have hb1:es1.size<vq:=by lia
  refine ae (hgw _ ?_)
  have hend:∀ (h':cf) (es2:Array (Int×ai)) (ep2:Nat) (t2 t3:gN),t2.led=t1.led->gY a s.heap h'->h'.get? a=some { o with data:=.set es2 ep2 t3 }->es2.toList.Perm es1.toList->t3.fits es2.size=true->TI t3->t3.led=t2.led->Q true { s with heap:=h' }:=by
   intro h' es2 ep2 t2 t3 l2 sb g2 hp2 hf3 ti3 l3;have hpp:=hp2.trans hperm;have hpk:=hpp.map key;rw [aP] at hpk;have ek:[((mJ prog w).hash k,fw k u)].map key=[k]:=rfl;rw [ek] at hpk
   have hs2:es2.size=es.size+1:=by rw [← aL,hp2.length_eq,aL];exact hsz1
   refine h h' (es2.toList.map key) true sb ⟨_,es2,ep2,t3,g2,hex,rfl,(hel.push hkey hsc).perm hpp,λe he=>?_,by lia,hf3,ti3,by rw [l3,l2,ledn,hled],rfl,?_⟩ (λx=>?_) (by rw [ag,ag,aL,aL];lia)
   ·rcases aN.mp (hpp.mem_iff.mp he) with he|he
    ·exact hin e he
    ·rw [aA.mp he];exact ⟨u,rfl⟩
   ·exact hpk.nodup_iff.mpr (L2.MD hnd hnm)
   ·rw [hpk.mem_iff,aN,aA]
  split
  ·refine ae ?_;rw [hashByValue_scannable 8 hsc];refine ak ?_;refine IP (λb s₁ Q' hq=>by cases b<;>first|exact ak hq|exact jd hq) ho hd hb1 ?_ ?_ ?_
   ·split
    ·exact hfits
    ·exact SetTable.fits_plain_off hfits
   ·split
    ·exact tin
    ·exact tin.off
   ·intro h' es2 ep2 t3 q1 q2 q3 q4 q5 q6;dsimp only;refine ak (hend h' es2 ep2 _ t3 ?_ q1 q2 q3 q4 q5 q6)
    split<;>rfl
  ·refine ae (ak ?_);simp only [↓reduceIte];refine IP (λb s₁ Q' hq=>by cases b<;>first|exact ak hq|exact jd hq) ho hd hb1 hfits tin ?_;intro h' es2 ep2 t3 q1 q2 q3 q4 q5 q6;dsimp only;exact ak (hend h' es2 ep2 _ t3 rfl q1 q2 q3 q4 q5 q6)
end
end Sw
namespace Sw
abbrev bt (w:bO):Bool:=w.params.followText "set-order"
section
variable {prog:a6}{w:bO}{A:bR}{E:ai->ao->Prop}{s:ao}
def Qj (a:ai) {Q₁:ai->ao->Prop} (h:Q₁ (.ref s.heap.objs.size) { s with heap:=s.heap.push { cls:=.type "set",dict:=none,data:=.set #[] 0 (.fresh 0 0 (!bt w)) } }) :
  ka (aM prog w) A (.call (.builtin "set.__new__") ⟨[.type "set",a],[]⟩) (wants Q₁ E) s:=by
 refine codeAny_of_tree ?_
 show aG _ A.in1 (do checkBuiltinCall "set.__new__" ⟨[.type "set",a],[]⟩;again (.builtin "set.__new__" ⟨[.type "set",a],[]⟩)) _ _ s
 refine ae (Kz (F.newCall_set_1 a) (ak ⟨gH F.plain_set_new _,d8 F.entry_set_new ?_⟩));rw [cX F.plain_set_new _];unfold gG.«set.__new__» Xs;have hsub:=sub_set_self;obtain ⟨hp,g,d,tk,os⟩:=s;dsimp only
 wp_walk
 refine iw (ak ?_);dsimp only;simp only [newObj];refine ae (wpAny_alloc (ak ?_));exact ak h
def Tq {R:Kh->ao->Prop}{I:af}{fp wr:List af}{G:Array Xl->Array Xl->Prop}{n:Nat}{P:Nat->ai->Prop}{St:Nat->ao->Prop}(W:WalksS prog w A.in1 I fp wr G n P St) (S:af) (hSf:S∉fp) (ns:List Int) (hl:ns.length=n) (hval:∀ i v,P i v->∃ k t,ns[i]?=some k/\v=.int k t) (hb:n+1<vq) :
  ∀ (k i:Nat) (s:ao) (ks:List Int),n-i=k->i<=n->St i s->SO prog w (bt w) s.heap S ks->(∀ x,x∈ks↔x∈ns.take i)->ks.length<=i ->
   (∀ s' ks',Moved (S::wr) G s s'->SO prog w (bt w) s'.heap S ks'->(∀ x,x∈ks'↔x∈ns)->ks'.length<=n->R (.ok (.ret .none)) s') ->
   ka (aM prog w) A (.builtin "set.update.loop" ⟨[.ref S,.ref I],[]⟩) R s:=by
 have hSw:S∉wr:=λh=>hSf (W.sub _ h);have hsub:∀ b∈wr,b∈S::wr:=λb hb=>aj _ hb;intro k
 induction k with
 | zero =>
  intro i s ks hk hi hst hS hm0 hle hR
  have hin:i=n:=by lia
  subst hin;refine d8 F.entry_set_update_loop ?_;rw [cX F.plain_set_update_loop _]
  show aG _ A.in1 (i9 (.ref I) >>= _) _ _ s
  refine ae (W.done s _ _ hst λs' hm=>?_)
  show aG _ A.in1 (ret eW) _ _ s'
  exact ak (hR s' ks (hm.mono hsub) (hS.keep λo e=>hm.heap S o hSw e) (λx=>by rw [hm0,← hl,qM]) hle)
 | succ k ih =>
  intro i s ks hk hi hst hS hm0 hle hR
  have hlt:i<n:=by lia
  refine d8 F.entry_set_update_loop ?_;rw [cX F.plain_set_update_loop _]
  show aG _ A.in1 (i9 (.ref I) >>= _) _ _ s
  refine ae (W.item i s _ _ hlt hst λv s' hP hst' hm=>?_);obtain ⟨c,t,hc,rfl⟩:=hval i v hP
  show aG _ A.in1 (j9 [fw c t] (setAdd S (.int c t)) >>= _) _ _ s'
  refine ae (cA ?_);unfold setAdd;refine cA ?_;refine ae ((mJ prog w).pyHash (k:=c) (intKind_is _ _ _ _) ?_);refine WJ (s:={ s' with toks:=s'.toks+1 }) (hS.keep λo e=>hm.heap S o hSw e) (by lia) λh' ks' b hsb hS2 hmem hlen=>?_;refine ak ⟨gH F.plain_set_update_loop _,ih (i+1) _ ks' (by lia) hlt (W.frame _ s' _ _ hst' (iL _) λb hb o e=>?_) hS2 (λx=>?_) (by lia) λs'' ks'' hm'' hS'' hmem'' hlen''=>?_⟩
  ·rw [hsb.2 b (λh:b=S=>hSf (by rw [← h];exact hb))];exact e
  ·rw [hmem,hm0,XT,hc,aN];simp
  ·refine hR s'' ks'' (Moved.trans W.gtrans ((hm.mono hsub).then_heap (iL _) λb o hb e=>?_) hm'') hS'' hmem'' hlen'';rw [hsb.2 b (λh:b=S=>hb (by rw [h];exact aw))];exact e
def Qk {l:af}{items:Array ai}{ns:List Int}{Q:ai->ao->Prop}(hh:A.handled=none) (hl:s.heap.IsList l items) (hi:fz items.toList ns) (hb:items.size+1<vq)
  (h:∀ (h':cf) (tk:Nat) (ks:List Int),SO prog w (bt w) h' s.heap.objs.size ks->(∀ x,x∈ks↔x∈ns)->ks.length<=items.size->(∀ b o,s.heap.get? b=some o->h'.get? b=some o)->Q (.ref s.heap.objs.size) { s with heap:=h',toks:=tk }) :
  aG (aM prog w) A (call (.type "set") [.ref l]) Q E s:=by
 obtain ⟨c,tl,hmro⟩:=F.called_set.mro;have hmade:=F.called_set.made;have hsub:=F.called_set.sub;refine OF (codeAny_of_tree ?_)
 show aG _ _ (callAny (.type "set") _) _ _ _
 refine ak ⟨Code.quiet_builtin _ (by decide +kernel),d8 F.entry_type_call ?_⟩;rw [Around.under_plain (weight_type_call_type "set" [.ref l] []) rfl];have h1:=F.called_set.notType;have h2:=F.called_set.canCreate;have hct:=F.typeCall_set_1 (.ref l)
 repeat (any_goals (first|assumption|wp_step))
 refine mK (Qj (.ref l) (E:=E) (Q₁:=λobj s₁=>obj=.ref s.heap.objs.size/\s₁={ s with heap:=s.heap.push { cls:=.type "set",dict:=none,data:=.set #[] 0 (.fresh 0 0 (!bt w)) } }) ⟨rfl,rfl⟩) λr s₁ hr=>?_
 cases r with
 | error e=>exact hr
 | ok fl =>
  cases fl with
  | ret obj =>
   obtain ⟨rfl,rfl⟩:=hr;have hS:(s.heap.push { cls:=.type "set",dict:=none,data:=.set #[] 0 (.fresh 0 0 (!bt w)) }).get? s.heap.objs.size=some { cls:=.type "set",dict:=none,data:=.set #[] 0 (.fresh 0 0 (!bt w)) }:=aI _ rfl
   have hT:Shared.TypeIs { s with heap:=s.heap.push { cls:=.type "set",dict:=none,data:=.set #[] 0 (.fresh 0 0 (!bt w)) } } (.ref s.heap.objs.size) "set":=⟨_,hS,rfl⟩
   have hli:=F.called_set.init.lookup;have hbi:=F.called_set.init.bind (.ref s.heap.objs.size)
   repeat (any_goals (first|assumption|wp_step))
   refine mK (codeAny_call_builtin (R:=wants (λr s₂=>r=.none/\∃ h' tk ks,s₂={ s with heap:=h',toks:=tk }/\SO prog w (bt w) h' s.heap.objs.size ks/\(∀ x,x∈ks↔x∈ns)/\ks.length<=items.size/\(∀ b o,s.heap.get? b=some o->h'.get? b=some o)) E) F.called_set.init.plain F.entry_set_init (check_set_init_1 hT ?_)) λr₂ s₂ hr₂=>?_
   ·obtain ⟨ol,hol,hcl,nl,hdl⟩:=hl;obtain ⟨ocls,odict,odata,oslots⟩:=ol;simp only at hcl hdl;subst hcl;subst hdl;have hol':(s.heap.push { cls:=.type "set",dict:=none,data:=.set #[] 0 (.fresh 0 0 (!bt w)) }).get? l=some { cls:=.type "list",dict:=odict,data:=.seq items nl,slots:=oslots }:=ar _ hol;have hsls:=F.sub_list_set;have hslf:=F.sub_list_frozenset
    have hne:(eX "list" == eX "dict")=false:=by decide
    have hl1:(s.heap.push { cls:=.type "set",dict:=none,data:=.set #[] 0 (.fresh 0 0 (!bt w)) }).IsList l items:=⟨_,hol',rfl,nl,rfl⟩
    unfold gG.«set.__init__» noKeywords Xt;generalize hPI:OE=PI
    wp_walk
    subst hPI;refine wpAny_pyIter_list hl1 ?_;refine ae (OM ?_);have hlS:l<s.heap.objs.size:=aJ hol
    have hh3:A.in1.in1.in1.handled=none:=by simp [hh]
    have hneI:l≠(s.heap.push { cls:=.type "set",dict:=none,data:=.set #[] 0 (.fresh 0 0 (!bt w)) }).objs.size:=by
     rw [iW];exact bg (qy hlS)
    have hSf:s.heap.objs.size∉[(s.heap.push { cls:=.type "set",dict:=none,data:=.set #[] 0 (.fresh 0 0 (!bt w)) }).objs.size,l]:=by
     rw [iW];simp only [au,aA,dw,or_false,not_or];exact ⟨bg (km _),dU hlS⟩
    have hlen:=hi.length;rw [aL] at hlen
    have hval:∀ (i:Nat) (v:ai),items[i]?=some v->∃ k t,ns[i]?=some k/\v=.int k t:=λi v hv=>by
     obtain ⟨t,e⟩:=Sq hi i v (by rw [dm];exact hv);have hlt:=(cE.mp hv).1
     have:ns[i]?=some (ns.getD i 0):=by rw [List.getD_eq_getElem?_getD,ay (by lia)];rfl
     exact ⟨_,t,this,e⟩
    refine Tq ((Walks.list hh3 _ l hneI items).toS) s.heap.objs.size hSf ns hlen.symm hval hb (items.size-0) 0 _ [] (by lia) (aK _)
     ⟨⟨_,aI _ rfl,rfl,rfl⟩,(hl1.push _)⟩ ?hS0 (λx=>by simp) (av _) ?hR
    case hS0 =>
     have hget:((s.heap.push { cls:=.type "set",dict:=none,data:=.set #[] 0 (.fresh 0 0 (!bt w)) }).push { cls:=.type "list_iterator",data:=.fields #[.ref l,.int 0 0] }).get? s.heap.objs.size
       = some { cls:=.type "set",dict:=none,data:=.set #[] 0 (.fresh 0 0 (!bt w)) }:=ar _ hS
     exact ⟨_,#[],0,_,hget,⟨rfl,rfl,rfl⟩,rfl,(λe he=>by simp at he),(λe he=>by simp at he),by decide,rfl,TI.fresh _ _ _,rfl,rfl,oF⟩
    case hR =>
     intro s' ks' hm hS' hmem hlen';obtain ⟨h',g',d',tk',os'⟩:=s';have eg:g'=s.gens:=hm.gens;have ed:d'=s.drawn:=hm.drawn;have eo:os'=s.os:=hm.os;subst eg;subst ed;subst eo
     show aG _ _ _ _ _ _
     refine ak ?_
     show aG _ _ (ret eW) _ _ _
     refine ak ⟨rfl,h',tk',ks',rfl,hS',hmem,hlen',λb o e=>?_⟩;have hb:=aJ e;have hb1:b≠s.heap.objs.size:=bg hb
     have hb2:b≠(s.heap.push { cls:=.type "set",dict:=none,data:=.set #[] 0 (.fresh 0 0 (!bt w)) }).objs.size:=by
      rw [iW];exact bg (qy hb)
     exact hm.heap b o (by simp only [au,aA,dw,or_false,not_or];exact ⟨hb1,hb2⟩) (ar _ (ar _ e))
   ·cases r₂ with
    | error e=>exact hr₂
    | ok fl₂ =>
     cases fl₂ with
     | ret r =>
      obtain ⟨rfl,h',tk,ks,rfl,hS',hm',hl',hk'⟩:=hr₂
      repeat (any_goals (first|assumption|wp_step))
      exact h _ _ _ hS' hm' hl' hk'
     | _=>exact hr₂.elim
  | _=>exact hr.elim
end
end Sw
namespace Sw
def IQ:Manifest.owners.lookup (String.ofList ['r','o','t','a','r','e','t','i','_','t','e','s'].reverse)=some Manifest.sig_set_iterator:=by kernel_rfl
def fe:Slot "set_iterator" "__next__" "set_iterator.__next__" :=
 .of (owner:="set_iterator") (n:="__next__") (by rw [xI,nG];kernel_rfl) (by decide +kernel) (by decide +kernel) (by decide +kernel)
  (by first|exact .inl (by decide +kernel)|exact .inr (by decide +kernel)) (by rw [OP];kernel_rfl)
def lP:entryFor table "set_iterator.__next__"=some gG.«set_iterator.__next__»:=entryFor_of_tree (by kernel_rfl)
def mG (a:ai):argsOk "set_iterator.__next__" ⟨[a],[]⟩:=by
 unfold argsOk;rw [signature?_of (id:="set_iterator.__next__") (n:=['_','_','t','x','e','n','_','_']) (o:=['r','o','t','a','r','e','t','i','_','t','e','s']) (by kernel_rfl) IQ];kernel_rfl
def vR:Slot "set_iterator" "__iter__" "set_iterator.__iter__" :=
 .of (owner:="set_iterator") (n:="__iter__") (by rw [xI,nG];kernel_rfl) (by decide +kernel) (by decide +kernel) (by decide +kernel)
  (by first|exact .inl (by decide +kernel)|exact .inr (by decide +kernel)) (by rw [OP];kernel_rfl)
def Gg (a:ai):argsOk "set_iterator.__iter__" ⟨[a],[]⟩:=by
 unfold argsOk;rw [signature?_of (id:="set_iterator.__iter__") (n:=['_','_','r','e','t','i','_','_']) (o:=['r','o','t','a','r','e','t','i','_','t','e','s']) (by kernel_rfl) IQ];kernel_rfl
def DA:entryFor table "set_iterator.__iter__"=some gG.«dict_keyiterator.__iter__» :=
 entryFor_alias (id':="dict_keyiterator.__iter__") (by kernel_rfl) rfl (by decide +kernel) (by kernel_rfl)
def Bq:entryFor table "set.__iter__"=some gG.«frozenset.__iter__» :=
 entryFor_alias (id':="frozenset.__iter__") (by kernel_rfl) rfl (by decide +kernel) (by kernel_rfl)
def Br {α:Type} {l:List α}{i:Nat}(h:i<l.length):(l[i]::l.eraseIdx i).Perm l:=by
 rw [md]
 have e:l=l.take i++l[i]::l.drop (i+1):=by rw [List.getElem_cons_drop,eL]
 conv=>rhs;rw [e]
 exact Dq.symm
theorem Fb {α:Type} (next:Nat->Nat):∀ (fuel k:Nat) (left:List α) (out:Array α),fuel=left.length->(HH next fuel k left out).toList.Perm (out.toList++left)
 | 0,k,left,out,h=>by
  have:left=[]:=mX h.symm
  subst this;simp [HH]
 | fuel+1,k,left,out,h=>by
  unfold HH;have hlt:next k%left.length<left.length:=Nat.mod_lt _ (by lia);rw [ay hlt];dsimp only;refine (Fb next fuel _ _ _ (by rw [O5];simp [hlt];lia)).trans ?_;rw [As,dB];refine lA _ ?_;exact Br hlt
def xr (h:cf) (it:af) (first:ai) (i:Nat) (a:af) (n ep:Nat):Prop:=∃ o,h.get? it=some o/\o.cls=.type "set_iterator"/\o.data=.fields #[first,cB i,.ref a,cB n,cB ep]
def xr.keep {h h':cf}{it a:af}{first:ai}{i n ep:Nat}(x:xr h it first i a n ep) (k:∀ o,h.get? it=some o->h'.get? it=some o):xr h' it first i a n ep:=let ⟨o,e,r⟩:=x;⟨o,k o e,r⟩
def RS (h:cf) (a:af) (es:Array (Int×ai)) (ep:Nat) (t:gN):Prop:=∃ o,h.get? a=some o/\o.ExactSet/\o.data=.set es ep t/\t.fits es.size=true
def RS.keep {h h':cf}{a:af}{es:Array (Int×ai)}{ep:Nat}{t:gN}(x:RS h a es ep t) (k:∀ o,h.get? a=some o->h'.get? a=some o):RS h' a es ep t:=let ⟨o,e,r⟩:=x;⟨o,k o e,r⟩
section
variable {prog:a6}{w:bO}{A:bR}{E:ai->ao->Prop}{s:ao}{it a:af}{es:Array (Int×ai)}{ep n:Nat}{t:gN}
def MN {first:ai}{i:Nat}{Q:ai->ao->Prop}(x:xr s.heap it first i a n ep) (h:Q (.ref it) s):aG (aM prog w) A (OE (.ref it)) Q E s:=by
 have hT:s.TypeIs (.ref it) "set_iterator":=let ⟨o,e,c,_⟩:=x;⟨o,e,c⟩
 refine HE hT vR (cL vR hT DA ?_ (Gg _))
 show aG _ _ (ret (.ref it)) _ _ s
 exact ak ⟨_,rfl,"set_iterator",_,hT,fe.lookup,h⟩
def Ord (w:bO) (a:af) (es:Array (Int×ai)) (ep:Nat) (t:gN) (vs:List ai) (sl:Nat->Nat):Prop :=
 sl 0=0/\vs.length=es.size/\((bt w=true/\vs=(AI (w.params.setOrder a ep) es).toList.map (·.2)/\∀ i,sl i=0) \/
  (bt w=false/\vs=es.toList.map (·.2)/\(!t.plain && decide (es.size>1))=false/\(t.led=true)/\yE t.place/\∀ i p,t.place[i]?=some p->sl (i+1)=p+1))
def N7 {i:Nat}{v:ai}{vs:List ai}{sl:Nat->Nat}{Q:Option ai->ao->Prop}(x:xr s.heap it (cB (sl i)) i a es.size ep) (r:RS s.heap a es ep t) (o:Ord w a es ep t vs sl) (hv:vs[i]?=some v)
  (q:∀ h',xr h' it (cB (sl (i+1))) (i+1) a es.size ep->gY it s.heap h'->Q (some v) { s with heap:=h' }):aG (aM prog w) A (i9 (.ref it)) Q E s:=by
 have hT:s.TypeIs (.ref it) "set_iterator":=let ⟨o,e,c,_⟩:=x;⟨o,e,c⟩
 obtain ⟨ob,g,gc,gd⟩:=x;obtain ⟨oa,ra,rx,rd,rf⟩:=r;unfold i9;refine ae (ip (cW (name:=fE "__next__") hT fe (cL fe hT lP ?_ (mG _))));unfold gG.«set_iterator.__next__»;refine ae (m:=OQ "__next__" 0 _) (ak ?_);refine ae (mO g gd ?_)
 show aG _ _ (OR a >>= _) _ _ s
 refine ae (ll ra rd rf ?_);rw [if_neg (by simp)]
 show aG _ _ (NA a ((sl i:Nat):Int).toNat ((i:Nat):Int).toNat ((ep:Nat):Int).toNat >>= _) _ _ s
 simp only [gL]
 have nxt:aG (aM prog w) A.in1 (NA a (sl i) i ep) (λz s'=>z=some (v,sl (i+1))/\s'=s) (λ_ _=>False) s:=by
  unfold NA;refine ae (iU ra rd rf ?_);dsimp only;refine ae ?_;unfold EL;refine ae (iw (ak ?_));obtain ⟨o0,o1,⟨b1,b2,b3⟩|⟨b1,b2,b3,b4,b5,b6⟩⟩:=o
  ·have b1':(({ program:=(aM prog w).prog,params:=(aM prog w).w.params }:Setting).params.followText "set-order")=true:=b1;rw [b1'];simp only [↓reduceIte];rw [if_neg (by simp)];refine ae ?_;unfold setWalk;refine ae (iU ra rd rf ?_);dsimp only;refine ae ?_;unfold EL;refine ae (iw (ak ?_));rw [b1'];simp only [↓reduceIte];refine ae (iw (ak (ak ⟨?_,rfl⟩)));have hv':=hv;rw [b2,aB,dm] at hv'
   show xJ (λe=>(e.2,sl i)) (AI (w.params.setOrder a ep) es)[i]?=_
   obtain ⟨e,he,ev⟩:=bw.mp hv';rw [he,b3 i,b3 (i+1)];simp [ev]
  ·have b1':(({ program:=(aM prog w).prog,params:=(aM prog w).w.params }:Setting).params.followText "set-order")=false:=b1;rw [b1'];simp only [bY,↓reduceIte];refine jO (λhd=>absurd (show (!t.plain && decide (es.size>1))=true from hd) (by rw [b3];decide)) (λ_=>ae ?_)
   show aG _ _ (if (!t.led && !es.isEmpty)=true then _ else _) _ _ _
   rw [if_neg (by rw [b4];simp)];refine ak (ak ⟨?_,rfl⟩)
   have hlt:i<es.size:=by rw [← o1];exact (aC.mp hv).1
   have hfs:t.place.size=es.size:=by
    have:=rf;unfold Ux at this;simp at this;exact this.1
   have hp:t.place[i]?=some (t.place[i]'(by lia)):=bX _
   have hbel:dG t.place (sl i)=i:=by
    refine IL b5 ?_
    cases i with
    | zero=>exact .inl ⟨rfl,o0⟩
    | succ k =>
     have hk:t.place[k]?=some (t.place[k]'(by lia)):=bX _;exact .inr ⟨k,rfl,_,hk,b6 k _ hk⟩
   rw [hbel,hp,b6 i _ hp];rw [b2,aB,dm] at hv;obtain ⟨e,he,ev⟩:=bw.mp hv;rw [he];obtain ⟨e1,e2⟩:=e;simp at ev;simp [ev]
 refine ae (dO nxt (λz s' hz=>?_) λ_ _ x=>x.elim);obtain ⟨rfl,rfl⟩:=hz;dsimp only;have g1:=bT (mW (·.setIfInBounds 0 (cB ((sl (i+1):Nat):Int)))) g (jH (di gd _));refine ae (jg g gd (by simp) (ae (jg g1 (di gd _) (by simp) ?_)));have g2:=bT (mW (·.setIfInBounds 1 (cB ((i:Int)+1)))) g1 (jH (di (di gd _) _));refine ak ⟨_,rfl,ak (q _ ⟨_,g2,(qA ..).trans ((qA ..).trans gc),?_⟩ ((c9 ..).trans (c9 ..)))⟩;rw [di (di gd _)];simp [cB]
def Ql {vs:List ai}{sl:Nat->Nat}{Q:Option ai->ao->Prop}(hh:A.handled=none) (x:xr s.heap it (cB (sl vs.length)) vs.length a es.size ep) (r:RS s.heap a es ep t) (o:Ord w a es ep t vs sl)
  (q:∀ h',O4 it s.heap h'->Q none { s with heap:=h' }):aG (aM prog w) A (i9 (.ref it)) Q E s:=by
 have hT:s.TypeIs (.ref it) "set_iterator":=let ⟨o,e,c,_⟩:=x;⟨o,e,c⟩
 obtain ⟨ob,g,gc,gd⟩:=x;obtain ⟨oa,ra,rx,rd,rf⟩:=r;unfold i9;refine ae (ip (cW (name:=fE "__next__") hT fe (cL fe hT lP ?_ (mG _))));unfold gG.«set_iterator.__next__»;refine ae (m:=OQ "__next__" 0 _) (ak ?_);refine ae (mO g gd ?_)
 show aG _ _ (OR a >>= _) _ _ s
 refine ae (ll ra rd rf ?_);rw [if_neg (by simp)]
 show aG _ _ (NA a ((sl vs.length:Nat):Int).toNat ((vs.length:Nat):Int).toNat ((ep:Nat):Int).toNat >>= _) _ _ s
 simp only [gL]
 have nxt:aG (aM prog w) A.in1 (NA a (sl vs.length) vs.length ep) (λz s'=>z=none/\s'=s) (λ_ _=>False) s:=by
  unfold NA;refine ae (iU ra rd rf ?_);dsimp only;refine ae ?_;unfold EL;refine ae (iw (ak ?_));obtain ⟨o0,o1,⟨b1,b2,b3⟩|⟨b1,b2,b3,b4,b5,b6⟩⟩:=o
  ·have b1':(({ program:=(aM prog w).prog,params:=(aM prog w).w.params }:Setting).params.followText "set-order")=true:=b1;rw [b1'];simp only [↓reduceIte];rw [if_neg (by simp)];refine ae ?_;unfold setWalk;refine ae (iU ra rd rf ?_);dsimp only;refine ae ?_;unfold EL;refine ae (iw (ak ?_));rw [b1'];simp only [↓reduceIte];refine ae (iw (ak (ak ⟨?_,rfl⟩)))
   show xJ (λe=>(e.2,sl vs.length)) (AI (w.params.setOrder a ep) es)[vs.length]?=_
   rw [gW (by have h:=o1;rw [b2,ag,aL] at h;rw [o1];exact kj h)]
   rfl
  ·have b1':(({ program:=(aM prog w).prog,params:=(aM prog w).w.params }:Setting).params.followText "set-order")=false:=b1;rw [b1'];simp only [bY,↓reduceIte];refine jO (λhd=>absurd (show (!t.plain && decide (es.size>1))=true from hd) (by rw [b3];decide)) (λ_=>ae ?_)
   show aG _ _ (if (!t.led && !es.isEmpty)=true then _ else _) _ _ _
   rw [if_neg (by rw [b4];simp)];refine ak (ak ⟨?_,rfl⟩)
   have hfs:t.place.size=es.size:=by
    have:=rf;unfold Ux at this;simp at this;exact this.1
   have hbel:dG t.place (sl vs.length)=vs.length:=by
    refine IL b5 ?_
    cases e:vs.length with
    | zero=>exact .inl ⟨rfl,o0⟩
    | succ k =>
     have hk:t.place[k]?=some (t.place[k]'(by lia)):=bX _;exact .inr ⟨k,rfl,_,hk,b6 k _ hk⟩
   rw [hbel,gW (by lia)]
 refine ae (dO nxt (λz s' hz=>?_) λ_ _ x=>x.elim);obtain ⟨rfl,rfl⟩:=hz;dsimp only;refine ae (jg g gd (by simp) ?_)
 show aG _ _ (Ut (.type "StopIteration") [] >>= _) _ _ _
 refine ae ?_;simp only [Ut,newTuple];refine ae (cD ?_ (by size_fits));refine ae (m:=mP _ _) (Kz (a:=eW) (by first|rfl|(simp only [mP];rfl)) ?_);refine cD ?_ (by size_fits);simp only [raiseNew];refine ae (RY ?_);rw [show A.in1.handled=none from hh];refine ae (ak (Xr ?_));refine ae (nN (T:="StopIteration") (b:=true) ⟨_,aI _ rfl,rfl⟩ Ar ?_);exact ak (q _ (((c9 ..).extBut.push _).push _))
def N8 (hh:A.handled=none) (I a:af) (hne:a≠I) {vs:List ai}{sl:Nat->Nat}(o:Ord w a es ep t vs sl) :
  Walks prog w A I [I,a] [I] vs.length (λi v=>vs[i]?=some v) (λi h=>xr h I (cB (sl i)) i a es.size ep/\RS h a es ep t) where
 sub:=λb hb=>by simp at hb;simp [hb]
 frame:=λ_ _ _ st hk=>⟨st.1.keep λo e=>hk I (by simp) o e,st.2.keep λo e=>hk a (by simp) o e⟩
 item:=λi s Q E hi st hQ=>by
  have hv:vs[i]?=some vs[i]:=ay hi;exact N7 st.1 st.2 o hv λh' x' hs'=>hQ _ h' s.toks hv ⟨x',st.2.keep λo e=>hs'.extBut a o hne e⟩ λb o hb e=>hs'.extBut b o (λh=>hb (by simp [h])) e
 done:=λs Q E st hQ=>Ql hh st.1 st.2 o λh' he=>hQ h' s.toks λb o hb e=>he b o (λh=>hb (by simp [h])) e
 self:=λ_ _ _ _ st hQ=>MN st.1 hQ
end
end Sw
namespace Sw
section
variable {prog:a6}{w:bO}{A:bR}{E:ai->ao->Prop}{s:ao}{it a:af}{es:Array (Int×ai)}{ep n:Nat}{t:gN}
def N9 {M:Model}{src:Source}{k:Nat}{Q:Nat->ao->Prop}(hk:k≠0) (h:∀ i d,i<k->Q i { s with drawn:=d }):aG M A (choose src k) Q E s :=
 λΓ p hΓ=>⟨hk,h _ _ (Nat.mod_lt _ (Nat.pos_of_ne_zero hk))⟩
theorem MO {α:Type}:∀ (k:Nat) (xs:List α) {s:ao}{Q:List α->ao->Prop},xs.length=k->(∀ ys d,ys.Perm xs->Q ys { s with drawn:=d })->aG (aM prog w) A (drawOrder k xs) Q E s
 | 0,xs,s,Q,hl,h=>by
  have:xs=[]:=mX hl;subst this
  exact ak (h [] s.drawn (sL _))
 | k+1,[],s,Q,hl,h=>by simp at hl
 | k+1,x::xs,s,Q,hl,h=>by
  unfold drawOrder;refine ae (N9 (by simp) λi d hi=>?_);rw [ay hi];dsimp only;refine ae (MO k _ (by rw [O5,if_pos hi];lia) λys d' hp=>ak (h _ d' ?_));exact (hp.cons _).trans (Br hi)
structure Dr (h:cf) (T:af) (es:Array (Int×ai)) (ord:List Nat) (vs:List ai):Prop where
 tup:∃ o,h.get? T=some o/\o.data=.seq (ord.map λ(i:Nat)=>cB (i:Int)).toArray 0
 len:vs.length=ord.length
 at_:∀ (i:Nat) p,ord[i]?=some p->∃ e,es[p]?=some e/\vs[i]?=some e.2
def Tr {T:af}{ord:List Nat}{i:Nat}{v:ai}{vs:List ai}{Q:Option ai->ao->Prop}(x:xr s.heap it (.ref T) i a es.size ep) (r:RS s.heap a es ep t) (o:Dr s.heap T es ord vs) (hv:vs[i]?=some v)
  (q:∀ h',xr h' it (.ref T) (i+1) a es.size ep->gY it s.heap h'->Q (some v) { s with heap:=h' }):aG (aM prog w) A (i9 (.ref it)) Q E s:=by
 have hT:s.TypeIs (.ref it) "set_iterator":=let ⟨o,e,c,_⟩:=x;⟨o,e,c⟩
 obtain ⟨ob,g,gc,gd⟩:=x;obtain ⟨oa,ra,rx,rd,rf⟩:=r;obtain ⟨⟨ot,gt,gtd⟩,ol,oat⟩:=o
 have hi:i<ord.length:=by rw [← ol];exact (aC.mp hv).1
 obtain ⟨e,he,hve⟩:=oat i _ (ay hi);rw [hv] at hve;cases hve;unfold i9;refine ae (ip (cW (name:=fE "__next__") hT fe (cL fe hT lP ?_ (mG _))));unfold gG.«set_iterator.__next__»;refine ae (m:=OQ "__next__" 0 _) (ak ?_);refine ae (mO g gd ?_)
 show aG _ _ (OR a >>= _) _ _ s
 refine ae (ll ra rd rf ?_);rw [if_neg (by simp)]
 show aG _ _ (AJ (.ref T) >>= _) _ _ s
 have sq:aG (aM prog w) A.in1 (AJ (.ref T)) (λz s'=>z=some (ord.map λ(i:Nat)=>cB (i:Int)).toArray/\s'=s) (λ_ _=>False) s:=by
  unfold AJ;refine ae (EI gt ?_);rw [gtd];exact ak ⟨rfl,rfl⟩
 refine ae (dO sq (λz s' hz=>?_) λ_ _ x=>x.elim);obtain ⟨rfl,rfl⟩:=hz;dsimp only
 have hpi:(ord.map λ(i:Nat)=>cB (i:Int)).toArray[((i:Nat):Int).toNat]?=some (cB (ord[i]:Int)):=by
  rw [gL,OS,aB,ay hi];rfl
 show aG _ _ (match (ord.map λ(i:Nat)=>cB (i:Int)).toArray[((i:Nat):Int).toNat]? with|some (.int place _)=>_|some _=>_|none=>_) _ _ _
 rw [hpi]
 show aG _ _ (setNextDrawn a ((ord[i]:Nat):Int).toNat ((ep:Nat):Int).toNat >>= _) _ _ _
 simp only [gL];refine ae ?_;unfold setNextDrawn;refine ae (iU ra rd rf ?_);dsimp only;rw [if_neg (by simp),he];refine ak (ae (jg g gd (by simp) ?_));have g1:=bT (mW (·.setIfInBounds 1 (cB ((i:Int)+1)))) g (jH (di gd _));refine ak ⟨_,rfl,ak (q _ ⟨_,g1,(qA ..).trans gc,?_⟩ (c9 ..))⟩;rw [di gd];simp [cB]
def xX {T:af}{ord:List Nat}{vs:List ai}{Q:Option ai->ao->Prop}(hh:A.handled=none) (x:xr s.heap it (.ref T) vs.length a es.size ep) (r:RS s.heap a es ep t) (o:Dr s.heap T es ord vs)
  (q:∀ h',O4 it s.heap h'->Q none { s with heap:=h' }):aG (aM prog w) A (i9 (.ref it)) Q E s:=by
 have hT:s.TypeIs (.ref it) "set_iterator":=let ⟨o,e,c,_⟩:=x;⟨o,e,c⟩
 obtain ⟨ob,g,gc,gd⟩:=x;obtain ⟨oa,ra,rx,rd,rf⟩:=r;obtain ⟨⟨ot,gt,gtd⟩,ol,oat⟩:=o;unfold i9;refine ae (ip (cW (name:=fE "__next__") hT fe (cL fe hT lP ?_ (mG _))));unfold gG.«set_iterator.__next__»;refine ae (m:=OQ "__next__" 0 _) (ak ?_);refine ae (mO g gd ?_)
 show aG _ _ (OR a >>= _) _ _ s
 refine ae (ll ra rd rf ?_);rw [if_neg (by simp)]
 show aG _ _ (AJ (.ref T) >>= _) _ _ s
 have sq:aG (aM prog w) A.in1 (AJ (.ref T)) (λz s'=>z=some (ord.map λ(i:Nat)=>cB (i:Int)).toArray/\s'=s) (λ_ _=>False) s:=by
  unfold AJ;refine ae (EI gt ?_);rw [gtd];exact ak ⟨rfl,rfl⟩
 refine ae (dO sq (λz s' hz=>?_) λ_ _ x=>x.elim);obtain ⟨rfl,rfl⟩:=hz;dsimp only
 have hpi:(ord.map λ(i:Nat)=>cB (i:Int)).toArray[((vs.length:Nat):Int).toNat]?=none:=by
  rw [gL,OS,aB,cV (by lia)];rfl
 show aG _ _ (match (ord.map λ(i:Nat)=>cB (i:Int)).toArray[((vs.length:Nat):Int).toNat]? with|some (.int place _)=>_|some _=>_|none=>_) _ _ _
 rw [hpi];dsimp only;have g1:=bT (mW (·.setIfInBounds 0 (cB 0))) g (jH (di gd _));refine ae (jg g gd (by simp) (ae (jg g1 (di gd _) (by simp) ?_)))
 show aG _ _ (Ut (.type "StopIteration") [] >>= _) _ _ _
 refine ae ?_;simp only [Ut,newTuple];refine ae (cD ?_ (by size_fits));refine ae (m:=mP _ _) (Kz (a:=eW) (by first|rfl|(simp only [mP];rfl)) ?_);refine cD ?_ (by size_fits);simp only [raiseNew];refine ae (RY ?_);rw [show A.in1.handled=none from hh];refine ae (ak (Xr ?_));refine ae (nN (T:="StopIteration") (b:=true) ⟨_,aI _ rfl,rfl⟩ Ar ?_);exact ak (q _ ((((c9 ..).trans (c9 ..)).extBut.push _).push _))
def Qm (hh:A.handled=none) (I a T:af) (hne:a≠I) (hnT:T≠I) {ord:List Nat}{vs:List ai} :
  Walks prog w A I [I,a,T] [I] vs.length (λi v=>vs[i]?=some v) (λi h=>xr h I (.ref T) i a es.size ep/\RS h a es ep t/\Dr h T es ord vs) where
 sub:=λb hb=>by simp at hb;simp [hb]
 frame:=λ_ _ _ st hk=>⟨st.1.keep λo e=>hk I (by simp) o e,st.2.1.keep λo e=>hk a (by simp) o e,let ⟨o,e,d⟩:=st.2.2.tup;⟨⟨o,hk T (by simp) o e,d⟩,st.2.2.len,st.2.2.at_⟩⟩
 item:=λi s Q E hi st hQ=>by
  have hv:vs[i]?=some vs[i]:=ay hi;exact Tr st.1 st.2.1 st.2.2 hv λh' x' hs'=>hQ _ h' s.toks hv ⟨x',st.2.1.keep λo e=>hs'.extBut a o hne e,let ⟨o,e,d⟩:=st.2.2.tup;⟨⟨o,hs'.extBut T o hnT e,d⟩,st.2.2.len,st.2.2.at_⟩⟩ λb o hb e=>hs'.extBut b o (λh=>hb (by simp [h])) e
 done:=λs Q E st hQ=>xX hh st.1 st.2.1 st.2.2 λh' he=>hQ h' s.toks λb o hb e=>he b o (λh=>hb (by simp [h])) e
 self:=λ_ _ _ _ st hQ=>MN st.1 hQ
def Qn {ks:List Int}{Q:ai->ao->Prop}(hh:A.handled=none) (hS:SO prog w (bt w) s.heap a ks)
  (q:∀ I h1 d (vs:List ai) (ns:List Int) fp St,Walks prog w A I fp [I] vs.length (λi v=>vs[i]?=some v) St->St 0 h1->(∀ b o,s.heap.get? b=some o->h1.get? b=some o)->I∈fp->(∀ b∈fp,b=a\/s.heap.objs.size<=b)->s.heap.objs.size<=I->fz vs ns->ns.Perm ks->Q (.ref I) { s with heap:=h1,drawn:=d }) :
  aG (aM prog w) A (OE (.ref a)) Q E s:=by
 have hlt:=hS.lt;obtain ⟨o,es,ep,t,ho,hex,hd,hel,hin,hb,hf,ti,hled,rfl,hnd⟩:=hS
 have hT:s.TypeIs (.ref a) "set":=⟨o,ho,hex.1⟩
 have hints:∀ {l:List (Int×ai)},(∀ e∈l,∃ u,e.2=.int (key e) u)->fz (l.map (·.2)) (l.map key):=by
  intro l
  induction l with
  | nil=>intro _;exact .nil
  | cons e l ih =>
   intro h;obtain ⟨u,eu⟩:=h e aw;rw [b0,b0,eu];exact .cons _ _ (ih λe' he'=>h e' (aj _ he'))
 refine HE hT F.slot_set_iter (cL F.slot_set_iter hT Bq ?_ (F.args_set_iter_1 _));unfold gG.«frozenset.__iter__» Xu OQ;simp only [List.isEmpty_nil,Bool.not_true,bY,↓reduceIte,bind_assoc,nF,bne_self_eq_false];unfold Xv Xw;refine ae (ak ?_)
 try dsimp only
 refine ae (ak ?_);refine ae (ae (ll ho hd hf (ak ?_)));refine ae ?_;unfold setDrawn;refine ae (iU ho hd hf ?_);dsimp only;refine ae ?_;unfold EL;refine ae (iw (ak (ak ?_)));have hz:es.size<=aV:=HG hb
 have hrs:RS s.heap a es ep t:=⟨o,ho,hex,hd,hf⟩
 refine jO (λhdr=>?_) (λhdr=>?_)
 ·refine ae (MO es.size (dv es.size) lV λord d hp=>?_)
  have hol:ord.length=es.size:=by rw [hp.length_eq,lV]
  refine ae (Aq ?_ (by rw [ag,hol];exact hz));have k1:∀ b ob,s.heap.get? b=some ob->(s.heap.push (bW "tuple" (ord.map λ(i:Nat)=>cB (i:Int)).toArray 0)).get? b=some ob:=λb ob e=>ar _ e;have gT:(s.heap.push (bW "tuple" (ord.map λ(i:Nat)=>cB (i:Int)).toArray 0)).get? s.heap.objs.size=some (bW "tuple" (ord.map λ(i:Nat)=>cB (i:Int)).toArray 0):=aI _ rfl;have hsz:(s.heap.push (bW "tuple" (ord.map λ(i:Nat)=>cB (i:Int)).toArray 0)).objs.size=s.heap.objs.size+1:=iW ..;generalize s.heap.push (bW "tuple" (ord.map λ(i:Nat)=>cB (i:Int)).toArray 0)=h0 at k1 gT hsz;refine ae (wpAny_setEpoch_of (s:={ s with heap:=h0,drawn:=d }) (k1 _ _ ho) hd hf ?_);unfold newFields;refine ae (cD (ak ⟨_,rfl,"set_iterator",_,⟨_,aI _ rfl,rfl⟩,fe.lookup,?_⟩))
  have hmem:∀ p∈ord,p<es.size:=λp hpm=>by simpa using hp.mem_iff.mp hpm
  have hget:∀ p,p<es.size->es[p]?=some (es.getD p (0,.none)):=λp hp'=>by rw [bX hp'];simp [RZ,hp']
  have hperm:(ord.map λp=>es.getD p (0,.none)).Perm es.toList:=by
   refine (hp.map _).trans ?_
   have:(dv es.size).map (λp=>es.getD p (0,.none))=es.toList:=by
    apply jG
    intro i;rw [aB]
    by_cases hi:i<es.size
    ·rw [nO hi,dm,hget i hi];rfl
    ·rw [cV (by rw [lV];lia),cV (by rw [aL];lia)];rfl
   rw [this]
  have hsub:∀ e∈ord.map (λp=>es.getD p (0,.none)),∃ u,e.2=.int (key e) u:=λe he=>hin e (hperm.mem_iff.mp he)
  have hst:xr (h0.push { cls:=.type "set_iterator",data:=.fields [aD s.heap.objs.size,cB 0,.ref a,cB es.size,cB ep].toArray }) h0.objs.size (.ref s.heap.objs.size) 0 a es.size ep:=⟨_,aI _ rfl,rfl,rfl⟩
  have haI:a≠h0.objs.size:=by rw [hsz];exact bg (qy hlt)
  have hTI:s.heap.objs.size≠h0.objs.size:=by rw [hsz];exact bg (km _)
  refine q h0.objs.size _ d ((ord.map λp=>es.getD p (0,.none)).map (·.2)) ((ord.map λp=>es.getD p (0,.none)).map key) [h0.objs.size,a,s.heap.objs.size] _ (Qm (es:=es) (ep:=ep) (t:=t) (ord:=ord) hh h0.objs.size a s.heap.objs.size haI hTI) ⟨hst,hrs.keep λob e=>ar _ (k1 _ _ e),⟨_,ar _ gT,rfl⟩,by rw [ag,ag],λi p hip=>?_⟩
   (λb ob e=>ar _ (k1 _ _ e)) (by simp) (λb hb'=>?_) (by rw [hsz];exact iL _) (hints hsub) (hperm.map key)
  ·have hpl:=hmem p (aR hip);exact ⟨_,hget p hpl,by rw [aB,aB,hip];rfl⟩
  ·simp only [au,dw,or_false] at hb'
   rcases hb' with rfl|rfl|rfl
   ·exact .inr (by rw [hsz];exact iL _)
   ·exact .inl rfl
   ·exact .inr (av _)
 ·refine ae (ak (ae (wpAny_setEpoch_of ho hd hf ?_)));unfold newFields;refine ae (cD (ak ⟨_,rfl,"set_iterator",_,⟨_,aI _ rfl,rfl⟩,fe.lookup,?_⟩))
  have hst:xr (s.heap.push { cls:=.type "set_iterator",data:=.fields [cB 0,cB 0,.ref a,cB es.size,cB ep].toArray }) s.heap.objs.size (cB 0) 0 a es.size ep:=⟨_,aI _ rfl,rfl,rfl⟩
  obtain ⟨vs,sl,ns,hord,hiv,hpn⟩:∃ vs sl ns,Ord w a es ep t vs sl/\fz vs ns/\ns.Perm (es.toList.map key):=by
   by_cases hbt:bt w=true
   ·have hpp:=Fb (w.params.setOrder a ep) es.size 0 es.toList #[] (aL).symm;rw [show (#[]:Array (Int×ai)).toList++es.toList=es.toList by simp] at hpp;have hpp:(AI (w.params.setOrder a ep) es).toList.Perm es.toList:=hpp;exact ⟨(AI (w.params.setOrder a ep) es).toList.map (·.2),λ_=>0,(AI (w.params.setOrder a ep) es).toList.map key,⟨rfl,by rw [ag,hpp.length_eq,aL],.inl ⟨hbt,rfl,λ_=>rfl⟩⟩,hints λe he=>hin e (hpp.mem_iff.mp he),hpp.map key⟩
   ·have hbf:bt w=false:=by cases h:bt w<;>simp_all
    refine ⟨es.toList.map (·.2),λi=>match i with|0=>0|k+1=>t.place.getD k 0+1,es.toList.map key,⟨rfl,by rw [ag,aL],.inr ⟨hbf,rfl,?_,by rw [hled,hbf];rfl,ti.rise,λi p hp=>?_⟩⟩,hints hin,sL _⟩
    ·cases hx:(!t.plain && decide (es.size>1)) with
     | false=>rfl
     | true =>
      refine absurd ?_ hdr
      show (!(w.params.followText "set-order") && (!t.plain && decide (es.size>1)))=true
      rw [hx,show w.params.followText "set-order"=false from hbf];rfl
    ·have:=(cE.mp hp)
     obtain ⟨hlt',e⟩:=this
     show t.place.getD i 0+1=p+1
     simp [RZ,hlt',e]
  have h0:=hord.1;refine q s.heap.objs.size _ s.drawn vs ns [s.heap.objs.size,a] _ (N8 hh s.heap.objs.size a (bg hlt) hord) ⟨by rw [h0];exact hst,hrs.keep λob e=>ar _ e⟩ (λb ob e=>ar _ e) (by simp) (λb hb'=>?_) (av _) hiv hpn;simp only [au,dw,or_false] at hb'
  rcases hb' with rfl|rfl
  ·exact .inr (av _)
  ·exact .inl rfl
end
end Sw
namespace Sw
open PySem PySem.Spec PyProof.Rows PySem.W
section
variable {prog:a6}{w:bO}{A:bR}{E:ai->ao->Prop}{s:ao}{a:af}
def Qo {Q:Bool->ao->Prop}(hT:s.TypeIs (.ref a) "set") (h:Q false s):aG (aM prog w) A (jc (.ref a)) Q E s:=by
 unfold jc;refine ae (Mp hT PySem.F.slot_set_len.lookup ?_);generalize hid:("set.__len__":String)=id0
 wp_delta
 rw [show splitId id0=some ("set","__len__") from by subst hid;decide +kernel];subst hid;refine ae (nN (T:="set") (b:=true) hT (by rw [OP];kernel_rfl) ?_);refine jO (λhab=>absurd hab (by decide)) (λ_=>?_);refine jO (λ_=>?_) (λhab=>absurd (by decide +kernel) hab);refine ae (Hy hT ?_);exact ak h
def Qp {S:af}{ks:List Int}{R:Kh->ao->Prop}(hh:A.handled=none) (hS:SO prog w (bt w) s.heap a ks) (hSa:S≠a) (hn:ks.length<=aV) (g:s.heap.get? S=some { cls:=.type "list",data:=.seq #[] 0 })
  (q:∀ h' tk d acc' c' (ns:List Int),(∀ b o,b≠S->s.heap.get? b=some o->h'.get? b=some o)->h'.get? S=some { cls:=.type "list",dict:=none,data:=.seq acc' c',slots:=#[] }->fz acc'.toList ns->ns.Perm ks->R (.ok (.ret (.ref S))) { s with heap:=h',toks:=tk,drawn:=d }) :
  ka (aM prog w) A (.builtin "list.__iadd__" ⟨[.ref S,.ref a],[]⟩) R s:=by
 have hT:s.TypeIs (.ref a) "set":=let ⟨o,_,_,_,e,c,_⟩:=hS;⟨o,e,c.1⟩
 refine d8 F.entry_list_iadd ?_;rw [cX F.plain_list_iadd _]
 show aG _ A.in1 (gE (.ref S) (.ref a) (.ref S)) _ _ s
 unfold gE;refine ae (Hy (T:="set") hT ?_)
 have h1:jI (.ref S) (.ref a)=false:=by simp [jI,hSa]
 have h2:(eX "set" == eX "list")=false:=by decide
 have h3:(eX "set" == eX "tuple")=false:=by decide
 simp only [h1,h2,h3,Bool.or_false,bY,if_false];refine ae (Qn (A:=A.in1) hh hS λI h1 d vs ns fp St W st kp hI hfp hIl hiv hpn=>?_)
 have hSf:S∉fp:=λhm=>by
  rcases hfp S hm with e|e
  ·exact hSa e
  ·exact absurd (aJ g) (Nat.not_lt.mpr e)
 have hln:vs.length=ks.length:=by rw [hiv.length,hpn.length_eq]
 have hn':vs.length<=aV:=by lia
 have hT1:({ s with heap:=h1,drawn:=d }:ao).TypeIs (.ref a) "set":=let ⟨o,e,c⟩:=hT;⟨o,kp _ _ e,c⟩
 have key:∀ (h:cf) (c₁:Nat),St 0 h->(∀ b o,b≠S->s.heap.get? b=some o->h.get? b=some o)->h.get? S=some { cls:=.type "list",data:=.seq #[] c₁ } ->
   ka (aM prog w) A (.builtin "list.extend.loop" ⟨[.ref S,.ref I,.ref S],[]⟩) R { s with heap:=h,drawn:=d }:=by
  intro h c₁ hst hk hS₁;refine codeAny_extend_loopS W.toS hn' S hSf (.ref S) vs.length 0 _ #[] c₁ rfl (aK _) hst hS₁ (ItemsOf.nil _) λs' acc' c' hm hS' hacc=>?_
  have es:s'={ s with heap:=s'.heap,toks:=s'.toks,drawn:=d }:=by have e:=Moved.eq_with hm;exact e
  rw [es];have ea:acc'.toList=vs:=L2.IJ hacc;refine q s'.heap s'.toks d acc' c' ns (λb o hb e=>hm.heap b o (λhmem=>?_) (hk b o hb e)) hS' (by rw [ea];exact hiv) hpn
  rcases au.mp hmem with e'|hmem
  ·exact hb e'
  ·rw [aA.mp hmem] at e;exact absurd (aJ e) (Nat.not_lt.mpr hIl)
 refine ae (cA (Qo hT1 ?_));refine jO (λ_=>?_) (λ_=>ak ⟨gH dZ _,key _ 0 st (λb o _ e=>kp b o e) (kp _ _ g)⟩);refine ae (jd (ae ?_))
 show aG _ _ (Km S (·.push .none) >>= λ_=>Km S (·.pop)) _ _ _
 refine ae (lU (kp _ _ g) rfl ?_);have g2:=bT (bE (·.push eW)) (kp _ _ g) rfl;refine lU (hz:=by seq_fits) g2 rfl ?_;have g3:=bT (bE (·.pop)) g2 rfl;refine ak ⟨gH dZ _,key _ _ ?_ (λb o hb e=>?_) g3⟩
 ·refine W.frame 0 _ _ st λb hb o e=>?_;have hbS:b≠S:=λh=>hSf (h▸hb);exact (bx _ _ (Ne.symm hbS)).trans ((bx _ _ (Ne.symm hbS)).trans e)
 ·exact (bx _ _ (Ne.symm hb)).trans ((bx _ _ (Ne.symm hb)).trans (kp b o e))
def IR {ks:List Int}{Q:List ai->ao->Prop}(hh:A.handled=none) (hS:SO prog w (bt w) s.heap a ks) (hn:ks.length<=aV)
  (q:∀ h' tk d vs (ns:List Int),(∀ b o,s.heap.get? b=some o->h'.get? b=some o)->fz vs ns->ns.Perm ks->Q vs { s with heap:=h',toks:=tk,drawn:=d }):aG (aM prog w) A (HF (.ref a)) Q E s:=by
 have hlt:=hS.lt;unfold HF;refine ae (OM (d8 F.entry_proto_collect ?_));rw [cX F.plain_proto_collect _]
 show aG _ A.in1 (newList [] >>= λl=>again (.builtin "list.__iadd__" ⟨[l,.ref a],[]⟩)) _ _ s
 have g:(s.heap.push { cls:=.type "list",data:=.seq ([]:List ai).toArray }).get? s.heap.objs.size=some { cls:=.type "list",data:=.seq #[] 0 }:=aI _ rfl;refine ae (cD (ak ⟨gH F.plain_list_iadd _,Qp (s:={ s with heap:=s.heap.push { cls:=.type "list",data:=.seq ([]:List ai).toArray } }) hh (hS.keep λo e=>ar _ e) (dU hlt) hn g λh' tk d acc' c' ns hk hS' hi hp=>?_⟩))
 show aG _ A (load s.heap.objs.size >>= _) _ _ { s with heap:=h',toks:=tk,drawn:=d }
 refine ae (EI hS' (ak (q h' tk d acc'.toList ns (λb o e=>hk b o (bg (aJ e)) (ar _ e)) hi hp)))
def K6 {ks:List Int}{h₀:cf} {L:af}{m:bj->Option ai}{jK:List (af×fT)}{Q:ai->ao->Prop}(hh:A.handled=none) (hS:SO prog w (bt w) s.heap a ks) (h64:ks.length<64) (F:Fr h₀ L s.heap m) (N:News h₀ L s.heap jK)
  (q:∀ D c h' tk d (out:List ai) (ns:List Int),Fr h₀ L h' m->News h₀ L h' ((D,bW "list" out.toArray c)::jK)->(∀ p∈jK,p.1<D)->fz out ns->ns.Perm ks->ns.Pairwise (·<=·)->Q (.ref D) { s with heap:=h',toks:=tk,drawn:=d }) :
  aG (aM prog w) A (call (.builtin "sorted") [.ref a]) Q E s:=by
 refine pF KA HI HJ (args_sorted1 _) (ae (m:=OT "sorted" 1 1 _) (ak (ae (IR hh hS (L2.bI (m:=64) (by lia)) λh1 tk d vs ns keep hi hp=>?_))))
 have hvl:vs.length<64:=by rw [hi.length,hp.length_eq];exact h64
 have hz:vs.length<=aV:=L2.bI (m:=64) (by lia);refine ae (og ?_ hz);have F1:=F.kept keep;have N1:=N.grown keep;have hL:L<h1.objs.size:=F1.ns.lt;have g:(h1.push (bW "list" vs.toArray 0)).get? h1.objs.size=some (bW "list" vs.toArray 0):=aI _ rfl
 show aG (aM prog w) A.in1 (do let _ ← j9 [aD h1.objs.size] (call (.builtin "list.sort") [aD h1.objs.size]);ret (aD h1.objs.size)) _ _ { s with heap:=h1.push (bW "list" vs.toArray 0),toks:=tk,drawn:=d }
 refine ae (cA (cL Av ⟨_,g,rfl⟩ xK (list_sort_tree (s:={ s with heap:=h1.push (bW "list" vs.toArray 0),toks:=tk,drawn:=d }) g hi hvl λout ns' a1 a2 a3=>⟨_,rfl,ak ⟨_,rfl,?_⟩⟩) (args_list_sort _)));have hb:∀ b o,s.heap.get? b=some o->b≠h1.objs.size:=λb o e=>bg (aJ (keep b o e))
 have k7:∀ b o,s.heap.get? b=some o->(sortedHeap (h1.push (bW "list" vs.toArray 0)) h1.objs.size vs out).get? b=some o:=λb o e=>by
  unfold sortedHeap;exact (bx _ _ (Ne.symm (hb b o e))).trans (ar _ (ar _ ((bx _ _ (Ne.symm (hb b o e))).trans (ar _ (keep b o e)))))
 obtain ⟨c1,g2⟩:∃ c1,((h1.push (bW "list" vs.toArray 0)).update h1.objs.size (bE λ_=>#[])).get? h1.objs.size=some (bW "list" #[] c1):=⟨_,iS g λ_=>#[]⟩
 obtain ⟨c7,g7⟩:∃ c7,(sortedHeap (h1.push (bW "list" vs.toArray 0)) h1.objs.size vs out).get? h1.objs.size=some (bW "list" out c7):=⟨_,iS (ar _ (ar _ g2)) λ_=>out⟩
 refine q h1.objs.size c7 _ tk d out.toList ns' (F.kept k7) (λp hp'=>?_) (λp hp'=>aJ (N1 p hp').1) a1 (a2.trans hp) a3
 rcases au.mp hp' with rfl|hp'
 ·exact ⟨by simpa using g7,dU hL,O0 (bu F1.above (ki hL))⟩
 ·exact (N.grown k7) p hp'
end
end Sw
namespace L2
open PySem PySem.Spec PyProof.Rows PySem.W
def Inv.drawn {X:Cx}{pins:List (af×fT)}{Z:St}{H:Hp}{s:ao}(I:Inv X pins Z H s) (d:Drawn):Inv X pins Z H { s with drawn:=d }:=⟨I.ok,I.os,I.bare,I.base,I.loc,I.cell,I.free,I.sC,I.pin,I.fo,I.len⟩
def Bt (K:aa) (t:TA):TE:=λZ H Q=>t Z H λvs H1=>∃ (a:af) (ns:List Int),vs=[.ref a]/\c6 K H1 a (ns.map V.int)/\ns.length<=4000/\(∃ ds:List Int,ds.length<64/\∀ x∈ns,x∈ds) /\
 ∀ p (ks:List Int),H1 p=none->ks.Pairwise (· < ·)->(∀ x,x∈ks↔x∈ns)->Q (.ref p) (upd H1 p (.lst (ks.map V.int)))
def Oa {K:aa}{t:TA}{Z:St}{H:Hp}{Q:VK}(h:t Z H λvs H1=>∃ (a:af) (ns:List Int),vs=[.ref a]/\c6 K H1 a (ns.map V.int)/\ns.length<=4000/\(∃ ds:List Int,ds.length<64/\∀ x∈ns,x∈ds) /\
 ∀ p (ks:List Int),H1 p=none->ks.Pairwise (· < ·)->(∀ x,x∈ks↔x∈ns)->Q (.ref p) (upd H1 p (.lst (ks.map V.int)))):Bt K t Z H Q:=h
def Qq {ks ds:List Int}(hn:ks.Nodup) (h:∀ x∈ks,x∈ds):ks.length<=ds.length:=by
 induction ks generalizing ds with
 | nil=>simp
 | cons a ks ih =>
  obtain ⟨h1,h2⟩:=br.mp hn;obtain ⟨l1,l2,rfl⟩:=kW (h a aw)
  have:=ih (ds:=l1++l2) h2 λx hx=>by
   have hx':=h x (aj _ hx)
   rcases aN.mp hx' with q|q
   ·exact dX _ q
   ·rcases au.mp q with q|q
    ·exact absurd (q▸hx) h1
    ·exact bB _ q
  simp at this ⊢;lia
section
variable {X:Cx}{x:Expr}{t:TA}{p1 p2 q1 q2:lg}
def K7 (hc:X.calm=true) (hgl:Gl X "sorted") (hml:X.mg "sorted"=none) (hgz:Gl X "set") (hmz:X.mg "set"=none) (ha:PA X [x] t)
  (he:bL [.Call (.Name "set" p1) [x] [] p2] X.env=[(false,fh (.Call (.Name "set" p1) [x] [] p2) X.env)]:=by rfl) (he2:bL [x] X.env=(false,fh x X.env)::bL [] X.env:=by rfl) (hpl:(g9 p2 (bL [] X.env)).any (·.1)=false:=by rfl) :
  PE X (.Call (.Name "sorted" q1) [.Call (.Name "set" p1) [x] [] p2] [] q2) (Bt X.K t):=by
 intro pins s Z H Q I h;refine fj (oh I hgl hml BootT.Bd (vw ?_ he rfl));rw [he]
 show aG _ _ (spliced ((false,fh (.Call (.Name "set" p1) [x] [] p2) X.env)::g9 q2 (bL [] X.env))) _ _ s
 refine ia (fj (oh I hgz hmz BootT.set (gA (ic (ha p2 pins s Z H _ I h) λus s1 ⟨vs,H1,I1,r1,q⟩=>?_) he2 hpl)));obtain ⟨a,ns,rfl,hA,hl4,⟨ds,hds,hsub⟩,k⟩:=q;obtain ⟨u,rfl,ru⟩:=vals1 r1;cases ru;obtain ⟨its,rv,pl,hz⟩:=I1.list hA;have hi:fz its ns:=intsAre_of rv;have hlen:=hi.length;refine Sw.Qk (ns:=ns) (I1.ok.hd hc) pl.isList (by simpa using hi) (by rw [aO,hlen];unfold vq;lia) λh2 tk ks hS hmem hle hk=>lM ?_
 have hnd:ks.Nodup:=by obtain ⟨_,_,_,_,_,_,_,_,_,_,_,_,_,_,hn⟩:=hS;exact hn
 have h64:ks.length<64:=bf (Qq hnd λx hx=>hsub x ((hmem x).mp hx)) hds;have I2:Inv X pins Z H1 { s1 with heap:=h2,toks:=tk }:=I1.kept (t':=tk) hk;obtain ⟨m,F,N⟩:=I2.Ov;refine Sw.K6 (s:={ s1 with heap:=h2,toks:=tk }) (I1.ok.hd hc) hS h64 F N λD c h' tk' d out ms F' N' hD a1 a2 a3=>?_;obtain ⟨hn,I3⟩:=I2.RL (t':=tk') (o:=.lst (ms.map V.int)) F.ns F' N' hD ⟨by rw [ag,a2.length_eq];exact bI (m:=64) (by lia),out,c,xV a1,(N' _ aw).1⟩;refine ⟨.ref D,_,I3.drawn d,rfl,k D ms hn ?_ (λx=>by rw [a2.mem_iff,hmem])⟩;have hnd':ms.Nodup:=a2.nodup_iff.mpr hnd
 exact (List.Pairwise.and a3 hnd').imp λ{x y} h=>by
  have h1:=h.1;have h2:x≠y:=h.2;lia
end
end L2
namespace L2
open PySem PySem.Spec PyProof.Rows PySem.W
section
variable {X:Cx}
end
end L2
namespace L2
end L2
namespace L2
section
variable {P:a6}{w:bO}{st:List EH}{H H2:Hp}{s:ao}{a:af}{B h h':cf}
end
section
variable {P:a6}{w:bO}{K:aa}{mg:bj->Option ai}{base:cf}{N:List bj}{qual:bj}{scope:jx}{f:af}{cd:ai}{A:bR}{outer:List EH}{s:ao}{H:Hp}{E E':XK}
end
end L2
namespace L2
end L2
namespace L2
section
variable {X:Cx}{pins:List (af×fT)}{Z:St}{H:Hp}{s:ao}
end
end L2
namespace L2
section
variable {X:Cx}{k:Nat}{f CT:af}{fd:eK}{ps:List bj}{sp:Sp}{x xT n:bj}{p np cpos epos hpos pos:lg}{e:Expr}{es:List Expr}{t:TA}{th:TS}{i:Nat}{b₀:dz} {suite:List dz}
end
end L2
namespace L2
end L2
namespace L2
section
variable {X:Cx}{k:Nat}{f:af}{fd:eK}{ps:List bj}{sp:Sp}{x:bj}{p pos:lg}{e:Expr}{es:List Expr}{t:TA}
end
end L2
namespace L2
section
variable {K:aa}{Z:St}{H:Hp}{Q:VK}
end
end L2
namespace L2
structure Cal (P:a6) (w:bO) (K:aa) (mg:bj->Option ai) (base:cf) (CX:Kp) (k:Nat) (x:bj) (ps:List bj) (sp:Sp) where
 f:af
 d:eK
 G:k9 P w K mg base CX k f d ps sp
 m:mg x=some (.ref f)
 kp:eI K (.ref f)=true
 b:Binds K d ps []
structure WK (P:a6) (w:bO) (K:aa) (mg:bj->Option ai) (base:cf) (CX:Kp) (k:Nat) (C:af) (x:bj) (ps:List bj) (sp:Sp) where
 f:af
 d:eK
 G:k9 P w K mg base CX k f d ps sp
 m:SL K C x f
 b:Binds K d ps []
structure CalI (P:a6) (w:bO) (K:aa) (mg:bj->Option ai) (base:cf) (CX:Kp) (k:Nat) (C:af) (ps:List bj) (sp:Sp) where
 f:af
 d:eK
 G:k9 P w K mg base CX k f d ps sp
 m:Mk K C f
 b:Binds K d ps []
structure pI (K:aa) (mg:bj->Option ai) (x:bj) (st:dz) (ps:List bj) where
 f:af
 d:eK
 F:Mj K x x st f d
 m:mg x=some (.ref f)
 bt:∀ (s:ao) (us:List ai),us.length=ps.length->Hw s d ⟨us,[]⟩ (ps.zip us)
 b:Binds K d ps []
structure lK (K:aa) (C:af) (x q:bj) (st:dz) (ps:List bj) where
 f:af
 d:eK
 F:Mj K x q st f d
 a:bD K (.ref C) x=some (some (.ref f))
 i:qI K (.ref f)=true
 b:Binds K d ps []
def qY {K:aa}{h:cf}{mg:bj->Option ai}{x:bj}{st:dz}{ps:List bj}(X:K.In h) (G:h.Ns bU mg) {f:af}{od an:Option af}{sl:Array (Option ai)}{oc kV dc pm cd ct:ai}(a:dk K bU x=some (some (.ref f)))
  (l:K.lookup f=some ⟨oc,od,.func (iu x x (nR st) (j7 st) (aW st) .none kV dc pm an cd ct),sl⟩) (c:nM K cd x=true) (k:eI K (.ref f)=true)
  (hb:∀ (kV doc pm:ai) (an:Option af) (nE ct:ai) (us:List ai),us.length=ps.length->An (iu x x (nR st) (j7 st) (aW st) .none kV doc pm an nE ct) ⟨us,[]⟩=pure (ps.zip us)):pI K mg x st ps :=
 ⟨f,_,FZ l c k,pG X G a,λs us hl=>.of_eq (hb kV dc pm an cd ct us hl),(FZ l c k).binds hb⟩
def Dl {K:aa}{C:af}{x q:bj}{st:dz}{ps:List bj}{f:af}{od an:Option af}{sl:Array (Option ai)}{oc kV dc pm cd ct:ai}(a:bD K (.ref C) x=some (some (.ref f))) (i:qI K (.ref f)=true)
  (l:K.lookup f=some ⟨oc,od,.func (iu x q (nR st) (j7 st) (aW st) .none kV dc pm an cd ct),sl⟩) (c:nM K cd q=true) (k:eI K (.ref f)=true)
  (hb:∀ (kV doc pm:ai) (an:Option af) (nE ct:ai) (us:List ai),us.length=ps.length->An (iu x q (nR st) (j7 st) (aW st) .none kV doc pm an nE ct) ⟨us,[]⟩=pure (ps.zip us)):lK K C x q st ps :=
 ⟨f,_,FZ l c k,a,i,(FZ l c k).binds hb⟩
def pI.law {K:aa}{mg:bj->Option ai}{x y:bj}{st:dz}{fa:af}(D:pI K mg x st [y]) (h:mg x=some (.ref fa)):D.f=fa:=by
 have:=D.m.symm.trans h;cases this;rfl
section
variable {X:Cx}{CX:Kp}{E:XK}{k:Nat}{C:af}{ps:List bj}{sp:Sp}{x:bj}{p pos apos:lg}{e o:Expr}{es:List Expr}{t:TA}{ta:TE}
def YA (c:Cal X.prog X.w X.K X.mg X.base CX k x ps sp) (hr:h8 k X.A) (hg:Gl X x) (hx:oi CX X E) (ha:PA X (e::es) t) (hdb:(x == ("__debug__":bj))=false:=by decide) (he:bL (e::es) X.env=(false,fh e X.env)::bL es X.env:=by rfl) (hpl:(g9 pos (bL es X.env)).any (·.1)=false:=by rfl) :
  PE X (.Call (.Name x p) (e::es) [] pos) (cC sp [] E t):=SQ c.G hr hg c.m c.kp c.b .nil hx ha hdb he hpl
def pcm {pl:Uq Bool}(c:WK X.prog X.w X.K X.mg X.base CX k C x ps sp) (cl:Dm X.K C) (hr:h8 k X.A) (he:PE X o ta) (hx:oi CX X E) (ha:PA X (e::es) t)
  (hst:bL (e::es) X.env=(false,fh e X.env)::bL es X.env:=by rfl) (hpl:(g9 pos (bL es X.env)).any (·.1)=false:=by rfl)
  (ht:fh (.Call (.Attribute o x apos) (e::es) [] pos) X.env=(do
   let ov ← fh o X.env
   sV apos.atName
   let (f,first) ← j9 [ov] (AG ov x pl)
   Xm pos f first (g9 pos (bL (e::es) X.env)) (Hx pos (sX [] X.env))):=by rfl) :
  PE X (.Call (.Attribute o x apos) (e::es) [] pos) (eZ C x sp [] E ta t):=SR he cl c.m c.G hr c.b .nil hx ha hst hpl ht
def pcm0 {pl:Uq Bool}(c:WK X.prog X.w X.K X.mg X.base CX k C x ps sp) (cl:Dm X.K C) (hr:h8 k X.A) (he:PE X o ta) (hx:oi CX X E)
  (ht:fh (.Call (.Attribute o x apos) [] [] pos) X.env=(do
   let ov ← fh o X.env
   sV apos.atName
   let (f,first) ← j9 [ov] (AG ov x pl)
   Xm pos f first (g9 pos (bL [] X.env)) (Hx pos (sX [] X.env))):=by rfl) :
  PE X (.Call (.Attribute o x apos) [] [] pos) (eZ C x sp [] E ta aX):=Pu he cl c.m c.G hr c.b .nil hx ht
end
end L2
namespace L2
open PySem PySem.Spec PyProof.Rows PySem.W
def fN:List Int->List Int->Bool
 | [],[]=>false
 | [],_::_=>true
 | _::_,[]=>false
 | x::xs,y::ys=>if x=y then fN xs ys else decide (x<y)
theorem sT:∀ x:List Int,fN x x=false
 | []=>rfl
 | x::xs=>by unfold fN;rw [if_pos rfl];exact sT xs
theorem uV:∀ {x y:List Int},fN x y=false->fN y x=true\/x=y
 | [],[],_=>.inr rfl
 | [],_::_,h=>by unfold fN at h;cases h
 | _::_,[],_=>.inl (by unfold fN;rfl)
 | x::xs,y::ys,h=>by
  unfold fN at h ⊢
  by_cases e:x=y
  ·subst e;rw [if_pos rfl] at h ⊢
   rcases uV h with q|q
   ·exact .inl q
   ·exact .inr (by rw [q])
  ·rw [if_neg e] at h;rw [if_neg (Ne.symm e)];exact .inl (by have:=of_decide_eq_false h;exact decide_eq_true (by lia))
theorem uW:∀ {x y z:List Int},fN x y=true->fN y z=true->fN x z=true
 | [],[],_,h,_=>by unfold fN at h;cases h
 | [],_::_,[],_,h=>by unfold fN at h;cases h
 | [],_::_,_::_,_,_=>by unfold fN;rfl
 | _::_,[],_,h,_=>by unfold fN at h;cases h
 | _::_,_::_,[],_,h=>by unfold fN at h;cases h
 | x::xs,y::ys,z::zs,h,h'=>by
  unfold fN at h h' ⊢
  by_cases e:x=y
  ·subst e;rw [if_pos rfl] at h
   by_cases e':x=z
   ·rw [if_pos e'] at h' ⊢;exact uW h h'
   ·rw [if_neg e'] at h' ⊢;exact h'
  ·rw [if_neg e] at h;have h1:=of_decide_eq_true h
   by_cases e':y=z
   ·subst e';rw [if_neg e];exact h
   ·rw [if_neg e'] at h';have h2:=of_decide_eq_true h';rw [if_neg (by lia)];exact decide_eq_true (by lia)
def Fc (ts:List (List Int)) (t:List Int):Int:=(ts.countP λu=>fN u t:Nat)
def vS {ts:List (List Int)}{t u:List Int}(ht:t∈ts):decide (Fc ts t<Fc ts u)=fN t u:=by
 unfold Fc
 cases q:fN t u with
 | true =>
  have:=IE (l:=ts) (p:=λv=>fN v t) (q:=λv=>fN v u) (x:=t) (λy _ h=>uW h q) ht (sT t) q
  exact decide_eq_true (by lia)
 | false =>
  have:ts.countP (λv=>fN v u)<=ts.countP λv=>fN v t:=OL λv _ h=>by
   rcases uV q with e|e
   ·exact uW h e
   ·rw [e];exact h
  exact decide_eq_false (by lia)
inductive Flat:List Bool->List V->List Int->Prop
 | nil:Flat [] [] []
 | int (i:Int) {m:List Bool}{xs:List V}{ks:List Int}:Flat m xs ks->Flat (false::m) (.int i::xs) (i::ks)
 | bl (b:Bool) {m:List Bool}{xs:List V}{ks:List Int}:Flat m xs ks->Flat (true::m) (.bl b::xs) (b2i b::ks)
def Flat.length {m:List Bool}{xs:List V}{ks:List Int}(h:Flat m xs ks):xs.length=m.length:=by
 induction h with
 | nil=>rfl
 | int _ _ ih=>simp [ih]
 | bl _ _ ih=>simp [ih]
section
variable {prog:a6}{w:bO}{A:bR}{s:ao}{b:Bool}{Q:Bool->ao->Prop}
def Qr {m:List Bool}{xs:List V}{ks:List Int}(fx:Flat m xs ks):∀ {ys:List V}{ls:List Int}{us ws:List ai}{i:Nat},Flat m ys ls->Vals xs us->Vals ys ws->(b && i == 0)=false->Q (fN ks ls) s ->
  KatLex prog w A b false Q (us.zip ws) i s:=by
 induction fx with
 | nil =>
  intro ys ls us ws i fy rx ry hi q;cases fy;cases rx;cases ry;unfold fN at q
  exact kat_nil q
 | int a _ ih =>
  intro ys ls us ws i fy rx ry hi q
  cases fy with
  | int c fy =>
   cases rx with
   | cons r1 rx =>
    cases ry with
    | cons r2 ry =>
     obtain ⟨t,rfl⟩:=r1;obtain ⟨u,rfl⟩:=r2;rw [jf];refine HK (iR a t c u _ _ _ _ ?_);unfold fN at q
     by_cases e:a=c
     ·rw [if_pos e] at q;rw [show (a == c)=true by simpa using e];exact HL (ih fy rx ry (by simp) q)
     ·rw [if_neg e] at q;rw [show (a == c)=false by simpa using e];refine kat_no ?_;rw [hi]
      exact kat_one _ _ (Sg q)
 | bl a _ ih =>
  intro ys ls us ws i fy rx ry hi q
  cases fy with
  | bl c fy =>
   cases rx with
   | cons r1 rx =>
    cases ry with
    | cons r2 ry =>
     cases r1;cases r2;rw [jf];refine HK (SeqAt.EqAt.bool_bool a c _ _ _ _ ?_);unfold fN at q
     by_cases e:a=c
     ·rw [if_pos (by rw [e])] at q;rw [show (a == c)=true by simpa using e];exact HL (ih fy rx ry (by simp) q)
     ·rw [if_neg (by cases a<;>cases c<;>first|exact absurd rfl e|decide)] at q;rw [show (a == c)=false by simpa using e];refine kat_no ?_;rw [hi];exact kat_one _ _ (lt_bool q)
def MP {x y:af}{m:List Bool}{xs ys:List V}{ks ls:List Int}{us ws:List ai}{E:ai->ao->Prop}(fx:Flat (false::m) xs ks) (fy:Flat (false::m) ys ls) (rx:Vals xs us) (ry:Vals ys ws)
  (hx:pK s.heap x us.toArray) (hy:pK s.heap y ws.toArray) (h:Q (fN ks ls) s):aG (aM prog w) A (keyLt' (Uy true) (.ref x) (.ref y)) Q E s:=by
 obtain ⟨ox,ex,cx,nx,dx⟩:=hx;obtain ⟨oy,ey,cy,ny,dy⟩:=hy
 have l1:us.length=ws.length:=by rw [← rx.length,← ry.length,fx.length,fy.length]
 refine kat_lt ex dx ey dy ?_;rw [show decide (us.toArray.size<ws.toArray.size)=false by simp [l1]]
 cases fx with
 | int a fx =>
  cases fy with
  | int c fy =>
   cases rx with
   | cons r1 rx =>
    cases ry with
    | cons r2 ry =>
     obtain ⟨t,rfl⟩:=r1;obtain ⟨u,rfl⟩:=r2
     show KatLex _ _ _ _ _ _ (List.zip (_::_) (_::_)) 0 s
     rw [jf];refine HK (iR a t c u _ _ _ _ ?_);unfold fN at h
     by_cases e:a=c
     ·rw [if_pos e] at h;rw [show (a == c)=true by simpa using e];exact HL (Qr fx fy rx ry (by simp) h)
     ·rw [if_neg e] at h;rw [show (a == c)=false by simpa using e];exact kat_no (oneLt_int h)
end
abbrev Zn:=List Int×af
def lF (z:Zn):V:=.ref z.2
def Bu (m:List Bool) (H:Hp) (z:Zn):Prop:=∃ xs,H z.2=some (.tup xs)/\Flat (false::m) xs z.1
theorem vT:∀ {zs:List Zn}{us:List ai},Vals (zs.map lF) us->us=zs.map λz=>aD z.2
 | [],_,h=>by cases h;rfl
 | z::zs,_,h=>by
  cases h with
  | cons h1 h2=>cases h1;rw [vT h2];rfl
theorem pV:∀ zs:List Zn,Vals (zs.map lF) (zs.map λz=>aD z.2)
 | []=>.nil
 | _::zs=>.cons rfl (pV zs)
theorem MQ {h:cf}:∀ {zs:List Zn},(∀ z∈zs,∃ i t us,pK h z.2 (fw i t::us).toArray)->∃ fs,KatTups h (zs.map λz=>aD z.2) fs/\fs.length=zs.length/\∀ v∈fs,∃ i t,v=fw i t
 | [],_=>⟨[],.nil,rfl,λ_ h=>nomatch h⟩
 | z::zs,hz=>by
  obtain ⟨fs,k1,k2,k3⟩:=MQ (zs:=zs) λz' h'=>hz z' (aj _ h');obtain ⟨i,t,us,o,e,c,n,d⟩:=hz z aw;refine ⟨.int i t::fs,Xx e c d (by simp) k1,by simp [k2],λv hv=>?_⟩
  rcases au.mp hv with rfl|hv
  ·exact ⟨i,t,rfl⟩
  ·exact k3 v hv
section
variable {X:Cx}
end
end L2
namespace L2
open PySem PySem.Spec PySem.Calls PyProof.Rows
open PySem.W (kla_fn kla_obj tabObj CodeHd)
def Fd {prog:a6}{w:bO}{A:bR}{E:ai->ao->Prop}{Q:ai->ao->Prop}{s:ao}{f c':af}{qual x:bj}{params:ma}{body:Expr}{scope:jx}{clos:List (bj×af)}{pm ctv v:ai}
  (hroom:A.depth<qJ) (ho:s.heap.get? f=some (xB "<lambda>" qual params body scope clos pm c' ctv)) (hrec:s.heap.CodeRec (.ref c') qual) (hlim:s.heap.NoLimit)
  (hb:An (kla_fn "<lambda>" qual params body scope clos pm (.ref c') ctv) ⟨[v],[]⟩=pure [(x,v)])
  (hx:scope.names.lookup x=some .local) (hk:scope.kind=.function) (hco:scope.isCoroutine=false) (hgen:scope.isGenerator=false) (hcell:∀ z∈scope.names,z.2≠.cell)
  (h:∀ (env:EH) (h₁:cf) (tk:Nat) (E':ai->ao->Prop),env.scope=scope->env.cells=clos->s.heap.objs.size<=env.locals->h₁.Ns env.locals (λz=>dN z [(x,v)])->(∀ b o,s.heap.get? b=some o->h₁.get? b=some o) ->
   aG (aM prog w) (A.deeper env) (fh body env) Q E' { s with heap:=h₁,toks:=tk }) :
  aG (aM prog w) A (call (.ref f) [v]) Q E s:=by
 refine OF (PySem.W.kla_callFunE hroom ho rfl hco hgen rfl hrec ?_);rw [hb];refine ak (Xp hcell (λz hz=>by rw [aA.mp hz];exact hx) (λh₁ hns hsb=>⟨hlim.fresh _ hsb,?_⟩) hk);have hk₁:∀ b o,s.heap.get? b=some o->h₁.get? b=some o:=λb o e=>hsb.extBut b o (bg (aJ e)) (ar _ e);exact PySem.W.kla_codeExpr (h _ h₁ _ _ rfl rfl (av _) hns hk₁)
def Nq (prog:a6) (w:bO) (A:bR) (env:EH) (s:ao) (h:cf) (e:Expr) (i:Int):Prop :=
 ∀ (tk:Nat) (Q:ai->ao->Prop) (E:ai->ao->Prop),(∀ tk' t,Q (.int i t) { s with heap:=h,toks:=tk' })->aG (aM prog w) A (fh e env) Q E { s with heap:=h,toks:=tk }
section
variable {prog:a6}{w:bO}{A:bR}{env:EH}{s:ao}{h:cf}{a b:Expr}{i j:Int}{pos:lg}
def Nq.bin {op:Am}{r:Int}(ha:Nq prog w A env s h a i) (hb:Nq prog w A env s h b j)
  (ho:∀ (tk:Nat) (t u:Uo) (Q:ai->ao->Prop) (E:ai->ao->Prop),(∀ tk' v,Q (.int r v) { s with heap:=h,toks:=tk' })->aG (aM prog w) A (qH op (.int i t) (.int j u)) Q E { s with heap:=h,toks:=tk }) :
  Nq prog w A env s h (.BinOp a op b pos) r:=λtk Q E q=>wpAny_BinOp (ha tk _ _ λ_ _=>hb _ _ _ λ_ _=>ho _ _ _ _ _ q)
def Nq.Vv {x:bj}{b:af}{its:Array ai}{k:Nat}{t:Uo}{p1 p2:lg}{n:Nat}(hk:env.scope.kind=.function) (hx:env.scope.names.lookup x=some .local) (hn:h.Ns env.locals (λz=>dN z [(x,aD b)]))
  (ht:pK h b its) (hi:its[k]?=some (.int i t)) (hs:its.size<=aV) (hdx:(x == ("__debug__":bj))=false:=by decide):Nq prog w A env s h (.Subscript (.Name x p1) (.Constant (.int k) n p2) pos) i:=by
 intro tk Q E q
 have hlt:k<its.size:=by
  by_cases z:k<its.size
  ·exact z
  ·rw [gW (by lia)] at hi;cases hi
 have hl:=qR;refine OG (qG (kC hk hx hn (v:=.ref b) ?_ ?_) hdx)
 ·show dN x [(x,aD b)]=_
  rw [cJ,beq_self_eq_true]
 refine wpAny_Constant_int ?_;have ht':pK ({ s with heap:=h,toks:=tk }:ao).heap b its:=ht;refine xA (x:=.int i t) (T:="tuple") ?_ hV.lookup (getItem_tuple (j:=k) (x:=.int i t) (Q:=λr s'=>r=.int i t/\Q r s') ?_ (by lia) (by lia) ?_ hi ⟨rfl,q _ _⟩) (by with_unfolding_all rfl)
 ·obtain ⟨o,e,c,r⟩:=ht;exact ⟨o,e,c⟩
 ·exact ht
 ·unfold seqIndex?
  have h0:¬ ((k:Int)<0):=by lia
  simp only [h0,if_false];simp [hlt]
end
section
variable {X:Cx}{c Pt:af}{e body:Expr}{tx:TA}{x y:bj}{j:Nat}{params:ma}{scope:jx}{p0 lpos kpos pos:lg}{C:Int->Int->Int->Prop}{g:Int->Int->Int->Int}
end
end L2
namespace L2
open PySem PySem.Spec PySem.Calls PyProof.Rows PySem.W
theorem MR:∀ x y:List Int,fN x y=HT.lexLt x y
 | [],[]=>rfl
 | [],_::_=>rfl
 | _::_,[]=>rfl
 | x::xs,y::ys=>by unfold fN;rw [HT.A7,MR xs ys]
def IS (z:Zn) (t:Uo):fT:=bW "tuple" #[.int (z.1.headD 0) t,.ref z.2] 0
section
variable {prog:a6}{w:bO}{A:bR}{s:ao}{Q:Bool->ao->Prop}
def Ts {k1 k2 b1 b2:af}{w1 w2 x1 y1 x2 y2:Int}{t1 t2 ta tb tc td:Uo}{E:ai->ao->Prop}(hx:pK s.heap k1 #[.int w1 t1,.ref b1]) (hy:pK s.heap k2 #[.int w2 t2,.ref b2])
  (hb1:pK s.heap b1 #[.int x1 ta,.int y1 tb]) (hb2:pK s.heap b2 #[.int x2 tc,.int y2 td]) (hu:A.units<gZ) (h:Q (fN [w1,x1,y1] [w2,x2,y2]) s):aG (aM prog w) A (keyLt' (Uy true) (.ref k1) (.ref k2)) Q E s:=by
 obtain ⟨ox,ex,cx,nx,dx⟩:=hx;obtain ⟨oy,ey,cy,ny,dy⟩:=hy;refine kat_lt ex dx ey dy ?_;have ez:(#[fw w1 t1,aD b1].toList.zip #[fw w2 t2,aD b2].toList)=[(.int w1 t1,.int w2 t2),(.ref b1,.ref b2)]:=rfl;rw [ez];refine HK (iR w1 t1 w2 t2 _ _ _ _ ?_);unfold fN at h
 by_cases e:w1=w2
 ·rw [if_pos e] at h;rw [show (w1 == w2)=true by simpa using e]
  by_cases eb:b1=b2
  ·subst eb;refine HL (HK (SeqAt.EqAt.same _ _ _ _ _ (HL (kat_nil ?_))))
   have:x1=x2/\y1=y2:=by
    obtain ⟨o,e1,_,n,d1⟩:=hb1;obtain ⟨o',e2,_,n',d2⟩:=hb2;rw [e1] at e2;cases e2;rw [d1] at d2;simp at d2;exact ⟨d2.1.1.1,d2.1.2.1⟩
   rw [this.1,this.2,sT] at h;exact h
  ·have rc:SeqAt.RcAt A s (.ref b1) (.ref b2) ((dv (min 2 2)).all (λj=>if j=0 then x1 == x2 else y1 == y2) && (2 == 2)):=SeqAt.RcAt.tuples (items:=#[.int x1 ta,.int y1 tb]) (items2:=#[.int x2 tc,.int y2 td]) hb1 hb2 hu λj h1 h2=>by
    match j,h1,h2 with
    | 0,_,_=>exact iR x1 ta x2 tc
    | 1,_,_=>exact iR y1 tb y2 td
    | j+2,h1,_=>exact absurd h1 (by simp)
   have er:((dv (min 2 2)).all (λj=>if j=0 then x1 == x2 else y1 == y2) && (2 == 2))=(x1 == x2 && y1 == y2):=by
    show ([0,1].all _ && true)=_
    simp
   rw [er] at rc;refine HL (HK (SeqAt.EqAt.of_refs eb rc _ _ _ _ ?_))
   by_cases c1:x1=x2/\y1=y2
   ·rw [show (x1 == x2 && y1 == y2)=true by simp [c1]];refine HL (kat_nil ?_);rw [c1.1,c1.2,sT] at h;exact h
   ·rw [show (x1 == x2 && y1 == y2)=false by
     cases q:(x1 == x2 && y1 == y2) with
     | false=>rfl
     | true=>simp at q;exact absurd q c1]
    refine kat_no (kat_one _ _ (HT.KQ hb1 hb2 (.cons _ _ (.cons _ _ .nil)) (.cons _ _ (.cons _ _ .nil)) hu ?_));rw [MR] at h;exact h
 ·rw [if_neg e] at h;rw [show (w1 == w2)=false by simpa using e];exact kat_no (oneLt_int h)
end
section
variable {P:a6}{w:bO}{A:bR}{env:EH}{s:ao}{h:cf}{H:Hp}
def Qs {x y:bj}{b d cl:af}{wt:Int}{tk:Nat}{p1 p2 p3 p4 p5:lg}{x1} {Q:ai->ao->Prop}{E:ai->ao->Prop}(fo:qD P w H h) (hk:env.scope.kind=.function) (hx:env.scope.names.lookup x=some .local) (hy:env.scope.names.lookup y=some .free) (hn:h.Ns env.locals (λz=>dN z [(x,aD b)]))
  (hcl:env.cells.lookup y=some cl) (hcv:h.IsCell cl (some (.ref d))) {OZ:List (List iA×V)}{k:List iA}(hd:H d=some (.dT OZ)) (hb:H b=some (.tup (k.map kV))) (hv:kB OZ k=some (.int wt)) (hu:A.units+64<gZ)
  (q:∀ t tk',Q (.ref h.objs.size) { s with heap:=h.push (bW "tuple" #[.int wt t,.ref b] 0),toks:=tk' })
  (hdx:(x == ("__debug__":bj))=false:=by decide) (hdy:(y == ("__debug__":bj))=false:=by decide) (hdc:(y == ("__classdict__":bj))=false:=by decide) :
  aG (aM P w) A (fh (.Tuple [.Subscript (.Name y p1) (.Name x p2) p3,.Name x p4] x1 p5) env) Q E { s with heap:=h,toks:=tk }:=by
 have lx:dN x [(x,aD b)]=some (aD b):=by rw [cJ,beq_self_eq_true]
 refine De (ia (OG (qG (XR hk hy hcl (v:=.ref d) hcv ?_ hdc) hdy)));refine qG (kC hk hx hn (v:=.ref b) lx ?_) hdx;obtain ⟨z,hm,xs,rel,dd⟩:=EY fo (.inl hd);obtain ⟨w',hw,rw'⟩:=sD.some_of (v:=V.int wt) (o:=(HA xs k).map (·.2)) (by rw [← hv];exact rel.val k);obtain ⟨t,rfl⟩:=rw';obtain ⟨p,hp,hp2⟩:=bw.mp hw
 have ty:({ s with heap:=h,toks:=tk }:ao).TypeIs (.ref d) "dict":=by
  obtain ⟨o,es,ep,e1,e2,_⟩:=dd;exact ⟨o,e1,e2.1⟩
 refine tail_any ty FI.lookup (wpAny_getItem_heap (jF (by lia)) (qU fo hb) dd hp ?_) rfl;rw [hp2];refine ia (qG (kC hk hx hn (v:=.ref b) lx (lM ⟨?_,q t _⟩)) hdx);exact bI (m:=2) (av 2)
end
end L2
namespace L2
open PySem PySem.Spec PySem.Calls PyProof.Rows PySem.W
theorem yS {α β:Type} {R:α->β->Prop}{a:α}{b:β}(r:R a b):∀ {xs:List α}{ys:List β},Paired R xs ys->Paired R (xs++[a]) (ys++[b])
 | _,_,.nil=>.cons r .nil
 | _,_,.cons h t=>.cons h (yS r t)
theorem uX {α β:Type} {R:α->β->Prop}:∀ {xs:List α}{ys:List β},Paired R xs ys->ys.length=xs.length
 | _,_,.nil=>rfl
 | _,_,.cons _ t=>by simp [uX t]
theorem Bw {α β:Type} {R:α->β->Prop}:∀ {xs:List α}{ys:List β},Paired R xs ys->∀ (i:Nat) (a:α),xs[i]?=some a->∃ b,ys[i]?=some b/\R a b
 | _,_,.nil,_,_,h=>by simp at h
 | _,_,.cons r t,0,a,h=>by simp at h;subst h;exact ⟨_,rfl,r⟩
 | _,_,.cons r t,i+1,a,h=>by simpa using Bw t i a (by simpa using h)
section
variable {prog:a6}{w:bO}{A:bR}{s:ao}{h₀:cf} {L a kS:af}{m:bj->Option ai}{jK:List (af×fT)}{f:ai}{e1:Nat}{zs:List Zn}{Fin:List ai->Nat->ao->Prop}
end
section
variable {prog:a6}{w:bO}{A:bR}{s:ao}{h₀:cf} {L a kS:af}{m:bj->Option ai}{jK own:List (af×fT)}{e e1:Nat}{zs:List Zn}{ks:List af}{Post:ao->Prop}
end
end L2
namespace L2
open PySem PySem.Spec PySem.Calls PyProof.Rows PySem.W
section
variable {prog:a6}{w:bO}{A:bR}{E:ai->ao->Prop}{s:ao}{h₀:cf} {L a:af}{m:bj->Option ai}{jK:List (af×fT)}{f:ai}{n:Nat}{vs:List ai}{P:Kx->ao->Prop}
end
section
variable {X:Cx}{c Pt:af}{e:Expr}{tx:TA}{x y:bj}{j:Nat}{params:ma}{scope:jx}{p0 p1 p2 p3 p4 p5 lpos kpos pos:lg}{x1:Nat}
end
end L2
namespace L2
open PySem PySem.Spec PySem.Calls PyProof.Rows
def h8.J9 {k:Nat}{A:bR}(r:h8 k A):A.units+128<gZ:=by have:=r.un;lia
section
variable {X:Cx}{CX:Kp}{k:Nat}{B:af}{x:bj}{ps:List bj}{sp:Sp}{o e:Expr}{es:List Expr}{t:TA}{E:XK}{apos pos:lg}
end
section
variable {X:Cx}{x:Expr}{t:TA}{p1 p2 q1 q2:lg}
end
end L2
namespace L2
open PySem PySem.Spec PySem.Calls PyProof.Rows
open PySem.W (tabObj CodeHd noTabs tabIn)
def Ob {P:a6}{w:bO}{K:aa}{mg mb:bj->Option ai}{k:Nat}{fa a:af}{Ps:List (af×af)}{fd:eK}{x:bj}{sp:Sp}{s₁:ao} {vs:List ai}{ns:List Int}
  (KX:K.In s₁.heap) (hns:s₁.heap.Ns bU mg) (hb:s₁.heap.Ns builtinsNs mb) (hbb:∀ x:bj,x≠"__name__"->mb x=dI x) (hlim:s₁.heap.NoLimit) (hg:s₁.gens=#[])
  (C:∀ p∈Ps,ik s₁.heap p.1 p.2) (hPt0:∀ p∈Ps,s₁.heap.get? p.2=some (Kk #[])) (Bm:∀ p∈Ps,s₁.heap.BuiltinsAt mg p.2) (hnt:noTabs K=true)
  (ha:s₁.heap.get? a=some { cls:=.type "list",data:=.seq vs.toArray }) (hi:fz vs ns) (hl:ns.length<=aV) (hr:h8 k HB)
  (F:∀ base:cf,K.In base->base.Ns bU mg->(∀ p∈Ps,ik base p.1 p.2/\base.BuiltinsAt mg p.2)->k9 P w K mg base Iu k fa fd [x] sp) (hbind:∀ (s:ao) (u:ai),Hw s fd ⟨[u],[]⟩ [(x,u)])
  (hsp:∀ H:Hp,(∀ p∈Ps,H p.2=some (.tbl #[]))->c6 K H a (ns.map V.int)->sp [.ref a] H (λv _=>v=.bl true) λ_ _ _=>False)
  (hCX:∀ H e s',Iu [] H s₁ (λ_ _ _=>False) e s'->False) :
  ka (aM P w) HB (.call (.ref fa) ⟨[.ref a],[]⟩) (λr s'=>r=.ok (.ret (.bool true))/\OldK s₁.heap s'.heap/\s'.os=s₁.os/\xu s'.gens) s₁:=by
 have rv:=xV hi;have lenV:=hi.length
 have hPt:∀ b,b∈Ps.map (·.2)->s₁.heap.get? b=some (Kk #[]):=λb hb=>by
  obtain ⟨p,hp,rfl⟩:=aT.mp hb;exact hPt0 p hp
 have naP:a∉Ps.map (·.2):=λz=>by rw [hPt a z] at ha;cases ha
 have KPt:∀ b,b∈Ps.map (·.2)->K.lookup b=none:=λb hb=>by
  cases q:K.lookup b with
  | none=>rfl
  | some o =>
   have e:=KX b o q;rw [hPt b hb] at e;cases e;have h2:=VG.mp hnt (b,Kk #[]) (PySem.W.mem_of_lookupK q);exact absurd (show false=true from h2) bC
 have core:∀ H:Hp,(∀ b,b∈Ps.map (·.2)->H b=some (.tbl #[]))->(∀ b,b∉Ps.map (·.2)->H b=none\/∃ o xs,H b=some (.frz o (.lst xs)))->c6 K H a (ns.map V.int)->qD P w H s₁.heap->(∀ b,b∉Ps.map (·.2)->H b≠none->b=a)->(H a≠none->K.lookup a=none) ->
   ka (aM P w) HB (.call (.ref fa) ⟨[.ref a],[]⟩) (λr s'=>r=.ok (.ret (.bool true))/\OldK s₁.heap s'.heap/\s'.os=s₁.os/\xu s'.gens) s₁:=by
  intro H hT hO hS fo hA hK;have base_of:∀ {b:af}{o:fT},s₁.heap.get? b=some o->H b=none->(AN s₁.heap H).get? b=some o:=λe n=>Pb e n
  have noA:∀ {b:af}{o:fT},s₁.heap.get? b=some o->o.cls≠.type "list"->b∉Ps.map (·.2)->H b=none:=λ{b o} e d hbP=>by
   cases q:H b with
   | none=>rfl
   | some u =>
    have e':b=a:=hA b hbP (by rw [q];simp);subst e';rw [ha] at e;cases e;exact absurd rfl d
  have noD:∀ {b:af}{o:fT}{es:Array DictEntry}{ep:Nat},s₁.heap.get? b=some o->o.data=.dict es ep->H b=none:=λ{b o es ep} e d=>by
   have hbP:b∉Ps.map (·.2):=λz=>by rw [hPt b z] at e;cases e;cases d
   cases q:H b with
   | none=>rfl
   | some u =>
    have e':b=a:=hA b hbP (by rw [q];simp);subst e';rw [ha] at e;cases e;have d':XU vs.toArray _=Data.dict es ep:=d;cases d'
  have nsK:∀ {b:af}{m:bj->Option ai},s₁.heap.Ns b m->(AN s₁.heap H).Ns b m:=λ{b m} ⟨o,es,ep,e,d,r⟩=>⟨o,es,ep,base_of e (noD e d),d,r⟩
  have hKb:K.In (AN s₁.heap H):=λb o e=>base_of (KX b o e) (by
   have hbP:b∉Ps.map (·.2):=λz=>by rw [KPt b z] at e;cases e
   cases q:H b with
   | none=>rfl
   | some u =>
    have e':b=a:=hA b hbP (by rw [q];simp);subst e'
    rw [hK (by rw [q];simp)] at e;cases e)
  have hM:Mod K mg (AN s₁.heap H):=⟨hKb,nsK hns,⟨mb,nsK hb,hbb⟩,let ⟨mc,h1,h2⟩:=hlim;⟨mc,nsK h1,h2⟩⟩
  have notab:∀ {b:af}{o:fT},s₁.heap.get? b=some o->o.cls≠.none->b∉Ps.map (·.2):=λ{b o} e d z=>by rw [hPt b z] at e;cases e;exact d rfl
  have hCB:∀ p∈Ps,ik (AN s₁.heap H) p.1 p.2/\(AN s₁.heap H).BuiltinsAt mg p.2:=λp hp=>by
   refine ⟨?_,?_⟩
   ·obtain ⟨o,vs',file,tf,flags,tg,inF,text,tt,e1,r1,r2,r3,r4,r5,r6,r7,r8,hne⟩:=C p hp;exact ⟨o,vs',file,tf,flags,tg,inF,text,tt,base_of e1 (noA e1 (by rw [r1];decide) (notab e1 (by rw [r1];decide))),r1,r2,r3,r4,r5,r6,r7,r8,hne⟩
   ·obtain ⟨bm,o,b1,b2,b3,b4,b5,b6,b7⟩:=Bm p hp;exact ⟨bm,o,b1,b2,b3,b4,base_of b5 (noA b5 (by rw [b6];decide) (notab b5 (by rw [b6];decide))),b6,b7⟩
  have e0:Md P w K mg (AN s₁.heap H) HB [] s₁ H:=⟨rfl,hM,λb o e=>Ss e,kj (NH _ _),trivial,λb hb=>absurd (show b∈([]:List af) from hb) (by simp),fo,.of_eq hg⟩
  refine mK ((F _ hKb (nsK hns) hCB).run HB [] s₁ H ⟨[.ref a],[]⟩ [.ref a] [.ref a] _ _ hr e0 (hbind s₁ (.ref a)) (.cons rfl .nil) (hsp H (λp hp=>hT p.2 (aZ hp)) hS)) λr s' h=>?_
  cases r with
  | error e=>exact (hCX H e s' h).elim
  | ok fl =>
   cases fl with
   | next=>exact h9 h
   | brk=>exact h9 h
   | cont=>exact h9 h
   | ret u =>
    obtain ⟨v,H',os,bare,un,hok',r',q⟩:=h;have q':v=.bl true:=q;subst q';obtain rfl:u=sJ true:=r'
    have keep:∀ b o,b∉Ps.map (·.2)->s₁.heap.get? b=some o->s'.heap.get? b=some o:=λb o hbP e=>by
     cases q:H b with
     | none=>exact un.keep b o e q (by intro z;exact absurd (show b∈([]:List af) from z) (by simp)) (by simp)
     | some u =>
      rcases hO b hbP with z|⟨ob,xs,z⟩
      ·rw [q] at z;cases z
      ·have z2:=un.C8 b ob _ z;obtain ⟨e1,_⟩:=fo b _ z;obtain ⟨e2,_⟩:=hok' b _ z2;rw [e] at e1;cases e1;exact e2
    have hmore:∀ b,b∈Ps.map (·.2)->∃ more,s'.heap.get? b=some (Kk (#[]++more)):=λb hb=>by
     obtain ⟨more,hm⟩:=un.C5 b _ (hT b hb);exact ⟨more,hok' b _ hm⟩
    refine ⟨rfl,⟨λb o e=>?_,λb o e=>?_⟩,os,bare⟩
    ·by_cases hbP:b∈Ps.map (·.2)
     ·obtain ⟨more,hP'⟩:=hmore b hbP;obtain ⟨p,hp,rfl⟩:=aT.mp hbP;rw [hPt0 p hp] at e;cases e;exact .inr (.inl ⟨((C p hp).tab (hPt0 p hp)).isCodeTable,rfl,#[],more,rfl,hP'⟩)
     ·exact .inl (keep b o hbP e)
    ·by_cases hbP:b∈Ps.map (·.2)
     ·obtain ⟨more,hP'⟩:=hmore b hbP;exact ⟨_,hP'⟩
     ·exact ⟨o,keep b o hbP e⟩
 cases hk:K.lookup a with
 | some o =>
  have e:=KX a o hk;rw [ha] at e;cases e;refine core (λb=>if b∈Ps.map (·.2) then some (.tbl #[]) else none) (λb hb=>if_pos hb) (λb hb=>.inl (if_neg hb)) (.inr ⟨_,vs.toArray,_,hk,rfl,rfl,rfl,by rw [aO,lenV];exact hl,by simpa using rv⟩) (λb u z=>?_) (λb hb z=>absurd (if_neg hb) z) λz=>absurd (if_neg naP) z
  by_cases hb:b∈Ps.map (·.2)
  ·have z':=(if_pos hb).symm.trans z;cases z';exact hPt b hb
  ·have z':=(if_neg hb).symm.trans z
   cases z'
 | none =>
  refine core (λb=>if b∈Ps.map (·.2) then some (.tbl #[]) else if b=a then some (.frz { cls:=.type "list",data:=.seq vs.toArray } (.lst (ns.map V.int))) else none) (λb hb=>if_pos hb) (λb hb=>?_) (.inl (.inr ⟨{ cls:=.type "list",data:=.seq vs.toArray },(if_neg naP).trans (if_pos rfl)⟩)) (λb u z=>?_) (λb hb z=>?_) λ_=>hk
  ·by_cases hba:b=a
   ·exact .inr ⟨_,_,(if_neg hb).trans (if_pos hba)⟩
   ·exact .inl ((if_neg hb).trans (if_neg hba))
  ·by_cases hb:b∈Ps.map (·.2)
   ·have z':=(if_pos hb).symm.trans z;cases z';exact hPt b hb
   ·have z0:=(if_neg hb).symm.trans z
    by_cases hba:b=a
    ·have z':=(if_pos hba).symm.trans z0;cases z';subst hba;exact ⟨ha,by rw [ag];exact hl,vs,_,rv,ha⟩
    ·have z':=(if_neg hba).symm.trans z0;cases z'
  ·by_cases hba:b=a
   ·exact hba
   ·exact absurd ((if_neg hb).trans (if_neg hba)) z
def Qt {l:qx}{n k:Nat}{q:a6}{loose:List bj}{XP:(bj->Option ai)->cf->Prop}{YP:bO->cf->Prop}{d:DefRec}{K:Params->aa}{sp:bO->Sp}{x:bj}{Ps:List (af×af)}
  (hn:l.most=some n) (hn2:n<=aV) (hdf:d.params.defaults=[]) (hr:h8 k HB)
  (hY:∀ (w:bO) (h:cf),YP w h->(K w.params).In h)
  (htab:∀ p∈Ps,∃ (y:bj) (dy:DefRec),(recsOf q).find? (λe=>e.name == y)=some dy/\∀ w:bO,R5 (K w.params) y=some p) (hnt:∀ w:bO,noTabs (K w.params)=true)
  (F:∀ (w:bO) (mg:bj->Option ai) (fa:af) (h:cf),(K w.params).In h->h.Ns bU mg->mg d.name=some (.ref fa) ->
   ∃ fd:eK,(∀ (s:ao) (u:ai),Hw s fd ⟨[u],[]⟩ [(x,u)]) /\
    ∀ base:cf,(K w.params).In base->base.Ns bU mg->(∀ p∈Ps,ik base p.1 p.2/\base.BuiltinsAt mg p.2)->k9 l.prog w (K w.params) mg base Iu k fa fd [x] (sp w))
  (hsp:∀ (w:bO) (H:Hp) (a:af) (ns:List Int),ns.length<=n->(∀ p∈Ps,H p.2=some (.tbl #[]))->c6 (K w.params) H a (ns.map V.int)->sp w [.ref a] H (λv _=>v=.bl true) λ_ _ _=>False)
  (hCX:∀ (H:Hp) (s:ao) (e:ai) (s':ao),Iu [] H s (λ_ _ _=>False) e s'->False) :
  RV q loose XP YP l.row.toRowW d [] (λf vs=>RW f vs):=by
 refine Att.Ir hn hdf λw s₀ s₁ mg mb fa o pm cd doc a vs ns G Y ho hd hcd hmg hobj hints hlen hg=>?_;have KX:=hY w _ Y;obtain ⟨fd,hb,hF⟩:=F w mg fa _ KX G.T.g hmg
 have hC:∀ p∈Ps,ik s₁.heap p.1 p.2/\s₁.heap.get? p.2=some (Kk #[]):=λp hp=>by
  obtain ⟨y,dy,h1,h2⟩:=htab p hp;exact PySem.W.tab_of G.T KX h1 (h2 w)
 have hgs:=G.T.g;obtain ⟨bm,ob,b1,b2,b3,b4,b5,b6⟩:=G.T.bmain
 have hbG:bm≠bU:=λq=>by
  obtain ⟨o,es,ep,e,hd,_⟩:=hgs;rw [q,e] at b3;cases b3;rw [hd] at b6;cases b6
 refine Ob KX G.T.g G.T.b G.T.builtins G.T.nolimit hg (λp hp=>(hC p hp).1) (λp hp=>(hC p hp).2) (λp hp=>⟨bm,ob,b1,b2,hbG,λq=>?_,b3,b4,b5,b6⟩) (hnt w) hobj hints (bu hlen hn2) hr hF hb (λH hT hS=>hsp w H a ns hlen hT hS) λH e s'=>hCX H s₁ e s';have:=(hC p hp).2;rw [← q,b3] at this;cases this;cases b4
end L2
namespace L2
def Qu (K:aa):List V->Hp->VK->Prop:=λxs H Q=>∃ (p:af) (ns:List Int),xs=[.ref p]/\c6 K H p (ns.map V.int)/\Q (.int ns.sum) H
def Fe {X:Cx}(hc:X.calm=true):mD X (.builtin "sum") (Qu X.K):=by
 intro pins s Z H xs us Q I r h;obtain ⟨p,ns,rfl,hq,q⟩:=h;obtain ⟨u,rfl,ru⟩:=vals1 r;cases ru;obtain ⟨its,rv,pl,hz⟩:=I.list hq;have hi:fz its ns:=intsAre_of rv;obtain ⟨ys,e⟩:=hi.allInts.items;have hn:=hi.numsOf
 have e':its=(Xy ys).toList:=by rw [← e]
 rw [e',nums_intItems] at hn
 have hl:s.heap.IsList p (Xy ys):=by rw [← e];exact pl.isList
 subst hn
 refine sum_intListG (I.ok.hd hc) hl λh' tk t' hk=>⟨.int _,H,I.kept hk,⟨t',?_⟩,q⟩
 rw [preSum_eq,b9 (by simp)]
end L2
namespace L2
open PySem PySem.Spec PyProof.Rows PySem.W
section
variable {X:Cx}{a:Expr}{ta:TE}
end
end L2
namespace L2
open PySem PySem.Spec PySem.Calls PyProof.Rows PySem.W
section
variable {X:Cx}{c Pt:af}{e:Expr}{tx:TA}{x y:bj}{j:Nat}{params:ma}{scope:jx}{p0 p1 p2 p3 p4 p5 lpos kpos pos:lg}{x1:Nat}
end
end L2
namespace Sw
section
variable {prog:a6}{w:bO}{A:bR}{E:ai->ao->Prop}{s:ao}
end
end Sw
namespace L2
open PySem PySem.Spec PyProof.Rows PySem.W
section
variable {X:Cx}{x:Expr}{t:TA}{p1 p2 q1 q2:lg}
end
end L2
namespace Sy
open PySem PySem.W PyProof.Rows
abbrev SM:=StateT dJ Uq
def nS:Bool->aU->Array aU->Nat->Nat->Nat->SM (Option Nat):=sortPriv% PySem.Builtin.gallop
abbrev TG:=Option (Option Nat)×Nat×Nat
def ZX (b:Nat->SM (Option Bool)) (g:Nat->Nat) (f:Bool->Bool) (m:Nat) (_:Nat) (z:TG):SM (ForInStep TG) :=
 if z.2.2>=m then pure (.done (none,z.2)) else do
  match ← b (g z.2.2) with
  | some c=>if f c=true then pure (.done (none,z.2)) else pure (.yield (none,z.2.2,2*z.2.2+1))
  | _=>pure (.done (some none,z.2))
def YB (b:Nat->SM (Option Bool)) (_:Nat) (z:TG):SM (ForInStep TG) :=
 if z.2.1>=z.2.2 then pure (.done (none,z.2)) else do
  match ← b (z.2.1+(z.2.2-z.2.1)/2) with
  | some c=>if c=true then pure (.yield (none,z.2.1+(z.2.2-z.2.1)/2+1,z.2.2)) else pure (.yield (none,z.2.1,z.2.1+(z.2.2-z.2.1)/2))
  | _=>pure (.done (some none,z.2))
def WL (b:Nat->SM (Option Bool)) (n lo hi:Nat):SM (Option Nat):=do
 let z ← forIn [0:n] ((none,lo,hi):TG) (YB b)
 (match z.1 with
 | some r=>pure r
 | none=>pure (some z.2.2))
def gal (b:Nat->SM (Option Bool)) (n h:Nat):SM (Option Nat):=do
 match ← b h with
 | some c=>(if c=true then (do
   let z ← forIn [0:n] ((none,0,1):TG) (ZX b (λo=>h+o) (λc=>!c) (n-h))
   (match z.1 with
   | some r=>pure r
   | none=>WL b n (h+z.2.1+1) (h+min z.2.2 (n-h))))
  else (do
   let z ← forIn [0:n] ((none,0,1):TG) (ZX b (λo=>h-o) (λc=>c) (h+1))
   (match z.1 with
   | some r=>pure r
   | none=>WL b n (h+1-min z.2.2 (h+1)) (h-z.2.1))))
 | _=>pure none
def bey (left:Bool) (key:aU) (arr:Array aU) (base i:Nat):SM (Option Bool):=do
 let x ← mf arr (base+i)
 if left then lt' x key else return (← lt' key x).map (!·)
theorem Oc (left:Bool) (key:aU) (arr:Array aU) (base n hint:Nat):nS left key arr base n hint=gal (bey left key arr base) n hint:=by kernel_rfl
section
variable {M:Model}{A:bR}{E:ai->ao->Prop}{s:ao}{st:dJ}{n m h:Nat}{P:Nat->Bool}{b:Nat->SM (Option Bool)}{Q:Option Nat->dJ->Prop}
theorem YC {g:Nat->Nat}{f:Bool->Bool}{Q:TG->dJ->Prop}(hb:∀ o (Q:Option Bool->dJ->Prop),o<m->Q (some (P (g o))) st->vA M A E s (b (g o)) Q st) (hm:m<=n) (h0:0<m)
  (h:∀ l o,l<o->l<m->(l=0\/f (P (g l))=false)->(o<m->f (P (g o))=true)->Q (none,l,o) st):vA M A E s (forIn [0:n] ((none,0,1):TG) (ZX b g f m)) Q st:=by
 refine fR (I:=λx z st'=>st'=st/\z.1=none/\z.2.1<z.2.2/\z.2.1<m/\(z.2.1=0\/f (P (g z.2.1))=false)/\x<z.2.2) ?_ ?_ ⟨rfl,rfl,by decide,h0,.inl rfl,by decide⟩
 ·rintro x ⟨z,l,o⟩ st' _ hx ⟨rfl,rfl,h1,h2,h3,h4⟩;unfold ZX;dsimp only at h1 h2 h3 h4 ⊢
  by_cases c:o>=m
  ·rw [if_pos c];exact bh (h l o h1 h2 h3 λq=>absurd q (by lia))
  ·rw [if_neg c];refine aS (hb o _ (by lia) ?_);dsimp only
   by_cases d:f (P (g o))=true
   ·rw [if_pos d];exact bh (h l o h1 h2 h3 λ_=>d)
   ·rw [if_neg d];exact bh ⟨rfl,rfl,by dsimp only;lia,by dsimp only;lia,.inr (by simpa using d),by dsimp only;lia⟩
 ·rintro ⟨z,l,o⟩ st' ⟨rfl,rfl,h1,h2,h3,h4⟩;exact h l o h1 h2 h3 λq=>absurd q (by dsimp only at h4;lia)
theorem UQ {lo hi:Nat}(hb:∀ i (Q:Option Bool->dJ->Prop),i<n->Q (some (P i)) st->vA M A E s (b i) Q st) (hP:∀ i j,i<=j->j<n->P j=true->P i=true)
  (h:∀ k,k<=n->(∀ i,i<k->P i=true)->(∀ i,k<=i->i<n->P i=false)->Q (some k) st) (h1:lo<=hi) (h2:hi<=n) (h3:lo=0\/P (lo-1)=true) (h4:hi<n->P hi=false):vA M A E s (WL b n lo hi) Q st:=by
 have fin:∀ l r,l<=r->r<=n->(l=0\/P (l-1)=true)->(r<n->P r=false)->r<=l->Q (some r) st:=λl r a1 a2 a3 a4 a5=>h r a2 (λi hi=>a3.elim (λz=>by lia) λz=>hP i _ (by lia) (by lia) z) λi z1 z2=>by
  cases q:P i with
  | false=>rfl
  | true=>have:=hP r i z1 z2 q;rw [a4 (by lia)] at this;cases this
 refine aS (fR (I:=λx z st'=>st'=st/\z.1=none/\z.2.1<=z.2.2/\z.2.2<=n/\(z.2.1=0\/P (z.2.1-1)=true)/\(z.2.2<n->P z.2.2=false)/\z.2.2+x<=z.2.1+n) ?_ ?_ ⟨rfl,rfl,h1,h2,h3,h4,by dsimp only;lia⟩)
 ·rintro x ⟨z,l,r⟩ st' _ hx ⟨rfl,rfl,a1,a2,a3,a4,a5⟩;unfold YB;dsimp only at a1 a2 a3 a4 a5 ⊢
  by_cases c:l>=r
  ·rw [if_pos c];exact bh (bh (fin l r a1 a2 a3 a4 c))
  ·rw [if_neg c];refine aS (hb _ _ (by lia) ?_)
   cases d:P (l+(r-l)/2) with
   | true=>exact bh ⟨rfl,rfl,by dsimp only;lia,a2,.inr d,a4,by dsimp only;lia⟩
   | false=>exact bh ⟨rfl,rfl,by dsimp only;lia,by dsimp only;lia,a3,λ_=>d,by dsimp only;lia⟩
 ·rintro ⟨z,l,r⟩ st' ⟨rfl,rfl,a1,a2,a3,a4,a5⟩;exact bh (fin l r a1 a2 a3 a4 (by dsimp only at a1 a5;lia))
theorem YD (hb:∀ i (Q:Option Bool->dJ->Prop),i<n->Q (some (P i)) st->vA M A E s (b i) Q st) (hP:∀ i j,i<=j->j<n->P j=true->P i=true) (hh:h<n)
  (hq:∀ k,k<=n->(∀ i,i<k->P i=true)->(∀ i,k<=i->i<n->P i=false)->Q (some k) st):vA M A E s (gal b n h) Q st:=by
 refine aS (hb h _ hh ?_);dsimp only
 by_cases c:P h=true
 ·rw [if_pos c];refine aS (YC (P:=P) (λo Q ho q=>hb _ Q (by lia) q) (by lia) (by lia) λl o h1 h2 h3 h4=>UQ hb hP hq (by dsimp only;lia) (by dsimp only;lia) (.inr ?_) λz=>?_)
  ·rcases h3 with rfl|h3
   ·exact c
   ·show P (h+l)=true;simpa using h3
  ·have e:min o (n-h)=o:=by dsimp only at z;lia
   dsimp only at z ⊢;rw [e] at z ⊢;simpa using h4 (by lia)
 ·rw [if_neg c];refine aS (YC (P:=P) (λo Q ho q=>hb _ Q (by lia) q) (by lia) (by lia) λl o h1 h2 h3 h4=>UQ hb hP hq (by dsimp only;lia) (by dsimp only;lia) ?_ λz=>?_)
  ·dsimp only
   by_cases q:o<h+1
   ·refine .inr ?_
    have e:h+1-min o (h+1)-1=h-o:=by lia
    rw [e];exact h4 q
   ·exact .inl (by lia)
  ·rcases h3 with rfl|h3
   ·simpa using c
   ·exact h3
end
end Sy
namespace Sy
open PySem PySem.W PyProof.Rows
structure G (r:aU->Int) (all out u v:List aU):Prop where
 pm:(out++(u++v)).Perm all
 so:out.Pairwise λx y=>r x<=r y
 su:u.Pairwise λx y=>r x<=r y
 sv:v.Pairwise λx y=>r x<=r y
 le:∀ x∈out,∀ y∈u++v,r x<=r y
section
variable {r:aU->Int}{all out u v c:List aU}{x:aU}
theorem G.swap (g:G r all out u v):G r all out v u :=
 ⟨(lA _ fU).trans g.pm,g.so,g.sv,g.su,λx hx y hy=>g.le x hx y (by simpa [or_comm] using hy)⟩
theorem G.take (g:G r all out (c++u) v) (h:∀ x∈c,∀ y∈v,r x<=r y):G r all (out++c) u v:=by
 obtain ⟨s1,s2,s3⟩:=gC.mp g.su;refine ⟨by simpa using g.pm,gC.mpr ⟨g.so,s1,λx hx y hy=>g.le x hx y (by simp [hy])⟩,s2,g.sv,λx hx y hy=>?_⟩
 rcases aN.mp hx with hx|hx
 ·exact g.le x hx y (by rcases aN.mp hy with z|z<;>simp [z])
 ·rcases aN.mp hy with z|z
  ·exact s3 x hx y z
  ·exact h x hx y z
theorem G.done (g:G r all out u []):G r all (out++u) [] []:=G.take (u:=[]) (by simpa using g) λ_ _ _ z=>nomatch z
theorem G.len (g:G r all out u v):out.length+u.length+v.length=all.length:=by
 have:=g.pm.length_eq;simp at this;lia
end
abbrev S1 (α β γ:Type):=Option (Array aU)×α×β×γ×Nat×Nat
abbrev S2 (α β γ:Type):=Option (Array aU)×α×β×γ×Nat×Nat×Nat
abbrev S0 (α β γ:Type):=Option (Array aU)×α×β×γ×Nat
abbrev T1:=S1 (Array aU) Nat Nat
abbrev T2:=S2 (Array aU) Nat Nat
def Qv (g:Nat):SM Unit:=modify λs=>a8 (kindOf s) (mR s) (cN s) g (iV s)
def rnd {α β γ:Type} (N:Nat) (B:Nat->Nat->S1 α β γ->SM (ForInStep (S1 α β γ))) (g:Nat->S2 α β γ->SM (ForInStep (S2 α β γ))) (_:Nat) (z:S0 α β γ):SM (ForInStep (S0 α β γ)):=do
 let y ← forIn [0:N] ((none,z.2.1,z.2.2.1,z.2.2.2.1,0,0):S1 α β γ) (B z.2.2.2.2)
 (match y.1 with
 | some r=>pure (.done (some r,y.2.1,y.2.2.1,y.2.2.2.1,z.2.2.2.2))
 | none=>do
  liftM (EJ "list.sort.gallop")
  let x ← forIn [0:N] ((none,y.2.1,y.2.2.1,y.2.2.2.1,z.2.2.2.2+1,y.2.2.2.2):S2 α β γ) g
  (match x.1 with
  | some r=>pure (.done (some r,x.2.1,x.2.2.1,x.2.2.2.1,x.2.2.2.2.1))
  | none=>do
   Qv (x.2.2.2.2.1+1)
   pure (.yield (none,x.2.1,x.2.2.1,x.2.2.2.1,x.2.2.2.2.1+1))))
def mrg {α β γ:Type} (N:Nat) (B:Nat->Nat->S1 α β γ->SM (ForInStep (S1 α β γ))) (g:Nat->S2 α β γ->SM (ForInStep (S2 α β γ))) (x:α) (y:β) (z:γ):SM (Array aU):=do
 let t ← get
 let q ← forIn [0:N] ((none,x,y,z,gallopOf t):S0 α β γ) (rnd N B g)
 (match q.1 with
 | some r=>pure r
 | none=>liftM (unsupported "internal:list.sort.merge-bound"))
def Bx:Array aU->Array aU->SM (Array aU):=sortPriv% PySem.Builtin.mergeLo
section
variable (a b:Array aU)
def dn (o:Array aU) (i j:Nat):Array aU:=o++a.extract i a.size++b.extract j b.size
def lst (o:Array aU) (i j:Nat):Array aU:=o++b.extract j b.size++a.extract i a.size
def loB (mg:Nat) (_:Nat) (z:T1):SM (ForInStep T1):=do
 match ← lt' (← mf b z.2.2.2.1) (← mf a z.2.2.1) with
 | some c=>(if c=true then (do
   let o:=z.2.1.push (← mf b z.2.2.2.1)
   if (z.2.2.2.1+1 == b.size)=true then pure (.done (some (dn a b o z.2.2.1 (z.2.2.2.1+1)),o,z.2.2.1,z.2.2.2.1+1,0,z.2.2.2.2.2+1))
   else if z.2.2.2.2.2+1>=mg then pure (.done (none,o,z.2.2.1,z.2.2.2.1+1,0,z.2.2.2.2.2+1)) else pure (.yield (none,o,z.2.2.1,z.2.2.2.1+1,0,z.2.2.2.2.2+1)))
  else (do
   let o:=z.2.1.push (← mf a z.2.2.1)
   if (z.2.2.1+1+1 == a.size)=true then pure (.done (some (lst a b o (z.2.2.1+1) z.2.2.2.1),o,z.2.2.1+1,z.2.2.2.1,z.2.2.2.2.1+1,0))
   else if z.2.2.2.2.1+1>=mg then pure (.done (none,o,z.2.2.1+1,z.2.2.2.1,z.2.2.2.2.1+1,0)) else pure (.yield (none,o,z.2.2.1+1,z.2.2.2.1,z.2.2.2.2.1+1,0))))
 | _=>pure (.done (some (dn a b z.2.1 z.2.2.1 z.2.2.2.1),z.2))
def Tu (o:Array aU) (i j mg k m:Nat):SM (ForInStep T2):=do
 let o:=o.push (← mf a i)
 if (i+1+1 == a.size)=true then pure (.done (some (lst a b o (i+1) j),o,i+1,j,mg,k,m))
 else if (decide (k<7) && decide (m<7))=true then pure (.done (none,o,i+1,j,mg,k,m)) else pure (.yield (none,o,i+1,j,mg,k,m))
def Tv (o:Array aU) (i j mg k q:Nat):SM (ForInStep T2):=do
 let o:=o.push (← mf b j)
 if (j+1 == b.size)=true then pure (.done (some (dn a b o i (j+1)),o,i,j+1,mg,k,q))
 else (do
  match ← nS true (← mf a i) b (j+1) (b.size-(j+1)) 0 with
  | some m=>if m>0 then (if (j+1+m == b.size)=true then pure (.done (some (dn a b (o++b.extract (j+1) (j+1+m)) i (j+1+m)),o++b.extract (j+1) (j+1+m),i,j+1+m,mg,k,m)) else Tu a b (o++b.extract (j+1) (j+1+m)) i (j+1+m) mg k m) else Tu a b o i (j+1) mg k m
  | _=>pure (.done (some (dn a b o i (j+1)),o,i,j+1,mg,k,q)))
def Qw (z:T2) (mg:Nat):SM (ForInStep T2):=do
 Qv mg
 match ← nS false (← mf b z.2.2.2.1) a z.2.2.1 (a.size-z.2.2.1) 0 with
 | some k=>if k>0 then (if (z.2.2.1+k+1 == a.size)=true then pure (.done (some (lst a b (z.2.1++a.extract z.2.2.1 (z.2.2.1+k)) (z.2.2.1+k) z.2.2.2.1),z.2.1++a.extract z.2.2.1 (z.2.2.1+k),z.2.2.1+k,z.2.2.2.1,mg,k,z.2.2.2.2.2.2))
   else if (z.2.2.1+k == a.size)=true then pure (.done (some (dn a b (z.2.1++a.extract z.2.2.1 (z.2.2.1+k)) (z.2.2.1+k) z.2.2.2.1),z.2.1++a.extract z.2.2.1 (z.2.2.1+k),z.2.2.1+k,z.2.2.2.1,mg,k,z.2.2.2.2.2.2))
   else Tv a b (z.2.1++a.extract z.2.2.1 (z.2.2.1+k)) (z.2.2.1+k) z.2.2.2.1 mg k z.2.2.2.2.2.2) else Tv a b z.2.1 z.2.2.1 z.2.2.2.1 mg k z.2.2.2.2.2.2
 | _=>pure (.done (some (dn a b z.2.1 z.2.2.1 z.2.2.2.1),z.2.1,z.2.2.1,z.2.2.2.1,mg,z.2.2.2.2.2))
def loG (_:Nat) (z:T2):SM (ForInStep T2):=if z.2.2.2.2.1>1 then Qw a b z (z.2.2.2.2.1-1) else Qw a b z z.2.2.2.2.1
theorem YE:Bx a b=(do
  liftM (EJ "list.sort.merge-lo")
  let x ← mf b 0
  if (1 == b.size)=true then pure (dn a b #[x] 0 1) else if (0+1 == a.size)=true then pure (lst a b #[x] 0 1)
  else mrg (a.size+b.size) (loB a b) (loG a b) #[x] 0 1):=by kernel_rfl
end
end Sy
namespace Sy
open PySem PySem.W PyProof.Rows
def St (r:aU->Int) (a:Array aU) (i j:Nat):Prop:=∀ t u x y,i<=t->t<=u->u<j->a[t]?=some x->a[u]?=some y->r x<=r y
def Bv (r:aU->Int) (left:Bool) (key x:aU):Bool:=if left=true then decide (r x<r key) else !decide (r key<r x)
def Gh (prog:a6) (w:bO) (A:bR) (s:ao) (κ:jh) (D:aU->Prop) (r:aU->Int):Prop :=
 ∀ x y,D x->D y->∀ Q:Bool->ao->Prop,Q (decide (r x<r y)) s->aG (aM prog w) A (keyLt' κ x.1 y.1) Q (λ_ _=>False) s
section
variable {prog:a6}{w:bO}{A:bR}{E:ai->ao->Prop}{s:ao}{κ:jh} {D:aU->Prop}{r:aU->Int}{st:dJ}{a b:Array aU}{x y key:aU}{i j n hint:Nat}{left:Bool}
theorem w_lt (hc:Gh prog w A s κ D r) (hk:kindOf st=κ) (hx:D x) (hy:D y) {Q:Option Bool->dJ->Prop}(h:Q (some (decide (r x<r y))) st):vA (aM prog w) A E s (lt' x y) Q st:=by
 rw [lt'_eq];refine aS (qe ?_);rw [hk];exact aS (HM (ip (dO (hc x y hx hy (λc s'=>s'=s/\c=decide (r x<r y)) ⟨rfl,rfl⟩) (λc s' q=>⟨q.1,by rw [q.2];exact bh h⟩) λ_ _ q=>q.elim)))
theorem m7 {Q:aU->dJ->Prop}(e:a[i]?=some x) (h:Q x st):vA (aM prog w) A E s (mf a i) Q st:=by rw [elem'_eq,e];exact bh h
theorem oO {Q:Option Nat->dJ->Prop}(hc:Gh prog w A s κ D r) (hk:kindOf st=κ) (hD:∀ (t:Nat) x,a[t]?=some x->D x) (hy:D key) (hz:i+n<=a.size) (hs:St r a i (i+n)) (hh:hint<n)
  (h:∀ k,k<=n->(∀ t x,i<=t->t<i+k->a[t]?=some x->Bv r left key x=true)->(∀ t x,i+k<=t->t<i+n->a[t]?=some x->Bv r left key x=false)->Q (some k) st):vA (aM prog w) A E s (nS left key a i n hint) Q st:=by
 rw [Oc]
 have get:∀ t,t<n->∃ x,a[i+t]?=some x:=λt ht=>⟨a[i+t],by simp⟩
 refine YD (P:=λt=>((a[i+t]?).map (Bv r left key)).getD false) (λt Q ht q=>?_) (λt u h1 h2 h3=>?_) hh λk h1 h2 h3=>h k h1 (λt x z1 z2 e=>?_) λt x z1 z2 e=>?_
 ·obtain ⟨x,e⟩:=get t ht
  have q:Q (some (Bv r left key x)) st:=by simpa [e] using q
  refine aS (m7 e ?_)
  cases left with
  | true=>exact w_lt hc hk (hD _ x e) hy q
  | false=>exact aS (w_lt hc hk hy (hD _ x e) (bh q))
 ·obtain ⟨x,e⟩:=get t (by lia);obtain ⟨y,f⟩:=get u h2;have le:=hs _ _ x y (by lia) (show i+t<=i+u by lia) (by lia) e f;simp only [e,f,Do,Option.getD_some] at h3 ⊢
  cases left with
  | true=>exact decide_eq_true (Int.lt_of_le_of_lt le (of_decide_eq_true h3))
  | false =>
   have h3:(!decide (r key<r y))=true:=h3
   show (!decide (r key<r x))=true
   simp only [Bool.not_eq_true',decide_eq_false_iff_not] at h3 ⊢;lia
 ·have:=h2 (t-i) (by lia);rw [show i+(t-i)=t by lia] at this
  simpa [e] using this
 ·have:=h3 (t-i) (by lia) (by lia);rw [show i+(t-i)=t by lia] at this
  simpa [e] using this
end
section
variable {a:Array aU}{x:aU}{i j k:Nat}
theorem MS (a:Array aU) (i k:Nat):a.toList.drop i=(a.extract i (i+k)).toList++a.toList.drop (i+k):=by
 have:=(eL k (a.toList.drop i)).symm
 simpa [XW] using this
theorem K8 (h:x∈a.toList.drop i):∃ t,i<=t/\t<a.size/\a[t]?=some x:=by
 obtain ⟨t,ht,e⟩:=O6.mp h;simp at ht;exact ⟨i+t,by lia,by lia,by rw [List.getElem_drop] at e;rw [← e];simp⟩
theorem xY (h:x∈(a.extract i j).toList):∃ t,i<=t/\t<j/\t<a.size/\a[t]?=some x:=by
 obtain ⟨t,ht,e⟩:=O6.mp h;simp at ht;exact ⟨i+t,by lia,by lia,by lia,by rw [Array.getElem_toList,Array.getElem_extract] at e;rw [← e];simp⟩
theorem xX (h:a.size<=i):a.toList.drop i=[]:=List.drop_eq_nil_of_le (by simpa using h)
theorem qZ (a:Array aU) (i:Nat):(a.extract i a.size).toList=a.toList.drop i:=by simpa using b9 (by simp)
end
end Sy
namespace Sy
open PySem PySem.W PyProof.Rows
section
variable {prog:a6}{w:bO}{A:bR}{E:ai->ao->Prop}{s:ao}{κ:jh} {D:aU->Prop}{r:aU->Int}{a b:Array aU}{xs o:Array aU}{pd:Array (Nat×Nat×Nat)}{i j k g mg N:Nat}{all:List aU}
def F (r:aU->Int) (all:List aU) (o:Array aU):Prop:=G r all o.toList [] []
def J (r:aU->Int) (all:List aU) (a b o:Array aU) (i j:Nat):Prop:=G r all o.toList (a.toList.drop i) (b.toList.drop j)
def Ke (r:aU->Int) (all:List aU) (a b:Array aU) (k:Nat) (z:Option (Array aU)) (o:Array aU) (i j:Nat):Prop :=
 (∀ q,z=some q->F r all q)/\(z=none->J r all a b o i j/\i+1<a.size/\j<b.size/\k<=o.size)
structure Hr (r:aU->Int) (D:aU->Prop) (a b:Array aU):Prop where
 da:∀ (t:Nat) x,a[t]?=some x->D x
 db:∀ (t:Nat) x,b[t]?=some x->D x
 sa:St r a 0 a.size
 sb:St r b 0 b.size
 la:∀ (t u:Nat) x y,t+1=a.size->a[t]?=some x->b[u]?=some y->r y<=r x
theorem J.len (g:J r all a b o i j) (hi:i<=a.size) (hj:j<=b.size) (hl:all.length=a.size+b.size):o.size=i+j:=by
 have:=G.len g;simp at this;lia
theorem J.fb (g:J r all a b o i j) (h:j=b.size):F r all (dn a b o i j):=by
 unfold J at g;rw [xX (a:=b) (kj h.symm)] at g;have:=g.done;unfold F dn;rw [gO,gO,qZ,qZ,xX (a:=b) (kj h.symm),tP];exact this
theorem J.fa (g:J r all a b o i j) (h:i=a.size):F r all (dn a b o i j):=by
 unfold J at g;rw [xX (a:=a) (kj h.symm)] at g;have:=g.swap.done;unfold F dn;rw [gO,gO,qZ,qZ,xX (a:=a) (kj h.symm),tP];exact this
theorem J.fl (g:J r all a b o i j) (T:Hr r D a b) (h:i+1=a.size):F r all (lst a b o i j):=by
 have g2:G r all (o.toList++b.toList.drop j) [] (a.toList.drop i):=G.take (by simpa using G.swap g) λy hy x hx=>by
  obtain ⟨t,h1,h2,e⟩:=K8 hx;obtain ⟨u,_,_,f⟩:=K8 hy;exact T.la t u x y (by lia) e f
 have:=g2.swap.done;unfold F lst;rw [gO,gO,qZ,qZ];exact this
theorem J.ta (g:J r all a b o i j) (h:∀ t x u y,i<=t->t<i+k->a[t]?=some x->j<=u->b[u]?=some y->r x<=r y):J r all a b (o++a.extract i (i+k)) (i+k) j:=by
 unfold J at g ⊢;rw [MS a i k] at g;rw [gO]
 exact g.take λx hx y hy=>by
  obtain ⟨t,h1,h2,_,e⟩:=xY hx;obtain ⟨u,h3,_,f⟩:=K8 hy;exact h t x u y h1 h2 e h3 f
theorem J.tb (g:J r all a b o i j) (h:∀ t x u y,j<=t->t<j+k->b[t]?=some x->i<=u->a[u]?=some y->r x<=r y):J r all a b (o++b.extract j (j+k)) i (j+k) :=
 G.swap (J.ta (a:=b) (b:=a) (G.swap g) h)
theorem Qx {x:aU}(e:a[i]?=some x):o.push x=o++a.extract i (i+1):=by
 obtain ⟨h,rfl⟩:=cE.mp e
 apply j5.mp
 have:=fS (l:=a.toList) (i:=i) (by simpa using h);simp [this]
theorem J.pa {x:aU}(g:J r all a b o i j) (T:Hr r D a b) (e:a[i]?=some x) (h:∀ u y,j<=u->b[u]?=some y->r x<=r y):J r all a b (o.push x) (i+1) j:=by
 rw [Qx e]
 exact J.ta g λt z u y h1 h2 f h3 h4=>by
  have:t=i:=by lia
  subst this;rw [e] at f;cases f;exact h u y h3 h4
theorem J.pb {x:aU}(g:J r all a b o i j) (T:Hr r D a b) (e:b[j]?=some x) (h:∀ u y,i<=u->a[u]?=some y->r x<=r y):J r all a b (o.push x) i (j+1):=by
 rw [Qx e]
 exact J.tb g λt z u y h1 h2 f h3 h4=>by
  have:t=j:=by lia
  subst this;rw [e] at f;cases f;exact h u y h3 h4
end
end Sy
namespace Sy
open PySem PySem.W PyProof.Rows
section
variable {prog:a6}{w:bO}{A:bR}{E:ai->ao->Prop}{s:ao}{κ:jh} {D:aU->Prop}{r:aU->Int}{st:dJ}{a b:Array aU}{xs o:Array aU}{pd:Array (Nat×Nat×Nat)}{i j k m q g mg N:Nat}{all:List aU}
def Sm (κ:jh) (xs:Array aU) (pd:Array (Nat×Nat×Nat)) (st:dJ):Prop:=∃ g,st=a8 κ xs pd g none
theorem gm {a:Array aU}{i:Nat}(h:i<a.size):∃ x,a[i]?=some x:=⟨a[i],by simp [h]⟩
theorem rg {a:Array aU}{i:Nat}{x:aU}(h:a[i]?=some x):i<a.size:=(cE.mp h).1
theorem Ke.told {q:Array aU}(h:F r all q):Ke r all a b k (some q) o i j:=⟨λ_ e=>by cases e;exact h,(λe=>nomatch e)⟩
theorem Ke.on (h1:J r all a b o i j) (h2:i+1<a.size) (h3:j<b.size) (h4:k<=o.size):Ke r all a b k none o i j:=⟨(λ_ e=>nomatch e),λ_=>⟨h1,h2,h3,h4⟩⟩
theorem YF (hc:Gh prog w A s κ D r) (hk:kindOf st=κ) (T:Hr r D a b) {Q:T1->dJ->Prop}(h1:J r all a b o i j) (h2:i+1<a.size) (h3:j<b.size)
  (h:∀ z,Ke r all a b o.size z.1 z.2.1 z.2.2.1 z.2.2.2.1->Q z st):vA (aM prog w) A E s (forIn [0:N] ((none,o,i,j,0,0):T1) (loB a b mg)) Q st:=by
 refine fR (I:=λx z st'=>st'=st/\z.1=none/\J r all a b z.2.1 z.2.2.1 z.2.2.2.1/\z.2.2.1+1<a.size/\z.2.2.2.1<b.size/\o.size<=z.2.1.size) ?_ ?_ ⟨rfl,rfl,h1,h2,h3,av _⟩
 ·rintro x ⟨z,o',i',j',ac,bc⟩ st' _ hx ⟨rfl,rfl,g,g2,g3,g4⟩;dsimp only at g g2 g3 g4;obtain ⟨u,eu⟩:=gm (a:=a) (i:=i') (by lia);obtain ⟨v,ev⟩:=gm g3;unfold loB;refine aS (m7 ev (aS (m7 eu (aS (w_lt hc hk (T.db _ _ ev) (T.da _ _ eu) ?_)))));dsimp only
  have sz:∀ x:aU,o.size<=(o'.push x).size:=λx=>by rw [iB];lia
  by_cases c:r v<r u
  ·rw [decide_eq_true c,if_pos rfl];have g5:=g.pb T ev λt y h1 e=>c8 (gp c) (T.sa _ _ _ _ (aK _) h1 (rg e) eu e);refine aS (m7 ev ?_)
   by_cases e:j'+1=b.size
   ·rw [if_pos (by simpa using e)];exact bh (h _ (Ke.told (g5.fb e)))
   ·rw [if_neg (by simpa using e)]
    by_cases f:bc+1>=mg
    ·rw [if_pos f];exact bh (h _ (Ke.on g5 g2 (by dsimp only;lia) (sz _)))
    ·rw [if_neg f];exact bh ⟨rfl,rfl,g5,g2,by dsimp only;lia,sz _⟩
  ·rw [decide_eq_false c,if_neg (by simp)];have g5:=g.pa T eu λt y h1 e=>c8 (pH.mp c) (T.sb _ _ _ _ (aK _) h1 (rg e) ev e);refine aS (m7 eu ?_)
   by_cases e:i'+1+1=a.size
   ·rw [if_pos (by simpa using e)];exact bh (h _ (Ke.told (g5.fl T e)))
   ·rw [if_neg (by simpa using e)]
    by_cases f:ac+1>=mg
    ·rw [if_pos f];exact bh (h _ (Ke.on g5 (by dsimp only;lia) g3 (sz _)))
    ·rw [if_neg f];exact bh ⟨rfl,rfl,g5,by dsimp only;lia,g3,sz _⟩
 ·rintro ⟨z,o',i',j',ac,bc⟩ st' ⟨rfl,rfl,g,g2,g3,g4⟩;exact h _ (Ke.on g g2 g3 g4)
def Nx (κ:jh) (xs:Array aU) (pd:Array (Nat×Nat×Nat)) (r:aU->Int) (all:List aU) (a b:Array aU) (k:Nat) (x:ForInStep T2) (st':dJ):Prop :=
 Sm κ xs pd st'/\match x with
  | .done z=>Ke r all a b k z.1 z.2.1 z.2.2.1 z.2.2.2.1
  | .yield z=>z.1=none/\J r all a b z.2.1 z.2.2.1 z.2.2.2.1/\z.2.2.1+1<a.size/\z.2.2.2.1<b.size/\k<=z.2.1.size
theorem UR (T:Hr r D a b) (h0:Sm κ xs pd st) (h1:J r all a b o i j) (h2:i+1<a.size) (h3:j<b.size) (h4:k<=o.size+1)
  (h:∀ x,a[i]?=some x->∀ u y,j<=u->b[u]?=some y->r x<=r y):vA (aM prog w) A E s (Tu a b o i j mg m q) (Nx κ xs pd r all a b k) st:=by
 obtain ⟨x,e⟩:=gm (a:=a) (i:=i) (by lia);unfold Tu;have g:=h1.pa T e (h x e)
 have sz:k<=(o.push x).size:=by rw [iB];lia
 refine aS (m7 e ?_);dsimp only
 by_cases c:i+1+1=a.size
 ·rw [if_pos (by simpa using c)];exact bh ⟨h0,Ke.told (g.fl T c)⟩
 ·rw [if_neg (by simpa using c)]
  split
  ·exact bh ⟨h0,Ke.on g (by dsimp only;lia) h3 sz⟩
  ·exact bh ⟨h0,rfl,g,by dsimp only;lia,h3,sz⟩
theorem US (hc:Gh prog w A s κ D r) (T:Hr r D a b) (h0:Sm κ xs pd st) (h1:J r all a b o i j) (h2:i+1<a.size) (h3:j<b.size) (h4:k<=o.size+2)
  (h:∀ x,b[j]?=some x->∀ u y,i<=u->a[u]?=some y->r x<=r y):vA (aM prog w) A E s (Tv a b o i j mg m q) (Nx κ xs pd r all a b k) st:=by
 obtain ⟨x,e⟩:=gm h3;obtain ⟨y,f⟩:=gm (a:=a) (i:=i) (by lia);unfold Tv;have g:=h1.pb T e (h x e);refine aS (m7 e ?_);dsimp only
 by_cases c:j+1=b.size
 ·rw [if_pos (by simpa using c)];exact bh ⟨h0,Ke.told (g.fb c)⟩
 ·rw [if_neg (by simpa using c)]
  have hk:kindOf st=κ:=by obtain ⟨_,rfl⟩:=h0;rfl
  refine aS (m7 f (aS (oO hc hk T.db (T.da _ _ f) (by lia) (λt u x y z1 z2 z3=>T.sb t u x y (aK _) z2 (by lia)) (by lia) λn n1 n2 n3=>?_)));dsimp only;have ya:∀ u z,i<=u->a[u]?=some z->r y<=r z:=λu z h1 e=>T.sa _ _ _ _ (aK _) h1 (rg e) f e;have g2:=g.tb (k:=n) λt x u z z1 z2 e1 z3 e2=>c8 (gp (of_decide_eq_true (n2 t x z1 z2 e1))) (ya u z z3 e2)
  have hb:∀ x,a[i]?=some x->∀ u z,j+1+n<=u->b[u]?=some z->r x<=r z:=λx e1 u z h1 e2=>by
   rw [f] at e1;cases e1;exact pH.mp (of_decide_eq_false (n3 u z h1 (by have:=rg e2;lia) e2))
  have sz:k<=(o.push x).size+1:=by rw [iB];lia
  by_cases d:n>0
  ·rw [if_pos d]
   by_cases c2:j+1+n=b.size
   ·rw [if_pos (by simpa using c2)];exact bh ⟨h0,Ke.told (g2.fb c2)⟩
   ·rw [if_neg (by simpa using c2)];exact UR T h0 g2 h2 (by lia) (by rw [pM];lia) hb
  ·rw [if_neg d]
   have:n=0:=by lia
   subst this;exact UR T h0 g h2 (by lia) sz hb
theorem YG (hc:Gh prog w A s κ D r) (T:Hr r D a b) (h0:Sm κ xs pd st) {z:T2}(h1:J r all a b z.2.1 z.2.2.1 z.2.2.2.1) (h2:z.2.2.1+1<a.size) (h3:z.2.2.2.1<b.size) (h4:k<=z.2.1.size+1) :
  vA (aM prog w) A E s (Qw a b z mg) (Nx κ xs pd r all a b k) st:=by
 obtain ⟨z0,o,i,j,g0,ac,bc⟩:=z;dsimp only at h1 h2 h3 h4;obtain ⟨x,e⟩:=gm h3;unfold Qw Qv;dsimp only;refine aS (iE ?_)
 have h0':Sm κ xs pd (a8 (kindOf st) (mR st) (cN st) mg (iV st)):=by obtain ⟨g,rfl⟩:=h0;exact ⟨mg,rfl⟩
 have hk:kindOf (a8 (kindOf st) (mR st) (cN st) mg (iV st))=κ:=by obtain ⟨_,e⟩:=h0';rw [e]
 generalize a8 (kindOf st) (mR st) (cN st) mg (iV st)=st1 at h0' hk;refine aS (m7 e (aS (oO hc hk T.da (T.db _ _ e) (by lia) (λt u x y z1 z2 z3=>T.sa t u x y (aK _) z2 (by lia)) (by lia) λn n1 n2 n3=>?_)));dsimp only;have xb:∀ u z,j<=u->b[u]?=some z->r x<=r z:=λu z h1 e1=>T.sb _ _ _ _ (aK _) h1 (rg e1) e e1
 have nx:∀ t y,i<=t->t<i+n->a[t]?=some y->r y<=r x:=λt y h1 h2 e1=>by
  have:=n2 t y h1 h2 e1
  simpa [Bv] using this
 have g2:=h1.ta (k:=n) λt y u z z1 z2 e1 z3 e2=>c8 (nx t y z1 z2 e1) (xb u z z3 e2)
 have ha:∀ y,b[j]?=some y->∀ u z,i+n<=u->a[u]?=some z->r y<=r z:=λy e1 u z h1 e2=>by
  rw [e] at e1;cases e1;have:=n3 u z h1 (by have:=rg e2;lia) e2;exact gp (by simpa [Bv] using this)
 by_cases d:n>0
 ·rw [if_pos d]
  by_cases c1:i+n+1=a.size
  ·rw [if_pos (by simpa using c1)];exact bh ⟨h0',Ke.told (g2.fl T c1)⟩
  ·rw [if_neg (by simpa using c1)]
   by_cases c2:i+n=a.size
   ·rw [if_pos (by simpa using c2)];exact bh ⟨h0',Ke.told (g2.fa c2)⟩
   ·rw [if_neg (by simpa using c2)];exact US hc T h0' g2 (by lia) h3 (by rw [pM];lia) ha
 ·rw [if_neg d]
  have:n=0:=by lia
  subst this;exact US hc T h0' h1 h2 h3 (by lia) ha
theorem UT {α β γ:Type} {B:Nat->Nat->S1 α β γ->SM (ForInStep (S1 α β γ))}{G:Nat->S2 α β γ->SM (ForInStep (S2 α β γ))}{Fq:Array aU->Prop}{Jv:α->β->γ->Prop}{sz:α->β->γ->Nat}{Q:Array aU->dJ->Prop}{x:α}{y:β}{z:γ}
  (hB:∀ mg st x y z (Q:S1 α β γ->dJ->Prop),Sm κ xs pd st->Jv x y z->(∀ u,(∀ q,u.1=some q->Fq q)->(u.1=none->Jv u.2.1 u.2.2.1 u.2.2.2.1/\sz x y z<=sz u.2.1 u.2.2.1 u.2.2.2.1)->Q u st)->vA (aM prog w) A E s (forIn [0:N] ((none,x,y,z,0,0):S1 α β γ) (B mg)) Q st)
  (hG:∀ i st (u:S2 α β γ),Sm κ xs pd st->Jv u.2.1 u.2.2.1 u.2.2.2.1->vA (aM prog w) A E s (G i u) (λv st'=>Sm κ xs pd st'/\match v with
   | .done v=>(∀ q,v.1=some q->Fq q)/\(v.1=none->Jv v.2.1 v.2.2.1 v.2.2.2.1/\sz u.2.1 u.2.2.1 u.2.2.2.1+1<=sz v.2.1 v.2.2.1 v.2.2.2.1)
   | .yield v=>v.1=none/\Jv v.2.1 v.2.2.1 v.2.2.2.1/\sz u.2.1 u.2.2.1 u.2.2.2.1+1<=sz v.2.1 v.2.2.1 v.2.2.2.1) st)
  (hN:∀ x y z,Jv x y z->sz x y z<N) (h0:Sm κ xs pd st) (h1:Jv x y z) (h:∀ q st',Sm κ xs pd st'->Fq q->Q q st'):vA (aM prog w) A E s (mrg N B G x y z) Q st:=by
 refine aS (qe (aS (mS (fR (I:=λk z st'=>Sm κ xs pd st'/\z.1=none/\Jv z.2.1 z.2.2.1 z.2.2.2.1/\k<=sz z.2.1 z.2.2.1 z.2.2.2.1)
  (Q:=λz st'=>Sm κ xs pd st'/\∃ q,z.1=some q/\Fq q) ?_ ?_ ⟨h0,rfl,h1,aK _⟩) ?_)))
 ·rintro k u st' _ hk ⟨i0,i1,i2,i3⟩;refine aS (hB _ _ _ _ _ _ i0 i2 λv v1 v2=>?_);obtain ⟨v0,v⟩:=v
  cases v0 with
  | some q=>exact bh ⟨i0,q,rfl,v1 q rfl⟩
  | none =>
   obtain ⟨v3,v4⟩:=v2 rfl;refine aS (HM (jd ⟨rfl,?_⟩))
   refine aS (mS (fR (I:=λm z st'=>Sm κ xs pd st'/\z.1=none/\Jv z.2.1 z.2.2.1 z.2.2.2.1/\k+m<=sz z.2.1 z.2.2.1 z.2.2.2.1)
    (Q:=λz st'=>Sm κ xs pd st'/\(∀ q,z.1=some q->Fq q)/\(z.1=none->Jv z.2.1 z.2.2.1 z.2.2.2.1/\k+1<=sz z.2.1 z.2.2.1 z.2.2.2.1)) ?_ ?_ ⟨i0,rfl,v3,bu i3 v4⟩) ?_)
   ·rintro m u' st2 _ hm ⟨j0,j1,j2,j3⟩;refine mS (hG m st2 u' j0 j2) λv st3 q=>?_;obtain ⟨p,q⟩:=q
    cases v with
    | done v=>exact ⟨p,q.1,λe=>let ⟨a1,a2⟩:=q.2 e;⟨a1,by lia⟩⟩
    | yield v=>exact ⟨p,q.1,q.2.1,by have:=q.2.2;lia⟩
   ·rintro u' st2 ⟨j0,j1,j2,j3⟩;exact ⟨j0,⟨λq e=>(by rw [j1] at e;cases e),λ_=>⟨j2,by have:=hN _ _ _ j2;lia⟩⟩⟩
   ·rintro ⟨u0,u'⟩ st2 ⟨j0,j1,j2⟩
    cases u0 with
    | some q=>exact bh ⟨j0,q,rfl,j1 q rfl⟩
    | none =>
     have j3:=j2 rfl;exact aS (iE (bh ⟨by obtain ⟨g,rfl⟩:=j0;exact ⟨_,rfl⟩,rfl,j3.1,j3.2⟩))
 ·rintro u st' ⟨i0,i1,i2,i3⟩;have:=hN _ _ _ i2;lia
 ·rintro ⟨u0,u⟩ st' ⟨i0,q,e,hq⟩;cases e;exact bh (h q st' i0 hq)
theorem w_lo (hc:Gh prog w A s κ D r) (T:Hr r D a b) (h0:st=a8 κ xs pd g none) (ha:0<a.size) (hb:0<b.size) (hl:∀ x y,b[0]?=some x->a[0]?=some y->r x<=r y) {Q:Array aU->dJ->Prop}
  (h:∀ q st',Sm κ xs pd st'->F r (a.toList++b.toList) q->Q q st'):vA (aM prog w) A E s (Bx a b) Q st:=by
 rw [YE];refine aS (HM (jd ⟨rfl,?_⟩));obtain ⟨x,e⟩:=gm hb;obtain ⟨y,f⟩:=gm ha;refine aS (m7 e ?_);have pw:∀ c:Array aU,St r c 0 c.size->c.toList.Pairwise λx y=>r x<=r y:=λc h=>kr.mpr λi j hi hj hij=>h i j _ _ (aK _) (ki hij) (by simpa using hj) (by simp) (by simp)
 have g0:J r (a.toList++b.toList) a b #[] 0 0:=⟨by simp,mV,by simpa using pw a T.sa,by simpa using pw b T.sb,λ_ z=>nomatch z⟩
 have g:=g0.pb T e λu z h1 e1=>c8 (hl x y e f) (T.sa _ _ _ _ (aK _) h1 (rg e1) f e1);have g:J r (a.toList++b.toList) a b #[x] 0 1:=g
 by_cases c1:1=b.size
 ·rw [if_pos (by simpa using c1)];exact bh (h _ _ ⟨_,h0⟩ (g.fb c1))
 ·rw [if_neg (by simpa using c1)]
  by_cases c2:0+1=a.size
  ·rw [if_pos (by simpa using c2)];exact bh (h _ _ ⟨_,h0⟩ (g.fl T c2))
  ·rw [if_neg (by simpa using c2)]
   refine UT (Fq:=F r (a.toList++b.toList)) (Jv:=λo i j=>J r (a.toList++b.toList) a b o i j/\i+1<a.size/\j<b.size) (sz:=λo _ _=>o.size) (λmg st o i j Q w1 w2 w3=>YF hc (by obtain ⟨_,rfl⟩:=w1;rfl) T w2.1 w2.2.1 w2.2.2 λu q=>w3 u q.1 λe=>let ⟨a1,a2,a3,a4⟩:=q.2 e;⟨⟨a1,a2,a3⟩,a4⟩) (λk st u w1 w2=>?_) (λo i j q=>by
    have:=q.1.len (by lia) (by lia) (by simp)
    lia) ⟨_,h0⟩ ⟨g,by lia,by lia⟩ h
   have e:loG a b k u=Qw a b u (if u.2.2.2.2.1>1 then u.2.2.2.2.1-1 else u.2.2.2.2.1):=by unfold loG;split<;>rfl
   rw [e]
   refine mS (YG hc T w1 w2.1 w2.2.1 w2.2.2 (av _)) λv st2 q=>⟨q.1,?_⟩
   have q:=q.2
   cases v with
   | done v=>exact ⟨q.1,λe=>let ⟨a1,a2,a3,a4⟩:=q.2 e;⟨⟨a1,a2,a3⟩,a4⟩⟩
   | yield v=>exact ⟨q.1,⟨q.2.1,q.2.2.1,q.2.2.2.1⟩,q.2.2.2.2⟩
end
end Sy
namespace Sy
open PySem PySem.W PyProof.Rows
def By:Array aU->Array aU->SM (Array aU):=sortPriv% PySem.Builtin.mergeHi
abbrev U1:=S1 Nat Nat (Array aU)
abbrev U2:=S2 Nat Nat (Array aU)
section
variable (a b:Array aU)
def Qy (o:Array aU) (i j:Nat):Array aU:=a.extract 0 i++b.extract 0 j++o.reverse
def WM (o:Array aU) (i j:Nat):Array aU:=b.extract 0 j++a.extract 0 i++o.reverse
def hiB (mg:Nat) (_:Nat) (z:U1):SM (ForInStep U1):=do
 match ← lt' (← mf b (z.2.2.1-1)) (← mf a (z.2.1-1)) with
 | some c=>(if c=true then (do
   let o:=z.2.2.2.1.push (← mf a (z.2.1-1))
   if (z.2.1-1 == 0)=true then pure (.done (some (Qy a b o (z.2.1-1) z.2.2.1),z.2.1-1,z.2.2.1,o,z.2.2.2.2.1+1,0))
   else if z.2.2.2.2.1+1>=mg then pure (.done (none,z.2.1-1,z.2.2.1,o,z.2.2.2.2.1+1,0)) else pure (.yield (none,z.2.1-1,z.2.2.1,o,z.2.2.2.2.1+1,0)))
  else (do
   let o:=z.2.2.2.1.push (← mf b (z.2.2.1-1))
   if (z.2.2.1-1 == 1)=true then pure (.done (some (WM a b o z.2.1 (z.2.2.1-1)),z.2.1,z.2.2.1-1,o,0,z.2.2.2.2.2+1))
   else if z.2.2.2.2.2+1>=mg then pure (.done (none,z.2.1,z.2.2.1-1,o,0,z.2.2.2.2.2+1)) else pure (.yield (none,z.2.1,z.2.2.1-1,o,0,z.2.2.2.2.2+1))))
 | _=>pure (.done (some (Qy a b z.2.2.2.1 z.2.1 z.2.2.1),z.2))
def Tw (o:Array aU) (i j mg k m:Nat):SM (ForInStep U2):=do
 let o:=o.push (← mf a (i-1))
 if (i-1 == 0)=true then pure (.done (some (Qy a b o (i-1) j),i-1,j,o,mg,k,m))
 else if (decide (k<7) && decide (m<7))=true then pure (.done (none,i-1,j,o,mg,k,m)) else pure (.yield (none,i-1,j,o,mg,k,m))
def Tx (o:Array aU) (i j mg k q:Nat):SM (ForInStep U2):=do
 let o:=o.push (← mf b (j-1))
 if (j-1 == 1)=true then pure (.done (some (WM a b o i (j-1)),i,j-1,o,mg,k,q))
 else (do
  match ← nS true (← mf a (i-1)) b 0 (j-1) (j-1-1) with
  | some m=>if j-1-m>0 then (if (m == 1)=true then pure (.done (some (WM a b (o++(b.extract m (j-1)).reverse) i m),i,m,o++(b.extract m (j-1)).reverse,mg,k,j-1-m))
    else if (m == 0)=true then pure (.done (some (Qy a b (o++(b.extract m (j-1)).reverse) i m),i,m,o++(b.extract m (j-1)).reverse,mg,k,j-1-m))
    else Tw a b (o++(b.extract m (j-1)).reverse) i m mg k (j-1-m)) else Tw a b o i (j-1) mg k (j-1-m)
  | _=>pure (.done (some (Qy a b o i (j-1)),i,j-1,o,mg,k,q)))
def Qz (z:U2) (mg:Nat):SM (ForInStep U2):=do
 Qv mg
 match ← nS false (← mf b (z.2.2.1-1)) a 0 z.2.1 (z.2.1-1) with
 | some k=>if z.2.1-k>0 then (if (k == 0)=true then pure (.done (some (Qy a b (z.2.2.2.1++(a.extract k z.2.1).reverse) k z.2.2.1),k,z.2.2.1,z.2.2.2.1++(a.extract k z.2.1).reverse,mg,z.2.1-k,z.2.2.2.2.2.2))
   else Tx a b (z.2.2.2.1++(a.extract k z.2.1).reverse) k z.2.2.1 mg (z.2.1-k) z.2.2.2.2.2.2) else Tx a b z.2.2.2.1 z.2.1 z.2.2.1 mg (z.2.1-k) z.2.2.2.2.2.2
 | _=>pure (.done (some (Qy a b z.2.2.2.1 z.2.1 z.2.2.1),z.2.1,z.2.2.1,z.2.2.2.1,mg,z.2.2.2.2.2))
def hiG (_:Nat) (z:U2):SM (ForInStep U2):=if z.2.2.2.2.1>1 then Qz a b z (z.2.2.2.2.1-1) else Qz a b z z.2.2.2.2.1
theorem YH:By a b=(do
  liftM (EJ "list.sort.merge-hi")
  let x ← mf a (a.size-1)
  if (a.size-1 == 0)=true then pure (Qy a b #[x] (a.size-1) b.size) else if (b.size == 1)=true then pure (WM a b #[x] (a.size-1) b.size)
  else mrg (a.size+b.size) (hiB a b) (hiG a b) (a.size-1) b.size #[x]):=by kernel_rfl
end
end Sy
namespace Sy
open PySem PySem.W PyProof.Rows
section
variable {prog:a6}{w:bO}{A:bR}{E:ai->ao->Prop}{s:ao}{κ:jh} {D:aU->Prop}{r:aU->Int}{st:dJ}{a b:Array aU}{xs o:Array aU}{pd:Array (Nat×Nat×Nat)}{i j k m q g mg N:Nat}{all:List aU}
def ng (r:aU->Int) (x:aU):Int:=- r x
theorem rv {a:Array aU}{n:Nat}(h1:n<=a.size) (h0:0<n):a.reverse[a.size-n]?=a[n-1]?:=by
 rw [Mt (by lia)];congr 1;lia
theorem mn {a:Array aU}{t:Nat}{x:aU}(e:a.reverse[t]?=some x):t<a.size/\a[a.size-1-t]?=some x:=by
 have h:=rg e;simp at h;rw [Mt h] at e;exact ⟨h,e⟩
theorem rx {a:Array aU}{k n:Nat}(h:n<=a.size) (hk:k<=n):(a.extract k n).reverse=a.reverse.extract (a.size-n) (a.size-n+(n-k)):=by
 apply Array.ext
 ·simp;lia
 ·intro t h1 h2;simp at h1 h2 ⊢
  congr 1;lia
theorem ZY {a:Array aU}{n:Nat}(h:n<=a.size):(a.extract 0 n).reverse=a.reverse.extract (a.size-n) a.reverse.size:=by
 rw [rx h (aK _)];congr 1;simp;lia
theorem WN (h1:i<=a.size) (h2:j<=b.size):(Qy a b o i j).reverse=dn b.reverse a.reverse o (b.size-j) (a.size-i):=by
 unfold Qy dn;rw [mT,mT,NB,ZY h1,ZY h2,yH]
theorem WO (h1:i<=a.size) (h2:j<=b.size):(WM a b o i j).reverse=lst b.reverse a.reverse o (b.size-j) (a.size-i):=by
 unfold WM lst;rw [mT,mT,NB,ZY h1,ZY h2,yH]
structure Jh (r:aU->Int) (all:List aU) (a b:Array aU) (i j:Nat) (o:Array aU):Prop where
 jj:J (ng r) all b.reverse a.reverse o (b.size-j) (a.size-i)
 i0:0<i
 i1:i<=a.size
 j0:1<j
 j1:j<=b.size
def Fh (r:aU->Int) (all:List aU) (o:Array aU):Prop:=F (ng r) all o.reverse
theorem Fh.dn (g:J (ng r) all b.reverse a.reverse o (b.size-j) (a.size-i)) (h1:i<=a.size) (h2:j<=b.size) (h:i=0\/j=0):Fh r all (Qy a b o i j):=by
 unfold Fh;rw [WN h1 h2]
 rcases h with rfl|rfl
 ·exact g.fb (by simp)
 ·exact g.fa (by simp)
theorem Fh.fs (T:Hr (ng r) D b.reverse a.reverse) (g:J (ng r) all b.reverse a.reverse o (b.size-j) (a.size-i)) (h1:i<=a.size) (h2:j<=b.size) (h:j=1):Fh r all (WM a b o i j):=by
 unfold Fh;rw [WO h1 h2];exact g.fl T (by simp;lia)
theorem J.pA (T:Hr (ng r) D b.reverse a.reverse) (h:J (ng r) all b.reverse a.reverse o (b.size-j) (a.size-i)) (h0:0<i) (h1:i<=a.size) {x:aU}(e:a[i-1]?=some x) (hx:∀ u y,u<j->b[u]?=some y->r y<=r x) :
  J (ng r) all b.reverse a.reverse (o.push x) (b.size-j) (a.size-(i-1)):=by
 rw [show a.size-(i-1)=a.size-i+1 by lia]
 exact h.pb T (by rw [rv h1 h0,e]) λu y h1 f=>by
  obtain ⟨f1,f⟩:=mn f;have:=hx _ y (by lia) f;unfold ng;lia
theorem J.pB (T:Hr (ng r) D b.reverse a.reverse) (h:J (ng r) all b.reverse a.reverse o (b.size-j) (a.size-i)) (h0:0<j) (h1:j<=b.size) {x:aU}(e:b[j-1]?=some x) (hx:∀ u y,u<i->a[u]?=some y->r y<=r x) :
  J (ng r) all b.reverse a.reverse (o.push x) (b.size-(j-1)) (a.size-i):=by
 rw [show b.size-(j-1)=b.size-j+1 by lia]
 exact h.pa T (by rw [rv h1 h0,e]) λu y h1 f=>by
  obtain ⟨f1,f⟩:=mn f;have:=hx _ y (by lia) f;unfold ng;lia
theorem J.tA (h:J (ng r) all b.reverse a.reverse o (b.size-j) (a.size-i)) (hk:k<=i) (h1:i<=a.size) (hx:∀ t x u y,k<=t->t<i->a[t]?=some x->u<j->b[u]?=some y->r y<=r x) :
  J (ng r) all b.reverse a.reverse (o++(a.extract k i).reverse) (b.size-j) (a.size-k):=by
 rw [rx h1 hk,show a.size-k=a.size-i+(i-k) by lia]
 exact h.tb λt x u y h1 h2 e h3 f=>by
  obtain ⟨e1,e⟩:=mn e;obtain ⟨f1,f⟩:=mn f;have:=hx _ x _ y (by lia) (by lia) e (by lia) f;unfold ng;lia
theorem J.tB (h:J (ng r) all b.reverse a.reverse o (b.size-j) (a.size-i)) (hk:k<=j) (h1:j<=b.size) (hx:∀ t x u y,k<=t->t<j->b[t]?=some x->u<i->a[u]?=some y->r y<=r x) :
  J (ng r) all b.reverse a.reverse (o++(b.extract k j).reverse) (b.size-k) (a.size-i):=by
 rw [rx h1 hk,show b.size-k=b.size-j+(j-k) by lia]
 exact h.ta λt x u y h1 h2 e h3 f=>by
  obtain ⟨e1,e⟩:=mn e;obtain ⟨f1,f⟩:=mn f;have:=hx _ x _ y (by lia) (by lia) e (by lia) f;unfold ng;lia
structure Xb (r:aU->Int) (D:aU->Prop) (a b:Array aU):Prop where
 da:∀ (t:Nat) x,a[t]?=some x->D x
 db:∀ (t:Nat) x,b[t]?=some x->D x
 sa:St r a 0 a.size
 sb:St r b 0 b.size
 fb:∀ (u:Nat) x y,b[0]?=some x->a[u]?=some y->r x<=r y
theorem Xb.two (T:Xb r D a b):Hr (ng r) D b.reverse a.reverse where
 da t x e:=T.db _ x (mn e).2
 db t x e:=T.da _ x (mn e).2
 sa t u x y _ h2 h3 e f:=by
  have:=T.sb _ _ y x (aK _) (show b.size-1-u<=b.size-1-t by lia) (by have:=(mn e).1;lia) (mn f).2 (mn e).2;unfold ng;lia
 sb t u x y _ h2 h3 e f:=by
  have:=T.sa _ _ y x (aK _) (show a.size-1-u<=a.size-1-t by lia) (by have:=(mn e).1;lia) (mn f).2 (mn e).2;unfold ng;lia
 la t u x y h1 e f:=by
  simp at h1;have e':=(mn e).2;rw [show b.size-1-t=0 by lia] at e';have:=T.fb _ x y e' (mn f).2;unfold ng;lia
def Kb (r:aU->Int) (all:List aU) (a b:Array aU) (k:Nat) (z:Option (Array aU)) (i j:Nat) (o:Array aU):Prop :=
 (∀ q,z=some q->Fh r all q)/\(z=none->Jh r all a b i j o/\k<=o.size)
theorem Kb.told {q:Array aU}(h:Fh r all q):Kb r all a b k (some q) i j o:=⟨λ_ e=>by cases e;exact h,(λe=>nomatch e)⟩
theorem Kb.on (h1:Jh r all a b i j o) (h4:k<=o.size):Kb r all a b k none i j o:=⟨(λ_ e=>nomatch e),λ_=>⟨h1,h4⟩⟩
theorem YI (hc:Gh prog w A s κ D r) (hk:kindOf st=κ) (T:Xb r D a b) {Q:U1->dJ->Prop}(h1:Jh r all a b i j o)
  (h:∀ z,Kb r all a b o.size z.1 z.2.1 z.2.2.1 z.2.2.2.1->Q z st):vA (aM prog w) A E s (forIn [0:N] ((none,i,j,o,0,0):U1) (hiB a b mg)) Q st:=by
 refine fR (I:=λx z st'=>st'=st/\z.1=none/\Jh r all a b z.2.1 z.2.2.1 z.2.2.2.1/\o.size<=z.2.2.2.1.size) ?_ ?_ ⟨rfl,rfl,h1,av _⟩
 ·rintro x ⟨z,i',j',o',ac,bc⟩ st' _ hx ⟨rfl,rfl,g,g4⟩;dsimp only at g g4;obtain ⟨g,i0,i1,j0,j1⟩:=g;obtain ⟨u,eu⟩:=gm (a:=a) (i:=i'-1) (by lia);obtain ⟨v,ev⟩:=gm (a:=b) (i:=j'-1) (by lia);unfold hiB;refine aS (m7 ev (aS (m7 eu (aS (w_lt hc hk (T.db _ _ ev) (T.da _ _ eu) ?_)))));dsimp only
  have sz:∀ x:aU,o.size<=(o'.push x).size:=λx=>by rw [iB];lia
  by_cases c:r v<r u
  ·rw [decide_eq_true c,if_pos rfl];have g5:=g.pA T.two i0 i1 eu λt y h1 e=>c8 (T.sb _ _ _ _ (aK _) (by lia) (by lia) e ev) (gp c);refine aS (m7 eu ?_)
   by_cases e:i'-1=0
   ·rw [if_pos (by simpa using e)];exact bh (h _ (Kb.told (Fh.dn g5 (by lia) j1 (.inl e))))
   ·rw [if_neg (by simpa using e)]
    by_cases f:ac+1>=mg
    ·rw [if_pos f];exact bh (h _ (Kb.on ⟨g5,by dsimp only;lia,by dsimp only;lia,j0,j1⟩ (sz _)))
    ·rw [if_neg f];exact bh ⟨rfl,rfl,⟨g5,by dsimp only;lia,by dsimp only;lia,j0,j1⟩,sz _⟩
  ·rw [decide_eq_false c,if_neg (by simp)];have g5:=g.pB T.two (by lia) j1 ev λt y h1 e=>c8 (T.sa _ _ _ _ (aK _) (by lia) (by lia) e eu) (pH.mp c);refine aS (m7 ev ?_)
   by_cases e:j'-1=1
   ·rw [if_pos (by simpa using e)];exact bh (h _ (Kb.told (Fh.fs T.two g5 i1 (by lia) e)))
   ·rw [if_neg (by simpa using e)]
    by_cases f:bc+1>=mg
    ·rw [if_pos f];exact bh (h _ (Kb.on ⟨g5,i0,i1,by dsimp only;lia,by dsimp only;lia⟩ (sz _)))
    ·rw [if_neg f];exact bh ⟨rfl,rfl,⟨g5,i0,i1,by dsimp only;lia,by dsimp only;lia⟩,sz _⟩
 ·rintro ⟨z,o',i',j',ac,bc⟩ st' ⟨rfl,rfl,g,g4⟩;exact h _ (Kb.on g g4)
def Nxh (κ:jh) (xs:Array aU) (pd:Array (Nat×Nat×Nat)) (r:aU->Int) (all:List aU) (a b:Array aU) (k:Nat) (x:ForInStep U2) (st':dJ):Prop :=
 Sm κ xs pd st'/\match x with
  | .done z=>Kb r all a b k z.1 z.2.1 z.2.2.1 z.2.2.2.1
  | .yield z=>z.1=none/\Jh r all a b z.2.1 z.2.2.1 z.2.2.2.1/\k<=z.2.2.2.1.size
theorem UU (T:Xb r D a b) (h0:Sm κ xs pd st) (h1:Jh r all a b i j o) (h4:k<=o.size+1) (h:∀ x,a[i-1]?=some x->∀ u y,u<j->b[u]?=some y->r y<=r x) :
  vA (aM prog w) A E s (Tw a b o i j mg m q) (Nxh κ xs pd r all a b k) st:=by
 obtain ⟨g,i0,i1,j0,j1⟩:=h1;obtain ⟨x,e⟩:=gm (a:=a) (i:=i-1) (by lia);unfold Tw;have g:=g.pA T.two i0 i1 e (h x e)
 have sz:k<=(o.push x).size:=by rw [iB];lia
 refine aS (m7 e ?_);dsimp only
 by_cases c:i-1=0
 ·rw [if_pos (by simpa using c)];exact bh ⟨h0,Kb.told (Fh.dn g (by lia) j1 (.inl c))⟩
 ·rw [if_neg (by simpa using c)]
  have g2:Jh r all a b (i-1) j (o.push x):=⟨g,by lia,by lia,j0,j1⟩
  split
  ·exact bh ⟨h0,Kb.on g2 sz⟩
  ·exact bh ⟨h0,rfl,g2,sz⟩
theorem UV (hc:Gh prog w A s κ D r) (T:Xb r D a b) (h0:Sm κ xs pd st) (h1:Jh r all a b i j o) (h4:k<=o.size+2) (h:∀ x,b[j-1]?=some x->∀ u y,u<i->a[u]?=some y->r y<=r x) :
  vA (aM prog w) A E s (Tx a b o i j mg m q) (Nxh κ xs pd r all a b k) st:=by
 obtain ⟨g,i0,i1,j0,j1⟩:=h1;obtain ⟨x,e⟩:=gm (a:=b) (i:=j-1) (by lia);obtain ⟨y,f⟩:=gm (a:=a) (i:=i-1) (by lia);unfold Tx;have g:=g.pB T.two (by lia) j1 e (h x e);refine aS (m7 e ?_);dsimp only
 by_cases c:j-1=1
 ·rw [if_pos (by simpa using c)];exact bh ⟨h0,Kb.told (Fh.fs T.two g i1 (by lia) c)⟩
 ·rw [if_neg (by simpa using c)]
  have hk:kindOf st=κ:=by obtain ⟨_,rfl⟩:=h0;rfl
  refine aS (m7 f (aS (oO hc hk T.db (T.da _ _ f) (by lia) (λt u x y z1 z2 z3=>T.sb t u x y (aK _) z2 (by lia)) (by lia) λn n1 n2 n3=>?_)));dsimp only;have ya:∀ u z,u<i->a[u]?=some z->r z<=r y:=λu z h1 e=>T.sa _ _ _ _ (aK _) (by lia) (by lia) e f;have g2:=g.tB (k:=n) (by lia) (by lia) λt x u z z1 z2 e1 z3 e2=>c8 (ya u z z3 e2) (pH.mp (of_decide_eq_false (n3 t x (by lia) (by lia) e1)))
  have hb:∀ x,a[i-1]?=some x->∀ u z,u<n->b[u]?=some z->r z<=r x:=λx e1 u z h1 e2=>by
   rw [f] at e1;cases e1;exact gp (of_decide_eq_true (n2 u z (aK _) (by lia) e2))
  have sz:k<=(o.push x).size+1:=by rw [iB];lia
  by_cases d:j-1-n>0
  ·rw [if_pos d]
   by_cases c2:n=1
   ·rw [if_pos (by simpa using c2)];exact bh ⟨h0,Kb.told (Fh.fs T.two g2 i1 (by lia) c2)⟩
   ·rw [if_neg (by simpa using c2)]
    by_cases c3:n=0
    ·rw [if_pos (by simpa using c3)];exact bh ⟨h0,Kb.told (Fh.dn g2 i1 (by lia) (.inr c3))⟩
    ·rw [if_neg (by simpa using c3)];exact UU T h0 ⟨g2,i0,i1,by lia,by lia⟩ (by rw [pM];lia) hb
  ·rw [if_neg d]
   have:n=j-1:=by lia
   subst this;exact UU T h0 ⟨g,i0,i1,by lia,by lia⟩ sz hb
theorem YJ (hc:Gh prog w A s κ D r) (T:Xb r D a b) (h0:Sm κ xs pd st) {z:U2}(h1:Jh r all a b z.2.1 z.2.2.1 z.2.2.2.1):vA (aM prog w) A E s (Qz a b z mg) (Nxh κ xs pd r all a b (z.2.2.2.1.size+1)) st:=by
 obtain ⟨z0,i,j,o,g0,ac,bc⟩:=z;obtain ⟨g,i0,i1,j0,j1⟩:=h1;dsimp only at g i0 i1 j0 j1;obtain ⟨x,e⟩:=gm (a:=b) (i:=j-1) (by lia);unfold Qz Qv;dsimp only;refine aS (iE ?_)
 have h0':Sm κ xs pd (a8 (kindOf st) (mR st) (cN st) mg (iV st)):=by obtain ⟨g,rfl⟩:=h0;exact ⟨mg,rfl⟩
 have hk:kindOf (a8 (kindOf st) (mR st) (cN st) mg (iV st))=κ:=by obtain ⟨_,e⟩:=h0';rw [e]
 generalize a8 (kindOf st) (mR st) (cN st) mg (iV st)=st1 at h0' hk;refine aS (m7 e (aS (oO hc hk T.da (T.db _ _ e) (by lia) (λt u x y z1 z2 z3=>T.sa t u x y (aK _) z2 (by lia)) (by lia) λn n1 n2 n3=>?_)));dsimp only;have xb:∀ u z,u<j->b[u]?=some z->r z<=r x:=λu z h1 e1=>T.sb _ _ _ _ (aK _) (by lia) (by lia) e1 e
 have nx:∀ t y,n<=t->t<i->a[t]?=some y->r x<=r y:=λt y h1 h2 e1=>by
  have:=n3 t y (by lia) (by lia) e1;exact gp (by simpa [Bv] using this)
 have g2:=g.tA (k:=n) (by lia) i1 λt y u z z1 z2 e1 z3 e2=>c8 (xb u z z3 e2) (nx t y z1 z2 e1)
 have ha:∀ y,b[j-1]?=some y->∀ u z,u<n->a[u]?=some z->r z<=r y:=λy e1 u z h1 e2=>by
  rw [e] at e1;cases e1;have:=n2 u z (aK _) (by lia) e2
  simpa [Bv] using this
 by_cases d:i-n>0
 ·rw [if_pos d]
  by_cases c1:n=0
  ·rw [if_pos (by simpa using c1)];exact bh ⟨h0',Kb.told (Fh.dn g2 (by lia) j1 (.inl c1))⟩
  ·rw [if_neg (by simpa using c1)];exact UV hc T h0' ⟨g2,by lia,by lia,j0,j1⟩ (by rw [pM];lia) ha
 ·rw [if_neg d]
  have:n=i:=by lia
  subst this;exact UV hc T h0' ⟨g,i0,i1,j0,j1⟩ (by lia) ha
theorem pw_of (h:St r a 0 a.size):a.toList.Pairwise λx y=>r x<=r y:=kr.mpr λi j hi hj hij=>h i j _ _ (aK _) (ki hij) (by simpa using hj) (by simp) (by simp)
theorem w_hi (hc:Gh prog w A s κ D r) (T:Xb r D a b) (h0:st=a8 κ xs pd g none) (ha:0<a.size) (hb:0<b.size) (hl:∀ x y,b[b.size-1]?=some x->a[a.size-1]?=some y->r x<=r y) {Q:Array aU->dJ->Prop}
  (h:∀ q st',Sm κ xs pd st'->F r (a.toList++b.toList) q->Q q st'):vA (aM prog w) A E s (By a b) Q st:=by
 have h:∀ q st',Sm κ xs pd st'->Fh r (a.toList++b.toList) q->Q q st':=λq st' w1 w2=>h q st' w1 (by
  unfold Fh F at w2;refine ⟨?_,?_,.nil,.nil,λ_ _ _ z=>nomatch z⟩
  ·have:=w2.pm;simp at this ⊢;exact (AK _).symm.trans this
  ·have:=List.pairwise_reverse.mp (by simpa using w2.so)
   exact this.imp λz=>by unfold ng at z;lia)
 rw [YH];refine aS (HM (jd ⟨rfl,?_⟩));obtain ⟨x,e⟩:=gm (a:=b) (i:=b.size-1) (by lia);obtain ⟨y,f⟩:=gm (a:=a) (i:=a.size-1) (by lia);refine aS (m7 f ?_)
 have g0:J (ng r) (a.toList++b.toList) b.reverse a.reverse #[] (b.size-b.size) (a.size-a.size):=⟨by simpa using (AK _).append (AK _) |>.trans fU,mV,by simpa using pw_of T.two.sa,by simpa using pw_of T.two.sb,λ_ z=>nomatch z⟩
 have g:=g0.pA T.two ha (av _) f λu z h1 e1=>c8 (T.sb _ _ _ _ (aK _) (by lia) (by lia) e1 e) (hl x y e f);have g:J (ng r) (a.toList++b.toList) b.reverse a.reverse #[y] (b.size-b.size) (a.size-(a.size-1)):=g
 by_cases c1:a.size-1=0
 ·rw [if_pos (by simpa using c1)];exact bh (h _ _ ⟨_,h0⟩ (Fh.dn g (by lia) (av _) (.inl c1)))
 ·rw [if_neg (by simpa using c1)]
  by_cases c2:b.size=1
  ·rw [if_pos (by simpa using c2)];exact bh (h _ _ ⟨_,h0⟩ (Fh.fs T.two g (by lia) (av _) c2))
  ·rw [if_neg (by simpa using c2)]
   refine UT (Fq:=Fh r (a.toList++b.toList)) (Jv:=Jh r (a.toList++b.toList) a b) (sz:=λ_ _ o=>o.size) (λmg st o i j Q w1 w2 w3=>YI hc (by obtain ⟨_,rfl⟩:=w1;rfl) T w2 λu q=>w3 u q.1 q.2) (λk st u w1 w2=>?_) (λi j o q=>by
    have:=q.jj.len (by simp) (by simp) (by simp;lia);have:=q.i0;have:=q.i1;have:=q.j0;have:=q.j1
    lia) ⟨_,h0⟩ ⟨g,by lia,by lia,by lia,by lia⟩ h
   have e:hiG a b k u=Qz a b u (if u.2.2.2.2.1>1 then u.2.2.2.2.1-1 else u.2.2.2.2.1):=by unfold hiG;split<;>rfl
   rw [e]
   refine mS (YJ hc T w1 w2) λv st2 q=>⟨q.1,?_⟩
   have q:=q.2
   cases v with
   | done v=>exact q
   | yield v=>exact q
end
end Sy
namespace Sy
open PySem PySem.W PyProof.Rows
abbrev C1:=Option (Option Nat)×Nat
def Tz (lo:Nat) (_:Nat) (z:C1):SM (ForInStep C1):=do
 match ← ltAt' (lo+z.2) (lo+z.2-1) with
 | some c=>if c=true then pure (.done (none,z.2)) else pure (.yield (none,z.2+1))
 | _=>pure (.done (some none,z.2))
def tl (lo n nrem:Nat):SM (Option Nat):=do
 Ds lo (lo+n)
 let z ← forIn [n:nrem] ((none,n):C1) (Tz lo)
 (match z.1 with
 | some r=>pure r
 | none=>pure (some z.2))
def YK (lo:Nat) (_:Nat) (z:TG):SM (ForInStep TG):=do
 match ← ltAt' (lo+z.2.1) (lo+z.2.1-1) with
 | some c=>(if c=true then (if z.2.2>0 then (do
    Ds (lo+z.2.1-(z.2.2+1)) (lo+z.2.1)
    pure (.yield (none,z.2.1+1,0))) else pure (.yield (none,z.2.1+1,0)))
  else (do
   match ← ltAt' (lo+z.2.1-1) (lo+z.2.1) with
   | some d=>if d=true then pure (.done (none,z.2)) else pure (.yield (none,z.2.1+1,z.2.2+1))
   | _=>pure (.done (some none,z.2))))
 | _=>pure (.done (some none,z.2))
def ZZ (lo n nrem:Nat):SM (Option Nat):=do
 liftM (EJ "list.sort.descending-run")
 let z ← forIn [n+1:nrem] ((none,n+1,0):TG) (YK lo)
 (match z.1 with
 | some r=>pure r
 | none=>if z.2.2>0 then (do
   Ds (lo+z.2.1-(z.2.2+1)) (lo+z.2.1)
   tl lo z.2.1 nrem) else tl lo z.2.1 nrem)
theorem QB (lo nrem:Nat):countRun' lo nrem=(do
  let z ← forIn [1:nrem] ((none,1):C1) (Tz lo)
  (match z.1 with
  | some r=>pure r
  | none=>if (z.2 == nrem)=true then pure (some z.2) else if z.2>1 then (do
    match ← ltAt' lo (lo+z.2-1) with
    | some c=>if c=true then pure (some z.2) else (do
     Ds lo (lo+z.2)
     ZZ lo z.2 nrem)
    | _=>pure none) else ZZ lo z.2 nrem)):=by kernel_rfl
section
variable {prog:a6}{w:bO}{A:bR}{E:ai->ao->Prop}{s:ao}{κ:jh} {D:aU->Prop}{r:aU->Int}{st:dJ}{xs ys a₀:Array aU} {pd:Array (Nat×Nat×Nat)}{i j lo hi n m q g nrem:Nat}
def K (r:aU->Int) (xs:Array aU) (i:Nat):Int:=((xs[i]?).map r).getD 0
theorem TB {i:Nat}{x:aU}(e:xs[i]?=some x):K r xs i=r x:=by unfold K;rw [e];rfl
theorem K9 {xs ys:Array aU}{i j:Nat}(h:xs[i]?=ys[j]?):K r xs i=K r ys j:=by unfold K;rw [h]
structure Bs (D:aU->Prop) (a₀:Array aU) (lo:Nat) (xs:Array aU):Prop where
 pm:xs.Perm a₀
 dd:∀ x∈a₀.toList,D x
 ah:∀ t,t<lo->xs[t]?=a₀[t]?
theorem Bs.size (h:Bs D a₀ lo xs):xs.size=a₀.size:=h.pm.size_eq
theorem Bs.d (h:Bs D a₀ lo xs) {i:Nat}{x:aU}(e:xs[i]?=some x):D x:=by
 obtain ⟨h1,rfl⟩:=cE.mp e;exact h.dd _ ((ft.mp h.pm).mem_iff.mp (by simp))
theorem Bs.rev (h:Bs D a₀ lo xs) (hi:lo<=i) (hj:j<=xs.size):Bs D a₀ lo (mirror xs i j ((j-i)/2)) :=
 ⟨(mirror_perm _ _ _ _).trans h.pm,h.dd,λt ht=>by rw [XX hj,if_neg (by lia)];exact h.ah t ht⟩
theorem QC (hc:Gh prog w A s κ D r) (h:Bs D a₀ lo xs) {Q:Option Bool->dJ->Prop}(hi:i<xs.size) (hj:j<xs.size) (hq:Q (some (decide (K r xs i<K r xs j))) (a8 κ xs pd g none)):vA (aM prog w) A E s (ltAt' i j) Q (a8 κ xs pd g none):=by
 obtain ⟨x,e⟩:=gm hi;obtain ⟨y,f⟩:=gm hj;rw [TB e,TB f] at hq;rw [ltAt'_eq];exact aS (qe (aS (m7 e (aS (m7 f (w_lt hc rfl (h.d e) (h.d f) hq))))))
theorem QD (hj:j<=xs.size) (t:Nat):K r (mirror xs i j ((j-i)/2)) t=if i<=t/\t<j then K r xs (i+j-1-t) else K r xs t:=by
 have e:=XX (i:=i) hj t
 split
 ·rename_i h;rw [if_pos h] at e;exact K9 e
 ·rename_i h;rw [if_neg h] at e;exact K9 e
def Up (r:aU->Int) (xs:Array aU) (lo hi:Nat):Prop:=∀ t u,lo<=t->t<=u->u<hi->K r xs t<=K r xs u
def Dn (r:aU->Int) (xs:Array aU) (lo hi:Nat):Prop:=∀ t u,lo<=t->t<=u->u<hi->K r xs u<=K r xs t
theorem Up.next (h:Up r xs lo (lo+n)) (hn:0<n) (hl:K r xs (lo+n-1)<=K r xs (lo+n)):Up r xs lo (lo+(n+1)):=λt u h1 h2 h3=>by
 by_cases c:u<lo+n
 ·exact h t u h1 h2 c
 ·have:u=lo+n:=by lia
  subst this
  by_cases d:t=lo+n
  ·subst d;exact nB _
  ·exact c8 (h t _ h1 (by lia) (by lia)) hl
theorem Dn.next (h:Dn r xs lo (lo+n)) (hn:0<n) (hl:K r xs (lo+n)<=K r xs (lo+n-1)):Dn r xs lo (lo+(n+1)):=λt u h1 h2 h3=>by
 by_cases c:u<lo+n
 ·exact h t u h1 h2 c
 ·have:u=lo+n:=by lia
  subst this
  by_cases d:t=lo+n
  ·subst d;exact nB _
  ·exact c8 hl (h t _ h1 (by lia) (by lia))
theorem La (hj:j<=xs.size) (h:∀ t,i<=t->t<j->K r xs t=K r xs (j-1)) (t:Nat):K r (mirror xs i j ((j-i)/2)) t=K r xs t:=by
 rw [QD hj]
 split
 ·rw [h _ (by lia) (by lia),h t (by lia) (by lia)]
 ·rfl
theorem UW (hc:Gh prog w A s κ D r) (h:Bs D a₀ lo xs) (hz:lo+nrem<=xs.size) (h1:1<=n) (hn:n<=nrem) (hu:Up r xs lo (lo+n)) {Q:C1->dJ->Prop}
  (hq:∀ m,n<=m->m<=nrem->Up r xs lo (lo+m)->(m<nrem->K r xs (lo+m)<K r xs (lo+m-1))->Q (none,m) (a8 κ xs pd g none)):vA (aM prog w) A E s (forIn [n:nrem] ((none,n):C1) (Tz lo)) Q (a8 κ xs pd g none):=by
 refine fR (I:=λx c st'=>st'=a8 κ xs pd g none/\c=(none,x)/\Up r xs lo (lo+x)) ?_ ?_ ⟨rfl,rfl,hu⟩
 ·rintro x c st' a1 a2 ⟨rfl,rfl,a3⟩;unfold Tz;refine aS (QC hc h (by dsimp only;lia) (by dsimp only;lia) ?_);dsimp only
  by_cases c:K r xs (lo+x)<K r xs (lo+x-1)
  ·rw [decide_eq_true c,if_pos rfl];exact bh (hq x a1 (by lia) a3 λ_=>c)
  ·rw [decide_eq_false c,if_neg (by simp)];exact bh ⟨rfl,rfl,a3.next (by lia) (pH.mp c)⟩
 ·rintro c st' ⟨rfl,rfl,a3⟩
  have e:max n nrem=nrem:=by lia
  rw [e] at a3 ⊢;exact hq nrem hn (av _) a3 λz=>absurd z (by lia)
theorem YL (hc:Gh prog w A s κ D r) (h:Bs D a₀ lo xs) (hz:lo+nrem<=xs.size) (h1:1<=n) (hn:n<=nrem) (hd:Dn r xs lo (lo+n)) {Q:Option Nat->dJ->Prop}
  (hq:∀ m ys,1<=m->m<=nrem->Bs D a₀ lo ys->Up r ys lo (lo+m)->Q (some m) (a8 κ ys pd g none)):vA (aM prog w) A E s (tl lo n nrem) Q (a8 κ xs pd g none):=by
 unfold tl;rw [vt];refine aS (iE ?_);have h':=h.rev (i:=lo) (j:=lo+n) (av _) (by lia);refine aS (UW hc h' (by rw [Xz];exact hz) h1 hn (λt u a1 a2 a3=>?_) λm b1 b2 b3 _=>bh (hq m _ (by lia) b2 h' b3))
 show K r (mirror xs _ _ _) t<=K r (mirror xs _ _ _) u
 rw [QD (by lia),QD (by lia),if_pos (by lia),if_pos (by lia)];exact hd _ _ (by lia) (by lia) (by lia)
theorem UX (hc:Gh prog w A s κ D r) (h:Bs D a₀ lo xs) (hz:lo+nrem<=xs.size) (hn:n+1<=nrem) (hd:Dn r xs lo (lo+(n+1))) {Q:Option Nat->dJ->Prop}
  (hq:∀ m ys,1<=m->m<=nrem->Bs D a₀ lo ys->Up r ys lo (lo+m)->Q (some m) (a8 κ ys pd g none)):vA (aM prog w) A E s (ZZ lo n nrem) Q (a8 κ xs pd g none):=by
 unfold ZZ;refine aS (HM (jd ⟨rfl,?_⟩));have hs:=h.size
 refine aS (mS (fR (I:=λx c st'=>∃ ys e,st'=a8 κ ys pd g none/\c=(none,x,e)/\Bs D a₀ lo ys/\Dn r ys lo (lo+x)/\e+1<=x/\∀ t,lo+x-(e+1)<=t->t<lo+x->K r ys t=K r ys (lo+x-1))
  (Q:=λc st'=>∃ x ys e,n+1<=x/\x<=nrem/\st'=a8 κ ys pd g none/\c=(none,x,e)/\Bs D a₀ lo ys/\Dn r ys lo (lo+x)/\e+1<=x/\∀ t,lo+x-(e+1)<=t->t<lo+x->K r ys t=K r ys (lo+x-1)) ?_ ?_ ⟨xs,0,rfl,rfl,h,hd,by lia,λt _ _=>by congr 1;lia⟩) ?_)
 ·rintro x c st' a1 a2 ⟨ys,e,rfl,rfl,b1,b2,b3,b4⟩;have hy:=b1.size;unfold YK;refine aS (QC hc b1 (by dsimp only;lia) (by dsimp only;lia) ?_);dsimp only
  by_cases c:K r ys (lo+x)<K r ys (lo+x-1)
  ·rw [decide_eq_true c,if_pos rfl];have d2:=b2.next (by lia) (gp c)
   by_cases d:e>0
   ·rw [if_pos d,vt];have sm:=La (r:=r) (xs:=ys) (by lia) b4;refine aS (iE (bh ⟨_,0,rfl,rfl,b1.rev (i:=lo+x-(e+1)) (j:=lo+x) (by lia) (by lia),λt u z1 z2 z3=>?_,by lia,λt _ _=>by congr 1;lia⟩));rw [sm,sm];exact d2 t u z1 z2 z3
   ·rw [if_neg d];exact bh ⟨ys,0,rfl,rfl,b1,d2,by lia,λt _ _=>by congr 1;lia⟩
  ·rw [decide_eq_false c,if_neg (by simp)];refine aS (QC hc b1 (by lia) (by lia) ?_);dsimp only
   by_cases d:K r ys (lo+x-1)<K r ys (lo+x)
   ·rw [decide_eq_true d,if_pos rfl];exact bh ⟨x,ys,e,a1,by lia,rfl,rfl,b1,b2,b3,b4⟩
   ·rw [decide_eq_false d,if_neg (by simp)];refine bh ⟨ys,e+1,rfl,rfl,b1,b2.next (by lia) (by lia),by lia,λt z1 z2=>?_⟩
    have e1:lo+(x+1)-1=lo+x:=by lia
    rw [e1]
    by_cases f:t=lo+x
    ·rw [f]
    ·rw [b4 t (by lia) (by lia)];lia
 ·rintro c st' ⟨ys,e,rfl,rfl,b1,b2,b3,b4⟩
  have e1:max (n+1) nrem=nrem:=by lia
  rw [e1] at b2 b3 b4 ⊢;exact ⟨nrem,ys,e,hn,av _,rfl,rfl,b1,b2,b3,b4⟩
 ·rintro c st' ⟨x,ys,e,a1,a2,rfl,rfl,b1,b2,b3,b4⟩;have hy:=b1.size;dsimp only
  by_cases d:e>0
  ·rw [if_pos d,vt];have sm:=La (r:=r) (xs:=ys) (by lia) b4;refine aS (iE (YL hc (b1.rev (i:=lo+x-(e+1)) (j:=lo+x) (by lia) (by lia)) (by rw [Xz];lia) (by lia) a2 (λt u z1 z2 z3=>?_) hq));rw [sm,sm];exact b2 t u z1 z2 z3
  ·rw [if_neg d];exact YL hc b1 (by lia) (by lia) a2 b2 hq
theorem w_count (hc:Gh prog w A s κ D r) (h:Bs D a₀ lo xs) (hz:lo+nrem<=xs.size) (h1:1<=nrem) {Q:Option Nat->dJ->Prop}
  (hq:∀ m ys,1<=m->m<=nrem->Bs D a₀ lo ys->Up r ys lo (lo+m)->Q (some m) (a8 κ ys pd g none)):vA (aM prog w) A E s (countRun' lo nrem) Q (a8 κ xs pd g none):=by
 rw [QB]
 refine aS (UW hc h hz (av 1) h1 (λt u a1 a2 a3=>by
  have:t=u:=by lia
  subst this;exact nB _) λm b1 b2 b3 b4=>?_)
 dsimp only
 by_cases e:m=nrem
 ·rw [if_pos (by simpa using e)];exact bh (hq m xs b1 b2 h b3)
 ·rw [if_neg (by simpa using e)];have b4:=b4 (by lia)
  by_cases c:m>1
  ·rw [if_pos c];refine aS (QC hc h (by lia) (by lia) ?_);dsimp only
   by_cases d:K r xs lo<K r xs (lo+m-1)
   ·rw [decide_eq_true d,if_pos rfl];exact bh (hq m xs b1 b2 h b3)
   ·rw [decide_eq_false d,if_neg (by simp),vt]
    have al:∀ t,lo<=t->t<lo+m->K r xs t=K r xs (lo+m-1):=λt z1 z2=>by
     have:=b3 lo t (av _) z1 z2;have:=b3 t (lo+m-1) z1 (by lia) (by lia);lia
    have sm:=La (r:=r) (xs:=xs) (by lia) al
    have dn:Dn r xs lo (lo+m):=λt u z1 z2 z3=>by rw [al t z1 (by lia),al u (by lia) z3];exact nB _
    refine aS (iE (UX hc (h.rev (i:=lo) (j:=lo+m) (av _) (by lia)) (by rw [Xz];lia) (by lia) (λt u z1 z2 z3=>?_) hq));rw [sm,sm];exact dn.next (by lia) (gp b4) t u z1 z2 z3
  ·rw [if_neg c]
   have:m=1:=by lia
   subst this
   exact UX hc h hz (by lia) (Dn.next (λt u z1 z2 z3=>by
    have:t=u:=by lia
    subst this;exact nB _) (by lia) (gp b4)) hq
end
end Sy
namespace Sy
open PySem PySem.W PyProof.Rows
def plS (lo k:Nat) (_:Nat) (z:Option Bool×Nat×Nat):SM (ForInStep (Option Bool×Nat×Nat)) :=
 if z.2.1>=z.2.2 then pure (.done (none,z.2)) else do
  match ← ltAt' (lo+k) (lo+(z.2.1+z.2.2)/2) with
  | some c=>if c=true then pure (.yield (none,z.2.1,(z.2.1+z.2.2)/2)) else pure (.yield (none,(z.2.1+z.2.2)/2+1,z.2.2))
  | _=>pure (.done (some false,z.2))
def biS (lo:Nat) (k:Nat) (_:Option Bool×Unit):SM (ForInStep (Option Bool×Unit)):=do
 let z ← forIn [0:k] ((none,0,k):Option Bool×Nat×Nat) (plS lo k)
 (match z.1 with
 | some r=>pure (.done (some r,()))
 | none=>do
  moveDown' (lo+k) (lo+z.2.1)
  pure (.yield (none,())))
theorem WQ (lo n ok:Nat):XA lo n ok=(do
  let z ← forIn [max ok 1:n] ((none,()):Option Bool×Unit) (biS lo)
  (match z.1 with
  | some r=>pure r
  | none=>pure true)):=by kernel_rfl
section
variable {prog:a6}{w:bO}{A:bR}{E:ai->ao->Prop}{s:ao}{κ:jh} {D:aU->Prop}{r:aU->Int}{st:dJ}{xs ys a₀:Array aU} {pd:Array (Nat×Nat×Nat)}{i j lo hi n m q g nrem:Nat}
theorem UY {x l:Nat}(hx:x<xs.size) (hl:l<=x) (i:Nat):K r (bubble xs x (x-l)) i=if i=l then K r xs x else if l<i/\i<=x then K r xs (i-1) else K r xs i:=by
 have e:=getElem?_bubble hx (x-l) (by lia) i;rw [show x-(x-l)=l by lia] at e
 by_cases h1:i=l
 ·rw [if_pos h1] at e ⊢;exact K9 e
 ·rw [if_neg h1] at e ⊢
  by_cases h2:l<i/\i<=x
  ·rw [if_pos h2] at e ⊢;exact K9 e
  ·rw [if_neg h2] at e ⊢;exact K9 e
theorem QE (hc:Gh prog w A s κ D r) (h:Bs D a₀ lo xs) (hz:lo+n<=xs.size) (h1:1<=m) (hm:m<=n) (hu:Up r xs lo (lo+m)) {Q:Bool->dJ->Prop}
  (hq:∀ ys,Bs D a₀ lo ys->Up r ys lo (lo+n)->Q true (a8 κ ys pd g none)):vA (aM prog w) A E s (XA lo n m) Q (a8 κ xs pd g none):=by
 rw [WQ,show max m 1=m by lia];have hs:=h.size;refine aS (mS (fR (I:=λk c st'=>c.1=none/\∃ ys,st'=a8 κ ys pd g none/\Bs D a₀ lo ys/\Up r ys lo (lo+k)) (Q:=λc st'=>c.1=none/\∃ ys,st'=a8 κ ys pd g none/\Bs D a₀ lo ys/\Up r ys lo (lo+n)) ?_ ?_ ⟨rfl,xs,rfl,h,hu⟩) ?_)
 ·rintro k c st' a1 a2 ⟨_,ys,rfl,b1,b2⟩;have hy:=b1.size;unfold biS
  refine aS (mS (fR (I:=λx z st'=>st'=a8 κ ys pd g none/\z.1=none/\z.2.1<=z.2.2/\z.2.2<=k/\(∀ t,lo<=t->t<lo+z.2.1->K r ys t<=K r ys (lo+k))/\(∀ t,lo+z.2.2<=t->t<lo+k->K r ys (lo+k)<=K r ys t)/\z.2.2+x<=z.2.1+k)
   (Q:=λz st'=>st'=a8 κ ys pd g none/\z.1=none/\z.2.1<=k/\(∀ t,lo<=t->t<lo+z.2.1->K r ys t<=K r ys (lo+k))/\∀ t,lo+z.2.1<=t->t<lo+k->K r ys (lo+k)<=K r ys t) ?_ ?_ ⟨rfl,rfl,aK _,av _,λt z1 z2=>absurd z2 (by dsimp only;lia),λt z1 z2=>absurd z2 (by dsimp only at z1;lia),by dsimp only;lia⟩) ?_)
  ·rintro x ⟨z,l,u⟩ st' _ _ ⟨rfl,rfl,c1,c2,c3,c4,c5⟩;dsimp only at c1 c2 c3 c4 c5;unfold plS;dsimp only
   by_cases d:l>=u
   ·rw [if_pos d]
    have:l=u:=by lia
    subst this;exact bh ⟨rfl,rfl,c2,c3,c4⟩
   ·rw [if_neg d];refine aS (QC hc b1 (by lia) (by lia) ?_);dsimp only
    by_cases f:K r ys (lo+k)<K r ys (lo+(l+u)/2)
    ·rw [decide_eq_true f,if_pos rfl];exact bh ⟨rfl,rfl,by dsimp only;lia,by dsimp only;lia,c3,λt z1 z2=>c8 (gp f) (b2 _ _ (by lia) z1 z2),by dsimp only;lia⟩
    ·rw [decide_eq_false f,if_neg (by simp)];exact bh ⟨rfl,rfl,by dsimp only;lia,c2,λt z1 z2=>c8 (b2 _ (lo+(l+u)/2) z1 (by dsimp only at z2;lia) (by lia)) (pH.mp f),c4,by dsimp only;lia⟩
  ·rintro ⟨z,l,u⟩ st' ⟨rfl,rfl,c1,c2,c3,c4,c5⟩;dsimp only at c1 c2 c3 c4 c5
   have:l=u:=by lia
   subst this;exact ⟨rfl,rfl,c2,c3,c4⟩
  ·rintro ⟨z,l,u⟩ st' ⟨rfl,rfl,c2,c3,c4⟩;dsimp only at c2 c3 c4 ⊢;rw [moveDown'_eq];refine aS (iE (bh ⟨rfl,_,rfl,⟨(bubble_perm _ _ _).trans b1.pm,b1.dd,λt ht=>?_⟩,λt v z1 z2 z3=>?_⟩))
   ·have e:=getElem?_bubble (xs:=ys) (src:=lo+k) (by lia) (lo+k-(lo+l)) (by lia) t
    show (bubble ys _ _)[t]?=_
    rw [e,if_neg (by lia),if_neg (by lia)];exact b1.ah t ht
   ·show K r (bubble ys _ _) t<=K r (bubble ys _ _) v
    rw [UY (by lia) (by lia),UY (by lia) (by lia)]
    by_cases d1:t=lo+l
    ·rw [if_pos d1]
     by_cases d2:v=lo+l
     ·rw [if_pos d2];exact nB _
     ·rw [if_neg d2,if_pos (by lia)];exact c4 _ (by lia) (by lia)
    ·rw [if_neg d1]
     by_cases d2:v=lo+l
     ·rw [if_pos d2,if_neg (by lia)];exact c3 t z1 (by lia)
     ·rw [if_neg d2]
      by_cases d3:lo+l<t
      ·rw [if_pos (by lia),if_pos (by lia)];exact b2 _ _ (by lia) (by lia) (by lia)
      ·rw [if_neg (by lia)]
       by_cases d4:lo+l<v
       ·rw [if_pos (by lia)];exact b2 _ _ (by lia) (by lia) (by lia)
       ·rw [if_neg (by lia)];exact b2 _ _ (by lia) (by lia) (by lia)
 ·rintro c st' ⟨e,ys,rfl,b1,b2⟩;rw [show max m n=n by lia] at b2;exact ⟨e,ys,rfl,b1,b2⟩
 ·rintro ⟨c,u⟩ st' ⟨e,ys,rfl,b1,b2⟩;cases e;exact bh (hq ys b1 b2)
end
end Sy
namespace Sy
open PySem PySem.W PyProof.Rows
def QF (i:Nat) (q:Array aU) (xs:Array aU):Array aU:=q.toList.zipIdx.foldl (λa x=>match x with|(p,j)=>a.setIfInBounds (i+j) p) xs
def TC (i:Nat) (q:Array aU):SM Bool:=do
 modify λt=>a8 (kindOf t) (QF i q (mR t)) (cN t) (gallopOf t) (iV t)
 let t ← get
 pure (iV t).isNone
def Z0 (xs:Array aU) (sa na sb nb:Nat):SM Bool:=do
 match ← nS false (← mf xs sb) xs sa na 0 with
 | some k=>(if (na-k == 0)=true then pure true else (do
   match ← nS true (← mf xs (sa+k+(na-k)-1)) xs sb nb (nb-1) with
   | some m=>(if (m == 0)=true then pure true else if na-k<=m then (do
     let q ← Bx (xs.extract (sa+k) sb) (xs.extract sb (sb+m))
     TC (sa+k) q) else (do
     let q ← By (xs.extract (sa+k) sb) (xs.extract sb (sb+m))
     TC (sa+k) q))
   | _=>pure false))
 | _=>pure false
theorem YM (i:Nat):XB i=(do
  let t ← get
  match ((cN t)[i]?,(cN t)[i+1]?) with
  | (some (sa,na,pw),some (sb,nb,_))=>(do
   set (a8 (kindOf t) (mR t) (((cN t).setIfInBounds i (sa,na+nb,pw)).eraseIdxIfInBounds (i+1)) (gallopOf t) (iV t))
   Z0 (mR t) sa na sb nb)
  | _=>liftM (unsupported "internal:list.sort.pending")):=by kernel_rfl
theorem QG (i:Nat):∀ (l:List aU) (o:Nat) (xs:Array aU),i+o+l.length<=xs.size ->
  ((l.zipIdx o).foldl (λa x=>match x with|(p,j)=>a.setIfInBounds (i+j) p) xs).toList=xs.toList.take (i+o)++l++xs.toList.drop (i+o+l.length)
 | [],o,xs,_=>by simp
 | p::l,o,xs,h=>by
  rw [List.zipIdx_cons,List.foldl_cons];simp only [bV] at h;rw [QG i l (o+1) _ (by simp;lia)]
  have hl:i+o<xs.toList.length:=by simp;lia
  simp only [Array.toList_setIfInBounds,bV];rw [show i+(o+1)=i+o+1 by lia,dP,List.take_set_of_le (av _),je hl,List.drop_set_of_lt (by lia),show i+o+1+l.length=i+o+(l.length+1) by lia];simp
theorem WR {i:Nat}{q xs:Array aU}(h:i+q.size<=xs.size):(QF i q xs).toList=xs.toList.take i++q.toList++xs.toList.drop (i+q.size):=by
 exact QG i q.toList 0 xs (by simpa using h)
section
variable {prog:a6}{w:bO}{A:bR}{E:ai->ao->Prop}{s:ao}{κ:jh} {D:aU->Prop}{r:aU->Int}{st:dJ}{xs ys a₀:Array aU} {pd:Array (Nat×Nat×Nat)}{i j lo hi n m k q g pw nrem:Nat}
theorem YN {st':dJ}{Q:PUnit->dJ->Prop}(h:Q ⟨⟩ st'):vA (aM prog w) A E s (set st':SM PUnit) Q st:=iE (f:=λ_=>st') h
theorem lZ {t:Nat}{x:aU}(e:(xs.extract i j)[t]?=some x):i+t<j/\i+t<xs.size/\xs[i+t]?=some x:=by
 have h:=rg e;simp at h
 have e2:(xs.extract i j)[t]?=xs[i+t]?:=by rw [Array.getElem?_extract,if_pos (by lia)]
 exact ⟨by lia,by lia,by rw [← e2,e]⟩
theorem UZ (h:St r xs i j):(xs.extract i j).toList.Pairwise λx y=>r x<=r y:=pw_of λt u x y _ h2 _ e f=>h _ _ x y (ib _ _) (by lia) (lZ f).1 (lZ e).2.2 (lZ f).2.2
theorem St.whole {n1:Nat}(hn:n1<=xs.size) (h:∀ t u x y,t<n1->n1<=u->xs[t]?=some x->xs[u]?=some y->r x<=r y) (h1:St r xs 0 n1) (h2:St r xs n1 xs.size):St r xs 0 xs.size:=λt u x y a1 a2 a3 e f=>by
 by_cases c:u<n1
 ·exact h1 t u x y a1 a2 c e f
 ·by_cases d:t<n1
  ·exact h t u x y d (by lia) e f
  ·exact h2 t u x y (by lia) a2 a3 e f
theorem St.Ze (h:xs.toList.Pairwise λx y=>r x<=r y):St r xs 0 xs.size:=λt u x y _ a2 a3 e f=>by
 obtain ⟨h1,rfl⟩:=cE.mp e;obtain ⟨h2,rfl⟩:=cE.mp f
 by_cases c:t=u
 ·subst c;exact nB _
 ·have:=kr.mp h t u (by simpa using h1) (by simpa using h2) (by lia)
  simpa using this
theorem YO {q:Array aU}{Q:Bool->dJ->Prop}(h:∀ g',Q true (a8 κ (QF i q xs) pd g' none)) (hs:Sm κ xs pd st):vA (aM prog w) A E s (TC i q) Q st:=by
 obtain ⟨g',rfl⟩:=hs;exact aS (iE (aS (qe (bh (h g')))))
theorem YQ {n1 n2:Nat}(hc:Gh prog w A s κ D r) (h:Bs D a₀ 0 xs) (h1:0<n1) (h2:0<n2) (hn:n1+n2=xs.size) (s1:St r xs 0 n1) (s2:St r xs n1 xs.size) {Q:Bool->dJ->Prop}
  (hq:∀ ys g',Bs D a₀ 0 ys->St r ys 0 ys.size->Q true (a8 κ ys pd g' none)):vA (aM prog w) A E s (Z0 xs 0 n1 n1 n2) Q (a8 κ xs pd g none):=by
 obtain ⟨y0,ey⟩:=gm (a:=xs) (i:=n1) (by lia);obtain ⟨x1,ex⟩:=gm (a:=xs) (i:=n1-1) (by lia);unfold Z0;refine aS (m7 ey (aS (oO hc rfl (λt x e=>h.d e) (h.d ey) (by lia) (λt u x y z1 z2 z3=>s1 t u x y z1 z2 (by lia)) h1 λk k1 k2 k3=>?_)))
 have k2':∀ t x,t<k->xs[t]?=some x->r x<=r y0:=λt x z e=>by simpa [Bv] using k2 t x (aK _) (by lia) e
 have k3':∀ t x,k<=t->t<n1->xs[t]?=some x->r y0<r x:=λt x z z' e=>by simpa [Bv] using k3 t x (by lia) (by lia) e
 have yl:∀ t x,n1<=t->xs[t]?=some x->r y0<=r x:=λt x z e=>s2 _ _ _ _ (av _) z (rg e) ey e;have xl:∀ t x,t<n1->xs[t]?=some x->r x<=r x1:=λt x z e=>s1 _ _ _ _ (aK _) (by lia) (by lia) e ex;dsimp only
 by_cases c:n1-k=0
 ·rw [if_pos (by simpa using c)];exact bh (hq xs g h (St.whole (n1:=n1) (by lia) (λt u x y z1 z2 e f=>c8 (k2' t x (by lia) e) (yl u y z2 f)) s1 s2))
 ·rw [if_neg (by simpa using c)];rw [show 0+k+(n1-k)-1=n1-1 by lia,show 0+k=k by lia];refine aS (m7 ex (aS (oO hc rfl (λt x e=>h.d e) (h.d ex) (by lia) (λt u x y z1 z2 z3=>s2 t u x y z1 z2 (by lia)) (by lia) λm m1 m2 m3=>?_)));have m2':∀ t x,n1<=t->t<n1+m->xs[t]?=some x->r x<r x1:=λt x z z' e=>of_decide_eq_true (m2 t x z z' e);have m3':∀ t x,n1+m<=t->xs[t]?=some x->r x1<=r x:=λt x z e=>pH.mp (of_decide_eq_false (m3 t x z (by have:=rg e;lia) e));dsimp only
  by_cases d:m=0
  ·rw [if_pos (by simpa using d)];exact bh (hq xs g h (St.whole (n1:=n1) (by lia) (λt u x y z1 z2 e f=>c8 (xl t x z1 e) (m3' u y (by lia) f)) s1 s2))
  ·rw [if_neg (by simpa using d)]
   have sx:(xs.extract k n1).size=n1-k:=by simp;lia
   have sy:(xs.extract n1 (n1+m)).size=m:=by simp;lia
   have fin:∀ q,F r ((xs.extract k n1).toList++(xs.extract n1 (n1+m)).toList) q->∀ st',Sm κ xs pd st'->vA (aM prog w) A E s (TC k q) Q st':=λq hF st' hS=>by
    have pm:q.toList.Perm ((xs.extract k n1).toList++(xs.extract n1 (n1+m)).toList):=by simpa using hF.pm
    have lq:q.size=n1-k+m:=by have:=pm.length_eq;rw [bz,aL,aL,aL,sx,sy] at this;exact this
    have el:=WR (i:=k) (q:=q) (xs:=xs) (by lia)
    have tk:xs.toList.take k=(xs.extract 0 k).toList:=by simp
    have dp:xs.toList.drop (k+q.size)=(xs.extract (n1+m) xs.size).toList:=by rw [qZ];congr 1;lia
    rw [tk,dp] at el
    have wh:xs.toList=(xs.extract 0 k).toList++((xs.extract k n1).toList++(xs.extract n1 (n1+m)).toList)++(xs.extract (n1+m) xs.size).toList:=by
     have e1:=MS xs 0 k;have e2:=MS xs k (n1-k);have e3:=MS xs n1 m;rw [show k+(n1-k)=n1 by lia] at e2;rw [qZ];rw [Nat.zero_add] at e1;rw [dB,dB,← e3,← e2,← e1,HU]
    have mq:∀ x∈q.toList,(∃ t,k<=t/\t<n1/\xs[t]?=some x)\/∃ t,n1<=t/\t<n1+m/\xs[t]?=some x:=λx hx=>by
     rcases aN.mp (pm.mem_iff.mp hx) with z|z
     ·obtain ⟨t,a1,a2,_,e⟩:=xY z;exact .inl ⟨t,a1,a2,e⟩
     ·obtain ⟨t,a1,a2,_,e⟩:=xY z;exact .inr ⟨t,a1,a2,e⟩
    refine YO (λg'=>hq _ g' ⟨ft.mpr ?_,h.dd,λt ht=>absurd ht (by lia)⟩ (St.Ze ?_)) hS
    ·rw [el];refine List.Perm.trans ?_ (ft.mp h.pm);rw [wh];exact (pm.append_left _).append_right _
    ·rw [el];refine gC.mpr ⟨gC.mpr ⟨UZ λt u x y a1 a2 a3=>s1 t u x y a1 a2 (by lia),hF.so,λx hx y hy=>?_⟩,UZ λt u x y a1 a2 a3=>s2 t u x y (by lia) a2 a3,λx hx y hy=>?_⟩
     ·obtain ⟨t,_,a2,_,e⟩:=xY hx
      rcases mq y hy with ⟨u,b1,b2,f⟩|⟨u,b1,b2,f⟩
      ·exact s1 t u x y (aK _) (by lia) b2 e f
      ·exact c8 (k2' t x a2 e) (yl u y b1 f)
     ·obtain ⟨u,b1,b2,_,f⟩:=xY hy
      rcases aN.mp hx with hx|hx
      ·obtain ⟨t,_,a2,_,e⟩:=xY hx;exact c8 (k2' t x a2 e) (yl u y (by lia) f)
      ·rcases mq x hx with ⟨t,a1,a2,e⟩|⟨t,a1,a2,e⟩
       ·exact c8 (xl t x a2 e) (m3' u y b1 f)
       ·exact s2 t u x y a1 (by lia) b2 e f
   have da:∀ (t:Nat) x,(xs.extract k n1)[t]?=some x->D x:=λt x e=>h.d (lZ e).2.2;have db:∀ (t:Nat) x,(xs.extract n1 (n1+m))[t]?=some x->D x:=λt x e=>h.d (lZ e).2.2;have sa:St r (xs.extract k n1) 0 (xs.extract k n1).size:=λt u x y _ a2 _ e f=>s1 _ _ x y (aK _) (by lia) (lZ f).1 (lZ e).2.2 (lZ f).2.2;have sb:St r (xs.extract n1 (n1+m)) 0 (xs.extract n1 (n1+m)).size:=λt u x y _ a2 _ e f=>s2 _ _ x y (ib _ _) (by lia) (lZ f).2.1 (lZ e).2.2 (lZ f).2.2
   have yx:∀ (t u:Nat) x y,(xs.extract k n1)[t]?=some x->(xs.extract n1 (n1+m))[0]?=some y->r y<=r x:=λt u x y e f=>by
    have f:=(lZ f).2.2;rw [Nat.add_zero,ey] at f;cases f;exact gp (k3' _ x (by lia) (lZ e).1 (lZ e).2.2)
   have xy:∀ (t u:Nat) x y,t+1=(xs.extract k n1).size->(xs.extract k n1)[t]?=some x->(xs.extract n1 (n1+m))[u]?=some y->r y<=r x:=λt u x y z e f=>by
    have e:=(lZ e).2.2;rw [sx] at z;rw [show k+t=n1-1 by lia,ex] at e;cases e;exact gp (m2' _ y (by lia) (lZ f).1 (lZ f).2.2)
   by_cases f:n1-k<=m
   ·rw [if_pos f];exact aS (w_lo hc ⟨da,db,sa,sb,xy⟩ rfl (by lia) (by lia) (λx y e f=>yx 0 0 y x f e) λq st' w1 w2=>fin q w2 st' w1)
   ·rw [if_neg f];exact aS (w_hi hc ⟨da,db,sa,sb,λu x y e f=>yx u 0 y x f e⟩ rfl (by lia) (by lia) (λx y e f=>xy _ _ y x (by lia) f e) λq st' w1 w2=>fin q w2 st' w1)
end
end Sy
namespace Sy
open PySem PySem.W PyProof.Rows
theorem WS {n:Nat}(h2:2<=n) (h:n<128):n<=2*tj n n 0/\tj n n 0<=n/\1<=tj n n 0:=by
 obtain ⟨f,rfl⟩:∃ f,n=f+2:=⟨n-2,by lia⟩
 by_cases c:f+2<64
 ·have e:tj (f+1+1) (f+2) 0=f+2+0:=by rw [Uz,if_pos c]
  have e:tj (f+2) (f+2) 0=f+2:=e;lia
 ·have e:tj (f+1+1) (f+2) 0=(f+2)/2+max 0 ((f+2)%2):=by rw [Uz,if_neg c,Uz,if_pos (by lia)]
  have e:tj (f+2) (f+2) 0=(f+2)/2+max 0 ((f+2)%2):=e;lia
abbrev R1:=Option Unit×Nat
abbrev R0:=Option Unit×Unit
def cl1 (pw:Nat) (_:Nat) (_:R0):SM (ForInStep R0):=do
 let t ← get
 match (if (cN t).size>1 then (cN t)[(cN t).size-2]? else none) with
 | some (_,_,old)=>(if old<=pw then pure (.done (none,())) else (do
   let b ← XB ((cN t).size-2)
   if (!b)=true then pure (.done (some (),())) else pure (.yield (none,()))))
 | _=>pure (.done (none,()))
def YR (N lo n:Nat):SM (ForInStep R1):=do
 let t ← get
 match (cN t).back? with
 | some (s1,n1,_)=>(do
  let z ← forIn [0:N] ((none,()):R0) (cl1 (power' N (2*s1+n1) (2*s1+n1+n1+n) N))
  (match z.1 with
  | some r=>pure (.done (some r,lo))
  | none=>do
   modify λt=>setPending t ((cN t).modify ((cN t).size-1) λx=>(x.1,x.2.1,power' N (2*s1+n1) (2*s1+n1+n1+n) N))
   modify λt=>setPending t ((cN t).push (lo,n,0))
   pure (.yield (none,lo+n))))
 | _=>(do
  modify λt=>setPending t ((cN t).push (lo,n,0))
  pure (.yield (none,lo+n)))
def Od (N mr:Nat) (_:Nat) (z:R1):SM (ForInStep R1) :=
 if z.2>=N then pure (.done (none,z.2)) else do
  match ← countRun' z.2 (N-z.2) with
  | some f=>(if f<mr then (do
    liftM (EJ "list.sort.binary-insertion")
    let b ← XA z.2 (min (N-z.2) mr) f
    if (!b)=true then pure (.done (some (),z.2)) else YR N z.2 (min (N-z.2) mr)) else YR N z.2 f)
  | _=>pure (.done (some (),z.2))
def cl2 (_:Nat) (_:R0):SM (ForInStep R0):=do
 let t ← get
 if (cN t).size<=1 then pure (.done (none,())) else (do
  let b ← XB (if (if (cN t).size-2>0 then (cN t)[(cN t).size-2-1]?.map (·.2.1) else none).any (·<((cN t)[(cN t).size-2+1]?.elim 0 (·.2.1))) then (cN t).size-2-1 else (cN t).size-2)
  if (!b)=true then pure (.done (some (),())) else pure (.yield (none,())))
theorem TF:sortRuns'=(do
  let t ← get
  let z ← forIn [0:(mR t).size] ((none,0):R1) (Od (mR t).size (tj (mR t).size (mR t).size 0))
  (match z.1 with
  | some r=>pure r
  | none=>do
   let y ← forIn [0:(mR t).size] ((none,()):R0) cl2
   (match y.1 with
   | some r=>pure r
   | none=>pure ()))):=by kernel_rfl
section
variable {prog:a6}{w:bO}{A:bR}{E:ai->ao->Prop}{s:ao}{κ:jh} {D:aU->Prop}{r:aU->Int}{xs ys a₀:Array aU} {pd:Array (Nat×Nat×Nat)}{i j lo hi n m k q g pw nrem N n1:Nat}
theorem Up.st (h:Up r xs i j):St r xs i j:=λt u x y a1 a2 a3 e f=>by have:=h t u a1 a2 a3;rwa [TB e,TB f] at this
theorem WT {Q:ForInStep R1->dJ->Prop}(h:Q (.yield (none,lo+n)) (a8 κ xs #[(lo,n,0)] g none)):vA (aM prog w) A E s (YR N lo n) Q (a8 κ xs #[] g none) :=
 aS (qe (aS (iE (bh h))))
theorem WU {Q:ForInStep R1->dJ->Prop}(h:∀ pw,Q (.yield (none,lo+n)) (a8 κ xs #[(0,n1,pw),(lo,n,0)] g none)):vA (aM prog w) A E s (YR N lo n) Q (a8 κ xs #[(0,n1,0)] g none):=by
 refine aS (qe ?_)
 show vA _ _ _ _ (_ >>= _) _ _
 refine aS (mS (fR (I:=λ_ c st'=>c=(none,())/\st'=a8 κ xs #[(0,n1,0)] g none) (Q:=λc st'=>c=(none,())/\st'=a8 κ xs #[(0,n1,0)] g none) ?_ (λ_ _ z=>z) ⟨rfl,rfl⟩) ?_)
 ·rintro x c st' _ _ ⟨rfl,rfl⟩;exact aS (qe (bh ⟨rfl,rfl⟩))
 ·rintro c st' ⟨rfl,rfl⟩;exact aS (iE (aS (iE (bh (h _)))))
theorem U0 {mr:Nat}(hc:Gh prog w A s κ D r) (hD:∀ x∈xs.toList,D x) (h1:lo<N) (hN:N=xs.size) (hm:1<=mr) {Q:ForInStep R1->dJ->Prop}{z:R1}(hz:z.2=lo)
  (h:∀ ys m,1<=m->m<=N-lo->min (N-lo) mr<=m->ys.Perm xs->(∀ t,t<lo->ys[t]?=xs[t]?)->Up r ys lo (lo+m)->vA (aM prog w) A E s (YR N lo m) Q (a8 κ ys pd g none)):vA (aM prog w) A E s (Od N mr i z) Q (a8 κ xs pd g none):=by
 subst hN hz;unfold Od;rw [if_neg (by lia)];refine aS (w_count (a₀:=xs) hc ⟨Array.Perm.refl _,hD,λ_ _=>rfl⟩ (by lia) (by lia) λm ys m1 m2 hb hu=>?_);have hy:=hb.size;dsimp only
 by_cases c:m<mr
 ·rw [if_pos c];refine aS (HM (jd ⟨rfl,?_⟩));refine aS (QE hc hb (by lia) m1 (by lia) hu λzs hb' hu'=>?_);exact h zs _ (by lia) (by lia) (av _) hb'.pm hb'.ah hu'
 ·rw [if_neg c];exact h ys m m1 m2 (by lia) hb.pm hb.ah hu
theorem w_runs (hc:Gh prog w A s κ D r) (hD:∀ x∈a₀.toList,D x) (h2:2<=a₀.size) (h128:a₀.size<128) {Q:Unit->dJ->Prop}
  (hq:∀ ys st',mR st'=ys->iV st'=none->ys.Perm a₀->St r ys 0 ys.size->Q () st'):vA (aM prog w) A E s sortRuns' Q (a8 κ a₀ #[] 7 none):=by
 obtain ⟨r1,r2,r3⟩:=WS h2 h128;rw [TF];refine aS (qe ?_)
 show vA _ _ _ _ (forIn [0:a₀.size] _ (Od a₀.size (tj a₀.size a₀.size 0)) >>= _) _ _
 generalize tj a₀.size a₀.size 0=mr at r1 r2 r3;have dp:∀ {ys:Array aU},ys.Perm a₀->∀ x∈ys.toList,D x:=λh x hx=>hD x ((ft.mp h).mem_iff.mp hx)
 refine aS (mS (fR
  (I:=λx c st'=>(x=0/\c=(none,0)/\st'=a8 κ a₀ #[] 7 none)\/(∃ n1 ys,c=(none,n1)/\mr<=n1/\n1<=a₀.size/\(x=1\/n1=a₀.size)/\st'=a8 κ ys #[(0,n1,0)] 7 none/\ys.Perm a₀/\Up r ys 0 n1) \/
   (c=(none,a₀.size)/\∃ n1 pw ys,0<n1/\n1<a₀.size/\st'=a8 κ ys #[(0,n1,pw),(n1,a₀.size-n1,0)] 7 none/\ys.Perm a₀/\Up r ys 0 n1/\Up r ys n1 a₀.size))
  (Q:=λc st'=>c=(none,a₀.size)/\((∃ ys,st'=a8 κ ys #[(0,a₀.size,0)] 7 none/\ys.Perm a₀/\Up r ys 0 a₀.size)\/∃ n1 pw ys,0<n1/\n1<a₀.size/\st'=a8 κ ys #[(0,n1,pw),(n1,a₀.size-n1,0)] 7 none/\ys.Perm a₀/\Up r ys 0 n1/\Up r ys n1 a₀.size)) ?_ ?_ (.inl ⟨rfl,rfl,rfl⟩)) ?_)
 ·rintro x c st' _ hx (⟨rfl,rfl,rfl⟩|⟨n1,ys,rfl,b1,b2,b3,rfl,b5,b6⟩|⟨rfl,b⟩)
  ·refine U0 hc hD (lo:=0) (by lia) rfl r3 rfl λys m m1 m2 m3 p1 p2 p3=>WT (.inr (.inl ⟨m,ys,by simp,by lia,by lia,.inl rfl,rfl,p1,by simpa using p3⟩))
  ·have hy:=b5.size_eq
   by_cases c:n1=a₀.size
   ·unfold Od;rw [if_pos (by dsimp only;lia)];subst c;exact bh ⟨rfl,.inl ⟨ys,rfl,b5,b6⟩⟩
   ·refine U0 hc (dp b5) (lo:=n1) (by lia) hy.symm r3 rfl λzs m m1 m2 m3 p1 p2 p3=>WU λpw=>.inr (.inr ?_)
    have e:m=a₀.size-n1:=by lia
    subst e;rw [show n1+(a₀.size-n1)=a₀.size by lia] at p3 ⊢;exact ⟨rfl,n1,pw,zs,by lia,by lia,rfl,p1.trans b5,λt u z1 z2 z3=>by rw [K9 (p2 t (by lia)),K9 (p2 u z3)];exact b6 t u z1 z2 z3,p3⟩
  ·unfold Od;rw [if_pos (av _)];exact bh ⟨rfl,.inr b⟩
 ·rintro c st' (⟨hx,_⟩|⟨n1,ys,rfl,b1,b2,b3,b4,b5,b6⟩|⟨rfl,b⟩)
  ·lia
  ·have:n1=a₀.size:=by lia
   subst this;exact ⟨rfl,.inl ⟨ys,b4,b5,b6⟩⟩
  ·exact ⟨rfl,.inr b⟩
 ·rintro c st' ⟨rfl,b⟩
  refine aS (mS (fR (I:=λx c st'=>c=(none,())/\((∃ ys pw g,st'=a8 κ ys #[(0,a₀.size,pw)] g none/\ys.Perm a₀/\St r ys 0 ys.size)\/x=0/\∃ n1 pw ys,0<n1/\n1<a₀.size/\st'=a8 κ ys #[(0,n1,pw),(n1,a₀.size-n1,0)] 7 none/\ys.Perm a₀/\Up r ys 0 n1/\Up r ys n1 a₀.size))
   (Q:=λc st'=>c=(none,())/\∃ ys pw g,st'=a8 κ ys #[(0,a₀.size,pw)] g none/\ys.Perm a₀/\St r ys 0 ys.size) ?_ ?_ ⟨rfl,?_⟩) ?_)
  ·rintro x c st2 _ _ ⟨rfl,⟨ys,pw,g,rfl,b1,b2⟩|⟨rfl,n1,pw,ys,b1,b2,rfl,b4,b5,b6⟩⟩
   ·refine aS (qe ?_);rw [if_pos (show (cN (a8 κ ys #[(0,a₀.size,pw)] g none)).size<=1 from av 1)];exact bh ⟨rfl,ys,pw,g,rfl,b1,b2⟩
   ·refine aS (qe ?_);rw [if_neg (show ¬ (cN (a8 κ ys #[(0,n1,pw),(n1,a₀.size-n1,0)] 7 none)).size<=1 from λz=>absurd (show 2<=1 from z) (by lia))]
    show vA _ _ _ _ (XB 0 >>= _) _ _
    rw [YM];have hy:=b4.size_eq;refine aS (aS (qe ?_))
    show vA _ _ _ _ (_ >>= _) _ _
    refine aS (YN ?_)
    have ep:((#[(0,n1,pw),(n1,a₀.size-n1,0)]:Array (Nat×Nat×Nat)).setIfInBounds 0 (0,n1+(a₀.size-n1),pw)).eraseIdxIfInBounds 1=#[(0,a₀.size,pw)]:=by
     rw [show n1+(a₀.size-n1)=a₀.size by lia]
     apply j5.mp
     simp
    show vA _ _ _ _ (Z0 ys 0 n1 n1 (a₀.size-n1)) _ (a8 κ ys (((#[(0,n1,pw),(n1,a₀.size-n1,0)]:Array (Nat×Nat×Nat)).setIfInBounds 0 (0,n1+(a₀.size-n1),pw)).eraseIdxIfInBounds 1) 7 none)
    rw [ep];exact YQ hc ⟨b4,hD,λt z=>absurd z (by lia)⟩ b1 (by lia) (by lia) b5.st (by rw [hy];exact b6.st) λzs g' w1 w2=>bh ⟨rfl,.inl ⟨zs,pw,g',rfl,w1.pm,w2⟩⟩
  ·rintro c st2 ⟨e,b|⟨hx,_⟩⟩
   ·exact ⟨e,b⟩
   ·have hx:max 0 a₀.size=0:=hx;lia
  ·rcases b with ⟨ys,e,b1,b2⟩|b
   ·exact .inl ⟨ys,0,7,e,b1,by rw [b1.size_eq];exact b2.st⟩
   ·exact .inr ⟨rfl,b⟩
  ·rintro c st2 ⟨rfl,ys,pw,g,rfl,b1,b2⟩;exact bh (hq ys _ rfl rfl b1 b2)
end
end Sy
namespace Sy
open PySem PySem.W PyProof.Rows
theorem perm_map {α β:Type} {f:α->β}{m l:List β}(h:m.Perm l):∀ us:List α,m=us.map f->∃ us':List α,us'.Perm us/\l=us'.map f:=by
 induction h with
 | nil=>exact λus e=>⟨us,.refl _,e⟩
 | cons x _ ih =>
  intro us e
  match us,e with
  | u::us,e =>
   obtain ⟨e1,e2⟩:=iz e;obtain ⟨us',h1,h2⟩:=ih us e2
   exact ⟨u::us',h1.cons u,by rw [e1,h2];rfl⟩
 | swap x y l =>
  intro us e
  match us,e with
  | u::v::us,e =>
   obtain ⟨e1,e2⟩:=iz e;obtain ⟨e2,e3⟩:=iz e2
   exact ⟨v::u::us,.swap _ _ _,by rw [e1,e2,e3];rfl⟩
 | trans _ _ ih1 ih2 =>
  intro us e;obtain ⟨us1,h1,e1⟩:=ih1 us e;obtain ⟨us2,h2,e2⟩:=ih2 us1 e1;exact ⟨us2,h2.trans h1,e2⟩
section
variable {prog:a6}{w:bO}{A:bR}{E:ai->ao->Prop}{s:ao}{κ:jh} {r:ai->Int}{vs:List ai}
def Ks (prog:a6) (w:bO) (A:bR) (κ:jh) (r:ai->Int) (vs:List ai) (s:ao):Prop :=
 (∀ Q:jh->ao->Prop,Q κ s->aG (aM prog w) A (keyKind' vs.toArray) Q (λ_ _=>False) s)/\∀ x∈vs,∀ y∈vs,∀ Q:Bool->ao->Prop,Q (decide (r x<r y)) s->aG (aM prog w) A (keyLt' κ x y) Q (λ_ _=>False) s
theorem Oe {a:af}{n:Nat}{P:Kx->ao->Prop}(ho:s.heap.get? a=some (bW "list" vs.toArray n)) (hz:vs.length<128)
  (hk:2<=vs.length->∀ h',(∀ b o,b≠a->s.heap.get? b=some o->h'.get? b=some o)->Ks prog w A κ r vs { s with heap:=h' })
  (h:∀ h' c (out:List ai),(∀ b o,b≠a->s.heap.get? b=some o->h'.get? b=some o)->h'.get? a=some (bW "list" out.toArray c)->out.Perm vs->out.Pairwise (λx y=>r x<=r y)->P (.done (.ret .none)) { s with heap:=h' }) :
  aG (aM prog w) A (gG.«list.sort» ⟨[.ref a],[]⟩) P E s:=by
 have hl:vs.length<=aV:=L2.bI (m:=128) (by lia);rw [list_sort_plain]
 obtain ⟨c1,g1⟩:∃ c1,(s.heap.update a (bE λ_=>#[])).get? a=some (bW "list" #[] c1):=⟨_,iS ho λ_=>#[]⟩
 refine ae (HD ho rfl (ae (lN ho rfl (ae (KB g1 rfl (ae (Aq (ae (og (cA ?_) (aK _))) hl)))) (by rw [aO];exact hl) (aK _))));have g6:(((s.heap.update a (bE λ_=>#[])).push (bW "tuple" vs.toArray 0)).push (bW "list" #[] 0)).get? a=some (bW "list" #[] c1):=ar _ (ar _ g1);have k6:∀ b o,b≠a->s.heap.get? b=some o->(((s.heap.update a (bE λ_=>#[])).push (bW "tuple" vs.toArray 0)).push (bW "list" #[] 0)).get? b=some o:=λb o hb e=>ar _ (ar _ ((bx _ _ (Ne.symm hb)).trans e))
 show aG (aM prog w) A _ P E { s with heap:=((s.heap.update a (bE λ_=>#[])).push (bW "tuple" vs.toArray 0)).push (bW "list" #[] 0) }
 generalize ((s.heap.update a (bE λ_=>#[])).push (bW "tuple" vs.toArray 0)).push (bW "list" #[] 0)=h6 at g6 k6
 have sn:((vs.toArray.zip vs.toArray).map (·.2))=vs.toArray:=by
  apply j5.mp
  simp;exact VN (av _)
 have fin:∀ st:dJ,iV st=none->∀ out:List ai,(mR st).map (·.2)=out.toArray->out.Perm vs->out.Pairwise (λx y=>r x<=r y)->aG (aM prog w) A (do
   let t:=(← seqEpoch a) != c1
   iC (.ref a) λ_=>(mR st).map (·.2)
   if let some e:=iV st then EJ "list.sort.comparison-raised";throw e
   if t then EJ "list.sort.modified";raiseError "ValueError" "list modified during sort"
   ret .none) P E { s with heap:=h6 }:=λst hf out eo hp hs=>by
  rw [eo]
  obtain ⟨c7,g7⟩:∃ c7,(h6.update a (bE λ_=>out.toArray)).get? a=some (bW "list" out.toArray c7):=⟨_,iS g6 λ_=>out.toArray⟩
  refine ae (KB g6 rfl (ae (lN g6 rfl ?_ (aK _) (by rw [aO,hp.length_eq];exact Dg hl))));rw [hf];simp only [bne_self_eq_false,bY,if_false];exact ak (h _ c7 out (λb o hb e=>(bx _ _ (Ne.symm hb)).trans (k6 b o hb e)) g7 hp hs)
 dsimp only
 by_cases h2:vs.length<2
 ·rw [if_pos (by rw [aO];exact h2),if_pos (by rw [aO];exact h2)];refine ae (ak ?_);rw [UA];refine ae (ak (fin (a8 general' (vs.toArray.zip vs.toArray) #[] 7 none) rfl vs sn (.refl _) ?_))
  match vs,h2 with
  | [],_=>exact .nil
  | [z],_=>exact qK _ _
  | z::w::r,h2=>simp at h2;lia
 ·rw [if_neg (by rw [aO];exact h2),if_neg (by rw [aO];exact h2)];obtain ⟨q1,q2⟩:=hk (by lia) h6 k6;refine ae (dO (q1 (λκ' s'=>κ'=κ/\s'={ s with heap:=h6 }) ⟨rfl,rfl⟩) (λκ' s' e=>?_) λ_ _ x=>x.elim);obtain ⟨rfl,rfl⟩:=e
  have mz:∀ x∈(vs.toArray.zip vs.toArray).toList,x.1∈vs:=λx hx=>by
   rw [Dh] at hx;exact (tQ hx).1
  refine ae (dO (w_runs (a₀:=vs.toArray.zip vs.toArray) (D:=λx=>x.1∈vs) (r:=λx=>r x.1) (Q:=λ_ st'=>∃ ys,mR st'=ys/\iV st'=none/\ys.Perm (vs.toArray.zip vs.toArray)/\St (λx=>r x.1) ys 0 ys.size)
   (λx y hx hy Q q=>q2 x.1 hx y.1 hy Q q) mz (by simp;lia) (by simp;lia) λys st' a1 a2 a3 a4=>⟨ys,a1,a2,a3,a4⟩) ?_ λ_ _ x=>x)
  rintro ⟨⟨⟩,st'⟩ s' ⟨rfl,ys,e,hf,hp,hs⟩;have hp':=ft.mp hp
  have self:∀ x∈ys.toList,x.1=x.2:=λx hx=>by
   have:=hp'.mem_iff.mp hx;rw [Dh] at this;exact (mem_zip_self this).1
  refine fin st' hf (ys.toList.map (·.2)) (by rw [e];apply j5.mp;simp) ?_ ?_
  ·have:=hp'.map (·.2);rw [← ml,← ml,sn] at this
   simpa using this
  ·refine dC.mpr ((pw_of hs).imp_of_mem λ{x y} hx hy z=>?_);rw [← self x hx,← self y hy];exact z
theorem sorted_vals {p:af}{Q:ai->ao->Prop}(hz:vs.length<128)
  (hcol:∀ (Q':List ai->ao->Prop),(∀ h' tk,(∀ b o,s.heap.get? b=some o->h'.get? b=some o)->Q' vs { s with heap:=h',toks:=tk })->aG (aM prog w) A.in1 (HF (.ref p)) Q' E s)
  (hk:2<=vs.length->∀ h' tk,(∀ b o,s.heap.get? b=some o->h'.get? b=some o)->Ks prog w A.in1.in1 κ r vs { s with heap:=h',toks:=tk })
  (h:∀ D c h' tk (out:List ai),(∀ b o,s.heap.get? b=some o->h'.get? b=some o)->s.heap.get? D=none->h'.get? D=some (bW "list" out.toArray c)->out.Perm vs->out.Pairwise (λx y=>r x<=r y)->Q (.ref D) { s with heap:=h',toks:=tk }) :
  aG (aM prog w) A (call (.builtin "sorted") [.ref p]) Q E s:=by
 have hl:vs.length<=aV:=L2.bI (m:=128) (by lia);refine pF KA HI HJ (args_sorted1 _) (ae (m:=OT "sorted" 1 1 _) (ak (ae (hcol _ λh1 tk keep=>ae (og ?_ hl)))));have g:(h1.push (bW "list" vs.toArray 0)).get? h1.objs.size=some (bW "list" vs.toArray 0):=aI _ rfl;have hb:∀ b o,s.heap.get? b=some o->b≠h1.objs.size:=λb o e=>bg (aJ (keep b o e));have k2:∀ {h':cf},(∀ b o,b≠h1.objs.size->(h1.push (bW "list" vs.toArray 0)).get? b=some o->h'.get? b=some o)->∀ b o,s.heap.get? b=some o->h'.get? b=some o:=λk b o e=>k b o (hb b o e) (ar _ (keep b o e))
 show aG (aM prog w) A.in1 (do let _ ← j9 [aD h1.objs.size] (call (.builtin "list.sort") [aD h1.objs.size]);ret (aD h1.objs.size)) _ _ { s with heap:=h1.push (bW "list" vs.toArray 0),toks:=tk }
 have hD:s.heap.get? h1.objs.size=none:=by
  cases q:s.heap.get? h1.objs.size with
  | none=>rfl
  | some o=>exact absurd rfl (hb _ o q)
 exact ae (cA (cL Av ⟨_,g,rfl⟩ xK (Oe (s:={ s with heap:=h1.push (bW "list" vs.toArray 0),toks:=tk }) g hz (λh2 h' k=>hk h2 h' tk (k2 k)) λh' c out k gD hp hs=>⟨_,rfl,ak ⟨_,rfl,h _ c h' tk out (k2 k) hD gD hp hs⟩⟩) (args_list_sort _)))
end
end Sy
namespace L2
open PySem PySem.Spec PyProof.Rows PySem.W
def Inv.RO {X:Cx}{pins:List (af×fT)}{Z:St}{H:Hp}{s:ao}{h':cf}{a:af}{o:HO}{t':Nat}(I:Inv X pins Z H s) (k:∀ b u,s.heap.get? b=some u->h'.get? b=some u) (gn:s.heap.get? a=none) (new:fg X.prog X.w (upd H a o) h' a o) :
  H a=none/\Inv X pins Z (upd H a o) { s with heap:=h',toks:=t' }:=by
 have hn:H a=none:=by
  cases q:H a with
  | none=>rfl
  | some u =>
   obtain ⟨w,e⟩:=(I.fo a u q).obj;rw [gn] at e;cases e
 have ne:∀ {b u},H b=some u->b≠a:=λe=>aQ e hn;refine ⟨hn,I.un ⟨λb u q _ _ _=>k b u q,λb u q _ _ _=>⟨u.slots,k b u q⟩,λb u q n _=>?_,λb u q _=>⟨u,k b u q⟩,λb xs q=>by rw [aH (ne q)];exact q,λb u xs q=>by rw [aH (ne q)];exact q,λb ps q=>⟨#[],by rw [aH (ne q),q];simp⟩⟩ λb u e=>?_⟩
 ·rw [aH];exact n;rintro rfl;rw [gn] at q;cases q
 ·by_cases hb:b=a
  ·subst hb;rw [aF] at e;cases e;exact new
  ·rw [aH hb] at e
   exact (I.fo b u e).Ak (λc v _ q=>k c v q) (λc q=>by rw [aH (ne q)];exact q) λc xs q=>by rw [aH (ne q)];exact q
def U3 (zs:List Zn):ai->Int
 | .ref a=>((zs.find? λz=>z.2 == a).map λz=>Fc (zs.map (·.1)) z.1).getD 0
 | _=>0
section
variable {X:Cx}{pins:List (af×fT)}{Z:St}{H:Hp}{s:ao}{zs:List Zn}{m:List Bool}
def rh (hz:∀ z∈zs,∀ z'∈zs,z.2=z'.2->z.1=z'.1) {z:Zn}(h:z∈zs):U3 zs (.ref z.2)=Fc (zs.map (·.1)) z.1:=by
 show ((zs.find? λy=>y.2 == z.2).map _).getD 0=_
 cases q:zs.find? (λy=>y.2 == z.2) with
 | none=>exact absurd (Sl.mp q z h) (by simp)
 | some y =>
  have e:=Xq q
  show Fc _ y.1=_
  rw [hz y (Kn q) z h (by simpa using e)]
def QH {m:List Bool}{xs:List V}{ks:List Int}(f:Flat m xs ks):∀ {ls:List Int},Flat m xs ls->ks=ls:=by
 induction f with
 | nil=>intro ls g;cases g;rfl
 | int i _ ih=>intro ls g;cases g with|int _ g=>rw [ih g]
 | bl b _ ih=>intro ls g;cases g with|bl _ g=>rw [ih g]
def yT {r:af}{Q:VK}(I:Inv X pins Z H s) (hz:∀ z∈zs,Bu m H z) (hl:zs.length<128)
  (hcol:∀ (Q':List ai->ao->Prop),(∀ h' tk,(∀ b o,s.heap.get? b=some o->h'.get? b=some o)->Q' (zs.map λz=>aD z.2) { s with heap:=h',toks:=tk })->aG (aM X.prog X.w) X.A.in1 (HF (.ref r)) Q' X.xe s)
  (q:∀ (l:af) (zs':List Zn),H l=none->zs'.Perm zs->zs'.Pairwise (λz w=>fN w.1 z.1=false)->Q (.ref l) (upd H l (.lst (zs'.map lF)))):aG (aM X.prog X.w) X.A (call (.builtin "sorted") [.ref r]) (EP X pins Z Q) X.xe s:=by
 have tup:∀ z∈zs,∃ xs us,Flat (false::m) xs z.1/\Vals xs us/\pK s.heap z.2 us.toArray:=λz hz'=>by
  obtain ⟨xs,h1,h2⟩:=hz z hz';obtain ⟨ts,r,it,_⟩:=I.tuple (.of h1);exact ⟨xs,ts,h2,r,it⟩
 have one:∀ z∈zs,∀ z'∈zs,z.2=z'.2->z.1=z'.1:=λz h z' h' e=>by
  obtain ⟨xs,e1,f1⟩:=hz z h;obtain ⟨ys,e2,f2⟩:=hz z' h';rw [e,e2] at e1;cases e1;exact QH f1 f2
 refine Sy.sorted_vals (κ:=Uy true) (r:=U3 zs) (by rw [ag];exact hl) hcol (λh2 h' tk keep=>?_) λD c h' tk out keep gD g hp hs=>?_
 ·rw [ag] at h2
  have tup':∀ z∈zs,∃ xs us,Flat (false::m) xs z.1/\Vals xs us/\pK h' z.2 us.toArray:=λz hz'=>by
   obtain ⟨xs,us,f,r,o,e,rest⟩:=tup z hz';exact ⟨xs,us,f,r,o,keep _ _ e,rest⟩
  obtain ⟨fs,k1,k2,k3⟩:=MQ (zs:=zs) (h:=h') λz hz'=>by
   obtain ⟨xs,us,f,r,it⟩:=tup' z hz';generalize z.1=kz at f
   cases f with
   | int i f =>
    cases r with
    | cons r1 r=>obtain ⟨t,rfl⟩:=r1;exact ⟨i,t,_,it⟩
  refine ⟨λQ hQ=>kat_kind (T:=.type "int") k1 (by lia) (λv hv=>by obtain ⟨i,t,rfl⟩:=k3 v hv;exact Looks.now) rfl (by rw [show (eX "int" != eX "tuple")=true by decide];exact hQ),λx hx y hy Q hQ=>?_⟩;obtain ⟨z,hz',rfl⟩:=aT.mp hx;obtain ⟨z',hz2,rfl⟩:=aT.mp hy;obtain ⟨xs,us,f1,r1,i1⟩:=tup' z hz';obtain ⟨ys,ws,f2,r2,i2⟩:=tup' z' hz2;refine MP (s:={ s with heap:=h',toks:=tk }) f1 f2 r1 r2 i1 i2 ?_;rw [rh one hz',rh one hz2,vS (aZ hz')] at hQ;exact hQ
 ·obtain ⟨zs',p',rfl⟩:=Sy.perm_map hp.symm zs rfl;obtain ⟨hn,I2⟩:=I.RO (t':=tk) (o:=.lst (zs'.map lF)) keep gD ⟨by rw [ag,p'.length_eq];exact bI (m:=128) (by lia),_,c,pV zs',g⟩;refine ⟨.ref D,_,I2,rfl,q D zs' hn p' ((dC.mp hs).imp_of_mem λ{z w} hz1 hw z2=>?_)⟩;have a1:=p'.mem_iff.mp hz1;have a2:=p'.mem_iff.mp hw
  cases e:fN w.1 z.1 with
  | false=>rfl
  | true =>
   rw [← vS (ts:=zs.map (·.1)) (aZ a2),decide_eq_true_iff] at e;rw [rh one a1,rh one a2] at z2;lia
def kJ (K:aa):List V->Hp->VK->Prop:=λxs H Q=>∃ (p:af) (zs:List Zn) (m:List Bool),xs=[.ref p]/\c6 K H p (zs.map lF)/\(∀ z∈zs,Bu m H z)/\zs.length<128 /\
 ∀ (l:af) (zs':List Zn),H l=none->zs'.Perm zs->zs'.Pairwise (λz w=>fN w.1 z.1=false)->Q (.ref l) (upd H l (.lst (zs'.map lF)))
def vU:mD X (.builtin "sorted") (kJ X.K):=by
 intro pins s Z H xs us Q I r h;obtain ⟨p,zs,mk,rfl,hq,hz,hl,q⟩:=h;obtain ⟨u,rfl,ru⟩:=vals1 r;cases ru;obtain ⟨its,rv,pl,hsz⟩:=I.list hq;have ei:=vT rv;subst ei;refine yT I hz hl (λQ' k=>collect_list pl.isList (k _ s.toks λb o e=>?_) (by rw [ag];exact bI (m:=128) (by lia))) q;have hlt:=aJ e;exact (bx _ _ (dU hlt)).trans (ar _ e)
def IT:List V->Hp->VK->Prop:=λxs H Q=>∃ (p:af) (kvs:List (List iA×V)),xs=[.ref p]/\H p=some (.dT kvs)/\(∀ q∈kvs,∃ x y:Int,q.1=[du x,du y])/\kvs.length<128 /\
 ∀ (l:af) (zs:List Zn),H l=none->(∀ z∈zs,Bu [false] H z)->(zs.map (·.1)).Perm (kvs.map λp=>p.1.map λk=>k.elim id λ_=>0)->zs.Pairwise (λz w=>fN w.1 z.1=false)->Q (.ref l) (upd H l (.lst (zs.map lF)))
def Gi (hc:X.calm=true):mD X (.builtin "sorted") IT:=by
 intro pins s Z H xs us Q I r h;obtain ⟨p,kvs,rfl,hp,hk,hl,q⟩:=h;obtain ⟨u,rfl,ru⟩:=vals1 r;cases ru
 obtain ⟨hz,lo,ys,rel,o,es,ep,e1,e2,e3,e4,e5⟩:=(show fg X.prog X.w H s.heap p (.dT kvs) from I.fo p _ hp)
 obtain ⟨ws,k1,k2,k3⟩:=MK rel hk
 have hlen:ws.length=kvs.length:=by have:=congrArg dt k3;simpa using this.symm
 have raw:yD s.heap p ((ws.map λz=>(([z.1,z.2.1],z.2.2):Zn)).map λz=>aD z.2) ep:=⟨o,es,e1,e2,e3,by rw [e4,bo];rw [show (λq:List iA×af×ai=>aD q.2.1)=(λq=>aD q.2.1) from rfl] at k1;exact k1▸(by rw [bo];rfl)⟩
 have hz2:∀ z∈ws.map (λz=>(([z.1,z.2.1],z.2.2):Zn)),Bu [false] H z:=λz hz'=>by
  obtain ⟨y,hy,rfl⟩:=aT.mp hz';exact ⟨_,k2 y hy,.int _ (.int _ .nil)⟩
 refine yT I hz2 (by rw [ag];lia) (λQ' k=>II (To lo) (I.ok.hd hc) raw (by rw [ag,ag];exact bI (m:=128) (by lia)) λh' tk acc keep ha=>?_) (λl zs' hn hpm hs=>q l zs' hn (λz hz'=>hz2 z (hpm.mem_iff.mp hz')) ?_ hs)
 ·rw [IJ ha];exact k h' tk keep
 ·refine (hpm.map (·.1)).trans (List.Perm.of_eq ?_);have:=congrArg (O7 λk:List iA=>k.map λk=>k.elim id λ_=>(0:Int)) k3;rw [bo,bo] at this;rw [bo];exact (this.trans (eE λz _=>rfl)).symm
end
end L2
namespace L2
open PySem PySem.Spec PyProof.Rows PySem.W
section
variable {X:Cx}
def U4 (K:aa):List V->Hp->VK->Prop:=λxs H Q=>∃ (p:af) (ns:List Int),xs=[.ref p]/\c6 K H p (ns.map V.int)/\0<ns.length/\∀ M,M∈ns->(∀ a∈ns,a<=M)->Q (.int M) H
def Fg (hc:X.calm=true):mD X (.builtin "max") (U4 X.K):=by
 intro pins s Z H xs us Q I r h;obtain ⟨p,ns,rfl,hq,hf,q⟩:=h;obtain ⟨u,rfl,ru⟩:=vals1 r;cases ru;obtain ⟨its,rv,pl,hz⟩:=I.list hq;have hi:fz its ns:=intsAre_of rv;obtain ⟨ys,e⟩:=hi.allInts.items;have hn:=hi.numsOf
 have e':its=(Xy ys).toList:=by rw [← e]
 rw [e',nums_intItems] at hn
 have hl:s.heap.IsList p (Xy ys):=by rw [← e];exact pl.isList
 subst hn;rw [ag,aL] at hf;refine max_intList (I.ok.hd hc) hl hf λv h' tk hv hk=>?_;obtain ⟨t,rfl⟩:=intItems_at hv;obtain ⟨h1,h2⟩:=argBest_gt (numAt ys) (ys.size-1);refine ⟨.int _,H,I.kept hk,⟨t,rfl⟩,q _ ?_ λa ha=>?_⟩
 ·rw [numAt_eq];exact getD_mem (by rw [ag,aL];lia)
 ·obtain ⟨j,hj,rfl⟩:=mem_getD ha;rw [ag,aL] at hj;rw [← numAt_eq];exact h2 j (by lia)
end
end L2
namespace L2
open PySem PySem.Spec PySem.Calls PyProof.Rows PySem.W
def U5 (a:af) (h h':cf):Prop:=∀ b o,b≠a->h.get? b=some o->h'.get? b=some o
section
variable {prog:a6}{w:bO}{A:bR}{E:ai->ao->Prop}{s:ao}{a:af}{f:ai}{zs:List Zn}{KO:Zn->fT->Prop}
def IU {n:Nat}{P:Kx->ao->Prop}(ho:s.heap.get? a=some (bW "list" (zs.map λz:Zn=>aD z.2).toArray n)) (hl:zs.length<128) (one:∀ z∈zs,∀ z'∈zs,z.2=z'.2->z.1=z'.1)
  (turn:∀ z∈zs,∀ (h:cf) (tk:Nat),U5 a s.heap h->∀ R:ai->ao->Prop,(∀ h' tk' k o,(∀ b o,h.get? b=some o->h'.get? b=some o)->h.get? k=none->h'.get? k=some o->KO z o->R (.ref k) { s with heap:=h',toks:=tk' }) ->
   aG (aM prog w) A (call f [.ref z.2]) R (λ_ _=>False) { s with heap:=h,toks:=tk })
  (hkind:∀ z o,KO z o->o.cls=.type "tuple"/\∃ i t xs n,o.data=.seq xs n/\xs[0]?=some (.int i t))
  (hlt:∀ z∈zs,∀ z'∈zs,∀ k k' o o' (h:cf) (tk:Nat),U5 a s.heap h->h.get? k=some o->h.get? k'=some o'->KO z o->KO z' o'->∀ Q:Bool->ao->Prop,Q (fN z.1 z'.1) { s with heap:=h,toks:=tk }->aG (aM prog w) A (keyLt' (Uy true) (.ref k) (.ref k')) Q (λ_ _=>False) { s with heap:=h,toks:=tk })
  (fin:∀ h' tk c (zs':List Zn),U5 a s.heap h'->h'.get? a=some (bW "list" (zs'.map λz:Zn=>aD z.2).toArray c)->zs'.Perm zs->zs'.Pairwise (λz w=>fN w.1 z.1=false)->P (.done (.ret .none)) { s with heap:=h',toks:=tk }) :
  aG (aM prog w) A (ksk_tree a f false) P E s:=by
 have hz:(zs.map λz:Zn=>aD z.2).length<=aV:=bI (m:=128) (by rw [ag];lia);have sl:1000<=aV:=bI (m:=1000) (av _)
 obtain ⟨c1,g1⟩:∃ c,(s.heap.update a (bE λ_=>(#[]:Array ai))).get? a=some (bW "list" #[] c):=⟨_,iS ho λ_=>#[]⟩
 unfold ksk_tree;refine ae (HD ho rfl (ae (lN ho rfl (ae (KB g1 rfl (ae (Aq (ae (og (cA ?_) (aK _))) hz)))) (by rw [aO];exact hz) (aK _))));have k2:∀ b o,(s.heap.update a (bE λ_=>(#[]:Array ai))).get? b=some o->(((s.heap.update a (bE λ_=>(#[]:Array ai))).push (bW "tuple" (zs.map λz:Zn=>aD z.2).toArray 0)).push (bW "list" #[] 0)).get? b=some o:=λb o e=>ar _ (ar _ e);have gk:(((s.heap.update a (bE λ_=>(#[]:Array ai))).push (bW "tuple" (zs.map λz:Zn=>aD z.2).toArray 0)).push (bW "list" #[] 0)).get? ((s.heap.update a (bE λ_=>(#[]:Array ai))).push (bW "tuple" (zs.map λz:Zn=>aD z.2).toArray 0)).objs.size=some (bW "list" #[] 0):=aI _ rfl;have kfr:∀ b o,(s.heap.update a (bE λ_=>(#[]:Array ai))).get? b=some o->b≠((s.heap.update a (bE λ_=>(#[]:Array ai))).push (bW "tuple" (zs.map λz:Zn=>aD z.2).toArray 0)).objs.size:=λb o e=>bg (aJ (ar (bW "tuple" (zs.map λz:Zn=>aD z.2).toArray 0) e));have up:∀ b o,b≠a->s.heap.get? b=some o->(s.heap.update a (bE λ_=>(#[]:Array ai))).get? b=some o:=λb o hb e=>(bx _ _ (Ne.symm hb)).trans e
 show aG (aM prog w) A (ksk_rest a f false (zs.map λz:Zn=>aD z.2).toArray _ (.ref ((s.heap.update a (bE λ_=>(#[]:Array ai))).push (bW "tuple" (zs.map λz:Zn=>aD z.2).toArray 0)).objs.size)) _ _ { s with heap:=((s.heap.update a (bE λ_=>(#[]:Array ai))).push (bW "tuple" (zs.map λz:Zn=>aD z.2).toArray 0)).push (bW "list" #[] 0) }
 generalize ((s.heap.update a (bE λ_=>(#[]:Array ai))).push (bW "tuple" (zs.map λz:Zn=>aD z.2).toArray 0)).objs.size=kS at gk kfr;generalize ((s.heap.update a (bE λ_=>(#[]:Array ai))).push (bW "tuple" (zs.map λz:Zn=>aD z.2).toArray 0)).push (bW "list" #[] 0)=h2 at k2 gk;have hak:a≠kS:=kfr a _ g1;have g2:=k2 _ _ g1;have kp2:U5 a s.heap h2:=λb o hb e=>k2 _ _ (up b o hb e);have nk:∀ b o,b≠a->s.heap.get? b=some o->b≠kS:=λb o hb e=>kfr b o (up b o hb e);generalize s.heap.update a (bE λ_=>(#[]:Array ai))=hx at k2 kfr up g1;unfold ksk_rest;refine ae (jd ?_);rw [List.forIn_toArray]
 -- the keys
 have KH:∀ (r done:List Zn) (ks:List af) (e:Nat) (h:cf) (tk:Nat) (R:ao->Prop),done++r=zs->U5 a s.heap h->h.get? a=some (bW "list" #[] c1)->h.get? kS=some (bW "list" (ks.map aD).toArray e)->Paired (λ(z:Zn) (k:af)=>∃ o,h.get? k=some o/\KO z o/\k≠kS/\k≠a) done ks ->
   (∀ ks' e' h' tk',U5 a s.heap h'->h'.get? a=some (bW "list" #[] c1)->h'.get? kS=some (bW "list" (ks'.map aD).toArray e')->Paired (λ(z:Zn) (k:af)=>∃ o,h'.get? k=some o/\KO z o/\k≠kS/\k≠a) zs ks'->R { s with heap:=h',toks:=tk' }) ->
   aG (aM prog w) A (forIn (r.map λz:Zn=>aD z.2) PUnit.unit λx _=>do
    match ← (call f [x]).attempt with
    | .ok k=>iC (.ref kS) (·.push k);pure (ja PUnit.unit)
    | .error e =>
     EJ "list.sort.key-raised"
     let made ← Dp (.ref kS)
     iC (.ref kS) λ_=>#[]
     letGo made.toList.reverse [e]
     iC (.ref a) λ_=>(zs.map λz:Zn=>aD z.2).toArray;throw e) (λ_ s'=>R s') E { s with heap:=h,toks:=tk }:=by
  intro r
  induction r with
  | nil =>
   intro done ks e h tk R hr kp ga gS rel q;rw [tP] at hr;subst hr;rw [AH,HV]
   exact ak (q ks e h tk kp ga gS rel)
  | cons z r ih =>
   intro done ks e h tk R hr kp ga gS rel q;rw [b0,tS]
   have hlen:ks.length<128:=by
    have:=congrArg dt hr;rw [bz,bV,← uX rel] at this;lia
   refine ae (ae (ip (dO (turn z (by rw [← hr];simp) h tk kp _ λh' tk' k o keep kn hk ko=>?_) (λ_ _ x=>x) λ_ _ x=>x.elim)))
   have kkS:k≠kS:=λq=>by rw [q,gS] at kn;cases kn
   have kka:k≠a:=λq=>by rw [q,ga] at kn;cases kn
   have gS':=keep _ _ gS
   have ea:(ks.map aD).toArray.push (.ref k)=((ks++[k]).map aD).toArray:=by simp
   obtain ⟨c2,g3⟩:∃ c2,(h'.update kS (bE (·.push (.ref k)))).get? kS=some (bW "list" ((ks++[k]).map aD).toArray c2):=⟨_,by rw [← ea];exact iS gS' (·.push (.ref k))⟩
   have ot:∀ {b:af}{o:fT},b≠kS->h'.get? b=some o->(h'.update kS (bE (·.push (.ref k)))).get? b=some o:=λhb e=>(bx _ _ (Ne.symm hb)).trans e;refine ae (lN gS' rfl (ak ?_) (by rw [aO,ag];lia) (by rw [iB,aO,ag];lia));refine ih (done++[z]) (ks++[k]) c2 _ tk' R (by rw [← hr];simp) (λb o hb e=>ot (nk b o hb e) (keep _ _ (kp b o hb e))) (ot hak (keep _ _ ga)) g3 ?_ q;refine yS ⟨o,ot kkS hk,ko,kkS,kka⟩ (Paired.Oz rel λz' k' ⟨o',e1,e2,e3,e4⟩=>⟨o',ot e3 (keep _ _ e1),e2,e3,e4⟩)
 refine ae (KH zs [] [] 0 h2 s.toks _ rfl kp2 g2 gk .nil λks e h tk kp ga gS rel=>?_);refine ae (HD gS rfl ?_);have hkl:=uX rel
 -- the end
 have tail:∀ st:dJ,iV st=none->∀ zs':List Zn,(mR st).map (·.2)=(zs'.map λz:Zn=>aD z.2).toArray->zs'.Perm zs->zs'.Pairwise (λz w=>fN w.1 z.1=false)->aG (aM prog w) A (ksk_tail a false c1 (.ref kS) st) P E { s with heap:=h,toks:=tk }:=λst hf zs' eo hp hs=>by
  obtain ⟨c3,g3⟩:∃ c3,(h.update kS (bE λ_=>(#[]:Array ai))).get? kS=some (bW "list" #[] c3):=⟨_,iS gS λ_=>#[]⟩
  have ga':(h.update kS (bE λ_=>(#[]:Array ai))).get? a=some (bW "list" #[] c1):=(bx _ _ (Ne.symm hak)).trans ga
  obtain ⟨c4,g4⟩:∃ c4,((h.update kS (bE λ_=>(#[]:Array ai))).update a (bE λ_=>(zs'.map λz:Zn=>aD z.2).toArray)).get? a=some (bW "list" (zs'.map λz:Zn=>aD z.2).toArray c4):=⟨_,iS ga' λ_=>(zs'.map λz:Zn=>aD z.2).toArray⟩
  unfold ksk_tail
  try dsimp only
  rw [eo];simp only [bY,if_false];refine ae (lN gS rfl (ae (Ky (ae (KB ga' rfl (ae (lN ga' rfl ?_ (aK _) (by rw [aO,ag,hp.length_eq];lia))))))) (by rw [aO,ag];lia) (aK _));rw [hf];simp only [bne_self_eq_false,bY,if_false];exact ak (fin _ tk c4 zs' (λb o hb e=>(bx _ _ (Ne.symm hb)).trans ((bx _ _ (Ne.symm (nk b o hb e))).trans (kp b o hb e))) g4 hp hs)
 have zip2:((ks.map aD).toArray.zip (zs.map λz:Zn=>aD z.2).toArray).map (·.2)=(zs.map λz:Zn=>aD z.2).toArray:=by
  apply j5.mp
  simp;exact VN (by simp [hkl])
 unfold ksk_end;simp only [bY,if_false]
 by_cases h2':zs.length<2
 ·rw [if_pos (by rw [aO,ag];exact h2'),if_pos (by rw [aO,ag];exact h2')];refine ae (ak ?_);rw [UA];refine ae (ak (tail _ rfl zs zip2 (.refl _) ?_))
  match zs,h2' with
  | [],_=>exact .nil
  | [z],_=>exact qK _ _
  | z::w::r,h2=>simp at h2;lia
 ·rw [if_neg (by rw [aO,ag];exact h2'),if_neg (by rw [aO,ag];exact h2')]
  have kt:∀ {zs:List Zn}{ks:List af},Paired (λ(z:Zn) (k:af)=>∃ o,h.get? k=some o/\KO z o/\k≠kS/\k≠a) zs ks->∃ fs,KatTups h (ks.map aD) fs/\fs.length=zs.length/\∀ v∈fs,∃ i t,v=fw i t:=by
   intro zs ks rel
   induction rel with
   | nil=>exact ⟨[],.nil,rfl,λ_ h=>nomatch h⟩
   | cons r _ ih =>
    obtain ⟨fs,f1,f2,f3⟩:=ih;obtain ⟨o,e1,e2,_⟩:=r;obtain ⟨cc,i,t,xs,n,d,d0⟩:=hkind _ o e2;refine ⟨.int i t::fs,Xx e1 cc d d0 f1,by simp [f2],λv hv=>?_⟩
    rcases au.mp hv with rfl|hv
    ·exact ⟨_,t,rfl⟩
    ·exact f3 v hv
  obtain ⟨fs,f1,f2,f3⟩:=kt rel;refine ae (kat_kind (T:=.type "int") f1 (by lia) (λv hv=>by obtain ⟨i,t,rfl⟩:=f3 v hv;exact Looks.now) rfl ?_);rw [show (eX "int" != eX "tuple")=true by decide]
  have mz:∀ x∈((ks.map aD).toArray.zip (zs.map λz:Zn=>aD z.2).toArray).toList,∃ z∈zs,∃ k o,x=(aD k,aD z.2)/\h.get? k=some o/\KO z o:=λx hx=>by
   rw [Dh] at hx;obtain ⟨i,hi⟩:=bJ.mp hx;obtain ⟨x1,x2⟩:=x;rw [pL] at hi;obtain ⟨q1,q2⟩:=hi;simp only [aB] at q1 q2;obtain ⟨z,z1,z2⟩:=bw.mp q2;obtain ⟨k,k1,k2⟩:=bw.mp q1;obtain ⟨k',k3,o,e1,e2,_⟩:=Bw rel i z z1;rw [k1] at k3;cases k3;exact ⟨z,aR z1,k,o,by rw [← k2,← z2],e1,e2⟩
  refine ae (dO (Sy.w_runs (prog:=prog) (w:=w) (A:=A) (E:=E) (s:={ s with heap:=h,toks:=tk }) (a₀:=(ks.map aD).toArray.zip (zs.map λz:Zn=>aD z.2).toArray) (D:=λx=>∃ z∈zs,∃ k o,x=(aD k,aD z.2)/\h.get? k=some o/\KO z o) (r:=λx=>U3 zs x.2) (κ:=Uy true)
   (Q:=λ_ st'=>∃ ys,mR st'=ys/\iV st'=none/\ys.Perm ((ks.map aD).toArray.zip (zs.map λz:Zn=>aD z.2).toArray)/\Sy.St (λx=>U3 zs x.2) ys 0 ys.size) ?_ mz (by simp [hkl];lia) (by simp [hkl];lia) λys st' a1 a2 a3 a4=>⟨ys,a1,a2,a3,a4⟩) ?_ λ_ _ x=>x)
  ·rintro x y ⟨z,hz1,k,o,rfl,e1,e2⟩ ⟨z',hz2,k',o',rfl,e3,e4⟩ Q hQ;refine hlt z hz1 z' hz2 k k' o o' h tk kp e1 e3 e2 e4 Q ?_;have hQ:Q (decide (U3 zs (.ref z.2)<U3 zs (.ref z'.2))) _:=hQ;rw [rh one hz1,rh one hz2,vS (aZ hz1)] at hQ;exact hQ
  ·rintro ⟨⟨⟩,st'⟩ s' ⟨rfl,ys,e,hf,hp,hs⟩;have hp':=(ft.mp hp).map (·.2);rw [← ml,← ml,zip2] at hp';obtain ⟨zs',p',e'⟩:=Sy.perm_map hp'.symm zs rfl;rw [ml] at e';refine tail st' hf zs' (by rw [e];apply j5.mp;simpa using e') p' ?_;have hs':=(dC (f:=λx:aU=>x.2) (R:=λx y=>U3 zs x<=U3 zs y)).mpr (Sy.pw_of hs);rw [show O7 (λx:aU=>x.2) ys.toList=zs'.map λz=>aD z.2 from e'] at hs';refine (dC.mp hs').imp_of_mem λ{z w} hz1 hw z2=>?_;have a1:=p'.mem_iff.mp hz1;have a2:=p'.mem_iff.mp hw
   cases e:fN w.1 z.1 with
   | false=>rfl
   | true =>
    rw [← vS (ts:=zs.map (·.1)) (aZ a2),decide_eq_true_iff] at e;rw [rh one a1,rh one a2] at z2;lia
end
def Lb (Pt:af) (pos:lg) (qual:bj) (j:Nat) (tx:TA):TE:=λZ H Q=>tx Z H λv H1 =>
 ∃ (p d:af) (zs:List Zn) (OZ:List (List iA×V)),v=[.ref p]/\H1 p=some (.lst (zs.map lF))/\Z[j]?=some (some (.ref d))/\H1 d=some (.dT OZ)/\(∀ z∈zs,∃ w x y:Int,z.1=[w,x,y]/\H1 z.2=some (.tup [.int x,.int y])/\kB OZ [du x,du y]=some (.int w))/\zs.length<128/\qE Pt pos qual H1 /\
  ∀ (l:af) (zs':List Zn) (H2:Hp),H2 l=none->pD Pt H1 H2->qE Pt pos qual H2->zs'.Perm zs->zs'.Pairwise (λz w=>fN w.1 z.1=false)->Q (.ref l) (upd H2 l (.lst (zs'.map lF)))
def vV {prog:a6}{w:bO}{A:bR}{E:ai->ao->Prop}{s:ao}{l:af}{vs:List ai}{Q:List ai->ao->Prop}(hl:s.heap.IsList l vs.toArray) (hn:vs.length<=aV)
  (q:∀ h' tk,(∀ b o,s.heap.get? b=some o->h'.get? b=some o)->Q vs { s with heap:=h',toks:=tk }):aG (aM prog w) A (HF (.ref l)) Q E s:=by
 refine collect_list hl (q _ _ λb o e=>?_) (by simpa using hn);have hlt:b<s.heap.objs.size:=aJ e;rw [Heap.get?_update_ne _ _ _ _ (bg hlt),Heap.get?_push_ne _ _ _ (bg hlt)];exact e
section
variable {X:Cx}{c Pt:af}{e:Expr}{tx:TA}{x y:bj}{j:Nat}{params:ma}{scope:jx}{p0 p1 p2 p3 p4 p5 lpos kpos pos:lg}{x1:Nat}
def QI (hcalm:X.calm=true) (hcode:X.env.code=.ref c) (C0:ik X.base c Pt) (B:X.base.BuiltinsAt X.mg Pt) (hroom:X.A.depth<qJ) (hun:X.A.units+128<gZ)
  (hgl:Gl X "sorted") (hm:X.mg "sorted"=none) (hx:PA X [e] tx) (hN:X.N[j]?=some y) (hky:X.env.kindOf y=some .cell)
  (hs:g9 pos (bL [e] X.env)=(false,fh e X.env)::g9 pos (bL [] X.env):=by rfl) (hpl:(g9 pos (bL [e] X.env)).any (·.1)=false:=by rfl)
  (hdef:defaultsOf params X.env=([],[]):=by rfl)
  (hbind:∀ clos pm nE ctv v,An (kla_fn "<lambda>" (X.env.qual++"<lambda>") params (.Tuple [.Subscript (.Name y p1) (.Name x p2) p3,.Name x p4] x1 p5) scope clos pm nE ctv) ⟨[v],[]⟩=pure [(x,v)]:=by intros;rfl)
  (hsx:scope.names.lookup x=some .local:=by rfl) (hsy:scope.names.lookup y=some .free:=by rfl) (hk:scope.kind=.function:=by rfl) (hco:scope.isCoroutine=false:=by rfl) (hgen:scope.isGenerator=false:=by rfl) (hcell:∀ z∈scope.names,z.2≠.cell:=by decide +kernel)
  (hfr:(scope.names.all λy=>y.2 != .free || X.env.kindOf y.1 == some .cell || X.env.kindOf y.1 == some .free)=true:=by rfl)
  (hdx:(x == ("__debug__":bj))=false:=by decide) (hdy:(y == ("__debug__":bj))=false:=by decide) (hdc:(y == ("__classdict__":bj))=false:=by decide) :
  PE X (.Call (.Name "sorted" p0) [e] [⟨some "key",.Lambda params (.Tuple [.Subscript (.Name y p1) (.Name x p2) p3,.Name x p4] x1 p5) scope lpos,kpos⟩] pos) (Lb Pt lpos (X.env.qual++"<lambda>") j tx):=by
 intro pins s Z H Q I h;refine fj (oh I hgl hm (u:=.builtin "sorted") BootT.Bd ?_);refine callWith_kw ?_ hs hpl;refine ic (hx pos pins s Z H _ I h) λus s1 ⟨vs,H1,I1,rv,q⟩=>?_;obtain ⟨p,d,zs,OZ,rfl,hp,hj,hd,hkv,h64,hT,k⟩:=q;obtain ⟨u,rfl,ru⟩:=vals1 rv;cases ru
 show aG _ X.A (evalAll [do let v ← fh _ X.env;sV pos;pure v]) _ _ s1
 refine wpAny_evalAll_cons (ae (IB I1 hcode C0 B hdef (qV I1 hfr) hT λf c' ctv h' tk H2 I2 hf hrec S2 T2 hk2=>ae (tM (ak (wpAny_evalAll_nil ?_)))));obtain ⟨ps,hPt⟩:=hT.tbl;have hp2:=S2 p _ (λz=>by rw [z,hPt] at hp;cases hp) hp;have hd2:=S2 d _ (λz=>by rw [z,hPt] at hd;cases hd) hd
 have k2:∀ z∈zs,∃ w x y:Int,z.1=[w,x,y]/\H2 z.2=some (.tup [.int x,.int y])/\kB OZ [du x,du y]=some (.int w):=λz hz=>by
  obtain ⟨w,x,y,e1,e2,e3⟩:=hkv z hz;exact ⟨w,x,y,e1,S2 _ _ (λz=>by rw [z,hPt] at e2;cases e2) e2,e3⟩
 obtain ⟨its,n1,rp,op,zp⟩:=I2.lst hp2;have hits:=vT rp;subst hits;have hh:X.A.handled=none:=I2.ok.hd hcalm;obtain ⟨my,hny,hlk⟩:=I2.loc;obtain ⟨uy,ruy,lky⟩:=hlk j y (.ref d) hN hj (.inr (.inl hky));cases ruy
 obtain ⟨cl,hcl,hcv⟩:∃ cl,X.env.cells.lookup y=some cl/\h'.IsCell cl (some (.ref d)):=by
  rcases lky with ⟨z,_⟩|⟨_,cl,h1,h2⟩
  ·rw [hky] at z;cases z
  ·exact ⟨cl,h1,h2⟩
 have hclo:(nJ X.env.cells scope.names []).lookup y=some cl:=by
  obtain ⟨d,hd⟩:=vJ (cells:=X.env.cells) (x:=y) scope.names [] (.inl (mem_of_lookup hsy));have hd':=(ku _ _ (qV I1 hfr) hd).resolve_right (by simp);rw [hcl] at hd';rw [hd,← hd']
 have un2:X.A.in1.in1.units+3+64<gZ:=by show X.A.units+1+1+3+64<_;lia
 have one:∀ z∈zs,∀ z'∈zs,z.2=z'.2->z.1=z'.1:=λz hz z' hz' e=>by
  obtain ⟨w1,x1,y1,e1,e2,e3⟩:=k2 z hz;obtain ⟨w2,x2,y2,f1,f2,f3⟩:=k2 z' hz';rw [e,f2] at e2;cases e2;rw [e3] at f3;cases f3;rw [e1,f1]
 have turn:∀ z∈zs,∀ (h:cf) (tk':Nat),(∀ b o,h'.get? b=some o->h.get? b=some o)->∀ R:ai->ao->Prop,
   (∀ h3 tk3 k o,(∀ b o,h.get? b=some o->h3.get? b=some o)->h.get? k=none->h3.get? k=some o->(∃ t,o=IS z t)->R (.ref k) { s1 with heap:=h3,toks:=tk3 })->aG (aM X.prog X.w) X.A.in1.in1 (call (.ref f) [.ref z.2]) R (λ_ _=>False) { s1 with heap:=h,toks:=tk' }:=by
  intro z hz h tk' kk R hR;obtain ⟨ww,xx,yy,ez,hzt,hzw⟩:=k2 z hz;have J:Inv X pins Z H2 { s1 with heap:=h,toks:=tk' }:=I2.kept kk;refine Fd (s:={ s1 with heap:=h,toks:=tk' }) (by exact hroom) (kk f _ hf) ?_ (I2.mod.nolimit.keeps λb o e=>kk b o (I2.bk b o e)) (hbind _ _ _ _ _) hsx hk hco hgen hcell λenv h3 tk3 E' q1 q2 q3 hns hk3=>?_
  ·obtain ⟨c2,o2,vs2,t2',e2,h2,d2⟩:=hrec;cases e2;exact ⟨c',o2,vs2,t2',rfl,kk _ _ h2,d2⟩
  ·refine Qs (s:={ s1 with heap:=h,toks:=tk' }) (H:=H2) (d:=d) (cl:=cl) (k:=[du xx,du yy]) (J.fo.kept hk3) (by rw [q1];exact hk) (by rw [q1];exact hsx) (by rw [q1];exact hsy) hns (by rw [q2];exact hclo) ?_ hd2 hzt hzw un2 (λt tk4=>?_) hdx hdy hdc
   ·obtain ⟨o,e,d⟩:=hcv;exact ⟨o,hk3 _ _ (kk _ _ e),d⟩
   ·refine hR _ tk4 _ _ (λb o e=>ar _ (hk3 b o e)) ?_ (aI _ rfl) ⟨t,by unfold IS;rw [ez];rfl⟩
    cases q:h.get? h3.objs.size with
    | none=>rfl
    | some o=>exact absurd (aJ (hk3 _ _ q)) (eS _)
 have hzl:(zs.map λz=>aD z.2).length<=aV:=bI (m:=128) (by rw [ag];lia);refine UB KA HI HJ (ksk_s1 _ _) ?_;unfold gG.«sorted»;refine ae (m:=OT "sorted" 1 1 _) (ak (ae (vV (s:={ s1 with heap:=h',toks:=tk }) ⟨_,op,rfl,n1,rfl⟩ hzl λh3 tk3 keep3=>?_)));refine ae (og ?_ hzl);have g4:(h3.push (bW "list" (zs.map λz=>aD z.2).toArray 0)).get? h3.objs.size=some (bW "list" (zs.map λz=>aD z.2).toArray 0):=aI _ rfl;have hb:∀ b o,h'.get? b=some o->b≠h3.objs.size:=λb o e=>bg (aJ (keep3 b o e));have k4:∀ {h:cf},U5 h3.objs.size (h3.push (bW "list" (zs.map λz=>aD z.2).toArray 0)) h->∀ b o,h'.get? b=some o->h.get? b=some o:=λk b o e=>k b o (hb b o e) (ar _ (keep3 b o e))
 have gD:h'.get? h3.objs.size=none:=by
  cases q:h'.get? h3.objs.size with
  | none=>rfl
  | some o=>exact absurd rfl (hb _ o q)
 show aG (aM X.prog X.w) X.A.in1 (do let _ ← j9 [aD h3.objs.size] (call (.builtin "list.sort") [aD h3.objs.size] _);ret (aD h3.objs.size)) _ _ { s1 with heap:=h3.push (bW "list" (zs.map λz=>aD z.2).toArray 0),toks:=tk3 }
 refine ae (cA (XY Av ⟨_,g4,rfl⟩ xK ?_ (ksk_l1 _ _)))
 show aG (aM X.prog X.w) X.A.in1.in1 (gG.«list.sort» ⟨[.ref h3.objs.size],[(fE "key",.ref f)]⟩) _ _ _
 rw [ksk_t1]
 refine IU (s:={ s1 with heap:=h3.push (bW "list" (zs.map λz=>aD z.2).toArray 0),toks:=tk3 }) (KO:=λz o=>∃ t,o=IS z t) g4 h64 one (λz hz h tk' kp R hR=>turn z hz h tk' (k4 kp) R hR) ?_ ?_ λh7 tk7 c7 zs' kp g7 hperm hsort=>⟨_,rfl,ak ⟨_,rfl,?_⟩⟩
 ·rintro z o ⟨t,rfl⟩;exact ⟨rfl,_,t,_,0,rfl,rfl⟩
 ·rintro z hz z' hz' k k' o o' h tk' kp g g' ⟨t,rfl⟩ ⟨t',rfl⟩ Q' hQ
  have tie:∀ z∈zs,∃ v x y t u,z.1=[v,x,y]/\pK h z.2 #[.int x t,.int y u]:=λz hz=>by
   obtain ⟨ww,xx,yy,ez,hzt,hzw⟩:=k2 z hz;obtain ⟨ts,r,it,_⟩:=I2.tuple (.of hzt)
   cases r with
   | cons h1 r =>
    cases r with
    | cons h2 r =>
     cases r;obtain ⟨t,rfl⟩:=h1;obtain ⟨u,rfl⟩:=h2;obtain ⟨o,e,rest⟩:=it;exact ⟨ww,xx,yy,t,u,ez,o,k4 kp _ o e,rest⟩
  obtain ⟨v1,x1,y1,ta,tb,z1,b1⟩:=tie z hz;obtain ⟨v2,x2,y2,tc,td,z2,b2⟩:=tie z' hz';rw [z1,z2] at hQ;refine Ts (s:={ s1 with heap:=h,toks:=tk' }) (w1:=v1) (w2:=v2) ⟨_,g,rfl,0,by unfold IS;rw [z1];rfl⟩ ⟨_,g',rfl,0,by unfold IS;rw [z2];rfl⟩ b1 b2 (by show X.A.units+1+1<_;lia) hQ
 ·obtain ⟨hn,I3⟩:=I2.RO (t':=tk7) (o:=.lst (zs'.map lF)) (k4 kp) gD ⟨by rw [ag,hperm.length_eq];exact bI (m:=128) (by lia),_,c7,pV zs',g7⟩;exact ⟨.ref h3.objs.size,_,I3,rfl,k h3.objs.size zs' H2 hn S2 T2 hperm hsort⟩
end
end L2
namespace L2
def mv {K:aa}{ta:TE}{f:bj}{Z:St}{H:Hp}{Q:VK}(h:ta Z H λx H1=>∃ a C dx fs v,x=.ref a/\H1 a=some (.ins C dx fs)/\Dm K C/\dM K C f/\fs.lookup f=some v/\Q v H1):fq K ta f Z H Q:=h
def uY {C:af}{m:bj}{sp:Sp}{dvs:List V}{E:XK}{ta:TE}{t:TA}{Z:St}{H:Hp}{Q:VK}(h:ta Z H λx H1=>∃ a dx fs,x=.ref a/\H1 a=some (.ins C dx fs)/\fs.lookup m=none/\t Z H1 λvs H2=>sp (x::(vs++dvs)) H2 Q E):eZ C m sp dvs E ta t Z H Q:=h
section
variable {K:aa}{mg:bj->Option ai}{x q:bj}{C:af}{st:dz}{ps:List bj}{CX:Kp}{k:Nat}{sp:Sp}
def pI.lS (d:pI K mg x st ps) (P:a6) (w:bO) (base:cf) (h:k9 P w K mg base CX k d.f d.d ps sp):Cal P w K mg base CX k x ps sp:=⟨d.f,d.d,h,d.m,d.F.kp,d.b⟩
def lK.lS (d:lK K C x q st ps) (P:a6) (w:bO) (base:cf) (h:k9 P w K mg base CX k d.f d.d ps sp):WK P w K mg base CX k C x ps sp:=⟨d.f,d.d,h,⟨d.a,d.i,d.F.kp⟩,d.b⟩
def lK.Xj (d:lK K C "__init__" q st ps) (P:a6) (w:bO) (base:cf) (mk:kA K C=true) (kc:eI K (.ref C)=true) (h:k9 P w K mg base CX k d.f d.d ps sp):CalI P w K mg base CX k C ps sp:=⟨d.f,d.d,h,⟨mk,d.a,d.i,kc⟩,d.b⟩
def Mj.oj {P:a6}{w:bO}{base:cf}{f:af}{fd:eK}{N:List bj}{t:TS}(F:Mj K x q st f fd) (S:bF N ps (aW st)) (len:∀ vs H Q E,sp vs H Q E->vs.length=ps.length) (run:∀ vs H Q E,sp vs H Q E->t { nx:=λ_ H'=>Q .non H',rt:=Q } (start N vs) H)
  (b:∀ (nE:ai) (A:bR) (outer:List EH) (s:ao) (H:Hp) (E:XK),h8 k (A.deeper (tR q (aW st) s.heap.objs.size f nE))->Kt (FV Iu P w K mg base N q (aW st) f nE A outer s H E).Vy (j7 st) t):k9 P w K mg base Iu (k+1) f fd ps sp :=
 F.ok S len λnE A outer s H vs Q E hr h=>⟨t,b nE A outer s H E hr,run vs H Q E h⟩
end
section
variable {X:Cx}{pos:lg}{i:Nat}{x:bj}
def nT {e:Expr}{te:TE}{pos':lg}(hN:X.N.Nodup) (he:PE X e te) (hi:X.N[i]?=some x:=by rfl) (hx:Loc X.env.scope x:=by exact .inl rfl) (hs:AE e (some (.Name x pos')) pos.line X.env=pure false:=by rfl) (hf:X.fn x=true\/X.env.scope.names.lookup x=some .local:=by first|exact .inl rfl|exact .inr rfl|assumption):PS X (.Assign [.Name x pos'] e pos) (de te (bp i)):=AW hN hi hx he hs hf
def fJ (hN:X.N.Nodup) (hi:X.N[i]?=some x:=by rfl) (hx:Loc X.env.scope x:=by exact .inl rfl) (hf:X.fn x=true\/X.env.scope.names.lookup x=some .local:=by first|exact .inl rfl|exact .inr rfl|assumption):PG X (.Name x pos) (bp i):=SB hN hi hx hf
end
end L2
namespace L2
open PySem PySem.Spec PySem.Calls PyProof.Rows PySem.W
section
variable {prog:a6}{w:bO}{A:bR}{env:EH}{s:ao}{h:cf}{a b:Expr}{i j:Int}{pos:lg}
def Nq.sub (ha:Nq prog w A env s h a i) (hb:Nq prog w A env s h b j):Nq prog w A env s h (.BinOp a .Sub b pos) (i-j):=ha.bin hb λ_ _ _ _ _ q=>sub_int (q _ _)
end
def IV (z:Zn) (t u:Uo):fT:=bW "tuple" #[.int (z.1.headD 0) t,.int (z.1.tail.headD 0) u] 0
def Lc (Pt:af) (pos:lg) (qual:bj) (tx:TA):TE:=λZ H Q=>tx Z H λv H1 =>
 ∃ (p:af) (zs:List Zn),v=[.ref p]/\H1 p=some (.lst (zs.map lF))/\(∀ z∈zs,∃ x y:Int,z.1=[y-x,x]/\H1 z.2=some (.tup [.int x,.int y]))/\zs.length<128/\qE Pt pos qual H1 /\
  ∀ (l:af) (zs':List Zn) (H2:Hp),H2 l=none->pD Pt H1 H2->qE Pt pos qual H2->zs'.Perm zs->zs'.Pairwise (λz w=>fN w.1 z.1=false)->Q (.ref l) (upd H2 l (.lst (zs'.map lF)))
section
variable {X:Cx}{c Pt:af}{e:Expr}{tx:TA}{x:bj}{params:ma}{scope:jx}{p0 p1 p2 p3 p4 p5 p6 p7 p8 p9 p10 p11 lpos kpos pos:lg}{x1 n1 n2 n3:Nat}
def QJ (hcalm:X.calm=true) (hcode:X.env.code=.ref c) (C0:ik X.base c Pt) (B:X.base.BuiltinsAt X.mg Pt) (hroom:X.A.depth<qJ) (hun:X.A.units+128<gZ)
  (hgl:Gl X "sorted") (hm:X.mg "sorted"=none) (hx:PA X [e] tx)
  (hs:g9 pos (bL [e] X.env)=(false,fh e X.env)::g9 pos (bL [] X.env):=by rfl) (hpl:(g9 pos (bL [e] X.env)).any (·.1)=false:=by rfl)
  (hdef:defaultsOf params X.env=([],[]):=by rfl)
  (hbind:∀ clos pm nE ctv v,An (kla_fn "<lambda>" (X.env.qual++"<lambda>") params (.Tuple [.BinOp (.Subscript (.Name x p1) (.Constant (.int 1) n1 p2) p3) .Sub (.Subscript (.Name x p4) (.Constant (.int 0) n2 p5) p6) p7,.Subscript (.Name x p8) (.Constant (.int 0) n3 p9) p10] x1 p11) scope clos pm nE ctv) ⟨[v],[]⟩=pure [(x,v)]:=by intros;rfl)
  (hsx:scope.names.lookup x=some .local:=by rfl) (hk:scope.kind=.function:=by rfl) (hco:scope.isCoroutine=false:=by rfl) (hgen:scope.isGenerator=false:=by rfl) (hcell:∀ z∈scope.names,z.2≠.cell:=by decide +kernel)
  (hfr:(scope.names.all λy=>y.2 != .free || X.env.kindOf y.1 == some .cell || X.env.kindOf y.1 == some .free)=true:=by rfl)
  (hdx:(x == ("__debug__":bj))=false:=by decide) :
  PE X (.Call (.Name "sorted" p0) [e] [⟨some "key",.Lambda params (.Tuple [.BinOp (.Subscript (.Name x p1) (.Constant (.int 1) n1 p2) p3) .Sub (.Subscript (.Name x p4) (.Constant (.int 0) n2 p5) p6) p7,.Subscript (.Name x p8) (.Constant (.int 0) n3 p9) p10] x1 p11) scope lpos,kpos⟩] pos) (Lc Pt lpos (X.env.qual++"<lambda>") tx):=by
 intro pins s Z H Q I h;refine fj (oh I hgl hm (u:=.builtin "sorted") BootT.Bd ?_);refine callWith_kw ?_ hs hpl;refine ic (hx pos pins s Z H _ I h) λus s1 ⟨vs,H1,I1,rv,q⟩=>?_;obtain ⟨p,zs,rfl,hp,hkv,h64,hT,k⟩:=q;obtain ⟨u,rfl,ru⟩:=vals1 rv;cases ru
 show aG _ X.A (evalAll [do let v ← fh _ X.env;sV pos;pure v]) _ _ s1
 refine wpAny_evalAll_cons (ae (IB I1 hcode C0 B hdef (qV I1 hfr) hT λf c' ctv h' tk H2 I2 hf hrec S2 T2 hk2=>ae (tM (ak (wpAny_evalAll_nil ?_)))));obtain ⟨ps,hPt⟩:=hT.tbl;have hp2:=S2 p _ (λz=>by rw [z,hPt] at hp;cases hp) hp
 have k2:∀ z∈zs,∃ x y:Int,z.1=[y-x,x]/\H2 z.2=some (.tup [.int x,.int y]):=λz hz=>by
  obtain ⟨x,y,e1,e2⟩:=hkv z hz;exact ⟨x,y,e1,S2 _ _ (λz=>by rw [z,hPt] at e2;cases e2) e2⟩
 obtain ⟨its,n1,rp,op,zp⟩:=I2.lst hp2;have hits:=vT rp;subst hits;have hh:X.A.handled=none:=I2.ok.hd hcalm
 have one:∀ z∈zs,∀ z'∈zs,z.2=z'.2->z.1=z'.1:=λz hz z' hz' e=>by
  obtain ⟨x1,y1,e1,e2⟩:=k2 z hz;obtain ⟨x2,y2,f1,f2⟩:=k2 z' hz';rw [e,f2] at e2;cases e2;rw [e1,f1]
 have turn:∀ z∈zs,∀ (h:cf) (tk':Nat),(∀ b o,h'.get? b=some o->h.get? b=some o)->∀ R:ai->ao->Prop,
   (∀ h3 tk3 k o,(∀ b o,h.get? b=some o->h3.get? b=some o)->h.get? k=none->h3.get? k=some o->(∃ t u,o=IV z t u)->R (.ref k) { s1 with heap:=h3,toks:=tk3 })->aG (aM X.prog X.w) X.A.in1.in1 (call (.ref f) [.ref z.2]) R (λ_ _=>False) { s1 with heap:=h,toks:=tk' }:=by
  intro z hz h tk' kk R hR;obtain ⟨xx,yy,ez,hzt⟩:=k2 z hz;have J:Inv X pins Z H2 { s1 with heap:=h,toks:=tk' }:=I2.kept kk;refine Fd (s:={ s1 with heap:=h,toks:=tk' }) (by exact hroom) (kk f _ hf) ?_ (I2.mod.nolimit.keeps λb o e=>kk b o (I2.bk b o e)) (hbind _ _ _ _ _) hsx hk hco hgen hcell λenv h3 tk3 E' q1 q2 q3 hns hk3=>?_
  ·obtain ⟨c2,o2,vs2,t2',e2,h2,d2⟩:=hrec;cases e2;exact ⟨c',o2,vs2,t2',rfl,kk _ _ h2,d2⟩
  ·obtain ⟨ts,r,it,_⟩:=J.tuple (.of hzt)
   cases r with
   | cons h1 r =>
    cases r with
    | cons h2 r =>
     cases r;obtain ⟨t1,rfl⟩:=h1;obtain ⟨t2,rfl⟩:=h2
     have it3:pK h3 z.2 #[.int xx t1,.int yy t2]:=by
      obtain ⟨o,e,rest⟩:=it;exact ⟨o,hk3 _ _ e,rest⟩
     have sz:(#[fw xx t1,fw yy t2]).size<=aV:=bI (m:=2) (av 2);have a0:∀ {A':bR}{pa pb pc n},Nq X.prog X.w A' env { s1 with heap:=h,toks:=tk' } h3 (.Subscript (.Name x pa) (.Constant (.int (0:Nat)) n pb) pc) xx:=λ{A' pa pb pc n}=>Nq.Vv (k:=0) (by rw [q1];exact hk) (by rw [q1];exact hsx) hns it3 rfl sz hdx;have a1:∀ {A':bR}{pa pb pc n},Nq X.prog X.w A' env { s1 with heap:=h,toks:=tk' } h3 (.Subscript (.Name x pa) (.Constant (.int (1:Nat)) n pb) pc) yy:=λ{A' pa pb pc n}=>Nq.Vv (k:=1) (by rw [q1];exact hk) (by rw [q1];exact hsx) hns it3 rfl sz hdx;refine De (ia ((a1.sub a0) _ _ _ λtk4 t=>ia (a0 _ _ _ λtk5 u=>lM ⟨bI (m:=2) (av 2),?_⟩)));refine hR _ _ _ _ (λb o e=>ar _ (hk3 b o e)) ?_ (aI _ rfl) ⟨t,u,by unfold IV;rw [ez];rfl⟩
     cases q:h.get? h3.objs.size with
     | none=>rfl
     | some o=>exact absurd (aJ (hk3 _ _ q)) (eS _)
 have hzl:(zs.map λz=>aD z.2).length<=aV:=bI (m:=128) (by rw [ag];lia);refine UB KA HI HJ (ksk_s1 _ _) ?_;unfold gG.«sorted»;refine ae (m:=OT "sorted" 1 1 _) (ak (ae (vV (s:={ s1 with heap:=h',toks:=tk }) ⟨_,op,rfl,n1,rfl⟩ hzl λh3 tk3 keep3=>?_)));refine ae (og ?_ hzl);have g4:(h3.push (bW "list" (zs.map λz=>aD z.2).toArray 0)).get? h3.objs.size=some (bW "list" (zs.map λz=>aD z.2).toArray 0):=aI _ rfl;have hb:∀ b o,h'.get? b=some o->b≠h3.objs.size:=λb o e=>bg (aJ (keep3 b o e));have k4:∀ {h:cf},U5 h3.objs.size (h3.push (bW "list" (zs.map λz=>aD z.2).toArray 0)) h->∀ b o,h'.get? b=some o->h.get? b=some o:=λk b o e=>k b o (hb b o e) (ar _ (keep3 b o e))
 have gD:h'.get? h3.objs.size=none:=by
  cases q:h'.get? h3.objs.size with
  | none=>rfl
  | some o=>exact absurd rfl (hb _ o q)
 show aG (aM X.prog X.w) X.A.in1 (do let _ ← j9 [aD h3.objs.size] (call (.builtin "list.sort") [aD h3.objs.size] _);ret (aD h3.objs.size)) _ _ { s1 with heap:=h3.push (bW "list" (zs.map λz=>aD z.2).toArray 0),toks:=tk3 }
 refine ae (cA (XY Av ⟨_,g4,rfl⟩ xK ?_ (ksk_l1 _ _)))
 show aG (aM X.prog X.w) X.A.in1.in1 (gG.«list.sort» ⟨[.ref h3.objs.size],[(fE "key",.ref f)]⟩) _ _ _
 rw [ksk_t1]
 refine IU (s:={ s1 with heap:=h3.push (bW "list" (zs.map λz=>aD z.2).toArray 0),toks:=tk3 }) (KO:=λz o=>∃ t u,o=IV z t u) g4 h64 one (λz hz h tk' kp R hR=>turn z hz h tk' (k4 kp) R hR) ?_ ?_ λh7 tk7 c7 zs' kp g7 hperm hsort=>⟨_,rfl,ak ⟨_,rfl,?_⟩⟩
 ·rintro z o ⟨t,u,rfl⟩;exact ⟨rfl,_,t,_,0,rfl,rfl⟩
 ·rintro z hz z' hz' k k' o o' h tk' kp g g' ⟨t,u,rfl⟩ ⟨t',u',rfl⟩ Q' hQ;obtain ⟨x1,y1,z1,_⟩:=k2 z hz;obtain ⟨x2,y2,z2,_⟩:=k2 z' hz';rw [z1,z2] at hQ;exact MP (s:={ s1 with heap:=h,toks:=tk' }) (m:=[false]) (.int _ (.int _ .nil)) (.int _ (.int _ .nil)) (us:=[.int (y1-x1) t,.int x1 u]) (ws:=[.int (y2-x2) t',.int x2 u']) (.cons ⟨_,rfl⟩ (.cons ⟨_,rfl⟩ .nil)) (.cons ⟨_,rfl⟩ (.cons ⟨_,rfl⟩ .nil)) ⟨_,g,rfl,0,by unfold IV;rw [z1];rfl⟩ ⟨_,g',rfl,0,by unfold IV;rw [z2];rfl⟩ hQ
 ·obtain ⟨hn,I3⟩:=I2.RO (t':=tk7) (o:=.lst (zs'.map lF)) (k4 kp) gD ⟨by rw [ag,hperm.length_eq];exact bI (m:=128) (by lia),_,c7,pV zs',g7⟩;exact ⟨.ref h3.objs.size,_,I3,rfl,k h3.objs.size zs' H2 hn S2 T2 hperm hsort⟩
end
end L2
namespace L2
open PySem PySem.Spec PySem.Calls PyProof.Rows PySem.W PySem.SeqAt
open PySem.AutoSeq1 (wpAny_loadPart')
def QK {l:af}{its:Array ai}{n:Nat}{x:ai}{e:ai->Bool}{j:Nat}(hj:j<its.size) (hit:e its[j]=true) (hz:its.size<=aV) (hno:∀ m (hm:m<its.size),m<j->e its[m]=false):∀ (k i:Nat),i+k=j ->
  Meets (gG.«list.remove.loop» ⟨[.ref l,x,cB i],[]⟩) (λA R s=>s.heap.get? l=some { cls:=.type "list",data:=.seq its n }/\(∀ y,y∈its->EqAt A.in1 s y x (e y))/\R (.ok (.ret .none)) { s with heap:=s.heap.update l (bE λxs=>xs.eraseIdxIfInBounds j) }):=by
 intro k
 induction k with
 | zero =>
  rintro i rfl prog w A R ⟨hp,g,d,tk,os⟩ ⟨hl,he,h⟩
  wp_walk using wpAny_loadPart' hl
  rw [show its[((i:Nat):Int).toNat]?=some its[i] by simp [hj]];refine ae (he _ (Sr hj) prog w _ _ ?_);rw [hit];have z1:(its.eraseIdxIfInBounds i).size<=aV+1:=bu (MeetsSeq.size_erased its _) (Dg hz)
  wp_walk using (lU hl rfl (hz:=hz) (_hz':=z1)),wpAny_loadPart' hl
  simpa using h
 | succ k ih =>
  rintro i hi prog w A R ⟨hp,g,d,tk,os⟩ ⟨hl,he,h⟩
  have lt:i<its.size:=by lia
  wp_walk using wpAny_loadPart' hl
  rw [show its[((i:Nat):Int).toNat]?=some its[i] by simp [lt]];refine ae (he _ (Sr lt) prog w _ _ ?_);rw [hno i lt (by lia)]
  wp_walk
  rw [show ((i:Int)+1)=((i+1:Nat):Int) by lia];refine ⟨gH jz _,d8 Dt ?_⟩;rw [cX jz _];exact ih (i+1) (by lia) prog w A R _ ⟨hl,he,h⟩
def WV {l:af}{its:Array ai}{n:Nat}{x:ai}{e:ai->Bool}{j:Nat}(hj:j<its.size) (hit:e its[j]=true) (hz:its.size<=aV) (hno:∀ m (hm:m<its.size),m<j->e its[m]=false) :
  Meets (gG.«list.remove» ⟨[.ref l,x],[]⟩) (λA R s=>s.heap.get? l=some { cls:=.type "list",data:=.seq its n }/\(∀ y,y∈its->EqAt A.in1 s y x (e y))/\R (.ok (.ret .none)) { s with heap:=s.heap.update l (bE λxs=>xs.eraseIdxIfInBounds j) }):=by
 rintro prog w A R ⟨hp,g,d,tk,os⟩ ⟨hl,he,h⟩
 wp_walk using wpAny_loadPart' hl
 refine ⟨gH jz _,d8 Dt ?_⟩;rw [cX jz _];exact QK hj hit hz hno j 0 (by lia) prog w A R _ ⟨hl,he,h⟩
section
variable {X:Cx}
def Bz (K:aa):V->List V->Hp->VK->Prop:=λx vs H Q=>∃ (l:af) (y:V) (xs:List V) (ds:List PyData) (d:PyData) (j:Nat) (ej:PyData),x=.ref l/\vs=[y]/\H l=some (.lst xs)/\eD K H ds xs/\Rep K H d y/\vM d/\gF ds=true /\
 ds[j]?=some ej/\cM ej d=true/\(∀ m e,m<j->ds[m]?=some e->cM e d=false)/\Q .non (upd H l (.lst (xs.eraseIdx j)))
def Ld (hu:X.A.units+64<gZ):Sd X "list.remove" (Bz X.K):=by
 intro pins s Z H x vs v us Q I rx rv h;obtain ⟨l,y,xs,ds,d,j,ej,rfl,rfl,hH,hR,hd,hf,hc,hj,he,hno,q⟩:=h;cases rx;obtain ⟨u,rfl,ru⟩:=rv.one;obtain ⟨as,r1⟩:=Rep.reads I _ _ _ (.lst (c6.of hH) hR) rfl;obtain ⟨bs,r2⟩:=Rep.reads I d y u hd ru;obtain ⟨z,its,n,r,hl,e⟩:=I.Uk hH;have hdep:=hf.dep;have hjl:j<ds.length:=(aC.mp hj).1
 cases r1 with
 | @list _ o items n' _ as2 h1 h2 h3 h4 =>
  rw [e] at h1;cases h1;have h3:XU its.toArray n=XU items n':=h3;cases h3;have hm:=readsAll_map _ _ _ hc h4
  have hsz:its.toArray.size=ds.length:=by rw [← hm,ag,aL]
  have at_:∀ (m:Nat) (hm':m<its.toArray.size) (e:PyData),ds[m]?=some e->Kl s.heap its.toArray[m]=e:=λm hm' e z=>by
   rw [← hm,aB,dm,bX hm'] at z;exact aY z
  have hzs:its.toArray.size<=aV:=by rw [aO];lia
  refine OH HN ⟨_,e,rfl⟩ PySem.F.entry_list_remove (PySem.F.args_list_remove_2 _ _)
   (WV (l:=l) (its:=its.toArray) (n:=n) (x:=u) (e:=λy=>cM (Kl s.heap y) d) (j:=j) (by lia) ?_ hzs ?_) ⟨e,items_eqAt h4 r2 hc hf.lay (by lia),?_⟩
  ·show cM (Kl s.heap its.toArray[j]) d=true
   rw [at_ j (by lia) _ hj];exact he
  ·intro m hm' hlt
   obtain ⟨e,z⟩:∃ e,ds[m]?=some e:=⟨_,ay (by lia)⟩
   show cM (Kl s.heap its.toArray[m]) d=false
   rw [at_ m hm' e z];exact hno m e hlt z
  ·refine ⟨.non,_,I.Zi (its':=its.eraseIdx j) hH e ?_ (r.eraseIdx j) ?_,rfl,q⟩
   ·simp
   ·have:=List.length_eraseIdx_le xs j;lia
end
end L2
namespace L2
open PySem PySem.Spec PySem.Calls PyProof.Rows PySem.W
def WW (K:aa):R2:=λx y H Q=>iT K x y H Q\/∃ (l b:af) (xs ys:List V),x=.ref l/\y=.ref b/\H l=some (.lst xs)/\H b=some (.lst ys)/\xs.length≠ys.length/\Q (.bl false) H
def WX {X:Cx}(hu:X.A.units+64<gZ):pJ X (df .Eq) (WW X.K):=(kg hu).or (by
 intro pins s Z H x y v u Q I rx ry h;obtain ⟨l,b,xs,ys,rfl,rfl,h1,h2,hne,q⟩:=h;cases rx;cases ry;obtain ⟨its,n1,rp,op,zp⟩:=I.lst h1;obtain ⟨its2,n2,rp2,op2,zp2⟩:=I.lst h2;have e1:=rp.length;have e2:=rp2.length
 exact SeqAt.RcAt.lists_lengths ⟨_,op,rfl,_,rfl⟩ ⟨_,op2,rfl,_,rfl⟩ (by simp;lia) (by lia) _ _ _ _ ⟨.bl _,H,I,rfl,q⟩)
def TH (K:aa):R2:=λx y H Q=>zJ K x y H Q\/∃ (l b:af) (xs ys:List V),x=.ref l/\y=.ref b/\H l=some (.lst xs)/\H b=some (.lst ys)/\xs.length≠ys.length/\Q (.bl true) H
def WY {X:Cx}(hu:X.A.units+64<gZ):pJ X (df .NotEq) (TH X.K):=(KZ hu).or (by
 intro pins s Z H x y v u Q I rx ry h;obtain ⟨l,b,xs,ys,rfl,rfl,h1,h2,hne,q⟩:=h;cases rx;cases ry;obtain ⟨its,n1,rp,op,zp⟩:=I.lst h1;obtain ⟨its2,n2,rp2,op2,zp2⟩:=I.lst h2;have e1:=rp.length;have e2:=rp2.length
 exact SeqAt.RcNeAt.lists_lengths ⟨_,op,rfl,_,rfl⟩ ⟨_,op2,rfl,_,rfl⟩ (by simp;lia) (by lia) _ _ _ _ ⟨.bl _,H,I,rfl,q⟩)
end L2
namespace L2
section
variable {X:Cx}{K:aa}
def YS {tg l:Expr}{tl:TE}(hl:PE X l tl) (hK:X.K=K):PI X tg l (kZ K tl):=hK▸jJ hl
def YT {a:Expr}{ta:TE}(ha:PE X a ta) (hK:X.K=K) (he:∀ whole,isTrue a X.env whole=(do let v ← whole;sV a.pos;j9 [v] (truthy v))):PT X a (kh K ta):=hK▸K3 ha he
def YU {e:Expr}{f:bj}{pos:lg}{ta:TE}(he:PE X e ta) (hK:X.K=K) (hb:tO e f X.env (fh e X.env)=fh e X.env):PE X (.Attribute e f pos) (fq K ta f):=hK▸V7 he hb
def YV {o value:Expr}{f:bj}{pos pos':lg}{ta tv:TE}(ha:PE X o ta) (hv:PE X value tv) (hK:X.K=K) (hs:AE value (some (.Attribute o f pos')) pos.line X.env=pure false):PS X (.Assign [.Attribute o f pos'] value pos) (tE K ta tv f):=hK▸FT ha hv hs
def YW {es:List Expr}{k n:Nat}{t:Sa}{pos:lg}(hc:X.calm=true) (h:X3 X es t) (hK:X.K=K) (hn:(nK es X.env).length=n) (hst:(nK es X.env).findIdx? (·.1)=none):PG X (.Tuple es k pos) (Ie K n t):=hK▸FP hc h hn hst
def o_bm {o e:Expr}{es:List Expr}{to:TE}{t:TA}{name:bj}{apos cpos:lg}{T id:String}{r:V->List V->Hp->VK->Prop}(pa:PlainAttrs T) (slot:Slot T name id) (hty:typeOf (.builtin id)=pure (.type "method_descriptor")) (hm:MtR X id r) (ho:PE X o to) (ha:PA X (e::es) t) (hK:X.K=K)
  (hbase:tO o name X.env (fh o X.env)=fh o X.env)
  (hfew:((g9 cpos (bL (e::es) X.env)).all (λx=>!x.1) && (Hx cpos (sX [] X.env)).all (λx=>x.1.isSome)
   && decide ((e::es).length+([]:List Ur).length+(if ([]:List Ur).isEmpty then 0 else 1)<30))=true)
  (hline:(apos.endLine == cpos.line)=true) (hs:bL (e::es) X.env=(false,fh e X.env)::bL es X.env) (hplain:(g9 cpos (bL es X.env)).any (·.1)=false) :
  PE X (.Call (.Attribute o name apos) (e::es) [] cpos) (Dk K T r to t):=hK▸m5 pa slot hty hm ho ha hbase hfew hline hs hplain
end
def Mj.lJ {K:aa}{mg:bj->Option ai}{x q:bj}{st:dz}{ps:List bj}{k:Nat}{sp:Sp}{P:a6}{w:bO}{base:cf}{f:af}{fd:eK}{N:List bj}{t:TS}(F:Mj K x q st f fd) (S:bF N ps (aW st)) (run:∀ vs H Q E,sp vs H Q E->t { nx:=λ_ H'=>Q .non H',rt:=Q } (start N vs) H)
  (b:∀ {nE:ai}{A:bR}{outer:List EH}{s:ao}{H:Hp}{E:XK},h8 k (A.deeper (tR q (aW st) s.heap.objs.size f nE))->N.Nodup->Kt (FV Iu P w K mg base N q (aW st) f nE A outer s H E).Vy (j7 st) t)
  (len:∀ vs H Q E,sp vs H Q E->vs.length=ps.length:=by first|(intro vs H Q E h;cases h;subst_vars;rfl)|(intro vs H Q E h;repeat' (first|(obtain ⟨e,_⟩:=h;exact e▸rfl)|(obtain ⟨_,h⟩:=h)))):k9 P w K mg base Iu (k+1) f fd ps sp :=
 F.oj S len run λnE A outer s H E hr=>b hr S.nd
end L2
namespace Rm
variable {f:Nat->Int}{m:Nat}{r:List Int}
def tn {α:Type} (r:List α) (k:Nat):List α:=r.drop k++(r.drop 1).take k
def QL {k:Nat}(hk:k<r.length):(tn r k).length=r.length:=by
 unfold tn;rw [bz,cQ,bK,cQ];lia
def TJ:tn r 0=r:=by simp [tn]
def Le {a:Int}(h:a∈r):r.idxOf a<r.length:=eN.mpr h
end Rm
namespace Rm
section
variable {n:Nat}{v par:Nat->Nat}
end
end Rm
namespace Rm
def al:List Int->List (Int×Int)
 | []=>[]
 | [_]=>[]
 | a::b::r=>(a,b)::al (b::r)
theorem Lg:∀ r:List Int,al r=r.zip (r.drop 1)
 | []=>rfl
 | [_]=>rfl
 | a::b::r=>by
  have:=Lg (b::r);simp only [List.drop_succ_cons,HU] at this ⊢;rw [jf,← this];rfl
theorem kK:∀ (xs:List Int) (x:Int) (ys:List Int),al (xs++x::ys)=al (xs++[x])++al (x::ys)
 | [],x,ys=>rfl
 | [a],x,ys=>rfl
 | a::b::xs,x,ys=>by
  have:=kK (b::xs) x ys
  show (a,b)::al ((b::xs)++x::ys)=(a,b)::al ((b::xs)++[x])++al (x::ys)
  rw [this];rfl
theorem fH:∀ {r:List Int}{x y:Int},(x,y)∈al r->x∈r/\y∈r
 | a::b::r,x,y,h=>by
  rcases au.mp h with e|h
  ·cases e;simp
  ·have:=fH h;exact ⟨aj _ this.1,aj _ this.2⟩
theorem Lh:∀ r:List Int,(al r).length=r.length-1
 | []=>rfl
 | [_]=>rfl
 | a::b::r=>by
  have:=Lh (b::r);simp only [al,bV] at this ⊢;lia
structure lL (r:List Int):Prop where
 ne:r≠[]
 cnt:∃ ds:List Int,ds.Nodup/\(∀ x,x∈ds↔x∈r)/\r.length+1=2*ds.length
 ends:r.head?=r.getLast?
 nd:(al r).Nodup
 sym:∀ x y,(x,y)∈al r->(y,x)∈al r
def lL.one (a:Int):lL [a]:=⟨by simp,⟨[a],by simp,by simp,rfl⟩,rfl,by simp [al],λx y h=>by simp [al] at h⟩
def lL.RI {A B:List Int}{z:Int}(h:lL (A++z::B)) (hA:z∉A) (hB:z∉B) (hn:A++B≠[]):∃ A' w B',A=A'++[w]/\B=w::B':=by
 have he:=h.ends
 have hAne:A≠[]:=λe=>by
  subst e;simp only [List.nil_append,XC] at he hn
  rcases fV B with e|⟨us,u,e⟩
  ·exact hn e
  ·rw [fW] at e;subst e;rw [show z::(us++[u])=(z::us)++[u] by simp,cO] at he;simp at he;subst he;exact hB (by simp)
 have hBne:B≠[]:=λe=>by
  subst e;rw [cO] at he;simp at he
  cases A with
  | nil=>exact hAne rfl
  | cons a A =>
   simp at he;subst he;exact hA (by simp)
 obtain ⟨A',w,e⟩:∃ A' w,A=A'++[w]:=by
  rcases fV A with e|⟨us,u,e⟩
  ·exact absurd e hAne
  ·exact ⟨us,u,by rw [e,fW]⟩
 subst e
 cases B with
 | nil=>exact absurd rfl hBne
 | cons v B' =>
  refine ⟨A',w,B',rfl,?_⟩
  have e1:al (A'++[w]++z::v::B')=al (A'++[w])++((w,z)::(z,v)::al (v::B')):=by
   rw [dB,OU,kK];rfl
  have m:=h.sym w z (by rw [e1];simp);rw [e1] at m
  rcases aN.mp m with m|m
  ·exact absurd (fH m).1 hA
  ·rcases au.mp m with m|m
   ·cases m;exact absurd (by simp) hA
   ·rcases au.mp m with m|m
    ·cases m;rfl
    ·exact absurd (fH m).1 hB
def QM (xs ys:List Int) (w z:Int):(al (xs++w::z::w::ys)).Perm ((w,z)::(z,w)::al (xs++w::ys)):=by
 rw [kK,kK xs w ys]
 show (al (xs++[w])++([(w,z),(z,w)]++al (w::ys))).Perm ([(w,z),(z,w)]++(al (xs++[w])++al (w::ys)))
 rw [← dB,← dB];exact List.Perm.append_right _ fU
def BA (xs ys:List Int) (w z:Int):(xs++w::z::w::ys).head?=(xs++w::ys).head?/\(xs++w::z::w::ys).getLast?=(xs++w::ys).getLast?:=by
 constructor
 ·cases xs<;>simp
 ·cases ys with
  | nil=>simp [cO]
  | cons y ys=>simp [cO,kX]
def lL.Ou {xs ys:List Int}{w z:Int}(h:lL (xs++w::z::w::ys)) (hz:z∉xs++w::ys):lL (xs++w::ys):=by
 have hp:=QM xs ys w z;have nd:=hp.nodup_iff.mp h.nd;have nd2:=(br.mp nd).2;refine ⟨by simp,?_,?_,(br.mp nd2).2,λx y hxy=>?_⟩
 ·obtain ⟨ds,h1,h2,h3⟩:=h.cnt;have hzd:z∈ds:=(h2 z).mpr (by simp);refine ⟨ds.erase z,h1.erase z,λx=>?_,?_⟩
  ·rw [h1.mem_erase_iff,h2]
   constructor
   ·rintro ⟨h4,h5⟩;simp at h5 ⊢
    rcases h5 with h5|h5|h5|h5|h5
    ·exact .inl h5
    ·exact .inr (.inl h5)
    ·exact absurd h5 h4
    ·exact .inr (.inl h5)
    ·exact .inr (.inr h5)
   ·intro h5;refine ⟨λe=>hz (e▸h5),?_⟩;simp at h5 ⊢
    rcases h5 with h5|h5|h5
    ·exact .inl h5
    ·exact .inr (.inl h5)
    ·exact .inr (.inr (.inr (.inr h5)))
  ·rw [qB hzd];have:0<ds.length:=tm hzd;simp at h3 ⊢;lia
 ·have:=BA xs ys w z;rw [← this.1,← this.2];exact h.ends
 ·have hm:=hp.mem_iff.mp (h.sym x y (hp.mem_iff.mpr (aj _ (aj _ hxy))))
  rcases au.mp hm with e|hm
  ·cases e;exact absurd (fH hxy).1 hz
  ·rcases au.mp hm with e|hm
   ·cases e;exact absurd (fH hxy).2 hz
   ·exact hm
def lL.put {xs ys:List Int}{w z:Int}(h:lL (xs++w::ys)) (hz:z∉xs++w::ys):lL (xs++w::z::w::ys):=by
 have hp:=QM xs ys w z;have hwz:w≠z:=λe=>hz (by simp [e]);refine ⟨by simp,?_,?_,hp.nodup_iff.mpr ?_,λx y hxy=>?_⟩
 ·obtain ⟨ds,h1,h2,h3⟩:=h.cnt;refine ⟨z::ds,br.mpr ⟨λhm=>hz ((h2 z).mp hm),h1⟩,λx=>?_,?_⟩
  ·rw [au,h2];simp
   constructor
   ·rintro (h|h|h|h)
    ·exact .inr (.inr (.inl h))
    ·exact .inl h
    ·exact .inr (.inl h)
    ·exact .inr (.inr (.inr (.inr h)))
   ·rintro (h|h|h|h|h)
    ·exact .inr (.inl h)
    ·exact .inr (.inr (.inl h))
    ·exact .inl h
    ·exact .inr (.inr (.inl h))
    ·exact .inr (.inr (.inr h))
  ·simp at h3 ⊢;lia
 ·have:=BA xs ys w z;rw [this.1,this.2];exact h.ends
 ·refine br.mpr ⟨λhm=>?_,br.mpr ⟨λhm=>hz (fH hm).1,h.nd⟩⟩
  rcases au.mp hm with e|hm
  ·exact hwz (by cases e;rfl)
  ·exact hz (fH hm).2
 ·refine hp.mem_iff.mpr ?_
  rcases au.mp (hp.mem_iff.mp hxy) with e|hm
  ·cases e;simp
  ·rcases au.mp hm with e|hm
   ·cases e;simp
   ·exact aj _ (aj _ (h.sym x y hm))
theorem pW:∀ {ds r:List Int},ds.Nodup->(∀ x∈r,x∈ds)->(ds.map λd=>r.count d).sum=r.length
 | ds,[],h1,h2=>by
  have:(ds.map λd=>([]:List Int).count d)=ds.map λ_=>0:=by simp
  rw [this]
  clear this h1 h2
  induction ds with
  | nil=>rfl
  | cons d ds ih=>simpa using ih
 | ds,x::r,h1,h2=>by
  have ih:=pW (ds:=ds) (r:=r) h1 λy hy=>h2 y (aj _ hy);have hx:=h2 x aw
  have key:∀ (ds:List Int),ds.Nodup->(ds.map λd=>(x::r).count d).sum=(ds.map λd=>r.count d).sum+if x∈ds then 1 else 0:=by
   intro ds
   induction ds with
   | nil=>intro _;simp
   | cons d ds ih2 =>
    intro hnd;have:=ih2 (br.mp hnd).2;have hd:=(br.mp hnd).1;simp only [b0,yK,tW] at this ⊢;rw [this]
    by_cases e:x=d
    ·subst e;simp [hd];lia
    ·have e':¬ d=x:=λz=>e z.symm;simp [e];lia
  rw [key ds h1,ih,if_pos hx,bV]
def lL.leaf {r:List Int}(h:lL r) (h1:1<r.length):∃ xs w z ys,r=xs++w::z::w::ys/\z∉xs++w::ys:=by
 obtain ⟨ds,d1,d2,d3⟩:=h.cnt;have hs:=pW d1 λx hx=>(d2 x).mpr hx
 obtain ⟨z,hz,hc⟩:∃ z∈ds,r.count z<2:=by
  refine Classical.byContradiction λq=>?_
  have hall:∀ z∈ds,2<=r.count z:=λz hz=>by
   by_cases c:r.count z<2
   ·exact absurd ⟨z,hz,c⟩ q
   ·lia
  have:∀ (ds:List Int),(∀ z∈ds,2<=r.count z)->2*ds.length<=(ds.map λd=>r.count d).sum:=by
   intro ds
   induction ds with
   | nil=>intro _;simp
   | cons d ds ih =>
    intro h;have a:=ih λz hz=>h z (aj _ hz);have b:=h d aw;simp only [b0,yK,bV];lia
  have:=this ds hall;lia
 have hzr:=(d2 z).mp hz;obtain ⟨A,B,e⟩:=kW hzr;subst e
 have hc2:A.count z=0/\B.count z=0:=by
  rw [gI,jR] at hc;lia
 have hA:z∉A:=e9.mp hc2.1;have hB:z∉B:=e9.mp hc2.2
 obtain ⟨A',w,B',e1,e2⟩:=h.RI hA hB (λq=>by
  rw [tq] at q;rw [q.1,q.2] at h1
  simp at h1)
 subst e1 e2
 exact ⟨A',w,z,B',by simp,λhm=>by
  simp at hm hA hB
  rcases hm with hm|hm|hm
  ·exact hA.1 hm
  ·exact hA.2 hm
  ·exact hB.2 hm⟩
end Rm
namespace Rm
def lL.Ug {r r':List Int}(h:lL r) (hn:r'≠[]) (hm:∀ x,x∈r'↔x∈r) (hl:r'.length=r.length) (he:r'.head?=r'.getLast?) (hp:(al r').Perm (al r)):lL r' :=
 ⟨hn,let ⟨ds,a,b,c⟩:=h.cnt;⟨ds,a,λx=>by rw [b,hm],by rw [hl];exact c⟩,he,hp.nodup_iff.mpr h.nd,λx y z=>hp.mem_iff.mpr (h.sym x y (hp.mem_iff.mp z))⟩
def Fi {r:List Int}{a:Int}(h:a∈r):∃ xs ys,r=xs++a::ys/\xs.length=r.idxOf a/\a∉xs:=by
 induction r with
 | nil=>cases h
 | cons b r ih =>
  by_cases e:b=a
  ·subst e;exact ⟨[],r,rfl,by simp,by simp⟩
  ·have ha:a∈r:=(au.mp h).resolve_left λq=>e q.symm;obtain ⟨xs,ys,e1,e2,e3⟩:=ih ha
   have eb:(b == a)=false:=by simpa using e
   refine ⟨b::xs,ys,by rw [e1];rfl,by rw [XD,eb];simp [e2],λhm=>?_⟩
   rcases au.mp hm with q|q
   ·exact e q.symm
   ·exact e3 q
def lL.turn {r:List Int}{a:Int}(h:lL r) (ha:a∈r):lL (tn r (r.idxOf a))/\(al (tn r (r.idxOf a))).Perm (al r)/\(tn r (r.idxOf a)).head?=some a/\(∀ x,x∈tn r (r.idxOf a)↔x∈r)/\(tn r (r.idxOf a)).length=r.length:=by
 have hlen:(tn r (r.idxOf a)).length=r.length:=QL (Le ha);obtain ⟨xs,ys,e,el,hx⟩:=Fi ha
 cases xs with
 | nil =>
  have e0:r.idxOf a=0:=by rw [← el];rfl
  rw [e0,TJ]
  exact ⟨h,sL _,by rw [e];rfl,λx=>Iff.rfl,rfl⟩
 | cons b xs =>
  have hba:b≠a:=λq=>hx (by simp [q]);have he:=h.ends
  obtain ⟨ys',ey⟩:∃ ys',ys=ys'++[b]:=by
   rw [e] at he;simp only [VO,XC] at he;rw [show b::(xs++a::ys)=(b::xs++[a])++ys by simp,cO] at he
   rcases fV ys with q|⟨us,u,q⟩
   ·subst q;rw [show b::xs++[a]=(b::xs)++[a] by rfl,cO] at he;simp at he;exact absurd he hba
   ·rw [fW] at q;subst q;rw [cO] at he;simp at he;subst he;exact ⟨us,rfl⟩
  subst ey
  have et:tn r (r.idxOf a)=(a::ys')++b::(xs++[a]):=by
   unfold tn;rw [← el,e];simp only [bV]
   have d1:((b::xs)++a::(ys'++[b])).drop (xs.length+1)=a::(ys'++[b]):=by simp
   have d2:(((b::xs)++a::(ys'++[b])).drop 1).take (xs.length+1)=xs++[a]:=by
    show (xs++a::(ys'++[b])).take (xs.length+1)=xs++[a]
    rw [VP,b9 (by lia)];simp
   rw [d1,d2];simp
  have hp:(al (tn r (r.idxOf a))).Perm (al r):=by
   rw [et,e,kK (a::ys') b (xs++[a]),kK (b::xs) a (ys'++[b])];exact fU
  have hm:∀ x,x∈tn r (r.idxOf a)↔x∈r:=λx=>by
   rw [et,e];simp
   constructor
   ·rintro (q|q|q|q|q)
    ·exact .inr (.inr (.inl q))
    ·exact .inr (.inr (.inr (.inl q)))
    ·exact .inl q
    ·exact .inr (.inl q)
    ·exact .inr (.inr (.inl q))
   ·rintro (q|q|q|q|q)
    ·exact .inr (.inr (.inl q))
    ·exact .inr (.inr (.inr (.inl q)))
    ·exact .inl q
    ·exact .inr (.inl q)
    ·exact .inr (.inr (.inl q))
  refine ⟨h.Ug (by rw [et];simp) hm hlen (by rw [et];simp [cO,kX]) hp,hp,by rw [et];rfl,hm,hlen⟩
def Gj {xs ys T:List Int}{a b:Int}(h1:T.head?=some b) (h2:T.getLast?=some b):(al (xs++a::(T++a::ys))).Perm ((a,b)::(b,a)::(al (xs++a::ys)++al T)):=by
 obtain ⟨T1,e1⟩:∃ T1,T=b::T1:=by
  cases T with
  | nil=>simp at h1
  | cons c T=>simp at h1;exact ⟨T,by rw [h1]⟩
 obtain ⟨T2,e2⟩:∃ T2,T=T2++[b]:=by
  rcases fV T with q|⟨us,u,q⟩
  ·subst q;simp at h2
  ·rw [fW] at q;subst q;simp at h2;exact ⟨us,by rw [h2]⟩
 have e3:al (a::(T++a::ys))=(a,b)::(al T++(b,a)::al (a::ys)):=by
  have e4:al (T++a::ys)=al T++(b,a)::al (a::ys):=by
   conv=>lhs;rw [e2,dB,OU,kK]
   rw [← e2];rfl
  have e5:al (a::(T++a::ys))=(a,b)::al (T++a::ys):=by rw [e1];rfl
  rw [e5,e4]
 rw [kK xs a (T++a::ys),kK xs a ys,e3];generalize al (xs++[a])=P;generalize al (a::ys)=R;generalize al T=U
 -- P++(ab::(U++ba::R)) ~ ab::ba::((P++R)++U)
 refine Dq.trans (kR _ ?_);rw [← dB];refine Dq.trans (kR _ ?_);rw [dB,dB];exact lA _ fU
def QN (xs ys T:List Int) (a:Int):(xs++a::(T++a::ys)).head?=(xs++a::ys).head?/\(xs++a::(T++a::ys)).getLast?=(xs++a::ys).getLast?:=by
 constructor
 ·cases xs<;>simp
 ·cases ys with
  | nil=>simp [cO,kX]
  | cons y ys=>simp [cO,kX]
def lL.Xh {xs ys T:List Int}{a b:Int}(h:lL (xs++a::ys)) (hT:lL T) (h1:T.head?=some b) (hd:∀ x∈T,x∉xs++a::ys):lL (xs++a::(T++a::ys)):=by
 have h2:T.getLast?=some b:=by rw [← hT.ends];exact h1
 have hp:=Gj (xs:=xs) (ys:=ys) (a:=a) h1 h2;have hb:b∈T:=jA (by rw [h1];rfl)
 have ha:a∈xs++a::ys:=by simp
 have hab:a≠b:=λe=>hd b hb (e▸ha);have hb':=hd b hb;have ha':a∉T:=λq=>hd a q ha;refine ⟨by simp,?_,?_,hp.nodup_iff.mpr ?_,λx y hxy=>?_⟩
 ·obtain ⟨ds,d1,d2,d3⟩:=h.cnt;obtain ⟨es,e1,e2,e3⟩:=hT.cnt;refine ⟨ds++es,fA.mpr ⟨d1,e1,λx hx y hy q=>hd y ((e2 y).mp hy) (q▸(d2 x).mp hx)⟩,λx=>?_,?_⟩
  ·rw [aN,d2,e2];simp
   constructor
   ·rintro ((q|q|q)|q)
    ·exact .inl q
    ·exact .inr (.inl q)
    ·exact .inr (.inr (.inr (.inr q)))
    ·exact .inr (.inr (.inl q))
   ·rintro (q|q|q|q|q)
    ·exact .inl (.inl q)
    ·exact .inl (.inr (.inl q))
    ·exact .inr q
    ·exact .inl (.inr (.inl q))
    ·exact .inl (.inr (.inr q))
  ·simp at d3 ⊢;lia
 ·have:=QN xs ys T a;rw [this.1,this.2];exact h.ends
 ·refine br.mpr ⟨λhm=>?_,br.mpr ⟨λhm=>?_,fA.mpr ⟨h.nd,hT.nd,?_⟩⟩⟩
  ·rcases au.mp hm with q|hm
   ·exact hab (by cases q;rfl)
   ·rcases aN.mp hm with q|q
    ·exact hb' (fH q).2
    ·exact ha' (fH q).1
  ·rcases aN.mp hm with q|q
   ·exact hb' (fH q).1
   ·exact ha' (fH q).2
  ·rintro ⟨x,y⟩ hx t ht q;subst q;exact hd x (fH ht).1 (fH hx).1
 ·refine hp.mem_iff.mpr ?_
  rcases au.mp (hp.mem_iff.mp hxy) with q|hm
  ·cases q;simp
  ·rcases au.mp hm with q|hm
   ·cases q;simp
   ·refine aj _ (aj _ ?_)
    rcases aN.mp hm with q|q
    ·exact dX _ (h.sym x y q)
    ·exact bB _ (hT.sym x y q)
theorem lL.part:∀ (n:Nat) {p q inn:List Int}{x y:Int},(p++x::(inn++x::q)).length<=n->lL (p++x::(inn++x::q))->inn.head?=some y->inn.getLast?=some y ->
  lL inn/\lL (p++x::q)/\∀ c∈inn,c∉p++x::q
 | 0,p,q,inn,x,y,hn,h,h1,h2=>by simp at hn
 | n+1,p,q,inn,x,y,hn,h,h1,h2=>by
  have hl:1<(p++x::(inn++x::q)).length:=by simp;lia
  obtain ⟨X,w,z,Y,e,hz⟩:=h.leaf hl
  have hc:(p++x::(inn++x::q)).count z=1:=by
   rw [e];simp at hz;have a1:X.count z=0:=e9.mpr hz.1;have a2:Y.count z=0:=e9.mpr hz.2.2;have a3:¬ w=z:=λq=>hz.2.1 q.symm;simp [gI,tW,a1,a2,a3]
  have hzx:x≠z:=λq=>by
   subst q;simp [gI,tW] at hc;lia
  have hc2:p.count z+inn.count z+q.count z=1:=by
   simp [gI,tW,hzx] at hc;lia
  -- a place that stands once,with what is around it
  have at_:∀ A B,p++x::(inn++x::q)=A++z::B->∃ A' w B',A=A'++[w]/\B=w::B':=λA B eA=>by
   rw [eA] at h hc hl
   have c0:A.count z=0/\B.count z=0:=by rw [gI,jR] at hc;lia
   refine h.RI (e9.mp c0.1) (e9.mp c0.2) λq=>?_;rw [tq] at q;rw [q.1,q.2] at hl;simp at hl
  have nin:∀ {l:List Int},l.count z=0->z∉l:=λq=>e9.mp q
  by_cases z1:z∈inn
  ·have k1:0<inn.count z:=kY.mpr z1;have hp0:z∉p:=nin (by lia);have hq0:z∉q:=nin (by lia);obtain ⟨i1,i2,ei⟩:=kW z1
   have c12:i1.count z=0/\i2.count z=0:=by
    rw [ei,gI,jR] at hc2;lia
   have n1:=nin c12.1;have n2:=nin c12.2
   by_cases hs:i1++i2=[]
   ·rw [tq] at hs;rw [hs.1,hs.2] at ei;subst ei
    have zo:z∉p++x::q:=λhm=>by
     rcases aN.mp hm with m|m
     ·exact hp0 m
     ·rcases au.mp m with m|m
      ·exact hzx m.symm
      ·exact hq0 m
    refine ⟨lL.one z,lL.Ou (w:=x) (z:=z) (by simpa using h) zo,λc hc=>?_⟩
    have:c=z:=by simpa using hc
    subst this;exact zo
   ·obtain ⟨A',w',B',eA,eB⟩:=at_ (p++x::i1) (i2++x::q) (by rw [ei];simp)
    have i1n:i1≠[]:=λq0=>by
     subst q0;rw [ei] at h1 h2;simp at h1;subst h1
     rcases fV i2 with q1|⟨us,u,q1⟩
     ·exact hs (by simp [q1])
     ·rw [fW] at q1;subst q1;simp [cO,kX] at h2;exact n2 (by simp [h2])
    have i2n:i2≠[]:=λq0=>by
     subst q0;rw [ei] at h1 h2;rw [cO] at h2;simp at h2;subst h2
     cases i1 with
     | nil=>exact i1n rfl
     | cons a i1=>simp at h1;exact n1 (by simp [h1])
    obtain ⟨i1',u,ei1⟩:∃ i1' u,i1=i1'++[u]:=by
     rcases fV i1 with q0|⟨us,u,q0⟩
     ·exact absurd q0 i1n
     ·exact ⟨us,u,by rw [q0,fW]⟩
    cases i2 with
    | nil=>exact absurd rfl i2n
    | cons v i2' =>
     have ev:v=w':=by simp at eB;exact eB.1
     have eu:u=w':=by
      rw [ei1,← VO,← dB] at eA;have:=tw eA rfl
      simpa using this
     subst ei1 ev eu
     have ei':inn=i1'++u::z::u::i2':=by rw [ei];simp
     subst ei'
     have zi:z∉i1'++u::i2':=λhm=>by
      simp at hm n1 n2
      rcases hm with m|m|m
      ·exact n1.1 m
      ·exact n1.2 m
      ·exact n2.2 m
     have eR:p++x::(i1'++u::z::u::i2'++x::q)=(p++x::i1')++u::z::u::(i2'++x::q):=by simp
     have eR':p++x::(i1'++u::i2'++x::q)=(p++x::i1')++u::(i2'++x::q):=by simp
     have zR:z∉(p++x::i1')++u::(i2'++x::q):=λhm=>by
      simp at hm zi
      rcases hm with m|m|m|m|m|m|m
      ·exact hp0 m
      ·exact hzx m.symm
      ·exact zi.1 m
      ·exact zi.2.1 m
      ·exact zi.2.2 m
      ·exact hzx m.symm
      ·exact hq0 m
     rw [eR] at h;have hR':=h.Ou zR;rw [← eR'] at hR';have en:=BA i1' i2' u z;obtain ⟨r1,r2,r3⟩:=lL.part n (by simp at hn ⊢;lia) hR' (by rw [← en.1];exact h1) (by rw [← en.2];exact h2);refine ⟨r1.put zi,r2,λc hc=>?_⟩;simp at hc
     have hcz:c=z->c∉p++x::q:=λq0 hm=>by
      subst q0;simp at hm
      rcases hm with m|m|m
      ·exact hp0 m
      ·exact hzx m.symm
      ·exact hq0 m
     rcases hc with m|m|m|m|m
     ·exact r3 c (by simp [m])
     ·exact r3 c (by simp [m])
     ·exact hcz m
     ·exact r3 c (by simp [m])
     ·exact r3 c (by simp [m])
  ·by_cases z2:z∈p
   ·have k1:0<p.count z:=kY.mpr z2;have hq0:z∉q:=nin (by lia);obtain ⟨p1,p2,ep⟩:=kW z2;obtain ⟨A',w',B',eA,eB⟩:=at_ p1 (p2++x::(inn++x::q)) (by rw [ep];simp)
    have c12:p1.count z=0/\p2.count z=0:=by
     rw [ep,gI,jR] at hc2;lia
    have n1:=nin c12.1;have n2:=nin c12.2;subst eA
    cases p2 with
    | nil =>
     have ew:w'=x:=by simp at eB;exact eB.1.symm
     subst ew
     have ep':p=A'++[w',z]:=by rw [ep];simp
     subst ep'
     have zR:z∉A'++w'::(inn++w'::q):=λhm=>by
      simp at hm n1
      rcases hm with m|m|m|m|m
      ·exact n1.1 m
      ·exact n1.2 m
      ·exact z1 m
      ·exact n1.2 m
      ·exact hq0 m
     have hR':=lL.Ou (xs:=A') (w:=w') (z:=z) (ys:=inn++w'::q) (by simpa using h) zR;obtain ⟨r1,r2,r3⟩:=lL.part n (by simp at hn ⊢;lia) hR' h1 h2
     have zo:z∉A'++w'::q:=λhm=>by
      simp at hm n1
      rcases hm with m|m|m
      ·exact n1.1 m
      ·exact n1.2 m
      ·exact hq0 m
     refine ⟨r1,by simpa using r2.put zo,λc hc hm=>?_⟩;simp at hm
     rcases hm with m|m|m|m
     ·exact r3 c hc (by simp [m])
     ·exact r3 c hc (by simp [m])
     ·exact z1 (m▸hc)
     ·exact r3 c hc (by
       rcases m with m|m
       ·simp [m]
       ·simp [m])
    | cons v p2 =>
     have ew:v=w':=by simp at eB;exact eB.1
     subst ew
     have ep':p=A'++v::z::v::p2:=by rw [ep];simp
     subst ep'
     have zR:z∉A'++v::(p2++x::(inn++x::q)):=λhm=>by
      simp at hm n1 n2
      rcases hm with m|m|m|m|m|m|m
      ·exact n1.1 m
      ·exact n1.2 m
      ·exact n2.2 m
      ·exact hzx m.symm
      ·exact z1 m
      ·exact hzx m.symm
      ·exact hq0 m
     have hR':=lL.Ou (xs:=A') (w:=v) (z:=z) (ys:=p2++x::(inn++x::q)) (by simpa using h) zR;obtain ⟨r1,r2,r3⟩:=lL.part n (p:=A'++v::p2) (q:=q) (inn:=inn) (x:=x) (by simp at hn ⊢;lia) (by simpa using hR') h1 h2
     have zo:z∉A'++v::(p2++x::q):=λhm=>by
      simp at hm n1 n2
      rcases hm with m|m|m|m|m
      ·exact n1.1 m
      ·exact n1.2 m
      ·exact n2.2 m
      ·exact hzx m.symm
      ·exact hq0 m
     refine ⟨r1,by simpa using lL.put (xs:=A') (w:=v) (z:=z) (ys:=p2++x::q) (by simpa using r2) zo,λc hc hm=>?_⟩;simp at hm
     rcases hm with m|m|m|m|m|m|m
     ·exact r3 c hc (by simp [m])
     ·exact r3 c hc (by simp [m])
     ·exact z1 (m▸hc)
     ·exact r3 c hc (by simp [m])
     ·exact r3 c hc (by simp [m])
     ·exact r3 c hc (by simp [m])
     ·exact r3 c hc (by simp [m])
   ·have hq1:z∈q:=by
     have k1:0<q.count z:=by
      have a1:=e9.mpr z1;have a2:=e9.mpr z2;lia
     exact kY.mp k1
    obtain ⟨q1,q2,eq⟩:=kW hq1;obtain ⟨A',w',B',eA,eB⟩:=at_ (p++x::(inn++x::q1)) q2 (by rw [eq];simp)
    have c12:q1.count z=0/\q2.count z=0:=by
     rw [eq,gI,jR] at hc2;lia
    have n1:=nin c12.1;have n2:=nin c12.2;subst eB
    rcases fV q1 with e1|⟨q1',u,e1⟩
    ·subst e1
     have ew:x=w':=by
      rw [show p++x::(inn++[x])=(p++x::inn)++[x] by simp] at eA;have:=tw eA rfl
      simpa using this
     subst ew
     have eq':q=z::x::B':=by rw [eq];rfl
     subst eq'
     have zR:z∉(p++x::inn)++x::B':=λhm=>by
      simp at hm n2
      rcases hm with m|m|m|m|m
      ·exact z2 m
      ·exact hzx m.symm
      ·exact z1 m
      ·exact hzx m.symm
      ·exact n2.2 m
     have hR':=lL.Ou (xs:=p++x::inn) (w:=x) (z:=z) (ys:=B') (by simpa using h) zR;obtain ⟨r1,r2,r3⟩:=lL.part n (p:=p) (q:=B') (inn:=inn) (x:=x) (by simp at hn ⊢;lia) (by simpa using hR') h1 h2
     have zo:z∉p++x::B':=λhm=>by
      simp at hm n2
      rcases hm with m|m|m
      ·exact z2 m
      ·exact hzx m.symm
      ·exact n2.2 m
     refine ⟨r1,r2.put zo,λc hc hm=>?_⟩;simp at hm
     rcases hm with m|m|m|m|m
     ·exact r3 c hc (by simp [m])
     ·exact r3 c hc (by simp [m])
     ·exact z1 (m▸hc)
     ·exact r3 c hc (by simp [m])
     ·exact r3 c hc (by simp [m])
    ·rw [fW] at e1;subst e1
     have ew:u=w':=by
      rw [show p++x::(inn++x::(q1'++[u]))=(p++x::(inn++x::q1'))++[u] by simp] at eA;have:=tw eA rfl
      simpa using this
     subst ew
     have eq':q=q1'++u::z::u::B':=by rw [eq];simp
     subst eq'
     have zR:z∉(p++x::(inn++x::q1'))++u::B':=λhm=>by
      simp at hm n1 n2
      rcases hm with m|m|m|m|m|m|m
      ·exact z2 m
      ·exact hzx m.symm
      ·exact z1 m
      ·exact hzx m.symm
      ·exact n1.1 m
      ·exact n1.2 m
      ·exact n2.2 m
     have hR':=lL.Ou (xs:=p++x::(inn++x::q1')) (w:=u) (z:=z) (ys:=B') (by simpa using h) zR;obtain ⟨r1,r2,r3⟩:=lL.part n (p:=p) (q:=q1'++u::B') (inn:=inn) (x:=x) (by simp at hn ⊢;lia) (by simpa using hR') h1 h2
     have zo:z∉(p++x::q1')++u::B':=λhm=>by
      simp at hm n1 n2
      rcases hm with m|m|m|m|m
      ·exact z2 m
      ·exact hzx m.symm
      ·exact n1.1 m
      ·exact n1.2 m
      ·exact n2.2 m
     refine ⟨r1,by simpa using lL.put (xs:=p++x::q1') (w:=u) (z:=z) (ys:=B') (by simpa using r2) zo,λc hc hm=>?_⟩;simp at hm
     rcases hm with m|m|m|m|m|m|m
     ·exact r3 c hc (by simp [m])
     ·exact r3 c hc (by simp [m])
     ·exact r3 c hc (by simp [m])
     ·exact r3 c hc (by simp [m])
     ·exact z1 (m▸hc)
     ·exact r3 c hc (by simp [m])
     ·exact r3 c hc (by simp [m])
end Rm
namespace Rm
def QO {r:List Int}{i:Nat}{x y:Int}:(al r)[i]?=some (x,y)↔r[i]?=some x/\r[i+1]?=some y:=by
 rw [Lg,pL,oH,OV 1 i]
def rj (r:List Int) (i j:Nat):List Int:=(r.drop (i+1)).take (j-i)
def xZ (r:List Int) (i j:Nat):List Int:=r.take (i+1)++r.drop (j+2)
def xE (r:List Int) (a b:Int):List Int×List Int :=
 if (al r).idxOf (a,b)<(al r).idxOf (b,a) then (xZ r ((al r).idxOf (a,b)) ((al r).idxOf (b,a)),rj r ((al r).idxOf (a,b)) ((al r).idxOf (b,a)))
 else (rj r ((al r).idxOf (b,a)) ((al r).idxOf (a,b)),xZ r ((al r).idxOf (b,a)) ((al r).idxOf (a,b)))
def QP {r:List Int}{i j:Nat}{x y:Int}(hij:i<j) (h1:r[i]?=some x) (h2:r[i+1]?=some y) (h3:r[j]?=some y) (h4:r[j+1]?=some x) :
  r=r.take i++x::(rj r i j++x::r.drop (j+2))/\xZ r i j=r.take i++x::r.drop (j+2)/\(rj r i j).head?=some y/\(rj r i j).getLast?=some y/\(rj r i j).length+(xZ r i j).length+1=r.length:=by
 have l4:=(aC.mp h4).1
 have g1:r.drop i=x::r.drop (i+1):=by
  have hl:=aC.mp h1;rw [fS hl.1,hl.2]
 have g2:r.drop (j+1)=x::r.drop (j+2):=by
  have hl:=aC.mp h4;rw [fS hl.1,hl.2]
 have g3:r.drop (i+1)=rj r i j++r.drop (j+1):=by
  unfold rj;have:=eL (j-i) (r.drop (i+1));rw [XW,show i+1+(j-i)=j+1 by lia] at this;exact this.symm
 have li:(rj r i j).length=j-i:=by unfold rj;rw [bK,cQ];lia
 refine ⟨?_,?_,?_,?_,?_⟩
 ·rw [← g2,← g3,← g1,eL]
 ·unfold xZ;rw [dP,h1];simp
 ·rw [List.head?_eq_getElem?];unfold rj;rw [kU,if_pos (by lia),oH];exact h2
 ·rw [List.getLast?_eq_getElem?,li];unfold rj;rw [kU,if_pos (by lia),oH,show i+1+(j-i-1)=j by lia];exact h3
 ·rw [li];unfold xZ;rw [bz,bK,cQ];lia
def U6 {r:List Int}{a b:Int}(h:(a,b)∈al r):r[(al r).idxOf (a,b)]?=some a/\r[(al r).idxOf (a,b)+1]?=some b:=by
 have hl:(al r).idxOf (a,b)<(al r).length:=eN.mpr h;refine QO.mp ?_;rw [ay hl,oG]
structure Ml (r X Y:List Int) (a b:Int):Prop where
 x:lL X
 y:lL Y
 ha:a∈X
 hb:b∈Y
 Zu:∀ c∈Y,c∉X
 pm:(al r).Perm ((a,b)::(b,a)::(al X++al Y))
 len:X.length+Y.length+1=r.length
def lL.parted {r:List Int}{a b:Int}(h:lL r) (hm:(a,b)∈al r) (hab:a≠b):Ml r (xE r a b).1 (xE r a b).2 a b:=by
 obtain ⟨p1,p2⟩:=U6 hm;obtain ⟨q1,q2⟩:=U6 (h.sym a b hm);unfold xE;generalize (al r).idxOf (a,b)=i at p1 p2;generalize (al r).idxOf (b,a)=j at q1 q2
 by_cases hij:i<j
 ·rw [if_pos hij];obtain ⟨e1,e2,e3,e4,e5⟩:=QP hij p1 p2 q1 q2;have hR:=h;rw [e1] at hR;obtain ⟨r1,r2,r3⟩:=lL.part _ (av _) hR e3 e4;refine ⟨by rw [e2];exact r2,r1,by rw [e2];simp,jA (by rw [e3];rfl),λc hc=>by rw [e2];exact r3 c hc,?_,by simp only;lia⟩;simp only;rw [e2];have hp:=Gj (xs:=r.take i) (ys:=r.drop (j+2)) (a:=a) e3 e4
  rwa [← e1] at hp
 ·rw [if_neg hij]
  have hji:j<i:=by
   rcases Nat.lt_or_ge j i with q|q
   ·exact q
   ·have:i=j:=by lia
    subst this;rw [p1] at q1;exact absurd (aY q1) hab
  obtain ⟨e1,e2,e3,e4,e5⟩:=QP hji q1 q2 p1 p2;have hR:=h;rw [e1] at hR;obtain ⟨r1,r2,r3⟩:=lL.part _ (av _) hR e3 e4;refine ⟨r1,by rw [e2];exact r2,jA (by rw [e3];rfl),by rw [e2];simp,λc hc hx=>by rw [e2] at hc;exact r3 c hx hc,?_,by simp only;lia⟩;simp only;rw [e2];have hp:=Gj (xs:=r.take j) (ys:=r.drop (i+2)) (a:=b) e3 e4;rw [← e1] at hp;refine hp.trans ((List.Perm.swap _ _ _).trans (kR _ (kR _ fU)))
end Rm
namespace Rm
def IW (x y:Int) (l:List Int):al (x::y::l)=(x,y)::al (y::l):=rfl
end Rm
namespace Rm
def BB (r1 r2:List Int) (a b:Int):List Int:=r1.take (r1.idxOf a+1)++(tn r2 (r2.idxOf b)++r1.drop (r1.idxOf a))
structure Hr (r1 r2:List Int) (a b:Int):Prop where
 h1:lL r1
 h2:lL r2
 ha:a∈r1
 hb:b∈r2
 Zu:∀ x∈r2,x∉r1
def Hr.facts {r1 r2:List Int}{a b:Int}(T:Hr r1 r2 a b):lL (BB r1 r2 a b)/\(al (BB r1 r2 a b)).Perm ((a,b)::(b,a)::(al r1++al r2))/\(BB r1 r2 a b).length=r1.length+r2.length+1:=by
 obtain ⟨t1,t2,t3,t4,t5⟩:=T.h2.turn T.hb;obtain ⟨xs,ys,e,el,hx⟩:=Fi T.ha
 have es:BB r1 r2 a b=xs++a::(tn r2 (r2.idxOf b)++a::ys):=by
  unfold BB;rw [← el]
  conv=>lhs;rw [e]
  have d1:(xs++a::ys).take (xs.length+1)=xs++[a]:=by
   rw [VP,b9 (by lia)];simp
  have d2:(xs++a::ys).drop xs.length=a::ys:=by simp
  rw [d1,d2];simp
 have hR:lL (xs++a::ys):=by rw [← e];exact T.h1
 have hd:∀ x∈tn r2 (r2.idxOf b),x∉xs++a::ys:=λx hx=>by rw [← e];exact T.Zu x ((t4 x).mp hx)
 refine ⟨by rw [es];exact hR.Xh t1 t3 hd,?_,?_⟩
 ·rw [es,e]
  have t3':(tn r2 (r2.idxOf b)).getLast?=some b:=by rw [← t1.ends];exact t3
  exact (Gj t3 t3').trans (kR _ (kR _ (lA _ t2)))
 ·have hlt:(tn r2 (r2.idxOf b)).length=r2.length:=t5;unfold BB;have:=Le T.ha;rw [bz,bz,bK,cQ,hlt];lia
def Hr.mem {r1 r2:List Int}{a b:Int}(T:Hr r1 r2 a b) (x:Int):x∈BB r1 r2 a b↔x∈r1\/x∈r2:=by
 obtain ⟨t1,t2,t3,t4,t5⟩:=T.h2.turn T.hb;unfold BB;rw [aN,aN,t4]
 constructor
 ·rintro (h|h|h)
  ·exact .inl (vB h)
  ·exact .inr h
  ·exact .inl (List.mem_of_mem_drop h)
 ·rintro (h|h)
  ·rw [← eL (r1.idxOf a) r1] at h
   rcases aN.mp h with h|h
   ·exact .inl (List.take_subset_take_left _ (iL _) h)
   ·exact .inr (.inr h)
  ·exact .inr (.inl h)
def Ml.mem {r X Y:List Int}{a b:Int}(P:Ml r X Y a b) (hr:lL r) (x:Int):x∈r↔x∈X\/x∈Y:=by
 have key:∀ {l:List Int},lL l->∀ {x:Int},x∈l->(l=[x]\/∃ y,(x,y)∈al l):=λ{l} hl {x} hx=>by
  obtain ⟨i,hi⟩:=bJ.mp hx;have hlt:=(aC.mp hi).1
  by_cases h:i+1<l.length
  ·exact .inr ⟨_,bJ.mpr ⟨i,QO.mpr ⟨hi,ay h⟩⟩⟩
  ·by_cases h1:l.length=1
   ·obtain ⟨c,rfl⟩:=List.length_eq_one_iff.mp h1
    have:i=0:=by simp at hlt;lia
    subst this;simp at hi;exact .inl (by rw [hi])
   ·have e1:l[i-1]?=some l[i-1]:=ay (by lia);exact .inr ⟨_,hl.sym _ _ (bJ.mpr ⟨i-1,QO.mpr ⟨e1,by rw [show i-1+1=i by lia];exact hi⟩⟩)⟩
 constructor
 ·intro hx
  rcases key hr hx with e|⟨y,hy⟩
  ·have:=P.len;rw [e] at this;have h1:=R6.mpr P.x.ne;have h2:=R6.mpr P.y.ne;rw [OI] at this;lia
  ·rcases au.mp (P.pm.mem_iff.mp hy) with e|hy
   ·cases e;exact .inl P.ha
   ·rcases au.mp hy with e|hy
    ·cases e;exact .inr P.hb
    ·rcases aN.mp hy with hy|hy
     ·exact .inl (fH hy).1
     ·exact .inr (fH hy).1
 ·intro hx;have Kr:∀ {u v:Int},(u,v)∈(a,b)::(b,a)::(al X++al Y)->u∈r:=λh=>(fH (P.pm.mem_iff.mpr h)).1
  rcases hx with hx|hx
  ·rcases key P.x hx with e|⟨y,hy⟩
   ·have:=P.ha;rw [e] at this;rw [← aA.mp this];exact Kr (v:=b) aw
   ·exact Kr (v:=y) (aj _ (aj _ (dX _ hy)))
  ·rcases key P.y hx with e|⟨y,hy⟩
   ·have:=P.hb;rw [e] at this;rw [← aA.mp this];exact Kr (v:=a) (aj _ aw)
   ·exact Kr (v:=y) (aj _ (aj _ (bB _ hy)))
structure Wd (n:Nat) (R:Nat->List Int):Prop where
 r:∀ i,i<n->lL (R i)
 me:∀ i:Nat,i<n->(i:Int)∈R i
 Kr:∀ i,i<n->∀ x∈R i,∃ j:Nat,j<n/\x=(j:Int)/\R j=R i
def Ed (n:Nat) (R:Nat->List Int) (x y:Int):Prop:=∃ i,i<n/\(x,y)∈al (R i)
def Wd.start (n:Nat):Wd n λi=>[(i:Int)] :=
 ⟨λi _=>lL.one _,λi _=>by simp,λi hi x hx=>⟨i,hi,by simpa using hx,rfl⟩⟩
def Wd.same {n:Nat}{R:Nat->List Int}(W:Wd n R) {i j:Nat}(hi:i<n) (hj:j<n) {x:Int}(h1:x∈R i) (h2:x∈R j):R i=R j:=by
 obtain ⟨k,hk,e1,e2⟩:=W.Kr i hi x h1;obtain ⟨k',hk',e3,e4⟩:=W.Kr j hj x h2
 have:k=k':=by lia
 subst this;rw [← e2,e4]
def Wd.head {n:Nat}{R:Nat->List Int}(W:Wd n R) {i j:Nat}(hi:i<n) (hj:j<n):((R i).head?=(R j).head?↔(j:Int)∈R i):=by
 constructor
 ·intro e
  obtain ⟨x,hx⟩:∃ x,(R i).head?=some x:=by
   cases h:R i with
   | nil=>exact absurd h (W.r i hi).ne
   | cons a l=>exact ⟨a,rfl⟩
  rw [W.same hi hj (jA hx) (jA (e▸hx))];exact W.me j hj
 ·intro h;rw [W.same hi hj h (W.me j hj)]
def Ed.at {n:Nat}{R:Nat->List Int}(W:Wd n R) {x y:Int}(h:Ed n R x y) {i:Nat}(hi:i<n) (hx:x∈R i):(x,y)∈al (R i):=by
 obtain ⟨j,hj,hm⟩:=h;rw [W.same hi hj hx (fH hm).1];exact hm
def Ed.symm {n:Nat}{R:Nat->List Int}(W:Wd n R) {x y:Int}(h:Ed n R x y):Ed n R y x:=let ⟨i,hi,hm⟩:=h;⟨i,hi,(W.r i hi).sym _ _ hm⟩
def Wd.link {n:Nat}{R:Nat->List Int}(W:Wd n R) {a b:Nat}(ha:a<n) (hb:b<n) (hn:(b:Int)∉R a) :
  Hr (R a) (R b) a b/\Wd n (λi=>if (i:Int)∈BB (R a) (R b) a b then BB (R a) (R b) a b else R i) /\
   ∀ x y,Ed n (λi=>if (i:Int)∈BB (R a) (R b) a b then BB (R a) (R b) a b else R i) x y↔(Ed n R x y\/(x,y)=((a:Int),(b:Int))\/(x,y)=((b:Int),(a:Int))):=by
 have T:Hr (R a) (R b) a b:=⟨W.r a ha,W.r b hb,W.me a ha,W.me b hb,λx h2 h1=>hn (by rw [W.same ha hb h1 h2];exact W.me b hb)⟩
 obtain ⟨f1,f2,f3⟩:=T.facts;have fm:=T.mem;generalize BB (R a) (R b) a b=s at f1 f2 f3 fm
 have hs:∀ x∈s,∃ j:Nat,j<n/\x=(j:Int)/\(j:Int)∈s:=λx hx=>by
  rcases (fm x).mp hx with h|h
  ·obtain ⟨j,hj,e,_⟩:=W.Kr a ha x h;exact ⟨j,hj,e,e▸hx⟩
  ·obtain ⟨j,hj,e,_⟩:=W.Kr b hb x h;exact ⟨j,hj,e,e▸hx⟩
 have nos:∀ i,i<n->(i:Int)∉s->∀ x∈R i,x∉s:=λi hi h x hx hxs=>by
  rcases (fm x).mp hxs with q|q
  ·exact h ((fm i).mpr (.inl (W.same ha hi q hx▸W.me i hi)))
  ·exact h ((fm i).mpr (.inr (W.same hb hi q hx▸W.me i hi)))
 refine ⟨T,⟨λi hi=>?_,λi hi=>?_,λi hi x hx=>?_⟩,λx y=>⟨?_,?_⟩⟩
 ·by_cases c:(i:Int)∈s
  ·rw [if_pos c];exact f1
  ·rw [if_neg c];exact W.r i hi
 ·by_cases c:(i:Int)∈s
  ·rw [if_pos c];exact c
  ·rw [if_neg c];exact W.me i hi
 ·by_cases c:(i:Int)∈s
  ·simp only [if_pos c] at hx ⊢;obtain ⟨j,hj,e,hjs⟩:=hs x hx;exact ⟨j,hj,e,if_pos hjs⟩
  ·simp only [if_neg c] at hx ⊢;obtain ⟨j,hj,e,er⟩:=W.Kr i hi x hx;exact ⟨j,hj,e,by rw [if_neg (λh=>nos i hi c x hx (e▸h))];exact er⟩
 ·rintro ⟨i,hi,hm⟩
  by_cases c:(i:Int)∈s
  ·simp only [if_pos c] at hm
   rcases au.mp (f2.mem_iff.mp hm) with e|hm
   ·exact .inr (.inl e)
   ·rcases au.mp hm with e|hm
    ·exact .inr (.inr e)
    ·rcases aN.mp hm with h|h
     ·exact .inl ⟨a,ha,h⟩
     ·exact .inl ⟨b,hb,h⟩
  ·simp only [if_neg c] at hm;exact .inl ⟨i,hi,hm⟩
 ·have inS:∀ {u v:Int},(u,v)∈al s->Ed n (λi=>if (i:Int)∈s then s else R i) u v:=λh=>⟨a,ha,by simp only [if_pos ((fm a).mpr (.inl (W.me a ha)))];exact h⟩
  rintro (⟨i,hi,hm⟩|e|e)
  ·by_cases c:(i:Int)∈s
   ·refine inS (f2.mem_iff.mpr (aj _ (aj _ ?_)))
    rcases (fm i).mp c with h|h
    ·rw [← W.same ha hi h (W.me i hi)] at hm;exact dX _ hm
    ·rw [← W.same hb hi h (W.me i hi)] at hm;exact bB _ hm
   ·exact ⟨i,hi,by simp only [if_neg c];exact hm⟩
  ·obtain ⟨rfl,rfl⟩:=cg e;exact inS (f2.mem_iff.mpr aw)
  ·obtain ⟨rfl,rfl⟩:=cg e;exact inS (f2.mem_iff.mpr (aj _ aw))
def Wd.cut {n:Nat}{R:Nat->List Int}(W:Wd n R) {a b:Nat}(ha:a<n) (hb:b<n) (hab:a≠b) (hm:((a:Int),(b:Int))∈al (R a)) :
  Wd n (λi=>if (i:Int)∈(xE (R a) a b).2 then (xE (R a) a b).2 else if (i:Int)∈(xE (R a) a b).1 then (xE (R a) a b).1 else R i) /\
   ∀ x y,Ed n (λi=>if (i:Int)∈(xE (R a) a b).2 then (xE (R a) a b).2 else if (i:Int)∈(xE (R a) a b).1 then (xE (R a) a b).1 else R i) x y↔(Ed n R x y/\¬ (x,y)=((a:Int),(b:Int))/\¬ (x,y)=((b:Int),(a:Int))):=by
 have hR:=W.r a ha;have P:=hR.parted hm (by lia:(a:Int)≠b);have PM:=P.mem hR;generalize (xE (R a) a b).1=X at P PM;generalize (xE (R a) a b).2=Y at P PM;have nd:=P.pm.nodup_iff.mp hR.nd;have nab:=(br.mp nd).1;have nba:=(br.mp (br.mp nd).2).1;have inr:∀ x∈R a,∃ j:Nat,j<n/\x=(j:Int)/\R j=R a:=W.Kr a ha;have nos:∀ i,i<n->(i:Int)∉R a->∀ x∈R i,x∉R a:=λi hi h x hx hxs=>h (W.same ha hi hxs hx▸W.me i hi);have sw:∀ i:Nat,(i:Int)∈Y->(i:Int)∉X:=λi h=>P.Zu _ h;refine ⟨⟨λi hi=>?_,λi hi=>?_,λi hi x hx=>?_⟩,λx y=>⟨?_,?_⟩⟩
 ·by_cases c2:(i:Int)∈Y
  ·rw [if_pos c2];exact P.y
  ·by_cases c1:(i:Int)∈X
   ·rw [if_neg c2,if_pos c1];exact P.x
   ·rw [if_neg c2,if_neg c1];exact W.r i hi
 ·by_cases c2:(i:Int)∈Y
  ·rw [if_pos c2];exact c2
  ·by_cases c1:(i:Int)∈X
   ·rw [if_neg c2,if_pos c1];exact c1
   ·rw [if_neg c2,if_neg c1];exact W.me i hi
 ·by_cases c2:(i:Int)∈Y
  ·simp only [if_pos c2] at hx ⊢;obtain ⟨j,hj,e,_⟩:=inr x ((PM x).mpr (.inr hx));exact ⟨j,hj,e,if_pos (e▸hx)⟩
  ·by_cases c1:(i:Int)∈X
   ·simp only [if_neg c2,if_pos c1] at hx ⊢;obtain ⟨j,hj,e,_⟩:=inr x ((PM x).mpr (.inl hx));have hjX:(j:Int)∈X:=e▸hx;exact ⟨j,hj,e,by rw [if_neg (λh=>sw j h hjX),if_pos hjX]⟩
   ·simp only [if_neg c2,if_neg c1] at hx ⊢;obtain ⟨j,hj,e,er⟩:=W.Kr i hi x hx;have hni:(i:Int)∉R a:=λh=>((PM i).mp h).elim c1 c2;have hnj:(j:Int)∉R a:=λh=>nos i hi hni x hx (e▸h);exact ⟨j,hj,e,by rw [if_neg (λh=>hnj ((PM j).mpr (.inr h))),if_neg (λh=>hnj ((PM j).mpr (.inl h)))];exact er⟩
 ·have old:∀ {u v:Int},(u,v)∈al X++al Y->Ed n R u v/\¬ (u,v)=((a:Int),(b:Int))/\¬ (u,v)=((b:Int),(a:Int)):=λ{u v} h =>
   ⟨⟨a,ha,P.pm.mem_iff.mpr (aj _ (aj _ h))⟩,λe=>nab (aj _ (e▸h)),λe=>nba (e▸h)⟩
  rintro ⟨i,hi,h⟩
  by_cases c2:(i:Int)∈Y
  ·simp only [if_pos c2] at h;exact old (bB _ h)
  ·by_cases c1:(i:Int)∈X
   ·simp only [if_neg c2,if_pos c1] at h;exact old (dX _ h)
   ·simp only [if_neg c2,if_neg c1] at h;have hni:(i:Int)∉R a:=λh=>((PM i).mp h).elim c1 c2;have hxa:x∉R a:=nos i hi hni x (fH h).1;refine ⟨⟨i,hi,h⟩,λe=>hxa ?_,λe=>hxa ?_⟩
    ·rw [(cg e).1];exact W.me a ha
    ·rw [(cg e).1];exact (PM _).mpr (.inr P.hb)
 ·rintro ⟨h,e1,e2⟩
  by_cases hx:x∈R a
  ·have hm:=Ed.at W h ha hx
   rcases au.mp (P.pm.mem_iff.mp hm) with e|hm
   ·exact absurd e e1
   ·rcases au.mp hm with e|hm
    ·exact absurd e e2
    ·rcases aN.mp hm with q|q
     ·refine ⟨a,ha,?_⟩;simp only [if_neg (λh=>sw a h P.ha),if_pos P.ha];exact q
     ·refine ⟨b,hb,?_⟩;simp only [if_pos P.hb];exact q
  ·obtain ⟨i,hi,hm⟩:=h;have hni:(i:Int)∉R a:=λh=>hx (W.same ha hi h (W.me i hi)▸(fH hm).1);refine ⟨i,hi,?_⟩;simp only [if_neg (λh=>hni ((PM i).mpr (.inr h))),if_neg (λh=>hni ((PM i).mpr (.inl h)))];exact hm
theorem TK {M:Int->Prop}:∀ {l:List Int},(∀ x y,(x,y)∈al l->(M x↔M y))->(∃ a∈l,M a)->∀ x∈l,M x
 | [],_,_,x,hx=>nomatch hx
 | [c],_,⟨a,ha,hM⟩,x,hx=>by
  rw [aA.mp hx,← aA.mp ha];exact hM
 | c::d::t,h,⟨a,ha,hM⟩,x,hx=>by
  have hcd:=h c d (by rw [IW];exact aw);have ih:=TK (l:=d::t) λx y hm=>h x y (by rw [IW];exact aj _ hm)
  have hd:M d:=by
   rcases au.mp ha with e|ha
   ·exact hcd.mp (e▸hM)
   ·exact ih ⟨a,ha,hM⟩ d aw
  rcases au.mp hx with e|hx
  ·rw [e];exact hcd.mpr hd
  ·exact ih ⟨d,aw,hd⟩ x hx
def few {l:List Int}{n:Nat}(hn:l.Nodup) (h:∀ x∈l,∃ j:Nat,j<n/\x=(j:Int)):l.length<=n:=by
 have e:=pW (ds:=(dv n).map λi:Nat=>(i:Int)) (r:=l) (by
  rw [HX,dC]
  exact List.Pairwise.imp (λh e=>h (by lia)) (HX.mp List.nodup_range)) λx hx=>by
   obtain ⟨j,hj,e⟩:=h x hx;exact aT.mpr ⟨j,jP.mpr hj,e.symm⟩
 have le:∀ (ds:List Int),(ds.map λd=>l.count d).sum<=ds.length:=λds=>by
  induction ds with
  | nil=>simp
  | cons d ds ih =>
   have:l.count d<=1:=mY.mp hn d;simp only [b0,yK,bV];lia
 have:=le ((dv n).map λi:Nat=>(i:Int));rw [e] at this
 simpa using this
def Wd.len {n:Nat}{R:Nat->List Int}(W:Wd n R) {i:Nat}(hi:i<n):(R i).length+1<=2*n:=by
 obtain ⟨ds,h1,h2,h3⟩:=(W.r i hi).cnt
 have:=few h1 λx hx=>let ⟨j,hj,e,_⟩:=W.Kr i hi x ((h2 x).mp hx);⟨j,hj,e⟩
 lia
end Rm
namespace Rm
end Rm
namespace Rm
def Gk {α:Type} [DecidableEq α] {l m:List α}(h1:l.Nodup) (h2:m.Nodup) (h:∀ x,x∈l↔x∈m):l.Perm m:=by
 rw [List.perm_iff_count];intro x
 by_cases hx:x∈l
 ·have a1:=mY.mp h1 x;have a2:=mY.mp h2 x;have b1:=kY.mpr hx;have b2:=kY.mpr ((h x).mp hx);lia
 ·rw [EM hx,EM (λq=>hx ((h x).mpr q))]
end Rm
namespace Rm
def lk (R:Nat->List Int) (a b:Nat):Nat->List Int:=λi=>if (i:Int)∈BB (R a) (R b) a b then BB (R a) (R b) a b else R i
def ct (R:Nat->List Int) (a b:Nat):Nat->List Int:=λi=>if (i:Int)∈(xE (R a) a b).2 then (xE (R a) a b).2 else if (i:Int)∈(xE (R a) a b).1 then (xE (R a) a b).1 else R i
def MT {r s:List Int}(hr:lL r) (hs:lL s) (h:∀ x∈r,x∈s):r.length<=s.length:=by
 obtain ⟨d,d1,d2,d3⟩:=hr.cnt;obtain ⟨e,e1,e2,e3⟩:=hs.cnt;have q:=pW (ds:=e) (r:=d) e1 λx hx=>(e2 x).mpr (h x ((d2 x).mp hx))
 have le:∀ (ds:List Int),(ds.map λc=>d.count c).sum<=ds.length:=λds=>by
  induction ds with
  | nil=>simp
  | cons c ds ih =>
   have:d.count c<=1:=mY.mp d1 c;simp only [b0,yK,bV];lia
 have:=le e;lia
section
variable {n:Nat}{R R':Nat->List Int}{x y z a b:Nat}
def Wd.sub (W:Wd n R) (W':Wd n R') (h:∀ x y,Ed n R x y->Ed n R' x y) (hx:x<n):∀ c∈R x,c∈R' x :=
 TK (M:=λc=>c∈R' x) (λu v hm =>
  have e:=h u v ⟨x,hx,hm⟩
  ⟨λhu=>(fH (Ed.at W' e hx hu)).2,λhv=>(fH (Ed.at W' (Ed.symm W' e) hx hv)).2⟩) ⟨x,W.me x hx,W'.me x hx⟩
def Wd.sy (W:Wd n R) (hx:x<n) (hy:y<n) (h:(y:Int)∈R x):(x:Int)∈R y:=W.same hx hy h (W.me y hy)▸W.me x hx
def Wd.eq (W:Wd n R) (hx:x<n) (hy:y<n) (h:(y:Int)∈R x):R x=R y:=W.same hx hy h (W.me y hy)
def Wd.lk (W:Wd n R) (ha:a<n) (hb:b<n) (hn:(b:Int)∉R a):Wd n (lk R a b):=(W.link ha hb hn).2.1
def Wd.RP (W:Wd n R) (ha:a<n) (hb:b<n) (hn:(b:Int)∉R a) (x y:Int):Ed n (Rm.lk R a b) x y↔(Ed n R x y\/(x,y)=((a:Int),(b:Int))\/(x,y)=((b:Int),(a:Int))):=(W.link ha hb hn).2.2 x y
def Wd.FF (W:Wd n R) (ha:a<n) (hb:b<n) (hn:(b:Int)∉R a) (h:(x:Int)∈R a\/(x:Int)∈R b):(∀ c,c∈Rm.lk R a b x↔c∈R a\/c∈R b)/\(Rm.lk R a b x).length=(R a).length+(R b).length+1:=by
 have T:=(W.link ha hb hn).1;have e:Rm.lk R a b x=BB (R a) (R b) a b:=if_pos ((T.mem x).mpr h);rw [e];exact ⟨T.mem,T.facts.2.2⟩
def Wd.RM (W:Wd n R) (ha:a<n) (hb:b<n) (hn:(b:Int)∉R a) (h1:(x:Int)∉R a) (h2:(x:Int)∉R b):Rm.lk R a b x=R x :=
 if_neg λh=>((((W.link ha hb hn).1).mem x).mp h).elim h1 h2
def Wd.VA (W:Wd n R) (ha:a<n) (hb:b<n) (hn:(b:Int)∉R a) (hx:x<n):∀ c∈R x,c∈Rm.lk R a b x :=
 W.sub (W.lk ha hb hn) (λu v h=>(W.RP ha hb hn u v).mpr (.inl h)) hx
def Wd.ct (W:Wd n R) (ha:a<n) (hb:b<n) (hab:a≠b) (hm:Ed n R a b):Wd n (ct R a b):=(W.cut ha hb hab (Ed.at W hm ha (W.me a ha))).1
def Wd.Nt (W:Wd n R) (ha:a<n) (hb:b<n) (hab:a≠b) (hm:Ed n R a b) (x y:Int):Ed n (Rm.ct R a b) x y↔(Ed n R x y/\¬ (x,y)=((a:Int),(b:Int))/\¬ (x,y)=((b:Int),(a:Int))):=(W.cut ha hb hab (Ed.at W hm ha (W.me a ha))).2 x y
def Wd.RN (W:Wd n R) (ha:a<n) (hb:b<n) (hab:a≠b) (hm:Ed n R a b):(b:Int)∉Rm.ct R a b a/\(∀ c,c∈R a↔c∈Rm.ct R a b a\/c∈Rm.ct R a b b)/\(Rm.ct R a b a).length+(Rm.ct R a b b).length+1=(R a).length:=by
 have hR:=W.r a ha;have P:=hR.parted (Ed.at W hm ha (W.me a ha)) (by lia:(a:Int)≠b);have PM:=P.mem hR;have e1:Rm.ct R a b b=(xE (R a) a b).2:=if_pos P.hb
 have e2:Rm.ct R a b a=(xE (R a) a b).1:=by
  show (if _ then _ else if _ then _ else _)=_
  rw [if_neg λh=>P.Zu _ h P.ha,if_pos P.ha]
 rw [e1,e2];exact ⟨P.Zu _ P.hb,PM,P.len⟩
def Wd.W9 (W:Wd n R) (ha:a<n) (hb:b<n) (hab:a≠b) (hm:Ed n R a b) (h:(x:Int)∉R a):Rm.ct R a b x=R x:=by
 have hR:=W.r a ha;have PM:=(hR.parted (Ed.at W hm ha (W.me a ha)) (by lia:(a:Int)≠b)).mem hR
 show (if _ then _ else if _ then _ else _)=_
 rw [if_neg λq=>h ((PM _).mpr (.inr q)),if_neg λq=>h ((PM _).mpr (.inl q))]
end
structure Ti where
 x:Nat
 y:Nat
 cS:Nat
 wd:Bool
def Ti.key (t:Ti):Int×Int:=((t.x:Int),(t.y:Int))
def Ti.kb (t:Ti):(Int×Int)×Bool:=(t.key,t.wd)
def Ti.Is (t:Ti) (u v:Int):Prop:=(u,v)=((t.x:Int),(t.y:Int))\/(u,v)=((t.y:Int),(t.x:Int))
def Ti.up (t:Ti):Ti:={ t with cS:=t.cS+1 }
def Ti.vv (t:Ti):Ti:={ t with wd:=true }
def Ti.Ht {t u:Ti}(h:t.key=u.key):t.x=u.x/\t.y=u.y:=by
 obtain ⟨h1,h2⟩:=cg h;lia
def Ti.vn {t u:Ti}(ht:t.x<t.y) (hu:u.x<u.y) (h:t.Is u.x u.y):t.key=u.key:=by
 rcases h with h|h<;>obtain ⟨h1,h2⟩:=cg h
 ·exact oE h1.symm h2.symm
 ·lia
def Ti.Nn {t:Ti}{u v:Int}:t.Is u v->t.Is v u:=λh=>h.elim (λh=>.inr (by rw [HP] at h ⊢;exact ⟨h.2,h.1⟩)) (λh=>.inl (by rw [HP] at h ⊢;exact ⟨h.2,h.1⟩))
structure Lv (n T:Nat) (ts:List Ti) (R:Nat->Nat->List Int):Prop where
 wd:∀ i,i<=T->Wd n (R i)
 ed:∀ i,i<=T->∀ u v:Int,Ed n (R i) u v↔∃ t∈ts,t.wd=true/\i<=t.cS/\t.Is u v
 sz:∀ i,i<=T->∀ x,x<n->((R i x).length+1)*2^i<=2*n
 lt:∀ t∈ts,t.x<t.y/\t.y<n/\t.cS<=T
 nd:(ts.map Ti.key).Nodup
def Jn (ts:List Ti) (R:Nat->Nat->List Int):Prop:=∀ t∈ts,(t.y:Int)∈R t.cS t.x
def mi {ts:List Ti}(h:(ts.map Ti.key).Nodup) {t u:Ti}(ht:t∈ts) (hu:u∈ts) (e:t.key=u.key):t=u:=by
 induction ts with
 | nil=>nomatch ht
 | cons s ts ih =>
  rw [b0,br] at h
  rcases au.mp ht with rfl|ht'<;>rcases au.mp hu with rfl|hu'
  ·rfl
  ·exact absurd (e▸aZ hu') h.1
  ·exact absurd (e▸aZ ht') h.1
  ·exact ih h.2 ht' hu'
def gQ (ts:List Ti) (k:Int×Int) (f:Ti->Ti):List Ti:=ts.map λt=>if t.key=k then f t else t
section
variable {n T:Nat}{ts:List Ti}{R:Nat->Nat->List Int}{t:Ti}{f:Ti->Ti}
def oP (hf:∀ t,(f t).key=t.key) (k:Int×Int):(gQ ts k f).map Ti.key=ts.map Ti.key:=by
 unfold gQ;rw [bo]
 exact eE λu _=>by
  show Ti.key (if _ then _ else _)=_
  split
  ·exact hf u
  ·rfl
def MU (k:Int×Int):(gQ ts k Ti.up).map Ti.kb=ts.map Ti.kb:=by
 unfold gQ;rw [bo]
 exact eE λu _=>by
  show Ti.kb (if _ then _ else _)=_
  split<;>rfl
def Gm (ts:List Ti):ts.map Ti.key=(ts.map Ti.kb).map O8:=by rw [bo];rfl
def TL (k:Int×Int) (l:List ((Int×Int)×Bool)):List ((Int×Int)×Bool):=l.map λq=>if q.1=k then (q.1,true) else q
def TM (k:Int×Int) (l:List ((Int×Int)×Bool)):(TL k l).map O8=l.map O8:=by
 unfold TL;rw [bo]
 exact eE λu _=>by
  show O8 (if _ then _ else _)=_
  split<;>rfl
def TN (k:Int×Int):(gQ ts k Ti.vv).map Ti.kb=TL k (ts.map Ti.kb):=by
 unfold gQ TL;rw [bo,bo]
 exact eE λu _=>by
  show Ti.kb (if _ then _ else _)=if u.key=k then _ else _
  split<;>rfl
def kL (hnd:(ts.map Ti.key).Nodup) (ht:t∈ts) (u:Ti):u∈gQ ts t.key f↔u=f t\/(u∈ts/\u.key≠t.key):=by
 unfold gQ;rw [aT]
 constructor
 ·rintro ⟨v,hv,e⟩
  by_cases c:v.key=t.key
  ·rw [if_pos c] at e;rw [mi hnd hv ht c] at e;exact .inl e.symm
  ·rw [if_neg c] at e;subst e;exact .inr ⟨hv,c⟩
 ·rintro (e|⟨h,c⟩)
  ·exact ⟨t,ht,by rw [if_pos rfl,e]⟩
  ·exact ⟨u,h,if_neg c⟩
def Lv.mono (L:Lv n T ts R) {i j x:Nat}(hij:i<=j) (hj:j<=T) (hx:x<n):∀ c∈R j x,c∈R i x :=
 (L.wd j hj).sub (L.wd i (bu hij hj)) (λu v h=>by
  obtain ⟨t,h1,h2,h3,h4⟩:=(L.ed j hj u v).mp h
  exact (L.ed i (bu hij hj) u v).mpr ⟨t,h1,h2,bu hij h3,h4⟩) hx
def Lv.apart (L:Lv n T ts R) (ht:t∈ts) (hw:t.wd=true) {i:Nat}(hi:t.cS<i) (hT:i<=T):(t.y:Int)∉R i t.x:=by
 obtain ⟨h1,h2,h3⟩:=L.lt t ht;have W:=L.wd t.cS h3;have e:Ed n (R t.cS) t.x t.y:=(L.ed _ h3 _ _).mpr ⟨t,ht,hw,av _,.inl rfl⟩;have c:=W.RN (a:=t.x) (b:=t.y) (by lia) h2 (by lia) e;intro hin;refine c.1 ((L.wd i hT).sub (W.ct (a:=t.x) (b:=t.y) (by lia) h2 (by lia) e) (λu v h=>?_) (by lia) _ hin);obtain ⟨s,s1,s2,s3,s4⟩:=(L.ed i hT u v).mp h
 have ne:¬ t.Is u v:=λq=>by
  have:s.key=t.key:=by
   obtain ⟨l1,l2,l3⟩:=L.lt s s1
   rcases q with q|q<;>obtain ⟨rfl,rfl⟩:=cg q
   ·exact Ti.vn l1 h1 s4
   ·exact Ti.vn l1 h1 (Ti.Nn s4)
  rw [mi L.nd s1 ht this] at s3;lia
 exact (W.Nt (a:=t.x) (b:=t.y) (by lia) h2 (by lia) e u v).mpr ⟨(L.ed _ h3 u v).mpr ⟨s,s1,s2,by lia,s4⟩,λq=>ne (.inl q),λq=>ne (.inr q)⟩
def YX (R:Nat->Nat->List Int) (j x y:Nat):Nat->Nat->List Int:=λi=>if i=j then lk (R j) x y else R i
def HS (R:Nat->Nat->List Int) (l x y:Nat):Nat->Nat->List Int:=λi=>if i<=l then lk (R i) x y else R i
def Z7 (R:Nat->Nat->List Int) (l x y:Nat):Nat->Nat->List Int:=λi=>if i<=l then ct (R i) x y else R i
def Lv.vn (L:Lv n T ts R) {s:Ti}(hs:s∈ts) (ht:t∈ts) {u v:Int}(h1:s.Is u v) (h2:t.Is u v):s=t:=by
 refine mi L.nd hs ht ?_
 rcases h2 with q|q<;>obtain ⟨rfl,rfl⟩:=cg q
 ·exact Ti.vn (L.lt s hs).1 (L.lt t ht).1 h1
 ·exact Ti.vn (L.lt s hs).1 (L.lt t ht).1 (Ti.Nn h1)
structure Dn (n T:Nat) (ts:List Ti) (R:Nat->Nat->List Int) (a b k:Nat):Prop where
 lv:Lv n T ts R
 ha:a<n
 hb:b<n
 hk:k<=T+1
 ap:(b:Int)∉R 0 a
 s2:∀ i,i<k->((R i a).length+(R i b).length+2)*2^i<=2*n
 jn:∀ t∈ts,(t.y:Int)∈R t.cS t.x\/(t.cS<k/\((t.x:Int)∈R t.cS a/\(t.y:Int)∈R t.cS b\/(t.x:Int)∈R t.cS b/\(t.y:Int)∈R t.cS a))
variable {a b k l:Nat}
def Dn.swap (D:Dn n T ts R a b k):Dn n T ts R b a k :=
 ⟨D.lv,D.hb,D.ha,D.hk,λh=>D.ap ((D.lv.wd 0 (aK _)).sy D.hb D.ha h),λi hi=>by have:=D.s2 i hi;rwa [OV (R i b).length],λt ht=>(D.jn t ht).imp_right λh=>⟨h.1,h.2.symm⟩⟩
def Dn.done (D:Dn n T ts R a b 0):Jn ts R:=λt ht=>(D.jn t ht).resolve_right λh=>by lia
def Dn.apart (D:Dn n T ts R a b k) {i:Nat}(hi:i<=T):(b:Int)∉R i a:=λh=>D.ap (D.lv.mono (aK _) hi D.ha _ h)
def Lv.drop (L:Lv n T ts R) (J:Jn ts R) (ht:t∈ts) (hw:t.wd=true):Dn n T (ts.filter λu=>decide (u.key≠t.key)) (Z7 R t.cS t.x t.y) t.x t.y (t.cS+1):=by
 obtain ⟨h1,h2,h3⟩:=L.lt t ht
 have hx:t.x<n:=by lia
 have hne:t.x≠t.y:=by lia
 have e:∀ i,i<=t.cS->Ed n (R i) t.x t.y:=λi hi=>(L.ed i (by lia) _ _).mpr ⟨t,ht,hw,hi,.inl rfl⟩;have lo:∀ i,i<=t.cS->Z7 R t.cS t.x t.y i=ct (R i) t.x t.y:=λi hi=>if_pos hi;have hi':∀ i,¬ i<=t.cS->Z7 R t.cS t.x t.y i=R i:=λi hi=>if_neg hi
 have mm:∀ u,u∈ts.filter (λu=>decide (u.key≠t.key))↔u∈ts/\u≠t:=λu=>by
  rw [bH,decide_eq_true_iff];exact and_congr_right λhu=>not_congr ⟨λq=>mi L.nd hu ht q,λq=>q▸rfl⟩
 have C:=λi (hi:i<=t.cS)=>(L.wd i (by lia)).RN hx h2 hne (e i hi);refine ⟨⟨λi hi=>?_,λi hi u v=>?_,λi hi x hx'=>?_,λu hu=>L.lt u ((mm u).mp hu).1,?_⟩,hx,h2,by lia,?_,λi hi=>?_,λu hu=>?_⟩
 ·by_cases c:i<=t.cS
  ·rw [lo i c];exact (L.wd i hi).ct hx h2 hne (e i c)
  ·rw [hi' i c];exact L.wd i hi
 ·by_cases c:i<=t.cS
  ·rw [lo i c,(L.wd i hi).Nt hx h2 hne (e i c),L.ed i hi]
   constructor
   ·rintro ⟨⟨s,s1,s2,s3,s4⟩,n1,n2⟩;exact ⟨s,(mm s).mpr ⟨s1,λq=>(q▸s4).elim n1 n2⟩,s2,s3,s4⟩
   ·rintro ⟨s,s1,s2,s3,s4⟩;have s5:=(mm s).mp s1;exact ⟨⟨s,s5.1,s2,s3,s4⟩,λq=>s5.2 (L.vn s5.1 ht s4 (.inl q)),λq=>s5.2 (L.vn s5.1 ht s4 (.inr q))⟩
  ·rw [hi' i c,L.ed i hi]
   constructor
   ·rintro ⟨s,s1,s2,s3,s4⟩;exact ⟨s,(mm s).mpr ⟨s1,λq=>c (q▸s3)⟩,s2,s3,s4⟩
   ·rintro ⟨s,s1,s2⟩;exact ⟨s,((mm s).mp s1).1,s2⟩
 ·refine bu (nC _ (sM ?_)) (L.sz i hi x hx')
  by_cases c:i<=t.cS
  ·rw [lo i c];have W':=(L.wd i hi).ct hx h2 hne (e i c);exact MT (W'.r x hx') ((L.wd i hi).r x hx') (W'.sub (L.wd i hi) (λu v q=>(((L.wd i hi).Nt hx h2 hne (e i c) u v).mp q).1) hx')
  ·rw [hi' i c];exact av _
 ·exact (vz _ gP).nodup L.nd
 ·rw [lo 0 (aK _)];exact (C 0 (aK _)).1
 ·rw [lo i (by lia)];have:=(C i (by lia)).2.2;have:=L.sz i (by lia) t.x hx
  have e:(ct (R i) t.x t.y t.x).length+(ct (R i) t.x t.y t.y).length+2=(R i t.x).length+1:=by lia
  rw [e];exact this
 ·obtain ⟨q1,q2⟩:=(mm u).mp hu;have j:=J u q1;obtain ⟨u1,u2,u3⟩:=L.lt u q1
  by_cases c:u.cS<=t.cS
  ·rw [lo _ c];have W:=L.wd _ u3;have W':=W.ct hx h2 hne (e _ c)
   by_cases d:(u.x:Int)∈R u.cS t.x
   ·have d':(u.y:Int)∈R u.cS t.x:=by rw [W.eq hx (by lia) d];exact j
    rcases ((C _ c).2.1 _).mp d with p|p<;>rcases ((C _ c).2.1 _).mp d' with p'|p'
    ·exact .inl (by rw [← W'.eq hx (by lia) p];exact p')
    ·exact .inr ⟨by lia,.inl ⟨p,p'⟩⟩
    ·exact .inr ⟨by lia,.inr ⟨p,p'⟩⟩
    ·exact .inl (by rw [← W'.eq h2 (by lia) p];exact p')
   ·rw [W.W9 hx h2 hne (e _ c) d];exact .inl j
  ·rw [hi' _ c];exact .inl j
def Dn.few (D:Dn n T ts R a b (l+1)) (hT:∀ j,2^(j+1)<=n->j<=T) (hs:((R l a).length+1)*2^(l+1)<=2*n) {x y:Nat}(hx:(x:Int)∈R l a) (hy:(y:Int)∈R l a) (hxy:x≠y):l+1<=T:=by
 have hl:l<=T:=by have:=D.hk;lia
 obtain ⟨d,d1,d2,d3⟩:=((D.lv.wd l hl).r a D.ha).cnt
 have:2<=d.length:=by
  have hx':=(d2 _).mpr hx;have hy':=(d2 _).mpr hy
  match d,d1,hx',hy' with
  | [c],_,hx',hy' =>
   rw [aA] at hx' hy'
   lia
  | c::e::r,_,_,_=>simp
 refine hT _ ?_;have h4:4*2^(l+1)<=((R l a).length+1)*2^(l+1):=nC _ (by lia);have:=OW 2 (l+1);lia
def Dn.Zm (D:Dn n T ts R a b (l+1)) (hT:∀ j,2^(j+1)<=n->j<=T) (hs:((R l a).length+1)*2^(l+1)<=2*n) (ht:t∈ts) (hw:t.wd=true) (hl:t.cS=l) (hx:(t.x:Int)∈R l a) (hy:(t.y:Int)∈R l a) :
  l+1<=T/\(t.y:Int)∉R (l+1) t.x/\Dn n T (gQ ts t.key Ti.up) (YX R (l+1) t.x t.y) a b (l+1):=by
 have L:=D.lv;obtain ⟨h1,h2,h3⟩:=L.lt t ht;have hl1:l+1<=T:=D.few hT hs hx hy (by lia);have hap:=L.apart ht hw (i:=l+1) (by lia) hl1
 have hxn:t.x<n:=by lia
 have W:=L.wd _ hl1;have hi':∀ i,i≠l+1->YX R (l+1) t.x t.y i=R i:=λi hi=>if_neg hi;have at':YX R (l+1) t.x t.y (l+1)=lk (R (l+1)) t.x t.y:=if_pos rfl;have mm:=kL (f:=Ti.up) L.nd ht;have kk:∀ u,u∈ts->u≠t->u.key≠t.key:=λu hu hne q=>hne (mi L.nd hu ht q);have lo:=L.wd l (by lia);refine ⟨hl1,hap,⟨λi hi=>?_,λi hi u v=>?_,λi hi x hx'=>?_,λu hu=>?_,?_⟩,D.ha,D.hb,D.hk,?_,λi hi=>?_,λu hu=>?_⟩
 ·by_cases c:i=l+1
  ·subst c;rw [at'];exact W.lk hxn h2 hap
  ·rw [hi' i c];exact L.wd i hi
 ·have:(∃ s∈gQ ts t.key Ti.up,s.wd=true/\i<=s.cS/\s.Is u v)↔(i<=l+1/\t.Is u v)\/∃ s∈ts,s≠t/\s.wd=true/\i<=s.cS/\s.Is u v:=by
   constructor
   ·rintro ⟨s,s1,s2⟩
    rcases (mm s).mp s1 with rfl|⟨q1,q2⟩
    ·exact .inl ⟨by have:i<=t.cS+1:=s2.2.1;lia,s2.2.2⟩
    ·exact .inr ⟨s,q1,λq=>q2 (q▸rfl),s2⟩
   ·rintro (⟨q1,q2⟩|⟨s,s1,s2,s3⟩)
    ·exact ⟨t.up,(mm _).mpr (.inl rfl),hw,by show i<=t.cS+1;lia,q2⟩
    ·exact ⟨s,(mm _).mpr (.inr ⟨s1,kk s s1 s2⟩),s3⟩
  rw [this]
  have old:Ed n (R i) u v↔(i<=l/\t.Is u v)\/∃ s∈ts,s≠t/\s.wd=true/\i<=s.cS/\s.Is u v:=by
   rw [L.ed i hi]
   constructor
   ·rintro ⟨s,s1,s2,s3,s4⟩
    by_cases q:s=t
    ·subst q;exact .inl ⟨by lia,s4⟩
    ·exact .inr ⟨s,s1,q,s2,s3,s4⟩
   ·rintro (⟨q1,q2⟩|⟨s,s1,s2,s3⟩)
    ·exact ⟨t,ht,hw,by lia,q2⟩
    ·exact ⟨s,s1,s3⟩
  by_cases c:i=l+1
  ·subst c;rw [at',W.RP hxn h2 hap,old]
   constructor
   ·rintro ((⟨q,_⟩|q)|q)
    ·lia
    ·exact .inr q
    ·exact .inl ⟨av _,q⟩
   ·rintro (⟨_,q⟩|q)
    ·exact .inr q
    ·exact .inl (.inr q)
  ·rw [hi' i c,old];exact or_congr_left (and_congr_left λ_=>by lia)
 ·by_cases c:i=l+1
  ·subst c;rw [at']
   by_cases d:(x:Int)∈R (l+1) t.x\/(x:Int)∈R (l+1) t.y
   ·refine bu (nC _ (sM ?_)) hs;refine MT ((W.lk hxn h2 hap).r x hx') (lo.r a D.ha) λc hc=>?_
    rcases ((W.FF hxn h2 hap d).1 c).mp hc with q|q
    ·rw [lo.eq D.ha hxn hx];exact L.mono (iL l) hl1 hxn _ q
    ·rw [lo.eq D.ha h2 hy];exact L.mono (iL l) hl1 h2 _ q
   ·rw [W.RM hxn h2 hap (λq=>d (.inl q)) (λq=>d (.inr q))];exact L.sz _ hi x hx'
  ·rw [hi' i c];exact L.sz i hi x hx'
 ·rcases (mm u).mp hu with rfl|⟨q,_⟩
  ·exact ⟨h1,h2,by show t.cS+1<=T;lia⟩
  ·exact L.lt u q
 ·exact (oP (f:=Ti.up) (λ_=>rfl) t.key).symm▸L.nd
 ·rw [hi' 0 (by lia)];exact D.ap
 ·rw [hi' i (by lia)];exact D.s2 i hi
 ·rcases (mm u).mp hu with rfl|⟨q,_⟩
  ·have:t.up.cS=l+1:=by show t.cS+1=l+1;lia
   rw [this,at'];exact .inl (((W.FF (x:=t.x) hxn h2 hap (.inl (W.me _ hxn))).1 _).mpr (.inr (W.me _ h2)))
  ·have j:=D.jn u q;obtain ⟨u1,u2,u3⟩:=L.lt u q
   by_cases c:u.cS=l+1
   ·rw [c] at j ⊢;rw [at'];exact .inl (W.VA hxn h2 hap (by lia) _ (j.resolve_right λq=>by lia))
   ·rw [hi' _ c];exact j
def Dn.full (D:Dn n T ts R a b (l+1)) (hno:∀ t∈ts,t.wd=true->t.cS=l->(t.x:Int)∈R l a->(t.y:Int)∈R l a->False) (hl:l+1<=T) {x y:Nat}(hx:x<n) (hy:y<n) (h1:(x:Int)∈R l a) (h2:(y:Int)∈R l a):(y:Int)∈R (l+1) x:=by
 have L:=D.lv;have W:=L.wd l (by lia);have V:=L.wd (l+1) hl;have e:=W.eq D.ha hx h1;refine TK (M:=λc=>c∈R (l+1) x) (l:=R l a) (λu v hm=>?_) ⟨x,h1,V.me x hx⟩ y h2;obtain ⟨t,t1,t2,t3,t4⟩:=(L.ed l (by lia) u v).mp ⟨a,D.ha,hm⟩;have m:=fH hm
 have ne:t.cS≠l:=λq=>by
  rcases t4 with p|p<;>obtain ⟨rfl,rfl⟩:=cg p
  ·exact hno t t1 t2 q m.1 m.2
  ·exact hno t t1 t2 q m.2 m.1
 have E:Ed n (R (l+1)) u v:=(L.ed _ hl u v).mpr ⟨t,t1,t2,by lia,t4⟩;exact ⟨λhu=>(fH (Ed.at V E hx hu)).2,λhv=>(fH (Ed.at V (Ed.symm V E) hx hv)).2⟩
def Dn.Zp (D:Dn n T ts R a b (l+1)) (ht:t∈ts) (hw:t.wd=false) (hl:t.cS=l) (hl1:l+1<=T) (hj:(t.y:Int)∈R (l+1) t.x):Dn n T (gQ ts t.key Ti.up) R a b (l+1):=by
 have L:=D.lv;obtain ⟨h1,h2,h3⟩:=L.lt t ht;have mm:=kL (f:=Ti.up) L.nd ht;have kk:∀ u,u∈ts->u≠t->u.key≠t.key:=λu hu hne q=>hne (mi L.nd hu ht q);refine ⟨⟨L.wd,λi hi u v=>?_,L.sz,λu hu=>?_,?_⟩,D.ha,D.hb,D.hk,D.ap,D.s2,λu hu=>?_⟩
 ·rw [L.ed i hi]
  constructor
  ·rintro ⟨s,s1,s2,s3⟩;exact ⟨s,(mm s).mpr (.inr ⟨s1,kk s s1 λq=>by rw [q,hw] at s2;exact absurd s2 (by decide)⟩),s2,s3⟩
  ·rintro ⟨s,s1,s2,s3⟩
   rcases (mm s).mp s1 with rfl|⟨q,_⟩
   ·exact absurd (hw.symm.trans s2) (by decide)
   ·exact ⟨s,q,s2,s3⟩
 ·rcases (mm u).mp hu with rfl|⟨q,_⟩
  ·exact ⟨h1,h2,by show t.cS+1<=T;lia⟩
  ·exact L.lt u q
 ·exact (oP (f:=Ti.up) (λ_=>rfl) t.key).symm▸L.nd
 ·rcases (mm u).mp hu with rfl|⟨q,_⟩
  ·have:t.up.cS=l+1:=by show t.cS+1=l+1;lia
   rw [this];exact .inl hj
  ·exact D.jn u q
def Dn.next (D:Dn n T ts R a b (l+1)) (hno:∀ t∈ts,t.wd=false->t.cS=l->¬ ((t.x:Int)∈R l a/\(t.y:Int)∉R l a)/\¬ ((t.x:Int)∉R l a/\(t.y:Int)∈R l a)):Dn n T ts R a b l:=by
 have L:=D.lv
 have hl:l<=T:=by have:=D.hk;lia
 refine ⟨L,D.ha,D.hb,by lia,D.ap,λi hi=>D.s2 i (by lia),λt ht=>?_⟩;obtain ⟨h1,h2,h3⟩:=L.lt t ht
 rcases D.jn t ht with j|⟨j1,j2⟩
 ·exact .inl j
 ·by_cases c:t.cS=l
  ·cases hw:t.wd with
   | true =>
    have E:Ed n (R t.cS) t.x t.y:=(L.ed _ h3 _ _).mpr ⟨t,ht,hw,av _,.inl rfl⟩
    exact .inl (fH (Ed.at (L.wd _ h3) E (by lia) ((L.wd _ h3).me _ (by lia)))).2
   | false =>
    have q:=hno t ht hw c;have W:=L.wd l hl;have ap:∀ z:Int,z∈R l a->z∉R l b:=λz q1 q2=>D.apart hl (by rw [W.same D.ha D.hb q1 q2];exact W.me b D.hb);rw [c] at j2
    rcases j2 with ⟨p1,p2⟩|⟨p1,p2⟩
    ·exact absurd ⟨p1,λp=>ap _ p p2⟩ q.1
    ·exact absurd ⟨λp=>ap _ p p1,p2⟩ q.2
  ·exact .inr ⟨by lia,j2⟩
def Lv.adopt (L:Lv n T ts R) (ht:t∈ts) (hw:t.wd=false) (hap:∀ i,i<=t.cS->(t.y:Int)∉R i t.x) (hs:∀ i,i<=t.cS->((R i t.x).length+(R i t.y).length+2)*2^i<=2*n):Lv n T (gQ ts t.key Ti.vv) (HS R t.cS t.x t.y):=by
 obtain ⟨h1,h2,h3⟩:=L.lt t ht
 have hxn:t.x<n:=by lia
 have mm:=kL (f:=Ti.vv) L.nd ht;have kk:∀ u,u∈ts->u≠t->u.key≠t.key:=λu hu hne q=>hne (mi L.nd hu ht q);have lo:∀ i,i<=t.cS->HS R t.cS t.x t.y i=lk (R i) t.x t.y:=λi hi=>if_pos hi;have hi':∀ i,¬ i<=t.cS->HS R t.cS t.x t.y i=R i:=λi hi=>if_neg hi;refine ⟨λi hi=>?_,λi hi u v=>?_,λi hi x hx'=>?_,λu hu=>?_,?_⟩
 ·by_cases c:i<=t.cS
  ·rw [lo i c];exact (L.wd i hi).lk hxn h2 (hap i c)
  ·rw [hi' i c];exact L.wd i hi
 ·have:(∃ s∈gQ ts t.key Ti.vv,s.wd=true/\i<=s.cS/\s.Is u v)↔(∃ s∈ts,s.wd=true/\i<=s.cS/\s.Is u v)\/(i<=t.cS/\t.Is u v):=by
   constructor
   ·rintro ⟨s,s1,s2⟩
    rcases (mm s).mp s1 with rfl|⟨q1,q2⟩
    ·exact .inr ⟨s2.2.1,s2.2.2⟩
    ·exact .inl ⟨s,q1,s2⟩
   ·rintro (⟨s,s1,s2,s3⟩|⟨q1,q2⟩)
    ·exact ⟨s,(mm _).mpr (.inr ⟨s1,kk s s1 λq=>by rw [q,hw] at s2;exact absurd s2 (by decide)⟩),s2,s3⟩
    ·exact ⟨t.vv,(mm _).mpr (.inl rfl),rfl,q1,q2⟩
  rw [this,← L.ed i hi]
  by_cases c:i<=t.cS
  ·rw [lo i c,(L.wd i hi).RP hxn h2 (hap i c)];exact or_congr_right ⟨λq=>⟨c,q⟩,λq=>q.2⟩
  ·rw [hi' i c];exact ⟨.inl,λq=>q.elim id λq=>absurd q.1 c⟩
 ·by_cases c:i<=t.cS
  ·rw [lo i c]
   by_cases d:(x:Int)∈R i t.x\/(x:Int)∈R i t.y
   ·rw [((L.wd i hi).FF hxn h2 (hap i c) d).2];exact hs i c
   ·rw [(L.wd i hi).RM hxn h2 (hap i c) (λq=>d (.inl q)) (λq=>d (.inr q))];exact L.sz _ hi x hx'
  ·rw [hi' i c];exact L.sz i hi x hx'
 ·rcases (mm u).mp hu with rfl|⟨q,_⟩
  ·exact ⟨h1,h2,h3⟩
  ·exact L.lt u q
 ·exact (oP (f:=Ti.vv) (λ_=>rfl) t.key).symm▸L.nd
def Lv.Kd (L:Lv n T ts R) (ht:t∈ts) (hap:∀ i,i<=t.cS->(t.y:Int)∉R i t.x) {i x:Nat}(hi:i<=T) (hx:x<n):∀ c∈R i x,c∈HS R t.cS t.x t.y i x:=by
 obtain ⟨h1,h2,h3⟩:=L.lt t ht
 by_cases c:i<=t.cS
 ·have e:HS R t.cS t.x t.y i=lk (R i) t.x t.y:=if_pos c;rw [e];exact (L.wd i hi).VA (by lia) h2 (hap i c) hx
 ·have e:HS R t.cS t.x t.y i=R i:=if_neg c;rw [e];exact λ_ h=>h
def Dn.adopt (D:Dn n T ts R a b (l+1)) (ht:t∈ts) (hw:t.wd=false) (hl:t.cS=l) (h:(t.x:Int)∈R l a/\(t.y:Int)∉R l a\/(t.x:Int)∉R l a/\(t.y:Int)∈R l a) :
  (∀ i,i<=t.cS->(t.y:Int)∉R i t.x)/\Lv n T (gQ ts t.key Ti.vv) (HS R t.cS t.x t.y)/\Jn (gQ ts t.key Ti.vv) (HS R t.cS t.x t.y)/\(b:Int)∈HS R t.cS t.x t.y 0 a:=by
 have L:=D.lv;obtain ⟨h1,h2,h3⟩:=L.lt t ht
 have hxn:t.x<n:=by lia
 have W:=L.wd t.cS h3
 have j:(t.x:Int)∈R t.cS a/\(t.y:Int)∈R t.cS b\/(t.x:Int)∈R t.cS b/\(t.y:Int)∈R t.cS a:=by
  rcases D.jn t ht with j|j
  ·rw [← hl] at h
   rcases h with ⟨p1,p2⟩|⟨p1,p2⟩
   ·exact absurd (by rw [W.eq D.ha hxn p1];exact j) p2
   ·exact absurd (by rw [W.eq D.ha h2 p2];exact W.sy hxn h2 j) p1
  ·exact j.2
 -- at each lower level the one end is on the one side,the other on the other
 have j':∀ i,i<=t.cS->(R i t.x=R i a/\R i t.y=R i b)\/(R i t.x=R i b/\R i t.y=R i a):=λi hi=>by
  have V:=L.wd i (by lia)
  rcases j with ⟨p1,p2⟩|⟨p1,p2⟩
  ·exact .inl ⟨(V.eq D.ha hxn (L.mono hi h3 D.ha _ p1)).symm,(V.eq D.hb h2 (L.mono hi h3 D.hb _ p2)).symm⟩
  ·exact .inr ⟨(V.eq D.hb hxn (L.mono hi h3 D.hb _ p1)).symm,(V.eq D.ha h2 (L.mono hi h3 D.ha _ p2)).symm⟩
 have hap:∀ i,i<=t.cS->(t.y:Int)∉R i t.x:=λi hi q=>by
  have V:=L.wd i (by lia);have e:=V.eq hxn h2 q;have n:=D.apart (i:=i) (by lia)
  rcases j' i hi with ⟨p1,p2⟩|⟨p1,p2⟩
  ·exact n (by rw [← p1,e,p2];exact V.me b D.hb)
  ·exact n (by rw [← p2,← e,p1];exact V.me b D.hb)
 have L':=L.adopt ht hw hap λi hi=>by
  have:=D.s2 i (by lia)
  rcases j' i hi with ⟨p1,p2⟩|⟨p1,p2⟩
  ·rw [p1,p2];exact this
  ·rw [p1,p2,OV (R i b).length];exact this
 have lo:∀ i,i<=t.cS->∀ z:Nat,(z:Int)∈R i t.x\/(z:Int)∈R i t.y->∀ c,c∈HS R t.cS t.x t.y i z↔c∈R i t.x\/c∈R i t.y:=λi hi z hz=>by
  have:HS R t.cS t.x t.y i=lk (R i) t.x t.y:=if_pos hi;rw [this];exact ((L.wd i (by lia)).FF hxn h2 (hap i hi) hz).1
 have V0:=L.wd 0 (aK _);have z0:=aK t.cS
 refine ⟨hap,L',λu hu=>?_,by
  rcases j' 0 z0 with ⟨p1,p2⟩|⟨p1,p2⟩
  ·exact (lo 0 z0 a (.inl (p1▸V0.me a D.ha)) _).mpr (.inr (p2▸V0.me b D.hb))
  ·exact (lo 0 z0 a (.inr (p2▸V0.me a D.ha)) _).mpr (.inl (p1▸V0.me b D.hb))⟩
 rcases (kL (f:=Ti.vv) L.nd ht u).mp hu with rfl|⟨q,_⟩
 ·exact (lo t.cS (av _) t.x (.inl (W.me _ hxn)) _).mpr (.inr (W.me _ h2))
 ·obtain ⟨u1,u2,u3⟩:=L.lt u q
  rcases D.jn u q with j|⟨k1,k2⟩
  ·exact L.Kd ht hap u3 (by lia) _ j
  ·have V:=L.wd _ u3
   have c:u.cS<=t.cS:=by lia
   rcases j' _ c with ⟨p1,p2⟩|⟨p1,p2⟩<;>rcases k2 with ⟨k3,k4⟩|⟨k3,k4⟩<;>rw [← p1] at *<;>rw [← p2] at *
   ·exact (lo _ c _ (.inl k3) _).mpr (.inr k4)
   ·exact (lo _ c _ (.inr k3) _).mpr (.inl k4)
   ·exact (lo _ c _ (.inr k3) _).mpr (.inl k4)
   ·exact (lo _ c _ (.inl k3) _).mpr (.inr k4)
def Lv.Zk (L:Lv n T ts R) (J:Jn ts R) (ht:t∈ts) (hw:t.wd=false):Lv n T (ts.filter λu=>decide (u.key≠t.key)) R/\Jn (ts.filter λu=>decide (u.key≠t.key)) R:=by
 have mm:∀ u,u∈ts.filter (λu=>decide (u.key≠t.key))↔u∈ts/\u≠t:=λu=>by
  rw [bH,decide_eq_true_iff];exact and_congr_right λhu=>not_congr ⟨λq=>mi L.nd hu ht q,λq=>q▸rfl⟩
 refine ⟨⟨L.wd,λi hi u v=>?_,L.sz,λu hu=>L.lt u ((mm u).mp hu).1,(vz _ gP).nodup L.nd⟩,λu hu=>J u ((mm u).mp hu).1⟩;rw [L.ed i hi]
 constructor
 ·rintro ⟨s,s1,s2,s3⟩;exact ⟨s,(mm s).mpr ⟨s1,λq=>by rw [q,hw] at s2;exact absurd s2 (by decide)⟩,s2,s3⟩
 ·rintro ⟨s,s1,s2⟩;exact ⟨s,((mm s).mp s1).1,s2⟩
def Lv.put (L:Lv n T ts R) {x y:Nat}(hxy:x<y) (hy:y<n) (hk:((x:Int),(y:Int))∉ts.map Ti.key):Lv n T (ts++[⟨x,y,0,false⟩]) R:=by
 refine ⟨L.wd,λi hi u v=>?_,L.sz,λu hu=>?_,?_⟩
 ·rw [L.ed i hi]
  constructor
  ·rintro ⟨s,s1,s2⟩;exact ⟨s,dX _ s1,s2⟩
  ·rintro ⟨s,s1,s2,s3⟩
   rcases aN.mp s1 with q|q
   ·exact ⟨s,q,s2,s3⟩
   ·rw [aA.mp q] at s2;exact absurd s2 bC
 ·rcases aN.mp hu with q|q
  ·exact L.lt u q
  ·rw [aA.mp q];exact ⟨hxy,hy,aK _⟩
 ·rw [aP,fA];exact ⟨L.nd,by simp,λp hp q hq e=>hk (by rw [oI,aA] at hq;have e2:p=((x:Int),(y:Int)):=e.trans hq;rw [← e2];exact hp)⟩
def Lv.start (n T:Nat) (hn:2^(T+1)<=n\/T=0):Lv n T [] (λ_ i=>[(i:Int)]) :=
 ⟨λi _=>Wd.start n,λi _ u v=>⟨λ⟨j,_,hm⟩=>by simp [al] at hm,λ⟨t,h,_⟩=>nomatch h⟩,λi hi x hx=>by
  show 2*2^i<=2*n
  refine Nat.mul_le_mul_left 2 ?_
  rcases hn with h|h
  ·exact bu (R8 (by decide) (by lia)) h
  ·have:i=0:=by lia
   subst this
   simp;lia,(λt h=>nomatch h),oF⟩
theorem BC {α:Type} [DecidableEq α]:∀ {l m:List α},l.Nodup->(∀ x∈l,x∈m)->l.length<=m.length
 | [],m,_,_=>aK _
 | a::l,m,hn,h=>by
  obtain ⟨h1,h2⟩:=br.mp hn;have hm:=h a aw;have:=BC (l:=l) (m:=m.erase a) h2 λx hx=>(List.mem_erase_of_ne (λe:x=a=>h1 (e▸hx))).mpr (h x (aj _ hx));rw [qB hm] at this;have:=tm hm;simp only [bV];lia
structure Z9 (n T lv s o:Nat) (ts:List Ti) (R:Nat->Nat->List Int) (ps:List (Int×Int)) (i:Nat) (ts1:List Ti) (R1:Nat->Nat->List Int):Prop where
 dn:Dn n T ts1 R1 s o (lv+1)
 rl:R1 lv=R lv
 ks:ts1.map Ti.kb=ts.map Ti.kb
 pend:∀ t∈ts1,t.wd=true->t.cS=lv->(t.x:Int)∈R lv s->(t.y:Int)∈R lv s->t.key∈ps.drop i
 rem:∀ p∈ps.drop i,∃ t∈ts1,t.key=p/\t.wd=true/\t.cS=lv/\(t.x:Int)∈R lv s/\(t.y:Int)∈R lv s
 all:∀ p∈ps,∃ t∈ts1,t.key=p/\t.wd=true
variable {s o lv i:Nat}{ps:List (Int×Int)}{p:Int×Int}{ts1:List Ti}{R1:Nat->Nat->List Int}
def Z9.step (L:Z9 n T lv s o ts R ps i ts1 R1) (hT:∀ j,2^(j+1)<=n->j<=T) (hs:((R lv s).length+1)*2^(lv+1)<=2*n) (hn:ps.Nodup) (hi:ps[i]?=some p) :
  ∃ t∈ts1,t.key=p/\t.wd=true/\t.cS+1<=T/\(t.y:Int)∉R1 (t.cS+1) t.x/\Z9 n T lv s o ts R ps (i+1) (gQ ts1 t.key Ti.up) (YX R1 (t.cS+1) t.x t.y):=by
 obtain ⟨hlt,he⟩:=aC.mp hi
 have ed:ps.drop i=p::ps.drop (i+1):=by rw [fS hlt,he]
 have hpn:p∉ps.drop (i+1):=by
  have:=(UC i ps).nodup hn;rw [ed] at this;exact (br.mp this).1
 obtain ⟨t,t1,t2,t3,t4,t5,t6⟩:=L.rem p (by rw [ed];exact aw);have hnd:=L.dn.lv.nd;have q:=L.dn.Zm hT (by rw [L.rl];exact hs) t1 t3 t4 (by rw [L.rl];exact t5) (by rw [L.rl];exact t6);have mm:=kL (f:=Ti.up) hnd t1;rw [← t4] at q;refine ⟨t,t1,t2,t3,q.1,q.2.1,by rw [t4] at q ⊢;exact q.2.2,?_,?_,λu hu h1 h2 h3 h4=>?_,λp' hp'=>?_,λp' hp'=>?_⟩
 ·show (if _ then _ else _)=_
  rw [if_neg (by lia)];exact L.rl
 ·rw [MU];exact L.ks
 ·rcases (mm u).mp hu with rfl|⟨h5,h6⟩
  ·exact absurd h2 (by show ¬ t.cS+1=lv;lia)
  ·have:=L.pend u h5 h1 h2 h3 h4;rw [ed] at this;exact (au.mp this).resolve_left λe=>h6 (e.trans t2.symm)
 ·obtain ⟨u,u1,u2,u3⟩:=L.rem p' (by rw [ed];exact aj _ hp');exact ⟨u,(mm u).mpr (.inr ⟨u1,λe=>hpn (by rw [← t2,← e,u2];exact hp')⟩),u2,u3⟩
 ·obtain ⟨u,u1,u2,u3⟩:=L.all p' hp'
  by_cases c:u.key=t.key
  ·exact ⟨t.up,(mm _).mpr (.inl rfl),by rw [← u2,c];rfl,t3⟩
  ·exact ⟨u,(mm u).mpr (.inr ⟨u1,c⟩),u2,u3⟩
structure Oy (n T lv s o:Nat) (ts:List Ti) (R:Nat->Nat->List Int) (ps:List (Int×Int)) (i:Nat) (ts1:List Ti):Prop where
 dn:Dn n T ts1 R s o (lv+1)
 ks:ts1.map Ti.kb=ts.map Ti.kb
 full:lv+1<=T->∀ x y,x<n->y<n->(x:Int)∈R lv s->(y:Int)∈R lv s->(y:Int)∈R (lv+1) x
 rem:∀ p∈ps.drop i,∃ t∈ts1,t.key=p/\t.wd=false/\t.cS=lv
 done:∀ t∈ts1,t.wd=false->t.cS=lv->t.key∈ps.drop i\/((t.x:Int)∉R lv s/\(t.y:Int)∉R lv s)
def Oy.at (L:Oy n T lv s o ts R ps i ts1) (hn:ps.Nodup) (hi:ps[i]?=some p):∃ t∈ts1,t.key=p/\t.wd=false/\t.cS=lv/\ps.drop i=p::ps.drop (i+1)/\p∉ps.drop (i+1):=by
 obtain ⟨hlt,he⟩:=aC.mp hi
 have ed:ps.drop i=p::ps.drop (i+1):=by rw [fS hlt,he]
 obtain ⟨t,t1,t2,t3,t4⟩:=L.rem p (by rw [ed];exact aw);refine ⟨t,t1,t2,t3,t4,ed,?_⟩;have:=(UC i ps).nodup hn;rw [ed] at this;exact (br.mp this).1
def Oy.zero (L:Oy n T lv s o ts R ps i ts1) (hn:ps.Nodup) (hi:ps[i]?=some p) (h1:p.1∉R lv s) (h2:p.2∉R lv s):Oy n T lv s o ts R ps (i+1) ts1:=by
 obtain ⟨t,t1,t2,t3,t4,ed,hp⟩:=L.at hn hi;refine ⟨L.dn,L.ks,L.full,λq hq=>L.rem q (by rw [ed];exact aj _ hq),λu u1 u2 u3=>?_⟩
 rcases L.done u u1 u2 u3 with h|h
 ·rw [ed] at h
  rcases au.mp h with e|h
  ·have e1:(u.x:Int)=p.1:=by rw [← e];rfl
   have e2:(u.y:Int)=p.2:=by rw [← e];rfl
   exact .inr (by rw [e1,e2];exact ⟨h1,h2⟩)
  ·exact .inl h
 ·exact .inr h
def Oy.two (L:Oy n T lv s o ts R ps i ts1) (hT:∀ j,2^(j+1)<=n->j<=T) (hs:((R lv s).length+1)*2^(lv+1)<=2*n) (hn:ps.Nodup) (hi:ps[i]?=some p) (h1:p.1∈R lv s) (h2:p.2∈R lv s):∃ t∈ts1,t.key=p/\t.wd=false/\Oy n T lv s o ts R ps (i+1) (gQ ts1 t.key Ti.up):=by
 obtain ⟨t,t1,t2,t3,t4,ed,hp⟩:=L.at hn hi;subst t2;have hl:=L.dn.lv.lt t t1;have hT1:=L.dn.few hT hs (x:=t.x) (y:=t.y) h1 h2 (by lia);have mm:=kL (f:=Ti.up) L.dn.lv.nd t1;refine ⟨t,t1,rfl,t3,L.dn.Zp t1 t3 t4 hT1 (L.full hT1 _ _ (by lia) hl.2.1 h1 h2),?_,L.full,λq hq=>?_,λu hu h3 h4=>?_⟩
 ·rw [MU];exact L.ks
 ·obtain ⟨u,u1,u2,u3⟩:=L.rem q (by rw [ed];exact aj _ hq);exact ⟨u,(mm u).mpr (.inr ⟨u1,λe=>hp (by rw [← e,u2];exact hq)⟩),u2,u3⟩
 ·rcases (mm u).mp hu with rfl|⟨h5,h6⟩
  ·exact absurd h4 (by show ¬ t.cS+1=lv;lia)
  ·rcases L.done u h5 h3 h4 with h|h
   ·rw [ed] at h;exact .inl ((au.mp h).resolve_left h6)
   ·exact .inr h
def Oy.one (L:Oy n T lv s o ts R ps i ts1) (hn:ps.Nodup) (hi:ps[i]?=some p) (h:p.1∈R lv s/\p.2∉R lv s\/p.1∉R lv s/\p.2∈R lv s):∃ t∈ts1,t.key=p/\t.wd=false/\(∀ i,i<=t.cS->(t.y:Int)∉R i t.x)/\Lv n T (gQ ts1 t.key Ti.vv) (HS R t.cS t.x t.y)/\Jn (gQ ts1 t.key Ti.vv) (HS R t.cS t.x t.y)/\(o:Int)∈HS R t.cS t.x t.y 0 s:=by
 obtain ⟨t,t1,t2,t3,t4,ed,hp⟩:=L.at hn hi;subst t2;exact ⟨t,t1,rfl,t3,L.dn.adopt t1 t3 t4 h⟩
def Oy.fin (L:Oy n T lv s o ts R ps i ts1) (hi:ps.length<=i):Dn n T ts1 R s o lv:=L.dn.next λt ht h1 h2=>by
 rcases L.done t ht h1 h2 with h|⟨h3,h4⟩
 ·rw [O9.mpr hi] at h;cases h
 ·exact ⟨λq=>h3 q.1,λq=>h4 q.2⟩
end
end Rm
namespace Uf
inductive Cn (ps:List (Nat×Nat)):Nat->Nat->Prop
 | refl (x:Nat):Cn ps x x
 | step {x y z:Nat}:Cn ps x y->((y,z)∈ps\/(z,y)∈ps)->Cn ps x z
def Cn.trans {ps:List (Nat×Nat)}{x y z:Nat}(h:Cn ps x y) (h':Cn ps y z):Cn ps x z:=by
 induction h' with
 | refl=>exact h
 | step _ e ih=>exact .step ih e
def Cn.symm {ps:List (Nat×Nat)}{x y:Nat}(h:Cn ps x y):Cn ps y x:=by
 induction h with
 | refl=>exact .refl _
 | step _ e ih=>exact (Cn.step (.refl _) e.symm).trans ih
def Cn.mono {ps qs:List (Nat×Nat)}(hs:∀ p∈ps,p∈qs) {x y:Nat}(h:Cn ps x y):Cn qs x y:=by
 induction h with
 | refl=>exact .refl _
 | step _ e ih=>exact .step ih (e.imp (hs _) (hs _))
def Cn.one {ps:List (Nat×Nat)}{x y:Nat}(h:(x,y)∈ps):Cn ps x y:=.step (.refl _) (.inl h)
def Cn.fn {ps:List (Nat×Nat)}{f:Nat->Nat}(hs:∀ p∈ps,f p.1=f p.2) {x y:Nat}(h:Cn ps x y):f x=f y:=by
 induction h with
 | refl=>rfl
 | step _ e ih =>
  rcases e with e|e
  ·exact ih.trans (hs _ e)
  ·exact ih.trans (hs _ e).symm
def Cn.cl {ps:List (Nat×Nat)}{S:Nat->Prop}(hs:∀ p∈ps,S p.1↔S p.2) {x y:Nat}(h:Cn ps x y):S x↔S y:=by
 induction h with
 | refl=>exact Iff.rfl
 | step _ e ih =>
  rcases e with e|e
  ·exact ih.trans (hs _ e)
  ·exact ih.trans (hs _ e).symm
structure Hd (n:Nat) (h:List Nat):Prop where
 len:h.length=n
 le:∀ (i v:Nat),h[i]?=some v->v<=i
def rt (h:List Nat) (a:Nat):Nat :=
 match h[a]? with
 | some v=>if v<a then rt h v else a
 | none=>a
termination_by a
def U7 (h:List Nat) (a:Nat):rt h a=match h[a]? with|some v=>if v<a then rt h v else a|none=>a:=by
 rw [rt]
def BD {h:List Nat}{a v:Nat}(e:h[a]?=some v):rt h a=if v<a then rt h v else a:=by rw [U7,e]
def vW (h:List Nat):∀ a,rt h a<=a:=by
 intro a
 induction a using HQ with
 | ind a ih =>
  rw [U7]
  split
  ·split
   ·rename_i v _ c;exact bu (ih v c) (ki c)
   ·exact av _
  ·exact av _
section
variable {n:Nat}{h:List Nat}
def Hd.get (H:Hd n h) {a:Nat}(ha:a<n):∃ v,h[a]?=some v/\v<=a:=by
 have:a<h.length:=by rw [H.len];exact ha
 exact ⟨h[a],ay this,H.le _ _ (ay this)⟩
def Hd.root (H:Hd n h):∀ {a:Nat},a<n->h[rt h a]?=some (rt h a):=by
 intro a
 induction a using HQ with
 | ind a ih =>
  intro ha;obtain ⟨v,e,hv⟩:=H.get ha;rw [BD e]
  split
  ·rename_i c;exact ih v c (by lia)
  ·rw [e];congr 1;lia
def Hd.self (H:Hd n h) {a:Nat}(e:h[a]?=some a):rt h a=a:=by rw [BD e,if_neg (eS _)]
def Hd.idem (H:Hd n h) {a:Nat}(ha:a<n):rt h (rt h a)=rt h a:=H.self (H.root ha)
def Hd.set (H:Hd n h) {m M:Nat}(hm:m<=M):Hd n (h.set M m):=by
 refine ⟨by rw [Xo];exact H.len,λi v e=>?_⟩;rw [UD] at e
 split at e
 ·rename_i c
  split at e
  ·cases e;lia
  ·cases e
 ·exact H.le i v e
def Hd.Xe (H:Hd n h) {m M:Nat}(hM:M<n) (h1:h[m]?=some m) (h2:h[M]?=some M) (hm:m<M):∀ {a:Nat},a<n->rt (h.set M m) a=if rt h a=M then m else rt h a:=by
 intro a
 induction a using HQ with
 | ind a ih =>
  intro ha
  by_cases c:a=M
  ·subst c
   have e:(h.set a m)[a]?=some m:=by rw [je (by rw [H.len];exact ha)]
   rw [BD e,if_pos hm,ih m hm (by lia),H.self h1,H.self h2,if_neg (by lia),if_pos rfl]
  ·obtain ⟨v,e,hv⟩:=H.get ha
   have e':(h.set M m)[a]?=some v:=by rw [mU (Ne.symm c)];exact e
   rw [BD e',BD e]
   split
   ·rename_i c';exact ih v c' (by lia)
   ·first|rfl|rw [if_neg c]
structure Jo (n:Nat) (h:List Nat) (ps:List (Nat×Nat)):Prop where
 hd:Hd n h
 b:∀ p∈ps,p.1<n/\p.2<n
 j:∀ i k,i<n->k<n->(rt h i=rt h k↔Cn ps i k)
def Jo.start (n:Nat):Jo n (dv n) []:=by
 have H:Hd n (dv n):=⟨lV,λi v e=>by
  obtain ⟨h1,h2⟩:=aC.mp e
  rw [List.getElem_range] at h2;lia⟩
 refine ⟨H,(λp hp=>nomatch hp),λi k hi hk=>?_⟩;have r:∀ a,a<n->rt (dv n) a=a:=λa ha=>H.self (by rw [nO ha]);rw [r i hi,r k hk]
 constructor
 ·rintro rfl;exact .refl _
 ·intro c
  cases c with
  | refl=>rfl
  | step _ e=>rcases e with e|e<;>nomatch e
def Jo.add {ps:List (Nat×Nat)}(J:Jo n h ps) {a b:Nat}(ha:a<n) (hb:b<n):Jo n (h.set (max (rt h a) (rt h b)) (min (rt h a) (rt h b))) (ps++[(a,b)]):=by
 have H:=J.hd;have la:=vW h a;have lb:=vW h b
 have B:∀ p∈ps++[(a,b)],p.1<n/\p.2<n:=λp hp=>by
  rcases aN.mp hp with q|q
  ·exact J.b p q
  ·rw [aA.mp q];exact ⟨ha,hb⟩
 refine ⟨H.set (by lia),B,λi k hi hk=>?_⟩;have mo:∀ p∈ps,p∈ps++[(a,b)]:=λp hp=>dX _ hp;have od:∀ p∈ps,rt h p.1=rt h p.2:=λp hp=>(J.j _ _ (J.b p hp).1 (J.b p hp).2).mpr (Cn.one hp)
 by_cases c:rt h a=rt h b
 ·rw [c,Nat.max_self,Nat.min_self]
  have es:h.set (rt h b) (rt h b)=h:=by
   have:=H.root hb
   apply jG
   intro q;rw [UD]
   split
   ·rename_i z;subst z
    rw [if_pos (by rw [H.len];lia),this]
   ·rfl
  rw [es];refine ⟨λz=>((J.j i k hi hk).mp z).mono mo,λz=>z.fn (f:=rt h) λp hp=>?_⟩
  rcases aN.mp hp with q|q
  ·exact od p q
  ·rw [aA.mp q];exact c
 ·have r1:h[min (rt h a) (rt h b)]?=some (min (rt h a) (rt h b)):=by
   rcases Di (rt h a) (rt h b) with q|q
   ·rw [kT q];exact H.root ha
   ·rw [mN q];exact H.root hb
  have r2:h[max (rt h a) (rt h b)]?=some (max (rt h a) (rt h b)):=by
   rcases Di (rt h a) (rt h b) with q|q
   ·rw [XE q];exact H.root hb
   ·rw [XZ q];exact H.root ha
  have F:∀ {x:Nat},x<n->rt (h.set (max (rt h a) (rt h b)) (min (rt h a) (rt h b))) x=if rt h x=max (rt h a) (rt h b) then min (rt h a) (rt h b) else rt h x:=λhx=>H.Xe (by lia) r1 r2 (by lia) hx
  constructor
  ·intro z;rw [F hi,F hk] at z
   have go:∀ {x y:Nat},x<n->y<n->rt h x=max (rt h a) (rt h b)->rt h y=min (rt h a) (rt h b)->Cn (ps++[(a,b)]) x y:=λ{x y} hx hy e1 e2=>by
    have ab:Cn (ps++[(a,b)]) a b:=Cn.one (bB _ aw)
    rcases Di (rt h a) (rt h b) with q|q
    ·rw [XE q] at e1;rw [kT q] at e2;exact (((J.j x b hx hb).mp e1).mono mo).trans (ab.symm.trans ((((J.j y a hy ha).mp e2).mono mo).symm))
    ·rw [XZ q] at e1;rw [mN q] at e2;exact (((J.j x a hx ha).mp e1).mono mo).trans (ab.trans ((((J.j y b hy hb).mp e2).mono mo).symm))
   by_cases c1:rt h i=max (rt h a) (rt h b)<;>by_cases c2:rt h k=max (rt h a) (rt h b)
   ·exact ((J.j i k hi hk).mp (c1.trans c2.symm)).mono mo
   ·rw [if_pos c1,if_neg c2] at z;exact go hi hk c1 z.symm
   ·rw [if_neg c1,if_pos c2] at z;exact (go hk hi c2 z).symm
   ·rw [if_neg c1,if_neg c2] at z;exact ((J.j i k hi hk).mp z).mono mo
  ·refine λz=>z.fn (f:=rt _) λp hp=>?_;obtain ⟨p1,p2⟩:=B p hp;rw [F p1,F p2]
   rcases aN.mp hp with q|q
   ·rw [od p q]
   ·rw [aA.mp q]
    show (if rt h a=_ then _ else rt h a)=if rt h b=_ then _ else rt h b
    rcases Di (rt h a) (rt h b) with q|q
    ·rw [if_neg (by lia),if_pos (by lia)];lia
    ·rw [if_pos (by lia),if_neg (by lia)];lia
def Jo.toR {ps:List (Nat×Nat)}(J:Jo n h ps) {i:Nat}(hi:i<n):Cn ps i (rt h i):=(J.j i _ hi (bf (vW h i) hi)).mp (J.hd.idem hi).symm
def Jo.least {ps:List (Nat×Nat)}(J:Jo n h ps) {i k:Nat}(hi:i<n) (hk:k<n) (c:Cn ps i k):rt h i<=k:=by
 rw [(J.j i k hi hk).mpr c];exact vW h k
def Jo.same {h':List Nat}{ps qs:List (Nat×Nat)}(J:Jo n h ps) (J':Jo n h' qs) (e:∀ i k,i<n->k<n->(Cn ps i k↔Cn qs i k)) {i:Nat}(hi:i<n):rt h i=rt h' i:=by
 have b:∀ {g:List Nat},rt g i<n:=λ{g}=>bf (vW g i) hi;exact Nat.le_antisymm (J.least hi b ((e _ _ hi b).mpr (J'.toR hi))) (J'.least hi b ((e _ _ hi b).mp (J.toR hi)))
end
end Uf
namespace Rm
open Uf
def Ti.np (t:Ti):Nat×Nat:=(t.x,t.y)
def MV {α:Type} {l:List α}(h:l.Nodup) {i:Nat}{a:α}(e:l[i]?=some a):a∉l.take i:=λha=>by
 rw [← eL i l] at h;refine (fA.mp h).2.2 a ha a ?_ rfl;obtain ⟨h1,h2⟩:=aC.mp e;rw [fS h1,h2];exact aw
section
variable {n T:Nat}{ts:List Ti}{R:Nat->Nat->List Int}{t:Ti}
def Lv.cn (L:Lv n T ts R) (J:Jn ts R) {ps:List (Nat×Nat)}(h1:∀ p∈ps,∃ t∈ts,p=t.np) (h2:∀ t∈ts,t.wd=true->t.np∈ps) {i k:Nat}(hi:i<n):Cn ps i k↔(k:Int)∈R 0 i:=by
 have W:=L.wd 0 (aK _)
 constructor
 ·intro c;refine (c.cl (S:=λz:Nat=>(z:Int)∈R 0 i) λp hp=>?_).mp (W.me i hi);obtain ⟨t,ht,rfl⟩:=h1 p hp;obtain ⟨l1,l2,l3⟩:=L.lt t ht
  have hx:t.x<n:=by lia
  have j:=L.mono (aK _) l3 hx _ (J t ht)
  show (t.x:Int)∈R 0 i↔(t.y:Int)∈R 0 i
  exact ⟨λq=>by rw [W.eq hi hx q];exact j,λq=>by rw [W.eq hi l2 q];exact W.sy hx l2 j⟩
 ·intro q
  obtain ⟨m,e,c⟩:=TK (M:=λz=>∃ m:Nat,z=(m:Int)/\Cn ps i m) (l:=R 0 i) (λu v huv=>by
   obtain ⟨t,ht,hw,_,hI⟩:=(L.ed 0 (aK _) u v).mp ⟨i,hi,huv⟩;have m:=Cn.one (h2 t ht hw)
   have go:(∃ m:Nat,(t.x:Int)=m/\Cn ps i m)↔∃ m:Nat,(t.y:Int)=m/\Cn ps i m:=⟨λ⟨m',e,c⟩=>⟨t.y,rfl,by rw [← lW e] at c;exact c.trans m⟩,λ⟨m',e,c⟩=>⟨t.x,rfl,by rw [← lW e] at c;exact c.trans m.symm⟩⟩
   rcases hI with e|e<;>cases e
   ·exact go
   ·exact go.symm) ⟨_,W.me i hi,i,rfl,.refl _⟩ _ q
  rw [lW e];exact c
def Lv.acyc (L:Lv n T ts R) (ht:t∈ts) (hw:t.wd=true) {ps:List (Nat×Nat)}(h:∀ p∈ps,∃ s∈ts,s.wd=true/\p=s.np/\s≠t):¬ Cn ps t.x t.y:=by
 obtain ⟨h1,h2,h3⟩:=L.lt t ht
 have hx:t.x<n:=by lia
 have hne:t.x≠t.y:=by lia
 have W:=L.wd 0 (aK _);have e:Ed n (R 0) t.x t.y:=(L.ed 0 (aK _) _ _).mpr ⟨t,ht,hw,aK _,.inl rfl⟩;have W':=W.ct hx h2 hne e;intro c;refine (W.RN hx h2 hne e).1 ((c.cl (S:=λz:Nat=>(z:Int)∈ct (R 0) t.x t.y t.x) λp hp=>?_).mp (W'.me _ hx));obtain ⟨s,hs,sw,rfl,ne⟩:=h p hp;obtain ⟨s1,_,_⟩:=L.lt s hs
 have E:Ed n (ct (R 0) t.x t.y) s.x s.y:=(W.Nt hx h2 hne e _ _).mpr ⟨(L.ed 0 (aK _) _ _).mpr ⟨s,hs,sw,aK _,.inl rfl⟩,λq=>ne (mi L.nd hs ht q),λq=>by
  obtain ⟨q1,q2⟩:=cg q
  lia⟩
 exact ⟨λq=>(fH (Ed.at W' E hx q)).2,λq=>(fH (Ed.at W' (Ed.symm W' E) hx q)).2⟩
def wB (B:List ((Int×Int)×Bool)):List (Int×Int):=(B.filter (·.2)).map (·.1)
def Gn {B:List ((Int×Int)×Bool)}{k:Int×Int}:k∈wB B↔(k,true)∈B:=by
 unfold wB;rw [aT]
 constructor
 ·rintro ⟨⟨k',b⟩,h,rfl⟩;obtain ⟨h1,h2⟩:=bH.mp h;rw [show (true=b) from h2.symm];exact h1
 ·exact λh=>⟨_,bH.mpr ⟨h,rfl⟩,rfl⟩
def U8 {B:List ((Int×Int)×Bool)}(h:(B.map (·.1)).Nodup):(wB B).Nodup:=(gP.map _).nodup h
def MW {k:Int×Int}{b:Bool}:(k,b)∈ts.map Ti.kb↔∃ t∈ts,t.key=k/\t.wd=b:=by
 rw [aT];exact ⟨λ⟨t,h,e⟩=>⟨t,h,(cg e).1,(cg e).2⟩,λ⟨t,h,e,f⟩=>⟨t,h,by unfold Ti.kb;rw [e,f]⟩⟩
def Gp {u:Ti}{k:Int×Int}{b:Bool}:(k,b)∈(ts.filter λv=>decide (v.key≠u.key)).map Ti.kb↔(k,b)∈ts.map Ti.kb/\k≠u.key:=by
 rw [MW,MW]
 constructor
 ·rintro ⟨t,h,rfl,e⟩;obtain ⟨h1,h2⟩:=bH.mp h;exact ⟨⟨t,h1,rfl,e⟩,of_decide_eq_true h2⟩
 ·rintro ⟨⟨t,h,rfl,e⟩,h2⟩;exact ⟨t,bH.mpr ⟨h,decide_eq_true h2⟩,rfl,e⟩
end
end Rm
namespace Rm
def YY {B:List ((Int×Int)×Bool)}(h:(B.map (·.1)).Nodup) {k:Int×Int}{b c:Bool}(h1:(k,b)∈B) (h2:(k,c)∈B):b=c:=by
 induction B with
 | nil=>nomatch h1
 | cons s B ih =>
  rw [b0,br] at h
  rcases au.mp h1 with e1|h1<;>rcases au.mp h2 with e2|h2
  ·rw [← e1] at e2;exact (cg e2).2.symm
  ·exact absurd (aZ (f:=(·.1)) h2) (by rw [← e1] at h;exact h.1)
  ·exact absurd (aZ (f:=(·.1)) h1) (by rw [← e2] at h;exact h.1)
  ·exact ih h.2 h1 h2
def TQ {B:List ((Int×Int)×Bool)}{k f:Int×Int}:(k,true)∈TL f B↔(k,true)∈B\/k=f/\∃ b,(f,b)∈B:=by
 unfold TL;rw [aT]
 constructor
 ·rintro ⟨⟨q,b⟩,hq,e⟩
  split at e
  ·rename_i c
   obtain ⟨rfl,_⟩:=cg e;have c:q=f:=c;subst c;exact .inr ⟨rfl,b,hq⟩
  ·rw [e] at hq;exact .inl hq
 ·rintro (h|⟨rfl,b,h⟩)
  ·exact ⟨_,h,by split<;>rfl⟩
  ·exact ⟨_,h,if_pos rfl⟩
end Rm
namespace L2
abbrev Ln (sp:Sp) (k:Nat):Prop:=∀ vs H Q E,sp vs H Q E->vs.length=k
abbrev Rn (sp:Sp) (rd:TS) (N:List bj):Prop:=∀ vs H Q E,sp vs H Q E->rd { nx:=λ_ H'=>Q .non H',rt:=Q } (start N vs) H
abbrev Rx (sp:Sp) (rd:XK->TS) (N:List bj):Prop:=∀ vs H Q E,sp vs H Q E->rd E { nx:=λ_ H'=>Q .non H',rt:=Q } (start N vs) H
def jK {H H':Hp}{q:af}{o:HO}(e:upd H q o=H') (h:H q=none):bN H H'/\H' q=some o:=e▸⟨bN.cK h,aF⟩
def h8.m {j k:Nat}{A:bR}(r:h8 k A) (h:j<=k:=by decide):h8 j A:=r.mono h
end L2
local macro_rules | `(tactic| walk_at "s")=>`(tactic| exact ⟨rfl,rfl,rfl,by decide +kernel,rfl,by decide +kernel,by decide +kernel⟩)
local macro_rules | `(tactic| k_in)=>`(tactic| (lk;refine L2.uY ?_;lk))
local macro_rules | `(tactic| k_go)=>`(tactic| (lk;refine L2.mv ?_;lk))
local macro_rules | `(tactic| walk_at "l")=>`(tactic| first|(intro vs H Q E h;cases h;subst_vars;rfl)|(intro vs H Q E h;repeat' (first|(obtain ⟨e,_⟩:=h;exact e▸rfl)|(obtain ⟨_,h⟩:=h))))
namespace K38
open PySem PySem.Spec PyProof.Rows L2
abbrev DB:List bj:=["level","side","risen","found"]
abbrev YZ:List bj:=["_law_script","_law_digits_here","_law_head","_law_n","_law_keeper","_law_standing","_law_cells","_law_table_here","_law_k","_law_tie"]
abbrev tJ:List bj:=["self","a","b"]
abbrev WZ:List bj:=["_law_head","_law_n","_law_ties","_law_way","_law_a","_law_b","_law_turn"]
abbrev Y0:List bj:=["_law_keeper","_law_n","_law_tie","_law_table_here","_law_trail","_law_wood_here","_law_heads_here","_law_found"]
abbrev Y1:List bj:=["_law_keeper","_law_n","_law_tie","_law_table_here","_law_heads_here","_law_told","_law_apart","_law_wood_here"]
abbrev Y2:List bj:=["_law_cell","_law_k","_law_n","_law_table_here","_law_way","_law_wood_here","_law_most","_law_a","_law_b"]
abbrev TR:List bj:=["_law_keeper","_law_n","_law_tie","_law_table_here"]
abbrev vX:List bj:=["self","tie"]
abbrev IX:List bj:=["self","tie","weight"]
abbrev mw:List bj:=["_law_row"]
abbrev U9:List bj:=["_law_n","_law_pairs","_law_heads_here","_law_a","_law_b","_law_one","_law_other"]
abbrev Va:List bj:=["_law_n","_law_table_here","_law_heads_here","_law_row","_law_one","_law_other"]
abbrev Vb:List bj:=["_law_keeper","_law_n","_law_standing","_law_table_here","_law_tie","_law_good"]
abbrev qh:List bj:=["self","n"]
abbrev Vc:List bj:=["_law_keeper","_law_head","_law_n","_law_standing","_law_a","_law_b"]
abbrev Vd:List bj:=["_law_keeper","_law_n","_law_standing","_law_table_here","_law_tie"]
abbrev Ve:List bj:=["row","a","b","along","there","back","k","m","inner","outer"]
abbrev MX:List bj:=["a","b","level","in_wood","n"]
abbrev MY:List bj:=["n","standing","a","b","tie"]
abbrev Fj:List bj:=["ties","weight_of"]
abbrev Vg:List bj:=["_law_cell","_law_base","_law_many","_law_row","_law_k"]
abbrev yU:List bj:=["n","a","b"]
abbrev MZ:List bj:=["_law_heads_here","_law_a"]
abbrev Vh:List bj:=["self","level","tie","side","risen","other","ends"]
abbrev yV:List bj:=["n","thing"]
abbrev M0:List bj:=["n","standing","a","b"]
abbrev Vi:List bj:=["_law_found","_law_standing","_law_k","_law_row"]
abbrev Vj:List bj:=["_law_cell","_law_k","_law_n","_law_table_here"]
abbrev yW:List bj:=["self","a"]
abbrev Vk:List bj:=["_law_script","_law_n","_law_row","_law_digit"]
abbrev M1:List bj:=["_law_script","_law_k"]
abbrev M3:List bj:=["self","level","tie"]
abbrev Vl:List bj:=["self","tie","level","looking","trail"]
abbrev Vm:List bj:=["_law_cell","_law_base","_law_many"]
abbrev Vn:List bj:=["_law_keeper","_law_head","_law_n"]
abbrev M4:List bj:=["_law_table_here"]
abbrev yX:List bj:=["thing"]
abbrev Vo:List bj:=["self","level","wooden","ties"]
abbrev QQ:List bj:=["_law_head","_law_n"]
abbrev M5:List bj:=["tie","side"]
abbrev M6:List bj:=["_law_script"]
def k8 (i:Nat):dz:=PySem.Challenge.pw_tiewood_k38_whole_the_wood_spans.main.body.getD i (.Pass ⟨0,0,0,0⟩)
abbrev Fk:dz:=k8 3
abbrev Fl:dz:=k8 4
abbrev Fn:dz:=k8 5
abbrev stop:dz:=k8 6
abbrev M7:dz:=k8 7
abbrev M8:dz:=k8 9
abbrev QR:dz:=k8 10
abbrev QS:dz:=k8 11
abbrev vY:dz:=k8 21
abbrev M9:dz:=k8 22
abbrev IY:dz:=k8 23
abbrev Na:dz:=k8 24
abbrev oQ:dz:=k8 26
abbrev nU:dz:=k8 27
abbrev qi:dz:=k8 28
abbrev x3:dz:=k8 31
abbrev vZ:dz:=k8 32
abbrev IZ:dz:=k8 35
abbrev tZ:dz:=k8 36
abbrev t7:dz:=k8 41
abbrev yY:dz:=k8 42
abbrev rk:dz:=k8 43
abbrev BE:dz:=k8 44
abbrev BF:dz:=k8 45
abbrev yZ:dz:=k8 46
abbrev y3:dz:=k8 47
abbrev y6:dz:=k8 48
abbrev y8:dz:=k8 49
abbrev BG:dz:=k8 50
abbrev Fo:dz:=k8 51
abbrev Fp:dz:=k8 52
abbrev v5:dz:=k8 53
abbrev t8:dz:=k8 54
abbrev BH:dz:=k8 55
abbrev Y3:dz:=k8 56
abbrev rn:dz:=fv (k8 29) 0
abbrev BI:dz:=fv (k8 29) 1
abbrev BJ:dz:=fv (k8 29) 2
abbrev Fs:dz:=fv (k8 29) 3
abbrev v7:dz:=fv (k8 29) 4
abbrev y9:dz:=fv (k8 29) 5
abbrev BK:dz:=fv (k8 29) 6
abbrev oR:dz:=fv (k8 33) 0
abbrev za:dz:=fv (k8 33) 1
abbrev t9:dz:=fv (k8 33) 2
abbrev v8:dz:=fv (k8 33) 3
abbrev v9:dz:=fv (k8 33) 4
abbrev oS:dz:=fv (k8 33) 5
abbrev wb:dz:=fv (k8 33) 6
abbrev mx:dz:=fv (k8 33) 7
abbrev wc:dz:=fv (k8 33) 8
abbrev we:dz:=fv (k8 33) 9
abbrev rA:dz:=fv (k8 37) 0
abbrev ua:dz:=fv (k8 37) 1
abbrev Ft:dz:=fv (k8 37) 2
abbrev BL:dz:=fv (k8 37) 6
abbrev zb:dz:=fv (k8 39) 0
def Li:bF yX yX (aW Fk):=by walk_at "s"
def Lj:bF yX yX (aW Fl):=by walk_at "s"
def Ll:bF yV yV (aW Fn):=by walk_at "s"
def QU:bF ["n","level","needed"] ["n"] (aW stop):=by walk_at "s"
def QV:bF ["a","b"] ["a","b"] (aW M7):=by walk_at "s"
def QW:bF ["n","ties"] ["n","ties"] (aW M8):=by walk_at "s"
def TU:bF ["trail"] ["trail"] (aW QR):=by walk_at "s"
def Nb:bF ["trail","finds"] ["trail"] (aW QS):=by walk_at "s"
def DC:bF ["row"] ["row"] (aW vY):=by walk_at "s"
def I0:bF ["row","a","k"] ["row","a"] (aW M9):=by walk_at "s"
def Fv:bF ["row","other","a","b","k"] ["row","other","a","b"] (aW IY):=by walk_at "s"
def BM:bF Ve ["row","a","b"] (aW Na):=by walk_at "s"
def wg:bF yV yV (aW oQ):=by walk_at "s"
def uZ:bF yU yU (aW nU):=by walk_at "s"
def x4:bF yU yU (aW qi):=by walk_at "s"
def Lm:bF Fj Fj (aW x3):=by walk_at "s"
def DD:bF M5 M5 (aW vZ):=by walk_at "s"
def Og:bF MY M0 (aW IZ):=by walk_at "s"
def BN:bF MY M0 (aW tZ):=by walk_at "s"
def BO:bF M1 M1 (aW t7):=by walk_at "s"
def Gq:bF ["_law_found"] ["_law_found"] (aW yY):=by walk_at "s"
def jB:bF WZ QQ (aW rk):=by walk_at "s"
def nV:bF Y2 Vj (aW BE):=by walk_at "s"
def Ja:bF MZ MZ (aW BF):=by walk_at "s"
def wj:bF U9 ["_law_n","_law_pairs"] (aW yZ):=by walk_at "s"
def Gr:bF Vi ["_law_found","_law_standing"] (aW y3):=by walk_at "s"
def Gs:bF Vc Vn (aW y6):=by walk_at "s"
def wk:bF Va ["_law_n","_law_table_here"] (aW y8):=by walk_at "s"
def Jb:bF M4 M4 (aW BG):=by walk_at "s"
def BP:bF Y1 TR (aW Fo):=by walk_at "s"
def u7:bF Y0 TR (aW Fp):=by walk_at "s"
def DE:bF Vg Vm (aW v5):=by walk_at "s"
def BQ:bF Vk ["_law_script","_law_n"] (aW t8):=by walk_at "s"
def Jc:bF Vb Vd (aW BH):=by walk_at "s"
def QX:bF YZ M6 (aW Y3):=by walk_at "s"
def zM:bF qh qh (aW rn):=by walk_at "s"
def Jd:bF ["self","row","place"] ["self","row"] (aW BI):=by walk_at "s"
def Je:bF tJ tJ (aW BJ):=by walk_at "s"
def Lo:bF ["self","a","b","row"] tJ (aW Fs):=by walk_at "s"
def DF:bF tJ tJ (aW v7):=by walk_at "s"
def Gu:bF yW yW (aW y9):=by walk_at "s"
def Jg:bF yW yW (aW BK):=by walk_at "s"
def wm:bF qh qh (aW oR):=by walk_at "s"
def Gv:bF IX IX (aW za):=by walk_at "s"
def BR:bF ["self","tie","wood"] vX (aW t9):=by walk_at "s"
def DG:bF vX vX (aW v8):=by walk_at "s"
def ub:bF ["self","tie","level","wood"] vX (aW v9):=by walk_at "s"
def nW:bF Vo ["self","level","wooden"] (aW oS):=by walk_at "s"
def DH:bF vX vX (aW wb):=by walk_at "s"
def rB:bF ["self","level","tie","wood"] M3 (aW mx):=by walk_at "s"
def om:bF Vh M3 (aW wc):=by walk_at "s"
def oo:bF Vl vX (aW we):=by walk_at "s"
def zN:bF qh qh (aW rA):=by walk_at "s"
def BS:bF IX IX (aW ua):=by walk_at "s"
def Lp:bF ["self","a","b","tie","trail"] tJ (aW Ft):=by walk_at "s"
def Ji:bF ["self"] ["self"] (aW BL):=by walk_at "s"
def Gw:bF tJ tJ (aW zb):=by walk_at "s"
structure CA where
  (bG Keeper:af)
structure Lq (K:aa) (mg:bj->Option ai) (C:af) (A:CA):Prop where
 Hu:Dm K C
 Ul:mg "Wood"=some (.ref C)
 sG:dM K C "n"
 l9:dM K C "rows"
 FG:Dm K A.bG
 OB:mg "Levels"=some (.ref A.bG)
 ij:dM K A.bG "level_of"
 gU:dM K A.bG "weight_of"
 i5:dM K A.bG "wooden"
 jv:dM K A.bG "woods"
 FH:Dm K A.Keeper
 Ow:mg "Keeper"=some (.ref A.Keeper)
 j4:dM K A.Keeper "came"
 i6:dM K A.Keeper "levels"
 i7:dM K A.Keeper "looked"
 jX:dM K A.Keeper "lost"
 nA:dM K A.Keeper "n"
 jw:dM K A.Keeper "risen"
 jY:dM K A.Keeper "wood"
 Xd:mg "bool"=none
 VB:mg "int"=none
 mI:mg "isinstance"=none
 Np:mg "len"=none
 RK:mg "list"=none
 Vz:mg "max"=none
 Zg:mg "min"=none
 Hs:mg "range"=none
 Zv:mg "set"=none
 sF:mg "sorted"=none
 Vu:mg "sum"=none
 Um:mg "tuple"=none
 Zh:mg "zip"=none
 EE:∃ t:Uo,mg "MOST_PLACES"=some (.int 200 t)
variable {P:a6}{w:bO}{K:aa}{mg:bj->Option ai}{base:cf}{f:af}{fd:eK}{sp:Sp}{C:af}{A:CA}
def zc (K:aa) (C:af):TS :=
 eF (tX (nI (zL K) (ax (aq 0) (ax (tC (.ty "int")) aX))) (Mu (nI (zL K) (ax (aq 0) (ax (tC (.ty "bool")) aX)))))
def zd (K:aa) (C:af) (jq:Sp):TS :=
 eF (tX (cC jq [] E0 (ax (aq 0) aX)) (FS (qQ λi j=>.bl (decide (i<=j))) (qQ λi j=>.bl (decide (i<=j))) (tC (.int 1)) (aq 0) (tC (.int 200))))
def ze (K:aa) (C:af) (jq:Sp):TS :=
 eF (tX (cC jq [] E0 (ax (aq 1) aX)) (FS (qQ λi j=>.bl (decide (i<=j))) (qQ λi j=>.bl (decide (i<j))) (tC (.int 0)) (aq 1) (aq 0)))
def Jj (K:aa) (C:af):TS :=
 AX (dj (cq (qQ λi j=>.bl (decide (i<=j))) (aq 2) (aq 0)))
 (bQ (Pk 1 (tC (.int 1)) (qQ λi j=>.int (i+j)))
 (Pk 2 (tC (.int 2)) (rI Mg λi j=>.int (i*j))))
def QY (K:aa) (C:af):TS :=
 bQ (de (tC (.int 0)) (bp 1))
 (bQ (de (tC (.int 4)) (bp 2))
 (bQ (Jj K C)
 (eF (aq 1))))
def Fw (K:aa) (C:af):TS :=
 eF (XG (dj (cq (qQ λi j=>.bl (decide (i<j))) (aq 0) (aq 1))) (nH (ax (aq 0) (ax (aq 1) aX))) (nH (ax (aq 1) (ax (aq 0) aX))))
def Fx (K:aa) (C:af) (pX:Sp):TS :=
 eF (nI (Qu K) (ax (iI 4 [0] (kZ K (aq 1)) (Ie K 4 (lp (bp 0) (lp (bp 1) (lp (bp 2) (lp (bp 3) KD))))) pQ (cq (qQ λi j=>.int (i-j)) (cC pX [] E0 (ax (aq 4) aX)) (aq 2))) aX))
def Jk (K:aa) (C:af):TS :=
 eF (nI (Qu K) (ax (iI 4 [] (kZ K (aq 0)) (Ie K 4 (lp (bp 0) (lp (bp 1) (lp (bp 2) (lp (bp 3) KD))))) pQ (nI (tH K) (ax (aq 2) aX))) aX))
def Jl (K:aa) (C:af) (iJ:Sp):TS :=
 bQ (de (iI 4 [] (kZ K (aq 0)) (Ie K 4 (lp (bp 0) (lp (bp 1) (lp (bp 2) (lp (bp 3) KD))))) (tB (Pe (aq 3))) (aq 3)) (bp 1))
 (eF (XG (kh K (aq 1)) (cq eO (cC iJ [] E0 (ax (aq 0) aX)) (tC (.int 1))) (cC iJ [] E0 (ax (aq 0) aX))))
def rC (K:aa) (C:af):TS :=
 eF (Qg K (ax (aq 0) (ax (xU (oM K) (aq 0) (hU (tC (.int 1))) eT) aX)))
def Fy (K:aa) (C:af):TS :=
 bQ (de (Dk K "list" (pU K) (aq 0) (ax (aq 1) aX)) (bp 2))
 (eF (cq eO (xU (oM K) (aq 0) (hU (aq 2)) eT) (xU (oM K) (aq 0) (hU (tC (.int 1))) (hU (cq eO (aq 2) (tC (.int 1)))))))
def BU (K:aa) (C:af) (oU:Sp):TS :=
 bQ (de (Dk K "list" (pU K) (aq 0) (ax (aq 2) aX)) (bp 4))
 (eF (cq eO (cq eO (xU (oM K) (aq 0) eT (hU (cq eO (aq 4) (tC (.int 1))))) (cC oU [] E0 (ax (aq 1) (ax (aq 3) aX)))) (xU (oM K) (aq 0) (hU (aq 4)) eT)))
def Fz (K:aa) (C:af) (eh:Sp):TS :=
 bQ (de (cC eh [] E0 (ax (aq 0) aX)) (bp 3))
 (bQ (de (Dk K "list" (pU K) (aq 3) (ax (nH (ax (aq 1) (ax (aq 2) aX))) aX)) (bp 4))
 (bQ (de (Dk K "list" (pU K) (aq 3) (ax (nH (ax (aq 2) (ax (aq 1) aX))) aX)) (bp 5))
 (bQ (de (nI E5 (ax (aq 4) (ax (aq 5) aX))) (bp 6))
 (bQ (de (nI E6 (ax (aq 4) (ax (aq 5) aX))) (bp 7))
 (bQ (de (xU (oM K) (aq 0) (hU (cq eO (aq 6) (tC (.int 1)))) (hU (cq eO (aq 7) (tC (.int 1))))) (bp 8))
 (bQ (de (cq eO (xU (oM K) (aq 0) eT (hU (cq eO (aq 6) (tC (.int 1))))) (xU (oM K) (aq 0) (hU (cq eO (aq 7) (tC (.int 2)))) eT)) (bp 9))
 (eF (XG (dj (cq (qQ λi j=>.bl (decide (i<j))) (aq 4) (aq 5))) (nH (ax (aq 9) (ax (aq 8) aX))) (nH (ax (aq 8) (ax (aq 9) aX)))))))))))
def m8 (K:aa) (C:af) (l0:Sp):TS :=
 ie (oJ (kh K (cC l0 [] E0 (ax (aq 0) (ax (aq 1) aX)))))
 qO
 eY
def mB (K:aa) (C:af) (cF:Sp):TS :=
 bQ (fB (cC cF [] E0 (ax (aq 0) (ax (aq 1) aX))))
 (fB (cC cF [] E0 (ax (aq 0) (ax (aq 2) aX))))
def nX (K:aa) (C:af) (dH:Sp):TS :=
 bQ (fB (cC dH [] E0 (ax (aq 0) (ax (aq 1) (ax (aq 2) aX)))))
 (ie (dj (cq (iT K) (aq 1) (aq 2)))
 qO
 eY)
def nY (K:aa) (C:af) (Pt:af):TS :=
 eF (Lb Pt ⟨119,28,119,61⟩ ((("in_order":bj)++".<locals>.")++"<lambda>") 1 (ax (aq 0) aX))
def Jm (Fu:Mj K "in_order" "in_order" x3 f fd) (T:Lq K mg C A) {c Pt:af}(hcd:fd.code=.ref c) (CH:ik base c Pt) (B:base.BuiltinsAt mg Pt)
 (len:Ln sp 2) (run:Rn sp (nY K C Pt) Fj):k9 P w K mg base Iu 1 f fd Fj sp :=
 Fu.okC hcd Lm len λA0 outer s H vs Q E hr h=>⟨nY K C Pt,
 cb (fY (QI rfl rfl CH B hr.depth hr.J9 rfl T.sF (cm (pv 0) eV) rfl rfl)),run vs H Q E h⟩
def rD (K:aa) (C:af):TS :=
 eF (nI (tH K) (ax (iI 1 [1] (kZ K (aq 0)) (bp 0) (dj (cq (zK K false) (aq 0) (aq 1))) (aq 0)) aX))
def BV (K:aa) (C:af) (b8 kx:Sp):TS :=
 bQ (fB (cC b8 [] E0 (ax (aq 0) (ax (aq 2) (ax (aq 3) aX)))))
 (bQ (de (cC kx [] E0 (ax (aq 2) (ax (aq 3) aX))) (bp 4))
 (bQ (ie (dj (cq (zK K false) (aq 4) (aq 1)))
 qO
 eY)
 (eF (aq 4))))
def qj (K:aa) (C:af) (b8 kx:Sp):TS :=
 bQ (fB (cC b8 [] E0 (ax (aq 0) (ax (aq 2) (ax (aq 3) aX)))))
 (bQ (de (cC kx [] E0 (ax (aq 2) (ax (aq 3) aX))) (bp 4))
 (bQ (ie (dj (cq (zK K true) (aq 4) (aq 1)))
 qO
 eY)
 (eF (aq 4))))
def qk (K:aa) (C:af):TS :=
 bQ (ie (dj (cq (qQ λi j=>.bl (decide (i<j))) (aq 1) (nI (tH K) (ax (aq 0) aX))))
 (eF (cq (dr K) (aq 0) (aq 1)))
 eY)
 (eF (tC (.int 0)))
def uc (K:aa) (C:af):TS :=
 eF (tX (nI (zL K) (ax (aq 0) (ax (tC (.ty "int")) aX))) (Mu (nI (zL K) (ax (aq 0) (ax (tC (.ty "bool")) aX)))))
def mj (K:aa) (C:af) (Pt:af):TS :=
 qP (Pm (ax (cq eO (aq 4) (tC (.int 1))) (ax (aq 1) aX))) (bp 5)
 (bQ (ie (xN (dj (cq (iT K) (aq 3) (tC (.int 1)))) (Ic (dj (cq (iT K) (aq 5) (cq eO (aq 4) (tC (.int 1))))) (dj (cq (iT K) (aq 5) (cq (qQ λi j=>.int (i-j)) (cq eO (aq 4) (aq 1)) (tC (.int 1)))))))
 (fB (Dk K "list" j6 (aq 2) (ax (nH (ax (aq 4) (ax (aq 5) aX))) aX)))
 eY)
 (bQ (ie (xN (dj (cq (iT K) (aq 3) (tC (.int 2)))) (dj (cq (qQ λi j=>.bl (decide (i<j))) (aq 5) (cq eO (tC (.int 4)) (cq (rI (λ_ j=>0<j) λi j=>.int (i%j)) (cq (rI qC λi j=>.int (i/j)) (aq 0) (tC (.int 6))) (tC (.int 5)))))))
 (fB (Dk K "list" j6 (aq 2) (ax (nH (ax (aq 4) (ax (aq 5) aX))) aX)))
 eY)
 (bQ (ie (xN (dj (cq (iT K) (aq 3) (tC (.int 3)))) (Ic (dj (cq (iT K) (aq 5) (cq eO (aq 4) (tC (.int 2))))) (xN (dj (cq (iT K) (aq 5) (cq eO (aq 4) (tC (.int 1))))) (dj (cq (iT K) (cq (rI (λ_ j=>0<j) λi j=>.int (i%j)) (aq 4) (tC (.int 2))) (tC (.int 0)))))))
 (fB (Dk K "list" j6 (aq 2) (ax (nH (ax (aq 4) (ax (aq 5) aX))) aX)))
 eY)
 (bQ (ie (xN (dj (cq (iT K) (aq 3) (tC (.int 4)))) (xN (dj (cq (qQ λi j=>.bl (decide (i<j))) (aq 5) (cq eO (aq 4) (tC (.int 4))))) (Ic (dj (cq (qQ λi j=>.bl (decide (i<j))) (aq 5) (cq (rI qC λi j=>.int (i/j)) (aq 1) (tC (.int 2))))) (Ic (dj (cq (qQ λi j=>.bl (decide (j<=i))) (aq 4) (cq (rI qC λi j=>.int (i/j)) (aq 1) (tC (.int 2))))) (dj (cq (iT K) (aq 5) (cq eO (aq 4) (tC (.int 1)))))))))
 (fB (Dk K "list" j6 (aq 2) (ax (nH (ax (aq 4) (ax (aq 5) aX))) aX)))
 eY)
 (ie (xN (dj (cq (iT K) (aq 3) (tC (.int 5)))) (dj (cq (zK K false) (cq (qQ λi j=>.int (i-j)) (aq 5) (aq 4)) (nH (ax (tC (.int 1)) (ax (tC (.int 2)) (ax (tC (.int 4)) (ax (tC (.int 8)) aX))))))))
 (fB (Dk K "list" j6 (aq 2) (ax (nH (ax (aq 4) (ax (aq 5) aX))) aX)))
 eY)))))
def ql (K:aa) (C:af) (Pt:af):TS :=
 qP (qf (ax (aq 1) aX)) (bp 4)
 (mj K C Pt)
def lQ (K:aa) (C:af) (Pt:af):TS :=
 bQ (de (tF aX) (bp 2))
 (bQ (de (cq (rI (λ_ j=>0<j) λi j=>.int (i%j)) (aq 0) (tC (.int 6))) (bp 3))
 (bQ (ql K C Pt)
 (bQ (ie (dj (cq (qQ λi j=>.bl (decide (j<i))) (cq (rI (λ_ j=>0<j) λi j=>.int (i%j)) (cq (rI qC λi j=>.int (i/j)) (aq 0) (tC (.int 3))) (tC (.int 3))) (tC (.int 0))))
 (eF (xU (oM K) (Lc Pt ⟨271,37,271,94⟩ ((("_law_shape":bj)++".<locals>.")++"<lambda>") (ax (aq 2) aX)) eT (hU (tC (.int 36)))))
 eY)
 (bQ (de (cq (rI (λ_ j=>0<j) λi j=>.int (i%j)) (cq (rI qC λi j=>.int (i/j)) (aq 0) (tC (.int 30))) (cq eO (nI (tH K) (ax (aq 2) aX)) (tC (.int 1)))) (bp 6))
 (eF (xU (oM K) (cq eO (xU (oM K) (aq 2) (hU (aq 6)) eT) (xU (oM K) (aq 2) eT (hU (aq 6)))) eT (hU (tC (.int 36)))))))))
def DI (Fu:Mj K "_law_shape" "_law_shape" rk f fd) (T:Lq K mg C A) {c Pt:af}(hcd:fd.code=.ref c) (CH:ik base c Pt) (B:base.BuiltinsAt mg Pt)
 (len:Ln sp 2) (run:Rn sp (lQ K C Pt) WZ):k9 P w K mg base Iu 1 f fd QQ sp :=
 Fu.okC hcd jB len λA0 outer s H vs Q E hr h=>⟨lQ K C Pt,
 aE (nT jB.nd (Pr eV))
 (aE (nT jB.nd (jl xQ (pv 0) cT))
 (aE (A1 gv rfl (EO rfl T.Hs (cm (pv 1) eV)) (fJ jB.nd)
 (cb (A1 gv rfl (ER rfl T.Hs (cm (jl kI (pv 4) cT) (cm (pv 1) eV))) (fJ jB.nd)
 (aE (jS (PW.pt (qN (gj (kg hr.units) (pv 3) cT (iG _)) (pO (PW.pt (AS (gj (kg hr.units) (pv 5) (jl kI (pv 4) cT) (iG _)) (AR (gj (kg hr.units) (pv 5) (jl KI (jl kI (pv 4) (pv 1)) cT) (iG _))))))))
 (cb (mE (m5 cI gb gf lC (pv 2) (cm (uP (cm (pv 4) (cm (pv 5) eV))) eV))))
 gh)
 (aE (jS (PW.pt (qN (gj (kg hr.units) (pv 3) cT (iG _)) (pO (gj Ii (pv 5) (jl kI cT (jl xQ (jl sO (pv 0) cT) cT)) (iG _)))))
 (cb (mE (m5 cI gb gf lC (pv 2) (cm (uP (cm (pv 4) (cm (pv 5) eV))) eV))))
 gh)
 (aE (jS (PW.pt (qN (gj (kg hr.units) (pv 3) cT (iG _)) (pO (PW.pt (AS (gj (kg hr.units) (pv 5) (jl kI (pv 4) cT) (iG _)) (AR (PW.pt (qN (gj (kg hr.units) (pv 5) (jl kI (pv 4) cT) (iG _)) (pO (gj (kg hr.units) (jl xQ (pv 4) cT) cT (iG _)))))))))))
 (cb (mE (m5 cI gb gf lC (pv 2) (cm (uP (cm (pv 4) (cm (pv 5) eV))) eV))))
 gh)
 (aE (jS (PW.pt (qN (gj (kg hr.units) (pv 3) cT (iG _)) (qN (gj Ii (pv 5) (jl kI (pv 4) cT) (iG _)) (pO (PW.pt (AS (gj Ii (pv 5) (jl sO (pv 1) cT) (iG _)) (AS (gj UF (pv 4) (jl sO (pv 1) cT) (iG _)) (AR (gj (kg hr.units) (pv 5) (jl kI (pv 4) cT) (iG _))))))))))
 (cb (mE (m5 cI gb gf lC (pv 2) (cm (uP (cm (pv 4) (cm (pv 5) eV))) eV))))
 gh)
 (cb (jS (PW.pt (qN (gj (kg hr.units) (pv 3) cT (iG _)) (pO (gj (PL hr.units) (jl KI (pv 5) (pv 4)) (uP (cm cT (cm cT (cm cT (cm cT eV))))) (by with_unfolding_all rfl)))))
 (cb (mE (m5 cI gb gf lC (pv 2) (cm (uP (cm (pv 4) (cm (pv 5) eV))) eV))))
 gh)))))))))
 (aE (jS (gj UE (jl xQ (jl sO (pv 0) cT) cT) cT (iG _))
 (cb (fY (qS vH (QJ rfl rfl CH B hr.depth hr.J9 rfl T.sF (cm (pv 2) eV)) vF (vG cT))))
 gh)
 (aE (nT jB.nd (jl xQ (jl sO (pv 0) cT) (jl kI (jm sR rfl T.Np BootT.len (cm (pv 2) eV)) cT)))
 (cb (fY (qS vH (jl kI (qS vH (pv 2) (vG (pv 6)) vF) (qS vH (pv 2) vF (vG (pv 6)))) vF (vG cT)))))))),run vs H Q E h⟩
abbrev BW (K:aa) (C:af):TS :=
 bQ (de (cq (rI (λ_ j=>0<j) λi j=>.int (i%j)) (cq (rI qC λi j=>.int (i/j)) (aq 0) (tC (.int 4))) (aq 2)) (bp 7))
 (bQ (de (cq (rI (λ_ j=>0<j) λi j=>.int (i%j)) (cq eO (cq eO (aq 7) (tC (.int 1))) (cq (rI (λ_ j=>0<j) λi j=>.int (i%j)) (cq eO (cq (rI qC λi j=>.int (i/j)) (cq (rI qC λi j=>.int (i/j)) (aq 0) (tC (.int 4))) (aq 2)) (aq 1)) (cq (qQ λi j=>.int (i-j)) (aq 2) (tC (.int 1))))) (aq 2)) (bp 8))
 (eF (nH (ax (nI E5 (ax (aq 7) (ax (aq 8) aX))) (ax (nI E6 (ax (aq 7) (ax (aq 8) aX))) aX)))))
abbrev BX (K:aa) (C:af):TS :=
  bQ (ie (xN (dj (cq (qQ λi j=>.bl (decide (j<i))) (aq 4) (tC (.int 1)))) (dj (cq (TH K) (aq 5) (tF aX))))
   (bQ (de (nI (U4 K) (ax (iI 1 [] (kZ K (aq 5)) (bp 0) pQ (cq (dr K) (aq 0) (tC (.int 2)))) aX)) (bp 6))
  (bQ (de (iI 1 [6] (kZ K (aq 5)) (bp 0) (dj (cq (iT K) (cq (dr K) (aq 0) (tC (.int 2))) (aq 1))) (aq 0)) (bp 5))
  (eF (xU (zH K) (cq (dr K) (aq 5) (cq (rI (λ_ j=>0<j) λi j=>.int (i%j)) (cq eO (cq (rI qC λi j=>.int (i/j)) (aq 0) (tC (.int 4))) (aq 1)) (nI (tH K) (ax (aq 5) aX)))) eT (hU (tC (.int 2)))))))
   eY)
  (bQ (ie (xN (dj (cq (iT K) (aq 4) (tC (.int 1)))) (dj (cq (TH K) (aq 3) (tF aX))))
   (eF (xU (zH K) (cq (dr K) (aq 3) (cq (rI (λ_ j=>0<j) λi j=>.int (i%j)) (cq eO (cq (rI qC λi j=>.int (i/j)) (aq 0) (tC (.int 4))) (cq (rI Mg λi j=>.int (i*j)) (tC (.int 3)) (aq 1))) (nI (tH K) (ax (aq 3) aX)))) eT (hU (tC (.int 2)))))
   eY)
  (BW K C))
def wo (K:aa) (C:af):TS :=
 bQ (de (cq (rI (λ_ j=>0<j) λi j=>.int (i%j)) (aq 0) (tC (.int 4))) (bp 4))
 (bQ (de (iI 1 [] (kZ K (aq 3)) (bp 0) (kh K (cq (dr K) (aq 0) (tC (.int 3)))) (aq 0)) (bp 5))
 (BX K C))
def rE (K:aa) (C:af):TS :=
 AX (dj (cq (zJ K) (cq (dr K) (aq 0) (aq 1)) (aq 1)))
 (de (cq (dr K) (aq 0) (aq 1)) (bp 1))
def wq (K:aa) (C:af):TS :=
 bQ (rE K C)
 (eF (aq 1))
def qm (K:aa) (C:af) (dg:Sp):TS :=
 qP (kZ K (aq 1)) (Ie K 2 (lp (bp 3) (lp (bp 4) KD)))
 (bQ (de (cC dg [] E0 (ax (aq 2) (ax (aq 3) aX))) (bp 5))
 (bQ (de (cC dg [] E0 (ax (aq 2) (ax (aq 4) aX))) (bp 6))
 (de (nI E5 (ax (aq 5) (ax (aq 6) aX))) (AV (aq 2) (nI E6 (ax (aq 5) (ax (aq 6) aX))) qW))))
def ud (K:aa) (C:af) (dg:Sp):TS :=
 bQ (de (iI 1 [] (qf (ax (aq 0) aX)) (bp 0) pQ (aq 0)) (bp 2))
 (bQ (qm K C dg)
 (eF (iI 1 [2] (qf (ax (aq 0) aX)) (bp 0) pQ (cC dg [] E0 (ax (aq 1) (ax (aq 0) aX))))))
def qo (K:aa) (C:af) (gK:Sp):TS :=
 qP (qf (ax (nI (tH K) (ax (aq 0) aX)) aX)) (bp 2)
 (bQ (de (cq (dr K) (aq 0) (aq 2)) (bp 3))
 (bQ (ie (Ic (oJ (kh K (nI (zL K) (ax (aq 3) (ax (tC (.ty "tuple")) aX))))) (Ic (dj (cq (zJ K) (nI (tH K) (ax (aq 3) aX)) (tC (.int 4)))) (oJ (kh K (nI (zL K) (ax (cq (dr K) (aq 3) (tC (.int 3))) (ax (tC (.ty "bool")) aX)))))))
 (eF (tC (.bl false)))
 eY)
 (ie (Ic (oJ (kh K (cC gK [] E0 (ax (cq (dr K) (aq 3) (tC (.int 0))) aX)))) (Ic (oJ (kh K (cC gK [] E0 (ax (cq (dr K) (aq 3) (tC (.int 1))) aX)))) (Ic (oJ (kh K (cC gK [] E0 (ax (cq (dr K) (aq 3) (tC (.int 2))) aX)))) (dj (cq (qQ λi j=>.bl (decide (i<j))) (cq (dr K) (aq 3) (tC (.int 2))) (tC (.int 0)))))))
 (eF (tC (.bl false)))
 eY)))
def ue (K:aa) (C:af) (gK:Sp):TS :=
 bQ (ie (Ic (oJ (kh K (nI (zL K) (ax (aq 0) (ax (tC (.ty "list")) aX))))) (dj (cq (zJ K) (nI (tH K) (ax (aq 0) aX)) (nI UP (ax (aq 1) aX)))))
 (eF (tC (.bl false)))
 eY)
 (bQ (qo K C gK)
 (eF (cq (iT K) (iI 1 [] (kZ K (aq 0)) (bp 0) pQ (xU (zH K) (aq 0) eT (hU (tC (.int 2))))) (nI IT (ax (aq 1) aX)))))
def qp (K:aa) (C:af) (A:CA) (iq cY:Sp):TS :=
 qP (kZ K (cC iq [] E0 (ax (aq 1) (ax (aq 2) aX)))) (Ie K 2 (lp (bp 4) (lp (bp 5) KD)))
 (bQ (de (tC (.bl true)) (AV (aq 3) (nH (ax (aq 4) (ax (aq 5) aX))) qW))
 (ie (dj (cq (iT K) (cq (rI (λ_ j=>0<j) λi j=>.int (i%j)) (cq eO (cq eO (aq 4) (aq 5)) (aq 1)) (tC (.int 2))) (tC (.int 0))))
 (fB (eZ A.Keeper "put" cY [] E0 (aq 0) (ax (aq 4) (ax (aq 5) aX))))
 (fB (eZ A.Keeper "put" cY [] E0 (aq 0) (ax (aq 5) (ax (aq 4) aX))))))
def uf (K:aa) (C:af) (A:CA) (iq cY:Sp):TS :=
 bQ (de uR (bp 3))
 (bQ (qp K C A iq cY)
 (eF (aq 3)))
def qq (K:aa) (C:af) (bS dg:Sp):TS :=
 qP (kZ K (aq 1)) (bp 3)
 (ie (kh K (cq (dr K) (aq 3) (tC (.int 3))))
 (bQ (de (cC dg [] E0 (ax (aq 2) (ax (cq (dr K) (aq 3) (tC (.int 0))) aX))) (bp 4))
 (bQ (de (cC dg [] E0 (ax (aq 2) (ax (cq (dr K) (aq 3) (tC (.int 1))) aX))) (bp 5))
 (bQ (ie (dj (cq (iT K) (aq 4) (aq 5)))
 (eF (tC (.bl false)))
 eY)
 (de (nI E5 (ax (aq 4) (ax (aq 5) aX))) (AV (aq 2) (nI E6 (ax (aq 4) (ax (aq 5) aX))) qW)))))
 eY)
def ug (K:aa) (C:af) (bS dg:Sp):TS :=
 bQ (de (iI 1 [] (qf (ax (aq 0) aX)) (bp 0) pQ (aq 0)) (bp 2))
 (bQ (qq K C bS dg)
 (eF (cq (iT K) (iI 1 [2] (qf (ax (aq 0) aX)) (bp 0) pQ (cC dg [] E0 (ax (aq 1) (ax (aq 0) aX)))) (cC bS [] E0 (ax (aq 0) (ax (iI 1 [] (kZ K (aq 1)) (bp 0) pQ (xU (zH K) (aq 0) eT (hU (tC (.int 2))))) aX))))))
def wu (K:aa) (C:af):TS :=
 eF (iI 1 [] (kZ K (aq 0)) (bp 0) (kh K (cq (dr K) (aq 0) (tC (.int 3)))) (xU (zH K) (aq 0) eT (hU (tC (.int 2)))))
abbrev DJ (K:aa) (C:af) (A:CA) (bS cY bZ a9:Sp):TS :=
  bQ (ie (kh K (aq 6))
   (de (nI (kJ K) (ax (cq eO (aq 7) (tF (ax (aq 2) aX))) aX)) (bp 7))
   eY)
  (eF (tX (nI (zL K) (ax (aq 5) (ax (tC (.ty "bool")) aX))) (tX (cq (iT K) (aq 5) (aq 6)) (cq (iT K) (cC bZ [] E0 (ax (eZ A.Keeper "ties" a9 [] E0 (aq 0) aX) aX)) (aq 7)))))
abbrev DK (K:aa) (C:af) (A:CA) (bS cY bZ a9:Sp):TS :=
 bQ (de (cq (zJ K) (cq (dr K) (aq 4) (cq (dr K) (aq 2) (tC (.int 0)))) (cq (dr K) (aq 4) (cq (dr K) (aq 2) (tC (.int 1))))) (bp 6))
 (bQ (de (cC bZ [] E0 (ax (aq 3) aX)) (bp 7))
 (DJ K C A bS cY bZ a9))
def zf (K:aa) (C:af) (A:CA) (bS cY bZ a9:Sp):TS :=
 bQ (de (cC bS [] E0 (ax (aq 1) (ax (iI 1 [] (kZ K (aq 3)) (bp 0) pQ (xU (zH K) (aq 0) eT (hU (tC (.int 2))))) aX))) (bp 4))
 (bQ (de (eZ A.Keeper "put" cY [] E0 (aq 0) (ax (cq (dr K) (aq 2) (tC (.int 1))) (ax (cq (dr K) (aq 2) (tC (.int 0))) aX))) (bp 5))
 (DK K C A bS cY bZ a9))
abbrev DL (K:aa) (C:af) (A:CA) (eQ bZ bS a9:Sp):TS :=
  bQ (ie (dj (cq (zJ K) (cq (dr K) (aq 6) (cq (dr K) (aq 2) (tC (.int 0)))) (cq (dr K) (aq 6) (cq (dr K) (aq 2) (tC (.int 1))))))
   (eF (tX (Pd (aq 7)) (cq (iT K) (cC bZ [] E0 (ax (eZ A.Keeper "ties" a9 [] E0 (aq 0) aX) aX)) (aq 5))))
   eY)
  (bQ (ie (dj (cq (zK K true) (aq 7) (iI 1 [] (kZ K (aq 3)) (bp 0) (oJ (kh K (cq (dr K) (aq 0) (tC (.int 3))))) (xU (zH K) (aq 0) eT (hU (tC (.int 2)))))))
   (eF (tC (.bl false)))
   eY)
  (eF (cq (iT K) (cC bZ [] E0 (ax (eZ A.Keeper "ties" a9 [] E0 (aq 0) aX) aX)) (nI (kJ K) (ax (cq eO (aq 5) (tF (ax (aq 7) aX))) aX)))))
abbrev DM (K:aa) (C:af) (A:CA) (eQ bZ bS a9:Sp):TS :=
 bQ (de (cq (dr K) (cq (dr K) (aq 4) (XI (rU λi=>.int (-i)) (tC (.int 1)))) (tC (.int 3))) (bp 7))
 (bQ (fB (Dk K "list" (Bz K) (aq 5) (ax (aq 2) aX)))
 (DL K C A eQ bZ bS a9))
abbrev DN (K:aa) (C:af) (A:CA) (eQ bZ bS a9:Sp):TS :=
  bQ (de (cC bS [] E0 (ax (aq 1) (ax (iI 1 [2] (kZ K (aq 3)) (bp 0) (dj (cq (zJ K) (xU (zH K) (aq 0) eT (hU (tC (.int 2)))) (aq 1))) (xU (zH K) (aq 0) eT (hU (tC (.int 2))))) aX))) (bp 6))
  (bQ (ie (Ic (dj (cq (WW K) (aq 4) (tF aX))) (Ic (oJ (kh K (nI (zL K) (ax (cq (dr K) (aq 4) (XI (rU λi=>.int (-i)) (tC (.int 1)))) (ax (tC (.ty "tuple")) aX))))) (dj (cq (zJ K) (nI (tH K) (ax (cq (dr K) (aq 4) (XI (rU λi=>.int (-i)) (tC (.int 1)))) aX)) (tC (.int 4))))))
   (eF (tC (.bl false)))
   eY)
  (DM K C A eQ bZ bS a9))
abbrev DO (K:aa) (C:af) (A:CA) (eQ bZ bS a9:Sp):TS :=
  bQ (de (cC bZ [] E0 (ax (aq 3) aX)) (bp 5))
  (bQ (ie (dj (cq (zK K true) (aq 2) (aq 5)))
   (eF (tX (cq (WW K) (aq 4) (tF aX)) (cq (iT K) (cC bZ [] E0 (ax (eZ A.Keeper "ties" a9 [] E0 (aq 0) aX) aX)) (aq 5))))
   eY)
  (DN K C A eQ bZ bS a9))
def zg (K:aa) (C:af) (A:CA) (eQ bZ bS a9:Sp):TS :=
 bQ (de (eZ A.Keeper "out" eQ [] E0 (aq 0) (ax (cq (dr K) (aq 2) (tC (.int 0))) (ax (cq (dr K) (aq 2) (tC (.int 1))) aX))) (bp 4))
 (bQ (ie (oJ (kh K (nI (zL K) (ax (aq 4) (ax (tC (.ty "list")) aX)))))
 (eF (tC (.bl false)))
 eY)
 (DO K C A eQ bZ bS a9))
def oV (K:aa) (C:af):TS :=
 qP (qf (ax (aq 2) aX)) (bp 4)
 (bQ (fB (Dk K "list" j6 (aq 3) (ax (cq (rI (λ_ j=>0<j) λi j=>.int (i%j)) (aq 0) (aq 1)) aX)))
 (de (cq (rI qC λi j=>.int (i/j)) (aq 0) (aq 1)) (bp 0)))
def rF (K:aa) (C:af):TS :=
 bQ (de (tF aX) (bp 3))
 (bQ (oV K C)
 (eF (aq 3)))
def nZ (K:aa) (C:af) (gR bP:Sp):TS :=
 qP (kZ K (cC gR [] E0 (ax (cC bP [] E0 (ax (aq 0) (ax (tC (.int 1)) aX))) (ax (cq (rI Mg λi j=>.int (i*j)) (aq 1) (aq 1)) (ax (cq (rI (λ_ j=>0<j) λi j=>.int (i%j)) (cC bP [] E0 (ax (aq 0) (ax (tC (.int 2)) aX))) (tC (.int 41))) aX))))) (bp 3)
 (ie (dj (cq (zJ K) (cq (rI qC λi j=>.int (i/j)) (aq 3) (aq 1)) (cq (rI (λ_ j=>0<j) λi j=>.int (i%j)) (aq 3) (aq 1))))
 (fB (Dk K "list" j6 (aq 2) (ax (nH (ax (nI E5 (ax (cq (rI qC λi j=>.int (i/j)) (aq 3) (aq 1)) (ax (cq (rI (λ_ j=>0<j) λi j=>.int (i%j)) (aq 3) (aq 1)) aX))) (ax (nI E6 (ax (cq (rI qC λi j=>.int (i/j)) (aq 3) (aq 1)) (ax (cq (rI (λ_ j=>0<j) λi j=>.int (i%j)) (aq 3) (aq 1)) aX))) aX))) aX)))
 eY)
def qr (K:aa) (C:af) (gR bP:Sp):TS :=
 bQ (de (tF aX) (bp 2))
 (bQ (nZ K C gR bP)
 (eF (aq 2)))
abbrev BY (K:aa) (C:af) (A:CA) (a9 jr jt cj ck:Sp):TS :=
  bQ (ie (Ic (oJ (kh K (aq 5))) (Ic (oJ (kh K (cC cj [] E0 (ax (aq 3) (ax (aq 2) aX))))) (oJ (kh K (cC ck [] E0 (ax (aq 1) (ax (aq 3) aX)))))))
   (eF (tC .non))
   eY)
  (eF (aq 3))
def wx (K:aa) (C:af) (A:CA) (a9 jr jt cj ck:Sp):TS :=
 bQ (ie (dj (cq (zK K false) (aq 4) (aq 2)))
 (bQ (fB (Dk K "dict" IK (aq 2) (ax (aq 4) aX)))
 (de (cC jr [] E0 (ax (aq 0) (ax (aq 1) (ax (aq 4) (ax (aq 3) aX))))) (bp 5)))
 (bQ (de (tC (.bl true)) (AV (aq 2) (aq 4) qW))
 (de (cC jt [] E0 (ax (aq 0) (ax (aq 1) (ax (aq 4) (ax (aq 3) aX))))) (bp 5))))
 (bQ (de (eZ A.Keeper "ties" a9 [] E0 (aq 0) aX) (bp 3))
 (BY K C A a9 jr jt cj ck))
def Jp (K:aa) (C:af) (A:CA) (cu a9 bP cG cZ dh cj ck dA:Sp):TS :=
 qP (qf (ax (nI (tH K) (ax (aq 6) aX)) aX)) (bp 8)
 (bQ (de (cq (dr K) (aq 6) (aq 8)) (bp 9))
 (bQ (ie (oJ (kh K (aq 1)))
 (de (cC dA [] E0 (ax (cq (dr K) (aq 6) (aq 8)) (ax (cq eO (aq 8) (tC (.int 1))) (ax (aq 3) (ax (aq 7) aX))))) (bp 9))
 eY)
 (bQ (de (cC dh [] E0 (ax (aq 4) (ax (aq 3) (ax (aq 5) (ax (aq 7) (ax (aq 9) aX)))))) (bp 7))
 (ie (tB (Pd (aq 7)))
 (eF (tC (.bl false)))
 eY))))
abbrev QZ (K:aa) (C:af) (A:CA) (cu a9 bP cG cZ dh cj ck dA:Sp):TS :=
  bQ (ie (Ic (oJ (kh K (cC cj [] E0 (ax (aq 7) (ax (aq 5) aX))))) (oJ (kh K (cC ck [] E0 (ax (aq 3) (ax (aq 7) aX))))))
   (eF (tC (.bl false)))
   eY)
  (bQ (Jp K C A cu a9 bP cG cZ dh cj ck dA)
  (eF (tC (.bl true))))
abbrev Q0 (K:aa) (C:af) (A:CA) (cu a9 bP cG cZ dh cj ck dA:Sp):TS :=
  bQ (ie (kh K (aq 1))
   (de (cC cG [] E0 (ax (aq 0) (ax (aq 3) aX))) (bp 6))
   (de (cC cZ [] E0 (ax (aq 4) (ax (cq (rI qC λi j=>.int (i/j)) (aq 2) (tC (.int 23))) (ax (aq 3) aX)))) (bp 5)))
  (bQ (de (eZ A.Keeper "ties" a9 [] E0 (aq 4) aX) (bp 7))
  (QZ K C A cu a9 bP cG cZ dh cj ck dA))
abbrev Q1 (K:aa) (C:af) (A:CA) (cu a9 bP cG cZ dh cj ck dA:Sp):TS :=
 bQ (de uR (bp 5))
 (bQ (de (xU (oM K) (aq 0) (hU (tC (.int 1))) (hU (tC (.int 31)))) (bp 6))
 (Q0 K C A cu a9 bP cG cZ dh cj ck dA))
abbrev Q2 (K:aa) (C:af) (A:CA) (cu a9 bP cG cZ dh cj ck dA:Sp):TS :=
 bQ (de (cq eO (tC (.int 2)) (cq (rI (λ_ j=>0<j) λi j=>.int (i%j)) (aq 2) (tC (.int 23)))) (bp 3))
 (bQ (de (Ik A.Keeper cu [] E0 (ax (aq 3) aX)) (bp 4))
 (Q1 K C A cu a9 bP cG cZ dh cj ck dA))
def Q3 (K:aa) (C:af) (A:CA) (cu a9 bP cG cZ dh cj ck dA:Sp):TS :=
 bQ (de (cq (iT K) (cq (rI (λ_ j=>0<j) λi j=>.int (i%j)) (cC bP [] E0 (ax (aq 0) (ax (tC (.int 0)) aX))) (tC (.int 2))) (tC (.int 0))) (bp 1))
 (bQ (de (cq (rI qC λi j=>.int (i/j)) (cC bP [] E0 (ax (aq 0) (ax (tC (.int 0)) aX))) (tC (.int 2))) (bp 2))
 (Q2 K C A cu a9 bP cG cZ dh cj ck dA))
def oW (K:aa) (C:af):TS :=
 bQ (tE K (aq 0) (aq 1) "n")
 (tE K (aq 0) (iI 1 [] (qf (ax (aq 1) aX)) (bp 0) pQ (tF (ax (aq 0) aX))) "rows")
def rG (K:aa) (C:af):TS :=
 qP (kZ K (aq 1)) (bp 2)
 (de (aq 1) (AV (fq K (aq 0) "rows") (aq 2) qW))
def wy (K:aa) (C:af):TS :=
 rG K C
def wz (K:aa) (C:af) (b8 eC fO m9:Sp):TS :=
 bQ (fB (cC b8 [] E0 (ax (fq K (aq 0) "n") (ax (aq 1) (ax (aq 2) aX)))))
 (bQ (ie (kh K (eZ C "joined" eC [] E0 (aq 0) (ax (aq 1) (ax (aq 2) aX))))
 qO
 eY)
 (fB (eZ C "keep" fO [] E0 (aq 0) (ax (cC m9 [] E0 (ax (cq (dr K) (fq K (aq 0) "rows") (aq 1)) (ax (cq (dr K) (fq K (aq 0) "rows") (aq 2)) (ax (aq 1) (ax (aq 2) aX))))) aX))))
def uh (K:aa) (C:af) (b8 lG eh fO:Sp):TS :=
 qP (kZ K (cC lG [] E0 (ax (cq (dr K) (fq K (aq 0) "rows") (aq 1)) (ax (aq 1) (ax (aq 2) aX))))) (bp 3)
 (fB (eZ C "keep" fO [] E0 (aq 0) (ax (aq 3) aX)))
def zh (K:aa) (C:af) (b8 lG eh fO:Sp):TS :=
 bQ (fB (cC b8 [] E0 (ax (fq K (aq 0) "n") (ax (aq 1) (ax (aq 2) aX)))))
 (bQ (ie (dj (cq (zK K true) (nH (ax (aq 1) (ax (aq 2) aX))) (cC eh [] E0 (ax (cq (dr K) (fq K (aq 0) "rows") (aq 1)) aX))))
 qO
 eY)
 (uh K C b8 lG eh fO))
def rH (K:aa) (C:af) (dH:Sp):TS :=
 bQ (fB (cC dH [] E0 (ax (fq K (aq 0) "n") (ax (aq 1) (ax (aq 2) aX)))))
 (eF (cq (iT K) (cq (dr K) (cq (dr K) (fq K (aq 0) "rows") (aq 1)) (tC (.int 0))) (cq (dr K) (cq (dr K) (fq K (aq 0) "rows") (aq 2)) (tC (.int 0)))))
def ui (K:aa) (C:af) (cF:Sp):TS :=
 bQ (fB (cC cF [] E0 (ax (fq K (aq 0) "n") (ax (aq 1) aX))))
 (eF (Bt K (ax (cq (dr K) (fq K (aq 0) "rows") (aq 1)) aX)))
def wA (K:aa) (C:af) (cF:Sp):TS :=
 bQ (fB (cC cF [] E0 (ax (fq K (aq 0) "n") (ax (aq 1) aX))))
 (eF (cq (rI qC λi j=>.int (i/j)) (cq eO (nI (tH K) (ax (cq (dr K) (fq K (aq 0) "rows") (aq 1)) aX)) (tC (.int 1))) (tC (.int 2))))
abbrev rJ (K:aa) (C:af) (A:CA) (fI pX:Sp):TS :=
 bQ (tE K (aq 0) uR "weight_of")
 (tE K (aq 0) (iI 1 [1] (qf (ax (cq eO (cC pX [] E0 (ax (aq 1) aX)) (tC (.int 1))) aX)) (bp 0) pQ (Ik C fI [] E0 (ax (aq 1) aX))) "woods")
def nc (K:aa) (C:af) (A:CA) (fI pX:Sp):TS :=
 bQ (tE K (aq 0) uR "level_of")
 (bQ (tE K (aq 0) uR "wooden")
 (rJ K C A fI pX))
abbrev zO (K:aa) (C:af) (A:CA) (eC cz:Sp):TS :=
  bQ (de (aq 2) (AV (fq K (aq 0) "weight_of") (aq 1) qW))
  (bQ (ie (oJ (kh K (eZ C "joined" eC [] E0 (cq (dr K) (fq K (aq 0) "woods") (tC (.int 0))) (ax (cq (dr K) (aq 1) (tC (.int 0))) (ax (cq (dr K) (aq 1) (tC (.int 1))) aX)))))
   (fB (eZ A.bG "adopt" cz [] E0 (aq 0) (ax (aq 1) aX)))
   eY)
  (eF (cq (dr K) (fq K (aq 0) "wooden") (aq 1))))
def uj (K:aa) (C:af) (A:CA) (eC cz:Sp):TS :=
 bQ (de (tC (.int 0)) (AV (fq K (aq 0) "level_of") (aq 1) qW))
 (bQ (de (tC (.bl false)) (AV (fq K (aq 0) "wooden") (aq 1) qW))
 (zO K C A eC cz))
def kM (K:aa) (C:af) (A:CA) (fP:Sp):TS :=
 qP (kZ K (xU (oM K) (fq K (aq 0) "woods") eT (hU (cq eO (cq (dr K) (fq K (aq 0) "level_of") (aq 1)) (tC (.int 1)))))) (bp 2)
 (fB (eZ C "link" fP [] E0 (aq 2) (ax (cq (dr K) (aq 1) (tC (.int 0))) (ax (cq (dr K) (aq 1) (tC (.int 1))) aX))))
def qt (K:aa) (C:af) (A:CA) (fP:Sp):TS :=
 bQ (de (tC (.bl true)) (AV (fq K (aq 0) "wooden") (aq 1) qW))
 (kM K C A fP)
def rK (K:aa) (C:af) (A:CA) (fP:Sp):TS :=
 bQ (UK (fq K (aq 0) "level_of") (aq 1) (tC (.int 1)) NP)
 (ie (kh K (cq (dr K) (fq K (aq 0) "wooden") (aq 1)))
 (fB (eZ C "link" fP [] E0 (cq (dr K) (fq K (aq 0) "woods") (cq (dr K) (fq K (aq 0) "level_of") (aq 1))) (ax (cq (dr K) (aq 1) (tC (.int 0))) (ax (cq (dr K) (aq 1) (tC (.int 1))) aX))))
 eY)
def oX (K:aa) (C:af) (A:CA) (ju:Sp):TS :=
 qP (kZ K (xU (oM K) (fq K (aq 0) "woods") eT (hU (cq eO (aq 2) (tC (.int 1)))))) (bp 3)
 (fB (eZ C "cut" ju [] E0 (aq 3) (ax (cq (dr K) (aq 1) (tC (.int 0))) (ax (cq (dr K) (aq 1) (tC (.int 1))) aX))))
def rL (K:aa) (C:af) (A:CA) (ju:Sp):TS :=
 bQ (fB (Dk K "dict" IK (fq K (aq 0) "weight_of") (ax (aq 1) aX)))
 (bQ (de (Dk K "dict" IK (fq K (aq 0) "level_of") (ax (aq 1) aX)) (bp 2))
 (ie (kh K (Dk K "dict" IK (fq K (aq 0) "wooden") (ax (aq 1) aX)))
 (oX K C A ju)
 eY))
def nh (K:aa) (C:af) (A:CA) (l6:Sp):TS :=
 bQ (de (iI 1 [1,0] (ZW (fq K (aq 0) "level_of")) (bp 0) (dj (cq (iT K) (cq (dr K) (fq K (aq 2) "level_of") (aq 0)) (aq 1))) (aq 0)) (bp 3))
 (eF (cC l6 [] E0 (ax (iI 1 [2,0] (kZ K (aq 3)) (bp 0) (dj (cq (iT K) (cq (dr K) (fq K (aq 2) "wooden") (aq 0)) (aq 1))) (aq 0)) (ax (fq K (aq 0) "weight_of") aX))))
def rM (K:aa) (C:af) (A:CA):TS :=
 eF (nH (ax (cq (dr K) (aq 1) (tC (.int 0))) (ax (cq (dr K) (aq 1) (tC (.int 1))) (ax (cq (dr K) (fq K (aq 0) "level_of") (aq 1)) (ax (cq (dr K) (fq K (aq 0) "wooden") (aq 1)) aX)))))
def lu (K:aa) (C:af) (A:CA) (jV jC:Sp):TS :=
 bQ (de (cq (dr K) (fq K (aq 0) "woods") (aq 1)) (bp 3))
 (eF (eZ C "group" jV [] E0 (aq 3) (ax (XG (dj (cq (qQ λi j=>.bl (decide (i<=j))) (eZ C "size" jC [] E0 (aq 3) (ax (cq (dr K) (aq 2) (tC (.int 0))) aX)) (eZ C "size" jC [] E0 (aq 3) (ax (cq (dr K) (aq 2) (tC (.int 1))) aX)))) (cq (dr K) (aq 2) (tC (.int 0))) (cq (dr K) (aq 2) (tC (.int 1)))) aX)))
def oY (K:aa) (C:af) (A:CA) (cp cH dD dE cz:Sp):TS :=
 qP (kZ K (aq 4)) (bp 5)
 (fB (eZ A.bG "lift" dD [] E0 (aq 0) (ax (aq 5) aX)))
def oZ (K:aa) (C:af) (A:CA) (cp cH dD dE cz:Sp):TS :=
 qP (kZ K (eZ A.bG "at_level" cH [] E0 (aq 0) (ax (aq 1) (ax (tC (.bl false)) aX)))) (bp 5)
 (bQ (de (cC dE [] E0 (ax (aq 5) (ax (aq 3) aX))) (bp 6))
 (bQ (ie (dj (cq (iT K) (aq 6) (tC (.int 1))))
 (bQ (fB (eZ A.bG "adopt" cz [] E0 (aq 0) (ax (aq 5) aX)))
 (eF (nH (ax (aq 1) (ax (aq 3) (ax (nI (kJ K) (ax (aq 4) aX)) (ax (aq 5) aX)))))))
 eY)
 (ie (dj (cq (iT K) (aq 6) (tC (.int 2))))
 (bQ (fB (eZ A.bG "lift" dD [] E0 (aq 0) (ax (aq 5) aX)))
 (fB (Dk K "list" j6 (aq 4) (ax (aq 5) aX))))
 eY)))
abbrev x5 (K:aa) (C:af) (A:CA) (cp cH dD dE cz:Sp):TS :=
 bQ (oY K C A cp cH dD dE cz)
 (bQ (oZ K C A cp cH dD dE cz)
 (eF (nH (ax (aq 1) (ax (aq 3) (ax (nI (kJ K) (ax (aq 4) aX)) (ax (tC .non) aX)))))))
def rN (K:aa) (C:af) (A:CA) (cp cH dD dE cz:Sp):TS :=
 bQ (de (eZ A.bG "lesser_side" cp [] E0 (aq 0) (ax (aq 1) (ax (aq 2) aX))) (bp 3))
 (bQ (de (iI 1 [3] (kZ K (eZ A.bG "at_level" cH [] E0 (aq 0) (ax (aq 1) (ax (tC (.bl true)) aX)))) (bp 0) (dj (cq (iT K) (cC dE [] E0 (ax (aq 0) (ax (aq 1) aX))) (tC (.int 2)))) (aq 0)) (bp 4))
 (x5 K C A cp cH dD dE cz))
def o7 (K:aa) (C:af) (A:CA) (dR dS:Sp):TS :=
 AX (xN (kh K (aq 3)) (dj (cq (qQ λi j=>.bl (decide (j<=i))) (aq 2) (tC (.int 0)))))
 (bQ (fB (Dk K "list" j6 (aq 4) (ax (eZ A.bG "look" dS [] E0 (aq 0) (ax (aq 2) (ax (aq 1) aX))) aX)))
 (bQ (de (Pd (cq (dr K) (cq (dr K) (aq 4) (XI (rU λi=>.int (-i)) (tC (.int 1)))) (tC (.int 3)))) (bp 3))
 (Pk 2 (tC (.int 1)) (qQ λi j=>.int (i-j)))))
abbrev x6 (K:aa) (C:af) (A:CA) (dR dS:Sp):TS :=
 bQ (o7 K C A dR dS)
 (eF (aq 4))
abbrev x8 (K:aa) (C:af) (A:CA) (dR dS:Sp):TS :=
 bQ (fB (eZ A.bG "drop" dR [] E0 (aq 0) (ax (aq 1) aX)))
 (bQ (de (tF aX) (bp 4))
 (x6 K C A dR dS))
def rO (K:aa) (C:af) (A:CA) (dR dS:Sp):TS :=
 bQ (de (cq (dr K) (fq K (aq 0) "level_of") (aq 1)) (bp 2))
 (bQ (de (cq (dr K) (fq K (aq 0) "wooden") (aq 1)) (bp 3))
 (x8 K C A dR dS))
abbrev u9 (K:aa) (C:af) (A:CA) (cP fZ:Sp):TS :=
 bQ (tE K (aq 0) (tC (.int 0)) "risen")
 (tE K (aq 0) (tC (.int 0)) "lost")
abbrev vc (K:aa) (C:af) (A:CA) (cP fZ:Sp):TS :=
 bQ (tE K (aq 0) (tC (.int 0)) "came")
 (bQ (tE K (aq 0) (tC (.int 0)) "looked")
 (u9 K C A cP fZ))
abbrev vd (K:aa) (C:af) (A:CA) (cP fZ:Sp):TS :=
 bQ (tE K (aq 0) (Ik A.bG cP [] E0 (ax (aq 1) aX)) "levels")
 (bQ (tE K (aq 0) (cq (dr K) (fq K (fq K (aq 0) "levels") "woods") (tC (.int 0))) "wood")
 (vc K C A cP fZ))
def pe (K:aa) (C:af) (A:CA) (cP fZ:Sp):TS :=
 bQ (ie (oJ (kh K (cC fZ [] E0 (ax (aq 1) aX))))
 qO
 eY)
 (bQ (tE K (aq 0) (aq 1) "n")
 (vd K C A cP fZ))
def qu (K:aa) (C:af) (A:CA) (jW:Sp):TS :=
 bQ (sP K (aq 0) (tC (.int 1)) NP "came")
 (eF (eZ A.bG "add" jW [] E0 (fq K (aq 0) "levels") (ax (aq 1) (ax (aq 2) aX))))
abbrev DP (K:aa) (C:af) (A:CA) (eG jD ff kN iJ dF:Sp):TS :=
 bQ (sP K (aq 0) (cC iJ [] E0 (ax (aq 4) aX)) NP "risen")
 (eF (aq 4))
abbrev DQ (K:aa) (C:af) (A:CA) (eG jD ff kN iJ dF:Sp):TS :=
 bQ (de (eZ A.bG "take" ff [] E0 (fq K (aq 0) "levels") (ax (aq 3) aX)) (bp 4))
 (bQ (sP K (aq 0) (cC kN [] E0 (ax (aq 4) aX)) NP "looked")
 (DP K C A eG jD ff kN iJ dF))
def zj (K:aa) (C:af) (A:CA) (eG jD ff kN iJ dF:Sp):TS :=
 bQ (de (cC eG [] E0 (ax (fq K (aq 0) "n") (ax (fq K (fq K (aq 0) "levels") "level_of") (ax (aq 1) (ax (aq 2) aX))))) (bp 3))
 (bQ (sP K (aq 0) (cC jD [] E0 (ax (fq K (aq 0) "n") (ax (tF (ax (eZ A.bG "told" dF [] E0 (fq K (aq 0) "levels") (ax (aq 3) aX)) aX)) aX))) NP "lost")
 (DQ K C A eG jD ff kN iJ dF))
def wC (K:aa) (C:af) (A:CA) (dF:Sp):TS :=
 eF (nI (kJ K) (ax (iI 1 [0] (ZW (fq K (fq K (aq 0) "levels") "level_of")) (bp 0) pQ (eZ A.bG "told" dF [] E0 (fq K (aq 1) "levels") (ax (aq 0) aX))) aX))
def uk (K:aa) (C:af) (A:CA) (iY nj:Sp):TS :=
 eF (eZ A.Keeper "receive" iY [] E0 (aq 0) (ax (cC nj [] E0 (ax (fq K (aq 0) "n") (ax (fq K (fq K (aq 0) "levels") "level_of") (ax (aq 1) (ax (aq 2) aX))))) (ax (tC (.int 0)) aX)))
end K38
section
open PySem PySem.Spec PyProof.Rows L2
local macro_rules | `(tactic| walk_at "c")=>`(tactic| first|(show (0:Int)<_;lia)|exact ⟨by lia,by lia⟩|exact Or.inl ⟨by lia,by lia⟩|exact Or.inr ⟨by lia,by lia⟩|exact ⟨by lia,by lia,by lia⟩)
local macro_rules | `(tactic| k_ne)=>`(tactic| first|(with_reducible first|refine Iz ?_|refine Ye ?_|refine Ga ?_|refine Wm ?_)|((with_reducible refine' IA ?hv ?_);(case hv=>exact rfl))|(with_reducible first|refine x_c ?_|refine x_op ?_|refine Yg ?_|refine Wn ?_|refine Wo ?_|refine Yh ?_|refine x_if ?_|refine Wp ?_|refine x_tB ?_|refine Yt ?_|refine Wy ?_|refine Yi ?_|refine x_or ?_|refine Yj ?_|refine Wq ?_|refine x_orV ?_|refine Wr ?_|refine Yr ?_|refine Yk ?_|refine Yl ?_|refine Ws ?_|refine Ym ?_|refine Yn ?_|refine Wt ?_|refine x_cb ?_|refine x_bm ?_|refine x_sl ?_|refine PN ?_|refine Wu ?_|refine Yo ?_)|((with_reducible refine x_rI ?hc ?_);(case hc=>walk_at "c"))|(with_reducible first|refine Wv ?_|refine x_addHI ?_|refine Yp ?_|refine Yq ?_|refine Wz ?_|refine Yu ?_|refine WB ?_|refine Wx ?_|refine Yw ?_|refine Yx ?_|refine x_un ?_|refine x_rU ?_|refine Td ?_|refine Ys ?_|refine x_rev ?_|refine x_dnew ?_|refine Te ?_|refine WC ?_)|((with_reducible refine' Yv ?hv ?_);(case hv=>exact rfl))|with_reducible refine ⟨_,rfl,?_⟩)
local macro_rules | `(tactic| lk)=>`(tactic| (k_ne;repeat k_ne))
namespace K38
variable {K:aa}{C:af}{A:CA}{Pt p dx l:af}{H H':Hp}{n T:Nat}{ts:List Rm.Ti}{Q:VK}{R:Nat->Nat->List Int}{as:Nat->List af}{us:List (Rm.Ti×af)}{zs:List Zt}
open Rm
def um (t:Int×Int):PyData:=.tuple [.int t.1,.int t.2]
theorem x9:∀ {zs:List Zt},(∀ z∈zs,fG H z)->eD K H ((zs.map zP).map um) (zs.map dQ)
 | [],_=>.nil
 | z::zs,h=>.cons (.tup (.of (h z aw)) (.cons (.int _) (.cons (.int _) .nil))) (x9 λy hy=>h y (aj _ hy))
def ve (hl:H l=some (.lst (zs.map dQ))) (h:∀ z∈zs,fG H z):Rep K H (.list ((zs.map zP).map um)) (.ref l):=.lst (c6.of hl) (x9 h)
theorem nq:∀ L:List (Int×Int),jo (L.map um)=true
 | []=>rfl
 | t::ts=>by simp only [b0,jo,hW];exact ⟨by simp [um,mh,jo],nq ts⟩
theorem Jq:∀ L:List (Int×Int),fF (L.map um)<=2
 | []=>by simp [fF]
 | t::ts=>by
  have:=Jq ts;simp only [b0,fF]
  have e:(um t).depth<=2:=by simp [um,lz,fF]
  lia
def mH (L:List (Int×Int)):vM (.list (L.map um)):=⟨xW _ (by simp only [mh];exact nq L),by have:=Jq L;simp only [lz];lia⟩
def Q4 {L M:List (Int×Int)}(e:L=M):cM (.list (L.map um)) (.list (M.map um))=true:=by rw [e];exact XF _ (mH M).lay
def nr (h:∀ z∈zs,fG H z) (S:bN H H'):∀ z∈zs,fG H' z:=λz hz=>S _ _ (h z hz)
def rP (t u:Int×Int):cM (um t) (um u)=decide (t=u):=by
 obtain ⟨a,b⟩:=t;obtain ⟨c,d⟩:=u;rw [iD];simp [um,cM,PyData.eqvAll,HP]
def pY (t:Int×Int):vM (um t):=⟨xW _ (by simp [um,mh,jo]),by simp [um,lz,fF]⟩
def rQ {a b:Int}(h:H p=some (.tup [.int a,.int b])):Rep K H (um (a,b)) (.ref p):=.tup (.of h) (.cons (.int _) (.cons (.int _) .nil))
def Q5 {L:List (Int×Int)}{t u:Int×Int}:∀ {m:Nat},m<L.idxOf t->L[m]?=some u->u≠t:=by
 induction L with
 | nil=>intro m h e;simp at e
 | cons v L ih =>
  intro m h e
  by_cases q:v=t
  ·subst q;simp at h
  ·have hv:(v == t)=false:=by simpa using q
   rw [XD,hv] at h
   cases m with
   | zero=>simp at e;subst e;exact q
   | succ m=>exact ih (m:=m) (by simpa using h) (by simpa using e)
def Jr {a b:Int}(hl:H l=some (.lst (zs.map dQ))) (hz:∀ z∈zs,fG H z) (hlen:zs.length<=100000) (hp:H p=some (.tup [.int a,.int b])) (hm:(a,b)∈zs.map zP)
  (k:Q (.int ((zs.map zP).idxOf (a,b):Nat)) H):pU K (.ref l) [.ref p] H Q:=by
 have hi:(zs.map zP).idxOf (a,b)<(zs.map zP).length:=eN.mpr hm;refine .inr ⟨l,.ref p,(zs.map zP).map um,um (a,b),(zs.map zP).idxOf (a,b),um (a,b),rfl,rfl,ve hl hz,rQ hp,pY _,fc _ (nq _),by rw [ag,ag];exact bI hlen,?_,by rw [rP];simp,λm e hm' em=>?_,k⟩
 ·rw [aB,ay hi,oG];rfl
 ·rw [aB] at em;obtain ⟨u,e1,e2⟩:=bw.mp em;subst e2;rw [rP,decide_eq_false (Q5 hm' e1)]
inductive eh (K:aa) (C:af) (vs:List V) (H:Hp) (Q:VK) (E:XK):Prop
 | mk (p:af) (r:List Int):vs=[.ref p]->c6 K H p (r.map V.int)->r.length<=1000->(∀ l H' (zs:List Zt),bN H H'->H l=none->H' l=some (.lst (zs.map dQ))->(∀ z∈zs,fG H' z)->zs.map zP=al r->Q (.ref l) H')->eh K C vs H Q E
def zQ:Rn (eh K C) (rC K C) ["row"]:=by
 rintro vs H Q E ⟨p,r,rfl,hp,hl,k⟩;unfold rC;lk;refine WI ?_;lk;refine vP (j:=1) hp rfl λq hq=>?_;generalize eu_:upd H q (.lst ((r.drop 1).map V.int))=H1;obtain ⟨S1,g1⟩:=jK eu_ hq;lk;exact ⟨p,q,r,r.drop 1,rfl,S1.seq hp,c6.of g1,by lia,λl zs H2 S2 hl2 gl hz e=>k l H2 zs (S1.trans S2) (S1.free hl2) gl hz (by rw [e,Lg])⟩
inductive lG (K:aa) (C:af) (vs:List V) (H:Hp) (Q:VK) (E:XK):Prop
 | mk (p:af) (r:List Int) (a b:Int):vs=[.ref p,.int a,.int b]->c6 K H p (r.map V.int)->r.length<=1000->(a,b)∈al r->(b,a)∈al r->(∀ (t x y:af) (H':Hp),bN H H'->H t=none->H x=none->H y=none->x≠y->H' t=some (.tup [.ref x,.ref y])->H' x=some (.lst ((xE r a b).1.map V.int))->H' y=some (.lst ((xE r a b).2.map V.int))->Q (.ref t) H')->lG K C vs H Q E
def Lr:Rn (lG K C) (Fz K C (eh K C)) Ve:=by
 rintro vs H Q E ⟨p,r,a,b,rfl,hp,hl,hab,hba,k⟩;have hi:(al r).idxOf (a,b)<(al r).length:=eN.mpr hab;have hj:(al r).idxOf (b,a)<(al r).length:=eN.mpr hba;rw [Lh] at hi hj;unfold Fz;lk;refine ⟨p,r,rfl,hp,hl,λw H1 zs S1 hw gw hz ez=>?_⟩
 have hzl:zs.length<=1000:=by
  have:=congrArg dt ez;rw [ag,Lh] at this;lia
 lk;refine ⟨.inl ⟨rfl,_,c6.of gw⟩,?_⟩;lk;refine ⟨bI (m:=2) (av 2),λt1 ht1=>?_⟩;generalize eu_:upd H1 t1 (.tup [.int a,.int b])=H2;obtain ⟨S2,g2⟩:=jK eu_ ht1;lk;refine Jr (S2 _ _ gw) (nr hz S2) (by lia) g2 (by rw [ez];exact hab) ?_;rw [ez];lk;refine ⟨.inl ⟨rfl,_,c6.of (S2 _ _ gw)⟩,?_⟩;lk;refine ⟨bI (m:=2) (av 2),λt2 ht2=>?_⟩;generalize eu_:upd H2 t2 (.tup [.int b,.int a])=H3;obtain ⟨S3,g3⟩:=jK eu_ ht2;have S13:=S2.trans S3;lk;refine Jr (S13 _ _ gw) (nr hz S13) (by lia) g3 (by rw [ez];exact hba) ?_;rw [ez]
 have hpr:xE r a b=if (al r).idxOf (a,b)<(al r).idxOf (b,a) then (xZ r ((al r).idxOf (a,b)) ((al r).idxOf (b,a)),rj r ((al r).idxOf (a,b)) ((al r).idxOf (b,a))) else (rj r ((al r).idxOf (b,a)) ((al r).idxOf (a,b)),xZ r ((al r).idxOf (b,a)) ((al r).idxOf (a,b))):=rfl
 generalize (al r).idxOf (a,b)=i at hi hpr;generalize (al r).idxOf (b,a)=j at hj hpr;lk
 obtain ⟨u,v,eu,ev,huv⟩:∃ u v:Nat,(if (j:Int)<(i:Int) then (j:Int) else (i:Int))=(u:Int)/\(if (j:Int)>(i:Int) then (j:Int) else (i:Int))=(v:Int)/\((i<j/\u=i/\v=j)\/(¬ i<j/\u=j/\v=i)):=by
  by_cases c:i<j
  ·exact ⟨i,j,by rw [if_neg (by lia)],by rw [if_pos (by lia)],.inl ⟨c,rfl,rfl⟩⟩
  ·by_cases c2:j<i
   ·exact ⟨j,i,by rw [if_pos (by lia)],by rw [if_neg (by lia)],.inr ⟨c,rfl,rfl⟩⟩
   ·have:i=j:=by lia
    subst this;exact ⟨i,i,by rw [if_neg (by lia)],by rw [if_neg (by lia)],.inr ⟨c,rfl,rfl⟩⟩
 rw [eu,ev];have hS:=S1.trans S13;refine MI (j:=u+1) (j':=v+1) (hS.seq hp) (by lia) (by lia) λy hy=>?_
 have hin:(r.drop (u+1)).take (v+1-(u+1))=rj r u v:=by unfold rj;rw [show v+1-(u+1)=v-u by lia]
 rw [hin];generalize eu_:upd H3 y (.lst ((rj r u v).map V.int))=H4;obtain ⟨S4,g4⟩:=jK eu_ hy;lk;refine Qa (j:=u+1) ((hS.trans S4).seq hp) (by lia) λq1 hq1=>?_;generalize eu_:upd H4 q1 (.lst ((r.take (u+1)).map V.int))=H5;obtain ⟨S5,g5⟩:=jK eu_ hq1;lk;refine vP (j:=v+2) ((hS.trans (S4.trans S5)).seq hp) (by lia) λq2 hq2=>?_;generalize eu_:upd H5 q2 (.lst ((r.drop (v+2)).map V.int))=H6;obtain ⟨S6,g6⟩:=jK eu_ hq2;refine Gc (S6 _ _ g5) g6 (by rw [bK,cQ];lia) λx hx=>?_;have S7:=bN.cK (o:=.lst ((xZ r u v).map V.int)) hx;have g7:(upd H6 x (.lst ((xZ r u v).map V.int))) x=some (.lst ((xZ r u v).map V.int)):=aF
 show bp 9 (.ref x) _ (upd H6 x (.lst ((xZ r u v).map V.int))) _
 generalize upd H6 x (.lst ((xZ r u v).map V.int))=H7 at S7 g7;have S37:=S4.trans (S5.trans (S6.trans S7));have S47:=S5.trans (S6.trans S7);have nxy:x≠y:=Ne.symm (aQ (S6 _ _ (S5 _ _ g4)) hx);have hHx:H x=none:=(hS.trans (S4.trans (S5.trans S6))).free hx;have hHy:H y=none:=hS.free hy;lk
 rcases huv with ⟨c,rfl,rfl⟩|⟨c,rfl,rfl⟩
 ·rw [if_pos c] at hpr;refine tI (λ_=>?_) λz=>absurd (by lia) z;lk;refine ⟨bI (m:=2) (av 2),λt ht=>?_⟩;have S8:=bN.cK (o:=.tup [.ref x,.ref y]) ht;exact k t x y _ ((hS.trans S37).trans S8) ((hS.trans S37).free ht) hHx hHy nxy aF (by rw [hpr];exact S8 _ _ g7) (by rw [hpr];exact S8 _ _ (S47 _ _ g4))
 ·rw [if_neg c] at hpr;refine tI (λz=>absurd (by lia) c) λ_=>?_;lk;refine ⟨bI (m:=2) (av 2),λt ht=>?_⟩;have S8:=bN.cK (o:=.tup [.ref y,.ref x]) ht;exact k t y x _ ((hS.trans S37).trans S8) ((hS.trans S37).free ht) hHy hHx (Ne.symm nxy) aF (by rw [hpr];exact S8 _ _ (S47 _ _ g4)) (by rw [hpr];exact S8 _ _ g7)
inductive oU (K:aa) (C:af) (vs:List V) (H:Hp) (Q:VK) (E:XK):Prop
 | mk (p:af) (r:List Int) (a:Int):vs=[.ref p,.int a]->c6 K H p (r.map V.int)->a∈r->r.length<=1000->(∀ l H',bN H H'->H l=none->H' l=some (.lst ((tn r (r.idxOf a)).map V.int))->Q (.ref l) H')->oU K C vs H Q E
def Ls:Rn (oU K C) (Fy K C) ["row","a","k"]:=by
 rintro vs H Q E ⟨p,r,a,rfl,hp,ha,hl,q⟩;unfold Fy;lk;refine ⟨.inl ⟨rfl,_,hp⟩,?_⟩;lk;refine MG hp ha ?_;lk;refine vP hp rfl λp1 h1=>?_;have S1:=bN.cK (o:=.lst ((r.drop (r.idxOf a)).map V.int)) h1;lk;refine MI (j:=1) (j':=r.idxOf a+1) (S1.seq hp) rfl (by lia) λp2 h2=>?_;have S2:=bN.cK (o:=.lst (((r.drop 1).take (r.idxOf a+1-1)).map V.int)) h2;refine Gc (S2 _ _ aF) aF ?_ λp3 h3=>?_
 ·rw [cQ,bK,cQ];lia
 ·have S3:=bN.cK (o:=.lst (((r.drop (r.idxOf a))++((r.drop 1).take (r.idxOf a+1-1))).map V.int)) h3;have S:=(S1.trans S2).trans S3;exact q p3 _ S ((S1.trans S2).free h3) aF
inductive m9 (K:aa) (C:af) (vs:List V) (H:Hp) (Q:VK) (E:XK):Prop
 | mk (p q:af) (r1 r2:List Int) (a b:Int):vs=[.ref p,.ref q,.int a,.int b]->c6 K H p (r1.map V.int)->c6 K H q (r2.map V.int)->a∈r1->b∈r2->r1.length<=1000->r2.length<=1000->(∀ l H',bN H H'->H l=none->H' l=some (.lst ((BB r1 r2 a b).map V.int))->Q (.ref l) H')->m9 K C vs H Q E
def Js:Rn (m9 K C) (BU K C (oU K C)) ["row","other","a","b","k"]:=by
 rintro vs H Q E ⟨p,q,r1,r2,a,b,rfl,hp,hq,ha,hb,hl1,hl2,k⟩;unfold BU;lk;refine ⟨.inl ⟨rfl,_,hp⟩,?_⟩;lk;refine MG hp ha ?_;lk;refine Qa (j:=r1.idxOf a+1) hp (by lia) λp1 h1=>?_;generalize eu_:upd H p1 (.lst ((r1.take (r1.idxOf a+1)).map V.int))=H1;obtain ⟨S1,g1⟩:=jK eu_ h1;lk;refine ⟨q,r2,b,rfl,S1.seq hq,hb,hl2,λt H2 S2 ht gt=>?_⟩;have hlt:(tn r2 (r2.idxOf b)).length=r2.length:=QL (Le hb);refine Gc (S2 _ _ g1) gt (by rw [bK];lia) λp3 h3=>?_;generalize eu_:upd H2 p3 (.lst ((r1.take (r1.idxOf a+1)++tn r2 (r2.idxOf b)).map V.int))=H3;obtain ⟨S3,g3⟩:=jK eu_ h3;lk;have S13:=S1.trans (S2.trans S3);refine vP (j:=r1.idxOf a) (S13.seq hp) rfl λp4 h4=>?_;generalize eu_:upd H3 p4 (.lst ((r1.drop (r1.idxOf a)).map V.int))=H4;obtain ⟨S4,g4⟩:=jK eu_ h4;refine Gc (S4 _ _ g3) g4 (by rw [bz,bK,cQ];lia) λp5 h5=>?_;have S5:=bN.cK (o:=.lst ((r1.take (r1.idxOf a+1)++tn r2 (r2.idxOf b)++r1.drop (r1.idxOf a)).map V.int)) h5;refine k p5 _ ((S13.trans S4).trans S5) ((S13.trans S4).free h5) ?_;unfold BB;rw [← dB];exact aF
def jq (K:aa) (C:af):Sp:=λvs H Q _=>∃ i:Int,vs=[.int i]/\Q (.bl true) H
def Gx:Rn (jq K C) (zc K C) yX:=by
 rintro vs H Q E ⟨i,rfl,k⟩;unfold zc;lk;refine tY (.int i) PV ?_;lk;refine lD ?_;lk;refine tY (.int i) PX ?_;lk;exact k
inductive l0 (K:aa) (C:af) (vs:List V) (H:Hp) (Q:VK) (E:XK):Prop
 | mk (n i:Nat):vs=[.int n,.int i]->i<n->Q (.bl true) H->l0 K C vs H Q E
def Gy:Rn (l0 K C) (ze K C (jq K C)) yV:=by
 rintro vs H Q E ⟨n,i,rfl,hi,k⟩;unfold ze;lk;refine ⟨i,rfl,?_⟩;refine ⟨true,rfl,?_⟩;refine lD ?_;lk;refine tI (λ_=>?_) λz=>absurd (show (0:Int)<=i by lia) z;lk;rw [decide_eq_true (show (i:Int)<n by lia)];exact k
inductive cF (K:aa) (C:af) (vs:List V) (H:Hp) (Q:VK) (E:XK):Prop
 | mk (n i:Nat):vs=[.int n,.int i]->i<n->Q .non H->cF K C vs H Q E
def tK:Rn (cF K C) (m8 K C (l0 K C)) yV:=by
 rintro vs H Q E ⟨n,i,rfl,hi,k⟩;unfold m8;lk;refine ⟨n,i,rfl,hi,?_⟩;refine ⟨true,rfl,?_⟩;refine iX ?_;lk;exact k
inductive dH (K:aa) (C:af) (vs:List V) (H:Hp) (Q:VK) (E:XK):Prop
 | mk (n i j:Nat):vs=[.int n,.int i,.int j]->i<n->j<n->Q .non H->dH K C vs H Q E
def rR:Rn (dH K C) (mB K C (cF K C)) yU:=by
 rintro vs H Q E ⟨n,i,j,rfl,hi,hj,k⟩;unfold mB;lk;refine ⟨n,i,rfl,hi,?_⟩;lk;refine ⟨n,j,rfl,hj,?_⟩;exact k
inductive b8 (K:aa) (C:af) (vs:List V) (H:Hp) (Q:VK) (E:XK):Prop
 | mk (n i j:Nat):vs=[.int n,.int i,.int j]->i<n->j<n->i≠j->Q .non H->b8 K C vs H Q E
def vf:Rn (b8 K C) (nX K C (dH K C)) yU:=by
 rintro vs H Q E ⟨n,i,j,rfl,hi,hj,hij,k⟩;unfold nX;lk;refine ⟨n,i,j,rfl,hi,hj,?_⟩;lk;refine tI (λz=>absurd (lE.mp z) (by lia)) λ_=>?_;lk;exact k
def lH {ta tv:TE}{f:bj}{D:tD}{Z:L2.St}(h:tv Z H λy H1=>ta Z H1 λx H2=>∃ a C dx fs,x=.ref a/\H2 a=some (.ins C dx fs)/\Dm K C/\dM K C f/\fs.length<1000/\D.nx Z (upd H2 a (.ins C dx (dW f y fs)))):tE K ta tv f D Z H:=h
def kn:¬ (("n":bj)="rows"):=by decide +kernel
def Gz (n:Nat) (l:af):List (bj×V):=dW "rows" (.ref l) (dW "n" (.int n) [])
def iK (n:Nat) (l:af):(Gz n l).lookup ("rows":bj)=some (.ref l):=by unfold Gz;rw [fk,if_pos rfl]
def yb (n:Nat) (l:af):(Gz n l).lookup ("n":bj)=some (.int n):=by unfold Gz;rw [fk,if_neg kn,fk,if_pos rfl]
def lR (n:Nat) (l:af) {m:bj}(h1:¬ m="rows":=by decide +kernel) (h2:¬ m="n":=by decide +kernel):(Gz n l).lookup m=none:=by
 unfold Gz;rw [fk,if_neg h1,fk,if_neg h2];rfl
structure CT (K:aa) (C:af):Prop where
 cl:Dm K C
 n:dM K C "n"
 rows:dM K C "rows"
structure WA (C:af) (H:Hp) (p dx l:af) (n:Nat) (as:List af) (R:Nat->List Int):Prop where
 ob:H p=some (.ins C dx (Gz n l))
 rl:H l=some (.lst (as.map V.ref))
 len:as.length=n
 at_:∀ i a,as[i]?=some a->H a=some (.lst ((R i).map V.int))
 ne:∀ a∈as,a≠l
def WA.get {as:List af}{R:Nat->List Int}(W:WA C H p dx l n as R) {i:Nat}(hi:i<n):∃ a,as[i]?=some a/\H a=some (.lst ((R i).map V.int))/\a≠l:=by
 have h:i<as.length:=by rw [W.len];exact hi
 exact ⟨as[i],ay h,W.at_ i _ (ay h),W.ne _ (hZ h)⟩
def WA.same {as:List af}{R:Nat->List Int}(W:WA C H p dx l n as R) (S:bN H H'):WA C H' p dx l n as R :=
 ⟨S _ _ W.ob,S _ _ W.rl,W.len,λi a h=>S _ _ (W.at_ i a h),W.ne⟩
inductive fI (K:aa) (C:af) (vs:List V) (H:Hp) (Q:VK) (E:XK):Prop
 | mk (p dx:af) (n:Nat):vs=[.ref p,.int n]->H p=some (.ins C dx [])->CT K C->n<=1000->(∀ (l:af) (as:List af) (H':Hp),WA C H' p dx l n as (λi=>[(i:Int)])->H l=none->bq p H H'->Q .non H')->fI K C vs H Q E
def wD:Rn (fI K C) (oW K C) qh:=by
 rintro vs H Q E ⟨p,dx,n,rfl,hp,ct,hn,k⟩;unfold oW;k_ne;refine lH ?_;lk;refine ⟨p,C,dx,[],rfl,hp,ct.cl,ct.n,by decide,?_⟩;dsimp only;refine lH ?_;lk;refine ⟨by lia,by lia,λacc hacc=>?_⟩
 have e0:((n:Int)).toNat=n:=by lia
 rw [e0]
 have hap:acc≠p:=λe=>by rw [e,aF] at hacc;cases hacc
 have hacc0:H acc=none:=by rw [aH hap] at hacc;exact hacc
 have g0:(upd H p (.ins C dx (dW "n" (.int n) []))) p=some (.ins C dx (dW "n" (.int n) [])):=aF;have B0:bq p H (upd H p (.ins C dx (dW "n" (.int n) []))):=bq.upd;generalize upd H p (.ins C dx (dW "n" (.int n) []))=H0 at hacc g0 B0;refine mF (n:=n) (λt ys H1=>∃ as:List af,ys=as.map V.ref/\as.length=t/\H1 acc=some (.lst ys)/\bN H0 H1/\∀ (i:Nat) a,as[i]?=some a->a≠acc/\H1 a=some (.lst ([(i:Int)].map V.int))) (λZ=>∃ o,Z=[o]) ⟨[],rfl,rfl,aF,bN.cK hacc,λi a h=>by simp at h⟩ ⟨_,rfl⟩ ?_ ?_ ?_ ?_
 ·rintro t ys H1 ⟨_,_,_,h,_⟩;exact h
 ·rintro ys H1 ⟨as,rfl,hl,g1,S1,hA⟩;refine ⟨av n,?_⟩;lk;refine ⟨p,C,dx,_,rfl,S1 _ _ g0,ct.cl,ct.rows,by show 1<1000;decide,?_⟩;have hb:bq p H1 (upd H1 p (.ins C dx (Gz n acc))):=bq.upd
  have nl:∀ {b:af}{xs:List V},H1 b=some (.lst xs)->b≠p:=λe z=>by rw [z,S1 _ _ g0] at e;cases e
  refine k acc as _ ⟨aF,hb _ _ g1 hap,hl,λi a ha=>hb _ _ (hA i a ha).2 (nl (hA i a ha).2),λa ha=>?_⟩ hacc0 λb o e hne=>hb _ _ (S1 _ _ (B0 _ _ e hne)) hne;obtain ⟨i,hi⟩:=bJ.mp ha;exact (hA i a hi).1
 ·rintro t ys H1 ht _;exact ht
 ·rintro t ys σ' H1 x H2 ht ⟨as,rfl,hl,g1,S1,hA⟩ ⟨o,rfl⟩ ⟨eH,ex⟩;subst eH ex;lk;refine lD ?_;lk;refine ⟨bI (m:=1) (av 1),λq hq=>?_⟩;have T:=bN.cK (o:=.lst [.int (0+(t:Int))]) hq
  have u:(upd H2 q (.lst [.int (0+(t:Int))])) q=some (.lst ([(t:Int)].map V.int)):=by rw [aF];simp
  generalize upd H2 q (.lst [.int (0+(t:Int))])=H3 at T u;have hqa:q≠acc:=Ne.symm (aQ g1 hq);refine ⟨T _ _ g1,eP (m:=10000) (by rw [ag];lia),ky.mk' ht ⟨_,rfl⟩ ⟨as++[q],by simp,by simp [hl],aF,λb o e=>by rw [aH (aQ e hacc)];exact T _ _ (S1 _ _ e),λi a ha=>?_⟩⟩
  by_cases hi:i<as.length
  ·rw [fQ hi] at ha;obtain ⟨h1,h2⟩:=hA i a ha;exact ⟨h1,by rw [aH h1];exact T _ _ h2⟩
  ·rw [dY (by lia)] at ha
   have:i=as.length:=by
    have:=(aC.mp ha).1;simp at this;lia
   subst this;simp at ha;subst ha;rw [hl];exact ⟨hqa,by rw [aH hqa];exact u⟩
inductive fO (K:aa) (C:af) (vs:List V) (H:Hp) (Q:VK) (E:XK):Prop
 | mk (p dx l q:af) (n:Nat) (as:List af) (s:List Int):vs=[.ref p,.ref q]->CT K C->H p=some (.ins C dx (Gz n l))->H l=some (.lst (as.map V.ref))->as.length=n->H q=some (.lst (s.map V.int))->q≠l->(∀ x∈s,∃ j:Nat,j<n/\x=(j:Int))->(∀ (as':List af) H',as'.length=n->(∀ (i:Nat) (a:af),as[i]?=some a->as'[i]?=some (if (i:Int)∈s then q else a))->H' l=some (.lst (as'.map V.ref))->bq l H H'->Q .non H')->fO K C vs H Q E
def DR:Rn (fO K C) (wy K C) ["self","row","place"]:=by
 rintro vs H Q E ⟨p,dx,l,q,n,as,s,rfl,ct,hp,hl,hn,hq,hql,hs,k⟩;have hpl:p≠l:=fX hp hl;unfold wy rG;lk
 refine .inl ⟨⟨_,c6.of hq⟩,kH (K:=K) (a:=q) (xs:=s.map V.int) (λi Z H1=>∃ (as':List af) (o:Option V),Z=[some (.ref p),some (.ref q),o]/\as'.length=n/\(∀ (j:Nat) (a:af),as[j]?=some a->as'[j]?=some (if (j:Int)∈s.take i then q else a))/\H1 l=some (.lst (as'.map V.ref))/\bq l H H1)
  ⟨as,_,rfl,hn,λj a h=>by simpa using h,hl,bq.refl _ _⟩ ?_ ?_ ?_⟩
 ·rintro i Z H1 _ ⟨as',o,_,_,_,_,B⟩;exact c6.of (B _ _ hq hql)
 ·rintro i x Z H1 hi ⟨as',o,rfl,hn',hA,g1,B⟩;rw [aB] at hi;obtain ⟨c,hc,ex⟩:=bw.mp hi;have ex:x=V.int c:=ex.symm;subst ex;obtain ⟨j,hj,rfl⟩:=hs c (aR hc);k_go;refine ⟨p,C,dx,_,_,rfl,B _ _ hp hpl,ct.cl,ct.rows,iK _ _,?_⟩;lk;refine K1 g1 (K4 (j:=j) rfl (by rw [ag];lia)) ?_;refine ⟨as'.set j q,_,rfl,by simpa using hn',λk' a ha=>?_,?_,λb o' e hb=>by rw [aH hb];exact B _ _ e hb⟩
  ·have e1:s.take (i+1)=s.take i++[(j:Int)]:=by rw [XT,hc];rfl
   rw [e1]
   by_cases hk:k'=j
   ·subst hk;rw [je (by rw [hn',← hn];exact (aC.mp ha).1),if_pos (by simp)]
   ·rw [mU (Ne.symm hk),hA k' a ha]
    have:((k':Int)∈s.take i++[(j:Int)])↔(k':Int)∈s.take i:=by
     simp only [aN,aA];exact ⟨λh=>h.elim id λe=>absurd (by lia) hk,.inl⟩
    by_cases c1:(k':Int)∈s.take i
    ·rw [if_pos c1,if_pos (this.mpr c1)]
    ·rw [if_neg c1,if_neg (λh=>c1 (this.mp h))]
  ·rw [aF,NC]
 ·rintro Z H1 ⟨as',o,rfl,hn',hA,g1,B⟩;rw [ag,qM] at hA;exact k as' H1 hn' hA g1 B
inductive eC (K:aa) (C:af) (vs:List V) (H:Hp) (Q:VK) (E:XK):Prop
 | mk (p dx l:af) (n a b:Nat) (as:List af) (R:Nat->List Int):vs=[.ref p,.int a,.int b]->CT K C->WA C H p dx l n as R->Wd n R->a<n->b<n->Q (.bl (decide ((b:Int)∈R a))) H->eC K C vs H Q E
def zS:Rn (eC K C) (rH K C (dH K C)) tJ:=by
 rintro vs H Q E ⟨p,dx,l,n,a,b,as,R,rfl,ct,W,D,ha,hb,k⟩;obtain ⟨ra,e1,e2,_⟩:=W.get ha;obtain ⟨rb,f1,f2,_⟩:=W.get hb
 have hd:∀ i,i<n->∃ x,(R i)[0]?=some x/\(R i).head?=some x:=λi hi=>by
  cases h:R i with
  | nil=>exact absurd h (D.r i hi).ne
  | cons x t=>exact ⟨x,rfl,rfl⟩
 obtain ⟨x,hx,hx'⟩:=hd a ha;obtain ⟨y,hy,hy'⟩:=hd b hb;have hj:=D.head ha hb;rw [hx',hy'] at hj;unfold rH;k_go;refine ⟨p,C,dx,_,_,rfl,W.ob,ct.cl,ct.n,yb _ _,?_⟩;lk;refine ⟨n,a,b,rfl,ha,hb,?_⟩;k_go;refine ⟨p,C,dx,_,_,rfl,W.ob,ct.cl,ct.rows,iK _ _,?_⟩;lk;refine jU (c6.of W.rl) (d9 (j:=a) rfl (by rw [aB,e1];rfl)) ?_;lk;refine yQ (c6.of e2) (j:=0) rfl hx ?_;k_go;refine ⟨p,C,dx,_,_,rfl,W.ob,ct.cl,ct.rows,iK _ _,?_⟩;lk;refine jU (c6.of W.rl) (d9 (j:=b) rfl (by rw [aB,f1];rfl)) ?_;lk;refine yQ (c6.of f2) (j:=0) rfl hy ?_;lk
 have e:decide (V.int x=V.int y)=decide ((b:Int)∈R a):=by
  rw [iD,decide_eq_true_iff,decide_eq_true_iff,lE,← hj];exact ⟨λh=>by rw [h],λh=>aY h⟩
 rw [e];exact k
inductive fP (K:aa) (C:af) (vs:List V) (H:Hp) (Q:VK) (E:XK):Prop
 | mk (p dx l:af) (n a b:Nat) (as:List af) (R:Nat->List Int):vs=[.ref p,.int a,.int b]->CT K C->WA C H p dx l n as R->Wd n R->n<=200->a<n->b<n->(b:Int)∉R a->(∀ (as':List af) H',WA C H' p dx l n as' (lk R a b)->bq l H H'->Q .non H')->fP K C vs H Q E
def DS:Rn (fP K C) (wz K C (b8 K C) (eC K C) (fO K C) (m9 K C)) tJ:=by
 rintro vs H Q E ⟨p,dx,l,n,a,b,as,R,rfl,ct,W,D,hn,ha,hb,hm,k⟩;obtain ⟨ra,e1,e2,_⟩:=W.get ha;obtain ⟨rb,f1,f2,_⟩:=W.get hb;have hla:=D.len ha;have hlb:=D.len hb;have hab:a≠b:=λe=>hm (e▸D.me a ha);obtain ⟨T2,D2,E2⟩:=D.link ha hb hm;unfold wz;k_go;refine ⟨p,C,dx,_,_,rfl,W.ob,ct.cl,ct.n,yb _ _,?_⟩;lk;refine ⟨n,a,b,rfl,ha,hb,hab,?_⟩;k_in;refine ⟨p,dx,_,rfl,W.ob,lR _ _,?_⟩;lk;refine ⟨p,dx,l,n,a,b,as,R,rfl,ct,W,D,ha,hb,?_⟩;refine ⟨_,rfl,?_⟩;refine tI (λz=>absurd z hm) λ_=>?_;k_in;refine ⟨p,dx,_,rfl,W.ob,lR _ _,?_⟩;k_go;refine ⟨p,C,dx,_,_,rfl,W.ob,ct.cl,ct.rows,iK _ _,?_⟩;lk;refine jU (c6.of W.rl) (d9 (j:=a) rfl (by rw [aB,e1];rfl)) ?_;k_go;refine ⟨p,C,dx,_,_,rfl,W.ob,ct.cl,ct.rows,iK _ _,?_⟩;lk;refine jU (c6.of W.rl) (d9 (j:=b) rfl (by rw [aB,f1];rfl)) ?_;lk;refine ⟨ra,rb,R a,R b,a,b,rfl,c6.of e2,c6.of f2,D.me a ha,D.me b hb,by lia,by lia,λq H1 S1 hq gq=>?_⟩;lk;have W1:=W.same S1;have hql:q≠l:=Ne.symm (aQ W.rl hq);refine ⟨p,dx,l,q,n,as,_,rfl,ct,W1.ob,W1.rl,W.len,gq,hql,λx hx=>?_,λas' H2 hl2 hA g2 B2=>?_⟩
 ·rcases (T2.mem x).mp hx with h|h
  ·obtain ⟨j,hj,e,_⟩:=D.Kr a ha x h;exact ⟨j,hj,e⟩
  ·obtain ⟨j,hj,e,_⟩:=D.Kr b hb x h;exact ⟨j,hj,e⟩
 ·have hpl:p≠l:=fX W.ob W.rl
  have hAt:∀ (i:Nat) (c:af),as'[i]?=some c->∃ c0,as[i]?=some c0/\c=if (i:Int)∈BB (R a) (R b) a b then q else c0:=λi c hc=>by
   have hi:i<as.length:=by rw [W.len,← hl2];exact (aC.mp hc).1
   have:=hA i _ (ay hi);rw [hc] at this;exact ⟨_,ay hi,aY this⟩
  refine k as' H2 ⟨B2 _ _ W1.ob hpl,g2,hl2,λi c hc=>?_,λc hc=>?_⟩ (λb' o e hne=>B2 _ _ (S1 _ _ e) hne)
  ·obtain ⟨c0,h0,ec⟩:=hAt i c hc
   show H2 c=some (.lst ((if (i:Int)∈BB (R a) (R b) a b then BB (R a) (R b) a b else R i).map V.int))
   by_cases ci:(i:Int)∈BB (R a) (R b) a b
   ·rw [if_pos ci] at ec ⊢;rw [ec];exact B2 _ _ gq hql
   ·rw [if_neg ci] at ec ⊢;rw [ec];exact B2 _ _ (W1.at_ i c0 h0) (W.ne _ (aR h0))
  ·obtain ⟨i,hi⟩:=bJ.mp hc;obtain ⟨c0,h0,ec⟩:=hAt i c hi
   by_cases ci:(i:Int)∈BB (R a) (R b) a b
   ·rw [if_pos ci] at ec;rw [ec];exact hql
   ·rw [if_neg ci] at ec;rw [ec];exact W.ne _ (aR h0)
inductive ju (K:aa) (C:af) (vs:List V) (H:Hp) (Q:VK) (E:XK):Prop
 | mk (p dx l:af) (n a b:Nat) (as:List af) (R:Nat->List Int):vs=[.ref p,.int a,.int b]->CT K C->WA C H p dx l n as R->Wd n R->n<=200->a<n->b<n->a≠b->Ed n R a b->(∀ (as':List af) H',WA C H' p dx l n as' (Rm.ct R a b)->bq l H H'->Q .non H')->ju K C vs H Q E
def GA:Rn (ju K C) (zh K C (b8 K C) (lG K C) (eh K C) (fO K C)) ["self","a","b","row"]:=by
 rintro vs H Q E ⟨p,dx,l,n,a,b,as,R,rfl,ct,W,D,hn,ha,hb,hab,hE,k⟩;obtain ⟨ra,e1,e2,_⟩:=W.get ha;have hla:=D.len ha;have hm:=Ed.at D hE ha (D.me a ha);have hm':=(D.r a ha).sym _ _ hm;have P:=(D.r a ha).parted hm (by lia:(a:Int)≠b);have PM:=P.mem (D.r a ha);have hpl:p≠l:=fX W.ob W.rl;unfold zh;k_go;refine ⟨p,C,dx,_,_,rfl,W.ob,ct.cl,ct.n,yb _ _,?_⟩;lk;refine ⟨n,a,b,rfl,ha,hb,hab,?_⟩;lk;refine ⟨bI (m:=2) (av 2),λt ht=>?_⟩;generalize eu_:upd H t (.tup [.int (a:Int),.int (b:Int)])=H1;obtain ⟨S1,g1⟩:=jK eu_ ht;have W1:=W.same S1;k_go;refine ⟨p,C,dx,_,_,rfl,W1.ob,ct.cl,ct.rows,iK _ _,?_⟩;lk;refine jU (c6.of W1.rl) (d9 (j:=a) rfl (by rw [aB,e1];rfl)) ?_;lk;refine ⟨ra,R a,rfl,c6.of (S1 _ _ e2),by lia,λz H2 zs S2 hz gz pz ez=>?_⟩;refine Bh (rQ (S2 _ _ g1)) (ve gz pz) (pY _) (fc _ (nq _)) ?_
 have hin:(((zs.map zP).map um).any λe=>cM e (um ((a:Int),(b:Int))))=true:=by
  rw [ez,ND,Du];exact ⟨_,hm,by simp [rP]⟩
 rw [hin];lk;refine iX ?_;have S12:=S1.trans S2;have W2:=W.same S12;lk;unfold uh;k_go;refine ⟨p,C,dx,_,_,rfl,W2.ob,ct.cl,ct.rows,iK _ _,?_⟩;lk;refine jU (c6.of W2.rl) (d9 (j:=a) rfl (by rw [aB,e1];rfl)) ?_;lk;refine ⟨ra,R a,a,b,rfl,c6.of (S12 _ _ e2),by lia,hm,hm',λu x y H3 S3 hu hx hy hxy gu gx gy=>?_⟩;have S13:=S12.trans S3;have W3:=W.same S13;have hxl:x≠l:=Ne.symm (aQ W2.rl hx);have hyl:y≠l:=Ne.symm (aQ W2.rl hy);have hul:u≠l:=Ne.symm (aQ W2.rl hu)
 have jin:∀ z,z∈R a->∃ j:Nat,j<n/\z=(j:Int):=λz hz=>let ⟨j,hj,e,_⟩:=D.Kr a ha z hz;⟨j,hj,e⟩
 have ectR:∀ i:Nat,Rm.ct R a b i=if (i:Int)∈(xE (R a) a b).2 then (xE (R a) a b).2 else if (i:Int)∈(xE (R a) a b).1 then (xE (R a) a b).1 else R i:=λ_=>rfl
 generalize (xE (R a) a b).1=X at P PM gx ectR;generalize (xE (R a) a b).2=Y at P PM gy ectR;lk
 refine .inr (.inl ⟨⟨_,jZ.of gu⟩,SC (K:=K) (a:=u) (xs:=[.ref x,.ref y]) (λi Z H4=>∃ (as1:List af) (o:Option V),Z=[some (.ref p),some (.int (a:Int)),some (.int (b:Int)),o]/\as1.length=n/\H4 l=some (.lst (as1.map V.ref))/\bq l H3 H4 /\
  ∀ (j:Nat) (c:af),as[j]?=some c->as1[j]?=some (if 2<=i/\(j:Int)∈Y then y else if 1<=i/\(j:Int)∈X then x else c)) ⟨as,_,rfl,W.len,W3.rl,bq.refl _ _,λj c h=>by rw [if_neg (λz=>by lia),if_neg (λz=>by lia)];exact h⟩ ?_ ?_ ?_⟩)
 ·rintro i Z H4 _ ⟨_,_,_,_,_,B,_⟩;exact jZ.of (B _ _ gu hul)
 ·rintro i v Z H4 hi ⟨as1,o,rfl,hl1,g4,B,hA⟩
  obtain ⟨q,s,hql,gq,hs,ev,hif⟩:∃ (q:af) (s:List Int),q≠l/\H3 q=some (.lst (s.map V.int))/\(∀ z∈s,∃ j:Nat,j<n/\z=(j:Int))/\v=.ref q/\(∀ (j:Nat) (c:af),(if (j:Int)∈s then q else if 2<=i/\(j:Int)∈Y then y else if 1<=i/\(j:Int)∈X then x else c)=if 2<=i+1/\(j:Int)∈Y then y else if 1<=i+1/\(j:Int)∈X then x else c):=by
   rcases (show i=0\/i=1 by have:=(aC.mp hi).1;simp at this;lia) with rfl|rfl
   ·refine ⟨x,X,hxl,gx,λz hz=>jin z ((PM z).mpr (.inl hz)),by simpa using hi.symm,λj c=>?_⟩
    by_cases c1:(j:Int)∈X<;>simp [c1]
   ·refine ⟨y,Y,hyl,gy,λz hz=>jin z ((PM z).mpr (.inr hz)),by simpa using hi.symm,λj c=>?_⟩
    by_cases c2:(j:Int)∈Y<;>by_cases c1:(j:Int)∈X<;>simp [c1,c2]
  subst ev;k_in;refine ⟨p,dx,_,rfl,B _ _ W3.ob hpl,lR _ _,?_⟩;lk;refine ⟨p,dx,l,q,n,as1,s,rfl,ct,B _ _ W3.ob hpl,g4,hl1,B _ _ gq hql,hql,hs,λas2 H5 hl2 hA2 g5 B5=>?_⟩;refine ⟨as2,_,rfl,hl2,g5,λb' o' e hne=>B5 _ _ (B _ _ e hne) hne,λj c hc=>?_⟩;rw [hA2 j _ (hA j c hc),hif j c]
 ·rintro Z H4 ⟨as2,o,rfl,hl2,g4,B,hA⟩
  have hAt:∀ (i:Nat) (c:af),as2[i]?=some c->∃ c0,as[i]?=some c0/\c=if (i:Int)∈Y then y else if (i:Int)∈X then x else c0:=λi c hc=>by
   have hi:i<as.length:=by rw [W.len,← hl2];exact (aC.mp hc).1
   have:=hA i _ (ay hi);rw [hc] at this;refine ⟨_,ay hi,(aY this).trans ?_⟩
   show (if 2<=2/\(i:Int)∈Y then y else if 1<=2/\(i:Int)∈X then x else as[i])=_
   simp
  refine k as2 H4 ⟨B _ _ W3.ob hpl,g4,hl2,λi c hc=>?_,λc hc=>?_⟩ (λb' o' e hne=>B _ _ (S13 _ _ e) hne)
  ·obtain ⟨c0,h0,ec⟩:=hAt i c hc;rw [ectR]
   by_cases c2:(i:Int)∈Y
   ·rw [if_pos c2] at ec ⊢;rw [ec];exact B _ _ gy hyl
   ·rw [if_neg c2] at ec ⊢
    by_cases c1:(i:Int)∈X
    ·rw [if_pos c1] at ec ⊢;rw [ec];exact B _ _ gx hxl
    ·rw [if_neg c1] at ec ⊢;rw [ec];exact B _ _ (W3.at_ i c0 h0) (W.ne _ (aR h0))
  ·obtain ⟨i,hi⟩:=bJ.mp hc;obtain ⟨c0,h0,ec⟩:=hAt i c hi
   by_cases c2:(i:Int)∈Y
   ·rw [if_pos c2] at ec;rw [ec];exact hyl
   ·rw [if_neg c2] at ec
    by_cases c1:(i:Int)∈X
    ·rw [if_pos c1] at ec;rw [ec];exact hxl
    ·rw [if_neg c1] at ec;rw [ec];exact W.ne _ (aR h0)
inductive jV (K:aa) (C:af) (vs:List V) (H:Hp) (Q:VK) (E:XK):Prop
 | mk (p dx l:af) (n a:Nat) (as:List af) (R:Nat->List Int):vs=[.ref p,.int a]->CT K C->WA C H p dx l n as R->Wd n R->(R a).length<=125->a<n->(∀ q (ks:List Int),H q=none->ks.Pairwise (· < ·)->(∀ x,x∈ks↔x∈R a)->Q (.ref q) (upd H q (.lst (ks.map V.int))))->jV K C vs H Q E
def BZ:Rn (jV K C) (ui K C (cF K C)) yW:=by
 rintro vs H Q E ⟨p,dx,l,n,a,as,R,rfl,ct,W,D,hn,ha,k⟩;obtain ⟨ra,e1,e2,_⟩:=W.get ha;unfold ui;k_go;refine ⟨p,C,dx,_,_,rfl,W.ob,ct.cl,ct.n,yb _ _,?_⟩;lk;refine ⟨n,a,rfl,ha,?_⟩;lk;refine Oa ?_;k_go;refine ⟨p,C,dx,_,_,rfl,W.ob,ct.cl,ct.rows,iK _ _,?_⟩;lk;refine jU (c6.of W.rl) (d9 (j:=a) rfl (by rw [aB,e1];rfl)) ?_;lk;refine ⟨ra,R a,rfl,c6.of e2,by lia,?_,λq ks hq h1 h2=>k q ks hq h1 h2⟩;obtain ⟨ds,d1,d2,d3⟩:=(D.r a ha).cnt;exact ⟨ds,by lia,λx hx=>(d2 x).mpr hx⟩
inductive jC (K:aa) (C:af) (vs:List V) (H:Hp) (Q:VK) (E:XK):Prop
 | mk (p dx l:af) (n a:Nat) (as:List af) (R:Nat->List Int):vs=[.ref p,.int a]->CT K C->WA C H p dx l n as R->Wd n R->a<n->Q (.int ((((R a).length:Int)+1)/2)) H->jC K C vs H Q E
def DT:Rn (jC K C) (wA K C (cF K C)) yW:=by
 rintro vs H Q E ⟨p,dx,l,n,a,as,R,rfl,ct,W,D,ha,k⟩;obtain ⟨ra,e1,e2,_⟩:=W.get ha;unfold wA;k_go;refine ⟨p,C,dx,_,_,rfl,W.ob,ct.cl,ct.n,yb _ _,?_⟩;lk;refine ⟨n,a,rfl,ha,?_⟩;k_go;refine ⟨p,C,dx,_,_,rfl,W.ob,ct.cl,ct.rows,iK _ _,?_⟩;lk;refine jU (c6.of W.rl) (d9 (j:=a) rfl (by rw [aB,e1];rfl)) ?_;lk;refine Qb (c6.of e2) ?_;lk;exact k
inductive fZ (K:aa) (C:af) (vs:List V) (H:Hp) (Q:VK) (E:XK):Prop
 | mk (n:Nat):vs=[.int n]->1<=n->n<=200->Q (.bl true) H->fZ K C vs H Q E
def GB:Rn (fZ K C) (zd K C (jq K C)) yX:=by
 rintro vs H Q E ⟨n,rfl,h1,h2,k⟩;unfold zd;lk;refine ⟨n,rfl,?_⟩;lk;refine lD ?_;lk;refine tI (λh=>?_) λh=>absurd (show (1:Int)<=n by lia) h;lk;rw [show decide ((n:Int)<=200)=true from decide_eq_true (by lia)];exact k
def Top (n:Int) (j:Nat):Prop:=(j=0\/2*(2:Int)^j<=n)/\n<4*(2:Int)^j
def pX (K:aa) (C:af):Sp:=λvs H Q _=>∃ n:Int,vs=[.int n]/\∀ j:Nat,Top n j->Q (.int j) H
def Jt (j:Nat):(0:Int)<2^j:=Int.pow_pos (by decide)
def TV:Rn (pX K C) (QY K C) ["n","level","needed"]:=by
 rintro vs H Q E ⟨n,rfl,k⟩;unfold QY;lk;unfold Jj;refine Be (λZ H'=>H'=H/\∃ j:Nat,Z=[some (.int n),some (.int j),some (.int (4*2^j))]/\(j=0\/2*(2:Int)^j<=n)) (λZ _=>match Z with|[_,_,some (.int p)]=>(n+1-p).toNat|_=>0) ⟨rfl,0,rfl,.inl rfl⟩ ?_;rintro Z H' ⟨rfl,j,rfl,hj⟩;have hp:=Jt j;lk;refine tI (λh=>⟨_,PR,?_⟩) λh=>?_
 ·lk;refine ⟨⟨rfl,j+1,?_,.inr ?_⟩,?_⟩
  ·have e:(4*2^j*2:Int)=4*2^(j+1):=by rw [Dj];lia
   show [some (V.int n),some (V.int ((j:Int)+1)),some (V.int (4*2^j*2))]=_
   rw [e];rfl
  ·rw [Dj];lia
  ·show (n+1-4*2^j*2).toNat<(n+1-4*2^j).toNat
   lia
 ·lk;exact k j ⟨hj,by lia⟩
inductive kx (K:aa) (C:af) (vs:List V) (H:Hp) (Q:VK) (E:XK):Prop
 | mk (a b:Nat):vs=[.int a,.int b]->(∀ p,H p=none->Q (.ref p) (upd H p (.tup [.int (min a b:Nat),.int (max a b:Nat)])))->kx K C vs H Q E
def Lu:Rn (kx K C) (Fw K C) ["a","b"]:=by
 rintro vs H Q E ⟨a,b,rfl,k⟩;unfold Fw;lk;refine tI (λh=>?_) λh=>?_
 ·rw [show min a b=a by lia,show max a b=b by lia] at k;lk;exact ⟨bI (m:=2) (av 2),k⟩
 ·rw [show min a b=b by lia,show max a b=a by lia] at k;lk;exact ⟨bI (m:=2) (av 2),k⟩
abbrev pk (x y:Nat):List iA:=[du (x:Int),du (y:Int)]
inductive nj (K:aa) (C:af) (vs:List V) (H:Hp) (Q:VK) (E:XK):Prop
 | mk (n a b:Nat) (d:af) (kvs:List (List iA×V)):vs=[.int n,.ref d,.int a,.int b]->a<n->b<n->a≠b->H d=some (.dT kvs)->kB kvs (pk (min a b) (max a b))=none->(∀ p,H p=none->Q (.ref p) (upd H p (.tup [.int (min a b:Nat),.int (max a b:Nat)])))->nj K C vs H Q E
def Ju:Rn (nj K C) (BV K C (b8 K C) (kx K C)) MY:=by
 rintro vs H Q E ⟨n,a,b,d,kvs,rfl,ha,hb,hab,hd,hk,k⟩;unfold BV;lk;refine ⟨n,a,b,rfl,ha,hb,hab,?_⟩;lk;refine ⟨a,b,rfl,λp hp=>?_⟩;lk
 have gd:(upd H p (.tup [.int (min a b:Nat),.int (max a b:Nat)])) d=some (.dT kvs):=by rw [aH (aQ hd hp)];exact hd
 refine .inr ⟨d,_,rfl,Aj.t (k:=pk (min a b) (max a b)) gd aF,?_⟩;rw [hk];lk;rw [if_neg (by simp)];lk;exact k p hp
inductive eG (K:aa) (C:af) (vs:List V) (H:Hp) (Q:VK) (E:XK):Prop
 | mk (n a b:Nat) (d:af) (kvs:List (List iA×V)):vs=[.int n,.ref d,.int a,.int b]->a<n->b<n->a≠b->H d=some (.dT kvs)->(kB kvs (pk (min a b) (max a b))).isSome=true->(∀ p,H p=none->Q (.ref p) (upd H p (.tup [.int (min a b:Nat),.int (max a b:Nat)])))->eG K C vs H Q E
def yc:Rn (eG K C) (qj K C (b8 K C) (kx K C)) MY:=by
 rintro vs H Q E ⟨n,a,b,d,kvs,rfl,ha,hb,hab,hd,hk,k⟩;unfold qj;lk;refine ⟨n,a,b,rfl,ha,hb,hab,?_⟩;lk;refine ⟨a,b,rfl,λp hp=>?_⟩;lk
 have gd:(upd H p (.tup [.int (min a b:Nat),.int (max a b:Nat)])) d=some (.dT kvs):=by rw [aH (aQ hd hp)];exact hd
 refine .inr ⟨d,_,rfl,Aj.t (k:=pk (min a b) (max a b)) gd aF,?_⟩;rw [hk];lk;refine iX ?_;lk;exact k p hp
def kf (f:Ti->V) (ts:List Ti):List (List iA×V):=ts.map λt=>(pk t.x t.y,f t)
abbrev kl:List Ti->List (List iA×V):=kf λt=>.int t.cS
abbrev kw:List Ti->List (List iA×V):=kf λt=>.bl t.wd
abbrev kv:List Ti->List (List iA×V):=kf λ_=>.int 0
def B7 {x y u v:Nat}:pk x y=pk u v↔((x:Int),(y:Int))=((u:Int),(v:Int)):=by
 constructor
 ·intro h;obtain ⟨h1,h2⟩:=iz h;rw [Mm h1,Mm (iz h2).1]
 ·intro h;obtain ⟨h1,h2⟩:=cg h
  show [du (x:Int),du (y:Int)]=_
  rw [h1,h2]
section
variable {f:Ti->V}{g:Ti->Ti}{t:Ti}
def ir (hn:(ts.map Ti.key).Nodup) (ht:t∈ts):kB (kf f ts) (pk t.x t.y)=some (f t):=by
 induction ts with
 | nil=>nomatch ht
 | cons s ts ih =>
  rw [b0,br] at hn
  by_cases e:pk s.x s.y=pk t.x t.y
  ·have:s=t:=by
    rcases au.mp ht with q|q
    ·exact q.symm
    ·have e':t.key=s.key:=(B7.mp e).symm;exact absurd (e'▸aZ q) hn.1
   subst this;exact qT (p:=(pk s.x s.y,f s)) rfl
  ·refine (oN (p:=(pk s.x s.y,f s)) e).trans (ih hn.2 ?_);exact (au.mp ht).resolve_left λq=>e (q▸rfl)
def AA {x y:Nat}(h:((x:Int),(y:Int))∉ts.map Ti.key):kB (kf f ts) (pk x y)=none:=by
 induction ts with
 | nil=>rfl
 | cons s ts ih =>
  rw [b0,au] at h;exact (oN (p:=(pk s.x s.y,f s)) λe=>h (.inl (B7.mp e).symm)).trans (ih λq=>h (.inr q))
def Q6 (hn:(ts.map Ti.key).Nodup) (ht:t∈ts) (hg:∀ t,(g t).key=t.key):tG (kf f ts) (pk t.x t.y) (f (g t))=kf f (gQ ts t.key g):=by
 unfold tG
 have hm:((kf f ts).any λkv=>decide (kv.1=pk t.x t.y))=true:=by rw [vI,ir hn ht];rfl
 rw [if_pos hm];unfold kf gQ;rw [bo,bo];refine eE λu hu=>?_
 show (if pk u.x u.y=pk t.x t.y then (pk u.x u.y,f (g t)) else (pk u.x u.y,f u))=(pk (if u.key=t.key then g u else u).x (if u.key=t.key then g u else u).y,f (if u.key=t.key then g u else u))
 by_cases c:u.key=t.key
 ·rw [if_pos c,if_pos (B7.mpr c),mi hn hu ht c];obtain ⟨e1,e2⟩:=Ti.Ht (hg t);rw [e1,e2]
 ·rw [if_neg c,if_neg λe=>c (B7.mp e)]
def AB (hg:∀ t,(g t).key=t.key) (hf:∀ t,f (g t)=f t) (k:Int×Int):kf f (gQ ts k g)=kf f ts:=by
 unfold kf gQ;rw [bo];refine eE λu hu=>?_
 show (pk (if u.key=k then g u else u).x (if u.key=k then g u else u).y,f (if u.key=k then g u else u))=_
 by_cases c:u.key=k
 ·obtain ⟨e1,e2⟩:=Ti.Ht (hg u);rw [if_pos c,e1,e2,hf]
 ·rw [if_neg c]
def AC:nQ (kf f ts) (pk t.x t.y)=kf f (ts.filter λu=>decide (u.key≠t.key)):=by
 unfold nQ kf;rw [FM]
 congr 1
 refine List.filter_congr λu _=>?_;exact decide_eq_decide.mpr (not_congr B7)
def lI:(kf f ts).length=ts.length:=ag _
end
abbrev ow (Pt:af) (H:Hp):Prop:=qE Pt ⟨119,28,119,61⟩ ((("in_order":bj)++".<locals>.")++"<lambda>") H
inductive l6 (K:aa) (C:af) (Pt:af) (vs:List V) (H:Hp) (Q:VK) (E:XK):Prop
 | mk (p d:af) (zs:List Zn) (OZ:List (List iA×V)):vs=[.ref p,.ref d]->H p=some (.lst (zs.map lF))->H d=some (.dT OZ)->(∀ z∈zs,∃ w x y:Int,z.1=[w,x,y]/\H z.2=some (.tup [.int x,.int y])/\kB OZ [du x,du y]=some (.int w))->zs.length<99->ow Pt H->(∀ (l:af) (zs':List Zn) (H2:Hp),H2 l=none->pD Pt H H2->ow Pt H2->zs'.Perm zs->Q (.ref l) (upd H2 l (.lst (zs'.map lF))))->l6 K C Pt vs H Q E
def GC:Rn (l6 K C Pt) (nY K C Pt) Fj:=by
 rintro vs H Q E ⟨p,d,zs,OZ,rfl,hp,hd,hkv,hl,hT,k⟩;unfold nY;lk;unfold Lb;lk;exact ⟨p,d,zs,OZ,rfl,hp,rfl,hd,hkv,by lia,hT,λl zs' H2 h1 h2 h3 h4 _=>k l zs' H2 h1 h2 h3 h4⟩
def ew (x y:Int) (S:List Int):Nat:=(if x∈S then 1 else 0)+(if y∈S then 1 else 0)
def any_ints (S:List Int) (x:Int):((S.map FJ).any λe=>cM e (.int x))=decide (x∈S):=by
 rw [ND,iD,Du,decide_eq_true_iff]
 constructor
 ·rintro ⟨y,hy,e⟩
  have:y=x:=by simpa [cM] using e
  exact this▸hy
 ·intro h;exact ⟨x,h,by simp [cM]⟩
inductive dE (K:aa) (C:af) (vs:List V) (H:Hp) (Q:VK) (E:XK):Prop
 | mk (t s:af) (x y:Int) (S:List Int):vs=[.ref t,.ref s]->H t=some (.tup [.int x,.int y])->H s=some (.lst (S.map V.int))->(∀ H',bN H H'->Q (.int (ew x y S)) H')->dE K C vs H Q E
def zT:Rn (dE K C) (rD K C) M5:=by
 rintro vs H Q E ⟨t,s,x,y,S,rfl,ht,hs,k⟩;unfold rD;lk;refine .inr (.inl ⟨⟨_,jZ.of ht⟩,λacc hacc=>?_⟩);refine mF (n:=2) (λi ys H'=>ys=(([x,y].take i).filter λz=>decide (z∈S)).map V.int/\H' acc=some (.lst ys)/\bN H H') (λZ=>∃ o,Z=[o,some (.ref s)]) ⟨by simp,aF,bN.cK hacc⟩ ⟨_,rfl⟩ ?_ ?_ ?_ ?_
 ·rintro i ys H' ⟨_,h,_⟩;exact h
 ·rintro ys H' ⟨rfl,h,S'⟩;refine ⟨⟨_,S'.Xk (jZ.of ht),av _⟩,?_⟩;lk;refine pR (c6.of h) ?_
  have e:((([x,y].take 2).filter λz=>decide (z∈S)).map V.int).length=ew x y S:=by
   unfold ew
   by_cases c1:x∈S<;>by_cases c2:y∈S<;>simp [c1,c2]
  rw [e];exact k H' S'
 ·rintro i ys H' hi ⟨e,h,S'⟩;exact ⟨_,_,S'.Xk (jZ.of ht),ay hi⟩
 ·rintro i ys σ' H' v H2 hi ⟨rfl,h,S'⟩ ⟨o,rfl⟩ ⟨e2,hx⟩;subst e2;have hxi:=hx _ (S'.Xk (jZ.of ht))
  obtain ⟨a,ha⟩:∃ a,[x,y][i]?=some a:=⟨_,ay (by simpa using hi)⟩
  have et:[x,y].take (i+1)=[x,y].take i++[a]:=by rw [dP,ha];rfl
  have ev:v=.int a:=by
   have:([x,y].map V.int)[i]?=some v:=hxi;rw [aB,ha] at this;exact (aY this).symm
  subst ev;lk;refine Yy (Rep.int a) (Bj (c6.of (S' _ _ hs))) ⟨rfl,by simp [lz]⟩ (fc _ (pT S)) ?_;rw [any_ints];lk;refine tI (λc=>?_) λc=>?_
  ·lk;refine ⟨h,eP (m:=10) (by rw [ag];exact bf (cw _ _) (by rw [bK];lia)),ky.mk' hi ⟨_,rfl⟩ ⟨?_,aF,λb o q=>by rw [aH (aQ q hacc)];exact S' _ _ q⟩⟩;rw [et,cU,aP];simp [c]
  ·refine ky.mk' hi ⟨_,rfl⟩ ⟨?_,h,S'⟩;rw [et,cU,aP];simp [c]
inductive jD (K:aa) (C:af) (vs:List V) (H:Hp) (Q:VK) (E:XK):Prop
 | mk (n:Int) (p q:af) (x y l:Int) (b:Bool):vs=[.int n,.ref p]->H p=some (.lst [.ref q])->H q=some (.tup [.int x,.int y,.int l,.bl b])->(∀ (c:Int) H',bN H H'->Q (.int c) H')->jD K C vs H Q E
def Lx:Rn (jD K C) (Fx K C (pX K C)) ["n","ties"]:=by
 rintro vs H Q E ⟨n,p,q,x,y,l,b,rfl,hp,hq,k⟩;unfold Fx;lk;refine .inl ⟨⟨_,c6.of hp⟩,λacc hacc=>?_⟩;refine Qc (λi y _=>∃ c:Int,y=.int c) (λZ=>∃ o o1 o2 o3,Z=[o,o1,o2,o3,some (.int n)]) (c6.of hp) hacc ⟨_,_,_,_,rfl⟩ (by simp) (λi y H2 H3 ws _ _ e=>e) (λi v σ' H2 G hi hx S2 hS done=>?_) λys H2 hly gy S2 hE=>?_
 ·obtain ⟨o,o1,o2,o3,rfl⟩:=hS
  have ev:v=.ref q:=by
   match i,hx with
   | 0,hx=>exact (aY hx).symm
  subst ev;refine Bg (.of (S2 _ _ hq)) rfl ?_;lk;refine ⟨n,rfl,λj hj=>?_⟩;lk;exact done _ _ _ ⟨_,_,_,_,rfl⟩ (λ_ _ e=>e) ⟨_,rfl⟩
 ·have ⟨cs,ec⟩:∃ cs:List Int,ys=cs.map V.int:=by
   match ys,hly with
   | [v],_ =>
    obtain ⟨c,rfl⟩:=hE 0 v rfl;exact ⟨[c],rfl⟩
  subst ec;lk;exact ⟨acc,cs,rfl,c6.of gy,k _ H2 S2⟩
structure Tt where
 (p s q:af) (lv:Int) (xs:List V) (f:V)
def ph (t:Tt):V:=.ref t.p
def C9 (H:Hp) (t:Tt):Prop:=H t.p=some (.tup [.int t.lv,.ref t.s,.ref t.q,t.f])/\H t.q=some (.lst t.xs)
def C9.same {t:Tt}(h:C9 H t) (S:bN H H'):C9 H' t:=⟨S _ _ h.1,S _ _ h.2⟩
inductive iJ (K:aa) (C:af) (vs:List V) (H:Hp) (Q:VK) (E:XK):Prop
 | mk (a:af) (ts:List Tt):vs=[.ref a]->H a=some (.lst (ts.map ph))->(∀ t∈ts,C9 H t)->ts.length<=1000->(∀ (c:Int) H',bN H H'->Q (.int c) H')->iJ K C vs H Q E
def Oh:Rn (iJ K C) (Jk K C) ["trail"]:=by
 rintro vs H Q E ⟨a,ts,rfl,ha,hR,hl,q⟩;unfold Jk;lk;refine .inl ⟨⟨_,c6.of ha⟩,λacc hacc=>?_⟩;refine vO (K:=K) (z:=a) (xs:=ts.map ph) ts (λ_=>true) (λt=>.int (t.xs.length:Int)) (λZ=>∃ o o1 o2 o3,Z=[o,o1,o2,o3]) (by simp) (c6.of ha) hacc ⟨_,_,_,_,rfl⟩ (by rw [ag];lia) ?_ ?_
 ·rintro i t x σ' H' G G' ht hx S' ⟨o,o1,o2,o3,rfl⟩ g1 g2
  have ex:x=ph t:=by rw [aB,ht] at hx;exact (aY hx).symm
  subst ex;have ok:=(hR t (aR ht)).same S';refine Bg (.of ok.1) rfl ?_;lk;refine lD ?_;lk;refine pR (c6.of ok.2) ?_;exact g1 rfl _ ⟨_,_,_,_,rfl⟩
 ·rintro H' S' hH;lk
  have e:(ts.filter λ_=>true).map (λt=>V.int (t.xs.length:Int))=(ts.map λt=>(t.xs.length:Int)).map V.int:=by rw [bo,xM.mpr (λ_ _=>rfl)];rfl
  rw [e] at hH;exact ⟨acc,_,rfl,c6.of hH,q _ H' S'⟩
inductive kN (K:aa) (C:af) (vs:List V) (H:Hp) (Q:VK) (E:XK):Prop
 | mk (a:af) (ts:List Tt):vs=[.ref a]->H a=some (.lst (ts.map ph))->(∀ t∈ts,C9 H t)->ts.length<=1000->(∀ (c:Int) H',bN H H'->Q (.int c) H')->kN K C vs H Q E
def Oi:Rn (kN K C) (Jl K C (iJ K C)) ["trail","finds"]:=by
 rintro vs H Q E ⟨a,ts,rfl,ha,hR,hl,q⟩;unfold Jl;lk;refine .inl ⟨⟨_,c6.of ha⟩,λacc hacc=>?_⟩;refine vO (K:=K) (z:=a) (xs:=ts.map ph) ts (λt=>!decide (t.f=.non)) (λt=>t.f) (λZ=>∃ o o1 o2 o3,Z=[o,o1,o2,o3]) (by simp) (c6.of ha) hacc ⟨_,_,_,_,rfl⟩ (by rw [ag];lia) ?_ ?_
 ·rintro i t x σ' H' G G' ht hx S' ⟨o,o1,o2,o3,rfl⟩ g1 g2
  have ex:x=ph t:=by rw [aB,ht] at hx;exact (aY hx).symm
  subst ex;have ok:=(hR t (aR ht)).same S';refine Bg (.of ok.1) rfl ?_;lk
  cases hf:(!decide (t.f=V.non)) with
  | true =>
   refine lD ?_;lk
   exact g1 hf _ ⟨_,_,_,_,rfl⟩
  | false =>
   refine iX ?_;exact g2 hf _ ⟨_,_,_,_,rfl⟩
 ·rintro H' S' hH;lk;refine ⟨_,.inl ⟨_,c6.of hH,rfl⟩,?_⟩;generalize (!((ts.filter λt=>!decide (t.f=V.non)).map λt=>t.f).isEmpty)=bb
  cases bb with
  | true =>
   refine lD ?_;lk;refine ⟨a,ts,rfl,S' _ _ ha,λt ht=>(hR t ht).same S',hl,λc H2 S2=>?_⟩;lk
   exact q _ _ (S'.trans S2)
  | false =>
   refine iX ?_;lk;exact ⟨a,ts,rfl,S' _ _ ha,λt ht=>(hR t ht).same S',hl,λc H2 S2=>q _ _ (S'.trans S2)⟩
def d5 {f g:bj}{v x:V}{r:List (bj×V)}(h:¬ g=f):dW f v ((g,x)::r)=(g,x)::dW f v r:=by show (if g=f then _ else _)=_;rw [if_neg h]
def wF {f:bj}{v x:V}{r:List (bj×V)}:dW f v ((f,x)::r)=(f,v)::r:=by show (if f=f then _ else _)=_;rw [if_pos rfl]
def uo {f:bj}{x:V}{r:List (bj×V)}:dN f ((f,x)::r)=some x:=by rw [cJ,beq_self_eq_true]
def fM {f g:bj}{x:V}{r:List (bj×V)}(h:¬ g=f):dN g ((f,x)::r)=dN g r:=by
 rw [cJ]
 have:(g == f)=false:=by simpa using h
 rw [this]
structure AD (K:aa) (C:af) (A:CA):Prop where
 w:CT K C
 lc:Dm K A.bG
 l1:dM K A.bG "level_of"
 l2:dM K A.bG "wooden"
 l3:dM K A.bG "weight_of"
 l4:dM K A.bG "woods"
 kc:Dm K A.Keeper
 k1:dM K A.Keeper "n"
 k2:dM K A.Keeper "levels"
 k3:dM K A.Keeper "wood"
 k4:dM K A.Keeper "came"
 k5:dM K A.Keeper "looked"
 k6:dM K A.Keeper "risen"
 k7:dM K A.Keeper "lost"
def fL (d1 d2 d3 L:af):List (bj×V):=[("level_of",.ref d1),("wooden",.ref d2),("weight_of",.ref d3),("woods",.ref L)]
def OY {d1 d2 d3 L:af}:(fL d1 d2 d3 L).lookup ("level_of":bj)=some (.ref d1):=uo
def TX {d1 d2 d3 L:af}:(fL d1 d2 d3 L).lookup ("wooden":bj)=some (.ref d2):=by unfold fL;rw [fM (by decide +kernel)];exact uo
def fL3 {d1 d2 d3 L:af}:(fL d1 d2 d3 L).lookup ("weight_of":bj)=some (.ref d3):=by unfold fL;rw [fM (by decide +kernel),fM (by decide +kernel)];exact uo
def Vp {d1 d2 d3 L:af}:(fL d1 d2 d3 L).lookup ("woods":bj)=some (.ref L):=by unfold fL;rw [fM (by decide +kernel),fM (by decide +kernel),fM (by decide +kernel)];exact uo
def Vq {d1 d2 d3 L:af}{m:bj}(h1:¬ m="level_of":=by decide +kernel) (h2:¬ m="wooden":=by decide +kernel) (h3:¬ m="weight_of":=by decide +kernel) (h4:¬ m="woods":=by decide +kernel):(fL d1 d2 d3 L).lookup m=none:=by unfold fL;rw [fM h1,fM h2,fM h3,fM h4];rfl
structure AL where
 (q dq d1 d2 d3 L:af) (ws:List (af×af×af))
variable {a:AL}
def fp (a:AL):List af:=a.d1::a.d2::a.d3::a.ws.map (·.2.2)
def Fm (X:List af) (H H':Hp):Prop:=∀ b o,b∉X->H b=some o->H' b=some o
def Fm.refl {X:List af}:Fm X H H:=λ_ _ _ e=>e
def Fm.trans {X:List af}{H1 H2:Hp}(x:Fm X H H1) (y:Fm X H1 H2):Fm X H H2:=λb o h e=>y b o h (x b o h e)
def Fm.of {X:List af}(S:bN H H'):Fm X H H':=λb o _ e=>S b o e
def Fm.but {X:List af}{c:af}(hc:c∈X) (S:bq c H H'):Fm X H H':=λb o h e=>S b o e λz=>h (z▸hc)
def Fm.upd {X:List af}{c:af}{o:HO}(hc:c∈X):Fm X H (upd H c o):=Fm.but hc bq.upd
def Fm.mono {X Y:List af}(S:Fm X H H') (h:∀ b∈X,b∈Y):Fm Y H H':=λb o hb e=>S b o (λz=>hb (h b z)) e
def Fm.tail {X:List af}{c:af}(S:Fm X H H'):Fm (c::X) H H':=S.mono λ_=>aj _
def Fm.free {X:List af}(S:Fm X H H') {b:af}(h:b∉X) (e:H' b=none):H b=none:=by
 cases z:H b with
 | none=>rfl
 | some o=>rw [S b o h z] at e;cases e
structure LV (C:af) (A:CA) (H:Hp) (a:AL) (n T:Nat) (ts:List Ti) (as:Nat->List af) (R:Nat->Nat->List Int):Prop where
 ob:H a.q=some (.ins A.bG a.dq (fL a.d1 a.d2 a.d3 a.L))
 e1:H a.d1=some (.dT (kl ts))
 e2:H a.d2=some (.dT (kw ts))
 e3:H a.d3=some (.dT (kv ts))
 ls:H a.L=some (.lst (a.ws.map λw=>.ref w.1))
 len:a.ws.length=T+1
 wa:∀ (i:Nat) w,a.ws[i]?=some w->WA C H w.1 w.2.1 w.2.2 n (as i) (R i)
 wd:∀ i,i<=T->Wd n (R i)
 n1:1<=n
 Ot:a.d1≠a.d2
 RR:a.d1≠a.d3
 Sb:a.d2≠a.d3
 nl:(a.ws.map (·.2.2)).Nodup
 nL:∀ w∈a.ws,a.L≠w.2.2
section
variable {ts':List Ti}
def LV.at (h:LV C A H a n T ts as R) {w:af×af×af}(hw:w∈a.ws):∃ i,i<=T/\a.ws[i]?=some w:=by
 obtain ⟨i,hi⟩:=bJ.mp hw;have:=(aC.mp hi).1;rw [h.len] at this;exact ⟨i,by lia,hi⟩
def LV.get (h:LV C A H a n T ts as R) {i:Nat}(hi:i<=T):∃ w,a.ws[i]?=some w/\w∈a.ws:=by
 have hl:i<a.ws.length:=by rw [h.len];lia
 exact ⟨_,ay hl,hZ hl⟩
def LV.rows (h:LV C A H a n T ts as R) {w:af×af×af}(hw:w∈a.ws):∃ bs:List af,bs.length=n/\H w.2.2=some (.lst (bs.map V.ref)):=by
 obtain ⟨i,_,hi⟩:=h.at hw;exact ⟨_,(h.wa i w hi).len,(h.wa i w hi).rl⟩
def LV.kind (h:LV C A H a n T ts as R) {b:af}(hb:b∈fp a):(∃ ks,H b=some (.dT ks))\/∃ bs:List af,bs.length=n/\H b=some (.lst (bs.map V.ref)):=by
 unfold fp at hb;simp only [au,aT] at hb
 rcases hb with rfl|rfl|rfl|⟨w,hw,rfl⟩
 ·exact .inl ⟨_,h.e1⟩
 ·exact .inl ⟨_,h.e2⟩
 ·exact .inl ⟨_,h.e3⟩
 ·exact .inr (h.rows hw)
def LV.out (h:LV C A H a n T ts as R) {b:af}{o:HO}(e:H b=some o) (h1:∀ ks,o≠.dT ks) (h2:∀ bs:List af,bs.length=n->o≠.lst (bs.map V.ref)):b∉fp a:=λhb=>by
 rcases h.kind hb with ⟨ks,q⟩|⟨bs,hl,q⟩
 ·rw [e] at q;exact h1 ks (aY q)
 ·rw [e] at q;exact h2 bs hl (aY q)
def LV.sI (h:LV C A H a n T ts as R) {b:af}{xs:List V}(e:H b=some (.tup xs)):b∉fp a:=h.out e (λ_ z=>nomatch z) (λ_ _ z=>nomatch z)
def LV.outI (h:LV C A H a n T ts as R) {b x y:af}{fs:List (bj×V)}(e:H b=some (.ins x y fs)):b∉fp a:=h.out e (λ_ z=>nomatch z) (λ_ _ z=>nomatch z)
def LV.Uh (h:LV C A H a n T ts as R) {b:af}{r:List Int}(e:H b=some (.lst (r.map V.int))):b∉fp a:=h.out e (λ_ z=>nomatch z) λbs hl z=>by
 have n1:=h.n1
 injection z with z
 match r,bs,hl with
 | [],c::bs,_=>cases z
 | x::r,c::bs,_=>cases (iz z).1
 | x::r,[],_=>cases z
 | [],[],hl=>rw [← hl] at n1;cases n1
def LV.sH (h:LV C A H a n T ts as R) {b:af}(e:H b=none):b∉fp a:=λhb=>by
 rcases h.kind hb with ⟨ks,q⟩|⟨bs,hl,q⟩<;>rw [e] at q<;>cases q
def LV.keep (h:LV C A H a n T ts as R) {X:List af}(S:Fm X H H') (hq:∀ x fs,H x=some fs->(∃ c d f,fs=.ins c d f/\f≠[])->(x=a.q\/∃ w∈a.ws,x=w.1)->x∉X) (hd:∀ b∈fp a,b∉X) (hL:a.L∉X) (hr:∀ (b:af) (r:List Int),r≠[]->H b=some (.lst (r.map V.int))->b∉X):LV C A H' a n T ts as R:=by
 have m1:a.d1∈fp a:=aw;have m2:a.d2∈fp a:=aj _ aw;have m3:a.d3∈fp a:=aj _ (aj _ aw);refine ⟨S _ _ (hq _ _ h.ob ⟨_,_,_,rfl,by simp [fL]⟩ (.inl rfl)) h.ob,S _ _ (hd _ m1) h.e1,S _ _ (hd _ m2) h.e2,S _ _ (hd _ m3) h.e3,S _ _ hL h.ls,h.len,λi w hw=>?_,h.wd,h.n1,h.Ot,h.RR,h.Sb,h.nl,h.nL⟩;have hm:=aR hw;have W:=h.wa i w hw
 have hi:i<=T:=by have:=(aC.mp hw).1;rw [h.len] at this;lia
 refine ⟨S _ _ (hq _ _ W.ob ⟨_,_,_,rfl,?_⟩ (.inr ⟨w,hm,rfl⟩)) W.ob,S _ _ (hd _ ?_) W.rl,W.len,λj c hc=>?_,W.ne⟩
 ·intro z;have:=yb n w.2.2;rw [z] at this;cases this
 ·exact aj _ (aj _ (aj _ (aZ hm)))
 ·have hj:j<n:=by rw [← W.len];exact (aC.mp hc).1
  exact S _ _ (hr _ _ ((h.wd i hi).r j hj).ne (W.at_ j c hc)) (W.at_ j c hc)
def LV.same (h:LV C A H a n T ts as R) (S:bN H H'):LV C A H' a n T ts as R:=h.keep (X:=[]) (λb o _ e=>S b o e) (λ_ _ _ _ _=>dw) (λ_ _=>dw) dw λ_ _ _ _=>dw
def LV.sets (h:LV C A H a n T ts as R) (B:Fm [a.d1,a.d2,a.d3] H H') (e1:H' a.d1=some (.dT (kl ts'))) (e2:H' a.d2=some (.dT (kw ts'))) (e3:H' a.d3=some (.dT (kv ts'))):LV C A H' a n T ts' as R:=by
 have ne:∀ {b:af}{o:HO},H b=some o->(∀ ks,o≠.dT ks)->H' b=some o:=λ{b o} e q=>B _ _ (λhb=>by
  simp only [au,dw,or_false] at hb
  rcases hb with rfl|rfl|rfl
  ·rw [h.e1] at e;cases e;exact q _ rfl
  ·rw [h.e2] at e;cases e;exact q _ rfl
  ·rw [h.e3] at e;cases e;exact q _ rfl) e
 exact ⟨ne h.ob (λ_ z=>nomatch z),e1,e2,e3,ne h.ls (λ_ z=>nomatch z),h.len,λi w hw=>⟨ne (h.wa i w hw).ob (λ_ z=>nomatch z),ne (h.wa i w hw).rl (λ_ z=>nomatch z),(h.wa i w hw).len,λj c hc=>ne ((h.wa i w hw).at_ j c hc) (λ_ z=>nomatch z),(h.wa i w hw).ne⟩,h.wd,h.n1,h.Ot,h.RR,h.Sb,h.nl,h.nL⟩
def LV.set1 (h:LV C A H a n T ts as R) (e2:kw ts'=kw ts) (e3:kv ts'=kv ts):LV C A (upd H a.d1 (.dT (kl ts'))) a n T ts' as R :=
 h.sets (Fm.upd aw) aF (by rw [aH h.Ot.symm,e2];exact h.e2) (by rw [aH h.RR.symm,e3];exact h.e3)
def LV.set2 (h:LV C A H a n T ts as R) (e1:kl ts'=kl ts) (e3:kv ts'=kv ts):LV C A (upd H a.d2 (.dT (kw ts'))) a n T ts' as R :=
 h.sets (Fm.upd (aj _ aw)) (by rw [aH h.Ot,e1];exact h.e1) aF (by rw [aH h.Sb.symm,e3];exact h.e3)
def LV.RJ (h:LV C A H a n T ts as R) {i:Nat}{w:af×af×af}{bs:List af}{R1:Nat->List Int}(hw:a.ws[i]?=some w) (W:WA C H' w.1 w.2.1 w.2.2 n bs R1) (D:Wd n R1) (B:bq w.2.2 H H') :
  LV C A H' a n T ts (λj=>if j=i then bs else as j) (λj=>if j=i then R1 else R j):=by
 have hm:=aR hw;obtain ⟨cs,hcl,hcs⟩:=h.rows hm
 have nt:∀ {b:af}{o:HO},H b=some o->(∀ xs,o≠.lst xs)->H' b=some o:=λ{b o} e q=>B _ _ e λz=>by rw [z,hcs] at e;cases e;exact q _ rfl
 refine ⟨nt h.ob (λ_ z=>nomatch z),nt h.e1 (λ_ z=>nomatch z),nt h.e2 (λ_ z=>nomatch z),nt h.e3 (λ_ z=>nomatch z),B _ _ h.ls (h.nL w hm),h.len,λj v hv=>?_,λj hj=>?_,h.n1,h.Ot,h.RR,h.Sb,h.nl,h.nL⟩
 ·by_cases c:j=i
  ·subst c;rw [hw] at hv;cases hv;simp only [if_pos];exact W
  ·simp only [if_neg c];have V:=h.wa j v hv
   have hjT:j<=T:=by have:=(aC.mp hv).1;rw [h.len] at this;lia
   have nvl:v.2.2≠w.2.2:=λe=>c ((List.getElem?_inj (by rw [ag];exact (aC.mp hv).1) h.nl).mp (by rw [aB,aB,hv,hw];simp [e]));refine ⟨nt V.ob (λ_ z=>nomatch z),B _ _ V.rl nvl,V.len,λx b hb=>B _ _ (V.at_ x b hb) λz=>?_,V.ne⟩
   have hx:x<n:=by rw [← V.len];exact (aC.mp hb).1
   have e:=V.at_ x b hb;rw [z] at e;exact h.Uh e (aj _ (aj _ (aj _ (aZ hm))))
 ·by_cases c:j=i
  ·simp only [if_pos c];exact D
  ·simp only [if_neg c];exact h.wd j hj
end
inductive dF (K:aa) (C:af) (A:CA) (vs:List V) (H:Hp) (Q:VK) (E:XK):Prop
 | mk (q dq d1 d2 d3 L t:af) (kl kw:List (List iA×V)) (x y:Int) (v1 v2:V):vs=[.ref q,.ref t]->AD K C A->H q=some (.ins A.bG dq (fL d1 d2 d3 L))->Rd H d1 (.dT kl)->Rd H d2 (.dT kw)->H t=some (.tup [.int x,.int y])->kB kl [du x,du y]=some v1->kB kw [du x,du y]=some v2->(∀ p,H p=none->Q (.ref p) (upd H p (.tup [.int x,.int y,v1,v2])))->dF K C A vs H Q E
def zU:Rn (dF K C A) (rM K C A) vX:=by
 rintro vs H Q E ⟨q,dq,d1,d2,d3,L,t,kl,kw,x,y,v1,v2,rfl,ct,hq,r1,r2,ht,h1,h2,k⟩;unfold rM;lk;refine fD (jZ.of ht) (d9 (j:=0) rfl rfl) ?_;lk;refine fD (jZ.of ht) (d9 (j:=1) rfl rfl) ?_;k_go;refine ⟨q,A.bG,dq,_,_,rfl,hq,ct.lc,ct.l1,OY,?_⟩;lk;refine .inr ⟨d1,v1,rfl,.inr ⟨kl,[du x,du y],t,r1,rfl,ht,h1.symm⟩,?_⟩;k_go;refine ⟨q,A.bG,dq,_,_,rfl,hq,ct.lc,ct.l2,TX,?_⟩;lk;refine .inr ⟨d2,v2,rfl,.inr ⟨kw,[du x,du y],t,r2,rfl,ht,h2.symm⟩,?_⟩;lk;exact ⟨bI (m:=4) (av 4),k⟩
def fp1:a.d1∈fp a:=aw
def fp2:a.d2∈fp a:=aj _ aw
def fp3:a.d3∈fp a:=aj _ (aj _ aw)
def fpw {w:af×af×af}(h:w∈a.ws):w.2.2∈fp a:=aj _ (aj _ (aj _ (aZ h)))
def Q7 {k:Int×Int}:kl (gQ ts k Ti.vv)=kl ts:=AB (g:=Ti.vv) (λ_=>rfl) (λ_=>rfl) k
def W4 {k:Int×Int}:kv (gQ ts k Ti.vv)=kv ts:=AB (g:=Ti.vv) (λ_=>rfl) (λ_=>rfl) k
def Vr {k:Int×Int}:kw (gQ ts k Ti.up)=kw ts:=AB (g:=Ti.up) (λ_=>rfl) (λ_=>rfl) k
def Y4 {k:Int×Int}:kv (gQ ts k Ti.up)=kv ts:=AB (g:=Ti.up) (λ_=>rfl) (λ_=>rfl) k
def LV.cast {R':Nat->Nat->List Int}(h:LV C A H a n T ts as R) (e:∀ j,R j=R' j):LV C A H a n T ts as R':=(funext e:R=R')▸h
structure Up (C:af) (A:CA) (a:AL) (n T:Nat) (ts:List Ti) (R:Nat->Nat->List Int) (f:(Nat->List Int)->Nat->List Int) (H:Hp) (i:Nat) (H1:Hp):Prop where
 ex:∃ as R',LV C A H1 a n T ts as R'/\∀ j,R' j=if j<i then f (R j) else R j
 fm:Fm (fp a) H H1
def Up.step {R':Nat->Nat->List Int}{f:(Nat->List Int)->Nat->List Int}{H1 H2:Hp}{i:Nat}{w:af×af×af}{bs:List af}(L:LV C A H1 a n T ts as R') (e:∀ j,R' j=if j<i then f (R j) else R j) (F:Fm (fp a) H H1)
  (hw:a.ws[i]?=some w) (W:WA C H2 w.1 w.2.1 w.2.2 n bs (f (R' i))) (D:Wd n (f (R' i))) (B:bq w.2.2 H1 H2):Up C A a n T ts R f H (i+1) H2:=by
 refine ⟨⟨_,_,L.RJ hw W D B,λj=>?_⟩,F.trans (Fm.but (fpw (aR hw)) B)⟩
 have ei:R' i=R i:=by rw [e,if_neg (eS i)]
 by_cases c:j=i
 ·subst c;rw [if_pos rfl,if_pos (km j),ei]
 ·rw [if_neg c,e]
  by_cases d:j<i
  ·rw [if_pos d,if_pos (by lia)]
  ·rw [if_neg d,if_neg (by lia)]
inductive cz (K:aa) (C:af) (A:CA) (vs:List V) (H:Hp) (Q:VK) (E:XK):Prop
 | mk (a:AL) (n T:Nat) (ts:List Ti) (as:Nat->List af) (R:Nat->Nat->List Int) (t:af) (u:Ti):vs=[.ref a.q,.ref t]->AD K C A->LV C A H a n T ts as R->n<=200->u∈ts->(ts.map Ti.key).Nodup->u.x<n->u.y<n->u.cS<=T->(∀ i,i<=u.cS->(u.y:Int)∉R i u.x)->H t=some (.tup [.int u.x,.int u.y])->ts.length<100->(∀ as' H',LV C A H' a n T (gQ ts u.key Ti.vv) as' (HS R u.cS u.x u.y)->Fm (fp a) H H'->Q .non H')->cz K C A vs H Q E
def yd:Rn (cz K C A) (qt K C A (fP K C)) ["self","tie","wood"]:=by
 rintro vs H Q E ⟨a,n,T,ts,as,R,t,u,rfl,ct,h,hn,hu,hnd,hx,hy,hl,hap,ht,hlen,k⟩;unfold qt;k_go;refine ⟨a.q,A.bG,a.dq,_,_,rfl,h.ob,ct.lc,ct.l2,TX,?_⟩;lk;refine .inr ⟨a.d2,_,rfl,Ai.t (k:=pk u.x u.y) h.e2 ht (eP (m:=100) (by rw [lI];exact hlen)),?_⟩;have e:=Q6 (f:=λt=>V.bl t.wd) (g:=Ti.vv) hnd hu (λ_=>rfl);rw [show (V.bl true)=(λt:Ti=>V.bl t.wd) u.vv from rfl,e];have h1:=h.set2 (ts':=gQ ts u.key Ti.vv) Q7 W4
 have ht1:(upd H a.d2 (.dT (kw (gQ ts u.key Ti.vv)))) t=some (.tup [.int u.x,.int u.y]):=by rw [aH (fX ht h.e2)];exact ht
 have S1:Fm (fp a) H (upd H a.d2 (.dT (kw (gQ ts u.key Ti.vv)))):=Fm.upd fp2
 have hl1:kB (kl (gQ ts u.key Ti.vv)) (pk u.x u.y)=some (.int u.cS):=by rw [Q7];exact ir hnd hu
 change (kM K C A _) _ _ (upd H a.d2 (.dT (kw (gQ ts u.key Ti.vv))));generalize upd H a.d2 (.dT (kw (gQ ts u.key Ti.vv)))=H1 at h1 ht1 S1;generalize gQ ts u.key Ti.vv=ts1 at h1 hl1 k;unfold kM;k_go;refine ⟨a.q,A.bG,a.dq,_,_,rfl,h1.ob,ct.lc,ct.l4,Vp,?_⟩;k_go;refine ⟨a.q,A.bG,a.dq,_,_,rfl,h1.ob,ct.lc,ct.l1,OY,?_⟩;lk;refine .inr ⟨a.d1,.int u.cS,rfl,.inr ⟨_,pk u.x u.y,t,.inl h1.e1,rfl,ht1,hl1.symm⟩,?_⟩;lk;refine E7 (c6.of h1.ls) λs hs=>?_;rw [uU (j:=u.cS+1) (by lia),← hJ];have S2:=bN.cK (o:=.lst ((a.ws.take (u.cS+1)).map λw=>V.ref w.1)) hs;have gs:(upd H1 s (.lst ((a.ws.take (u.cS+1)).map λw=>V.ref w.1))) s=some (.lst ((a.ws.take (u.cS+1)).map λw=>V.ref w.1)):=aF;have nsf:=h1.sH hs;generalize upd H1 s (.lst ((a.ws.take (u.cS+1)).map λw=>V.ref w.1))=H2 at S2 gs;have h2:=h1.same S2;have ht2:=S2 _ _ ht1
 have hlt:(a.ws.take (u.cS+1)).length=u.cS+1:=by rw [bK,h.len];lia
 refine ⟨s,rfl,?_⟩
 refine .inl ⟨⟨_,c6.of gs⟩,kH (K:=K) (a:=s) (xs:=(a.ws.take (u.cS+1)).map λw=>V.ref w.1)
  (λi Z H3=>Up C A a n T ts1 R (λr=>lk r u.x u.y) H2 i H3/\∃ o,Z=[some (.ref a.q),some (.ref t),o])
  ⟨⟨⟨as,R,h2,λj=>by rw [if_neg (by lia)]⟩,Fm.refl⟩,_,rfl⟩ ?_ ?_ ?_⟩
 ·rintro i Z H3 _ ⟨U,_⟩;exact c6.of (U.fm _ _ nsf gs)
 ·rintro i z Z H3 hi ⟨U,o,rfl⟩;rw [aB] at hi;obtain ⟨w,hw,rfl⟩:=bw.mp hi
  have hi:i<u.cS+1:=by rw [← hlt];exact (aC.mp hw).1
  rw [kU,if_pos hi] at hw;obtain ⟨as1,R1,L1,e1⟩:=U.ex;have W1:=L1.wa i w hw;have ht3:=U.fm _ _ (h2.sI ht2) ht2;k_in;refine ⟨w.1,w.2.1,_,rfl,W1.ob,lR _ _,?_⟩;lk;refine fD (jZ.of ht3) (d9 (j:=0) rfl rfl) ?_;lk;refine fD (jZ.of ht3) (d9 (j:=1) rfl rfl) ?_;lk
  have ei:R1 i=R i:=by rw [e1,if_neg (eS i)]
  have D1:=L1.wd i (by lia)
  have hap1:(u.y:Int)∉R1 i u.x:=by rw [ei];exact hap i (by lia)
  refine ⟨w.1,w.2.1,w.2.2,n,u.x,u.y,as1 i,R1 i,rfl,ct.w,W1,D1,hn,hx,hy,hap1,λbs H4 W' B'=>?_⟩;exact ⟨Up.step (f:=λr=>lk r u.x u.y) L1 e1 U.fm hw W' (D1.lk hx hy hap1) B',_,rfl⟩
 ·rintro Z H3 ⟨U,o,rfl⟩;rw [ag,hlt] at U;obtain ⟨as1,R1,L1,e1⟩:=U.ex;refine k as1 H3 (L1.cast λj=>?_) ((S1.trans (Fm.of S2)).trans U.fm);rw [e1]
  show _=if j<=u.cS then _ else _
  by_cases c:j<=u.cS
  ·rw [if_pos c,if_pos (by lia)]
  ·rw [if_neg c,if_neg (by lia)]
inductive dD (K:aa) (C:af) (A:CA) (vs:List V) (H:Hp) (Q:VK) (E:XK):Prop
 | mk (a:AL) (n T:Nat) (ts:List Ti) (as:Nat->List af) (R:Nat->Nat->List Int) (t:af) (u:Ti):vs=[.ref a.q,.ref t]->AD K C A->LV C A H a n T ts as R->n<=200->u∈ts->(ts.map Ti.key).Nodup->u.x<n->u.y<n->(u.wd=true->u.cS+1<=T/\(u.y:Int)∉R (u.cS+1) u.x)->H t=some (.tup [.int u.x,.int u.y])->ts.length<100->(∀ as' R' H',LV C A H' a n T (gQ ts u.key Ti.up) as' R'->(R'=if u.wd=true then YX R (u.cS+1) u.x u.y else R)->Fm (fp a) H H'->Q .non H')->dD K C A vs H Q E
def zV:Rn (dD K C A) (rK K C A (fP K C)) vX:=by
 rintro vs H Q E ⟨a,n,T,ts,as,R,t,u,rfl,ct,h,hn,hu,hnd,hx,hy,hap,ht,hlen,k⟩;unfold rK;k_go;refine ⟨a.q,A.bG,a.dq,_,_,rfl,h.ob,ct.lc,ct.l1,OY,?_⟩;lk;refine ⟨a.d1,.int u.cS,rfl,.inr ⟨_,pk u.x u.y,t,.inl h.e1,rfl,ht,(ir (f:=λt=>V.int t.cS) hnd hu).symm⟩,?_⟩;lk;refine ⟨u.cS,1,rfl,rfl,_,Ai.t (k:=pk u.x u.y) h.e1 ht (eP (m:=100) (by rw [lI];exact hlen)),?_⟩;have e:=Q6 (f:=λt=>V.int t.cS) (g:=Ti.up) hnd hu (λ_=>rfl);rw [show (V.int ((u.cS:Int)+1))=(λt:Ti=>V.int t.cS) u.up from rfl,e];have h1:=h.set1 (ts':=gQ ts u.key Ti.up) Vr Y4
 have ht1:(upd H a.d1 (.dT (kl (gQ ts u.key Ti.up)))) t=some (.tup [.int u.x,.int u.y]):=by rw [aH (fX ht h.e1)];exact ht
 have S1:Fm (fp a) H (upd H a.d1 (.dT (kl (gQ ts u.key Ti.up)))):=Fm.upd fp1
 have hw1:kB (kw (gQ ts u.key Ti.up)) (pk u.x u.y)=some (.bl u.wd):=by rw [Vr];exact ir hnd hu
 have hl1:kB (kl (gQ ts u.key Ti.up)) (pk u.x u.y)=some (.int ((u.cS+1:Nat):Int)):=by
  have:=ir (f:=λt=>V.int t.cS) (by rw [oP (f:=Ti.up) (λ_=>rfl)];exact hnd) ((kL (f:=Ti.up) hnd hu u.up).mpr (.inl rfl));exact this
 dsimp only;change (ie _ _ _) _ _ (upd H a.d1 (.dT (kl (gQ ts u.key Ti.up))));generalize upd H a.d1 (.dT (kl (gQ ts u.key Ti.up)))=H1 at h1 ht1 S1;generalize gQ ts u.key Ti.up=ts1 at h1 hl1 hw1 k;k_go;refine ⟨a.q,A.bG,a.dq,_,_,rfl,h1.ob,ct.lc,ct.l2,TX,?_⟩;lk;refine .inr ⟨a.d2,.bl u.wd,rfl,.inr ⟨_,pk u.x u.y,t,.inl h1.e2,rfl,ht1,hw1.symm⟩,?_⟩;refine ⟨_,rfl,?_⟩
 cases hw:u.wd with
 | false =>
  rw [hw] at k;refine iX ?_;lk
  exact k as R H1 h1 rfl S1
 | true =>
  rw [hw] at k;obtain ⟨hT,hap⟩:=hap hw;obtain ⟨w,hw1,hwm⟩:=h1.get hT;have W1:=h1.wa _ w hw1;have D1:=h1.wd _ hT;refine lD ?_;k_in;refine mv ?_;lk;refine ⟨a.q,A.bG,a.dq,_,_,rfl,h1.ob,ct.lc,ct.l4,Vp,?_⟩;k_go;refine ⟨a.q,A.bG,a.dq,_,_,rfl,h1.ob,ct.lc,ct.l1,OY,?_⟩;lk;refine .inr ⟨a.d1,.int ((u.cS+1:Nat):Int),rfl,.inr ⟨_,pk u.x u.y,t,.inl h1.e1,rfl,ht1,hl1.symm⟩,?_⟩;refine jU (c6.of h1.ls) (d9 (j:=u.cS+1) rfl (by rw [aB,hw1];rfl)) ?_;refine ⟨w.1,w.2.1,_,rfl,W1.ob,lR _ _,?_⟩;lk;refine fD (jZ.of ht1) (d9 (j:=0) rfl rfl) ?_;lk;refine fD (jZ.of ht1) (d9 (j:=1) rfl rfl) ?_;lk;refine ⟨w.1,w.2.1,w.2.2,n,u.x,u.y,as (u.cS+1),R (u.cS+1),rfl,ct.w,W1,D1,hn,hx,hy,hap,λbs H4 W' B'=>?_⟩;exact k _ _ H4 (h1.RJ hw1 W' (D1.lk hx hy hap) B') rfl (S1.trans (Fm.but (fpw hwm) B'))
inductive dR (K:aa) (C:af) (A:CA) (vs:List V) (H:Hp) (Q:VK) (E:XK):Prop
 | mk (a:AL) (n T:Nat) (ts:List Ti) (as:Nat->List af) (R:Nat->Nat->List Int) (t:af) (u:Ti):vs=[.ref a.q,.ref t]->AD K C A->LV C A H a n T ts as R->n<=200->u∈ts->(ts.map Ti.key).Nodup->u.x<n->u.y<n->u.x≠u.y->u.cS<=T->(u.wd=true->∀ i,i<=u.cS->Ed n (R i) u.x u.y)->H t=some (.tup [.int u.x,.int u.y])->(∀ as' R' H',LV C A H' a n T (ts.filter λv=>decide (v.key≠u.key)) as' R'->(R'=if u.wd=true then Z7 R u.cS u.x u.y else R)->Fm (fp a) H H'->Q .non H')->dR K C A vs H Q E
def zW:Rn (dR K C A) (rL K C A (ju K C)) ["self","tie","level","wood"]:=by
 rintro vs H Q E ⟨a,n,T,ts,as,R,t,u,rfl,ct,h,hn,hu,hnd,hx,hy,hxy,hl,hed,ht,k⟩
 have td:∀ {H:Hp}{d:af}{ks ks':List (List iA×V)},H t=some (.tup [.int u.x,.int u.y])->H d=some (.dT ks)->upd H d (.dT ks') t=some (.tup [.int u.x,.int u.y]):=λe1 e2=>by rw [aH (fX e1 e2)];exact e1
 unfold rL;k_go;refine ⟨a.q,A.bG,a.dq,_,_,rfl,h.ob,ct.lc,ct.l3,fL3,?_⟩;refine ⟨.inr (.inr (.inl ⟨rfl,.inr ⟨_,h.e3⟩⟩)),?_⟩;lk;refine ⟨a.d3,_,pk u.x u.y,t,.int 0,rfl,rfl,h.e3,ht,ir (f:=λ_=>V.int 0) hnd hu,?_⟩;rw [AC];have ht1:=td (ks':=kv (ts.filter λv=>decide (v.key≠u.key))) ht h.e3
 have ne3:∀ {b:af}{o:HO},b≠a.d3->H b=some o->(upd H a.d3 (.dT (kv (ts.filter λv=>decide (v.key≠u.key))))) b=some o:=λhb e=>by rw [aH hb];exact e
 have q3:(upd H a.d3 (.dT (kv (ts.filter λv=>decide (v.key≠u.key))))) a.d3=_:=aF;have F1:Fm [a.d1,a.d2,a.d3] H (upd H a.d3 (.dT (kv (ts.filter λv=>decide (v.key≠u.key))))):=Fm.upd (aj _ (aj _ aw));have o1:=ne3 (fX h.ob h.e3) h.ob;have p1:=ne3 h.RR h.e1;have p2:=ne3 h.Sb h.e2;generalize upd H a.d3 (.dT (kv (ts.filter λv=>decide (v.key≠u.key))))=H1 at ht1 q3 F1 o1 p1 p2;dsimp only;k_go;refine ⟨a.q,A.bG,a.dq,_,_,rfl,o1,ct.lc,ct.l1,OY,?_⟩;refine ⟨.inr (.inr (.inl ⟨rfl,.inr ⟨_,p1⟩⟩)),?_⟩;lk;refine ⟨a.d1,_,pk u.x u.y,t,.int u.cS,rfl,rfl,p1,ht1,ir (f:=λt=>V.int t.cS) hnd hu,?_⟩;rw [AC];have ht2:=td (ks':=kl (ts.filter λv=>decide (v.key≠u.key))) ht1 p1;have o2:(upd H1 a.d1 (.dT (kl (ts.filter λv=>decide (v.key≠u.key))))) a.q=_:=(aH (fX o1 p1)).trans o1;have r1:(upd H1 a.d1 (.dT (kl (ts.filter λv=>decide (v.key≠u.key))))) a.d1=_:=aF;have r2:(upd H1 a.d1 (.dT (kl (ts.filter λv=>decide (v.key≠u.key))))) a.d2=_:=(aH h.Ot.symm).trans p2;have r3:(upd H1 a.d1 (.dT (kl (ts.filter λv=>decide (v.key≠u.key))))) a.d3=_:=(aH h.RR.symm).trans q3;have F2:Fm [a.d1,a.d2,a.d3] H (upd H1 a.d1 (.dT (kl (ts.filter λv=>decide (v.key≠u.key))))):=F1.trans (Fm.upd aw);generalize upd H1 a.d1 (.dT (kl (ts.filter λv=>decide (v.key≠u.key))))=H2 at ht2 o2 r1 r2 r3 F2;dsimp only;k_go;refine ⟨a.q,A.bG,a.dq,_,_,rfl,o2,ct.lc,ct.l2,TX,?_⟩;refine ⟨.inr (.inr (.inl ⟨rfl,.inr ⟨_,r2⟩⟩)),?_⟩;lk;refine ⟨a.d2,_,pk u.x u.y,t,.bl u.wd,rfl,rfl,r2,ht2,ir (f:=λt=>V.bl t.wd) hnd hu,?_⟩;rw [AC];have ht3:=td (ks':=kw (ts.filter λv=>decide (v.key≠u.key))) ht2 r2;have F3:Fm [a.d1,a.d2,a.d3] H (upd H2 a.d2 (.dT (kw (ts.filter λv=>decide (v.key≠u.key))))):=F2.trans (Fm.upd (aj _ aw));have h3:LV C A (upd H2 a.d2 (.dT (kw (ts.filter λv=>decide (v.key≠u.key))))) a n T (ts.filter λv=>decide (v.key≠u.key)) as R:=h.sets F3 ((aH h.Ot).trans r1) aF ((aH h.Sb.symm).trans r3)
 have G3:Fm (fp a) H (upd H2 a.d2 (.dT (kw (ts.filter λv=>decide (v.key≠u.key))))):=F3.mono λb hb=>by
  simp only [au,dw,or_false] at hb
  rcases hb with rfl|rfl|rfl
  ·exact fp1
  ·exact fp2
  ·exact fp3
 generalize upd H2 a.d2 (.dT (kw (ts.filter λv=>decide (v.key≠u.key))))=H3 at ht3 h3 G3;refine ⟨_,rfl,?_⟩
 cases hw:u.wd with
 | false =>
  rw [hw] at k;refine iX ?_;lk
  exact k as R H3 h3 rfl G3
 | true =>
  rw [hw] at k;have hed:=hed hw;refine lD ?_;unfold oX;k_go;refine ⟨a.q,A.bG,a.dq,_,_,rfl,h3.ob,ct.lc,ct.l4,Vp,?_⟩;lk;refine E7 (c6.of h3.ls) λs hs=>?_;rw [uU (j:=u.cS+1) (by lia),← hJ];have S2:=bN.cK (o:=.lst ((a.ws.take (u.cS+1)).map λw=>V.ref w.1)) hs;have gs:(upd H3 s (.lst ((a.ws.take (u.cS+1)).map λw=>V.ref w.1))) s=some (.lst ((a.ws.take (u.cS+1)).map λw=>V.ref w.1)):=aF;have nsf:=h3.sH hs;generalize upd H3 s (.lst ((a.ws.take (u.cS+1)).map λw=>V.ref w.1))=H4 at S2 gs;have h4:=h3.same S2;have ht4:=S2 _ _ ht3
  have hlt:(a.ws.take (u.cS+1)).length=u.cS+1:=by rw [bK,h.len];lia
  refine ⟨s,rfl,?_⟩
  refine .inl ⟨⟨_,c6.of gs⟩,kH (K:=K) (a:=s) (xs:=(a.ws.take (u.cS+1)).map λw=>V.ref w.1)
   (λi Z H5=>Up C A a n T (ts.filter λv=>decide (v.key≠u.key)) R (λr=>Rm.ct r u.x u.y) H4 i H5/\∃ o,Z=[some (.ref a.q),some (.ref t),some (.int u.cS),o])
   ⟨⟨⟨as,R,h4,λj=>by rw [if_neg (by lia)]⟩,Fm.refl⟩,_,rfl⟩ ?_ ?_ ?_⟩
  ·rintro i Z H5 _ ⟨U,_⟩;exact c6.of (U.fm _ _ nsf gs)
  ·rintro i z Z H5 hi ⟨U,o,rfl⟩;rw [aB] at hi;obtain ⟨w,hw,rfl⟩:=bw.mp hi
   have hi:i<u.cS+1:=by rw [← hlt];exact (aC.mp hw).1
   rw [kU,if_pos hi] at hw;obtain ⟨as1,R1,L1,e1⟩:=U.ex;have W1:=L1.wa i w hw;have ht5:=U.fm _ _ (h4.sI ht4) ht4;k_in;refine ⟨w.1,w.2.1,_,rfl,W1.ob,lR _ _,?_⟩;lk;refine fD (jZ.of ht5) (d9 (j:=0) rfl rfl) ?_;lk;refine fD (jZ.of ht5) (d9 (j:=1) rfl rfl) ?_;lk
   have ei:R1 i=R i:=by rw [e1,if_neg (eS i)]
   have D1:=L1.wd i (by lia)
   have hE:Ed n (R1 i) u.x u.y:=by rw [ei];exact hed i (by lia)
   refine ⟨w.1,w.2.1,w.2.2,n,u.x,u.y,as1 i,R1 i,rfl,ct.w,W1,D1,hn,hx,hy,hxy,hE,λbs H6 W' B'=>?_⟩;exact ⟨Up.step (f:=λr=>Rm.ct r u.x u.y) L1 e1 U.fm hw W' (D1.ct hx hy hxy hE) B',_,rfl⟩
  ·rintro Z H5 ⟨U,o,rfl⟩;rw [ag,hlt] at U;obtain ⟨as1,R1,L1,e1⟩:=U.ex;refine k as1 _ H5 (L1.cast λj=>?_) rfl ((G3.trans (Fm.of S2)).trans U.fm);rw [e1]
   show _=if j<=u.cS then _ else _
   by_cases c:j<=u.cS
   ·rw [if_pos c,if_pos (by lia)]
   ·rw [if_neg c,if_neg (by lia)]
inductive jW (K:aa) (C:af) (A:CA) (vs:List V) (H:Hp) (Q:VK) (E:XK):Prop
 | mk (a:AL) (n T:Nat) (ts:List Ti) (as:Nat->List af) (R:Nat->Nat->List Int) (t:af) (x y:Nat):vs=[.ref a.q,.ref t,.int 0]->AD K C A->LV C A H a n T ts as R->n<=200->x<n->y<n->H t=some (.tup [.int x,.int y])->(ts.map Ti.key).Nodup->((x:Int),(y:Int))∉ts.map Ti.key->ts.length<99->(∀ b ts' as' R' H',LV C A H' a n T ts' as' R'->(((y:Int)∈R 0 x/\ts'=ts++[⟨x,y,0,false⟩]/\R'=R/\b=false)\/((y:Int)∉R 0 x/\ts'=gQ (ts++[⟨x,y,0,false⟩]) ((x:Int),(y:Int)) Ti.vv/\R'=HS R 0 x y/\b=true))->Fm (fp a) H H'->Q (.bl b) H')->jW K C A vs H Q E
def B8:Rn (jW K C A) (uj K C A (eC K C) (cz K C A)) IX:=by
 rintro vs H Q E ⟨a,n,T,ts,as,R,t,x,y,rfl,ct,h,hn,hx,hy,ht,hnd,hk,hlen,k⟩
 have td:∀ {H:Hp}{d:af}{ks ks':List (List iA×V)},H t=some (.tup [.int x,.int y])->H d=some (.dT ks)->upd H d (.dT ks') t=some (.tup [.int x,.int y]):=λe1 e2=>by rw [aH (fX e1 e2)];exact e1
 have kn:∀ (f:Ti->V) (v:V),f ⟨x,y,0,false⟩=v->tG (kf f ts) (pk x y) v=kf f (ts++[⟨x,y,0,false⟩]):=λf v e=>by rw [Bc _ (AA hk),← e];unfold kf;rw [aP];rfl
 have hnd':((ts++[(⟨x,y,0,false⟩:Ti)]).map Ti.key).Nodup:=by
  rw [aP,fA];exact ⟨hnd,by simp,λp hp q hq e=>hk (by rw [oI,aA] at hq;have e2:p=((x:Int),(y:Int)):=e.trans hq;rw [← e2];exact hp)⟩
 have hu:(⟨x,y,0,false⟩:Ti)∈ts++[⟨x,y,0,false⟩]:=bB _ aw;unfold uj;k_go;refine ⟨a.q,A.bG,a.dq,_,_,rfl,h.ob,ct.lc,ct.l1,OY,?_⟩;lk;refine .inr ⟨a.d1,_,rfl,Ai.t (k:=pk x y) h.e1 ht (eP (m:=100) (by rw [lI];lia)),?_⟩;rw [kn (λt=>V.int t.cS) (.int 0) rfl];have ht1:=td (ks':=kl (ts++[⟨x,y,0,false⟩])) ht h.e1;have o1:(upd H a.d1 (.dT (kl (ts++[⟨x,y,0,false⟩])))) a.q=_:=(aH (fX h.ob h.e1)).trans h.ob;have p1:(upd H a.d1 (.dT (kl (ts++[⟨x,y,0,false⟩])))) a.d1=_:=aF;have p2:(upd H a.d1 (.dT (kl (ts++[⟨x,y,0,false⟩])))) a.d2=_:=(aH h.Ot.symm).trans h.e2;have p3:(upd H a.d1 (.dT (kl (ts++[⟨x,y,0,false⟩])))) a.d3=_:=(aH h.RR.symm).trans h.e3;have F1:Fm [a.d1,a.d2,a.d3] H (upd H a.d1 (.dT (kl (ts++[⟨x,y,0,false⟩])))):=Fm.upd aw;generalize upd H a.d1 (.dT (kl (ts++[⟨x,y,0,false⟩])))=H1 at ht1 o1 p1 p2 p3 F1;k_go;refine ⟨a.q,A.bG,a.dq,_,_,rfl,o1,ct.lc,ct.l2,TX,?_⟩;lk;refine .inr ⟨a.d2,_,rfl,Ai.t (k:=pk x y) p2 ht1 (eP (m:=100) (by rw [lI];lia)),?_⟩;rw [kn (λt=>V.bl t.wd) (.bl false) rfl];have ht2:=td (ks':=kw (ts++[⟨x,y,0,false⟩])) ht1 p2;have o2:(upd H1 a.d2 (.dT (kw (ts++[⟨x,y,0,false⟩])))) a.q=_:=(aH (fX o1 p2)).trans o1;have q1:(upd H1 a.d2 (.dT (kw (ts++[⟨x,y,0,false⟩])))) a.d1=_:=(aH h.Ot).trans p1;have q2:(upd H1 a.d2 (.dT (kw (ts++[⟨x,y,0,false⟩])))) a.d2=_:=aF;have q3:(upd H1 a.d2 (.dT (kw (ts++[⟨x,y,0,false⟩])))) a.d3=_:=(aH h.Sb.symm).trans p3;have F2:Fm [a.d1,a.d2,a.d3] H (upd H1 a.d2 (.dT (kw (ts++[⟨x,y,0,false⟩])))):=F1.trans (Fm.upd (aj _ aw));generalize upd H1 a.d2 (.dT (kw (ts++[⟨x,y,0,false⟩])))=H2 at ht2 o2 q1 q2 q3 F2;k_go;refine ⟨a.q,A.bG,a.dq,_,_,rfl,o2,ct.lc,ct.l3,fL3,?_⟩;lk;refine .inr ⟨a.d3,_,rfl,Ai.t (k:=pk x y) q3 ht2 (eP (m:=100) (by rw [lI];lia)),?_⟩;rw [kn (λ_=>V.int 0) (.int 0) rfl];have ht3:=td (ks':=kv (ts++[⟨x,y,0,false⟩])) ht2 q3;have F3:Fm [a.d1,a.d2,a.d3] H (upd H2 a.d3 (.dT (kv (ts++[⟨x,y,0,false⟩])))):=F2.trans (Fm.upd (aj _ (aj _ aw)));have h3:LV C A (upd H2 a.d3 (.dT (kv (ts++[⟨x,y,0,false⟩])))) a n T (ts++[⟨x,y,0,false⟩]) as R:=h.sets F3 ((aH h.RR).trans q1) ((aH h.Sb).trans q2) aF
 have S3:Fm (fp a) H (upd H2 a.d3 (.dT (kv (ts++[⟨x,y,0,false⟩])))):=F3.mono λb hb=>by
  simp only [au,dw,or_false] at hb
  rcases hb with rfl|rfl|rfl
  ·exact fp1
  ·exact fp2
  ·exact fp3
 generalize upd H2 a.d3 (.dT (kv (ts++[⟨x,y,0,false⟩])))=H3 at ht3 h3 S3;obtain ⟨w,hw,hwm⟩:=h3.get (aK _);have W3:=h3.wa 0 w hw;have D3:=h3.wd 0 (aK _);k_in;refine mv ?_;lk;refine ⟨a.q,A.bG,a.dq,_,_,rfl,h3.ob,ct.lc,ct.l4,Vp,?_⟩;lk;refine jU (c6.of h3.ls) (d9 (j:=0) rfl (by rw [aB,hw];rfl)) ?_;refine ⟨w.1,w.2.1,_,rfl,W3.ob,lR _ _,?_⟩;lk;refine fD (jZ.of ht3) (d9 (j:=0) rfl rfl) ?_;lk;refine fD (jZ.of ht3) (d9 (j:=1) rfl rfl) ?_;lk;refine ⟨w.1,w.2.1,w.2.2,n,x,y,as 0,R 0,rfl,ct.w,W3,D3,hx,hy,?_⟩;refine ⟨_,rfl,?_⟩
 by_cases hj:(y:Int)∈R 0 x
 ·rw [decide_eq_true hj];rw [if_neg (by simp)];k_go;refine ⟨a.q,A.bG,a.dq,_,_,rfl,h3.ob,ct.lc,ct.l2,TX,?_⟩;lk;refine .inr ⟨a.d2,.bl false,rfl,.inr ⟨_,pk x y,t,.inl h3.e2,rfl,ht3,(ir (f:=λt=>V.bl t.wd) hnd' hu).symm⟩,?_⟩;exact k _ _ as R H3 h3 (.inl ⟨hj,rfl,rfl,rfl⟩) S3
 ·rw [decide_eq_false hj];rw [if_pos (by simp)];k_in;refine ⟨a.q,a.dq,_,rfl,h3.ob,Vq,?_⟩;lk;refine ⟨a,n,T,_,as,R,t,⟨x,y,0,false⟩,rfl,ct,h3,hn,hu,hnd',hx,hy,aK _,λi hi=>by rw [R9.mp hi];exact hj,ht3,by simp;lia,λas' H4 h4 S4=>?_⟩;have ht4:H4 t=some (.tup [.int x,.int y]):=S4 _ _ (h3.sI ht3) ht3;k_go;refine ⟨a.q,A.bG,a.dq,_,_,rfl,h4.ob,ct.lc,ct.l2,TX,?_⟩;lk;refine .inr ⟨a.d2,.bl true,rfl,.inr ⟨_,pk x y,t,.inl h4.e2,rfl,ht4,(ir (f:=λt=>V.bl t.wd) (t:=⟨x,y,0,true⟩) (by rw [oP (f:=Ti.vv) (λ_=>rfl)];exact hnd') ((kL (f:=Ti.vv) hnd' hu _).mpr (.inl rfl))).symm⟩,?_⟩;exact k _ _ as' _ H4 h4 (.inr ⟨hj,rfl,rfl,rfl⟩) (S3.trans S4)
inductive cp (K:aa) (C:af) (A:CA) (vs:List V) (H:Hp) (Q:VK) (E:XK):Prop
 | mk (a:AL) (n T:Nat) (ts:List Ti) (as:Nat->List af) (R:Nat->Nat->List Int) (lv:Nat) (t:af) (x y:Nat):vs=[.ref a.q,.int lv,.ref t]->AD K C A->LV C A H a n T ts as R->n<=60->lv<=T->x<n->y<n->H t=some (.tup [.int x,.int y])->(∀ q (ks:List Int) (s o:Nat),(s=x/\o=y\/s=y/\o=x)->(R lv s).length<=(R lv o).length->H q=none->(∀ z,z∈ks↔z∈R lv s)->Q (.ref q) (upd H q (.lst (ks.map V.int))))->cp K C A vs H Q E
def pZ:Rn (cp K C A) (lu K C A (jV K C) (jC K C)) ["self","level","tie","wood"]:=by
 rintro vs H Q E ⟨a,n,T,ts,as,R,lv,t,x,y,rfl,ct,h,hn,hl,hx,hy,ht,k⟩;obtain ⟨w,hw,hwm⟩:=h.get hl;have W:=h.wa lv w hw;have D:=h.wd lv hl;have lx:=D.len hx;have ly:=D.len hy;obtain ⟨dx,_,_,cx⟩:=(D.r x hx).cnt;obtain ⟨dy,_,_,cy⟩:=(D.r y hy).cnt;unfold lu;k_go;refine ⟨a.q,A.bG,a.dq,_,_,rfl,h.ob,ct.lc,ct.l4,Vp,?_⟩;lk;refine jU (c6.of h.ls) (d9 (j:=lv) rfl (by rw [aB,hw];rfl)) ?_;k_in;refine ⟨w.1,w.2.1,_,rfl,W.ob,lR _ _,?_⟩;k_in;refine ⟨w.1,w.2.1,_,rfl,W.ob,lR _ _,?_⟩;lk;refine fD (jZ.of ht) (d9 (j:=0) rfl rfl) ?_;lk;refine ⟨w.1,w.2.1,w.2.2,n,x,as lv,R lv,rfl,ct.w,W,D,hx,?_⟩;refine uY ?_;lk;refine ⟨w.1,w.2.1,_,rfl,W.ob,lR _ _,?_⟩;lk;refine fD (jZ.of ht) (d9 (j:=1) rfl rfl) ?_;lk;refine ⟨w.1,w.2.1,w.2.2,n,y,as lv,R lv,rfl,ct.w,W,D,hy,?_⟩;lk;refine tI (λc=>?_) λc=>?_
 ·lk;refine fD (jZ.of ht) (d9 (j:=0) rfl rfl) ?_;lk;exact ⟨w.1,w.2.1,w.2.2,n,x,as lv,R lv,rfl,ct.w,W,D,by lia,hx,λq ks hq _ hm=>k q ks x y (.inl ⟨rfl,rfl⟩) (by lia) hq hm⟩
 ·lk;refine fD (jZ.of ht) (d9 (j:=1) rfl rfl) ?_;lk;exact ⟨w.1,w.2.1,w.2.2,n,y,as lv,R lv,rfl,ct.w,W,D,by lia,hy,λq ks hq _ hm=>k q ks y x (.inr ⟨rfl,rfl⟩) (by lia) hq hm⟩
def ow.keep (h:ow Pt H) (S:∀ b o,(∀ ks,o≠.dT ks)->(∀ xs,o≠.lst xs)->(∀ x y z,o≠.ins x y z)->(∀ o' ks,o≠.frz o' (.dT ks))->H b=some o->H' b=some o):ow Pt H':=by
 rcases h with h|⟨c',oc,vs,t,h1,h2,h3⟩
 ·exact .inl (S _ _ (λ_ z=>nomatch z) (λ_ z=>nomatch z) (λ_ _ _ z=>nomatch z) (λ_ _ z=>nomatch z) h)
 ·exact .inr ⟨c',oc,vs,t,S _ _ (λ_ z=>nomatch z) (λ_ z=>nomatch z) (λ_ _ _ z=>nomatch z) (λ_ _ z=>nomatch z) h1,S _ _ (λ_ z=>nomatch z) (λ_ z=>nomatch z) (λ_ _ _ z=>nomatch z) (λ_ _ z=>nomatch z) h2,h3⟩
def ow.same (h:ow Pt H) (S:bN H H'):ow Pt H':=h.keep λb o _ _ _ _ e=>S b o e
def ow.fm (h:ow Pt H) (L:LV C A H a n T ts as R) (S:Fm (fp a) H H'):ow Pt H' :=
 h.keep λb o h1 h2 _ _ e=>S b o (L.out e h1 λ_ _=>h2 _) e
def ow.ne (h:ow Pt H) {b:af}{o:HO}(e:H b=some o) (hn:∀ ps,o≠.tbl ps):b≠Pt:=λz=>by
 obtain ⟨ps,q⟩:=h.tbl;rw [z,q] at e;exact hn ps (aY e).symm
def AtL (ts:List Ti) (lv:Nat) (w:Bool) (zs:List Zt):Prop:=(zs.map zP).Nodup/\∀ k,k∈zs.map zP↔∃ t∈ts,t.cS=lv/\t.wd=w/\t.key=k
inductive jL (K:aa) (C:af) (A:CA) (Pt:af) (vs:List V) (H:Hp) (Q:VK) (E:XK):Prop
 | mk (a:AL) (n T:Nat) (ts:List Ti) (as:Nat->List af) (R:Nat->Nat->List Int) (lv:Nat) (w:Bool):vs=[.ref a.q,.int lv,.bl w]->AD K C A->LV C A H a n T ts as R->(ts.map Ti.key).Nodup->ts.length<99->ow Pt H->(∀ (q:af) (zs:List Zt) (o:fT) H',H q=none->H' q=some (.lst (zs.map dQ))->(∀ z∈zs,fG H' z)->AtL ts lv w zs->H' a.d1=some (.frz o (.dT (kl ts)))->ow Pt H'->Fm [Pt,a.d1] H H'->Q (.ref q) H')->jL K C A Pt vs H Q E
inductive cH (K:aa) (C:af) (A:CA) (Pt:af) (vs:List V) (H:Hp) (Q:VK) (E:XK):Prop
 | mk (a:AL) (n T:Nat) (ts:List Ti) (as:Nat->List af) (R:Nat->Nat->List Int) (lv:Nat) (w:Bool):vs=[.ref a.q,.int lv,.bl w]->AD K C A->LV C A H a n T ts as R->(ts.map Ti.key).Nodup->ts.length<99->ow Pt H->(∀ (q:af) (zs:List Zt) H',H q=none->H' q=some (.lst (zs.map dQ))->(∀ z∈zs,fG H' z)->AtL ts lv w zs->ow Pt H'->pD Pt H H'->Q (.ref q) H')->cH K C A Pt vs H Q E
def rS:∀ vs H Q E,cH K C A Pt vs H Q E->jL K C A Pt vs H (Tp H Q) E:=by
 rintro vs H Q E ⟨a,n,T,ts,as,R,lv,w,rfl,ct,h,hnd,hlen,hT,k⟩;refine ⟨a,n,T,ts,as,R,lv,w,rfl,ct,h,hnd,hlen,hT,λq zs o H' hq gq pz hz gd hT' B=>.inr ⟨a.d1,o,kl ts,(λo' u' e=>by rw [h.e1] at e;cases e),gd,?_⟩⟩;have hqd:q≠a.d1:=Ne.symm (aQ h.e1 hq)
 have ne:∀ {b:af}{u:HO},H' b=some u->(∀ o' ks,u≠.frz o' (.dT ks))->(upd H' a.d1 (.dT (kl ts))) b=some u:=λ{b u} e q=>by rw [aH];exact e;rintro rfl;rw [gd] at e;cases e;exact q _ _ rfl
 refine k q zs _ hq (by rw [aH hqd];exact gq) (λz hz'=>ne (pz z hz') (λ_ _ z=>nomatch z)) hz (hT'.keep λb u _ _ _ h4 e=>ne e h4) λb u hb e=>?_
 by_cases c:b=a.d1
 ·subst c;rw [aF,← h.e1,e]
 ·rw [aH c];exact B _ _ (by simp [hb,c]) e
def rT:Rn (jL K C A Pt) (nh K C A (l6 K C Pt)) Vo:=by
 rintro vs H Q E ⟨a,n,T,ts,as,R,lv,w,rfl,ct,h,hnd,hlen,hT,k⟩;unfold nh;lk;refine UN ?_;refine mv ?_;lk;refine ⟨a.q,A.bG,a.dq,_,_,rfl,h.ob,ct.lc,ct.l1,OY,?_⟩;refine ⟨a.d1,kl ts,rfl,.inl ⟨h.e1,λo=>?_⟩⟩;have g1:(upd H a.d1 (.frz o (.dT (kl ts)))) a.d1=some (.frz o (.dT (kl ts))):=aF;have B1:bq a.d1 H (upd H a.d1 (.frz o (.dT (kl ts)))):=bq.upd;generalize upd H a.d1 (.frz o (.dT (kl ts)))=H1 at g1 B1;have q1:=B1 _ _ h.ob (fX h.ob h.e1);have w1:=B1 _ _ h.e2 (Ne.symm h.Ot);have v1:=B1 _ _ h.e3 (Ne.symm h.RR)
 have T1:ow Pt H1:=hT.keep λb u h1 _ _ _ e=>B1 _ _ e λz=>by rw [z,h.e1] at e;cases e;exact h1 _ rfl
 intro acc hacc;refine mF (n:=ts.length) (λt ys H4=>H4 acc=some (.lst ys)/\bN H1 H4/\∃ us:List (Ti×af),ys=us.map (λu=>V.ref u.2)/\us.map (·.1)=(ts.take t).filter (λu=>decide (u.cS=lv))/\∀ u∈us,H4 u.2=some (.tup [.int u.1.x,.int u.1.y])) (λZ=>∃ o,Z=[o,some (.int lv),some (.ref a.q)]) ⟨aF,bN.cK hacc,[],rfl,rfl,λz hz=>nomatch hz⟩ ⟨_,rfl⟩ ?_ ?_ ?_ ?_
 ·rintro t ys H4 ⟨e,_⟩;exact e
 ·rintro ys H4 ⟨g4,S4,us,rfl,hu,fl⟩;refine ⟨⟨by rw [lI];exact av _,S4 _ _ g1⟩,?_⟩;rw [b9 (av _)] at hu
  have hul:us.length<=ts.length:=by have:=congrArg dt hu;rw [ag] at this;rw [this];exact cw _ _
  lk;refine .inl ⟨⟨_,c6.of g4⟩,λacc2 hacc2=>?_⟩;refine vO (K:=K) (z:=acc) (xs:=us.map λu=>V.ref u.2) us (λu=>decide (u.1.wd=w)) (λu=>V.ref u.2) (λZ=>∃ o,Z=[o,some (.bl w),some (.ref a.q)]) (by simp) (c6.of g4) hacc2 ⟨_,rfl⟩ (by rw [ag];lia) ?_ ?_
  ·rintro i u x σ' H' G G' hi hx S' ⟨o',rfl⟩ k1 k2
   have ex:x=.ref u.2:=by rw [aB,hi] at hx;exact (aY hx).symm
   subst ex;have hum:=aR hi
   have hut:u.1∈ts:=by
    have:u.1∈us.map (·.1):=aZ hum;rw [hu] at this;exact (bH.mp this).1
   k_go;refine ⟨a.q,A.bG,a.dq,_,_,rfl,S' _ _ (S4 _ _ q1),ct.lc,ct.l2,TX,?_⟩;lk;refine .inr ⟨a.d2,.bl u.1.wd,rfl,.inr ⟨kw ts,pk u.1.x u.1.y,u.2,.inl (S' _ _ (S4 _ _ w1)),rfl,S' _ _ (fl u hum),(ir (f:=λt=>V.bl t.wd) hnd hut).symm⟩,?_⟩;lk;have e:decide (V.bl u.1.wd=V.bl w)=decide (u.1.wd=w):=decide_eq_decide.mpr ⟨λq=>by injection q,λq=>by rw [q]⟩;rw [e]
   cases c:decide (u.1.wd=w) with
   | true =>
    refine lD ?_;lk
    exact k1 c _ ⟨_,rfl⟩
   | false=>exact iX (k2 c _ ⟨_,rfl⟩)
  ·intro H' S' hacc';have S5:=S4.trans S';generalize eu:us.filter (λu=>decide (u.1.wd=w))=us2 at hacc'
   have hu2:us2.map (·.1)=(ts.filter λu=>decide (u.cS=lv)).filter λu=>decide (u.wd=w):=by rw [← hu,← eu,FM];rfl
   have fl2:∀ u∈us2,H' u.2=some (.tup [.int u.1.x,.int u.1.y]):=λu hu=>S' _ _ (fl u (by rw [← eu] at hu;exact (bH.mp hu).1))
   have hm2:∀ u,u∈us2.map (·.1)↔u∈ts/\u.cS=lv/\u.wd=w:=λu=>by
    rw [hu2,bH,bH,decide_eq_true_iff,decide_eq_true_iff,and_assoc]
   have hl2:us2.length<=ts.length:=by rw [← eu];exact bu (cw _ _) hul
   k_go;refine ⟨a.q,A.bG,a.dq,_,_,rfl,S5 _ _ q1,ct.lc,ct.l3,fL3,?_⟩;lk;refine ⟨acc2,a.d3,us2.map (λu=>([0,(u.1.x:Int),(u.1.y:Int)],u.2)),kv ts,rfl,by rw [hacc',bo];rfl,S5 _ _ v1,λz hz=>?_,by rw [ag];lia,T1.same S5,λl zs' H2 hl S6 T6 hp=>?_⟩
   ·obtain ⟨u,hum,rfl⟩:=aT.mp hz;exact ⟨0,u.1.x,u.1.y,rfl,fl2 u hum,ir (f:=λ_=>V.int 0) hnd ((hm2 u.1).mp (aZ hum)).1⟩
   ·have T5:=T1.same S5
    have hlP:l≠Pt:=λz=>by
     obtain ⟨ps,e⟩:=T6.tbl;rw [z,e] at hl;cases hl
    have F6:Fm [Pt,a.d1] H H2:=λb u hb e=>by
     simp only [au,dw,or_false,not_or] at hb;exact S6 _ _ hb.1 (S5 _ _ (B1 _ _ e hb.2))
    have d6:H2 a.d1=some (.frz o (.dT (kl ts))):=S6 _ _ (T5.ne (S5 _ _ g1) (λ_ z=>nomatch z)) (S5 _ _ g1);have hld:a.d1≠l:=aQ d6 hl
    have U:∀ {b:af}{u:HO},H2 b=some u->(upd H2 l (.lst (zs'.map lF))) b=some u:=λe=>by rw [aH (aQ e hl)];exact e
    have hzP:(zs'.map λz=>(z.1.getD 1 0,z.1.getD 2 0,z.2)).map zP=zs'.map λz=>(z.1.getD 1 0,z.1.getD 2 0):=by rw [bo];rfl
    have hperm:(zs'.map λz=>((z.1.getD 1 0,z.1.getD 2 0):Int×Int)).Perm ((us2.map (·.1)).map Ti.key):=by
     have:=hp.map λz:Zn=>((z.1.getD 1 0,z.1.getD 2 0):Int×Int)
     rw [bo] at this;rw [bo];exact this
    refine k l (zs'.map λz=>(z.1.getD 1 0,z.1.getD 2 0,z.2)) o _ (F6.free (by simp [hlP,hld.symm]) hl) (by rw [aF,bo];rfl) (λz hz=>?_) ⟨?_,λkey=>?_⟩ (U d6) (T6.keep λb u _ _ _ _ e=>U e) (F6.trans λb u _ e=>U e)
    ·obtain ⟨z',hz',rfl⟩:=aT.mp hz;obtain ⟨u,hum,rfl⟩:=aT.mp (hp.mem_iff.mp hz');exact U (S6 _ _ (T5.ne (fl2 u hum) (λ_ z=>nomatch z)) (fl2 u hum))
    ·rw [hzP,hperm.nodup_iff,hu2];exact ((gP.trans gP).map _).nodup hnd
    ·rw [hzP,hperm.mem_iff,aT];exact ⟨λ⟨u,h1,h2⟩=>⟨u,((hm2 u).mp h1).1,((hm2 u).mp h1).2.1,((hm2 u).mp h1).2.2,h2⟩,λ⟨u,h1,h2,h3,h4⟩=>⟨u,(hm2 u).mpr ⟨h1,h2,h3⟩,h4⟩⟩
 ·rintro t ys H4 ht ⟨_,S4,_⟩;exact ⟨by rw [lI];exact ht,S4 _ _ g1⟩
 ·rintro t ys σ' H4 x H5 ht ⟨g4,S4,us,rfl,hu,fl⟩ ⟨o',rfl⟩ ⟨eH,key,v,b,hk,ex,hb⟩;subst eH ex
  obtain ⟨u,hu',eu⟩:∃ u,ts[t]?=some u/\(pk u.x u.y,V.int u.cS)=(key,v):=by
   have hk:(ts.map λt=>(pk t.x t.y,V.int t.cS))[t]?=some (key,v):=hk;rw [aB] at hk;exact bw.mp hk
  cases eu;have hum:=aR hu';have hb:H5 b=some (.tup [.int u.x,.int u.y]):=hb;k_go;refine ⟨a.q,A.bG,a.dq,_,_,rfl,S4 _ _ q1,ct.lc,ct.l1,OY,?_⟩;lk;refine .inr ⟨a.d1,.int u.cS,rfl,.inr ⟨kl ts,pk u.x u.y,b,.inr ⟨o,S4 _ _ g1⟩,rfl,hb,(ir (f:=λt=>V.int t.cS) hnd hum).symm⟩,?_⟩
  have etk:ts.take (t+1)=ts.take t++[u]:=by rw [dP,hu'];rfl
  have hul:us.length<=ts.length:=by have:=congrArg dt hu;rw [ag] at this;rw [this];exact bu (cw _ _) (by rw [bK];lia)
  lk;refine tI (λc=>?_) λc=>?_
  ·have c:u.cS=lv:=by have:=lE.mp c;lia
   lk;refine ⟨g4,eP (m:=100) (by rw [ag];lia),ky.mk' ht ⟨_,rfl⟩ ⟨aF,λb' ob e=>by rw [aH (aQ e hacc)];exact S4 _ _ e,us++[(u,b)],by simp,?_,λz hz=>?_⟩⟩
   ·rw [aP,hu,etk,cU];simp [c]
   ·rcases aN.mp hz with hz|hz
    ·rw [aH (fX (fl z hz) g4)];exact fl z hz
    ·rw [aA.mp hz,aH (fX hb g4)];exact hb
  ·have c:¬ u.cS=lv:=λe=>c (by rw [e]);refine ky.mk' ht ⟨_,rfl⟩ ⟨g4,S4,us,rfl,?_,fl⟩;rw [hu,etk,cU];simp [c]
def Fm.skip {X:List af}{c:af}{H1 H2:Hp}(S:Fm X H H1) (S2:Fm (c::X) H1 H2) (hc:H c=none):Fm X H H2:=λb o hb e=>S2 b o (λz=>by
 rcases au.mp z with z|z
 ·rw [z,hc] at e;cases e
 ·exact hb z) (S b o hb e)
def ew2 {x y:Int}{S:List Int}:ew x y S=2↔x∈S/\y∈S:=by
 unfold ew;by_cases c1:x∈S<;>by_cases c2:y∈S<;>simp [c1,c2]
def ew1 {x y:Int}{S:List Int}:ew x y S=1↔(x∈S/\y∉S\/x∉S/\y∈S):=by
 unfold ew;by_cases c1:x∈S<;>by_cases c2:y∈S<;>simp [c1,c2]
section
def LV.Vx (h:LV C A H a n T ts as R) (hP:ow Pt H) (S:pD Pt H H'):LV C A H' a n T ts as R :=
 h.keep (X:=[Pt]) (λb o hb e=>S b o (λz=>hb (aA.mpr z)) e) (λx fs e hf _ hx=>hP.ne e (by obtain ⟨c,d,f,rfl,_⟩:=hf;exact λ_ z=>nomatch z) (aA.mp hx)) (λb hb hx=>by
  rcases h.kind hb with ⟨ks,q⟩|⟨bs,_,q⟩
  ·exact hP.ne q (λ_ z=>nomatch z) (aA.mp hx)
  ·exact hP.ne q (λ_ z=>nomatch z) (aA.mp hx)) (λhx=>hP.ne h.ls (λ_ z=>nomatch z) (aA.mp hx)) λb r _ e hx=>hP.ne e (λ_ z=>nomatch z) (aA.mp hx)
def LV.app {c:af}{ys xs:List V}(h:LV C A H a n T ts as R) (hc:H c=some (.lst ys)) (hi:∀ i r,ys≠V.int i::r) (n1:c∉fp a) (n2:a.L≠c):LV C A (upd H c (.lst xs)) a n T ts as R :=
 h.keep (X:=[c]) (Fm.upd aw) (λx fs e hf _ hx=>by
  rw [aA.mp hx,hc] at e;obtain ⟨c,d,f,rfl,_⟩:=hf
  cases e) (λb hb hx=>n1 (aA.mp hx▸hb)) (λhx=>n2 (aA.mp hx)) λb r hr e hx=>by
  rw [aA.mp hx,hc] at e
  injection e with e
  injection e with e
  match r,hr with
  | x::r,_=>exact hi _ _ e
end
def Lk (n T:Nat) (H:Hp) (f:V) (ts ts':List Ti) (R':Nat->Nat->List Int) (x y lv:Nat):Prop:=f=.non/\ts'.map Ti.kb=ts.map Ti.kb/\Dn n T ts' R' x y lv\/∃ (z:af) (k:Int×Int),f=.ref z/\H z=some (.tup [.int k.1,.int k.2])/\(k,false)∈ts.map Ti.kb/\ts'.map Ti.kb=TL k (ts.map Ti.kb)/\Lv n T ts' R'/\Jn ts' R'/\(y:Int)∈R' 0 x
def Lk.same {f:V}{ts':List Ti}{R':Nat->Nat->List Int}{x y lv:Nat}(h:Lk n T H f ts ts' R' x y lv) (S:bN H H'):Lk n T H' f ts ts' R' x y lv:=h.imp id λ⟨z,k,h1,h2,h3⟩=>⟨z,k,h1,S _ _ h2,h3⟩
inductive dS (K:aa) (C:af) (A:CA) (Pt:af) (vs:List V) (H:Hp) (Q:VK) (E:XK):Prop
 | mk (a:AL) (n T:Nat) (ts:List Ti) (as:Nat->List af) (R:Nat->Nat->List Int) (lv:Nat) (t:af) (x y:Nat):vs=[.ref a.q,.int lv,.ref t]->AD K C A->LV C A H a n T ts as R->n<=60->(∀ j,2^(j+1)<=n->j<=T)->Dn n T ts R x y (lv+1)->H t=some (.tup [.int x,.int y])->ts.length<99->ow Pt H->(∀ ts' as' R' H' (u:Tt),H u.p=none->H u.q=none->C9 H' u->LV C A H' a n T ts' as' R'->ow Pt H'->Fm (Pt::fp a) H H'->Lk n T H' u.f ts ts' R' x y lv->Q (.ref u.p) H')->dS K C A Pt vs H Q E
def zX:Rn (dS K C A Pt) (rN K C A (cp K C A) (cH K C A Pt) (dD K C A) (dE K C) (cz K C A)) Vh:=by
 rintro vs H Q E ⟨a,n,T,ts,as,R,lv,t,x,y,rfl,ct,h,hn,hT,D,ht,hlen,hP,k⟩
 have hlv:lv<=T:=by have:=D.hk;lia
 have hnd:=D.lv.nd;have f0:∀ {m:bj},¬ m="level_of"->¬ m="wooden"->¬ m="weight_of"->¬ m="woods"->(fL a.d1 a.d2 a.d3 a.L).lookup m=none:=λh1 h2 h3 h4=>Vq h1 h2 h3 h4;unfold rN;k_in;refine ⟨a.q,a.dq,_,rfl,h.ob,f0 (by decide +kernel) (by decide +kernel) (by decide +kernel) (by decide +kernel),?_⟩;lk;refine ⟨a,n,T,ts,as,R,lv,t,x,y,rfl,ct,h,hn,hlv,D.ha,D.hb,ht,λq ks s o hso hle hq hks=>?_⟩
 have D':Dn n T ts R s o (lv+1):=by
  rcases hso with ⟨rfl,rfl⟩|⟨rfl,rfl⟩
  ·exact D
  ·exact D.swap
 have back:∀ {ts' R'},Dn n T ts' R' s o lv->Dn n T ts' R' x y lv:=λd=>by
  rcases hso with ⟨rfl,rfl⟩|⟨rfl,rfl⟩
  ·exact d
  ·exact d.swap
 have backM:∀ {ts' R'},Lv n T ts' R'->(o:Int)∈R' 0 s->(y:Int)∈R' 0 x:=λ{ts' R'} L q=>by
  rcases hso with ⟨rfl,rfl⟩|⟨rfl,rfl⟩
  ·exact q
  ·exact (L.wd 0 (aK _)).sy D.hb D.ha q
 have hs:((R lv s).length+1)*2^(lv+1)<=2*n:=by
  refine bu ?_ (D'.s2 lv (km _));rw [OW,Nat.mul_comm (2^lv) 2,← Nat.mul_assoc];exact nC _ (by lia)
 generalize eu_:upd H q (.lst (ks.map V.int))=H1;obtain ⟨S1,g1⟩:=jK eu_ hq;have h1:=h.same S1;k_in;refine ⟨a.q,a.dq,_,rfl,h1.ob,f0 (by decide +kernel) (by decide +kernel) (by decide +kernel) (by decide +kernel),?_⟩;lk;refine ⟨a,n,T,ts,as,R,lv,true,rfl,ct,h1,hnd,hlen,hP.same S1,λz0 zs H2 hz0 gz pz az P2 S2=>?_⟩;have h2:=h1.Vx (hP.same S1) S2;have g2:H2 q=some (.lst (ks.map V.int)):=S2 _ _ ((hP.same S1).ne g1 (λ_ z=>nomatch z)) g1
 have hzl:zs.length<=ts.length:=by
  have:=BC (l:=zs.map zP) (m:=ts.map Ti.key) az.1 λp hp=>by
   obtain ⟨t,t1,_,_,t4⟩:=(az.2 p).mp hp;exact t4▸aZ t1
  simpa using this
 refine ⟨z0,rfl,.inl ⟨⟨_,c6.of gz⟩,λacc hacc=>?_⟩⟩;have nacc:=h2.sH hacc;have nLacc:a.L≠acc:=aQ h2.ls hacc;refine mF (n:=zs.length) (λi ys H4=>ys=((zs.take i).filter λz=>decide (ew z.1 z.2.1 ks=2)).map dQ/\H4 acc=some (.lst ys)/\bN H2 H4) (λZ=>∃ o,Z=[o,some (.ref q)]) ⟨by simp,aF,bN.cK hacc⟩ ⟨_,rfl⟩ ?_ ?_ ?_ ?_
 ·rintro i ys H' ⟨_,h,_⟩;exact h
 ·rintro ys H3 ⟨rfl,g3,S3⟩;refine ⟨⟨_,c6.of (S3 _ _ gz),by rw [ag];exact av _⟩,?_⟩;rw [b9 (av _)] at g3;generalize ew':zs.filter (λz=>decide (ew z.1 z.2.1 ks=2))=ws at g3
  have hws:∀ z,z∈ws↔z∈zs/\z.1∈ks/\z.2.1∈ks:=λz=>by rw [← ew',bH,decide_eq_true_iff,ew2]
  have wnd:(ws.map zP).Nodup:=by rw [← ew'];exact (gP.map _).nodup az.1
  have h3:=h2.same S3;have P3:=P2.same S3;have q3:=S3 _ _ g2;have pw:∀ z∈ws,fG H3 z:=λz hz=>S3 _ _ (pz z ((hws z).mp hz).1)
  have st:∀ z∈ws,∃ t∈ts,t.key=zP z/\t.wd=true/\t.cS=lv/\(t.x:Int)∈R lv s/\(t.y:Int)∈R lv s:=λz hz=>by
   obtain ⟨m1,m2,m3⟩:=(hws z).mp hz;obtain ⟨t,t1,t2,t3,t4⟩:=(az.2 (zP z)).mp (aZ m1);obtain ⟨e1,e2⟩:=cg t4;exact ⟨t,t1,t4,t3,t2,by rw [e1];exact (hks _).mp m2,by rw [e2];exact (hks _).mp m3⟩
  lk;unfold oY;lk
  refine .inl ⟨⟨_,c6.of g3⟩,kH (K:=K) (a:=acc) (xs:=ws.map dQ) (λi Z H4=>∃ ts1 as1 R1 o5 o6,Z=[some (.ref a.q),some (.int lv),some (.ref t),some (.ref q),some (.ref acc),o5,o6]/\LV C A H4 a n T ts1 as1 R1/\Z9 n T lv s o ts R (ws.map zP) i ts1 R1/\Fm (fp a) H3 H4)
   ⟨ts,as,R,_,_,rfl,h3,⟨D',rfl,rfl,λt ht h1 h2 h3 h4=>?_,λp hp=>?_,λp hp=>?_⟩,Fm.refl⟩ ?_ ?_ ?_⟩
  ·obtain ⟨z,hz,e⟩:=aT.mp ((az.2 t.key).mpr ⟨t,ht,h2,h1,rfl⟩);obtain ⟨e1,e2⟩:=cg e;exact aT.mpr ⟨z,(hws z).mpr ⟨hz,by rw [e1];exact (hks _).mpr h3,by rw [e2];exact (hks _).mpr h4⟩,e⟩
  ·obtain ⟨z,hz,rfl⟩:=aT.mp hp;exact st z hz
  ·obtain ⟨z,hz,rfl⟩:=aT.mp hp;obtain ⟨t,h1,h2,h3,_⟩:=st z hz;exact ⟨t,h1,h2,h3⟩
  ·rintro i Z H4 _ ⟨_,_,_,_,_,_,_,_,F⟩;exact c6.of (F _ _ nacc g3)
  ·rintro i v Z H4 hi ⟨ts1,as1,R1,o5,o6,rfl,L4,M,F⟩;rw [aB] at hi;obtain ⟨z,hz,rfl⟩:=bw.mp hi;obtain ⟨u,u1,u2,u3,u4,u5,M'⟩:=M.step hT hs wnd (p:=zP z) (by rw [aB,hz];rfl);have hpz:=pw z (aR hz)
   have hpz4:H4 z.2.2=some (.tup [.int u.x,.int u.y]):=by
    obtain ⟨e1,e2⟩:=cg u2;rw [e1,e2];exact F _ _ (h3.sI hpz) hpz
   obtain ⟨l1,l2,_⟩:=M.dn.lv.lt u u1
   have hl1:ts1.length=ts.length:=by have:=congrArg dt M.ks;simpa using this
   k_in;refine ⟨a.q,a.dq,_,rfl,L4.ob,f0 (by decide +kernel) (by decide +kernel) (by decide +kernel) (by decide +kernel),?_⟩;lk;refine ⟨a,n,T,ts1,as1,R1,z.2.2,u,rfl,ct,L4,by lia,u1,M.dn.lv.nd,by lia,l2,λ_=>⟨u4,u5⟩,hpz4,by lia,λas' R' H5 L5 eR F5=>?_⟩;rw [u3,if_pos rfl] at eR;subst eR;exact ⟨_,as',_,_,_,rfl,L5,M',F.trans F5⟩
  ·rintro Z H4 ⟨ts1,as1,R1,o5,o6,rfl,L4,M,F⟩;rw [ag] at M;have P4:=P3.fm h3 F;have a4:=F _ _ nacc g3;have q4:=F _ _ (h3.Uh q3) q3;have ed:(ws.map zP).drop ws.length=[]:=O9.mpr (by rw [ag];exact av _)
   have hno:∀ t∈ts1,t.wd=true->t.cS=lv->(t.x:Int)∈R1 lv s->(t.y:Int)∈R1 lv s->False:=λt h1 h2 h3 h4 h5=>by
    rw [M.rl] at h4 h5;have:=M.pend t h1 h2 h3 h4 h5;rw [ed] at this;cases this
   have hl1:ts1.length=ts.length:=by have:=congrArg dt M.ks;simpa using this
   have hs1:((R1 lv s).length+1)*2^(lv+1)<=2*n:=by rw [M.rl];exact hs
   have hks1:∀ z,z∈ks↔z∈R1 lv s:=by rw [M.rl];exact hks
   lk;unfold oZ;k_in;refine ⟨a.q,a.dq,_,rfl,L4.ob,f0 (by decide +kernel) (by decide +kernel) (by decide +kernel) (by decide +kernel),?_⟩;lk;refine ⟨a,n,T,ts1,as1,R1,lv,false,rfl,ct,L4,M.dn.lv.nd,by lia,P4,λz5 zs3 H5 hz5 gz5 pz5 az5 P5 S5=>?_⟩;have L5:=L4.Vx P4 S5;have a5:H5 acc=some (.lst (ws.map dQ)):=S5 _ _ (P4.ne a4 (λ_ z=>nomatch z)) a4;have q5:H5 q=some (.lst (ks.map V.int)):=S5 _ _ (P4.ne q4 (λ_ z=>nomatch z)) q4;have nqa:q≠acc:=aQ g2 hacc;have n5a:z5≠acc:=Ne.symm (aQ a4 hz5);have n5f:=L4.sH hz5;have n3:(zs3.map zP).Nodup:=az5.1
   have hcnt:ws.length+zs3.length<=ts.length:=by
    have:=BC (l:=ws.map zP++zs3.map zP) (m:=ts1.map Ti.key) (fA.mpr ⟨wnd,n3,λp hp p' hp' e=>by
     subst e;obtain ⟨t,t1,t2,t3⟩:=M.all p hp;obtain ⟨t',s1,_,s3,s4⟩:=(az5.2 p).mp hp';rw [mi M.dn.lv.nd t1 s1 (t2.trans s4.symm),s3] at t3
     cases t3⟩) λp hp=>by
      rcases aN.mp hp with hp|hp
      ·obtain ⟨t,t1,t2,_⟩:=M.all p hp;exact t2▸aZ t1
      ·obtain ⟨t,t1,_,_,t4⟩:=(az5.2 p).mp hp;exact t4▸aZ t1
    simp at this;lia
   -- from the beginning to here
   have F5:Fm (Pt::fp a) H H5:=λb o hb e=>by
    rw [au,not_or] at hb;exact S5 _ _ hb.1 (F _ _ hb.2 (S3 _ _ (S2 _ _ hb.1 (S1 _ _ e))))
   have fr:∀ {b:af},H5 b=none->H b=none:=λ{b} e=>F5.free (λz=>by
    rcases au.mp z with z|z
    ·obtain ⟨ps,q⟩:=P5.tbl;rw [z,q] at e;cases e
    ·exact L5.sH e z) e
   have hacc0:H acc=none:=by
    cases z:H acc with
    | none=>rfl
    | some u =>
     have:H1 acc=some u:=S1 _ _ z
     by_cases c:acc=Pt
     ·obtain ⟨ps,q⟩:=P2.tbl;rw [← c,hacc] at q;cases q
     ·rw [S2 _ _ c this] at hacc;cases hacc
   have Lf:∀ {H6},Fm (acc::fp a) H5 H6->H6 q=some (.lst (ks.map V.int)):=λF=>F _ _ (λz=>(au.mp z).elim nqa (L5.Uh q5)) q5
   -- the step told
   have told:∀ {ts2 as2 R2 H6} {rs:List Zt}(f:V),LV C A H6 a n T ts2 as2 R2->ow Pt H6->Fm (acc::fp a) H5 H6->H6 acc=some (.lst (rs.map dQ))->(∀ z∈rs,fG H6 z)->rs.length<99->Lk n T H6 f ts ts2 R2 x y lv ->
     ∀ G:VK,(∀ v H7,(∀ p,H7 p=none->Q (.ref p) (upd H7 p (.tup [.int lv,.ref q,v,f])))->G v H7)->kJ K [.ref acc] H6 G:=λ{ts2 as2 R2 H6 rs} f L6 P6 F6 g6 p6 hl6 hf G kG=>by
    have fr6:∀ {b:af},H6 b=none->H b=none:=λ{b} e=>fr (F6.free (λz=>by
     rcases au.mp z with z|z
     ·rw [z,g6] at e;cases e
     ·exact L6.sH e z) e)
    refine ⟨acc,rs.map (λz=>([z.1,z.2.1],z.2.2)),[false],rfl,by rw [bo];exact c6.of g6,λz hz=>let ⟨u,hu,e⟩:=aT.mp hz;e▸⟨_,p6 u hu,.int _ (.int _ .nil)⟩,by rw [ag];lia,λl rs' hl _ _=>kG _ _ λp hp=>?_⟩;have S7:=bN.cK (o:=.lst (rs'.map lF)) hl;have g7:(upd H6 l (.lst (rs'.map lF))) l=some (.lst (rs'.map lF)):=aF;generalize upd H6 l (.lst (rs'.map lF))=H7 at S7 g7 hp;have S8:=bN.cK (o:=.tup [.int lv,.ref q,.ref l,f]) hp;have S78:=S7.trans S8;exact k ts2 as2 R2 _ ⟨p,q,l,lv,rs'.map lF,f⟩ (fr6 (S7.free hp)) (fr6 hl) ⟨aF,S8 _ _ g7⟩ (L6.same S78) (P6.same S78) (F5.skip ((F6.mono λb hb=>(au.mp hb).elim (λz=>z▸aw) λz=>aj _ (aj _ z)).trans (Fm.of S78)) hacc0) (hf.same S78)
   refine ⟨z5,rfl,.inl ⟨⟨_,c6.of gz5⟩,kH (K:=K) (a:=z5) (xs:=zs3.map dQ) (λi Z H6=>∃ ts2 as2 rs o5 o6,Z=[some (.ref a.q),some (.int lv),some (.ref t),some (.ref q),some (.ref acc),o5,o6]/\LV C A H6 a n T ts2 as2 R1/\ow Pt H6/\Oy n T lv s o ts R1 (zs3.map zP) i ts2/\H6 acc=some (.lst (rs.map dQ))/\(∀ z∈rs,fG H6 z)/\rs.length<=ws.length+i/\Fm (acc::fp a) H5 H6)
    ⟨ts1,as1,ws,_,_,rfl,L5,P5,⟨M.dn,M.ks,λh x y hx hy h1 h2=>M.dn.full hno h hx hy h1 h2,λp hp=>?_,λt h1 h2 h3=>.inl ?_⟩,a5,λz hz=>S5 _ _ (P4.ne (F _ _ (h3.sI (pw z hz)) (pw z hz)) (λ_ z=>nomatch z)) (F _ _ (h3.sI (pw z hz)) (pw z hz)),av _,Fm.refl⟩ ?_ ?_ ?_⟩⟩
   ·obtain ⟨t,t1,t2,t3,t4⟩:=(az5.2 p).mp hp;exact ⟨t,t1,t4,t3,t2⟩
   ·exact (az5.2 t.key).mpr ⟨t,h1,h3,h2,rfl⟩
   ·rintro i Z H6 _ ⟨_,_,_,_,_,_,_,_,_,_,_,_,F6⟩;exact c6.of (F6 _ _ (λz=>(au.mp z).elim n5a n5f) gz5)
   ·rintro i v Z H6 hi ⟨ts2,as2,rs,o5,o6,rfl,L6,P6,N,g6,p6,hl6,F6⟩;rw [aB] at hi;obtain ⟨z,hz,rfl⟩:=bw.mp hi;have hilt:i<zs3.length:=(aC.mp hz).1
    have hpi:(zs3.map zP)[i]?=some (zP z):=by rw [aB,hz];rfl
    have hz5:=pz5 z (aR hz);have hz6:H6 z.2.2=some (.tup [.int z.1,.int z.2.1]):=F6 _ _ (λe=>(au.mp e).elim (fX hz5 a5) (L5.sI hz5)) hz5
    have hl2:ts2.length=ts.length:=by have:=congrArg dt N.ks;simpa using this
    lk;refine ⟨z.2.2,q,z.1,z.2.1,ks,rfl,hz6,Lf F6,λH7 S7=>?_⟩;have L7:=L6.same S7;have P7:=P6.same S7;have F7:=F6.trans (Fm.of S7);have g7:=S7 _ _ g6;have hz7:=S7 _ _ hz6;have p7:∀ z∈rs,fG H7 z:=λz hz=>S7 _ _ (p6 z hz);lk;refine tI (λc=>?_) λc=>?_
    ·have c:ew z.1 z.2.1 ks=1:=by have:=lE.mp c;lia
     have c:=ew1.mp c;rw [hks1,hks1] at c;obtain ⟨u,u1,u2,uw,u3,u4,u5,u6⟩:=N.one n3 hpi c;obtain ⟨l1,l2,l3⟩:=N.dn.lv.lt u u1;obtain ⟨e1,e2⟩:=cg u2;k_in;refine ⟨a.q,a.dq,_,rfl,L7.ob,f0 (by decide +kernel) (by decide +kernel) (by decide +kernel) (by decide +kernel),?_⟩;lk;refine ⟨a,n,T,ts2,as2,R1,z.2.2,u,rfl,ct,L7,by lia,u1,N.dn.lv.nd,by lia,l2,l3,u3,by rw [e1,e2];exact hz7,by lia,λas' H8 L8 F8=>?_⟩;lk;refine told (rs:=rs) (.ref z.2.2) L8 (P7.fm L7 F8) (F7.trans F8.tail) (F8 _ _ nacc g7) (λz hz=>F8 _ _ (L7.sI (p7 z hz)) (p7 z hz)) (by lia) (.inr ⟨_,zP z,rfl,F8 _ _ (L7.sI hz7) hz7,N.ks▸aT.mpr ⟨u,u1,by unfold Ti.kb;rw [u2,uw]⟩,by rw [TN,N.ks,u2],u4,u5,backM u4 u6⟩) _ λv H9 kk=>?_;lk;exact ⟨bI (m:=4) (av 4),kk⟩
    ·lk;have c1:¬ ew z.1 z.2.1 ks=1:=λe=>c (by rw [e];rfl);refine tI (λc=>?_) λc=>?_
     ·have c:ew z.1 z.2.1 ks=2:=by have:=lE.mp c;lia
      have c:=ew2.mp c;rw [hks1,hks1] at c;obtain ⟨u,u1,u2,u3,N'⟩:=N.two hT hs1 n3 hpi c.1 c.2;obtain ⟨l1,l2,l3⟩:=N.dn.lv.lt u u1;obtain ⟨e1,e2⟩:=cg u2;k_in;refine ⟨a.q,a.dq,_,rfl,L7.ob,f0 (by decide +kernel) (by decide +kernel) (by decide +kernel) (by decide +kernel),?_⟩;lk;refine ⟨a,n,T,ts2,as2,R1,z.2.2,u,rfl,ct,L7,by lia,u1,N.dn.lv.nd,by lia,l2,(λe=>by rw [u3] at e;cases e),by rw [e1,e2];exact hz7,by lia,λas' R' H8 L8 eR F8=>?_⟩;rw [u3,if_neg (by decide)] at eR;subst eR;have g8:=F8 _ _ nacc g7;have hz8:=F8 _ _ (L7.sI hz7) hz7;lk;refine ⟨.inl ⟨rfl,_,c6.of g8⟩,?_⟩;lk;refine qX g8 (eP (m:=100) (by rw [ag];lia)) ?_
      have ne:∀ {b:af}{o:HO},H8 b=some o->(∀ xs,o≠.lst xs)->(upd H8 acc (.lst (rs.map dQ++[.ref z.2.2]))) b=some o:=λ{b o} e hno=>by rw [aH];exact e;rintro rfl;rw [g8] at e;cases e;exact hno _ rfl
      refine ⟨_,as',rs++[z],_,_,rfl,L8.app g8 (by intro i r e;cases rs<;>cases e) nacc nLacc,(P7.fm L7 F8).keep λb o _ h2 _ _ e=>ne e h2,N',by rw [aF,aP];rfl,λz' hz'=>ne ?_ (λ_ z=>nomatch z),by rw [bz];simp;lia,(F7.trans F8.tail).trans (Fm.upd aw)⟩
      rcases aN.mp hz' with hz'|hz'
      ·exact F8 _ _ (L7.sI (p7 z' hz')) (p7 z' hz')
      ·rw [aA.mp hz'];exact hz8
     ·have c2:¬ ew z.1 z.2.1 ks=2:=λe=>c (by rw [e];rfl);lk
      have c3:z.1∉R1 lv s/\z.2.1∉R1 lv s:=by
       rw [← hks1,← hks1];rw [ew1] at c1;rw [ew2] at c2
       by_cases d1:z.1∈ks<;>by_cases d2:z.2.1∈ks<;>simp_all
      exact ⟨ts2,as2,rs,_,_,rfl,L7,P7,N.zero n3 hpi c3.1 c3.2,g7,p7,by lia,F7⟩
   ·rintro Z H6 ⟨ts2,as2,rs,o5,o6,rfl,L6,P6,N,g6,p6,hl6,F6⟩;rw [ag] at N hl6;lk;refine told (rs:=rs) .non L6 P6 F6 g6 p6 (by lia) (.inl ⟨rfl,N.ks,back (N.fin (by rw [ag];exact av _))⟩) _ λv H9 kk=>?_;lk;exact ⟨bI (m:=4) (av 4),kk⟩
 ·rintro i ys H' hi ⟨e,h,S'⟩;exact ⟨_,_,c6.of (S' _ _ gz),by rw [aB,ay hi];rfl⟩
 ·rintro i ys σ' H' v H3 hi ⟨rfl,hl,S'⟩ ⟨o',rfl⟩ ⟨e2,hx⟩;subst e2;have hxi:=hx _ (c6.of (S' _ _ gz));rw [aB,ay hi] at hxi;have hv:=(aY hxi).symm;subst hv
  have et:zs.take (i+1)=zs.take i++[zs[i]]:=by rw [dP,ay hi];rfl
  lk;refine ⟨zs[i].2.2,q,zs[i].1,zs[i].2.1,ks,rfl,S' _ _ (pz _ (hZ hi)),S' _ _ g2,λH4 S4=>?_⟩;lk;refine tI (λc=>?_) λc=>?_
  ·have c:ew zs[i].1 zs[i].2.1 ks=2:=by have:=lE.mp c;lia
   lk;refine ⟨S4 _ _ hl,eP (m:=1000) (by rw [ag];exact bf (cw _ _) (by rw [bK];lia)),ky.mk' hi ⟨_,rfl⟩ ⟨?_,aF,λb o e=>by rw [aH (aQ e hacc)];exact S4 _ _ (S' _ _ e)⟩⟩;rw [et,cU,aP];simp [c]
  ·have c:¬ ew zs[i].1 zs[i].2.1 ks=2:=λe=>c (by rw [e];rfl);refine ky.mk' hi ⟨_,rfl⟩ ⟨?_,S4 _ _ hl,S'.trans S4⟩;rw [et,cU,aP];simp [c]
def Fnd (H:Hp) (f:V) (B B':List ((Int×Int)×Bool)) (R:Nat->Nat->List Int) (x y:Nat):Prop:=f=.non/\B'=B/\(y:Int)∉R 0 x\/∃ (z:af) (k:Int×Int),f=.ref z/\H z=some (.tup [.int k.1,.int k.2])/\(k,false)∈B/\B'=TL k B/\(y:Int)∈R 0 x
def Ui (H:Hp) (us:List Tt) (w:Bool) (B B':List ((Int×Int)×Bool)) (R:Nat->Nat->List Int) (x y:Nat):Prop:=w=false/\us=[]/\B'=B\/w=true/\∃ us0 v,us=us0++[v]/\Fnd H v.f B B' R x y
def Ui.mono {us:List Tt}{w:Bool}{B B':List ((Int×Int)×Bool)}{x y:Nat}(h:Ui H us w B B' R x y) (S:∀ b xs,H b=some (.tup xs)->H' b=some (.tup xs)):Ui H' us w B B' R x y:=h.imp id λ⟨h0,us0,v,h1,h2⟩=>⟨h0,us0,v,h1,h2.imp id λ⟨z,k,h3,h4,h5⟩=>⟨z,k,h3,S _ _ h4,h5⟩⟩
inductive ff (K:aa) (C:af) (A:CA) (Pt:af) (vs:List V) (H:Hp) (Q:VK) (E:XK):Prop
 | mk (a:AL) (n T:Nat) (ts:List Ti) (as:Nat->List af) (R:Nat->Nat->List Int) (t:af) (u:Ti):vs=[.ref a.q,.ref t]->AD K C A->LV C A H a n T ts as R->n<=60->T<=10->(∀ j,2^(j+1)<=n->j<=T)->Lv n T ts R->Jn ts R->u∈ts->H t=some (.tup [.int u.x,.int u.y])->ts.length<99->ow Pt H->(∀ (q:af) (us:List Tt) (ts':List Ti) (as':Nat->List af) (R':Nat->Nat->List Int) (H':Hp),H q=none->H' q=some (.lst (us.map ph))->(∀ v∈us,C9 H' v)->us.length<=1000->LV C A H' a n T ts' as' R'->Lv n T ts' R'->Jn ts' R'->Ui H' us u.wd ((ts.filter λv=>decide (v.key≠u.key)).map Ti.kb) (ts'.map Ti.kb) R' u.x u.y->ow Pt H'->Fm (Pt::fp a) H H'->Q (.ref q) H')->ff K C A Pt vs H Q E
abbrev TkI (C:af) (A:CA) (Pt tr t:af) (a:AL) (n T:Nat) (u:Ti) (tf:List Ti) (H2:Hp) (Z:L2.St) (H3:Hp):Prop:=∃ (ts1:List Ti) (as1:Nat->List af) (R1:Nat->Nat->List Int) (us:List Tt) (lv:Int) (b:Bool),Z=[some (.ref a.q),some (.ref t),some (.int lv),some (.bl b),some (.ref tr)]/\LV C A H3 a n T ts1 as1 R1/\ow Pt H3/\H3 tr=some (.lst (us.map ph))/\(∀ v∈us,C9 H3 v/\v.q∉tr::Pt::fp a)/\Fm (tr::Pt::fp a) H2 H3/\ts1.length=tf.length /\     ((b=true/\∃ kk:Nat,lv=(kk:Int)-1/\Dn n T ts1 R1 u.x u.y kk/\us.length+kk<=T+1/\ts1.map Ti.kb=tf.map Ti.kb/\u.wd=true/\(1<=kk\/∃ us0 v,us=us0++[v]/\v.f=.non))\/b=false/\Lv n T ts1 R1/\Jn ts1 R1/\us.length<=T+1/\Ui H3 us u.wd (tf.map Ti.kb) (ts1.map Ti.kb) R1 u.x u.y)
def zY:Rn (ff K C A Pt) (rO K C A (dR K C A) (dS K C A Pt)) Vl:=by
 rintro vs H Q E ⟨a,n,T,ts,as,R,t,u,rfl,ct,h,hn,hT10,hT,L,J,hu,ht,hlen,hP,k⟩;obtain ⟨l1,l2,l3⟩:=L.lt u hu;unfold rO;k_go;refine ⟨a.q,A.bG,a.dq,_,_,rfl,h.ob,ct.lc,ct.l1,OY,?_⟩;lk;refine .inr ⟨a.d1,.int u.cS,rfl,.inr ⟨_,pk u.x u.y,t,.inl h.e1,rfl,ht,(ir (f:=λt=>V.int t.cS) L.nd hu).symm⟩,?_⟩;k_go;refine ⟨a.q,A.bG,a.dq,_,_,rfl,h.ob,ct.lc,ct.l2,TX,?_⟩;lk;refine .inr ⟨a.d2,.bl u.wd,rfl,.inr ⟨_,pk u.x u.y,t,.inl h.e2,rfl,ht,(ir (f:=λt=>V.bl t.wd) L.nd hu).symm⟩,?_⟩;k_in;refine ⟨a.q,a.dq,_,rfl,h.ob,Vq,?_⟩;lk;refine ⟨a,n,T,ts,as,R,t,u,rfl,ct,h,by lia,hu,L.nd,by lia,l2,by lia,l3,λhw i hi=>(L.ed i (by lia) _ _).mpr ⟨u,hu,hw,hi,.inl rfl⟩,ht,λas1 R1 H1 h1 eR F1=>?_⟩;have P1:=hP.fm h F1;have ht1:=F1 _ _ (h.sI ht) ht;lk;refine ⟨bI (m:=0) (av 0),λtr htr=>?_⟩;have S2:=bN.cK (o:=.lst []) htr;have g2:(upd H1 tr (.lst [])) tr=some (.lst []):=aF;have ntf:=h1.sH htr
 have ntP:tr≠Pt:=λz=>by
  obtain ⟨ps,q⟩:=P1.tbl;rw [z,q] at htr;cases htr
 have ntL:a.L≠tr:=aQ h1.ls htr;have htr0:H tr=none:=F1.free ntf htr;generalize upd H1 tr (.lst [])=H2 at S2 g2;have h2:=h1.same S2;have P2:=P1.same S2;have ht2:=S2 _ _ ht1;have F2:Fm (Pt::fp a) H H2:=(F1.trans (Fm.of S2)).tail;generalize ef:(ts.filter λv=>decide (v.key≠u.key))=tf at h1 h2 k
 have hlf:tf.length<=ts.length:=by rw [← ef];exact cw _ _
 lk;unfold o7;refine Be (TkI C A Pt tr t a n T u tf H2) (λZ _=>match Z with|[_,_,some (.int lv),_,_]=>(lv+1).toNat|_=>0) ?_ ?_
 ·refine ⟨tf,as1,R1,[],u.cS,u.wd,rfl,h2,P2,g2,(λv hv=>nomatch hv),Fm.refl,rfl,?_⟩
  cases hw:u.wd with
  | true =>
   rw [hw,if_pos rfl] at eR;subst eR
   exact .inl ⟨rfl,u.cS+1,by lia,ef▸L.drop J hu hw,by simp;lia,rfl,rfl,.inl (by lia)⟩
  | false =>
   rw [hw,if_neg (by decide)] at eR;subst eR;obtain ⟨L',J'⟩:=L.Zk J hu hw;exact .inr ⟨rfl,ef▸L',ef▸J',by simp,.inl ⟨rfl,rfl,rfl⟩⟩
 ·rintro Z H3 ⟨ts1,as1,R1,us,lv,b,rfl,h3,P3,g3,u3,F3,hk,hc⟩;have fin:Lv n T ts1 R1->Jn ts1 R1->us.length<=T+1->Ui H3 us u.wd (tf.map Ti.kb) (ts1.map Ti.kb) R1 u.x u.y->Q (.ref tr) H3:=λL' J' hl hr=>k tr us ts1 as1 R1 H3 htr0 g3 (λv hv=>(u3 v hv).1) (by lia) h3 L' J' hr P3 (F2.skip F3 htr0);lk;refine ⟨_,rfl,?_⟩
  cases b with
  | false =>
   refine iX (iX ?_);lk
   rcases hc with ⟨z,_⟩|⟨_,L',J',hl,hr⟩
   ·cases z
   ·exact fin L' J' hl hr
  | true =>
   refine lD ?_;lk
   obtain ⟨kk,rfl,D,hl,hkb,huw,hfst⟩:∃ kk:Nat,lv=(kk:Int)-1/\Dn n T ts1 R1 u.x u.y kk/\us.length+kk<=T+1/\ts1.map Ti.kb=tf.map Ti.kb/\u.wd=true/\(1<=kk\/∃ us0 v,us=us0++[v]/\v.f=.non):=by
    rcases hc with ⟨_,h⟩|⟨z,_⟩
    ·exact h
    ·cases z
   refine tI (λc=>⟨_,PR,?_⟩) λc=>?_
   ·obtain ⟨m,rfl⟩:∃ m,kk=m+1:=⟨kk-1,by lia⟩
    rw [show ((m+1:Nat):Int)-1=(m:Int) by lia];lk;refine ⟨.inl ⟨rfl,_,c6.of g3⟩,?_⟩;k_in;refine ⟨a.q,a.dq,_,rfl,h3.ob,Vq,?_⟩;lk
    have nt3:t∉tr::Pt::fp a:=by
     simp only [au,not_or];exact ⟨fX ht2 g2,P2.ne ht2 (λ_ z=>nomatch z),h2.sI ht2⟩
    refine ⟨a,n,T,ts1,as1,R1,m,t,u.x,u.y,rfl,ct,h3,hn,hT,D,F3 _ _ nt3 ht2,by lia,P3,λts4 as4 R4 H4 v hp hq ok h4 P4 F4 hD=>?_⟩;have g4:H4 tr=some (.lst (us.map ph)):=F4 _ _ (by simp only [au,not_or];exact ⟨ntP,ntf⟩) g3
    have nvq:v.q∉tr::Pt::fp a:=by
     simp only [au,not_or];refine ⟨Ne.symm (aQ g3 hq),λz=>?_,h3.sH hq⟩;obtain ⟨ps,q⟩:=P3.tbl;rw [z,q] at hq;cases hq
    lk;refine qX g4 (eP (m:=100) (by rw [ag];lia)) ?_
    have ne:∀ {b:af}{o:HO},H4 b=some o->(∀ xs,o≠.lst xs)->(upd H4 tr (.lst (us.map ph++[.ref v.p]))) b=some o:=λ{b o} e hno=>by rw [aH];exact e;rintro rfl;rw [g4] at e;cases e;exact hno _ rfl
    have g5:(upd H4 tr (.lst (us.map ph++[.ref v.p]))) tr=some (.lst ((us++[v]).map ph)):=by rw [aF,aP];rfl
    have h5:LV C A (upd H4 tr (.lst (us.map ph++[.ref v.p]))) a n T ts4 as4 R4:=h4.app g4 (by intro i r e;cases us<;>cases e) ntf ntL;have P5:ow Pt (upd H4 tr (.lst (us.map ph++[.ref v.p]))):=P4.keep λb o _ h2 _ _ e=>ne e h2
    have ok5:C9 (upd H4 tr (.lst (us.map ph++[.ref v.p]))) v:=⟨ne ok.1 (λ_ z=>nomatch z),by rw [aH λz=>nvq (by rw [z];exact aw)];exact ok.2⟩
    have u5:∀ w∈us,C9 (upd H4 tr (.lst (us.map ph++[.ref v.p]))) w:=λw hw=>by
     obtain ⟨⟨o1,o2⟩,o3⟩:=u3 w hw
     have n1:w.p∉Pt::fp a:=by simp only [au,not_or];exact ⟨P3.ne o1 (λ_ z=>nomatch z),h3.sI o1⟩
     refine ⟨ne (F4 _ _ n1 o1) (λ_ z=>nomatch z),?_⟩;rw [aH λz=>o3 (by rw [z];exact aw)];exact F4 _ _ (λz=>o3 (aj _ z)) o2
    have F5:Fm (tr::Pt::fp a) H2 (upd H4 tr (.lst (us.map ph++[.ref v.p]))):=(F3.trans F4.tail).trans (Fm.upd aw);generalize upd H4 tr (.lst (us.map ph++[.ref v.p]))=H5 at g5 h5 P5 ok5 u5 F5 ne;lk;refine jU (c6.of g5) (v:=.ref v.p) ?_ ?_
    ·rw [aP];exact Io _ _
    refine fD (jZ.of ok5.1) (d9 (j:=3) rfl rfl) ?_;lk;refine ⟨⟨ts4,as4,R4,us++[v],(m:Int)-1,decide (v.f=.non),rfl,h5,P5,g5,λw hw=>?_,F5,?_,?_⟩,?_⟩
    ·rcases aN.mp hw with hw|hw
     ·exact ⟨u5 w hw,(u3 w hw).2⟩
     ·rw [aA.mp hw];exact ⟨ok5,nvq⟩
    ·have q4:ts4.length=ts1.length:=by
      rcases hD with ⟨_,e,_⟩|⟨_,_,_,_,_,e,_⟩<;>have:=congrArg dt e<;>simpa [TL] using this
     lia
    ·rcases hD with ⟨e,e4,D4⟩|⟨z,kf,e,hz,hm,e4,L4,J4,y4⟩
     ·exact .inl ⟨decide_eq_true e,m,rfl,D4,by simp;lia,e4.trans hkb,huw,.inr ⟨us,v,rfl,e⟩⟩
     ·rw [hkb] at hm e4;exact .inr ⟨decide_eq_false (by rw [e];exact λz=>nomatch z),L4,J4,by simp;lia,.inr ⟨huw,us,v,rfl,.inr ⟨z,kf,e,ne hz (λ_ z=>nomatch z),hm,e4,y4⟩⟩⟩
    ·show ((m:Int)-1+1).toNat<((m:Int)+1).toNat
     lia
   ·lk
    have:kk=0:=by lia
    subst this;obtain ⟨us0,v,rfl,hv⟩:=hfst.resolve_left (by lia);exact fin D.lv D.done (by lia) (.inr ⟨huw,us0,v,rfl,.inl ⟨hv,hkb,D.ap⟩⟩)
def Ly {sp:Sp}{dvs:List V}{E:XK}{t:TA}{Z:L2.St}(h:t Z H λvs H1=>∀ x dx,H1 x=none->H1 dx=none->dx≠x->sp (.ref x::(vs++dvs)) (upd (upd H1 dx (.own x)) x (.ins C dx [])) (λv H2=>v=.non/\Q (.ref x) H2) E):Ik C sp dvs E t Z H Q:=h
def GD {Z:L2.St}(h:∀ p,H p=none->Q (.ref p) (upd H p (.dT []))):uR Z H Q:=h
def Top.small {n:Int}{j:Nat}(h:Top n j) (hn:n<=200):j<8:=by
 rcases h.1 with z|z
 ·lia
 ·by_cases c:j<8
  ·exact c
  ·have:(2:Int)^8<=2^j:=by
    have e:(2:Int)^j=2^(j-8)*2^8:=by rw [← Int.pow_add];congr 1;lia
    have h1:(1:Int)<=2^(j-8):=Jt (j-8);rw [e];have:=Int.mul_le_mul_of_nonneg_right h1 (show (0:Int)<=2^8 by decide);lia
   have e8:(2:Int)^8=256:=by decide
   lia
def WA.out {c:af}{as:List af}{R:Nat->List Int}{o:HO}(W:WA C H p dx l n as R) (h1:p≠c) (h2:l≠c) (h3:∀ a∈as,a≠c):WA C (upd H c o) p dx l n as R :=
 ⟨by rw [aH h1];exact W.ob,by rw [aH h2];exact W.rl,W.len,λi a h=>by rw [aH (h3 a (aR h))];exact W.at_ i a h,W.ne⟩
inductive cP (K:aa) (C:af) (A:CA) (vs:List V) (H:Hp) (Q:VK) (E:XK):Prop
 | mk (q dq:af) (n:Nat):vs=[.ref q,.int n]->H q=some (.ins A.bG dq [])->AD K C A->1<=n->n<=200->(∀ (a:AL) (T:Nat) (as:Nat->List af) (H':Hp),a.q=q->a.dq=dq->LV C A H' a n T [] as (λ_ i=>[(i:Int)])->Top n T->bq q H H'->(∀ b∈a.L::fp a,H b=none)->Q .non H')->cP K C A vs H Q E
def tL:Rn (cP K C A) (nc K C A (fI K C) (pX K C)) qh:=by
 rintro vs H Q E ⟨q,dq,n,rfl,hq,ct,hn1,hn2,k⟩;unfold nc;k_ne;refine lH (GD λd1 hd1=>?_);lk;have nq1:q≠d1:=aQ hq hd1;refine ⟨q,A.bG,dq,[],rfl,by rw [aH nq1];exact hq,ct.lc,ct.l1,by decide,?_⟩;have g1:(upd (upd H d1 (.dT [])) q (.ins A.bG dq (dW "level_of" (.ref d1) []))) q=some (.ins A.bG dq [("level_of",.ref d1)]):=aF
 have e1:(upd (upd H d1 (.dT [])) q (.ins A.bG dq (dW "level_of" (.ref d1) []))) d1=some (.dT []):=by rw [aH (Ne.symm nq1)];exact aF
 have B1:bq q H (upd (upd H d1 (.dT [])) q (.ins A.bG dq (dW "level_of" (.ref d1) []))):=λb o e hb=>by rw [aH hb,aH (aQ e hd1)];exact e
 generalize upd (upd H d1 (.dT [])) q (.ins A.bG dq (dW "level_of" (.ref d1) []))=H1 at g1 e1 B1;dsimp only;k_ne;refine lH (GD λd2 hd2=>?_);lk;have nq2:q≠d2:=aQ g1 hd2;refine ⟨q,A.bG,dq,_,rfl,by rw [aH nq2];exact g1,ct.lc,ct.l2,by show 1<1000;decide,?_⟩;rw [d5 (by decide +kernel)];have g2:(upd (upd H1 d2 (.dT [])) q (.ins A.bG dq (("level_of",.ref d1)::dW "wooden" (.ref d2) []))) q=some (.ins A.bG dq [("level_of",.ref d1),("wooden",.ref d2)]):=aF
 have e2:(upd (upd H1 d2 (.dT [])) q (.ins A.bG dq (("level_of",.ref d1)::dW "wooden" (.ref d2) []))) d2=some (.dT []):=by rw [aH (Ne.symm nq2)];exact aF
 have B2:bq q H1 (upd (upd H1 d2 (.dT [])) q (.ins A.bG dq (("level_of",.ref d1)::dW "wooden" (.ref d2) []))):=λb o e hb=>by rw [aH hb,aH (aQ e hd2)];exact e
 have Ot:d1≠d2:=aQ e1 hd2;generalize upd (upd H1 d2 (.dT [])) q (.ins A.bG dq (("level_of",.ref d1)::dW "wooden" (.ref d2) []))=H2 at g2 e2 B2;dsimp only;k_ne;refine lH (GD λd3 hd3=>?_);lk;have nq3:q≠d3:=aQ g2 hd3;refine ⟨q,A.bG,dq,_,rfl,by rw [aH nq3];exact g2,ct.lc,ct.l3,by show 2<1000;decide,?_⟩;rw [d5 (by decide +kernel),d5 (by decide +kernel)];have g3:(upd (upd H2 d3 (.dT [])) q (.ins A.bG dq (("level_of",.ref d1)::("wooden",.ref d2)::dW "weight_of" (.ref d3) []))) q=some (.ins A.bG dq [("level_of",.ref d1),("wooden",.ref d2),("weight_of",.ref d3)]):=aF
 have e3:(upd (upd H2 d3 (.dT [])) q (.ins A.bG dq (("level_of",.ref d1)::("wooden",.ref d2)::dW "weight_of" (.ref d3) []))) d3=some (.dT []):=by rw [aH (Ne.symm nq3)];exact aF
 have B3:bq q H2 (upd (upd H2 d3 (.dT [])) q (.ins A.bG dq (("level_of",.ref d1)::("wooden",.ref d2)::dW "weight_of" (.ref d3) []))):=λb o e hb=>by rw [aH hb,aH (aQ e hd3)];exact e
 have Sb:d2≠d3:=aQ e2 hd3;have RR:d1≠d3:=aQ (B2 _ _ e1 (Ne.symm nq1)) hd3;generalize upd (upd H2 d3 (.dT [])) q (.ins A.bG dq (("level_of",.ref d1)::("wooden",.ref d2)::dW "weight_of" (.ref d3) []))=H3 at g3 e3 B3;have B:=(B1.trans B2).trans B3;have f1:=B3 _ _ (B2 _ _ e1 (Ne.symm nq1)) (Ne.symm nq1);have f2:=B3 _ _ e2 (Ne.symm nq2)
 have fr:∀ {b:af},b≠q->H3 b=none->H b=none:=λ{b} hb e=>by
  cases z:H b with
  | none=>rfl
  | some o=>rw [B _ _ z hb] at e;cases e
 have fr2:∀ {b:af},b≠q->H2 b=none->H b=none:=λ{b} hb e=>by
  cases z:H b with
  | none=>rfl
  | some o=>rw [(B1.trans B2) _ _ z hb] at e;cases e
 have fr1:∀ {b:af},b≠q->H1 b=none->H b=none:=λ{b} hb e=>by
  cases z:H b with
  | none=>rfl
  | some o=>rw [B1 _ _ z hb] at e;cases e
 dsimp only;refine lH ?_;lk;refine ⟨n,rfl,λj hj=>?_⟩;have hj8:=hj.small (by lia);lk;refine ⟨by lia,by lia,λacc hacc=>?_⟩
 have e0:(((j:Int)+1)).toNat=j+1:=by lia
 rw [e0];refine mF (n:=j+1) (λt ys H4=>H4 acc=some (.lst ys)/\bN H3 H4/\∃ (ws:List (af×af×af)) (as:Nat->List af),ys=ws.map (λw=>V.ref w.1)/\ws.length=t/\(ws.map (·.2.2)).Nodup/\∀ (i:Nat) w,ws[i]?=some w->WA C H4 w.1 w.2.1 w.2.2 n (as i) (λi=>[(i:Int)])/\H3 w.2.2=none/\w.1≠acc/\w.2.2≠acc/\∀ b∈as i,b≠acc) (λZ=>∃ o,Z=[o,some (.int n)]) ⟨aF,bN.cK hacc,[],λ_=>[],rfl,rfl,oF,λi w hw=>nomatch hw⟩ ⟨_,rfl⟩ ?_ ?_ ?_ ?_
 ·rintro t ys H4 ⟨h,_⟩;exact h
 ·rintro ys H4 ⟨g4,S4,ws,as,rfl,hl,nd,hw⟩;refine ⟨av _,?_⟩;lk;refine ⟨q,A.bG,dq,_,rfl,S4 _ _ g3,ct.lc,ct.l4,by show 3<1000;decide,?_⟩;rw [d5 (by decide +kernel),d5 (by decide +kernel),d5 (by decide +kernel)]
  have naq:acc≠q:=λz=>by rw [z,g3] at hacc;cases hacc
  have hb:bq q H4 (upd H4 q (.ins A.bG dq (("level_of",.ref d1)::("wooden",.ref d2)::("weight_of",.ref d3)::dW "woods" (.ref acc) []))):=bq.upd
  have nl:∀ {b:af}{o:HO},H4 b=some o->(∀ x y z,o≠.ins x y z)->b≠q:=λ{b o} e hno z=>by rw [z,S4 _ _ g3] at e;cases e;exact hno _ _ _ rfl
  refine k ⟨q,dq,d1,d2,d3,acc,ws⟩ j as _ rfl rfl ⟨aF,hb _ _ (S4 _ _ f1) (Ne.symm nq1),hb _ _ (S4 _ _ f2) (Ne.symm nq2),hb _ _ (S4 _ _ e3) (Ne.symm nq3),hb _ _ g4 naq,hl,λi w hi=>?_,λ_ _=>Wd.start n,hn1,Ot,RR,Sb,nd,λw hm=>?_⟩ hj (λb o e hne=>hb _ _ (S4 _ _ (B _ _ e hne)) hne) λb hb=>?_
  ·obtain ⟨W,_⟩:=hw i w hi;refine W.out (λz=>?_) (nl W.rl (λ_ _ _ z=>nomatch z)) λa ha=>?_
   ·have:=W.ob;rw [z,S4 _ _ g3] at this;cases this
   ·obtain ⟨i,hi⟩:=bJ.mp ha;exact nl (W.at_ i a hi) (λ_ _ _ z=>nomatch z)
  ·obtain ⟨i,hi⟩:=bJ.mp hm;exact Ne.symm (hw i w hi).2.2.2.1
  ·simp only [fp,au,aT] at hb
   rcases hb with rfl|rfl|rfl|rfl|⟨w,hm,rfl⟩
   ·exact fr naq hacc
   ·exact hd1
   ·exact fr1 (Ne.symm nq2) hd2
   ·exact fr2 (Ne.symm nq3) hd3
   ·obtain ⟨i,hi⟩:=bJ.mp hm;obtain ⟨W,h3,_⟩:=hw i w hi;exact fr (nl W.rl (λ_ _ _ z=>nomatch z)) h3
 ·rintro t ys H4 ht _;exact ht
 ·rintro t ys σ' H4 x H5 ht ⟨g4,S4,ws,as,rfl,hl,nd,hw⟩ ⟨o,rfl⟩ ⟨eH,ex⟩;subst eH ex;lk;refine lD ?_;refine Ly ?_;lk;intro xw dxw hx hdx hne
  have T0:bN H5 (upd (upd H5 dxw (.own xw)) xw (.ins C dxw [])):=λb o e=>by rw [aH (aQ e hx),aH (aQ e hdx)];exact e
  refine ⟨xw,dxw,n,rfl,aF,ct.w,by lia,λl bs H6 W hl6 B6=>⟨rfl,?_⟩⟩;have T:bN H5 H6:=λb o e=>B6 _ _ (T0 _ _ e) (aQ e hx);have hl5:=T0.free hl6;have nxa:xw≠acc:=Ne.symm (aQ g4 hx);have nla:l≠acc:=Ne.symm (aQ g4 hl5)
  have naa:∀ a∈bs,a≠acc:=λa ha z=>by
   obtain ⟨i,hi⟩:=bJ.mp ha;have h1:=W.at_ i a hi;rw [z,T _ _ g4] at h1;cases ws<;>cases h1
  have SA:bN H3 (upd H6 acc (.lst (ws.map (λw=>V.ref w.1)++[.ref xw]))):=λb o e=>by rw [aH (aQ e hacc)];exact T _ _ (S4 _ _ e)
  refine ⟨T _ _ g4,eP (m:=100) (by rw [ag];lia),ky.mk' ht ⟨_,rfl⟩ ⟨aF,SA,ws++[(xw,dxw,l)],(λi=>if i=t then bs else as i),by rw [aP];rfl,by rw [bz,hl];rfl,?_,λi w hi=>?_⟩⟩
  ·rw [aP,fA];refine ⟨nd,by simp,λp hp q hq e=>?_⟩;obtain ⟨w,hm,rfl⟩:=aT.mp hp;obtain ⟨i,hi⟩:=bJ.mp hm;have:=(hw i w hi).1.rl;rw [oI,aA] at hq;rw [e.trans hq,hl5] at this;cases this
  ·by_cases c:i=t
   ·subst c;rw [← hl,dY (av _),Nat.sub_self] at hi;cases hi;dsimp only;rw [if_pos rfl];exact ⟨W.out nxa nla naa,S4.free hl5,nxa,nla,naa⟩
   ·have hi':i<t:=by
     have:=(aC.mp hi).1;rw [bz,hl] at this;simp at this;lia
    rw [fQ (by lia)] at hi;dsimp only;rw [if_neg c];obtain ⟨W',m1,m2,m3,m4⟩:=hw i w hi;exact ⟨(W'.same T).out m2 m3 m4,m1,m2,m3,m4⟩
def wG {ta tv:TE}{rd:V->V->Hp->VK->Prop}{f:bj}{D:tD}{Z:L2.St}(h:ta Z H λx H1=>∃ a C dx fs v,x=.ref a/\H1 a=some (.ins C dx fs)/\Dm K C/\dM K C f/\fs.lookup f=some v /\
 tv Z H1 λy H2=>rd v y H2 λz H3=>∃ dx' fs',H3 a=some (.ins C dx' fs')/\fs'.length<1000/\D.nx Z (upd H3 a (.ins C dx' (dW f z fs')))):sP K ta tv rd f D Z H:=h
def fK (n:Nat) (q w:af) (c1 c2 c3 c4:Int):List (bj×V):=dW "lost" (.int c4) (dW "risen" (.int c3) (dW "looked" (.int c2) (dW "came" (.int c1) (dW "wood" (.ref w) (dW "levels" (.ref q) (dW "n" (.int n) []))))))
section
variable {q w:af}{c1 c2 c3 c4 c:Int}
def Q8 {f:bj}{v:V}:dW f v []=[(f,v)]:=rfl
def mC:fK n q w c1 c2 c3 c4=([("n",.int n),("levels",.ref q),("wood",.ref w),("came",.int c1),("looked",.int c2),("risen",.int c3),("lost",.int c4)]:List (bj×V)):=by
 unfold fK
 repeat (first|rw [Q8]|rw [d5 (by decide +kernel)])
def fK1:(fK n q w c1 c2 c3 c4).lookup ("n":bj)=some (.int n):=by rw [mC];exact uo
def W5:(fK n q w c1 c2 c3 c4).lookup ("levels":bj)=some (.ref q):=by rw [mC,fM (by decide +kernel)];exact uo
def fK4:(fK n q w c1 c2 c3 c4).lookup ("came":bj)=some (.int c1):=by rw [mC,fM (by decide +kernel),fM (by decide +kernel),fM (by decide +kernel)];exact uo
def fK5:(fK n q w c1 c2 c3 c4).lookup ("looked":bj)=some (.int c2):=by rw [mC,fM (by decide +kernel),fM (by decide +kernel),fM (by decide +kernel),fM (by decide +kernel)];exact uo
def fK6:(fK n q w c1 c2 c3 c4).lookup ("risen":bj)=some (.int c3):=by rw [mC,fM (by decide +kernel),fM (by decide +kernel),fM (by decide +kernel),fM (by decide +kernel),fM (by decide +kernel)];exact uo
def fK7:(fK n q w c1 c2 c3 c4).lookup ("lost":bj)=some (.int c4):=by rw [mC,fM (by decide +kernel),fM (by decide +kernel),fM (by decide +kernel),fM (by decide +kernel),fM (by decide +kernel),fM (by decide +kernel)];exact uo
def Kq {m:bj}(h1:¬ m="n":=by decide +kernel) (h2:¬ m="levels":=by decide +kernel) (h3:¬ m="wood":=by decide +kernel) (h4:¬ m="came":=by decide +kernel) (h5:¬ m="looked":=by decide +kernel) (h6:¬ m="risen":=by decide +kernel) (h7:¬ m="lost":=by decide +kernel):(fK n q w c1 c2 c3 c4).lookup m=none:=by rw [mC,fM h1,fM h2,fM h3,fM h4,fM h5,fM h6,fM h7];rfl
def Z8:(fK n q w c1 c2 c3 c4).length<1000:=by rw [mC];show 7<1000;decide
def fKp4:dW "came" (.int c) (fK n q w c1 c2 c3 c4)=fK n q w c c2 c3 c4:=by rw [mC,mC,d5 (by decide +kernel),d5 (by decide +kernel),d5 (by decide +kernel),wF]
def fKp5:dW "looked" (.int c) (fK n q w c1 c2 c3 c4)=fK n q w c1 c c3 c4:=by rw [mC,mC,d5 (by decide +kernel),d5 (by decide +kernel),d5 (by decide +kernel),d5 (by decide +kernel),wF]
def fKp6:dW "risen" (.int c) (fK n q w c1 c2 c3 c4)=fK n q w c1 c2 c c4:=by rw [mC,mC,d5 (by decide +kernel),d5 (by decide +kernel),d5 (by decide +kernel),d5 (by decide +kernel),d5 (by decide +kernel),wF]
def fKp7:dW "lost" (.int c) (fK n q w c1 c2 c3 c4)=fK n q w c1 c2 c3 c:=by rw [mC,mC,d5 (by decide +kernel),d5 (by decide +kernel),d5 (by decide +kernel),d5 (by decide +kernel),d5 (by decide +kernel),d5 (by decide +kernel),wF]
end
def Top.lo (h:Top n T):2^(T+1)<=n\/T=0:=by
 rcases h.1 with z|z
 ·exact .inr z
 ·left
  have:((2^(T+1):Nat):Int)=2*(2:Int)^T:=by rw [OW,Int.natCast_mul,Int.natCast_pow];exact Int.mul_comm _ _
  lia
def Top.hi (h:Top n T):∀ j,2^(j+1)<=n->j<=T:=λj hj=>by
 have h2:=h.2
 by_cases c:j<=T
 ·exact c
 ·have h3:2^(T+2)<=2^(j+1):=R8 (by decide) (by lia)
  have:((2^(T+2):Nat):Int)=4*(2:Int)^T:=by push_cast;rw [Dj,Dj];lia
  lia
section
def LV.inst {c d:af}{fs:List (bj×V)}{o:HO}(h:LV C A H a n T ts as R) (hp:H p=some (.ins c d fs)) (h1:fs.lookup ("rows":bj)=none) (h2:fs.lookup ("woods":bj)=none):LV C A (upd H p o) a n T ts as R :=
 h.keep (X:=[p]) (Fm.upd aw) (λx f e _ hx hm=>by
  rw [aA.mp hm] at e hx
  rcases hx with z|⟨w,hw,z⟩
  ·have:=h.ob;rw [← z,hp] at this;cases this;rw [Vp] at h2;cases h2
  ·obtain ⟨i,_,hi⟩:=h.at hw;have:=(h.wa i w hi).ob;rw [← z,hp] at this;cases this
   rw [iK] at h1;cases h1) (λb hb hm=>h.outI hp (aA.mp hm▸hb)) (λhm=>by
   have:=h.ls
   rw [aA.mp hm,hp] at this;cases this) λb r _ e hm=>by rw [aA.mp hm,hp] at e;cases e
structure KP (C:af) (A:CA) (H:Hp) (p dx:af) (a:AL) (n T:Nat) (ts:List Ti) (as:Nat->List af) (R:Nat->Nat->List Int):Prop where
 ob:∃ (w:af×af×af) (c1 c2 c3 c4:Int),a.ws[0]?=some w/\H p=some (.ins A.Keeper dx (fK n a.q w.1 c1 c2 c3 c4))
 lv:LV C A H a n T ts as R
 iv:Lv n T ts R
 jn:Jn ts R
 tp:Top n T
def KP.same (h:KP C A H p dx a n T ts as R) (S:bN H H'):KP C A H' p dx a n T ts as R:=by
 obtain ⟨w,c1,c2,c3,c4,hw,hp⟩:=h.ob;exact ⟨⟨w,c1,c2,c3,c4,hw,S _ _ hp⟩,h.lv.same S,h.iv,h.jn,h.tp⟩
structure KS (C:af) (A:CA) (a:AL) (n T:Nat) (as:Nat->List af) (p dx:af) (H0:Hp) (m:Nat) (fs:List (bj×V)) (H:Hp):Prop where
 g:H p=some (.ins A.Keeper dx fs)
 lv:LV C A H a n T [] as (λ_ i=>[(i:Int)])
 r:fs.lookup ("rows":bj)=none
 w:fs.lookup ("woods":bj)=none
 len:fs.length<=m
 b:bq p H0 H
theorem B9 (f:bj) (v:V):∀ fs:List (bj×V),(dW f v fs).length<=fs.length+1
 | []=>av _
 | (g,x)::r=>by
  by_cases c:g=f
  ·subst c;rw [wF];exact iL _
  ·rw [d5 c];exact sM (B9 f v r)
def KS.put {H0:Hp}{m:Nat}{fs:List (bj×V)}(s:KS C A a n T as p dx H0 m fs H) (f:bj) (v:V) (h1:¬ ("rows":bj)=f:=by decide +kernel) (h2:¬ ("woods":bj)=f:=by decide +kernel):KS C A a n T as p dx H0 (m+1) (dW f v fs) (upd H p (.ins A.Keeper dx (dW f v fs))) :=
 ⟨aF,s.lv.inst s.g s.r s.w,by rw [fk,if_neg h1];exact s.r,by rw [fk,if_neg h2];exact s.w,bu (B9 f v fs) (sM s.len),s.b.trans bq.upd⟩
end
inductive cu (K:aa) (C:af) (A:CA) (vs:List V) (H:Hp) (Q:VK) (E:XK):Prop
 | mk (p dx:af) (n:Nat):vs=[.ref p,.int n]->H p=some (.ins A.Keeper dx [])->AD K C A->1<=n->n<=200->(∀ (a:AL) (T:Nat) (as:Nat->List af) (H':Hp),KP C A H' p dx a n T [] as (λ_ i=>[(i:Int)])->bq p H H'->(∀ b∈a.L::fp a,H b=none)->Q .non H')->cu K C A vs H Q E
def wH:Rn (cu K C A) (pe K C A (cP K C A) (fZ K C)) qh:=by
 rintro vs H Q E ⟨p,dx,n,rfl,hp,ct,hn1,hn2,k⟩;unfold pe;lk;refine ⟨n,rfl,hn1,hn2,?_⟩;refine ⟨_,rfl,?_⟩;rw [if_neg (by simp)];lk;refine lH ?_;lk;refine ⟨p,A.Keeper,dx,[],rfl,hp,ct.kc,ct.k1,by decide,?_⟩;have g1:(upd H p (.ins A.Keeper dx (dW "n" (.int n) []))) p=some (.ins A.Keeper dx (dW "n" (.int n) [])):=aF;have B1:bq p H (upd H p (.ins A.Keeper dx (dW "n" (.int n) []))):=bq.upd;generalize upd H p (.ins A.Keeper dx (dW "n" (.int n) []))=H1 at g1 B1;dsimp only;k_ne;refine lH (Ly ?_);lk;intro q dq hq hdq hne
 have T0:bN H1 (upd (upd H1 dq (.own q)) q (.ins A.bG dq [])):=λb o e=>by rw [aH (aQ e hq),aH (aQ e hdq)];exact e
 refine ⟨q,dq,n,rfl,aF,ct,hn1,hn2,λa T as H2 ea ed L tp B2 fr=>⟨rfl,?_⟩⟩;subst ea ed;have T1:bN H1 H2:=λb o e=>B2 _ _ (T0 _ _ e) (aQ e hq);have g2:=T1 _ _ g1
 have s2:KS C A a n T as p dx H 1 (dW "n" (.int n) []) H2:=⟨g2,L,by rw [fk,if_neg (by decide +kernel)];rfl,by rw [fk,if_neg (by decide +kernel)];rfl,B9 _ _ _,λb o e hb=>T1 _ _ (B1 _ _ e hb)⟩
 have frH:∀ b∈a.L::fp a,H b=none:=λb hb=>by
  have:=fr b hb
  cases z:H b with
  | none=>rfl
  | some o =>
   by_cases c:b=p
   ·have e:=T0 _ _ g1;rw [← c,this] at e;cases e
   ·rw [T0 _ _ (B1 _ _ z c)] at this;cases this
 obtain ⟨w,hw,hwm⟩:=L.get (aK _);lk;refine ⟨p,A.Keeper,dx,_,rfl,s2.g,ct.kc,ct.k2,bf s2.len (by decide),?_⟩;have s3:=s2.put "levels" (.ref a.q);generalize upd H2 p (.ins A.Keeper dx (dW "levels" (.ref a.q) (dW "n" (.int n) [])))=H3 at s3;dsimp only;k_ne;refine lH ?_;lk;refine mv ?_;refine mv ?_;lk;refine ⟨p,A.Keeper,dx,_,_,rfl,s3.g,ct.kc,ct.k2,by rw [fk,if_pos rfl],?_⟩;refine ⟨a.q,A.bG,a.dq,_,_,rfl,s3.lv.ob,ct.lc,ct.l4,Vp,?_⟩;lk;refine jU (c6.of s3.lv.ls) (d9 (j:=0) rfl (by rw [aB,hw];rfl)) ?_;lk;refine ⟨p,A.Keeper,dx,_,rfl,s3.g,ct.kc,ct.k3,bf s3.len (by decide),?_⟩;have s4:=s3.put "wood" (.ref w.1);generalize e4:dW ("wood":bj) (V.ref w.1) (dW "levels" (.ref a.q) (dW "n" (.int n) []))=f4 at s4;generalize upd H3 p (.ins A.Keeper dx f4)=H4 at s4;dsimp only;k_ne;refine lH ?_;lk;refine ⟨p,A.Keeper,dx,_,rfl,s4.g,ct.kc,ct.k4,bf s4.len (by decide),?_⟩;have s5:=s4.put "came" (.int 0);generalize e5:dW ("came":bj) (V.int 0) f4=f5 at s5;generalize upd H4 p (.ins A.Keeper dx f5)=H5 at s5;dsimp only;k_ne;refine lH ?_;lk;refine ⟨p,A.Keeper,dx,_,rfl,s5.g,ct.kc,ct.k5,bf s5.len (by decide),?_⟩;have s6:=s5.put "looked" (.int 0);generalize e6:dW ("looked":bj) (V.int 0) f5=f6 at s6;generalize upd H5 p (.ins A.Keeper dx f6)=H6 at s6;dsimp only;k_ne;refine lH ?_;lk;refine ⟨p,A.Keeper,dx,_,rfl,s6.g,ct.kc,ct.k6,bf s6.len (by decide),?_⟩;have s7:=s6.put "risen" (.int 0);generalize e7:dW ("risen":bj) (V.int 0) f6=f7 at s7;generalize upd H6 p (.ins A.Keeper dx f7)=H7 at s7;dsimp only;refine lH ?_;lk;refine ⟨p,A.Keeper,dx,_,rfl,s7.g,ct.kc,ct.k7,bf s7.len (by decide),?_⟩;have s8:=s7.put "lost" (.int 0);subst e4 e5 e6 e7;exact k a T as _ ⟨⟨w,0,0,0,0,hw,s8.g⟩,s8.lv,Lv.start n T tp.lo,(λt ht=>nomatch ht),tp⟩ s8.b frH
def KP.p0 (h:KP C A H p dx a n T ts as R):∃ fs,H p=some (.ins A.Keeper dx fs):=let ⟨w,c1,c2,c3,c4,_,hp⟩:=h.ob;⟨_,hp⟩
inductive iY (K:aa) (C:af) (A:CA) (vs:List V) (H:Hp) (Q:VK) (E:XK):Prop
 | mk (p dx:af) (a:AL) (n T:Nat) (ts:List Ti) (as:Nat->List af) (R:Nat->Nat->List Int) (t:af) (x y:Nat):vs=[.ref p,.ref t,.int 0]->AD K C A->KP C A H p dx a n T ts as R->n<=200->x<y->y<n->H t=some (.tup [.int x,.int y])->((x:Int),(y:Int))∉ts.map Ti.key->ts.length<99->(∀ b as' R' H',b=!decide ((y:Int)∈R 0 x)->KP C A H' p dx a n T (ts++[⟨x,y,0,b⟩]) as' R'->Fm (p::fp a) H H'->Q (.bl b) H')->iY K C A vs H Q E
def ye:Rn (iY K C A) (qu K C A (jW K C A)) IX:=by
 rintro vs H Q E ⟨p,dx,a,n,T,ts,as,R,t,x,y,rfl,ct,h,hn,hxy,hy,ht,hk,hl,k⟩;obtain ⟨w,c1,c2,c3,c4,hw,hp⟩:=h.ob;unfold qu;lk;refine wG ?_;lk;refine ⟨p,A.Keeper,dx,_,_,rfl,hp,ct.kc,ct.k4,fK4,?_⟩;lk;refine ⟨c1,1,rfl,rfl,dx,_,hp,Z8,?_⟩;rw [fKp4];have L1:=h.lv.inst (o:=.ins A.Keeper dx (fK n a.q w.1 (c1+1) c2 c3 c4)) hp Kq Kq;have p1:(upd H p (.ins A.Keeper dx (fK n a.q w.1 (c1+1) c2 c3 c4))) p=_:=aF;have ht1:(upd H p (.ins A.Keeper dx (fK n a.q w.1 (c1+1) c2 c3 c4))) t=_:=(aH (fX ht hp)).trans ht;have F1:Fm (p::fp a) H (upd H p (.ins A.Keeper dx (fK n a.q w.1 (c1+1) c2 c3 c4))):=Fm.upd aw;generalize upd H p (.ins A.Keeper dx (fK n a.q w.1 (c1+1) c2 c3 c4))=H1 at L1 p1 ht1 F1;dsimp only;lk;refine uY ?_;refine mv ?_;lk;refine ⟨p,A.Keeper,dx,_,_,rfl,p1,ct.kc,ct.k2,W5,?_⟩;refine ⟨a.q,a.dq,_,rfl,L1.ob,Vq,?_⟩;lk;refine ⟨a,n,T,ts,as,R,t,x,y,rfl,ct,L1,hn,by lia,hy,ht1,h.iv.nd,hk,hl,λb ts' as' R' H2 L2 hc F2=>?_⟩
 have hkk:(ts++[(⟨x,y,0,false⟩:Ti)]).map Ti.key=ts.map Ti.key++[((x:Int),(y:Int))]:=by rw [aP];rfl
 have V:=h.iv.put hxy hy hk;have hu:(⟨x,y,0,false⟩:Ti)∈ts++[⟨x,y,0,false⟩]:=bB _ aw
 have ob:∃ (w:af×af×af) (c1 c2 c3 c4:Int),a.ws[0]?=some w/\H2 p=some (.ins A.Keeper dx (fK n a.q w.1 c1 c2 c3 c4)):=⟨w,_,_,_,_,hw,F2 _ _ (L1.outI p1) p1⟩
 rcases hc with ⟨hj,rfl,rfl,rfl⟩|⟨hj,rfl,rfl,rfl⟩
 ·refine k _ as' _ H2 (by rw [decide_eq_true hj];rfl) ⟨ob,L2,V,λu hu=>?_,h.tp⟩ (F1.trans F2.tail)
  rcases aN.mp hu with q|q
  ·exact h.jn u q
  ·rw [aA.mp q];exact hj
 ·have hap:∀ i,i<=(⟨x,y,0,false⟩:Ti).cS->(((⟨x,y,0,false⟩:Ti).y:Nat):Int)∉R i (⟨x,y,0,false⟩:Ti).x:=λi hi=>by rw [R9.mp hi];exact hj
  have W0:=h.iv.wd 0 (aK _)
  have V':=V.adopt hu rfl hap λi hi=>by
   have e:=R9.mp hi;subst e
   have l:=((W0.lk (a:=x) (b:=y) (by lia) hy hj).len (i:=x) (by lia))
   rw [(W0.FF (x:=x) (by lia) hy hj (.inl (W0.me x (by lia)))).2] at l
   show ((R 0 x).length+(R 0 y).length+2)*2^0<=2*n
   lia
  have es:gQ (ts++[(⟨x,y,0,false⟩:Ti)]) ((x:Int),(y:Int)) Ti.vv=ts++[⟨x,y,0,true⟩]:=by
   unfold gQ;rw [aP]
   congr 1
   ·exact (eE λt ht=>if_neg λe=>hk (by rw [← e];exact aZ ht)).trans (Pa _)
   ·show [if ((x:Int),(y:Int))=((x:Int),(y:Int)) then _ else _]=_
    rw [if_pos rfl];rfl
  refine k _ as' _ H2 (by rw [decide_eq_false hj];rfl) ⟨ob,es▸L2,es▸V',λu hu'=>?_,h.tp⟩ (F1.trans F2.tail);rw [← es] at hu'
  rcases (kL (f:=Ti.vv) V.nd hu u).mp hu' with rfl|⟨q,_⟩
  ·have e:HS R 0 x y 0=lk (R 0) x y:=if_pos (av _)
   show (y:Int)∈HS R 0 x y 0 x
   rw [e];exact ((W0.FF (x:=x) (by lia) hy hj (.inl (W0.me x (by lia)))).1 _).mpr (.inr (W0.me y hy))
  ·rcases aN.mp q with q|q
   ·obtain ⟨q1,q2,q3⟩:=h.iv.lt u q;exact V.Kd hu hap q3 (by lia) _ (h.jn u q)
   ·rename_i hne
    exact absurd (by rw [aA.mp q]) hne
inductive cY (K:aa) (C:af) (A:CA) (vs:List V) (H:Hp) (Q:VK) (E:XK):Prop
 | mk (p dx:af) (a:AL) (n T:Nat) (ts:List Ti) (as:Nat->List af) (R:Nat->Nat->List Int) (x y:Nat):vs=[.ref p,.int x,.int y]->AD K C A->KP C A H p dx a n T ts as R->n<=200->x<n->y<n->x≠y->(((min x y:Nat):Int),((max x y:Nat):Int))∉ts.map Ti.key->ts.length<99->(∀ b as' R' H',b=!decide (((max x y:Nat):Int)∈R 0 (min x y))->KP C A H' p dx a n T (ts++[⟨min x y,max x y,0,b⟩]) as' R'->Fm (p::fp a) H H'->Q (.bl b) H')->cY K C A vs H Q E
def Ca:Rn (cY K C A) (uk K C A (iY K C A) (nj K C)) tJ:=by
 rintro vs H Q E ⟨p,dx,a,n,T,ts,as,R,x,y,rfl,ct,h,hn,hx,hy,hxy,hk,hl,k⟩;obtain ⟨w,c1,c2,c3,c4,hw,hp⟩:=h.ob;unfold uk;k_in;refine ⟨p,dx,_,rfl,hp,Kq,?_⟩;k_go;refine ⟨p,A.Keeper,dx,_,_,rfl,hp,ct.kc,ct.k1,fK1,?_⟩;lk;refine mv ?_;refine mv ?_;lk;refine ⟨p,A.Keeper,dx,_,_,rfl,hp,ct.kc,ct.k2,W5,?_⟩;refine ⟨a.q,A.bG,a.dq,_,_,rfl,h.lv.ob,ct.lc,ct.l1,OY,?_⟩;lk;refine ⟨n,x,y,a.d1,kl ts,rfl,hx,hy,hxy,h.lv.e1,AA hk,λt ht=>?_⟩;generalize eu_:upd H t (.tup [.int (min x y:Nat),.int (max x y:Nat)])=H1;obtain ⟨S1,g1⟩:=jK eu_ ht;lk;exact ⟨p,dx,a,n,T,ts,as,R,t,min x y,max x y,rfl,ct,h.same S1,hn,by lia,by lia,g1,hk,hl,λb as' R' H' hb h' F'=>k b as' R' H' hb h' ((Fm.of S1).trans F')⟩
inductive eQ (K:aa) (C:af) (A:CA) (Pt:af) (vs:List V) (H:Hp) (Q:VK) (E:XK):Prop
 | mk (p dx:af) (a:AL) (n T:Nat) (ts:List Ti) (as:Nat->List af) (R:Nat->Nat->List Int) (u:Ti):vs=[.ref p,.int u.x,.int u.y]->AD K C A->KP C A H p dx a n T ts as R->n<=60->u∈ts->ts.length<99->ow Pt H->(∀ q us ts' as' R' H',KP C A H' p dx a n T ts' as' R'->H q=none->H' q=some (.lst (us.map ph))->(∀ v∈us,C9 H' v)->Ui H' us u.wd ((ts.filter λv=>decide (v.key≠u.key)).map Ti.kb) (ts'.map Ti.kb) R' u.x u.y->ow Pt H'->Fm (p::Pt::fp a) H H'->Q (.ref q) H')->eQ K C A Pt vs H Q E
def GE:Rn (eQ K C A Pt) (zj K C A (eG K C) (jD K C) (ff K C A Pt) (kN K C) (iJ K C) (dF K C A)) ["self","a","b","tie","trail"]:=by
 rintro vs H Q E ⟨p,dx,a,n,T,ts,as,R,u,rfl,ct,h,hn,hu,hl,hP,k⟩;obtain ⟨w,c1,c2,c3,c4,hw,hp⟩:=h.ob;obtain ⟨l1,l2,_⟩:=h.iv.lt u hu
 have eu1:u.x=min u.x u.y:=by lia
 have eu2:u.y=max u.x u.y:=by lia
 have nPp:p≠Pt:=hP.ne hp (λ_ z=>nomatch z);unfold zj;k_go;refine ⟨p,A.Keeper,dx,_,_,rfl,hp,ct.kc,ct.k1,fK1,?_⟩;lk;refine mv ?_;refine mv ?_;lk;refine ⟨p,A.Keeper,dx,_,_,rfl,hp,ct.kc,ct.k2,W5,?_⟩;refine ⟨a.q,A.bG,a.dq,_,_,rfl,h.lv.ob,ct.lc,ct.l1,OY,?_⟩;lk;refine ⟨n,u.x,u.y,a.d1,kl ts,rfl,by lia,l2,by lia,h.lv.e1,by rw [← eu1,← eu2,ir h.iv.nd hu];rfl,λt ht=>?_⟩;rw [← eu1,← eu2];generalize eu_:upd H t (.tup [.int (u.x:Nat),.int (u.y:Nat)])=H1;obtain ⟨S1,g1⟩:=jK eu_ ht;have L1:=h.lv.same S1;have p1:=S1 _ _ hp;lk;refine wG ?_;lk;refine ⟨p,A.Keeper,dx,_,_,rfl,p1,ct.kc,ct.k7,fK7,?_⟩;k_go;refine ⟨p,A.Keeper,dx,_,_,rfl,p1,ct.kc,ct.k1,fK1,?_⟩;lk;refine uY ?_;refine mv ?_;lk;refine ⟨p,A.Keeper,dx,_,_,rfl,p1,ct.kc,ct.k2,W5,?_⟩;refine ⟨a.q,a.dq,_,rfl,L1.ob,Vq,?_⟩;lk;refine ⟨a.q,a.dq,a.d1,a.d2,a.d3,a.L,t,kl ts,kw ts,u.x,u.y,_,_,rfl,ct,L1.ob,.inl L1.e1,.inl L1.e2,g1,ir (f:=λt=>V.int t.cS) h.iv.nd hu,ir (f:=λt=>V.bl t.wd) h.iv.nd hu,λr hr=>?_⟩;generalize eu_:upd H1 r (.tup [.int u.x,.int u.y,.int u.cS,.bl u.wd])=H2;obtain ⟨S2,g2⟩:=jK eu_ hr;lk;refine ⟨bI (m:=1) (av 1),λl hl3=>?_⟩;generalize eu_:upd H2 l (.lst [.ref r])=H3;obtain ⟨S3,g3⟩:=jK eu_ hl3;lk;refine ⟨n,l,r,u.x,u.y,u.cS,u.wd,rfl,g3,S3 _ _ g2,λc H4 S4=>?_⟩;have S14:bN H H4:=((S1.trans S2).trans S3).trans S4;have p4:=S14 _ _ hp;have L4:=h.lv.same S14;have t4:=S4 _ _ (S3 _ _ (S2 _ _ g1));refine ⟨c4,c,rfl,rfl,dx,_,p4,Z8,?_⟩;rw [fKp7];have L5:=L4.inst (o:=.ins A.Keeper dx (fK n a.q w.1 c1 c2 c3 (c4+c))) p4 Kq Kq;have p5:(upd H4 p (.ins A.Keeper dx (fK n a.q w.1 c1 c2 c3 (c4+c)))) p=_:=aF;have t5:(upd H4 p (.ins A.Keeper dx (fK n a.q w.1 c1 c2 c3 (c4+c)))) t=_:=(aH (fX t4 p4)).trans t4
 have P5:ow Pt (upd H4 p (.ins A.Keeper dx (fK n a.q w.1 c1 c2 c3 (c4+c)))):=(hP.same S14).keep λb o _ _ h3 _ e=>by rw [aH];exact e;rintro rfl;rw [p4] at e;cases e;exact h3 _ _ _ rfl
 have F5:Fm (p::Pt::fp a) H (upd H4 p (.ins A.Keeper dx (fK n a.q w.1 c1 c2 c3 (c4+c)))):=(Fm.of S14).trans (Fm.upd aw);generalize upd H4 p (.ins A.Keeper dx (fK n a.q w.1 c1 c2 c3 (c4+c)))=H5 at L5 p5 t5 P5 F5;dsimp only;lk;refine uY ?_;refine mv ?_;lk;refine ⟨p,A.Keeper,dx,_,_,rfl,p5,ct.kc,ct.k2,W5,?_⟩;refine ⟨a.q,a.dq,_,rfl,L5.ob,Vq,?_⟩;lk;have hT8:=h.tp.small (by lia);refine ⟨a,n,T,ts,as,R,t,u,rfl,ct,L5,hn,by lia,h.tp.hi,h.iv,h.jn,hu,t5,hl,P5,λq us ts' as' R' H6 hq gq oks hlu L6 V6 J6 hk6 P6 F6=>?_⟩;have p6:=F6 _ _ (λz=>(au.mp z).elim nPp (L5.outI p5)) p5;lk;refine wG ?_;lk;refine ⟨p,A.Keeper,dx,_,_,rfl,p6,ct.kc,ct.k5,fK5,?_⟩;lk;refine ⟨q,us,rfl,gq,oks,hlu,λc' H7 S7=>?_⟩;have p7:=S7 _ _ p6;refine ⟨c2,c',rfl,rfl,dx,_,p7,Z8,?_⟩;rw [fKp5];have L8:=(L6.same S7).inst (o:=.ins A.Keeper dx (fK n a.q w.1 c1 (c2+c') c3 (c4+c))) p7 Kq Kq;have p8:(upd H7 p (.ins A.Keeper dx (fK n a.q w.1 c1 (c2+c') c3 (c4+c)))) p=_:=aF
 have n8:∀ {b:af}{o:HO},H7 b=some o->(∀ x y z,o≠.ins x y z)->(upd H7 p (.ins A.Keeper dx (fK n a.q w.1 c1 (c2+c') c3 (c4+c)))) b=some o:=λ{b o} e hno=>by rw [aH];exact e;rintro rfl;rw [p7] at e;cases e;exact hno _ _ _ rfl
 have F8:Fm (p::Pt::fp a) H (upd H7 p (.ins A.Keeper dx (fK n a.q w.1 c1 (c2+c') c3 (c4+c)))):=((F5.trans F6.tail).trans (Fm.of S7)).trans (Fm.upd aw);generalize upd H7 p (.ins A.Keeper dx (fK n a.q w.1 c1 (c2+c') c3 (c4+c)))=H8 at L8 p8 n8 F8;dsimp only;lk;refine wG ?_;lk;refine ⟨p,A.Keeper,dx,_,_,rfl,p8,ct.kc,ct.k6,fK6,?_⟩;lk;refine ⟨q,us,rfl,n8 (S7 _ _ gq) (λ_ _ _ z=>nomatch z),λv hv=>⟨n8 (S7 _ _ (oks v hv).1) (λ_ _ _ z=>nomatch z),n8 (S7 _ _ (oks v hv).2) (λ_ _ _ z=>nomatch z)⟩,hlu,λc'' H9 S9=>?_⟩;have p9:=S9 _ _ p8;refine ⟨c3,c'',rfl,rfl,dx,_,p9,Z8,?_⟩;rw [fKp6];dsimp only;lk
 have nz:∀ {b:af}{o:HO},H6 b=some o->(∀ x y z,o≠.ins x y z)->(upd H9 p (.ins A.Keeper dx (fK n a.q w.1 c1 (c2+c') (c3+c'') (c4+c)))) b=some o:=λ{b o} e hno=>by rw [aH];exact S9 _ _ (n8 (S7 _ _ e) hno);rintro rfl;have e:=S9 _ _ (n8 (S7 _ _ e) hno);rw [p9] at e;cases e;exact hno _ _ _ rfl
 have q0:H q=none:=by
  refine Fm.free F5 (λz=>?_) hq
  rcases au.mp z with rfl|z
  ·rw [p5] at hq;cases hq
  ·rcases au.mp z with rfl|z
   ·obtain ⟨ps,e⟩:=P5.tbl;rw [e] at hq;cases hq
   ·exact L5.sH hq z
 refine k q us ts' as' R' _ ⟨⟨w,_,_,_,_,hw,aF⟩,(L8.same S9).inst p9 Kq Kq,V6,J6,h.tp⟩ q0 (nz gq (λ_ _ _ z=>nomatch z)) (λv hv=>⟨nz (oks v hv).1 (λ_ _ _ z=>nomatch z),nz (oks v hv).2 (λ_ _ _ z=>nomatch z)⟩) (hk6.mono λb xs e=>nz e (λ_ _ _ z=>nomatch z)) (P6.keep λb o _ _ h3 _ e=>nz e h3) ((F8.trans (Fm.of S9)).trans (Fm.upd aw))
def pj (H:Hp) (u:Ti×af):Prop:=H u.2=some (.tup [.int u.1.x,.int u.1.y,.int u.1.cS,.bl u.1.wd])
def GF (t:Ti):List Int:=[(t.x:Int),(t.y:Int),(t.cS:Int),b2i t.wd]
def rV (u:Ti×af):V:=.ref u.2
inductive oq (K:aa) (C:af) (A:CA) (vs:List V) (H:Hp) (Q:VK) (E:XK):Prop
 | mk (p dx:af) (a:AL) (n T:Nat) (ts:List Ti) (as:Nat->List af) (R:Nat->Nat->List Int):vs=[.ref p]->AD K C A->KP C A H p dx a n T ts as R->ts.length<99->(∀ (q:af) (us:List (Ti×af)) (o:fT) (H':Hp),H q=none->H' q=some (.lst (us.map rV))->(∀ u∈us,pj H' u)->(us.map (·.1)).Perm ts->us.Pairwise (λu v=>fN (GF v.1) (GF u.1)=false)->H' a.d1=some (.frz o (.dT (kl ts)))->bq a.d1 H H'->Q (.ref q) H')->oq K C A vs H Q E
inductive a9 (K:aa) (C:af) (A:CA) (vs:List V) (H:Hp) (Q:VK) (E:XK):Prop
 | mk (p dx:af) (a:AL) (n T:Nat) (ts:List Ti) (as:Nat->List af) (R:Nat->Nat->List Int):vs=[.ref p]->AD K C A->KP C A H p dx a n T ts as R->ts.length<99->(∀ (q:af) (us:List (Ti×af)) (H':Hp),H q=none->H' q=some (.lst (us.map rV))->(∀ u∈us,pj H' u)->(us.map (·.1)).Perm ts->us.Pairwise (λu v=>fN (GF v.1) (GF u.1)=false)->bN H H'->Q (.ref q) H')->a9 K C A vs H Q E
def Cb:∀ vs H Q E,a9 K C A vs H Q E->oq K C A vs H (Tp H Q) E:=by
 rintro vs H Q E ⟨p,dx,a,n,T,ts,as,R,rfl,ct,h,hl,k⟩;refine ⟨p,dx,a,n,T,ts,as,R,rfl,ct,h,hl,λq us o H' hq gq fl pm so gd B=>.inr ⟨a.d1,o,kl ts,(λo' u' e=>by rw [h.lv.e1] at e;cases e),gd,?_⟩⟩;have hqd:q≠a.d1:=Ne.symm (aQ h.lv.e1 hq);refine k q us _ hq (by rw [aH hqd];exact gq) (λu hu=>(aH (fX (fl u hu) gd)).trans (fl u hu)) pm so λb ob e=>?_
 by_cases hb:b=a.d1
 ·subst hb;rw [aF,← h.lv.e1,e]
 ·rw [aH hb];exact B _ _ e hb
def Cc:Rn (oq K C A) (wC K C A (dF K C A)) ["self"]:=by
 rintro vs H Q E ⟨p,dx,a,n,T,ts,as,R,rfl,ct,h,hl,k⟩;obtain ⟨w,c1,c2,c3,c4,hw,hp⟩:=h.ob;have hnd:=h.iv.nd;unfold wC;lk;refine UN ?_;refine mv ?_;refine mv ?_;lk;refine ⟨p,A.Keeper,dx,_,_,rfl,hp,ct.kc,ct.k2,W5,?_⟩;refine ⟨a.q,A.bG,a.dq,_,_,rfl,h.lv.ob,ct.lc,ct.l1,OY,?_⟩;refine ⟨a.d1,kl ts,rfl,.inl ⟨h.lv.e1,λo=>?_⟩⟩;have g1:(upd H a.d1 (.frz o (.dT (kl ts)))) a.d1=some (.frz o (.dT (kl ts))):=aF;have B1:bq a.d1 H (upd H a.d1 (.frz o (.dT (kl ts)))):=bq.upd;generalize upd H a.d1 (.frz o (.dT (kl ts)))=H1 at g1 B1;have p1:=B1 _ _ hp (fX hp h.lv.e1);have q1:=B1 _ _ h.lv.ob (fX h.lv.ob h.lv.e1);have w1:=B1 _ _ h.lv.e2 (Ne.symm h.lv.Ot);intro acc hacc;refine mF (n:=ts.length) (λt ys H4=>H4 acc=some (.lst ys)/\bN H1 H4/\∃ us:List (Ti×af),ys=us.map rV/\us.map (·.1)=ts.take t/\∀ u∈us,pj H4 u) (λZ=>∃ o,Z=[o,some (.ref p)]) ⟨aF,bN.cK hacc,[],rfl,rfl,λz hz=>nomatch hz⟩ ⟨_,rfl⟩ ?_ ?_ ?_ ?_
 ·rintro t ys H4 ⟨e,_⟩;exact e
 ·rintro ys H4 ⟨g4,S4,us,rfl,hu,fl⟩;refine ⟨⟨by rw [lI];exact av _,S4 _ _ g1⟩,?_⟩;rw [b9 (av _)] at hu
  have hul:us.length=ts.length:=by have:=congrArg dt hu;simpa using this
  lk;refine ⟨acc,us.map (λu=>([(u.1.x:Int),(u.1.y:Int),(u.1.cS:Int),b2i u.1.wd],u.2)),[false,false,true],rfl,by rw [bo];exact c6.of g4,λz hz=>?_,by rw [ag];lia,λl zs' hl4 hperm hso=>?_⟩
  ·obtain ⟨u,hum,rfl⟩:=aT.mp hz;exact ⟨_,fl u hum,.int _ (.int _ (.int _ (.bl _ .nil)))⟩
  obtain ⟨us',hp',rfl⟩:=Sy.perm_map hperm.symm us rfl
  have hlf:H l=none:=by
   cases z:H l with
   | none=>rfl
   | some ob =>
    by_cases hb:l=a.d1
    ·rw [hb,S4 _ _ g1] at hl4;cases hl4
    ·rw [S4 _ _ (B1 _ _ z hb)] at hl4;cases hl4
  have U:∀ {b:af}{u:HO}{xs:List V},H4 b=some u->(upd H4 l (.lst xs)) b=some u:=λe=>by rw [aH (aQ e hl4)];exact e
  refine k l us' o _ hlf (by rw [aF,bo];rfl) (λu hum=>U (fl u (hp'.mem_iff.mp hum))) (by rw [← hu];exact hp'.map _) (dC.mp hso) (U (S4 _ _ g1)) λb ob e hb=>U (S4 _ _ (B1 _ _ e hb))
 ·rintro t ys H4 ht ⟨_,S4,_⟩;exact ⟨by rw [lI];exact ht,S4 _ _ g1⟩
 ·rintro t ys σ' H4 x H5 ht ⟨g4,S4,us,rfl,hu,fl⟩ ⟨o',rfl⟩ ⟨eH,key,v,b,hk,ex,hb⟩;subst eH ex
  obtain ⟨u,hu',eu⟩:∃ u,ts[t]?=some u/\(pk u.x u.y,V.int u.cS)=(key,v):=by
   have hk:(ts.map λt=>(pk t.x t.y,V.int t.cS))[t]?=some (key,v):=hk;rw [aB] at hk;exact bw.mp hk
  cases eu;have hum:=aR hu';lk;refine lD ?_;refine uY ?_;refine mv ?_;lk;refine ⟨p,A.Keeper,dx,_,_,rfl,S4 _ _ p1,ct.kc,ct.k2,W5,?_⟩;refine ⟨a.q,a.dq,_,rfl,S4 _ _ q1,Vq,?_⟩;lk;refine ⟨a.q,a.dq,a.d1,a.d2,a.d3,a.L,b,kl ts,kw ts,u.x,u.y,_,_,rfl,ct,S4 _ _ q1,.inr ⟨o,S4 _ _ g1⟩,.inl (S4 _ _ w1),hb,ir (f:=λt=>V.int t.cS) hnd hum,ir (f:=λt=>V.bl t.wd) hnd hum,λr hr=>?_⟩;generalize eu_:upd H5 r (.tup [.int u.x,.int u.y,.int u.cS,.bl u.wd])=H6;obtain ⟨T,gr⟩:=jK eu_ hr
  have hul:us.length=t:=by
   have:=congrArg dt hu;rw [ag,bK] at this;lia
  refine ⟨T _ _ g4,eP (m:=100) (by rw [ag];lia),ky.mk' ht ⟨_,rfl⟩ ⟨aF,λb' ob e=>by rw [aH (aQ e hacc)];exact T _ _ (S4 _ _ e),us++[(u,r)],by simp [rV],?_,λz hz'=>?_⟩⟩
  ·rw [aP,hu,dP,hu'];rfl
  ·have tn:∀ {z:Ti×af},pj H6 z->pj (upd H6 acc (.lst (us.map rV++[.ref r]))) z:=λ{z} e=>(aH (fX e (T _ _ g4))).trans e
   rcases aN.mp hz' with hz'|hz'
   ·exact tn (T _ _ (fl z hz'))
   ·rw [aA.mp hz'];exact tn gr
open Uf
def ni (hs:List Nat):List Int:=hs.map λv:Nat=>(v:Int)
def Q9 {hs:List Nat}{i v:Nat}(e:hs[i]?=some v):(ni hs)[i]?=some (v:Int):=by unfold ni;rw [aB,e];rfl
def Ra (hs:List Nat) (i v:Nat):((ni hs).map V.int).set i (.int v)=(ni (hs.set i v)).map V.int:=by unfold ni;rw [NC,NC]
inductive dg (K:aa) (C:af) (vs:List V) (H:Hp) (Q:VK) (E:XK):Prop
 | mk (l:af) (hs:List Nat) (n a:Nat):vs=[.ref l,.int a]->H l=some (.lst ((ni hs).map V.int))->Hd n hs->a<n->Q (.int (rt hs a:Nat)) H->dg K C vs H Q E
def DU:Rn (dg K C) (wq K C) MZ:=by
 rintro vs H Q E ⟨l,hs,n,a,rfl,hl,hd,ha,k⟩;unfold wq;lk;unfold rE;refine Be (λZ H'=>H'=H/\∃ b:Nat,Z=[some (.ref l),some (.int b)]/\b<n/\rt hs b=rt hs a) (λZ _=>match Z with|[_,some (.int b)]=>b.toNat|_=>0) ⟨rfl,a,rfl,ha,rfl⟩ ?_;rintro Z H' ⟨rfl,b,rfl,hb,e⟩;obtain ⟨v,hv,hvb⟩:=hd.get hb;lk;refine yQ (c6.of hl) rfl (Q9 hv) ?_;lk;refine K2 (λc=>?_) λc=>?_
 ·have hne:v≠b:=λz=>c (by rw [z])
  have er:rt hs v=rt hs a:=by rw [← e,BD hv,if_pos (by lia)]
  refine ⟨_,PR,?_⟩;lk;refine yQ (c6.of hl) rfl (Q9 hv) ?_;lk;refine ⟨⟨rfl,v,rfl,by lia,er⟩,?_⟩
  show (v:Int).toNat<(b:Int).toNat
  lia
 ·have c:v=b:=by injection c with c;lia
  have er:rt hs a=b:=by rw [← e,BD hv,if_neg (by lia)]
  lk;rw [er] at k;exact k
def Nc {ys:List V}{f:Nat->Nat}(hl:ys.length=n) (h:∀ (i:Nat) (y:V),ys[i]?=some y->y=V.int ((f i:Nat):Int)):ys=(ni ((dv n).map f)).map V.int:=by
 apply jG
 intro i;unfold ni;rw [bo,bo,aB]
 by_cases c:i<n
 ·have e:=ay (l:=ys) (show i<ys.length by lia);rw [e,h i _ e,nO c];rfl
 ·rw [cV (by lia),cV (by simp;lia)];rfl
def pN (z:Zt):Nat×Nat:=(z.1.toNat,z.2.1.toNat)
inductive bS (K:aa) (C:af) (vs:List V) (H:Hp) (Q:VK) (E:XK):Prop
 | mk (n:Nat) (l:af) (zs:List Zt):vs=[.int n,.ref l]->n<=200->H l=some (.lst (zs.map dQ))->(∀ z∈zs,fG H z/\0<=z.1/\z.1<n/\0<=z.2.1/\z.2.1<n)->(∀ (q:af) (hs:List Nat) (H':Hp),bN H H'->H q=none->Jo n hs (zs.map pN)->H' q=some (.lst ((ni ((dv n).map (rt hs))).map V.int))->Q (.ref q) H')->bS K C vs H Q E
def Cd:Rn (bS K C) (ud K C (dg K C)) U9:=by
 rintro vs H Q E ⟨n,l,zs,rfl,hn,hl,hz,k⟩;unfold ud;lk;refine ⟨by lia,by lia,λp hp=>vQ (n:=n) (E:=λi y _=>y=.int ((i:Nat):Int)) (S:=λZ=>∃ o,Z=[o]) hp ⟨_,rfl⟩ (by lia) (λ_ _ _ _ _ _ _ e=>e) ?_ ?_⟩
 ·rintro i σ' H' G hi S' ⟨o,rfl⟩ go;lk;exact go _ _ _ ⟨_,rfl⟩ (λ_ _ e=>e) (by rw [iM])
 ·intro ys H1 hyl g1 S1 hys;have ey:=Nc (f:=id) hyl λi y e=>hys i y e;rw [Pa] at ey;subst ey;lk;unfold qm;lk;have npl:l≠p:=aQ hl hp;refine .inl ⟨⟨_,c6.of (S1 _ _ hl)⟩,kH (K:=K) (a:=l) (xs:=zs.map dQ) (λi Z H4=>∃ (hs:List Nat) (o3 o4 o5 o6:Option V),Z=[some (.int n),some (.ref l),some (.ref p),o3,o4,o5,o6]/\H4 p=some (.lst ((ni hs).map V.int))/\Jo n hs ((zs.take i).map pN)/\bq p H1 H4) ⟨_,_,_,_,_,rfl,g1,Jo.start n,bq.refl _ _⟩ ?_ ?_ ?_⟩
  ·rintro i Z H4 _ ⟨hs,o3,o4,o5,o6,_,_,_,B⟩;exact c6.of (B _ _ (S1 _ _ hl) npl)
  ·rintro i v Z H4 hi ⟨hs,o3,o4,o5,o6,rfl,g4,J,B⟩;rw [aB] at hi;obtain ⟨z,hzi,rfl⟩:=bw.mp hi;obtain ⟨pz,b1,b2,b3,b4⟩:=hz z (aR hzi)
   obtain ⟨x,ex⟩:∃ x:Nat,z.1=(x:Int):=⟨z.1.toNat,by lia⟩
   obtain ⟨y,ey⟩:∃ y:Nat,z.2.1=(y:Int):=⟨z.2.1.toNat,by lia⟩
   have hx:x<n:=by lia
   have hy:y<n:=by lia
   have pz:H4 z.2.2=some (.tup [.int x,.int y]):=by
    rw [← ex,← ey];exact B _ _ (S1 _ _ pz) (aQ pz hp)
   have et:zs.take (i+1)=zs.take i++[z]:=by rw [dP,hzi];rfl
   refine Bg (.of pz) rfl ?_;lk;refine ⟨p,hs,n,x,rfl,g4,J.hd,hx,?_⟩;lk;refine ⟨p,hs,n,y,rfl,g4,J.hd,hy,?_⟩;lk;have lx:=vW hs x;have ly:=vW hs y;rw [show (if ((rt hs y:Nat):Int)<(rt hs x:Nat) then ((rt hs y:Nat):Int) else (rt hs x:Nat))=((min (rt hs x) (rt hs y):Nat):Int) by split<;>lia,show (if ((rt hs y:Nat):Int)>(rt hs x:Nat) then ((rt hs y:Nat):Int) else (rt hs x:Nat))=((max (rt hs x) (rt hs y):Nat):Int) by split<;>lia];refine K1 g4 (K4 (j:=max (rt hs x) (rt hs y)) rfl (by rw [ag,ni,ag,J.hd.len];lia)) ?_;rw [Ra];refine ⟨_,_,_,_,_,rfl,aF,?_,B.trans bq.upd⟩;rw [et,aP]
   have ep:pN z=(x,y):=by unfold pN;rw [ex,ey];rfl
   show Jo n _ (_++[pN z])
   rw [ep];exact J.add hx hy
  ·rintro Z H4 ⟨hs,o3,o4,o5,o6,rfl,g4,J,B⟩;rw [ag,qM] at J;have S4:bN H H4:=λb o e=>B _ _ (S1 _ _ e) (aQ e hp);lk;refine ⟨by lia,by lia,λq hq=>vQ (n:=n) (E:=λi y _=>y=.int ((rt hs i:Nat):Int)) (S:=λZ=>∃ o,Z=[o,some (.ref p)]) hq ⟨_,rfl⟩ (by lia) (λ_ _ _ _ _ _ _ e=>e) ?_ ?_⟩
   ·rintro i σ' H' G hi S' ⟨o,rfl⟩ go;lk;rw [iM];refine ⟨p,hs,n,i,rfl,S' _ _ g4,J.hd,hi,?_⟩;exact go _ _ _ ⟨_,rfl⟩ (λ_ _ e=>e) rfl
   ·intro ys H5 hyl g5 S5 hys;have ey:=Nc (f:=rt hs) hyl hys;subst ey;exact k q hs H5 (S4.trans S5) (S4.free hq) J g5
inductive bP (K:aa) (C:af) (vs:List V) (H:Hp) (Q:VK) (E:XK):Prop
 | mk (a:af) (ns:List Int) (k:Nat):vs=[.ref a,.int k]->c6 K H a (ns.map V.int)->(∀ z:Int,Q (.int z) H)->bP K C vs H Q E
def yf:Rn (bP K C) (qk K C) M1:=by
 rintro vs H Q E ⟨a,ns,k,rfl,hS,q⟩;unfold qk;lk;refine Qb hS ?_;lk;refine tI (λh=>?_) λh=>?_
 ·lk
  have hk:k<ns.length:=by lia
  refine yQ hS rfl (ay hk) ?_;exact q _
 ·lk;exact q _
def em (hn:0<n) (x:Int):∃ j:Nat,x%(n:Int)=(j:Int)/\j<n:=by
 have h1:=X0 x (show (n:Int)≠0 by lia);have h2:=Aw x (show (0:Int)<n by lia);exact ⟨(x%(n:Int)).toNat,by lia,by lia⟩
def TY {z:Int}(hn:1<=n) (h0:0<=z) (h1:z<(n:Int)*n):∃ m:Nat,z/(n:Int)=(m:Int)/\m<n:=by
 have a1:=Int.ediv_nonneg h0 (b:=(n:Int)) (by lia);have a2:=Int.ediv_lt_of_lt_mul (a:=z) (b:=(n:Int)) (c:=(n:Int)) (by lia) h1;exact ⟨(z/n).toNat,by lia,by lia⟩
inductive gR (K:aa) (C:af) (vs:List V) (H:Hp) (Q:VK) (E:XK):Prop
 | mk (c base:Int) (many:Nat):vs=[.int c,.int base,.int many]->0<base->base<1073741824->many<=1000->(∀ l H' ds,bN H H'->H l=none->H' l=some (.lst (O7 V.int ds))->ds.length=many->(∀ d∈ds,0<=d/\d<base)->Q (.ref l) H')->gR K C vs H Q E
def zZ:Rn (gR K C) (rF K C) Vg:=by
 rintro vs H Q E ⟨c,base,many,rfl,hb,hb2,hm,k⟩;unfold rF;lk;refine ⟨bI (m:=0) (av 0),λl hl0=>?_⟩;have S0:=bN.cK (o:=.lst []) hl0;lk;unfold oV;lk
 refine ⟨by lia,by lia,oK (λi Z H1=>∃ (c':Int) (ds:List Int) (o4:Option V),Z=[some (.int c'),some (.int base),some (.int many),some (.ref l),o4]/\bN H H1/\H1 l=some (.lst (ds.map V.int))/\ds.length=i/\∀ d∈ds,0<=d/\d<base)
  ⟨c,[],_,rfl,S0,aF,rfl,(λd h=>nomatch h)⟩ ?_ ?_⟩
 ·rintro i Z H1 hi ⟨c',ds,o4,rfl,S,hL,hd,hB⟩;lk;refine ⟨.inl ⟨rfl,_,c6.of hL⟩,?_⟩;lk;refine qX hL (eP (m:=2000) (by rw [ag];lia)) ?_;lk;refine ⟨_,ds++[c'%base],_,rfl,λb o e=>?_,by rw [aF,aP];rfl,by rw [bz,hd];rfl,λd h=>?_⟩
  ·rw [aH (aQ e hl0)];exact S b o e
  ·rcases aN.mp h with h|h
   ·exact hB d h
   ·rw [aA.mp h];exact ⟨X0 _ (by lia),Aw _ hb⟩
 ·rintro Z H1 ⟨c',ds,o4,rfl,S,hL,hd,hB⟩;lk;exact k l H1 ds S hl0 hL (by lia) hB
def Lz (n:Nat) (H:Hp) (z:Zt):Prop:=fG H z/\∃ i j:Nat,z.1=(i:Int)/\z.2.1=(j:Int)/\i<j/\j<n
inductive cG (K:aa) (C:af) (vs:List V) (H:Hp) (Q:VK) (E:XK):Prop
 | mk (s:af) (ns:List Int) (n:Nat):vs=[.ref s,.int n]->c6 K H s (ns.map V.int)->1<=n->n<=24->(∀ (l:af) (zs:List Zt) (H':Hp),bN H H'->H l=none->H' l=some (.lst (zs.map dQ))->(∀ z∈zs,Lz n H' z)->zs.length<=40->Q (.ref l) H')->cG K C vs H Q E
def yg:Rn (cG K C) (qr K C (gR K C) (bP K C)) Vk:=by
 rintro vs H Q E ⟨s,ns,n,rfl,hS,hn1,hn2,k⟩
 have hnn:(0:Int)<(n:Int)*n/\(n:Int)*n<=576:=by
  have h1:(n:Int)<=24:=by lia
  constructor
  ·exact Int.mul_pos (by lia) (by lia)
  ·have:=Int.mul_le_mul h1 h1 (by lia) (by lia);lia
 unfold qr;lk;refine ⟨bI (m:=0) (av 0),λl hl0=>?_⟩;have S1:=bN.cK (o:=.lst []) hl0;have g1:(upd H l (.lst [])) l=some (.lst (([]:List Zt).map dQ)):=aF;generalize upd H l (.lst [])=H1 at S1 g1;lk;unfold nZ;lk;refine ⟨s,ns,1,rfl,S1.seq hS,λz1=>?_⟩;lk;refine ⟨s,ns,2,rfl,S1.seq hS,λz2=>?_⟩;lk;obtain ⟨many,hmany,hm⟩:=em (n:=41) (by decide) z2;rw [show z2%41=(many:Int) from hmany];refine ⟨z1,(n:Int)*n,many,rfl,hnn.1,by lia,by lia,λdl H2 ds S2 hdl hD hdn hdB=>?_⟩
 have ndl:dl≠l:=λz=>by rw [z,g1] at hdl;cases hdl
 refine ⟨dl,rfl,.inl ⟨⟨_,c6.of hD⟩,kH (K:=K) (a:=dl) (xs:=ds.map V.int) (λi Z H4=>∃ (zs:List Zt) (o:Option V),Z=[some (.ref s),some (.int n),some (.ref l),o]/\H4 l=some (.lst (zs.map dQ))/\(∀ z∈zs,Lz n H4 z)/\zs.length<=i/\bq l H2 H4) ⟨[],_,rfl,S2 _ _ g1,(λz hz=>nomatch hz),av _,bq.refl _ _⟩ ?_ ?_ ?_⟩⟩
 ·rintro i Z H4 _ ⟨zs,o,_,_,_,_,B⟩;exact c6.of (B _ _ hD ndl)
 ·rintro i v Z H4 hi ⟨zs,o,rfl,g4,hzs,hzl,B⟩;rw [aB] at hi;obtain ⟨d,hdi,rfl⟩:=bw.mp hi;obtain ⟨bd1,bd2⟩:=hdB d (aR hdi)
  have hi2:i<41:=by have:=(aC.mp hdi).1;lia
  obtain ⟨a,ea,ha⟩:=TY hn1 bd1 bd2;obtain ⟨b,eb,hb⟩:=em hn1 d;lk;rw [ea,eb];refine K2 (λc=>?_) λ_=>?_
  ·have hab:a≠b:=λz=>c (by rw [z]);lk;refine ⟨.inl ⟨rfl,_,c6.of g4⟩,?_⟩;lk;rw [ea,eb];rw [show (if (b:Int)<a then (b:Int) else a)=((min a b:Nat):Int) by split<;>lia,show (if (b:Int)>a then (b:Int) else a)=((max a b:Nat):Int) by split<;>lia];refine ⟨bI (m:=2) (av 2),λp hp=>?_⟩;generalize eu_:upd H4 p (.tup [.int (min a b:Nat),.int (max a b:Nat)])=H5;obtain ⟨S5,g5⟩:=jK eu_ hp;have l5:=S5 _ _ g4;lk;refine qX l5 (eP (m:=100) (by rw [ag];lia)) ?_;have tn:∀ {b:af}{xs:List V}{ys:List V},H5 b=some (.tup xs)->(upd H5 l (.lst ys)) b=some (.tup xs):=λe=>(aH (fX e l5)).trans e;refine ⟨zs++[(((min a b:Nat):Int),((max a b:Nat):Int),p)],_,rfl,by rw [aF,aP];rfl,λz hz=>?_,by rw [bz];simp;lia,λb' o' e hne=>by rw [aH hne];exact S5 _ _ (B _ _ e hne)⟩
   rcases aN.mp hz with hz|hz
   ·exact ⟨tn (S5 _ _ (hzs z hz).1),(hzs z hz).2⟩
   ·rw [aA.mp hz];exact ⟨tn g5,min a b,max a b,rfl,rfl,by lia,by lia⟩
  ·exact ⟨zs,_,rfl,g4,hzs,by lia,B⟩
 ·rintro Z H4 ⟨zs,o,rfl,g4,hzs,hzl,B⟩;rw [ag] at hzl;lk;exact k l zs H4 (λb' o' e=>B _ _ (S2 _ _ (S1 _ _ e)) (aQ e hl0)) hl0 g4 hzs (by lia)
def Rb {v w x y:V}:uQ [v,w,x,y] none (some 2)=[v,w]:=by rw [uU (show (2:Int)=((2:Nat):Int) from rfl)];rfl
def TZ {u:Ti×af}(h:pj H u) (k:∀ q,H q=none->Q (.ref q) (upd H q (.tup [.int u.1.x,.int u.1.y]))):zH K (.ref u.2) none (some 2) H Q :=
 ⟨u.2,_,rfl,jZ.of h,(λz=>by have:=z.2;simp [HT.lB] at this),λq hq=>by rw [Rb];exact k q hq⟩
def sU {tt:TT}{o:Option V}{rest:L2.St}{z acc:af}{R:Hp->Prop}(pf:Ti×af->Bool) (hz:H z=some (.lst (us.map rV))) (fl:∀ u∈us,pj H u) (hl:us.length<100) (ha:H acc=none)
   (turn:∀ (u:Ti×af) (H':Hp) (G:Bool->Hp->Prop),u∈us->pj H' u->bN H H'->(∀ H2,bN H' H2->G (pf u) H2)->tt (some (rV u)::rest) H' G)
   (fin:∀ (zs:List Zt) (H':Hp),bN H H'->H' acc=some (.lst (zs.map dQ))->(∀ z∈zs,fG H' z)->zs.map zP=(us.filter pf).map (λu=>u.1.key)->R H') :
  ∃ W:Nat->Nat->List V->L2.St->Hp->Prop,(∃ m,W 0 m [] (o::rest) (upd H acc (.lst [])))/\∀ i m ys σ' H',W i m ys σ' H'->H' acc=some (.lst ys) /\
  (((HR K z).stop i H'/\R H')\/((HR K z).go i H'/\∀ x H2,(HR K z).Ka i H' x H2->(bp 0) x σ' H2 λσ2 H3=>tt σ2 H3 λb H4 =>
   if b=true then (xU (zH K) (aq 0) eT (hU (tC (.int 2)))) σ2 H4 λy H5=>H5 acc=some (.lst ys)/\ys.length<aV/\∃ m',m'<m/\W (i+1) m' (ys++[y]) σ2 (upd H5 acc (.lst (ys++[y]))) else ∃ m',m'<m/\W (i+1) m' ys σ2 H4)):=by
 refine mF (n:=us.length) (λt ys H4=>H4 acc=some (.lst ys)/\bN H H4/\∃ zs:List Zt,ys=zs.map dQ/\zs.map zP=((us.take t).filter pf).map (λu=>u.1.key)/\∀ z∈zs,fG H4 z) (λZ=>∃ o,Z=o::rest) ⟨aF,bN.cK ha,[],rfl,rfl,λz hz=>nomatch hz⟩ ⟨_,rfl⟩ ?_ ?_ ?_ ?_
 ·rintro t ys H4 ⟨e,_⟩;exact e
 ·rintro ys H2 ⟨g2,S2,zs,rfl,hz',pz⟩;rw [b9 (av _)] at hz';exact ⟨⟨_,c6.of (S2 _ _ hz),by rw [ag];exact av _⟩,fin zs H2 S2 g2 pz hz'⟩
 ·rintro t ys H4 ht ⟨_,S4,_⟩;exact ⟨_,_,c6.of (S4 _ _ hz),ay (by rw [ag];exact ht)⟩
 ·rintro t ys σ' H4 v H5 ht ⟨g4,S4,zs,rfl,hz',pz⟩ ⟨o,rfl⟩ ⟨e2,hv⟩;subst e2;have hv:=hv _ (c6.of (S4 _ _ hz));rw [aB] at hv;obtain ⟨u,hu,rfl⟩:=bw.mp hv;have hum:=aR hu;have r4:=S4 _ _ (fl u hum)
  have et:us.take (t+1)=us.take t++[u]:=by rw [dP,hu];rfl
  have hzl:zs.length<=t:=by
   have:=congrArg dt hz';rw [ag,ag] at this;rw [this];exact bu (cw _ _) (by rw [bK];lia)
  refine Ga ?_;refine turn u H5 _ hum r4 S4 λH6 S6=>?_;have S46:=S4.trans S6
  cases hw:pf u with
  | false =>
   refine iX (ky.mk' ht ⟨_,rfl⟩ ⟨S6 _ _ g4,S46,zs,rfl,?_,nr pz S6⟩)
   rw [et,cU,aP,hz'];simp [hw]
  | true =>
   refine lD ?_;lk;refine TZ (S6 _ _ r4) λc hc=>?_;have S7:=bN.cK (o:=.tup [.int u.1.x,.int u.1.y]) hc;have g7:(upd H6 c (.tup [.int u.1.x,.int u.1.y])) c=some (.tup [.int u.1.x,.int u.1.y]):=aF;generalize upd H6 c (.tup [.int u.1.x,.int u.1.y])=H7 at S7 g7 ⊢;have a7:=S7 _ _ (S6 _ _ g4);have tn:∀ {z:Zt}{ys:List V},fG H7 z->fG (upd H7 acc (.lst ys)) z:=λ{z ys} e=>(aH (fX e a7)).trans e;refine ⟨a7,eP (m:=200) (by rw [ag];lia),ky.mk' ht ⟨_,rfl⟩ ⟨aF,λb' o' e=>by rw [aH (aQ e ha)];exact S7 _ _ (S46 _ _ e),zs++[((u.1.x:Int),(u.1.y:Int),c)],by rw [aP];rfl,?_,λz hz''=>?_⟩⟩
   ·rw [et,cU,aP,aP,hz'];simp [hw];rfl
   ·rcases aN.mp hz'' with q|q
    ·exact tn (S7 _ _ (S6 _ _ (pz z q)))
    ·rw [aA.mp q];exact tn (z:=((u.1.x:Int),(u.1.y:Int),c)) g7
def FA {α:Type} {f:α->List Int}(inj:∀ x y,f x=f y->x=y) {xs ys:List α}(p:xs.Perm ys) (h1:xs.Pairwise λx y=>fN (f y) (f x)=false) (h2:ys.Pairwise λx y=>fN (f y) (f x)=false):xs=ys :=
 List.Perm.eq_of_pairwise (le:=λx y=>fN (f y) (f x)=false) (λa b _ _ h h'=>inj _ _ (by
  rcases uV h with q|q
  ·rw [h'] at q;cases q
  ·exact q.symm)) h1 h2 p
def k2 (p:Int×Int):List Int:=[p.1,p.2]
def XJ (l:List (Int×Int)):Prop:=l.Pairwise λp q=>fN (k2 q) (k2 p)=false
def XJ.one {l m:List (Int×Int)}(p:l.Perm m) (h1:XJ l) (h2:XJ m):l=m:=FA (λx y e=>by
 unfold k2 at e;obtain ⟨e1,e⟩:=iz e
 exact oE e1 (iz e).1) p h1 h2
def Rc {u v:Ti}(h:fN (GF v) (GF u)=false):fN (k2 v.key) (k2 u.key)=false:=by
 simp only [GF,fN,k2,Ti.key] at h ⊢
 by_cases c:(v.x:Int)=u.x
 ·rw [if_pos c] at h ⊢
  by_cases c':(v.y:Int)=u.y
  ·rw [if_pos c']
  ·rw [if_neg c'] at h ⊢;exact h
 ·rw [if_neg c] at h ⊢;exact h
structure Tb (H:Hp) (l:af) (us:List (Ti×af)) (ts:List Ti):Prop where
 g:H l=some (.lst (us.map rV))
 fl:∀ u∈us,pj H u
 pm:(us.map (·.1)).Perm ts
 so:us.Pairwise (λu v=>fN (GF v.1) (GF u.1)=false)
 len:us.length<100
section
def Tb.same (h:Tb H l us ts) (S:bN H H'):Tb H' l us ts:=⟨S _ _ h.g,λu hu=>S _ _ (h.fl u hu),h.pm,h.so,h.len⟩
def Tb.mem (h:Tb H l us ts) {u:Ti×af}(hu:u∈us):u.1∈ts:=h.pm.mem_iff.mp (aZ hu)
def Tb.of (h:Tb H l us ts) {t:Ti}(ht:t∈ts):∃ u∈us,u.1=t:=aT.mp (h.pm.mem_iff.mpr ht)
def Tb.up (h:Tb H l us ts) (pf:Ti×af->Bool):XJ ((us.filter pf).map λu=>u.1.key):=dC.mpr ((h.so.sublist gP).imp λq=>Rc q)
def Tb.RJ (h:Tb H l us ts):((us.filter λu=>u.1.wd).map λu=>u.1.key).Perm (wB (ts.map Ti.kb)):=by
 have e:((us.filter λu=>u.1.wd).map λu=>u.1.key)=wB ((us.map (·.1)).map Ti.kb):=by
  unfold wB;rw [bo,FM,bo];rfl
 rw [e];exact ((h.pm.map Ti.kb).filter _).map _
def Tb.prs (h:Tb H l us ts) (L:Lv n T ts R) {pf:Ti×af->Bool}{zs:List Zt}(e:zs.map zP=(us.filter pf).map (λu=>u.1.key)):(∀ z∈zs,0<=z.1/\z.1<n/\0<=z.2.1/\z.2.1<n)/\zs.map pN=(us.filter pf).map λu=>u.1.np:=by
 constructor
 ·intro z hz;have:=aZ (f:=zP) hz;rw [e] at this;obtain ⟨u,hu,eu⟩:=aT.mp this;obtain ⟨e1,e2⟩:=cg eu;obtain ⟨l1,l2,_⟩:=L.lt _ (h.mem (bH.mp hu).1);lia
 ·have e2:=congrArg (O7 λk:Int×Int=>(k.1.toNat,k.2.toNat)) e;rw [bo,bo] at e2;exact e2
end
def gK (K:aa) (C:af):Sp:=λvs H Q _=>∃ x:Int,vs=[.int x]/\Q (.bl true) H
def Ce:Rn (gK K C) (uc K C) ["_law_found"]:=by
 rintro vs H Q E ⟨x,rfl,k⟩;unfold uc;lk;refine tY (.int _) PV ?_;refine ⟨true,rfl,lD ?_⟩;lk;refine tY (.int _) PX ?_;exact ⟨false,rfl,k⟩
inductive bZ (K:aa) (C:af) (vs:List V) (H:Hp) (Q:VK) (E:XK):Prop
 | mk (l:af) (us:List (Ti×af)) (ts:List Ti):vs=[.ref l]->Tb H l us ts->(∀ (q:af) (zs:List Zt) (H':Hp),bN H H'->H q=none->H' q=some (.lst (zs.map dQ))->(∀ z∈zs,fG H' z)->(zs.map zP).Perm (wB (ts.map Ti.kb))->XJ (zs.map zP)->zs.length<100->Q (.ref q) H')->bZ K C vs H Q E
def DV:Rn (bZ K C) (wu K C) M4:=by
 rintro vs H Q E ⟨l,us,ts,rfl,h,k⟩;unfold wu;lk;refine .inl ⟨⟨_,c6.of h.g⟩,λacc hacc=>sU (o:=none) (rest:=[]) (λu=>u.1.wd) h.g h.fl h.len hacc (λu H' G hu r4 S' g=>?_) λzs H1 S1 g1 pz1 e1=>?_⟩
 ·lk;refine fD (jZ.of r4) (v:=.bl u.1.wd) rfl ?_;exact ⟨_,rfl,g _ (λ_ _ e=>e)⟩
 ·have hl:zs.length<100:=by
   have:=congrArg dt e1;rw [ag,ag] at this;rw [this];exact bf (cw _ _) h.len
  exact k acc zs H1 S1 hacc g1 pz1 (by rw [e1];exact h.RJ) (by rw [e1];exact h.up _) hl
def GG (S:List Int):vM (.list (S.map FJ)):=⟨by simp only [uN];exact fc _ (pT S),by have:=Bi S;simp only [lz];lia⟩
theorem Jw:∀ {zs:List Zn}{ps:List (Int×Int)},(∀ z∈zs,Bu [false] H z)->zs.map (·.1)=ps.map k2->eD K H (ps.map um) (zs.map lF)
 | [],[],_,_=>.nil
 | [],_::_,_,e=>nomatch e
 | _::_,[],_,e=>nomatch e
 | z::zs,p::ps,h,e=>by
  obtain ⟨e1,e2⟩:=iz e;obtain ⟨xs,h1,h2⟩:=h z aw;have e1:z.1=[p.1,p.2]:=e1;rw [e1] at h2
  have:H z.2=some (.tup [.int p.1,.int p.2]):=by
   cases h2 with
   | int i h2 =>
    cases h2 with
    | int j h2=>cases h2;exact h1
  exact .cons (rQ this) (Jw (λy hy=>h y (aj _ hy)) e2)
def kd (ps:List (Int×Int)):List (List iA×V):=ps.map λp=>([du p.1,du p.2],.bl true)
def wI (ts:List Ti):kd (ts.map Ti.key)=kf (λ_=>V.bl true) ts:=by unfold kd kf;rw [bo];rfl
inductive cj (K:aa) (C:af) (vs:List V) (H:Hp) (Q:VK) (E:XK):Prop
 | mk (l d:af) (us:List (Ti×af)) (ts:List Ti):vs=[.ref l,.ref d]->Tb H l us ts->H d=some (.dT (kd (ts.map Ti.key)))->(∀ H',bN H H'->Q (.bl true) H')->cj K C vs H Q E
def Cg:Rn (cj K C) (ue K C (gK K C)) Vi:=by
 rintro vs H Q E ⟨l,d,us,ts,rfl,h,hd,k⟩
 have hul:us.length=ts.length:=by have:=h.pm.length_eq;rwa [ag] at this
 have hlen:=h.len;unfold ue;lk;refine tY (.lst h.g) PZ ?_;refine ⟨true,rfl,iX ?_⟩;lk;refine pR (c6.of h.g) ?_;lk;refine ⟨d,_,rfl,hd,?_⟩;lk;refine K2 (λc=>absurd (by rw [ag,wI,lI,hul]) c) λ_=>?_;lk;unfold qo;lk;refine pR (c6.of h.g) ?_;rw [ag];lk;refine ⟨by lia,by lia,oK (λi Z H4=>H4=H/\∃ o2 o3,Z=[some (.ref l),some (.ref d),o2,o3]) ⟨rfl,_,_,rfl⟩ ?_ ?_⟩
 ·rintro i Z H4 hi ⟨rfl,o2,o3,rfl⟩;have hu:us[i]?=some us[i]:=ay hi;have hp:=h.fl _ (hZ hi);generalize us[i]=u at hu hp;lk;refine jU (c6.of h.g) (v:=rV u) (d9 (iM _) (by rw [aB,hu];rfl)) ?_;lk;refine tY (.tup hp) P0 ?_;refine ⟨true,rfl,iX ?_⟩;lk;refine PP (.of hp) ?_;lk;refine K2 (λc=>absurd rfl c) λ_=>?_;lk;refine fD (.of hp) (v:=.bl u.1.wd) rfl ?_;lk;refine tY (.bl _) PY ?_;refine ⟨true,rfl,iX ?_⟩;lk;refine fD (.of hp) (v:=.int u.1.x) rfl ?_;refine ⟨_,rfl,true,rfl,iX ?_⟩;lk;refine fD (.of hp) (v:=.int u.1.y) rfl ?_;refine ⟨_,rfl,true,rfl,iX ?_⟩;lk;refine fD (.of hp) (v:=.int u.1.cS) rfl ?_;refine ⟨_,rfl,true,rfl,iX ?_⟩;lk;refine fD (.of hp) (v:=.int u.1.cS) rfl ?_;lk;refine tI (λc=>absurd c (by lia)) λ_=>?_;lk;exact ⟨rfl,_,_,rfl⟩
 ·rintro Z H4 ⟨rfl,o2,o3,rfl⟩;lk;refine .inl ⟨⟨_,c6.of h.g⟩,λacc hacc=>sU (o:=none) (rest:=[]) (λ_=>true) h.g h.fl h.len hacc (λu H' G _ _ _ g=>g _ (λ_ _ e=>e)) λzs H1 S1 g1 pz1 e1=>?_⟩;have up:=h.up λ_=>true;rw [xM.mpr λ_ _=>rfl] at e1 up;lk;refine ⟨d,_,rfl,S1 _ _ hd,λq hq=>?_,by rw [wI,lI];lia,λl' zs' hl' flat perm so'=>?_⟩
  ·unfold kd at hq;obtain ⟨c,_,rfl⟩:=aT.mp hq;exact ⟨_,_,rfl⟩
  ·have S2:=bN.cK (o:=.lst (zs'.map lF)) hl';have g2:(upd H1 l' (.lst (zs'.map lF))) l'=some (.lst (zs'.map lF)):=aF;generalize upd H1 l' (.lst (zs'.map lF))=H2 at S2 g2 ⊢
   have e:zs'.map (·.1)=(us.map λu=>u.1.key).map k2:=by
    refine FA (f:=id) (λ_ _ e=>e) (perm.trans ?_) (dC.mpr so') (dC.mpr up);unfold kd;rw [bo,bo,bo];have:=(h.pm.map λt=>k2 t.key).symm;rw [bo] at this;exact this
   refine ME (ve (S2 _ _ g1) (nr pz1 S2)) (.lst (c6.of g2) (Jw (λz hz=>?_) e)) (mH _) (mH _) ?_
   ·obtain ⟨xs,h1,h2⟩:=flat z hz;exact ⟨xs,S2 _ _ h1,h2⟩
   ·rw [Q4 e1];exact k _ (S1.trans S2)
def Tb.cn (h:Tb H l us ts) (L:Lv n T ts R) (J:Jn ts R) {pf:Ti×af->Bool}(hp:∀ u∈us,u.1.wd=true->pf u=true) {i k:Nat}(hi:i<n):Cn ((us.filter pf).map λu=>u.1.np) i k↔(k:Int)∈R 0 i :=
 L.cn J (λp hp=>by
  obtain ⟨u,hu,rfl⟩:=aT.mp hp
  exact ⟨_,h.mem (bH.mp hu).1,rfl⟩) (λt ht hw=>by
  obtain ⟨u,hu,rfl⟩:=h.of ht
  exact aT.mpr ⟨u,bH.mpr ⟨hu,hp u hu hw⟩,rfl⟩) hi
inductive ck (K:aa) (C:af) (vs:List V) (H:Hp) (Q:VK) (E:XK):Prop
 | mk (n:Nat) (l:af) (us:List (Ti×af)) (T:Nat) (ts:List Ti) (R:Nat->Nat->List Int):vs=[.int n,.ref l]->n<=24->Tb H l us ts->Lv n T ts R->Jn ts R->(∀ H',bN H H'->Q (.bl true) H')->ck K C vs H Q E
def Ci:Rn (ck K C) (ug K C (bS K C) (dg K C)) Va:=by
 rintro vs H Q E ⟨n,l,us,T,ts,R,rfl,hn,h,L,J,k⟩;have und:(us.map (·.1)).Nodup:=h.pm.nodup_iff.mpr ((dC.mp L.nd).imp λh e=>h (congrArg _ e));unfold ug;lk;refine ⟨by lia,by lia,λp hp=>vQ (n:=n) (E:=λi y _=>y=.int ((i:Nat):Int)) (S:=λZ=>∃ o,Z=[o]) hp ⟨_,rfl⟩ (by lia) (λ_ _ _ _ _ _ _ e=>e) ?_ ?_⟩
 ·rintro i σ' H' G hi S' ⟨o,rfl⟩ go;lk;exact go _ _ _ ⟨_,rfl⟩ (λ_ _ e=>e) (by rw [iM])
 ·intro ys H1 hyl g1 S1 hys;have ey:=Nc (f:=id) hyl λi y e=>hys i y e;rw [Pa] at ey;subst ey;lk;unfold qq;lk;have npl:l≠p:=aQ h.g hp;refine .inl ⟨⟨_,c6.of (S1 _ _ h.g)⟩,kH (K:=K) (a:=l) (xs:=us.map rV) (λi Z H4=>∃ (hs:List Nat) (o3 o4 o5:Option V),Z=[some (.int n),some (.ref l),some (.ref p),o3,o4,o5]/\H4 p=some (.lst ((ni hs).map V.int))/\Jo n hs (((us.take i).filter λu=>u.1.wd).map λu=>u.1.np)/\bq p H1 H4) ⟨_,_,_,_,rfl,g1,Jo.start n,bq.refl _ _⟩ ?_ ?_ ?_⟩
  ·rintro i Z H4 _ ⟨hs,o3,o4,o5,_,_,_,B⟩;exact c6.of (B _ _ (S1 _ _ h.g) npl)
  ·rintro i v Z H4 hi ⟨hs,o3,o4,o5,rfl,g4,Jh,B⟩;rw [aB] at hi;obtain ⟨u,hui,rfl⟩:=bw.mp hi;have hum:=aR hui;have r0:=h.fl u hum;have r4:=B _ _ (S1 _ _ r0) (aQ r0 hp)
   have et:us.take (i+1)=us.take i++[u]:=by rw [dP,hui];rfl
   obtain ⟨l1,l2,_⟩:=L.lt _ (h.mem hum);lk;refine fD (jZ.of r4) (v:=.bl u.1.wd) rfl ?_;refine ⟨_,rfl,?_⟩
   cases hw:u.1.wd with
   | false =>
    refine iX ?_;refine ⟨hs,_,_,_,rfl,g4,?_,B⟩;rw [et,cU,aP]
    simpa [hw] using Jh
   | true =>
    refine lD ?_
    have hx:u.1.x<n:=by lia
    lk;refine fD (jZ.of r4) (v:=.int u.1.x) rfl ?_;refine ⟨p,hs,n,u.1.x,rfl,g4,Jh.hd,hx,?_⟩;lk;refine fD (jZ.of r4) (v:=.int u.1.y) rfl ?_;refine ⟨p,hs,n,u.1.y,rfl,g4,Jh.hd,l2,?_⟩;lk;refine tI (λc=>absurd ((Jh.j _ _ hx l2).mp (lW (V.int.inj c))) (L.acyc (h.mem hum) hw λq hq=>?_)) λ_=>?_
    ·obtain ⟨s,hs',rfl⟩:=aT.mp hq;obtain ⟨s1,s2⟩:=bH.mp hs';refine ⟨_,h.mem (vB s1),s2,rfl,λe=>?_⟩;refine MV und (i:=i) (a:=u.1) (by rw [aB,hui];rfl) ?_;rw [← e,← hJ];exact aZ s1
    lk;have lx:=vW hs u.1.x;have ly:=vW hs u.1.y;rw [show (if ((rt hs u.1.y:Nat):Int)<(rt hs u.1.x:Nat) then ((rt hs u.1.y:Nat):Int) else (rt hs u.1.x:Nat))=((min (rt hs u.1.x) (rt hs u.1.y):Nat):Int) by split<;>lia,show (if ((rt hs u.1.y:Nat):Int)>(rt hs u.1.x:Nat) then ((rt hs u.1.y:Nat):Int) else (rt hs u.1.x:Nat))=((max (rt hs u.1.x) (rt hs u.1.y):Nat):Int) by split<;>lia];refine K1 g4 (K4 (j:=max (rt hs u.1.x) (rt hs u.1.y)) rfl (by rw [ag,ni,ag,Jh.hd.len];lia)) ?_;rw [Ra];refine ⟨_,_,_,_,rfl,aF,?_,B.trans bq.upd⟩;rw [et,cU,aP];have:=Jh.add hx l2
    simpa [hw,Ti.np] using this
  ·rintro Z H4 ⟨hs,o3,o4,o5,rfl,g4,Jh,B⟩;rw [ag,qM] at Jh;have S4:bN H H4:=λb o e=>B _ _ (S1 _ _ e) (aQ e hp);have h4:=h.same S4;lk;refine ⟨by lia,by lia,λq hq=>vQ (n:=n) (E:=λi y _=>y=.int ((rt hs i:Nat):Int)) (S:=λZ=>∃ o,Z=[o,some (.ref p)]) hq ⟨_,rfl⟩ (by lia) (λ_ _ _ _ _ _ _ e=>e) ?_ ?_⟩
   ·rintro i σ' H' G hi S' ⟨o,rfl⟩ go;lk;rw [iM];refine ⟨p,hs,n,i,rfl,S' _ _ g4,Jh.hd,hi,?_⟩;exact go _ _ _ ⟨_,rfl⟩ (λ_ _ e=>e) rfl
   ·intro ys H5 hyl g5 S5 hys;have ey:=Nc (f:=rt hs) hyl hys;subst ey;have h5:=h4.same S5;lk;refine .inl ⟨⟨_,c6.of h5.g⟩,λacc hacc=>sU (o:=none) (rest:=[]) (λ_=>true) h5.g h5.fl h5.len hacc (λu H' G _ _ _ g=>g _ (λ_ _ e=>e)) λzs H6 S6 g6 pz6 e6=>?_⟩;obtain ⟨b6,pn⟩:=h5.prs L e6;lk;refine ⟨n,acc,zs,rfl,by lia,g6,λz hz=>⟨pz6 z hz,b6 z hz⟩,λr hs' H7 S7 hr J' g7=>?_⟩;rw [pn] at J';have er:(dv n).map (rt hs)=(dv n).map (rt hs'):=eE λi hi=>Jh.same J' (λi k hi _=>by rw [h.cn L J (λ_ _ q=>q) hi,h.cn L J (λ_ _ _=>rfl) hi]) (jP.mp hi);rw [← er] at g7;refine ME (Bj (c6.of (S7 _ _ (S6 _ _ g5)))) (Bj (c6.of g7)) (GG _) (GG _) ?_;rw [XF _ (GG _).lay];exact k _ (S4.trans (S5.trans (S6.trans S7)))
section
def Re (L:List (Int×Int)) (q:Int×Int):((L.map um).any λe=>cM e (um q))=decide (q∈L):=by
 rw [ND,iD,Du,decide_eq_true_iff]
 constructor
 ·rintro ⟨t,ht,e⟩;have e:cM (um t) (um q)=true:=e;rw [rP,decide_eq_true_iff] at e;exact e▸ht
 ·exact λh=>⟨q,h,by show cM (um q) (um q)=true;rw [rP];simp⟩
structure Pz (H:Hp) (q:af) (zs:List Zt):Prop where
 g:H q=some (.lst (zs.map dQ))
 pz:∀ z∈zs,fG H z
 up:XJ (zs.map zP)
 len:zs.length<120
def Pz.same {q:af}(h:Pz H q zs) (S:bN H H'):Pz H' q zs:=⟨S _ _ h.g,nr h.pz S,h.up,h.len⟩
def Pz.eq {q q':af}{zs':List Zt}(h:Pz H q zs) (h':Pz H q' zs') (pm:(zs.map zP).Perm (zs'.map zP)) (k:Q (.bl true) H):iT K (.ref q) (.ref q') H Q:=by
 refine ME (ve h.g h.pz) (ve h'.g h'.pz) (mH _) (mH _) ?_;rw [Q4 (h.up.one pm h'.up)];exact k
def T3 {q:af}(g:H q=some (.lst (zs.map dQ))) (pz:∀ z∈zs,fG H z) (hl:zs.length<120) (k:∀ l zs' H',bN H H'->(zs'.map zP).Perm (zs.map zP)->Pz H' l zs'->Q (.ref l) H'):kJ K [.ref q] H Q:=by
 refine ⟨q,zs.map λz=>(([z.1,z.2.1],z.2.2):Zn),[false],rfl,by rw [bo];exact c6.of g,λz hz=>?_,by rw [ag];lia,λl zs' hn hp hs=>?_⟩
 ·obtain ⟨u,hu,rfl⟩:=aT.mp hz;exact ⟨_,pz u hu,.int _ (.int _ .nil)⟩
 ·obtain ⟨us',hu,rfl⟩:=Sy.perm_map hp.symm zs rfl;have S:=bN.cK (o:=.lst (us'.map dQ)) hn;rw [bo];exact k l us' _ S (hu.map zP) ⟨aF,λz hz=>S _ _ (pz z (hu.mem_iff.mp hz)),dC.mpr (dC.mp hs),by rw [hu.length_eq];exact hl⟩
def Rg {q t:af}{kk:Int×Int}{Z:L2.St}{i j:Nat}(h:Pz H q zs) (hl:zs.length<100) (ht:H t=some (.tup [.int kk.1,.int kk.2])) (hi:Z[i]?=some (some (.ref q))) (hj:Z[j]?=some (some (.ref t)))
  (k:∀ l zs' H',bN H H'->(zs'.map zP).Perm (zs.map zP++[kk])->Pz H' l zs'->Q (.ref l) H'):(nI (kJ K) (ax (cq eO (aq i) (tF (ax (aq j) aX))) aX)) Z H Q:=by
 iterate 3 (k_ne)
 refine IA hi ?_
 iterate 2 (k_ne)
 refine IA hj ?_;lk;refine ⟨bI (m:=1) (av 1),λe he=>?_⟩;generalize eu_:upd H e (.lst [.ref t])=H1;obtain ⟨S1,g1⟩:=jK eu_ he;refine PU (S1 _ _ h.g) g1 (bI (m:=200) (by rw [ag];simp;lia)) λs hs=>?_;have S2:=bN.cK (o:=.lst (zs.map dQ++[.ref t])) hs
 have g2:(upd H1 s (.lst (zs.map dQ++[.ref t]))) s=some (.lst ((zs++[(kk.1,kk.2,t)]).map dQ)):=by rw [aF,aP];rfl
 generalize upd H1 s (.lst (zs.map dQ++[.ref t]))=H2 at S2 g2;have S12:=S1.trans S2;lk;refine T3 g2 (λz hz=>?_) (by rw [bz];simp;lia) λl zs' H' S' pm hz'=>k l zs' H' (S12.trans S') (by rw [aP] at pm;exact pm) hz'
 rcases aN.mp hz with q|q
 ·exact S12 _ _ (h.pz z q)
 ·rw [aA.mp q];exact S12 _ _ ht
def GH {tz:TE}{Z:L2.St}(ct:AD K C A) (h:KP C A H p dx a n T ts as R) (hl:ts.length<90) (h0:Z[0]?=some (some (.ref p)))
  (k:∀ q zs H',bN H H'->Pz H' q zs->(zs.map zP).Perm (wB (ts.map Ti.kb))->tz Z H' λy H2=>iT K (.ref q) y H2 Q):(cq (iT K) (cC (bZ K C) [] E0 (ax (eZ A.Keeper "ties" (a9 K C A) [] E0 (aq 0) aX) aX)) tz) Z H Q:=by
 obtain ⟨w,c1,c2,c3,c4,hw,hp⟩:=h.ob
 iterate 3 (k_ne)
 refine uY ?_;refine IA h0 ?_;refine ⟨p,dx,_,rfl,hp,Kq,?_⟩;lk;refine ⟨p,dx,a,n,T,ts,as,R,rfl,ct,h,by lia,λq us H1 hq gq fl pm so S1=>?_⟩
 have hul:us.length=ts.length:=by have:=pm.length_eq;rwa [ag] at this
 refine ⟨q,us,ts,rfl,⟨gq,fl,pm,so,by lia⟩,λq2 zs H2 S2 hq2 g2 pz2 pm2 up2 hl2=>?_⟩;exact k q2 zs H2 (S1.trans S2) ⟨g2,pz2,up2,by lia⟩ pm2
end
def Cj {t u:TS}{D:tD}{Z:L2.St}(P:L2.St->Hp->Prop) (rest:∀ σ' H',P σ' H'->u D σ' H') (h:(∀ σ' H',P σ' H'->u D σ' H')->t { D with nx:=u D } Z H):bQ t u D Z H:=h rest
section
def Tb.fm (tb:Tb H l us ts) (h:KP C A H p dx a n T ts as R) (hP:ow Pt H) (hl:l∉fp a) (F:Fm (p::Pt::fp a) H H'):Tb H' l us ts:=by
 obtain ⟨fs,hp⟩:=h.p0;refine ⟨F _ _ (λz=>?_) tb.g,λu hu=>F _ _ (λz=>?_) (tb.fl u hu),tb.pm,tb.so,tb.len⟩
 ·rcases au.mp z with z|z
  ·exact (fX tb.g hp) z
  ·exact (au.mp z).elim (hP.ne tb.g (λ_ z=>nomatch z)) hl
 ·rcases au.mp z with z|z
  ·exact (fX (tb.fl u hu) hp) z
  ·exact (au.mp z).elim (hP.ne (tb.fl u hu) (λ_ z=>nomatch z)) (h.lv.sI (tb.fl u hu))
def KP.XM (h:KP C A H p dx a n T ts as R) (hP:ow Pt H) (F:Fm (p::fp a) H H'):ow Pt H' :=
 hP.keep λb o h1 h2 h3 _ e=>F b o (λz=>by
  rcases au.mp z with rfl|z
  ·obtain ⟨fs,hp⟩:=h.p0;rw [hp] at e;cases e;exact h3 _ _ _ rfl
  ·exact h.lv.out e h1 (λ_ _=>h2 _) z) e
def KP.tup (h:KP C A H p dx a n T ts as R) (hP:ow Pt H) (F:Fm (p::Pt::fp a) H H') {b:af}{xs:List V}(e:H b=some (.tup xs)):H' b=some (.tup xs):=F _ _ (λz=>by
 obtain ⟨fs,hp⟩:=h.p0
 rcases au.mp z with z|z
 ·exact (fX e hp) z
 ·exact (au.mp z).elim (hP.ne e (λ_ z=>nomatch z)) (h.lv.sI e)) e
def T7 {q:af}{hs:List Nat}{x:Nat}(g:H q=some (.lst ((ni ((dv n).map (rt hs))).map V.int))) (hx:x<n) (k:Q (.int (rt hs x:Nat)) H):dr K (.ref q) (.int x) H Q :=
 yQ (c6.of g) rfl (Q9 (by rw [aB,nO hx];rfl)) k
def W6 {x y:Nat}{b:Bool}:wB ((ts++[(⟨x,y,0,b⟩:Ti)]).map Ti.kb)=wB (ts.map Ti.kb)++if b=true then [((x:Int),(y:Int))] else []:=by
 unfold wB;rw [aP,cU,aP];cases b<;>rfl
end
inductive jt (K:aa) (C:af) (A:CA) (vs:List V) (H:Hp) (Q:VK) (E:XK):Prop
 | mk (Pt p dx:af) (a:AL) (n T:Nat) (ts:List Ti) (as:Nat->List af) (R:Nat->Nat->List Int) (t l:af) (us:List (Ti×af)) (x y:Nat):vs=[.ref p,.int n,.ref t,.ref l]->AD K C A->KP C A H p dx a n T ts as R->n<=24->x<y->y<n->H t=some (.tup [.int x,.int y])->((x:Int),(y:Int))∉ts.map Ti.key->ts.length<80->Tb H l us ts->l∉fp a->ow Pt H->(∀ b as' R' H',KP C A H' p dx a n T (ts++[⟨x,y,0,b⟩]) as' R'->Fm (p::Pt::fp a) H H'->ow Pt H'->Q (.bl true) H')->jt K C A vs H Q E
def GI:Rn (jt K C A) (zf K C A (bS K C) (cY K C A) (bZ K C) (a9 K C A)) Y1:=by
 rintro vs H Q E ⟨Pt,p,dx,a,n,T,ts,as,R,t,l,us,x,y,rfl,ct,h,hn,hxy,hy,ht,hk,hlen,tb,hl,hP,k⟩
 have hx:x<n:=by lia
 obtain ⟨w,c1,c2,c3,c4,hw,hp⟩:=h.ob;unfold zf;lk;refine .inl ⟨⟨_,c6.of tb.g⟩,λacc hacc=>sU (o:=none) (rest:=[]) (λ_=>true) tb.g tb.fl tb.len hacc (λu H' G _ _ _ g=>g _ (λ_ _ e=>e)) λzs H1 S1 g1 pz1 e1=>?_⟩;obtain ⟨b1,pn⟩:=tb.prs h.iv e1;lk;refine ⟨n,acc,zs,rfl,by lia,g1,λz hz=>⟨pz1 z hz,b1 z hz⟩,λq hs H2 S2 hq J g2=>?_⟩;rw [pn] at J;have S12:=S1.trans S2;have h2:=h.same S12;have P2:=hP.same S12;have t2:=S12 _ _ ht;have tb2:=tb.same S12;k_in;refine ⟨p,dx,_,rfl,S12 _ _ hp,Kq,?_⟩;lk;refine fD (jZ.of t2) (v:=.int y) rfl ?_;lk;refine fD (jZ.of t2) (v:=.int x) rfl ?_;lk
 have emn:min y x=x:=by lia
 have emx:max y x=y:=by lia
 refine ⟨p,dx,a,n,T,ts,as,R,y,x,rfl,ct,h2,by lia,hy,hx,by lia,by rw [emn,emx];exact hk,by lia,λb as' R' H3 hb h3 F3=>?_⟩;rw [emn,emx] at hb h3;have P3:ow Pt H3:=h2.XM P2 F3;have F3:Fm (p::Pt::fp a) H2 H3:=F3.mono λb hb=>(au.mp hb).elim (λz=>z▸aw) λz=>aj _ (aj _ z);have tb3:=tb2.fm h2 P2 hl F3;have t3:=h2.tup P2 F3 t2
 have g3:=F3 q _ (λz=>by
  rcases au.mp z with z|z
  ·exact (fX g2 (S12 _ _ hp)) z
  ·exact (au.mp z).elim (P2.ne g2 (λ_ z=>nomatch z)) (h2.lv.Uh g2)) g2
 have k3:∀ H',bN H3 H'->Q (.bl true) H':=λH' S'=>k b as' R' H' (h3.same S') (((Fm.of S12).trans F3).trans (Fm.of S')) (P3.same S');lk;refine fD (jZ.of t3) (v:=.int x) rfl ?_;refine T7 g3 hx ?_;lk;refine fD (jZ.of t3) (v:=.int y) rfl ?_;refine T7 g3 hy ?_;k_ne
 have eb:(!decide (V.int (rt hs x:Nat)=V.int (rt hs y:Nat)))=b:=by
  rw [hb]
  congr 1
  exact decide_eq_decide.mpr ⟨λe=>(tb.cn h.iv h.jn (λ_ _ _=>rfl) hx).mp ((J.j x y hx hy).mp (lW (V.int.inj e))),λm=>by rw [(J.j x y hx hy).mpr ((tb.cn h.iv h.jn (λ_ _ _=>rfl) hx).mpr m)]⟩
 rw [eb]
 iterate 6 (k_ne)
 refine ⟨l,us,ts,rfl,tb3,λq4 zs4 H4 S4 hq4 g4 pz4 pm4 up4 hl4=>?_⟩;k_ne
 with_reducible refine Cj (λZ H5=>bN H3 H5/\∃ q5 zs5,Pz H5 q5 zs5/\(zs5.map zP).Perm (wB ((ts++[(⟨x,y,0,b⟩:Ti)]).map Ti.kb))/\Z=[some (.ref p),some (.int n),some (.ref t),some (.ref l),some (.ref q),some (.bl b),some (.bl b),some (.ref q5)]) ?_ λgo=>?_
 ·rintro Z H5 ⟨S5,q5,zs5,z5,pm5,rfl⟩;lk;refine tY (.bl _) PY ?_;refine ⟨true,rfl,lD ?_⟩;lk;refine tI (λ_=>?_) λc=>absurd rfl c;refine GH ct (h3.same S5) (by rw [bz];simp;lia) rfl λq6 zs6 H6 S6 z6 pm6=>?_;lk;exact z6.eq (z5.same S6) (pm6.trans pm5.symm) (k3 _ (S5.trans S6))
 ·rw [W6] at go
  have Z4:Pz H4 q4 zs4:=⟨g4,pz4,up4,by lia⟩
  lk;refine ⟨_,rfl,?_⟩
  cases b with
  | false=>exact iX (go _ _ ⟨S4,q4,zs4,Z4,by simpa using pm4,rfl⟩)
  | true =>
   refine lD ?_;k_ne;refine Rg Z4 hl4 (kk:=((x:Int),(y:Int))) (S4 _ _ t3) rfl rfl λl' zs' H' S' pm' z'=>?_;k_ne;exact go _ _ ⟨S4.trans S',l',zs',z',pm'.trans (pm4.append_right _),rfl⟩
def Ui.keys {us:List Tt}{w:Bool}{B B':List ((Int×Int)×Bool)}{x y:Nat}(h:Ui H us w B B' R x y):B'.map (·.1)=B.map (·.1):=by
 rcases h with ⟨_,_,e⟩|⟨_,_,_,_,⟨_,e,_⟩|⟨_,k,_,_,_,e,_⟩⟩
 ·rw [e]
 ·rw [e]
 ·rw [e];exact TM k B
def Nd {α β:Type} (f:α->β) (l:List α) (i:Nat):(l.map f).eraseIdx i=(l.eraseIdx i).map f:=by rw [md,md,aP,hJ,qz]
def Pz.rm {t:af}{kk:Int×Int}(h:Pz H l zs) (ht:H t=some (.tup [.int kk.1,.int kk.2])) (hm:kk∈zs.map zP) (k:∀ zs':List Zt,Pz (upd H l (.lst (zs'.map dQ))) l zs'->zs'.map zP=(zs.map zP).erase kk->Q .non (upd H l (.lst (zs'.map dQ)))):Bz K (.ref l) [.ref t] H Q:=by
 have hi:(zs.map zP).idxOf kk<(zs.map zP).length:=eN.mpr hm;refine ⟨l,.ref t,zs.map dQ,(zs.map zP).map um,um kk,(zs.map zP).idxOf kk,um kk,rfl,rfl,h.g,x9 h.pz,rQ ht,pY _,fc _ (nq _),?_,by rw [rP];simp,λm e hm' em=>?_,?_⟩
 ·rw [aB,ay hi,oG];rfl
 ·rw [aB] at em;obtain ⟨u,e1,e2⟩:=bw.mp em;subst e2;rw [rP,decide_eq_false (Q5 hm' e1)]
 ·have es:=ON zs ((zs.map zP).idxOf kk)
  have ee:(zs.map zP).erase kk=(zs.eraseIdx ((zs.map zP).idxOf kk)).map zP:=by rw [List.erase_eq_eraseIdx_of_idxOf rfl,Nd]
  have e2:(zs.map dQ).eraseIdx ((zs.map zP).idxOf kk)=(zs.eraseIdx ((zs.map zP).idxOf kk)).map dQ:=Nd ..;rw [e2];exact k _ ⟨aF,λz hz=>(aH (fX (h.pz z (es.subset hz)) h.g)).trans (h.pz z (es.subset hz)),h.up.sublist (es.map zP),bf es.length_le h.len⟩ ee.symm
inductive jr (K:aa) (C:af) (A:CA) (Pt:af) (vs:List V) (H:Hp) (Q:VK) (E:XK):Prop
 | mk (p dx:af) (a:AL) (n T:Nat) (ts:List Ti) (as:Nat->List af) (R:Nat->Nat->List Int) (t l:af) (us:List (Ti×af)) (u:Ti):vs=[.ref p,.int n,.ref t,.ref l]->AD K C A->KP C A H p dx a n T ts as R->n<=24->u∈ts->H t=some (.tup [.int u.x,.int u.y])->ts.length<80->Tb H l us ts->l∉fp a->ow Pt H->(∀ ts' as' R' H',KP C A H' p dx a n T ts' as' R'->ts'.map Ti.key=(ts.filter λv=>decide (v.key≠u.key)).map Ti.key->Fm (p::Pt::fp a) H H'->ow Pt H'->Q (.bl true) H')->jr K C A Pt vs H Q E
def GJ:Rn (jr K C A Pt) (zg K C A (eQ K C A Pt) (bZ K C) (bS K C) (a9 K C A)) Y0:=by
 rintro vs H Q E ⟨p,dx,a,n,T,ts,as,R,t,l,us,u,rfl,ct,h,hn,hu,ht,hlen,tb,hl,hP,k⟩;obtain ⟨w,c1,c2,c3,c4,hw,hp⟩:=h.ob;obtain ⟨l1,l2,_⟩:=h.iv.lt u hu
 have hx:u.x<n:=by lia
 have hnd:=h.iv.nd;unfold zg;k_in;refine ⟨p,dx,_,rfl,hp,Kq,?_⟩;lk;refine fD (jZ.of ht) (v:=.int u.x) rfl ?_;lk;refine fD (jZ.of ht) (v:=.int u.y) rfl ?_;lk;refine ⟨p,dx,a,n,T,ts,as,R,u,rfl,ct,h,by lia,hu,by lia,hP,λq vs ts' as' R' H1 h1 hq g1 oks tr P1 F1=>?_⟩;have tb1:=tb.fm h hP hl F1;have t1:=h.tup hP F1 ht
 have hks:ts'.map Ti.key=(ts.filter λv=>decide (v.key≠u.key)).map Ti.key:=by rw [Gm,tr.keys,← Gm]
 have k1:∀ H',bN H1 H'->Q (.bl true) H':=λH' S'=>k ts' as' R' H' (h1.same S') hks (F1.trans (Fm.of S')) (P1.same S')
 have hl':ts'.length<90:=by
  have:=congrArg dt hks;rw [ag,ag] at this;have:=cw (λv=>decide (v.key≠u.key)) ts;lia
 -- which ties are in the RJ
 have bnd:((ts.map Ti.kb).map (·.1)).Nodup:=by rw [← Gm];exact hnd
 have bnd':(wB (ts'.map Ti.kb)).Nodup:=U8 (by rw [← Gm];exact h1.iv.nd)
 have uin:∀ b,(u.key,b)∈ts.map Ti.kb↔u.wd=b:=λb=>by
  rw [MW];exact ⟨λ⟨t,ht,e,f⟩=>by rw [← mi hnd ht hu e];exact f,λe=>⟨u,hu,rfl,e⟩⟩
 lk;refine tY (.lst g1) PZ ?_;refine ⟨true,rfl,iX ?_⟩;lk;refine ⟨l,us,ts,rfl,tb1,λq2 zs2 H2 S2 hq2 g2 pz2 pm2 up2 hl2=>?_⟩
 have Z2:Pz H2 q2 zs2:=⟨g2,pz2,up2,by lia⟩
 have m2:∀ k,k∈zs2.map zP↔(k,true)∈ts.map Ti.kb:=λk=>pm2.mem_iff.trans Gn;have nd2:(zs2.map zP).Nodup:=pm2.nodup_iff.mpr (U8 bnd);have t2:=S2 _ _ t1;lk;refine Bh (rQ t2) (ve g2 pz2) (pY _) (fc _ (nq _)) ?_;rw [Re,show decide (((u.x:Int),(u.y:Int))∈zs2.map zP)=decide (u.wd=true) from decide_eq_decide.mpr ((m2 u.key).trans (uin true))];refine ⟨_,rfl,?_⟩
 rcases tr with ⟨w0,rfl,eB⟩|⟨w1,vs0,v,rfl,fnd⟩
 ·rw [w0];refine lD ?_;lk;refine ⟨bI (m:=0) (av 0),λe he=>?_⟩;generalize eu_:upd H2 e (.lst [])=H3;obtain ⟨S3,g3⟩:=jK eu_ he;refine .inl (ME (.lst (c6.of (S3 _ _ (S2 _ _ g1))) .nil) (.lst (c6.of g3) .nil) (mH []) (mH []) ⟨true,rfl,lD ?_⟩);have S13:=S2.trans S3;refine GH ct (h1.same S13) hl' rfl λq4 zs4 H4 S4 z4 pm4=>?_;lk;refine z4.eq ((Z2.same S3).same S4) (pm4.trans (Gk bnd' nd2 λk=>?_)) (k1 _ (S13.trans S4));rw [Gn,eB,Gp,m2];exact ⟨λq=>q.1,λq=>⟨q,λe=>by rw [e,uin,w0] at q;cases q⟩⟩
 ·rw [w1];refine iX ?_;have tb2:=tb1.same S2;lk;refine .inl ⟨⟨_,c6.of tb2.g⟩,λacc hacc=>sU (o:=none) (rest:=[some (.ref t)]) (λs=>!decide (s.1.key=u.key)) tb2.g tb2.fl tb2.len hacc (λs H' G _ r4 S' g=>?_) λzs3 H3 S3 g3 pz3 e3=>?_⟩
  ·lk;refine TZ r4 λc hc=>?_;have S5:=bN.cK (o:=.tup [.int s.1.x,.int s.1.y]) hc;have g5:(upd H' c (.tup [.int s.1.x,.int s.1.y])) c=some (.tup [.int s.1.x,.int s.1.y]):=aF;generalize upd H' c (.tup [.int s.1.x,.int s.1.y])=H5 at S5 g5 ⊢;lk;refine UM (rQ g5) (rQ (S5 _ _ (S' _ _ t2))) (pY _) (pY _) ?_;rw [rP];exact ⟨_,rfl,g _ S5⟩
  obtain ⟨b3,pn⟩:=tb2.prs h.iv e3;lk;refine ⟨n,acc,zs3,rfl,by lia,g3,λz hz=>⟨pz3 z hz,b3 z hz⟩,λr hs H4 S4 hr J g4=>?_⟩;rw [pn] at J
  have jn:rt hs u.x=rt hs u.y↔(u.y:Int)∈R' 0 u.x:=by
   rw [J.j _ _ hx l2]
   have hmem:∀ kk,kk∈ts'.map Ti.key↔kk∈ts.map Ti.key/\kk≠u.key:=λkk=>by
    rw [hks,aT,aT];exact ⟨λ⟨t,ht,e⟩=>⟨⟨t,(bH.mp ht).1,e⟩,e▸of_decide_eq_true (bH.mp ht).2⟩,λ⟨⟨t,ht,e⟩,ne⟩=>⟨t,bH.mpr ⟨ht,decide_eq_true (e▸ne)⟩,e⟩⟩
   refine h1.iv.cn h1.jn (λpp hpp=>?_) (λs hs _=>?_) hx
   ·obtain ⟨s,hs,rfl⟩:=aT.mp hpp;obtain ⟨s1,s2⟩:=bH.mp hs;obtain ⟨s',hs',e'⟩:=aT.mp ((hmem s.1.key).mpr ⟨aZ (tb.mem s1),by simpa using s2⟩);obtain ⟨e1,e2⟩:=Ti.Ht e';exact ⟨s',hs',oE e1.symm e2.symm⟩
   ·obtain ⟨m1,m2⟩:=(hmem s.key).mp (aZ hs);obtain ⟨s',hs',e'⟩:=aT.mp m1;obtain ⟨v,hv,rfl⟩:=tb.of hs';obtain ⟨e1,e2⟩:=Ti.Ht e';exact aT.mpr ⟨v,bH.mpr ⟨hv,by simpa [e'] using m2⟩,oE e1 e2⟩
  have S24:=S3.trans S4;have S14:=S2.trans S24;have ok4:=(oks v (bB _ aw)).1;have gq4:=S14 _ _ g1
  have lst:NS ((vs0++[v]).map ph) (-1)=some (V.ref v.p):=by rw [aP];exact Io _ _
  lk;refine ⟨bI (m:=0) (av 0),λe he=>?_⟩;generalize eu_:upd H4 e (.lst [])=H5;obtain ⟨S5,g5⟩:=jK eu_ he;have S25:=S24.trans S5;have S15:=S14.trans S5;have gq5:=S5 _ _ gq4;have ok5:=S15 _ _ ok4;refine .inr ⟨q,e,_,_,rfl,rfl,gq5,g5,by simp,⟨false,rfl,iX ?_⟩⟩;lk;refine jU (c6.of gq5) lst ?_;lk;refine tY (.tup ok5) P0 ?_;refine ⟨true,rfl,iX ?_⟩;lk;refine jU (c6.of gq5) lst ?_;lk;refine PP (.of ok5) ?_;lk;refine K2 (λc=>absurd rfl c) λ_=>?_;lk;refine jU (c6.of gq5) lst ?_;lk;refine fD (jZ.of ok5) (d9 (j:=3) rfl rfl) ?_;have Z5:=Z2.same S25;have t5:=S25 _ _ t2;have r5:=S5 _ _ g4;lk;refine ⟨.inl ⟨rfl,_,c6.of Z5.g⟩,?_⟩;lk;refine Z5.rm (kk:=u.key) t5 ((m2 _).mpr ((uin true).mpr w1)) λzs6 Z6 e6=>?_
  have S16:bN H1 (upd H5 q2 (.lst (zs6.map dQ))):=λb o e=>by rw [aH (aQ e hq2)];exact S15 _ _ e
  have r6:(upd H5 q2 (.lst (zs6.map dQ))) r=some (.lst ((ni ((dv n).map (rt hs))).map V.int)):=by
   rw [aH];exact r5;rintro rfl;rw [S3 _ _ g2] at hr;cases hr
  generalize upd H5 q2 (.lst (zs6.map dQ))=H6 at Z6 S16 r6
  have m6:∀ k,k∈zs6.map zP↔(k,true)∈ts.map Ti.kb/\k≠u.key:=λk=>by
   rw [e6,nd2.mem_erase_iff,m2];exact And.comm
  have nd6:(zs6.map zP).Nodup:=by rw [e6];exact nd2.erase _
  have hl6:zs6.length<100:=by
   have:=congrArg dt e6;rw [ag,qB ((m2 _).mpr ((uin true).mpr w1)),ag] at this;lia
  have t6:=S16 _ _ t1;have h6:=h1.same S16;lk;refine fD (jZ.of t6) (v:=.int u.x) rfl ?_;refine T7 r6 hx ?_;lk;refine fD (jZ.of t6) (v:=.int u.y) rfl ?_;refine T7 r6 l2 ?_;lk
  rcases fnd with ⟨ef,eB,ny⟩|⟨z,kf,ef,gz,hm,eB,yy⟩
  ·refine K2 (λ_=>?_) λc=>absurd (jn.mp (lW (V.int.inj c))) ny;lk;refine tI (λ_=>?_) λc=>absurd ef c;refine GH ct h6 hl' rfl λq7 zs7 H7 S7 z7 pm7=>?_;lk;refine z7.eq (Z6.same S7) (pm7.trans (Gk bnd' nd6 λk=>?_)) (k1 _ (S16.trans S7));rw [Gn,eB,Gp,m6]
  ·refine K2 (λc=>absurd (by rw [jn.mpr yy]) c) λ_=>?_;have tb6:=tb1.same S16;lk;refine .inl ⟨⟨_,c6.of tb6.g⟩,λacc7 hacc7=>sU (o:=none) (rest:=[]) (λs=>!s.1.wd) tb6.g tb6.fl tb6.len hacc7 (λs H' G _ r4 S' g=>?_) λzs7 H7 S7 g7 pz7 e7=>?_⟩
   ·lk;refine fD (jZ.of r4) (v:=.bl s.1.wd) rfl ?_;exact ⟨_,rfl,g _ (λ_ _ e=>e)⟩
   obtain ⟨VC,kne⟩:=Gp.mp hm;have S17:=S16.trans S7;have gz7:=S17 _ _ gz;rw [ef];refine Bh (rQ gz7) (ve g7 pz7) (pY _) (fc _ (nq _)) ?_
   rw [Re,decide_eq_true (by
    rw [e7];obtain ⟨s,hs,es,ew⟩:=MW.mp VC;obtain ⟨v,hv,rfl⟩:=tb.of hs
    exact aT.mpr ⟨v,bH.mpr ⟨hv,by rw [ew];rfl⟩,es⟩)]
   refine ⟨_,rfl,iX ?_⟩;k_ne;k_ne;refine GH ct (h6.same S7) hl' rfl λq8 zs8 H8 S8 z8 pm8=>?_;refine Rg ((Z6.same S7).same S8) hl6 (kk:=kf) (S8 _ _ gz7) rfl rfl λl' zs' H' S' pm' z'=>?_;refine (z8.same S').eq z' (pm8.trans ((Gk bnd' (fA.mpr ⟨nd6,by simp,λp hp p' hp' e=>?_⟩) λk=>?_).trans pm'.symm)) (k1 _ ((S17.trans S8).trans S'))
   ·rw [e,aA.mp hp',m6] at hp;have:=YY bnd hp.1 VC;cases this
   ·rw [Gn,eB,TQ,Gp,aN,aA,m6];exact ⟨λq=>q.elim .inl λq=>.inr q.1,λq=>q.imp id λq=>⟨q,false,hm⟩⟩
def Y5 (ws:List (Ti×af)) (h:0<ws.length) (z:Int):∃ u∈ws,NS (ws.map rV) (z%(ws.length:Int))=some (rV u):=by
 obtain ⟨j,ej,hj⟩:=em h z;exact ⟨ws[j],hZ hj,by rw [ej];exact d9 rfl (by rw [aB,ay hj];rfl)⟩
def Ng {tt:TT}{o:Option V}{rest:L2.St}{z acc:af}{R:Hp->Prop}(pf:Ti×af->Bool) (hz:H z=some (.lst (us.map rV))) (fl:∀ u∈us,pj H u) (hl:us.length<100) (ha:H acc=none)
   (turn:∀ (u:Ti×af) (H':Hp) (G:Bool->Hp->Prop),u∈us->pj H' u->G (pf u) H'->tt (some (rV u)::rest) H' G)
   (fin:∀ (H':Hp),bN H H'->H' acc=some (.lst ((us.filter pf).map rV))->R H') :
  ∃ W:Nat->Nat->List V->L2.St->Hp->Prop,(∃ m,W 0 m [] (o::rest) (upd H acc (.lst [])))/\∀ i m ys σ' H',W i m ys σ' H'->H' acc=some (.lst ys) /\
  (((HR K z).stop i H'/\R H')\/((HR K z).go i H'/\∀ x H2,(HR K z).Ka i H' x H2->(bp 0) x σ' H2 λσ2 H3=>tt σ2 H3 λb H4 =>
   if b=true then (aq 0) σ2 H4 λy H5=>H5 acc=some (.lst ys)/\ys.length<aV/\∃ m',m'<m/\W (i+1) m' (ys++[y]) σ2 (upd H5 acc (.lst (ys++[y]))) else ∃ m',m'<m/\W (i+1) m' ys σ2 H4)):=by
 refine vO (K:=K) us pf rV (λZ=>∃ o,Z=o::rest) (by rw [ag]) (c6.of hz) ha ⟨_,rfl⟩ (by rw [ag];lia) ?_ λH2 S2 g2=>fin H2 S2 g2;rintro i u x σ' H' G G' hu hx S' ⟨o,rfl⟩ hG hG';rw [aB,hu] at hx;cases hx;have r4:=S' _ _ (fl u (aR hu));refine Ga ?_;refine turn u H' _ (aR hu) r4 ?_
 cases hw:pf u with
 | false=>exact iX (hG' hw _ ⟨_,rfl⟩)
 | true =>
  refine lD (IA rfl ?_);exact hG hw _ ⟨_,rfl⟩
def Rh {q:af}{ws:List (Ti×af)}(g:H q=some (.lst (ws.map rV))) (k:∀ H',bN H H'->Q (.bl (!ws.isEmpty)) H'):(tF aX) [] H λy H2=>TH K (.ref q) y H2 Q:=by
 lk;refine ⟨bI (m:=0) (av 0),λe he=>?_⟩;have S:=bN.cK (o:=.lst []) he;have g1:(upd H e (.lst [])) e=some (.lst []):=aF;have k:=k _ S;generalize upd H e (.lst [])=H1 at S g1 k
 cases ws with
 | nil=>exact .inl (UM (.lst (c6.of (S _ _ g)) .nil) (.lst (c6.of g1) .nil) (mH []) (mH []) k)
 | cons u ws=>exact .inr ⟨q,e,_,_,rfl,rfl,S _ _ g,g1,by simp,k⟩
inductive dA (K:aa) (C:af) (vs:List V) (H:Hp) (Q:VK) (E:XK):Prop
 | mk (c:Int) (kk n:Nat) (l:af) (us:List (Ti×af)) (ts:List Ti):vs=[.int c,.int kk,.int n,.ref l]->2<=n->n<=24->kk<=100->Tb H l us ts->(∀ t∈ts,t.x<t.y/\t.y<n)->(∀ (t:af) (x y:Nat) H',bN H H'->H' t=some (.tup [.int x,.int y])->x<y->y<n->Q (.ref t) H')->dA K C vs H Q E
def DW:Rn (dA K C) (wo K C) Y2:=by
 rintro vs H Q E ⟨c,kk,n,l,us,ts,rfl,hn,hn2,hkk,tb,hb,k⟩;have k1:∀ {H1:Hp}{u:Ti×af}{t:af},bN H H1->u∈us->H1 t=none->Q (.ref t) (upd H1 t (.tup [.int u.1.x,.int u.1.y])):=λS hu ht=>k _ _ _ _ (S.trans (bN.cK ht)) aF (hb _ (tb.mem hu)).1 (hb _ (tb.mem hu)).2;unfold wo;lk;refine .inl ⟨⟨_,c6.of tb.g⟩,λacc hacc=>Ng (o:=none) (rest:=[]) (λu=>u.1.wd) tb.g tb.fl tb.len hacc (λu H' G hu r4 g=>?_) λH1 S1 g1=>?_⟩
 ·lk;refine fD (jZ.of r4) (v:=.bl u.1.wd) rfl ?_;exact ⟨_,rfl,g⟩
 have sub:∀ u∈us.filter λu=>u.1.wd,u∈us:=λu hu=>(bH.mp hu).1;have wl:(us.filter λu=>u.1.wd).length<100:=bf (cw _ _) tb.len;generalize us.filter (λu=>u.1.wd)=ws at g1 sub wl;have fl1:∀ u∈us,pj H1 u:=λu hu=>S1 _ _ (tb.fl u hu);k_ne
 with_reducible refine Cj (λZ H2=>bN H H2/\Z=[some (.int c),some (.int kk),some (.int n),some (.ref l),some (.int (c%4)),some (.ref acc),none,none,none]) ?_ λgo=>?_
 ·rintro Z H2 ⟨S2,rfl⟩
  with_reducible refine Cj (λZ H3=>bN H H3/\Z=[some (.int c),some (.int kk),some (.int n),some (.ref l),some (.int (c%4)),some (.ref acc),none,none,none]) ?_ λgo=>?_
  ·rintro Z H3 ⟨S3,rfl⟩;obtain ⟨a,ea,ha⟩:=em (n:=n) (by lia) (c/4);obtain ⟨r,er,hr⟩:=em (n:=n-1) (by lia) (c/4/(n:Int)+kk);obtain ⟨b,eb,hbn⟩:=em (n:=n) (by lia) ((a:Int)+1+r)
   have hab:a≠b:=λe=>by
    rw [← e] at eb
    by_cases q:(a:Int)+1+r<n
    ·rw [VQ (by lia) q] at eb;lia
    ·rw [← Int.sub_emod_right,VQ (by lia) (by lia)] at eb;lia
   lk;rw [ea,show ((n:Int)-1)=((n-1:Nat):Int) by lia,er,eb];rw [show (if (b:Int)<a then (b:Int) else a)=((min a b:Nat):Int) by split<;>lia,show (if (b:Int)>a then (b:Int) else a)=((max a b:Nat):Int) by split<;>lia];refine ⟨bI (m:=2) (av 2),λt ht=>?_⟩;exact k t (min a b) (max a b) _ (S3.trans (bN.cK ht)) aF (by lia) (by lia)
  ·lk;refine tI (λ_=>?_) λ_=>?_
   ·k_ne;k_ne;k_ne
    refine Rh (S2 _ _ tb.g) λH3 S3=>⟨_,rfl,?_⟩
    have S03:=S2.trans S3
    cases hus:us.isEmpty with
    | true=>exact iX (go _ _ ⟨S03,rfl⟩)
    | false =>
     have h0:0<us.length:=by
      cases us with
      | nil=>cases hus
      | cons u us=>simp
     obtain ⟨u,hu,hat⟩:=Y5 us h0 (c/4+3*kk);refine lD ?_;lk;refine pR (c6.of (S03 _ _ tb.g)) ?_;rw [ag];lk;refine jU (c6.of (S03 _ _ tb.g)) hat ?_;lk;exact TZ (S03 _ _ (tb.fl u hu)) λt ht=>k1 S03 hu ht
   ·exact iX (go _ _ ⟨S2,rfl⟩)
 ·lk;refine tI (λ_=>?_) λ_=>?_
  ·k_ne;k_ne;k_ne
   refine Rh g1 λH3 S3=>⟨_,rfl,?_⟩
   have S03:=S1.trans S3
   cases hws:ws.isEmpty with
   | true=>exact iX (go _ _ ⟨S03,rfl⟩)
   | false =>
    have h0:0<ws.length:=by
     cases ws with
     | nil=>cases hws
     | cons u us=>simp
    refine lD ?_;have g3:=S3 _ _ g1;have fl3:∀ u∈ws,pj H3 u:=λu hu=>S3 _ _ (fl1 u (sub u hu));lk;refine .inl ⟨⟨_,c6.of g3⟩,λacc2 hacc2=>vO (K:=K) ws (λ_=>true) (λu=>.int u.1.cS) (λZ=>∃ o,Z=[o]) (by rw [ag]) (c6.of g3) hacc2 ⟨_,rfl⟩ (by rw [ag];lia) ?_ λH4 S4 g4=>?_⟩
    ·rintro i u x σ' H' G G' hu hx S' ⟨o,rfl⟩ hG hG';rw [aB,hu] at hx;cases hx;have r4:=S' _ _ (fl3 u (aR hu));lk;refine lD ?_;lk;refine fD (jZ.of r4) (v:=.int u.1.cS) rfl ?_;exact hG rfl _ ⟨_,rfl⟩
    rw [xM.mpr λ_ _=>rfl] at g4;lk;refine ⟨acc2,(ws.map λu=>(u.1.cS:Int)),rfl,by rw [bo];exact c6.of g4,by rw [ag];exact h0,λM hM _=>?_⟩;obtain ⟨u1,hu1,eM⟩:=aT.mp hM;have g5:=S4 _ _ g3;lk;refine .inl ⟨⟨_,c6.of g5⟩,λacc3 hacc3=>Ng (o:=none) (rest:=[some (.int M)]) (λu=>decide ((u.1.cS:Int)=M)) g5 (λu hu=>S4 _ _ (fl3 u hu)) wl hacc3 (λu H' G hu r4 g=>?_) λH5 S5 g5=>?_⟩
    ·lk;refine fD (jZ.of r4) (v:=.int u.1.cS) rfl ?_;lk;rw [show decide (V.int u.1.cS=V.int M)=decide ((u.1.cS:Int)=M) from decide_eq_decide.mpr ⟨V.int.inj,congrArg V.int⟩];exact g
    have h5:0<(ws.filter λu=>decide ((u.1.cS:Int)=M)).length:=tm (bH.mpr ⟨hu1,decide_eq_true eM⟩);have sub5:∀ u∈ws.filter λu=>decide ((u.1.cS:Int)=M),u∈us:=λu hu=>sub u (bH.mp hu).1;generalize ws.filter (λu=>decide ((u.1.cS:Int)=M))=xs at g5 h5 sub5;have S05:=S03.trans (S4.trans S5);obtain ⟨u,hu,hat⟩:=Y5 xs h5 (c/4+kk);lk;refine pR (c6.of g5) ?_;rw [ag];lk;refine jU (c6.of g5) hat ?_;lk;exact TZ (S05 _ _ (tb.fl u (sub5 u hu))) λt ht=>k1 S05 (sub5 u hu) ht
  ·exact iX (go _ _ ⟨S1,rfl⟩)
abbrev Y6 (Pt:af) (H:Hp):Prop:=qE Pt ⟨271,37,271,94⟩ ((("_law_shape":bj)++".<locals>.")++"<lambda>") H
def Dv (w n:Int):List Int:=if w=1 then [1,n-1] else if w=3 then [1,2] else if w=4 then [1,2,3] else [1,2,4,8]
def Sh (w n:Int) (k:Int×Int):Prop:=if w=2 then k.2<8 else k.2-k.1∈Dv w n
def W7 {w n:Int}{ks:List (Int×Int)}(nd:ks.Nodup) (h:∀ k∈ks,∃ i j:Nat,k.1=(i:Int)/\k.2=(j:Int)/\i<j/\j<24) (hs:∀ k∈ks,Sh w n k):ks.length<=96:=by
 by_cases c:w=2
 ·refine bu (BC nd (m:=(dv 8).flatMap λa:Nat=>(dv 8).map λb:Nat=>((a:Int),(b:Int))) λk hk=>?_) (by decide);obtain ⟨i,j,e1,e2,h1,h2⟩:=h k hk;have:=hs k hk;unfold Sh at this;rw [if_pos c] at this;exact VR.mpr ⟨i,jP.mpr (by lia),aT.mpr ⟨j,jP.mpr (by lia),oE e1.symm e2.symm⟩⟩
 ·refine bu (BC nd (m:=(dv 24).flatMap λa:Nat=>(Dv w n).map λd=>((a:Int),(a:Int)+d)) λk hk=>?_) ?_
  ·obtain ⟨i,j,e1,e2,h1,h2⟩:=h k hk;have:=hs k hk;unfold Sh at this;rw [if_neg c] at this;exact VR.mpr ⟨i,jP.mpr (by lia),aT.mpr ⟨_,this,oE e1.symm (show (i:Int)+(k.2-k.1)=k.2 by lia)⟩⟩
  ·have:(Dv w n).length<=4:=by unfold Dv;(repeat' split)<;>simp
   simp only [List.length_flatMap,ag,List.map_const',List.sum_replicate_nat,lV];lia
structure Zs (n:Nat) (w:Int) (H:Hp) (l:af) (zs:List Zt) (a b:Int):Prop where
 g:H l=some (.lst (zs.map dQ))
 pz:∀ z∈zs,Lz n H z
 sh:∀ z∈zs,Sh w n (zP z)
 lt:∀ z∈zs,z.1<a\/z.1=a/\z.2.1<b
 nd:(zs.map zP).Nodup
section
variable {w:Int}{a b:Int}
def Zs.len (Zzq:Zs n w H l zs a b) (hn:n<=24):zs.length<=96:=by
 have:=W7 Zzq.nd (w:=w) (n:=n) (λk hk=>by
  obtain ⟨z,hz,rfl⟩:=aT.mp hk;obtain ⟨i,j,e1,e2,h1,h2⟩:=(Zzq.pz z hz).2
  exact ⟨i,j,e1,e2,h1,by lia⟩) λk hk=>by
  obtain ⟨z,hz,rfl⟩:=aT.mp hk;exact Zzq.sh z hz
 rwa [ag] at this
def Zs.same (Zzq:Zs n w H l zs a b) (S:bN H H'):Zs n w H' l zs a b:=⟨S _ _ Zzq.g,λz hz=>⟨S _ _ (Zzq.pz z hz).1,(Zzq.pz z hz).2⟩,Zzq.sh,Zzq.lt,Zzq.nd⟩
def Zs.mono (Zzq:Zs n w H l zs a b) {a' b':Int}(h:∀ x y:Int,(x<a\/x=a/\y<b)->(x<a'\/x=a'/\y<b')\/¬ y<n):Zs n w H l zs a' b':=⟨Zzq.g,Zzq.pz,Zzq.sh,λz hz=>(h _ _ (Zzq.lt z hz)).resolve_right λq=>by
 obtain ⟨i,j,e1,e2,h1,h2⟩:=(Zzq.pz z hz).2
 lia,Zzq.nd⟩
def wJ {i hd:Int}{X:TT}{D:tD}{a b:Nat}{o6:Option V}{H0:Hp}(hn:n<=24) (hab:a<b) (hb:b<n) (Zzq:Zs n w H l zs a (if w<i then b+1 else b)) (B:bq l H0 H)
  (hX:w=i->∀ H G,(∀ (c:Bool) H',bN H H'->(c=true->Sh w n ((a:Int),(b:Int)))->G c H')->X [some (.int hd),some (.int n),some (.ref l),some (.int w),some (.int a),some (.int b),o6] H G)
  (fin:∀ zs' H',Zs n w H' l zs' a (if w<i+1 then b+1 else b)->bq l H0 H'->D.nx [some (.int hd),some (.int n),some (.ref l),some (.int w),some (.int a),some (.int b),o6] H') :
  ie (xN (dj (cq (iT K) (aq 3) (tC (.int i)))) X) (fB (Dk K "list" j6 (aq 2) (ax (nH (ax (aq 4) (ax (aq 5) aX))) aX))) eY D [some (.int hd),some (.int n),some (.ref l),some (.int w),some (.int a),some (.int b),o6] H:=by
 have hl:=Zzq.len hn;lk;refine tI (λc=>?_) λc=>iX ?_
 ·have c:w=i:=V.int.inj c;rw [if_neg (by lia)] at Zzq;rw [if_pos (by lia)] at fin;refine hX c _ _ λc' H1 S1 hs=>?_;have B1:bq l H0 H1:=λb o e ne=>S1 _ _ (B _ _ e ne);have Z1:=Zzq.same S1
  cases c' with
  | false=>exact iX (fin zs H1 (Z1.mono λx y h=>.inl (by lia)) B1)
  | true =>
   refine lD ?_;lk;refine ⟨.inl ⟨rfl,_,c6.of Z1.g⟩,?_⟩;lk;refine ⟨bI (m:=2) (av 2),λp hp=>?_⟩;generalize eu_:upd H1 p (.tup [.int a,.int b])=H2;obtain ⟨S2,g2⟩:=jK eu_ hp;have Z2:=Z1.same S2;lk;refine qX Z2.g (eP (m:=100) (by rw [ag];lia)) ?_;have tn:∀ {b:af}{xs:List V}{ys:List V},H2 b=some (.tup xs)->(upd H2 l (.lst ys)) b=some (.tup xs):=λe=>(aH (fX e Z2.g)).trans e
   refine fin (zs++[((a:Int),(b:Int),p)]) _ ⟨by rw [aF,aP];rfl,λz hz=>?_,λz hz=>?_,λz hz=>?_,?_⟩ λb' o' e hne=>by rw [aH hne];exact S2 _ _ (B1 _ _ e hne)
   ·rcases aN.mp hz with hz|hz
    ·exact ⟨tn (Z2.pz z hz).1,(Z2.pz z hz).2⟩
    ·rw [aA.mp hz];exact ⟨tn g2,a,b,rfl,rfl,hab,hb⟩
   ·rcases aN.mp hz with hz|hz
    ·exact Z2.sh z hz
    ·rw [aA.mp hz];exact hs rfl
   ·rcases aN.mp hz with hz|hz
    ·have:=Z2.lt z hz;lia
    ·rw [aA.mp hz];exact .inr ⟨rfl,show (b:Int)<b+1 by lia⟩
   ·rw [aP,fA];refine ⟨Z2.nd,by simp,λk hk k' hk' e=>?_⟩;obtain ⟨z,hz,rfl⟩:=aT.mp hk;rw [oI,aA] at hk';rw [hk'] at e;obtain ⟨e1,e2⟩:=cg e;have e1:z.1=(a:Int):=e1;have e2:z.2.1=(b:Int):=e2;have:=Z2.lt z hz;lia
 ·have c:¬ w=i:=λe=>c (by rw [e]);refine fin zs H ?_ B
  by_cases q:w<i
  ·rw [if_pos q] at Zzq;rw [if_pos (by lia)];exact Zzq
  ·rw [if_neg q] at Zzq;rw [if_neg (by lia)];exact Zzq
end
def bN.rf:bN H H:=λ_ _ e=>e
def LA {a:Nat}{w hd:Int}{H0:Hp}{D:tD}{o5 o6:Option V}(hn:n<=24) (hw:w<6) (ha:a<n) (Zzq:Zs n w H l zs a 0) (B:bq l H0 H)
  (fin:∀ o5 zs' H',Zs n w H' l zs' (a+1) 0->bq l H0 H'->D.nx [some (.int hd),some (.int n),some (.ref l),some (.int w),some (.int a),o5,o6] H') :
  mj K C Pt D [some (.int hd),some (.int n),some (.ref l),some (.int w),some (.int a),o5,o6] H:=by
 unfold mj;lk;unfold Pm;lk;refine ⟨_,_,rfl,⟨by lia,by lia,by lia,by lia⟩,?_⟩;refine oK (λi Z H4=>∃ o5 zs',Z=[some (.int hd),some (.int n),some (.ref l),some (.int w),some (.int a),o5,o6]/\Zs n w H4 l zs' a (a+1+i:Nat)/\bq l H0 H4) ⟨_,zs,rfl,Zzq.mono λx y h=>.inl (by lia),B⟩ ?_ ?_
 ·rintro i Z H4 hi ⟨o5,zs',rfl,Z4,B4⟩
  obtain ⟨b,eb⟩:∃ b:Nat,b=a+1+i:=⟨_,rfl⟩
  have hab:a<b:=by lia
  have hb:b<n:=by lia
  k_ne;rw [show (a:Int)+1+(i:Int)=(b:Int) by lia];rw [← eb] at Z4
  with_reducible refine Iz ?_
  refine wJ (i:=1) hn hab hb (by split<;>exact Z4.mono λx y h=>.inl (by lia)) B4 (λe H G go=>?_) λzs1 H1 Z1 B1=>?_
  ·lk;refine tI (λc=>?_) λ_=>?_
   ·have c:=V.int.inj c
    exact go true H bN.rf λ_=>by unfold Sh;rw [if_neg (by lia),e];exact au.mpr (.inl (by show (b:Int)-a=1;lia))
   ·lk;refine go _ H bN.rf λc=>?_;have c:=V.int.inj (of_decide_eq_true c);unfold Sh;rw [if_neg (by lia),e];exact aj _ (aA.mpr (by show (b:Int)-a=n-1;lia))
  dsimp only
  with_reducible refine Iz ?_
  refine wJ (i:=2) hn hab hb Z1 B1 (λe H G go=>?_) λzs2 H2 Z2 B2=>?_
  ·obtain ⟨m,em',hm⟩:=em (n:=5) (by decide) (hd/6);lk;refine go _ H bN.rf λc=>?_;have c:=of_decide_eq_true c;unfold Sh;rw [if_pos e]
   show (b:Int)<8
   lia
  dsimp only
  with_reducible refine Iz ?_
  refine wJ (i:=3) hn hab hb Z2 B2 (λe H G go=>?_) λzs3 H3 Z3 B3=>?_
  ·lk;refine tI (λc=>?_) λ_=>?_
   ·have c:=V.int.inj c
    exact go true H bN.rf λ_=>by unfold Sh;rw [if_neg (by lia),e];exact aj _ (aA.mpr (by show (b:Int)-a=2;lia))
   ·lk;refine tI (λc=>?_) λ_=>?_
    ·have c:=V.int.inj c;lk
     exact go _ H bN.rf λ_=>by unfold Sh;rw [if_neg (by lia),e];exact au.mpr (.inl (by show (b:Int)-a=1;lia))
    ·exact go false H bN.rf λq=>nomatch q
  dsimp only
  with_reducible refine Iz ?_
  refine wJ (i:=4) hn hab hb Z3 B3 (λe H G go=>?_) λzs4 H4 Z4 B4=>?_
  ·lk;refine tI (λc=>?_) λ_=>?_
   ·have hs:Sh w n ((a:Int),(b:Int)):=by
     unfold Sh;rw [if_neg (by lia),e]
     show (b:Int)-a∈[1,2,3]
     simp only [au,dw,or_false];lia
    lk;refine tI (λc=>go true H bN.rf λ_=>hs) λ_=>?_;lk;refine tI (λc=>go true H bN.rf λ_=>hs) λ_=>?_;lk;exact go _ H bN.rf λ_=>hs
   ·exact go false H bN.rf λq=>nomatch q
  dsimp only;refine wJ (i:=5) hn hab hb Z4 B4 (λe H G go=>?_) λzs5 H5 Z5 B5=>?_
  ·lk;refine ⟨bI (m:=4) (by decide),λt ht=>?_⟩;have S1:=bN.cK (o:=.tup [.int 1,.int 2,.int 4,.int 8]) ht;have g1:(upd H t (.tup [.int 1,.int 2,.int 4,.int 8])) t=some (.tup (([1,2,4,8]:List Int).map V.int)):=aF;generalize upd H t (.tup [.int 1,.int 2,.int 4,.int 8])=H1 at S1 g1;refine .inl ⟨.int ((b:Int)-a),([1,2,4,8]:List Int).map FJ,.int _,.inr (.tup (.of g1) (eD.ints _)),⟨rfl,by simp [lz]⟩,fc _ (pT _),?_⟩;rw [if_neg bC,any_ints];refine ⟨_,rfl,go _ H1 S1 λc=>?_⟩;unfold Sh;rw [if_neg (by lia),e];exact of_decide_eq_true c
  exact ⟨_,zs5,rfl,by rw [if_pos (by lia)] at Z5;rw [show ((a+1+(i+1):Nat):Int)=(b:Int)+1 by lia];exact Z5,B5⟩
 ·rintro Z H4 ⟨o5,zs',rfl,Z4,B4⟩;exact fin o5 zs' H4 (Z4.mono λx y h=>by lia) B4
inductive iq (K:aa) (C:af) (Pt:af) (vs:List V) (H:Hp) (Q:VK) (E:XK):Prop
 | mk (hd:Int) (n:Nat):vs=[.int hd,.int n]->n<=24->Y6 Pt H->(∀ (l:af) (zs:List Zt) (H':Hp),pD Pt H H'->H l=none->H' l=some (.lst (zs.map dQ))->(∀ z∈zs,Lz n H' z)->(zs.map zP).Nodup->zs.length<=36->Q (.ref l) H')->iq K C Pt vs H Q E
def Ck:Rn (iq K C Pt) (lQ K C Pt) WZ:=by
 rintro vs H Q E ⟨hd,n,rfl,hn,hT,k⟩;have hw:hd%6<6:=Aw _ (by decide);unfold lQ;lk;refine ⟨bI (m:=0) (av 0),λl hl0=>?_⟩;have S1:=bN.cK (o:=.lst []) hl0;have g1:(upd H l (.lst [])) l=some (.lst (([]:List Zt).map dQ)):=aF;generalize upd H l (.lst [])=H1 at S1 g1;lk;unfold ql;lk;refine ⟨by lia,by lia,oK (λi Z H4=>∃ o4 o5 zs,Z=[some (.int hd),some (.int n),some (.ref l),some (.int (hd%6)),o4,o5,none]/\Zs n (hd%6) H4 l zs i 0/\bq l H1 H4) ⟨_,_,[],rfl,⟨g1,(λz hz=>nomatch hz),(λz hz=>nomatch hz),(λz hz=>nomatch hz),oF⟩,bq.refl _ _⟩ ?_ ?_⟩
 ·rintro i Z H4 hi ⟨o4,o5,zs,rfl,Z4,B4⟩;k_ne;rw [iM]
  exact LA hn hw hi Z4 B4 λo5 zs' H5 Z5 B5=>⟨_,_,zs',rfl,Z5,B5⟩
 ·rintro Z H4 ⟨o4,o5,zs,rfl,Zzq,B⟩;have hl:=Zzq.len hn;have S4:bN H H4:=λb o e=>B _ _ (S1 _ _ e) (aQ e hl0);have T4:Y6 Pt H4:=hT.same S4
  have fin:∀ (us:List Zt) (H5:Hp) (p:af),us.Perm zs->pD Pt H4 H5->Y6 Pt H5->H5 p=none->Q (.ref p) (upd H5 p (.lst ((us.map dQ).take 36))):=λus H5 p pm ST T5 hp=>by
   have S6:=bN.cK (o:=.lst ((us.map dQ).take 36)) hp
   have g6:(upd H5 p (.lst ((us.map dQ).take 36))) p=some (.lst ((us.take 36).map dQ)):=by rw [aF,hJ]
   generalize upd H5 p (.lst ((us.map dQ).take 36))=H6 at S6 g6;have hm:∀ z∈us.take 36,z∈zs:=λz hz=>pm.mem_iff.mp (vB hz);refine k p (us.take 36) H6 (λb o hb e=>S6 _ _ (ST _ _ hb (S4 _ _ e))) (S4.free (ST.free T5 hp)) g6 (λz hz=>⟨S6 _ _ (ST.tup T4 (Zzq.pz z (hm z hz)).1),(Zzq.pz z (hm z hz)).2⟩) ?_ (by rw [bK];lia);exact (((Us 36 us).map zP).nodup ((pm.map zP).nodup_iff.mpr Zzq.nd))
  lk;refine tI (λ_=>?_) λ_=>?_
  ·lk;unfold Lc;lk;refine ⟨l,zs.map (λz=>(([z.2.1-z.1,z.1],z.2.2):Zn)),rfl,by rw [bo];exact Zzq.g,λz hz=>?_,by rw [ag];lia,T4,λl2 zs2 H2 hn2 ST T2 pm _=>?_⟩
   ·obtain ⟨u,hu,rfl⟩:=aT.mp hz;exact ⟨_,_,rfl,(Zzq.pz u hu).1⟩
   obtain ⟨us,hu,rfl⟩:=Sy.perm_map pm.symm zs rfl;have S5:=bN.cK (o:=.lst (us.map dQ)) hn2;have g5:(upd H2 l2 (.lst (us.map dQ))) l2=some (.lst (us.map dQ)):=aF;rw [show (us.map (λz=>(([z.2.1-z.1,z.1],z.2.2):Zn))).map lF=us.map dQ by rw [bo];rfl];generalize upd H2 l2 (.lst (us.map dQ))=H5 at S5 g5;lk;refine ⟨l2,_,rfl,c6.of g5,λp hp=>?_⟩;rw [uU (show (36:Int)=((36:Nat):Int) from rfl)];exact fin us H5 p hu (λb o hb e=>S5 _ _ (ST _ _ hb e)) (T2.same S5) hp
  ·lk;refine pR (c6.of Zzq.g) ?_;rw [ag];lk;obtain ⟨j,ej,hj⟩:=em (n:=zs.length+1) (by lia) (hd/30);rw [show ((zs.length:Int)+1)=((zs.length+1:Nat):Int) by lia,ej];refine ⟨l,_,rfl,c6.of Zzq.g,λp1 hp1=>?_⟩;rw [IC rfl];generalize eu_:upd H4 p1 (.lst ((zs.map dQ).drop j))=H5;obtain ⟨S5,g5⟩:=jK eu_ hp1;lk;refine ⟨l,_,rfl,c6.of (S5 _ _ Zzq.g),λp2 hp2=>?_⟩;rw [uU rfl];generalize eu_:upd H5 p2 (.lst ((zs.map dQ).take j))=H6;obtain ⟨S6,g6⟩:=jK eu_ hp2;refine PU (S6 _ _ g5) g6 (bI (m:=200) (by rw [cQ,bK,ag];lia)) λp3 hp3=>?_;have S7:=bN.cK (o:=.lst ((zs.map dQ).drop j++(zs.map dQ).take j)) hp3
   have g7:(upd H6 p3 (.lst ((zs.map dQ).drop j++(zs.map dQ).take j))) p3=some (.lst ((zs.drop j++zs.take j).map dQ)):=by rw [aF,aP,qz,hJ]
   generalize upd H6 p3 (.lst ((zs.map dQ).drop j++(zs.map dQ).take j))=H7 at S7 g7;have S47:=S5.trans (S6.trans S7);lk;refine ⟨p3,_,rfl,c6.of g7,λp hp=>?_⟩;rw [uU (show (36:Int)=((36:Nat):Int) from rfl)]
   exact fin _ H7 p (by
    have:=fU (l₁:=zs.drop j) (l₂:=zs.take j)
    rwa [eL] at this) (λb o _ e=>S47 _ _ e) (T4.same S47) hp
section
def KP.keep (h:KP C A H p dx a n T ts as R) {X:List af}(F:Fm X H H') (h1:∀ b∈X,b∉p::a.L::fp a) (h2:∀ b∈X,(∀ c e f,H b=some (.ins c e f)->f.lookup ("rows":bj)=none/\f.lookup ("woods":bj)=none)/\∀ r:List Int,r≠[]->H b≠some (.lst (r.map V.int))):KP C A H' p dx a n T ts as R:=by
 obtain ⟨w,c1,c2,c3,c4,hw,hp⟩:=h.ob;refine ⟨⟨w,c1,c2,c3,c4,hw,F _ _ (λz=>h1 _ z aw) hp⟩,h.lv.keep F (λx f e _ hx hm=>?_) (λb hb z=>h1 b z (aj _ (aj _ hb))) (λz=>h1 _ z (aj _ aw)) (λb r hr e z=>(h2 b z).2 r hr e),h.iv,h.jn,h.tp⟩
 rcases hx with z|⟨v,hv,z⟩
 ·have:=((h2 x hm).1 _ _ _ (by rw [z];exact h.lv.ob)).2;rw [Vp] at this;cases this
 ·obtain ⟨i,_,hi⟩:=h.lv.at hv;have:=((h2 x hm).1 _ _ _ (by rw [z];exact (h.lv.wa i v hi).ob)).1;rw [iK] at this;cases this
def KP.set (h:KP C A H p dx a n T ts as R) {d:af}{u u':List (List iA×V)}(hd:H d=some (.dT u)) (hn:d∉a.L::fp a):KP C A (upd H d (.dT u')) p dx a n T ts as R :=
 h.keep (X:=[d]) (Fm.upd aw) (λb hb z=>by
  rw [aA.mp hb] at z
  rcases au.mp z with rfl|z
  ·obtain ⟨fs,hp⟩:=h.p0;rw [hd] at hp;cases hp
  ·exact hn z) λb hb=>by
  rw [aA.mp hb,hd];exact ⟨(λ_ _ _ z=>nomatch z),(λ_ _ z=>nomatch z)⟩
end
structure Lw (C:af) (A:CA) (Pt p dx d:af) (a:AL) (n T:Nat) (ts:List Ti) (H:Hp):Prop where
 kp:∃ as R,KP C A H p dx a n T ts as R
 hP:ow Pt H
 hd:H d=some (.dT (kd (ts.map Ti.key)))
section
variable {ts':List Ti}{d:af}
def Lw.same (h:Lw C A Pt p dx d a n T ts H) (S:bN H H'):Lw C A Pt p dx d a n T ts H' :=
 let ⟨s,r,k⟩:=h.kp;⟨⟨s,r,k.same S⟩,h.hP.same S,S _ _ h.hd⟩
def Lw.fm (h:Lw C A Pt p dx d a n T ts H) (F:Fm (d::p::Pt::fp a) H H') {b:af}{o:HO}(e:H b=some o) (h1:∀ ks,o≠.dT ks) (h2:∀ x y z,o≠.ins x y z) (h3:∀ ps,o≠.tbl ps) (h4:b∉fp a):H' b=some o:=F _ _ (λz=>by
 obtain ⟨_,_,k⟩:=h.kp;obtain ⟨_,hp⟩:=k.p0
 rcases au.mp z with rfl|z
 ·rw [h.hd] at e;cases e;exact h1 _ rfl
 ·rcases au.mp z with rfl|z
  ·rw [hp] at e;cases e;exact h2 _ _ _ rfl
  ·rcases au.mp z with z|z
   ·exact h.hP.ne e h3 z
   ·exact h4 z) e
def Lw.tup (h:Lw C A Pt p dx d a n T ts H) (F:Fm (d::p::Pt::fp a) H H') {b:af}{xs:List V}(e:H b=some (.tup xs)):H' b=some (.tup xs) :=
 let ⟨_,_,k⟩:=h.kp;h.fm F e (λ_ z=>nomatch z) (λ_ _ _ z=>nomatch z) (λ_ z=>nomatch z) (k.lv.sI e)
def Lw.st (h:Lw C A Pt p dx d a n T ts H) (k:KP C A H p dx a n T ts as R) (dn:d∉a.L::fp a) (u:List (List iA×V)):KP C A (upd H d (.dT u)) p dx a n T ts as R/\ow Pt (upd H d (.dT u))/\(∀ {b:af}{xs:List V},H b=some (.tup xs)->(upd H d (.dT u)) b=some (.tup xs))/\(∀ {l:af}{us:List (Ti×af)}{ts:List Ti},Tb H l us ts->Tb (upd H d (.dT u)) l us ts) /\
  ∀ H',Fm (p::Pt::fp a) (upd H d (.dT u)) H'->H' d=some (.dT u)/\Fm (d::p::Pt::fp a) H H':=by
 have nd:∀ {b:af}{o:HO},H b=some o->(∀ ks,o≠.dT ks)->(upd H d (.dT u)) b=some o:=λ{b o} e q=>by rw [aH];exact e;rintro rfl;rw [h.hd] at e;cases e;exact q _ rfl
 obtain ⟨fs,hp⟩:=k.p0;refine ⟨k.set h.hd dn,h.hP.keep λb o h1 _ _ _ e=>nd e h1,λe=>nd e (λ_ z=>nomatch z),λtb=>⟨nd tb.g (λ_ z=>nomatch z),λv hv=>nd (tb.fl v hv) (λ_ z=>nomatch z),tb.pm,tb.so,tb.len⟩,λH' F=>⟨F _ _ (λz=>?_) aF,(Fm.upd aw).trans F.tail⟩⟩
 rcases au.mp z with z|z
 ·exact (fX h.hd hp) z
 ·exact (au.mp z).elim (h.hP.ne h.hd (λ_ z=>nomatch z)) λz=>dn (aj _ z)
end
def Ri {Pt2:af}{p p2:lg}{q q2:bj}(h:qE Pt p q H) (h2:qE Pt2 p2 q2 H) (hne:Pt≠Pt2) (S:pD Pt2 H H'):qE Pt p q H':=by
 obtain ⟨ps,hp⟩:=h2.tbl
 rcases h with h|⟨c',oc,vs,t,q1,q2,q3,q4⟩
 ·exact .inl (S _ _ hne h)
 ·exact .inr ⟨c',oc,vs,t,S _ _ hne q1,S _ _ (λz=>by rw [z,hp] at q2;cases q2) q2,q3,q4⟩
def kd_new {x y:Nat}{b:Bool}:kd (ts.map Ti.key)++[(pk x y,V.bl true)]=kd ((ts++[(⟨x,y,0,b⟩:Ti)]).map Ti.key):=by
 unfold kd;rw [aP,aP];rfl
inductive dh (K:aa) (C:af) (A:CA) (Pt:af) (vs:List V) (H:Hp) (Q:VK) (E:XK):Prop
 | mk (p dx d:af) (a:AL) (n T:Nat) (ts:List Ti) (t l:af) (us:List (Ti×af)) (x y:Nat):vs=[.ref p,.int n,.ref d,.ref l,.ref t]->AD K C A->Lw C A Pt p dx d a n T ts H->n<=24->d∉a.L::fp a->x<y->y<n->H t=some (.tup [.int x,.int y])->ts.length<79->Tb H l us ts->l∉fp a->(∀ l' us' ts' H',Lw C A Pt p dx d a n T ts' H'->Tb H' l' us' ts'->l'∉fp a->ts'.length<=ts.length+1->Fm (d::p::Pt::fp a) H H'->Q (.ref l') H')->dh K C A Pt vs H Q E
def DX:Rn (dh K C A Pt) (wx K C A (a9 K C A) (jr K C A Pt) (jt K C A) (cj K C) (ck K C)) Vb:=by
 rintro vs H Q E ⟨p,dx,d,a,n,T,ts,t,l,us,x,y,rfl,ct,L,hn,dn,hxy,hy,ht,hlen,tb,hl,k⟩;obtain ⟨as,R,h⟩:=L.kp;unfold wx
 with_reducible refine Cj (λZ H2=>∃ ts',Lw C A Pt p dx d a n T ts' H2/\ts'.length<=ts.length+1/\Fm (d::p::Pt::fp a) H H2/\Z=[some (.ref p),some (.int n),some (.ref d),some (.ref l),some (.ref t),some (.bl true)]) ?_ λgo=>?_
 ·rintro Z H2 ⟨ts',L2,hl2,F2,rfl⟩;obtain ⟨as2,R2,h2⟩:=L2.kp;obtain ⟨w,c1,c2,c3,c4,hw,hp⟩:=h2.ob;k_in;refine ⟨p,dx,_,rfl,hp,Kq,?_⟩;lk;refine ⟨p,dx,a,n,T,ts',as2,R2,rfl,ct,h2,by lia,λq us' H3 hq gq fl pm so S3=>?_⟩
  have hul:us'.length=ts'.length:=by have:=pm.length_eq;rwa [ag] at this
  have tb3:Tb H3 q us' ts':=⟨gq,fl,pm,so,by lia⟩
  lk;refine ⟨_,rfl,iX ?_⟩;lk;refine ⟨q,d,us',ts',rfl,tb3,S3 _ _ L2.hd,λH4 S4=>⟨true,rfl,iX ?_⟩⟩;lk;refine ⟨n,q,us',T,ts',R2,rfl,hn,tb3.same S4,h2.iv,h2.jn,λH5 S5=>⟨true,rfl,iX ?_⟩⟩;lk;have S25:=S3.trans (S4.trans S5);exact k q us' ts' H5 (L2.same S25) ((tb3.same S4).same S5) (h2.lv.sH hq) hl2 (F2.trans (Fm.of S25))
 ·lk;refine .inr ⟨d,_,rfl,Aj.t (k:=pk x y) L.hd ht,?_⟩
  by_cases hk:((x:Int),(y:Int))∈ts.map Ti.key
  ·obtain ⟨u,hu,eu⟩:=aT.mp hk;obtain ⟨e1,e2⟩:=cg eu
   obtain rfl:u.x=x:=by lia
   obtain rfl:u.y=y:=by lia
   have hv:kB (kd (ts.map Ti.key)) (pk u.x u.y)=some (.bl true):=by rw [wI];exact ir (f:=λ_=>V.bl true) h.iv.nd hu
   rw [hv];lk;rw [if_pos (by rfl)];lk;refine ⟨.inr (.inr (.inl ⟨rfl,.inr ⟨_,L.hd⟩⟩)),?_⟩;lk;refine ⟨d,_,pk u.x u.y,t,.bl true,rfl,rfl,L.hd,ht,hv,?_⟩;obtain ⟨h1,P1,tu,tbl,F1⟩:=L.st h dn (nQ (kd (ts.map Ti.key)) (pk u.x u.y));lk;refine ⟨p,dx,a,n,T,ts,as,R,t,l,us,u,rfl,ct,h1,hn,hu,tu ht,by lia,tbl tb,hl,P1,λts' as' R' H2 h2 e2 F2 P2=>?_⟩;obtain ⟨d2,F⟩:=F1 H2 F2;lk;refine go _ _ ⟨ts',⟨⟨_,_,h2⟩,P2,by rw [d2,wI,AC,← wI,e2]⟩,?_,F,rfl⟩;have:=congrArg dt e2;rw [ag,ag] at this;rw [this];exact bu (cw _ _) (iL _)
  ·have hv:kB (kd (ts.map Ti.key)) (pk x y)=none:=by rw [wI];exact AA hk
   rw [hv];lk;rw [if_neg (by simp)];lk;refine .inr ⟨d,_,rfl,Ai.t (k:=pk x y) L.hd ht (eP (m:=100) (by rw [wI,lI];lia)),?_⟩;rw [Bc _ hv];obtain ⟨h1,P1,tu,tbl,F1⟩:=L.st h dn (kd (ts.map Ti.key)++[(pk x y,.bl true)]);lk;refine ⟨Pt,p,dx,a,n,T,ts,as,R,t,l,us,x,y,rfl,ct,h1,hn,hxy,hy,tu ht,hk,by lia,tbl tb,hl,P1,λb as' R' H2 h2 F2 P2=>?_⟩;obtain ⟨d2,F⟩:=F1 H2 F2;lk;exact go _ _ ⟨_,⟨⟨_,_,h2⟩,P2,by rw [d2,kd_new]⟩,by rw [bz];exact av _,F,rfl⟩
inductive cZ (K:aa) (C:af) (A:CA) (Pt2:af) (vs:List V) (H:Hp) (Q:VK) (E:XK):Prop
 | mk (Pt p dx:af) (a:AL) (n T:Nat) (as:Nat->List af) (R:Nat->Nat->List Int) (hd:Int):vs=[.ref p,.int hd,.int n]->AD K C A->KP C A H p dx a n T [] as R->n<=24->Pt≠Pt2->ow Pt H->Y6 Pt2 H->(∀ d ts H',Lw C A Pt p dx d a n T ts H'->d∉a.L::fp a->ts.length<=36->Fm (p::Pt::Pt2::fp a) H H'->Q (.ref d) H')->cZ K C A Pt2 vs H Q E
def Cm {Pt2:af}:Rn (cZ K C A Pt2) (uf K C A (iq K C Pt2) (cY K C A)) Vc:=by
 rintro vs H Q E ⟨Pt,p,dx,a,n,T,as,R,hd,rfl,ct,h,hn,hne,hP,hT,k⟩;obtain ⟨ps,hps⟩:=hT.tbl;unfold uf;lk;intro d hd0;generalize eu_:upd H d (.dT [])=H1;obtain ⟨S1,g1⟩:=jK eu_ hd0
 have dn:d∉a.L::fp a:=λz=>by
  rcases au.mp z with q|q
  ·have:=h.lv.ls;rw [← q,hd0] at this;cases this
  ·exact h.lv.sH hd0 q
 have h1:=h.same S1;lk;unfold qp;lk;refine ⟨hd,n,rfl,hn,hT.same S1,λl zs H2 ST hl0 gl pz nd hlen=>?_⟩;have tb1:H1 Pt2=some (.tbl ps):=S1 _ _ hps
 have h2:KP C A H2 p dx a n T [] as R:=h1.keep (X:=[Pt2]) (λb o hb e=>ST b o (λz=>hb (aA.mpr z)) e) (λb hb z=>by
  rw [aA.mp hb] at z
  rcases au.mp z with z|z
  ·obtain ⟨fs,hp⟩:=h1.p0;rw [z,hp] at tb1;cases tb1
  ·rcases au.mp z with z|z
   ·rw [z,h1.lv.ls] at tb1;cases tb1
   ·exact h1.lv.out tb1 (λ_ z=>nomatch z) (λ_ _ z=>nomatch z) z) λb hb=>by
  rw [aA.mp hb,tb1];exact ⟨(λ_ _ _ z=>nomatch z),(λ_ _ z=>nomatch z)⟩
 have d2:H2 d=some (.dT []):=ST _ _ (λz=>by rw [z,tb1] at g1;cases g1) g1
 have L2:Lw C A Pt p dx d a n T [] H2:=⟨⟨_,_,h2⟩,Ri (hP.same S1) (hT.same S1) hne ST,d2⟩
 have ln:l∉fp a:=h1.lv.sH hl0;refine ⟨l,rfl,.inl ⟨⟨_,c6.of gl⟩,kH (K:=K) (a:=l) (xs:=zs.map dQ) (λi Z H4=>∃ ts o4 o5,Lw C A Pt p dx d a n T ts H4/\ts.map Ti.key=(zs.take i).map zP/\H4 l=some (.lst (zs.map dQ))/\(∀ z∈zs,Lz n H4 z)/\Fm (d::p::Pt::fp a) H2 H4/\Z=[some (.ref p),some (.int hd),some (.int n),some (.ref d),o4,o5]) ⟨[],_,_,L2,rfl,gl,pz,Fm.refl,rfl⟩ ?_ ?_ ?_⟩⟩
 ·rintro i Z H4 _ ⟨ts,o4,o5,_,_,g4,_⟩;exact c6.of g4
 ·rintro i v Z H4 hi ⟨ts,o4,o5,L4,hk,g4,pz4,F4,rfl⟩;rw [aB] at hi;obtain ⟨w,hw,rfl⟩:=bw.mp hi;have hwm:=aR hw;obtain ⟨gw,x,y,ex,ey,hxy,hy⟩:=pz4 w hwm;unfold fG at gw;rw [ex,ey] at gw
  have et:zs.take (i+1)=zs.take i++[w]:=by rw [dP,hw];rfl
  have ekw:zP w=((x:Int),(y:Int)):=oE ex ey
  have hnk:((x:Int),(y:Int))∉ts.map Ti.key:=by
   rw [hk,hJ,← ekw];exact MV nd (by rw [aB,hw];rfl)
  have hln:ts.length<=i:=by
   have:=congrArg dt hk;rw [ag,ag,bK] at this;lia
  have hi2:=(aC.mp hw).1;obtain ⟨as4,R4,h4⟩:=L4.kp;refine Bg (.of gw) rfl ?_;lk;refine ⟨bI (m:=2) (av 2),λt ht=>?_⟩;have S5:=bN.cK (o:=.tup [.int x,.int y]) ht;have g5:(upd H4 t (.tup [.int x,.int y])) t=some (.tup ((pk x y).map kV)):=aF;generalize upd H4 t (.tup [.int x,.int y])=H5 at S5 g5;have L5:=L4.same S5
  have hv:kB (kd (ts.map Ti.key)) (pk x y)=none:=by rw [wI];exact AA hnk
  refine .inr ⟨d,_,rfl,Ai.t (k:=pk x y) L5.hd g5 (eP (m:=100) (by rw [wI,lI];lia)),?_⟩;rw [Bc _ hv];obtain ⟨h6,P6,tu,_,F6⟩:=L5.st (h4.same S5) dn (kd (ts.map Ti.key)++[(pk x y,.bl true)]);generalize upd H5 d (.dT (kd (ts.map Ti.key)++[(pk x y,.bl true)]))=H6 at h6 P6 tu F6;obtain ⟨w',c1,c2,c3,c4,hw',hp⟩:=h6.ob
  have fin:∀ b as' R' H',KP C A H' p dx a n T (ts++[⟨x,y,0,b⟩]) as' R'->Fm (p::fp a) H6 H'->∃ ts o4 o5,Lw C A Pt p dx d a n T ts H'/\ts.map Ti.key=(zs.take (i+1)).map zP/\H' l=some (.lst (zs.map dQ))/\(∀ z∈zs,Lz n H' z)/\Fm (d::p::Pt::fp a) H2 H'/\[some (V.ref p),some (.int hd),some (.int n),some (.ref d),some (.int x),some (.int y)]=[some (.ref p),some (.int hd),some (.int n),some (.ref d),o4,o5]:=λb as' R' H7 h7 F7=>by
   obtain ⟨d7,F57⟩:=F6 H7 (F7.mono λb hb=>(au.mp hb).elim (λz=>z▸aw) λz=>aj _ (aj _ z));refine ⟨_,_,_,⟨⟨_,_,h7⟩,h6.XM P6 F7,by rw [d7,kd_new]⟩,?_,L5.fm F57 (S5 _ _ g4) (λ_ z=>nomatch z) (λ_ _ _ z=>nomatch z) (λ_ z=>nomatch z) ln,λz hz=>⟨L5.tup F57 (S5 _ _ (pz4 z hz).1),(pz4 z hz).2⟩,F4.trans ((Fm.of S5).trans F57),rfl⟩;rw [et,aP,aP,hk]
   show _++[_]=_++[zP w]
   rw [ekw];rfl
  lk;refine tI (λ_=>?_) λ_=>?_
  ·k_in;refine ⟨p,dx,_,rfl,hp,Kq,?_⟩;lk;refine ⟨p,dx,a,n,T,ts,as4,R4,x,y,rfl,ct,h6,by lia,by lia,hy,by lia,by rw [show min x y=x by lia,show max x y=y by lia];exact hnk,by lia,λb as' R' H7 _ h7 F7=>?_⟩;rw [show min x y=x by lia,show max x y=y by lia] at h7;exact fin b as' R' H7 h7 F7
  ·k_in;refine ⟨p,dx,_,rfl,hp,Kq,?_⟩;lk;refine ⟨p,dx,a,n,T,ts,as4,R4,y,x,rfl,ct,h6,by lia,hy,by lia,by lia,by rw [show min y x=x by lia,show max y x=y by lia];exact hnk,by lia,λb as' R' H7 _ h7 F7=>?_⟩;rw [show min y x=x by lia,show max y x=y by lia] at h7;exact fin b as' R' H7 h7 F7
 ·rintro Z H4 ⟨ts,o4,o5,L4,hk,g4,pz4,F4,rfl⟩;lk;refine k d ts H4 L4 dn ?_ λb o hb e=>?_
  ·have:=congrArg dt hk;rw [ag,ag,bK] at this;lia
  ·simp only [au,not_or] at hb;refine F4 _ _ ?_ (ST _ _ hb.2.2.1 (S1 _ _ e));simp only [au,not_or];exact ⟨(λz=>by rw [z,hd0] at e;cases e),hb.1,hb.2.1,hb.2.2.2⟩
inductive Co (K:aa) (Pt1 Pt2:af) (vs:List V) (H:Hp) (Q:VK) (E:XK):Prop
 | mk (a:af) (ns:List Int):vs=[.ref a]->c6 K H a (ns.map V.int)->ns.length<=63->Pt1≠Pt2->ow Pt1 H->Y6 Pt2 H->(∀ H',Q (.bl true) H')->Co K Pt1 Pt2 vs H Q E
def Cl (n:Nat) (b:Bool) (H:Hp) (q:af) (m:Nat):Prop:=(b=true/\∃ zs:List Zt,zs.length=m/\H q=some (.lst (zs.map dQ))/\∀ z∈zs,Lz n H z)\/b=false/\∃ ns:List Int,ns.length=m/\H q=some (.lst (ns.map V.int))
def T8 {Pt1 Pt2:af}(ct:AD K C A):Rn (Co K Pt1 Pt2) (Q3 K C A (cu K C A) (a9 K C A) (bP K C) (cG K C) (cZ K C A Pt2) (dh K C A Pt1) (cj K C) (ck K C) (dA K C)) YZ:=by
 rintro vs H Q E ⟨s,ns,rfl,hS,hlen,hne,hP,hT,k⟩;unfold Q3;lk;refine ⟨s,ns,0,rfl,hS,λz=>?_⟩;lk;refine ⟨s,ns,0,rfl,hS,λz'=>?_⟩;lk;obtain ⟨m,em',hm⟩:=em (n:=23) (by decide) (z'/2)
 obtain ⟨n,en,hn1,hn2⟩:∃ n:Nat,(2+z'/2%23:Int)=(n:Int)/\2<=n/\n<=24:=⟨m+2,by lia,by lia,by lia⟩
 rw [en];generalize hb:decide (V.int (z%2)=V.int 0)=b;refine Ly ?_;lk;intro p dx hp hdx _
 have T0:bN H (upd (upd H dx (.own p)) p (.ins A.Keeper dx [])):=λb o e=>by rw [aH (aQ e hp),aH (aQ e hdx)];exact e
 refine ⟨p,dx,n,rfl,aF,ct,by lia,by lia,λa T as H3 k3 B3 fr3=>⟨rfl,?_⟩⟩;have S3:bN H H3:=λb o e=>B3 _ _ (T0 _ _ e) (aQ e hp);lk;intro d hd;generalize eu_:upd H3 d (.dT [])=H5;obtain ⟨S5,g5⟩:=jK eu_ hd;have S05:=S3.trans S5;have h5:=k3.same S5
 have dn:d∉a.L::fp a:=λz=>by
  rcases au.mp z with q|q
  ·have:=k3.lv.ls;rw [← q,hd] at this;cases this
  ·exact k3.lv.sH hd q
 lk;refine E7 (S05.seq hS) λq hq=>?_
 obtain ⟨ms,em2,hml⟩:∃ ms:List Int,uQ (ns.map V.int) (some 1) (some 31)=ms.map V.int/\ms.length<=40:=by
  refine ⟨(ns.drop 1).take 30,?_,by rw [bK];lia⟩;rw [MH (show (1:Int)=((1:Nat):Int) from rfl) (show (31:Int)=((31:Nat):Int) from rfl),← qz,← hJ]
 rw [em2];generalize eu_:upd H5 q (.lst (ms.map V.int))=H6;obtain ⟨S6,g6⟩:=jK eu_ hq;have S06:=S05.trans S6;have h6:=h5.same S6;k_ne
 with_reducible refine Cj (λZ H7=>∃ d q m ts,Lw C A Pt1 p dx d a n T ts H7/\d∉a.L::fp a/\ts.length<=36/\Cl n b H7 q m/\q∉fp a/\m<=40/\Z=[some (.ref s),some (.bl b),some (.int (z'/2)),some (.int n),some (.ref p),some (.ref d),some (.ref q),none,none,none]) ?_ λgo=>?_
 rotate_left
 ·lk;refine ⟨_,rfl,?_⟩
  cases b with
  | true =>
   refine lD ?_;lk;refine ⟨s,ns,n,rfl,S06.seq hS,by lia,hn2,λl zs H7 S7 hl g7 pz hzl=>?_⟩;lk
   exact go _ _ ⟨d,l,zs.length,[],⟨⟨_,_,h6.same S7⟩,hP.same (S06.trans S7),S7 _ _ (S6 _ _ g5)⟩,dn,by simp,.inl ⟨rfl,zs,rfl,g7,pz⟩,h6.lv.sH hl,hzl,rfl⟩
  | false =>
   refine iX ?_;lk;refine ⟨Pt1,p,dx,a,n,T,_,_,z'/2/23,rfl,ct,h6,hn2,hne,hP.same S06,hT.same S06,λd' ts H7 L7 dn' hl7 F7=>?_⟩;lk;refine go _ _ ⟨d',q,ms.length,ts,L7,dn',hl7,.inr ⟨rfl,ms,rfl,F7 _ _ (λz=>?_) g6⟩,h5.lv.sH hq,hml,rfl⟩;simp only [au] at z
   rcases z with z|z|z|z
   ·obtain ⟨fs,hp⟩:=h6.p0;exact (fX g6 hp) z
   ·exact (hP.same S06).ne g6 (λ_ z=>nomatch z) z
   ·obtain ⟨ps,e⟩:=(hT.same S06).tbl;exact (fX g6 e) z
   ·exact h5.lv.sH hq z
 rintro Z H7 ⟨d,q,m,ts,L7,dn,hl7,C7,qn,hm,rfl⟩;obtain ⟨as7,R7,h7⟩:=L7.kp;obtain ⟨w,c1,c2,c3,c4,hw,hp⟩:=h7.ob;k_in;refine ⟨p,dx,_,rfl,hp,Kq,?_⟩;lk;refine ⟨p,dx,a,n,T,ts,as7,R7,rfl,ct,h7,by lia,λr us H8 hr gr fl pm so S8=>?_⟩
 have hul:us.length=ts.length:=by have:=pm.length_eq;rwa [ag] at this
 have tb8:Tb H8 r us ts:=⟨gr,fl,pm,so,by lia⟩
 lk;refine ⟨r,d,us,ts,rfl,tb8,S8 _ _ L7.hd,λH9 S9=>⟨true,rfl,iX ?_⟩⟩;lk;refine ⟨n,r,us,T,ts,R7,rfl,hn2,tb8.same S9,h7.iv,h7.jn,λH10 S10=>⟨true,rfl,iX ?_⟩⟩;have S710:=S8.trans (S9.trans S10)
 have C10:Cl n b H10 q m:=C7.imp (λ⟨e,zs,h1,h2,h3⟩=>⟨e,zs,h1,S710 _ _ h2,λz hz=>⟨S710 _ _ (h3 z hz).1,(h3 z hz).2⟩⟩) λ⟨e,ns,h1,h2⟩=>⟨e,ns,h1,S710 _ _ h2⟩
 lk;unfold Jp;lk
 have hlm:∀ {H':Hp},Cl n b H' q m->∃ xs:List V,xs.length=m/\H' q=some (.lst xs):=λ{H'} c=>by
  rcases c with ⟨_,zs,e,g,_⟩|⟨_,ns,e,g⟩
  ·exact ⟨_,by rw [ag];exact e,g⟩
  ·exact ⟨_,by rw [ag];exact e,g⟩
 obtain ⟨xs,hxl,gx⟩:=hlm C10;refine pR (c6.of gx) ?_;rw [hxl];lk;refine ⟨by lia,by lia,oK (λi Z H4=>∃ ts r us o8 o9,Lw C A Pt1 p dx d a n T ts H4/\ts.length<=36+i/\Tb H4 r us ts/\r∉fp a/\Cl n b H4 q m/\Z=[some (.ref s),some (.bl b),some (.int (z'/2)),some (.int n),some (.ref p),some (.ref d),some (.ref q),some (.ref r),o8,o9]) ⟨ts,r,us,_,_,L7.same S710,by lia,(tb8.same S9).same S10,h7.lv.sH hr,C10,rfl⟩ ?_ ?_⟩
 ·rintro i Z H4 hi ⟨ts,r,us,o8,o9,L4,hl4,tb4,hr4,C4,rfl⟩;obtain ⟨as4,R4,h4⟩:=L4.kp
  -- one step,by the tie
  have step:∀ (t:af) (x y:Nat) (H5:Hp) (G:VK) (X:XK),bN H4 H5->H5 t=some (.tup [.int x,.int y])->x<y->y<n->(∀ r' ts us H',Lw C A Pt1 p dx d a n T ts H'->ts.length<=36+(i+1)->Tb H' r' us ts->r'∉fp a->Cl n b H' q m->G (.ref r') H')->dh K C A Pt1 [.ref p,.int n,.ref d,.ref r,.ref t] H5 G X:=λt x y H5 G X S5 ht hxy hy go=>by
   refine ⟨p,dx,d,a,n,T,ts,t,r,us,x,y,rfl,ct,L4.same S5,hn2,dn,hxy,hy,ht,by lia,tb4.same S5,hr4,λl' us' ts' H' L' tb' hl' hlen' F'=>go l' ts' us' H' L' (by lia) tb' hl' ?_⟩;have L5:=L4.same S5
   refine C4.imp (λ⟨e,zs,h1,h2,h3⟩=>⟨e,zs,h1,L5.fm F' (S5 _ _ h2) (λ_ z=>nomatch z) (λ_ _ _ z=>nomatch z) (λ_ z=>nomatch z) qn,λz hz=>⟨L5.tup F' (S5 _ _ (h3 z hz).1),(h3 z hz).2⟩⟩) λ⟨e,ns,h1,h2⟩=>⟨e,ns,h1,L5.fm F' (S5 _ _ h2) (λ_ z=>nomatch z) (λ_ _ _ z=>nomatch z) (λ_ z=>nomatch z) qn⟩
  lk
  rcases C4 with ⟨rfl,zs,hzl,gz,pz⟩|⟨rfl,ns',hnl,gn⟩
  ·have hj:i<zs.length:=by lia
   have gi:zs[i]?=some zs[i]:=ay hj;obtain ⟨gw,x,y,ex,ey,hxy,hy⟩:=pz _ (hZ hj);generalize zs[i]=w at gi gw ex ey;unfold fG at gw;rw [ex,ey] at gw;refine jU (c6.of gz) (v:=dQ w) (d9 (iM _) (by rw [aB,gi];rfl)) ?_;lk;refine ⟨_,rfl,iX ?_⟩;lk;refine step w.2.2 x y H4 _ _ bN.rf gw hxy hy λr' ts us H' q1 q2 q3 q4 q5=>?_;lk;refine tI (λc=>nomatch c) λ_=>?_;exact ⟨ts,r',us,_,_,q1,q2,q3,q4,q5,rfl⟩
  ·have hj:i<ns'.length:=by lia
   have gi:ns'[i]?=some ns'[i]:=ay hj;generalize ns'[i]=c at gi;refine yQ (c6.of gn) (iM _) gi ?_;lk;refine ⟨_,rfl,lD ?_⟩;lk;refine yQ (c6.of gn) (iM _) gi ?_;lk;refine ⟨c,i+1,n,r,us,ts,by rw [iM];rfl,hn1,hn2,by lia,tb4,λt ht=>⟨(h4.iv.lt t ht).1,(h4.iv.lt t ht).2.1⟩,λt x y H5 S5 gt hxy hy=>?_⟩;lk;refine step t x y H5 _ _ S5 gt hxy hy λr' ts us H' q1 q2 q3 q4 q5=>?_;lk;refine tI (λc=>nomatch c) λ_=>?_;exact ⟨ts,r',us,_,_,q1,q2,q3,q4,q5,rfl⟩
 ·rintro Z H4 ⟨ts,r,us,o8,o9,L4,hl4,tb4,hr4,C4,rfl⟩;lk;exact k _
end K38
namespace K38
local macro_rules | `(tactic| walk_at "oz")=>`(tactic| first|exact rfl|with_reducible assumption|exact qg|exact .inl rfl|exact .inr rfl|exact iG _|exact λ_=>rfl|exact λ_ _=>rfl|(exact .inr (.inl rfl))|(exact .inr (.inr rfl))|exact gv|assumption|decide|exact h8.mono (by assumption) (by decide)|exact h8.units (by assumption)|with_unfolding_all rfl)
local macro_rules | `(tactic| walk_at "oc")=>`(tactic| first|exact sR|exact vN|exact NM rfl|exact NL rfl|exact vU|exact N5|exact Gi rfl|exact Fg rfl)
local macro_rules | `(tactic| walk_at "op")=>`(tactic| first|exact kI|exact KI|exact xQ|exact sO|exact V3|exact Ii|exact Mz|exact UE|exact UF|exact kg (h8.units (by assumption))|exact KZ (h8.units (by assumption))|exact PL (h8.units (by assumption))|exact E4 (h8.units (by assumption))|exact WX (h8.units (by assumption))|exact WY (h8.units (by assumption)))
local macro_rules | `(tactic| walk_at "ob")=>`(tactic| first|exact BootT.len|exact BootT.pS|exact BootT.min|exact BootT.max|exact BootT.Bd|exact BootT.list|exact BootT.tuple|exact BootT.bool)
local macro_rules | `(tactic| walk_at "om")=>`(tactic| first|exact Lq.Np (by assumption)|exact Lq.mI (by assumption)|exact Lq.Hs (by assumption)|exact Lq.Zg (by assumption)|exact Lq.Vz (by assumption)|exact Lq.sF (by assumption)|exact Lq.RK (by assumption)|exact Lq.Um (by assumption)|exact Lq.Xd (by assumption))
local macro_rules | `(tactic| walk_at "ok")=>`(tactic| first|exact Lq.Hu (by assumption)|exact Lq.FG (by assumption)|exact Lq.FH (by assumption))
local macro_rules | `(tactic| walk_at "o1")=>`(tactic| first
 | (with_reducible first|exact gh|refine cb ?_|refine aE ?_ ?_|refine fY ?_|refine jS ?_ ?_ ?_|exact cT|exact X2|exact VX|exact eV|refine Pi ?_|refine uP ?_|refine Pr ?_|exact vF|refine vG ?_|exact Ax|exact PH|refine xO ?_ ?_|refine AU ?_|refine qN ?_ ?_|refine AS ?_ ?_|refine pO ?_|refine AR ?_)
 | ((with_reducible refine mE ?_ ?hs);(case hs=>exact rfl))
 | ((with_reducible refine nT ?hN ?_ ?hi ?hx ?hs ?hf);(case hN|hi|hx|hs|hf=>walk_at "oz"))
 | ((with_reducible refine YV ?_ ?_ ?hK ?hs);(case hK|hs=>exact rfl))
 | ((with_reducible refine VZ ?_ ?_ ?hs ?hw ?h1);(case hs|hw|h1=>exact rfl))
 | ((with_reducible refine pv _ ?hN ?hv ?hd ?hc);(case hN|hv|hd|hc=>walk_at "oz"))
 | ((with_reducible refine jl ?ho ?_ ?_);(case ho=>walk_at "op"))
 | ((with_reducible refine Bb ?hr ?_ ?_ ?hs);(case hr=>exact K0 (h8.units (by assumption)));(case hs=>exact λ_ _=>rfl))
 | ((with_reducible refine gj ?ho ?_ ?_ ?hm);(case ho=>walk_at "op");(case hm=>walk_at "oz"))
 | ((with_reducible refine FR ?ho ?_ ?_ ?hm);(case ho=>walk_at "op");(case hm=>walk_at "oz"))
 | ((with_reducible refine cm ?_ ?_ ?hs);(case hs=>exact rfl))
 | ((with_reducible refine YU ?_ ?hK ?hb);(case hK|hb=>exact rfl))
 | ((with_reducible refine YT ?_ ?hK ?he);(case hK=>exact rfl);(case he=>exact λ_=>rfl))
 | ((with_reducible refine qS ?hr ?_ ?_ ?_);(case hr=>first|exact vH|exact V9))
 | ((with_reducible refine YS ?_ ?hK);(case hK=>exact rfl))
 | ((with_reducible refine EO ?hg ?hm ?_ ?hs);(case hg|hs=>exact rfl);(case hm=>walk_at "om"))
 | ((with_reducible refine ER ?hg ?hm ?_ ?hs ?ht);(case hg|hs|ht=>exact rfl);(case hm=>walk_at "om"))
 | ((with_reducible refine fJ ?hN ?hi ?hx ?hf);(case hN|hi|hx|hf=>walk_at "oz"))
 | ((with_reducible refine VY ?_ ?_ ?hs ?ha);(case hs=>exact Yd (h8.units (by assumption)));(case ha=>exact λ_=>rfl))
 | ((with_reducible refine YW ?hc ?_ ?hK ?hn ?hs);(case hc|hK|hn|hs=>exact rfl))
 | ((with_reducible refine iF ?_ ?_ ?hs);(case hs=>exact rfl))
 | ((with_reducible refine' FO ?hg ?hm ?hv ?hr ?hn ?hd);(case hg|hr=>exact rfl);(case hm=>walk_at "om");(case hv=>walk_at "ob");(case hn|hd=>decide))
 | ((with_reducible refine' jm ?hc ?hg ?hm ?hv ?_ ?hn ?hd ?he ?hp);(case hc=>walk_at "oc");(case hg|he|hp=>exact rfl);(case hm=>walk_at "om");(case hv=>walk_at "ob");(case hn|hd=>decide))
 | ((with_reducible refine' YA ?c ?hr ?hg ?hx ?_ ?hd ?he ?hp);(case c=>assumption);(case hr=>walk_at "oz");(case hg|he|hp=>exact rfl);(case hx=>exact qg);(case hd=>decide))
 | ((with_reducible refine' pcm ?c ?cl ?hr ?_ ?hx ?_ ?hs ?hp ?ht);(case c=>assumption);(case cl=>walk_at "ok");(case hr=>walk_at "oz");(case hx=>exact qg);(case hs|hp|ht=>exact rfl))
 | ((with_reducible refine' pcm0 ?c ?cl ?hr ?_ ?hx ?ht);(case c=>assumption);(case cl=>walk_at "ok");(case hr=>walk_at "oz");(case hx=>exact qg);(case ht=>exact rfl))
 | ((with_reducible refine' o_bm ?pa ?sl ?ty ?hm ?_ ?_ ?hK ?hb ?hf ?hl ?hs ?hp);(case pa=>exact cI);(case sl=>exact gb);(case ty=>exact gf);(case hm=>exact lC);(case hK|hb|hf|hl|hs|hp=>exact rfl))
 | with_reducible refine PW.pt ?_
 | (refine A1 ?hp ?hc ?_ ?_ ?_ ?hs;(case hp=>exact gv);(case hc=>exact rfl);(case hs=>exact λ_=>rfl))
 | (refine AY ?hp ?_ ?_;(case hp=>exact gv)))
local macro_rules | `(tactic| w_up)=>`(tactic| repeat' walk_at "o1")
def W8 {l:qx}{w:bO}{K:aa}{h:cf}{mg:bj->Option ai}{fa:af}(X:K.In h) (G:h.Ns bU mg) (hfa:mg "law"=some (.ref fa)) {c1 Pt1 c2 Pt2:af}{C A_Levels A_Keeper:af}
  (GK:dk K bU "Wood"=some (some (.ref C))) (GL:iP K C Nu=true) (GM:ji K C=true) (GN:lh K C=true) (GO:bD K (.ref C) "__setattr__"=some (some (.builtin "object.__setattr__"))) (GP:kA K C=true) (GQ:eI K (.ref C)=true)
  (sG:bD K (.ref C) "n"=some none)
  (l9:bD K (.ref C) "rows"=some none)
  (yh:dk K bU "Levels"=some (some (.ref A_Levels))) (yi:iP K A_Levels Nu=true) (yj:ji K A_Levels=true) (yk:lh K A_Levels=true) (ym:bD K (.ref A_Levels) "__setattr__"=some (some (.builtin "object.__setattr__"))) (yn:kA K A_Levels=true) (yo:eI K (.ref A_Levels)=true)
  (ij:bD K (.ref A_Levels) "level_of"=some none)
  (gU:bD K (.ref A_Levels) "weight_of"=some none)
  (i5:bD K (.ref A_Levels) "wooden"=some none)
  (jv:bD K (.ref A_Levels) "woods"=some none)
  (yp:dk K bU "Keeper"=some (some (.ref A_Keeper))) (yq:iP K A_Keeper Nu=true) (yr:ji K A_Keeper=true) (yt:lh K A_Keeper=true) (yu:bD K (.ref A_Keeper) "__setattr__"=some (some (.builtin "object.__setattr__"))) (yw:kA K A_Keeper=true) (yz:eI K (.ref A_Keeper)=true)
  (j4:bD K (.ref A_Keeper) "came"=some none)
  (i6:bD K (.ref A_Keeper) "levels"=some none)
  (i7:bD K (.ref A_Keeper) "looked"=some none)
  (jX:bD K (.ref A_Keeper) "lost"=some none)
  (nA:bD K (.ref A_Keeper) "n"=some none)
  (jw:bD K (.ref A_Keeper) "risen"=some none)
  (jY:bD K (.ref A_Keeper) "wood"=some none)
  (Cp:pI K mg "is_whole" Fk yX)
  (Cq:pI K mg "is_count" Fl yX)
  (Cr:pI K mg "is_place" Fn yV)
  (Vs:pI K mg "top" stop ["n"])
  (Jx:pI K mg "tie_of" M7 ["a","b"])
  (Jy:pI K mg "credit" M8 ["n","ties"])
  (Nh:pI K mg "rises" QR ["trail"])
  (Ni:pI K mg "looks" QS ["trail"])
  (uq:pI K mg "steps_along" vY ["row"])
  (Jz:pI K mg "turned" M9 ["row","a"])
  (FB:pI K mg "spliced" IY ["row","other","a","b"])
  (JA:pI K mg "parted" Na ["row","a","b"])
  (n0:pI K mg "refuse_no_place" oQ yV)
  (nu:pI K mg "refuse_no_places" nU yU)
  (pq:pI K mg "refuse_no_pair" qi yU)
  (vg:pI K mg "in_order" x3 Fj)
  (ur:pI K mg "ends_within" vZ M5)
  (FC:pI K mg "new_tie" IZ M0)
  (rW:pI K mg "standing_tie" tZ M0)
  (rX:pI K mg "_law_cell_at" t7 M1)
  (wK:pI K mg "_law_whole" yY ["_law_found"])
  (qa:pI K mg "_law_shape" rk QQ)
  (zk:pI K mg "_law_next" BE Vj)
  (zl:pI K mg "_law_root" BF MZ)
  (wL:pI K mg "_law_heads" yZ ["_law_n","_law_pairs"])
  (wM:pI K mg "_law_table" y3 ["_law_found","_law_standing"])
  (wO:pI K mg "_law_begun" y6 Vn)
  (wQ:pI K mg "_law_spans" y8 ["_law_n","_law_table_here"])
  (zm:pI K mg "_law_wood" BG M4)
  (Cs:pI K mg "_law_put" Fo TR)
  (Ct:pI K mg "_law_out" Fp TR)
  (uu:pI K mg "_law_digits" v5 Vm)
  (rY:pI K mg "_law_toggles" t8 ["_law_script","_law_n"])
  (zq:pI K mg "_law_step" BH Vd)
  (Nj:pI K mg "law" Y3 M6)
  (qv:lK K C "__init__" "Wood.__init__" rn qh)
  (zr:lK K C "keep" "Wood.keep" BI ["self","row"])
  (zt:lK K C "link" "Wood.link" BJ tJ)
  (Cu:lK K C "cut" "Wood.cut" Fs tJ)
  (uv:lK K C "joined" "Wood.joined" v7 tJ)
  (wR:lK K C "group" "Wood.group" y9 yW)
  (zu:lK K C "size" "Wood.size" BK yW)
  (n5:lK K A_Levels "__init__" "Levels.__init__" oR qh)
  (wU:lK K A_Levels "add" "Levels.add" za IX)
  (rZ:lK K A_Levels "adopt" "Levels.adopt" t9 vX)
  (ux:lK K A_Levels "lift" "Levels.lift" v8 vX)
  (uz:lK K A_Levels "drop" "Levels.drop" v9 vX)
  (n6:lK K A_Levels "at_level" "Levels.at_level" oS ["self","level","wooden"])
  (uA:lK K A_Levels "told" "Levels.told" wb vX)
  (l7:lK K A_Levels "lesser_side" "Levels.lesser_side" mx M3)
  (uB:lK K A_Levels "look" "Levels.look" wc M3)
  (uC:lK K A_Levels "take" "Levels.take" we vX)
  (qw:lK K A_Keeper "__init__" "Kept.__init__" rA qh)
  (r9:lK K A_Keeper "receive" "Kept.receive" ua IX)
  (Cv:lK K A_Keeper "out" "Kept.out" Ft tJ)
  (zw:lK K A_Keeper "ties" "Kept.ties" BL ["self"])
  (wV:lK K A_Keeper "put" "Keeper.put" zb tJ)
  (vh:vg.d.code=.ref c1)
  (qb:qa.d.code=.ref c2)
  (LB:dk K bU "bool"=some none)
  (Rj:dk K bU "int"=some none)
  (qc:dk K bU "isinstance"=some none)
  (Rk:dk K bU "len"=some none)
  (LC:dk K bU "list"=some none)
  (Ro:dk K bU "max"=some none)
  (Rp:dk K bU "min"=some none)
  (GR:dk K bU "range"=some none)
  (Rq:dk K bU "set"=some none)
  (Cw:dk K bU "sorted"=some none)
  (Rr:dk K bU "sum"=some none)
  (GS:dk K bU "tuple"=some none)
  (Rt:dk K bU "zip"=some none)
  {DY:Uo}(ou:dk K bU "MOST_PLACES"=some (some (.int 200 DY)))
  : ∃ fd:eK,(∀ (s:ao) (v:ai),Hw s fd ⟨[v],[]⟩ [("_law_script",v)])/\∀ base:cf,K.In base->base.Ns bU mg->ik base c1 Pt1->base.BuiltinsAt mg Pt1->ik base c2 Pt2->base.BuiltinsAt mg Pt2->k9 l.prog w K mg base Iu 13 fa fd M6 (Co K Pt1 Pt2):=by
 have e:=Nj.law hfa;subst e
 have T:Lq K mg C (⟨A_Levels,A_Keeper⟩:CA):=⟨⟨GL,GM,GN,GO⟩,pG X G GK,sG,l9,⟨yi,yj,yk,ym⟩,pG X G yh,ij,gU,i5,jv,⟨yq,yr,yt,yu⟩,pG X G yp,j4,i6,i7,jX,nA,jw,jY,cR X G LB,cR X G Rj,cR X G qc,cR X G Rk,cR X G LC,cR X G Ro,cR X G Rp,cR X G GR,cR X G Rq,cR X G Cw,cR X G Rr,cR X G GS,cR X G Rt,⟨_,pG X G ou⟩⟩
 have ct:AD K C (⟨A_Levels,A_Keeper⟩:CA):=⟨⟨T.Hu,T.sG,T.l9⟩,T.FG,T.ij,T.i5,T.gU,T.jv,T.FH,T.nA,T.i6,T.jY,T.j4,T.i7,T.jw,T.jX⟩
 refine ⟨Nj.d,λs v=>Nj.bt s [v] rfl,λbase _ _ CH1 B1 CH2 B2=>?_⟩;have Cy:=Cp.lS l.prog w base (Cp.F.lJ (k:=0) Li (@Gx K C) λhr nd=>cb (fY (xO (jm vN rfl T.mI BootT.pS (cm (pv 0) (cm (FO rfl T.VB BootT.int rfl) eV))) (AU (Pj (by w_up))))));have Vt:=Vs.lS l.prog w base (Vs.F.lJ (k:=0) QU (@TV K C) λhr nd=>aE (by w_up) (aE (by w_up) (aE (AY gv (by w_up) (aE (KE (i:=1) QU.nd rfl (Or.inl rfl) cT SF) (cb (KE (i:=2) QU.nd rfl (Or.inl rfl) cT SH)))) (by w_up))));have JB:=Jx.lS l.prog w base (Jx.F.lJ (k:=0) QV (@Lu K C) λhr nd=>cb (fY (vC (by w_up) (by w_up) (by w_up))));have Nk:=Nh.lS l.prog w base (Nh.F.lJ (k:=0) TU (@Oh K C) λhr nd=>cb (fY (jm (Fe rfl) rfl T.Vu BootT.sum (cm (gX DB (ys:=[]) [] rfl (jJ (pv 0)) trivial (λ_ _ _=>FP rfl (iF (fJ (show (DB:List bj).Nodup by decide +kernel)) (iF (fJ (show (DB:List bj).Nodup by decide +kernel)) (iF (fJ (show (DB:List bj).Nodup by decide +kernel)) (iF (fJ (show (DB:List bj).Nodup by decide +kernel)) Ax))))) (λ_ _ _=>iH) (λ_ _ _=>(by w_up))) eV))));have uD:=uq.lS l.prog w base (uq.F.lJ (k:=0) DC (@zQ K C) λhr nd=>cb (fY (Tn rfl rfl T.RK rfl T.Zh (by w_up))));have JC:=Jz.lS l.prog w base (Jz.F.lJ (k:=0) I0 (@Ls K C) λhr nd=>aE (nT I0.nd (m5 cI gB kE (sS hr.units) (pv 0) (by w_up))) (by w_up));have vi:=vg.lS l.prog w base (Jm vg.F T vh CH1 B1 (by walk_at "l") GC);have uE:=ur.lS l.prog w base (ur.F.lJ (k:=0) DD (@zT K C) λhr nd=>cb (fY (jm sR rfl T.Np BootT.len (cm (gX ["place"] (ys:=["side"]) [1] rfl (jJ (pv 0)) ⟨rfl,.inl rfl,rfl,trivial⟩ (λ_ _ _=>fJ (show (["place","side"]:List bj).Nodup by decide +kernel)) (λ_ _ _=>jT (by w_up)) (λ_ _ _=>(pv 0))) eV))));have sd:=rX.lS l.prog w base (rX.F.lJ (k:=0) BO (@yf K C) λhr nd=>aE (by w_up) (by w_up));have wW:=wK.lS l.prog w base (wK.F.lJ (k:=0) Gq (@Ce K C) λhr nd=>cb (fY (xO (jm vN rfl T.mI BootT.pS (cm (pv 0) (cm (FO rfl T.VB BootT.int rfl) eV))) (AU (Pj (by w_up))))));have wX:=qa.lS l.prog w base (DI qa.F T qb CH2 B2 (by walk_at "l") Ck);have zx:=zk.lS l.prog w base (zk.F.lJ (k:=0) nV (@DW K C) λhr nd=>aE (by w_up) (aE (vL (i:=5) mw (ys:=[]) [] rfl nV.nd rfl rfl (jJ (pv 3)) trivial (λ_ _ _=>fJ (show (mw:List bj).Nodup by decide +kernel)) (λ_ _ _=>jT (by w_up)) (λ_ _ _=>(pv 0))) (aE (jS (by w_up) (aE (AW (i:=6) nV.nd rfl (Or.inr rfl) (jm (Fg rfl) rfl T.Vz BootT.max (cm (gX mw (ys:=[]) [] rfl (jJ (pv 5)) trivial (λ_ _ _=>fJ (show (mw:List bj).Nodup by decide +kernel)) (λ_ _ _=>iH) (λ_ _ _=>(by w_up))) eV))) (aE (vL (i:=5) mw (ys:=["_law_most"]) [6] rfl nV.nd rfl rfl (jJ (pv 5)) ⟨rfl,.inl rfl,rfl,trivial⟩ (λ_ _ _=>fJ (show (["_law_row","_law_most"]:List bj).Nodup by decide +kernel)) (λ_ _ _=>jT (by w_up)) (λ_ _ _=>(pv 0))) (by w_up))) gh) (by w_up))));have zy:=zl.lS l.prog w base (zl.F.lJ (k:=0) Ja (@DU K C) λhr nd=>aE (by w_up) (by w_up));have zA:=zm.lS l.prog w base (zm.F.lJ (k:=0) Jb (@DV K C) λhr nd=>cb (fY (gX mw (ys:=[]) [] rfl (jJ (pv 0)) trivial (λ_ _ _=>fJ (show (mw:List bj).Nodup by decide +kernel)) (λ_ _ _=>jT (by w_up)) (λ_ _ _=>(by w_up)))));have uF:=uu.lS l.prog w base (uu.F.lJ (k:=0) DE (@zZ K C) λhr nd=>aE (by w_up) (by w_up));have iZ:=qv.Xj l.prog w base GP GQ (qv.F.lJ (mg:=mg) (k:=0) zM (@wD K C) λhr nd=>aE (by w_up) (cb (FT (pv 0) (gX ["place"] (ys:=[]) [] rfl (by w_up) trivial (λ_ _ _=>fJ (show (["place"]:List bj).Nodup by decide +kernel)) (λ_ _ _=>iH) (λ_ _ _=>(by w_up))) rfl)));have zB:=zr.lS l.prog w base (zr.F.lJ (mg:=mg) (k:=0) Jd (@DR K C) λhr nd=>cb (A1 gv rfl (jJ (pv 1)) (by w_up) (by w_up)));have uG:=uA.lS l.prog w base (uA.F.lJ (mg:=mg) (k:=0) DH (@zU K C ⟨A_Levels,A_Keeper⟩) λhr nd=>cb (fY (by w_up)));have Cz:=Cq.lS l.prog w base (Cq.F.lJ (k:=1) Lj (@GB K C) λhr nd=>cb (fY (xO (by w_up) (AU (Ij Mz Mz cT (pv 0) (Su rfl T.EE.choose_spec ⟨_,rfl⟩))))));have CB:=Cr.lS l.prog w base (Cr.F.lJ (k:=1) Ll (@Gy K C) λhr nd=>cb (fY (xO (by w_up) (AU (Ij Mz Ii cT (pv 1) (pv 0))))));have JD:=Jy.lS l.prog w base (Jy.F.lJ (k:=1) QW (@Lx K C) λhr nd=>cb (fY (jm (Fe rfl) rfl T.Vu BootT.sum (cm (gX ["a","b","level","in_wood"] (ys:=["n"]) [0] rfl (jJ (pv 1)) ⟨rfl,.inl rfl,rfl,trivial⟩ (λ_ _ _=>FP rfl (iF (fJ (show (MX:List bj).Nodup by decide +kernel)) (iF (fJ (show (MX:List bj).Nodup by decide +kernel)) (iF (fJ (show (MX:List bj).Nodup by decide +kernel)) (iF (fJ (show (MX:List bj).Nodup by decide +kernel)) Ax))))) (λ_ _ _=>iH) (λ_ _ _=>(by w_up))) eV))));have Nl:=Ni.lS l.prog w base (Ni.F.lJ (k:=1) Nb (@Oi K C) λhr nd=>aE (vL (i:=1) DB (ys:=[]) [] rfl Nb.nd rfl rfl (jJ (pv 0)) trivial (λ_ _ _=>FP rfl (iF (fJ (show (DB:List bj).Nodup by decide +kernel)) (iF (fJ (show (DB:List bj).Nodup by decide +kernel)) (iF (fJ (show (DB:List bj).Nodup by decide +kernel)) (iF (fJ (show (DB:List bj).Nodup by decide +kernel)) Ax))))) (λ_ _ _=>jT (Ph (Sv (pv 3)))) (λ_ _ _=>(pv 3))) (cb (fY (vC (by w_up) (by w_up) (by w_up)))));have FD:=FB.lS l.prog w base (FB.F.lJ (k:=1) Fv (@Js K C) λhr nd=>aE (nT Fv.nd (m5 cI gB kE (sS hr.units) (pv 0) (by w_up))) (by w_up));have JE:=JA.lS l.prog w base (JA.F.lJ (k:=1) BM (@Lr K C) λhr nd=>aE (by w_up) (aE (nT BM.nd (m5 cI gB kE (sS hr.units) (pv 3) (by w_up))) (aE (nT BM.nd (m5 cI gB kE (sS hr.units) (pv 3) (by w_up))) (aE (by w_up) (aE (by w_up) (aE (by w_up) (aE (by w_up) (cb (fY (vC (by w_up) (by w_up) (by w_up)))))))))));have kO:=wL.lS l.prog w base (wL.F.lJ (k:=1) wj (@Cd K C) λhr nd=>aE (AW (i:=2) wj.nd rfl (Or.inr rfl) (gX ["_law_k"] (ys:=[]) [] rfl (by w_up) trivial (λ_ _ _=>fJ (show (["_law_k"]:List bj).Nodup by decide +kernel)) (λ_ _ _=>iH) (λ_ _ _=>(pv 0)))) (aE (by w_up) (cb (fY (gX ["_law_k"] (ys:=["_law_heads_here"]) [2] rfl (by w_up) ⟨rfl,.inl rfl,rfl,trivial⟩ (λ_ _ _=>fJ (show (["_law_k","_law_heads_here"]:List bj).Nodup by decide +kernel)) (λ_ _ _=>iH) (λ_ _ _=>(by w_up)))))));have wY:=wM.lS l.prog w base (wM.F.lJ (k:=1) Gr (@Cg K C) λhr nd=>aE (by w_up) (aE (by w_up) (cb (fY (FR (kg hr.units) (gX mw (ys:=[]) [] rfl (jJ (pv 0)) trivial (λ_ _ _=>fJ (show (mw:List bj).Nodup by decide +kernel)) (λ_ _ _=>iH) (λ_ _ _=>(by w_up))) (by w_up) (iG _))))));have se:=rY.lS l.prog w base (rY.F.lJ (k:=1) BQ (@yg K C) λhr nd=>aE (by w_up) (by w_up));have n9:=n6.lS l.prog w base (k9.Ox (n6.F.lJ (mg:=mg) (k:=1) nW (@rT K C ⟨A_Levels,A_Keeper⟩ Pt1) λhr nd=>aE (vL (i:=3) ["tie"] (ys:=["level","self"]) [1,0] rfl nW.nd rfl rfl (UO (by w_up)) ⟨rfl,.inl rfl,rfl,⟨rfl,.inl rfl,rfl,trivial⟩⟩ (λ_ _ _=>fJ (show (["tie","level","self"]:List bj).Nodup by decide +kernel)) (λ_ _ _=>jT (by w_up)) (λ_ _ _=>(pv 0))) (cb (fY (YA vi hr.m rfl qg (cm (gX ["tie"] (ys:=["wooden","self"]) [2,0] rfl (jJ (pv 3)) ⟨rfl,.inl rfl,rfl,⟨rfl,.inl rfl,rfl,trivial⟩⟩ (λ_ _ _=>fJ (show (["tie","wooden","self"]:List bj).Nodup by decide +kernel)) (λ_ _ _=>jT (by w_up)) (λ_ _ _=>(pv 0))) (by w_up)))))) rS);have zC:=zw.lS l.prog w base (k9.Ox (zw.F.lJ (mg:=mg) (k:=1) Ji (@Cc K C ⟨A_Levels,A_Keeper⟩) λhr nd=>cb (fY (jm vU rfl T.sF BootT.Bd (cm (gX ["tie"] (ys:=["self"]) [0] rfl (UO (by w_up)) ⟨rfl,.inl rfl,rfl,trivial⟩ (λ_ _ _=>fJ (show (["tie","self"]:List bj).Nodup by decide +kernel)) (λ_ _ _=>iH) (λ_ _ _=>(by w_up))) eV)))) Cb);have oe:=n0.lS l.prog w base (n0.F.lJ (k:=2) wg (@tK K C) λhr nd=>cb (jS (by w_up) (cb mZ) gh));have wZ:=wQ.lS l.prog w base (wQ.F.lJ (k:=2) wk (@Ci K C) λhr nd=>aE (AW (i:=2) wk.nd rfl (Or.inr rfl) (gX ["_law_k"] (ys:=[]) [] rfl (by w_up) trivial (λ_ _ _=>fJ (show (["_law_k"]:List bj).Nodup by decide +kernel)) (λ_ _ _=>iH) (λ_ _ _=>(pv 0)))) (aE (by w_up) (cb (fY (FR (kg hr.units) (gX ["_law_k"] (ys:=["_law_heads_here"]) [2] rfl (by w_up) ⟨rfl,.inl rfl,rfl,trivial⟩ (λ_ _ _=>fJ (show (["_law_k","_law_heads_here"]:List bj).Nodup by decide +kernel)) (λ_ _ _=>iH) (λ_ _ _=>(by w_up))) (YA kO hr.m rfl qg (cm (pv 0) (cm (gX mw (ys:=[]) [] rfl (jJ (pv 1)) trivial (λ_ _ _=>fJ (show (mw:List bj).Nodup by decide +kernel)) (λ_ _ _=>iH) (λ_ _ _=>(by w_up))) eV))) (iG _))))));have ig:=n5.Xj l.prog w base yn yo (n5.F.lJ (mg:=mg) (k:=2) wm (@tL K C ⟨A_Levels,A_Keeper⟩) λhr nd=>aE (by w_up) (aE (by w_up) (aE (by w_up) (cb (FT (pv 0) (gX ["level"] (ys:=["n"]) [1] rfl (by w_up) ⟨rfl,.inl rfl,rfl,trivial⟩ (λ_ _ _=>fJ (show (["level","n"]:List bj).Nodup by decide +kernel)) (λ_ _ _=>iH) (λ_ _ _=>FU iZ.m iZ.G hr.m rfl T.Ul iZ.b .nil qg (by w_up))) rfl)))));have nv:=nu.lS l.prog w base (nu.F.lJ (k:=3) uZ (@rR K C) λhr nd=>aE (by w_up) (by w_up));have qd:=wR.lS l.prog w base (wR.F.lJ (mg:=mg) (k:=3) Gu (@BZ K C) λhr nd=>aE (by w_up) (cb (fY (K7 rfl rfl T.sF rfl T.Zv (by w_up)))));have zD:=zu.lS l.prog w base (zu.F.lJ (mg:=mg) (k:=3) Jg (@DT K C) λhr nd=>aE (by w_up) (by w_up));have pC:=pq.lS l.prog w base (pq.F.lJ (k:=4) x4 (@vf K C) λhr nd=>aE (by w_up) (cb (jS (by w_up) (cb mZ) gh)));have uH:=uv.lS l.prog w base (uv.F.lJ (mg:=mg) (k:=4) DF (@zS K C) λhr nd=>aE (by w_up) (by w_up));have l8:=l7.lS l.prog w base (l7.F.lJ (mg:=mg) (k:=4) rB (@pZ K C ⟨A_Levels,A_Keeper⟩) λhr nd=>aE (by w_up) (cb (fY (pcm qd T.Hu hr.m (pv 3) qg (cm (vC (by w_up) (by w_up) (by w_up)) eV)))));have i4:=qw.Xj l.prog w base yw yz (qw.F.lJ (mg:=mg) (k:=4) zN (@wH K C ⟨A_Levels,A_Keeper⟩) λhr nd=>aE (jS (by w_up) (cb mZ) gh) (aE (by w_up) (aE (FT (pv 0) (FU ig.m ig.G hr.m rfl T.OB ig.b .nil qg (by w_up)) rfl) (by w_up))));have FE:=FC.lS l.prog w base (FC.F.lJ (k:=5) Og (@Ju K C) λhr nd=>aE (by w_up) (aE (by w_up) (aE (jS (by w_up) (cb mZ) gh) (by w_up))));have sf:=rW.lS l.prog w base (rW.F.lJ (k:=5) BN (@yc K C) λhr nd=>aE (by w_up) (aE (by w_up) (aE (jS (by w_up) (cb mZ) gh) (by w_up))));have zE:=zt.lS l.prog w base (zt.F.lJ (mg:=mg) (k:=5) Je (@DS K C) λhr nd=>aE (by w_up) (aE (jS (by w_up) (cb mZ) gh) (by w_up)));have CC:=Cu.lS l.prog w base (Cu.F.lJ (mg:=mg) (k:=5) Lo (@GA K C) λhr nd=>aE (by w_up) (aE (jS (by w_up) (cb mZ) gh) (by w_up)));have sg:=rZ.lS l.prog w base (rZ.F.lJ (mg:=mg) (k:=6) BR (@yd K C ⟨A_Levels,A_Keeper⟩) λhr nd=>aE (by w_up) (by w_up));have uI:=ux.lS l.prog w base (ux.F.lJ (mg:=mg) (k:=6) DG (@zV K C ⟨A_Levels,A_Keeper⟩) λhr nd=>aE (SY (bf (yJ (by decide) _) hr.units) (by w_up) (pv 1) cT A6 (λ_ _ _=>rfl)) (by w_up));have uJ:=uz.lS l.prog w base (uz.F.lJ (mg:=mg) (k:=6) ub (@zW K C ⟨A_Levels,A_Keeper⟩) λhr nd=>aE (mE (m5 kF lX lY (Az hr.units) (by w_up) (by w_up))) (aE (nT ub.nd (m5 kF lX lY (Az hr.units) (by w_up) (by w_up))) (cb (jS (K3 (m5 kF lX lY (Az hr.units) (by w_up) (by w_up)) (λ_=>rfl)) (by w_up) gh))));have w6:=wU.lS l.prog w base (wU.F.lJ (mg:=mg) (k:=7) Gv (@B8 K C ⟨A_Levels,A_Keeper⟩) λhr nd=>aE (by w_up) (by w_up));have uK:=uB.lS l.prog w base (uB.F.lJ (mg:=mg) (k:=7) om (@zX K C ⟨A_Levels,A_Keeper⟩ Pt1) λhr nd=>aE (AW (i:=3) om.nd rfl (Or.inr rfl) (by w_up)) (aE (vL (i:=4) ["other"] (ys:=["side"]) [3] rfl om.nd rfl rfl (by w_up) ⟨rfl,.inl rfl,rfl,trivial⟩ (λ_ _ _=>fJ (show (["other","side"]:List bj).Nodup by decide +kernel)) (λ_ _ _=>jT (by w_up)) (λ_ _ _=>(pv 0))) (by w_up)));have uL:=uC.lS l.prog w base (uC.F.lJ (mg:=mg) (k:=8) oo (@zY K C ⟨A_Levels,A_Keeper⟩ Pt1) λhr nd=>aE (by w_up) (aE (by w_up) (aE (by w_up) (aE (by w_up) (aE (AY gv (by w_up) (aE (by w_up) (aE (nT oo.nd (Pg (KC (Bb (K0 hr.units) (Bb (K0 hr.units) (pv 4) (Mv FQ cT) (λ_ _=>rfl)) cT (λ_ _=>rfl))))) (cb (KE (i:=2) oo.nd rfl (Or.inl rfl) cT SG))))) (by w_up))))));have si:=r9.lS l.prog w base (r9.F.lJ (mg:=mg) (k:=8) BS (@ye K C ⟨A_Levels,A_Keeper⟩) λhr nd=>aE (sQ (pv 0) cT A6) (by w_up));have CD:=Cv.lS l.prog w base (Cv.F.lJ (mg:=mg) (k:=9) Lp (@GE K C ⟨A_Levels,A_Keeper⟩ Pt1) λhr nd=>aE (by w_up) (aE (sQ (pv 0) (by w_up) A6) (aE (by w_up) (aE (sQ (pv 0) (by w_up) A6) (aE (sQ (pv 0) (by w_up) A6) (by w_up))))));have w8:=wV.lS l.prog w base (wV.F.lJ (mg:=mg) (k:=9) Gw (@Ca K C ⟨A_Levels,A_Keeper⟩) λhr nd=>cb (fY (by w_up)));have xa:=wO.lS l.prog w base (wO.F.lJ (k:=10) Gs (@Cm K C ⟨A_Levels,A_Keeper⟩ Pt2) λhr nd=>aE (by w_up) (by w_up));have CF:=Cs.lS l.prog w base (Cs.F.lJ (k:=10) BP (@GI K C ⟨A_Levels,A_Keeper⟩) λhr nd=>aE (nT BP.nd (YA kO hr.m rfl qg (cm (pv 1) (cm (gX mw (ys:=[]) [] rfl (jJ (pv 3)) trivial (λ_ _ _=>fJ (show (mw:List bj).Nodup by decide +kernel)) (λ_ _ _=>iH) (λ_ _ _=>(by w_up))) eV)))) (by w_up));have CG:=Ct.lS l.prog w base (Ct.F.lJ (k:=10) u7 (@GJ K C ⟨A_Levels,A_Keeper⟩ Pt1) λhr nd=>aE (by w_up) (aE (by w_up) (aE (by w_up) (aE (by w_up) (aE (nT u7.nd (YA kO hr.m rfl qg (cm (pv 1) (cm (gX mw (ys:=["_law_tie"]) [2] rfl (jJ (pv 3)) ⟨rfl,.inl rfl,rfl,trivial⟩ (λ_ _ _=>fJ (show (["_law_row","_law_tie"]:List bj).Nodup by decide +kernel)) (λ_ _ _=>jT (by w_up)) (λ_ _ _=>(by w_up))) eV)))) (aE (jS (PW.pt (AS (by w_up) (AS (Pi (K3 (jm vN rfl T.mI BootT.pS (cm (Bb (K0 hr.units) (pv 4) (Mv FQ cT) (λ_ _=>rfl)) (by w_up))) (λ_=>rfl))) (AR (gj (KZ hr.units) (jm sR rfl T.Np BootT.len (cm (Bb (K0 hr.units) (pv 4) (Mv FQ cT) (λ_ _=>rfl)) eV)) cT (iG _)))))) (by w_up) gh) (aE (nT u7.nd (Bb (K0 hr.units) (Bb (K0 hr.units) (pv 4) (Mv FQ cT) (λ_ _=>rfl)) cT (λ_ _=>rfl))) (aE (mE (m5 cI HN PySem.F.type_list_remove (Ld hr.units) (pv 5) (by w_up))) (aE (jS (by w_up) (cb (fY (xO (Pg (KC (pv 7))) (by w_up)))) gh) (aE (jS (gj (E4 hr.units) (pv 7) (gX mw (ys:=[]) [] rfl (jJ (pv 3)) trivial (λ_ _ _=>fJ (show (mw:List bj).Nodup by decide +kernel)) (λ_ _ _=>jT (by w_up)) (λ_ _ _=>(by w_up))) (by with_unfolding_all rfl)) (by w_up) gh) (by w_up)))))))))));have zF:=zq.lS l.prog w base (zq.F.lJ (k:=11) Jc (@DX K C ⟨A_Levels,A_Keeper⟩ Pt1) λhr nd=>aE (jS (by w_up) (aE (mE (m5 kF lX lY (Az hr.units) (pv 2) (by w_up))) (by w_up)) (by w_up)) (by w_up));exact Nj.F.lJ (k:=12) QX (T8 ct) λhr nd=>aE (by w_up) (aE (by w_up) (aE (by w_up) (aE (nT QX.nd (FU i4.m i4.G hr.m rfl T.Ow i4.b .nil qg (by w_up))) (aE (by w_up) (aE (by w_up) (aE (by w_up) (aE (by w_up) (aE (by w_up) (aE (A1 gv rfl (by w_up) (fJ QX.nd) (aE (by w_up) (aE (by w_up) (aE (by w_up) (cb (jS (Ph (KC (pv 7))) (by w_up) gh)))))) (by w_up))))))))))
def walk {l:qx}{q:a6}{loose:List bj}{XP:(bj->Option ai)->cf->Prop}{YP:bO->cf->Prop}{d dy1 dy2:DefRec}{K:Params->aa}{c1 Pt1 c2 Pt2:af}(hn:l.most=some 63) (hdf:d.params.defaults=[])
  (hY:∀ (w:bO) (h:cf),YP w h->(K w.params).In h)
  (hrec1:(recsOf q).find? (λe=>e.name == ("in_order":bj))=some dy1) (htab1:∀ w:bO,R5 (K w.params) "in_order"=some (c1,Pt1))
  (hrec2:(recsOf q).find? (λe=>e.name == ("_law_shape":bj))=some dy2) (htab2:∀ w:bO,R5 (K w.params) "_law_shape"=some (c2,Pt2))
  (hnt:∀ w:bO,PySem.W.noTabs (K w.params)=true) (hne:Pt1≠Pt2)
  (F:∀ (w:bO) (mg:bj->Option ai) (fa:af) (h:cf),(K w.params).In h->h.Ns bU mg->mg d.name=some (.ref fa) ->
   ∃ fd:eK,(∀ (s:ao) (u:ai),Hw s fd ⟨[u],[]⟩ [("_law_script",u)])/\∀ base:cf,(K w.params).In base->base.Ns bU mg->ik base c1 Pt1->base.BuiltinsAt mg Pt1->ik base c2 Pt2->base.BuiltinsAt mg Pt2->k9 l.prog w (K w.params) mg base Iu 13 fa fd M6 (Co (K w.params) Pt1 Pt2)) :
  RV q loose XP YP l.row.toRowW d [] (λf vs=>RW f vs):=by
 have m1:(c1,Pt1)∈[(c1,Pt1),(c2,Pt2)]:=aw;have m2:(c2,Pt2)∈[(c1,Pt1),(c2,Pt2)]:=aj _ aw;refine L2.Qt (n:=63) (k:=13) (x:="_law_script") (Ps:=[(c1,Pt1),(c2,Pt2)]) (sp:=λw=>Co (K w.params) Pt1 Pt2) hn (by decide) hdf ⟨rfl,by decide,by decide⟩ hY (λp hp=>?_) hnt (λw mg fa h a b c=>?_) (λ_ _ a ns hl hT hS=>⟨a,ns,rfl,hS,hl,hne,.inl (hT _ m1),.inl (hT _ m2),λ_=>rfl⟩) λ_ _ _ _ z=>z
 ·rcases au.mp hp with e|hp
  ·subst e;exact ⟨_,dy1,hrec1,htab1⟩
  ·rw [aA.mp hp];exact ⟨_,dy2,hrec2,htab2⟩
 ·obtain ⟨fd,q1,q2⟩:=F w mg fa h a b c;exact ⟨fd,q1,λbase i1 i2 hP=>q2 base i1 i2 (hP _ m1).1 (hP _ m1).2 (hP _ m2).1 (hP _ m2).2⟩
end K38
end
end
local macro_rules | `(tactic| walk_at "b1")=>`(tactic| exact λ_ _ _ _ _ _ us hl=>match us,hl with|[_],_=>rfl)
local macro_rules | `(tactic| walk_at "b2")=>`(tactic| exact λ_ _ _ _ _ _ us hl=>match us,hl with|[_,_],_=>rfl)
local macro_rules | `(tactic| walk_at "b3")=>`(tactic| exact λ_ _ _ _ _ _ us hl=>match us,hl with|[_,_,_],_=>rfl)
local macro_rules | `(tactic| walk_at "b4")=>`(tactic| exact λ_ _ _ _ _ _ us hl=>match us,hl with|[_,_,_,_],_=>rfl)
local macro_rules | `(tactic| walk_at "b5")=>`(tactic| exact λ_ _ _ _ _ _ us hl=>match us,hl with|[_,_,_,_,_],_=>rfl)
structure PySem.W.Fast:Prop where(tw6238609885756914592 tw2758897740427048317 tw11221657615797919811 tw12560793758930722340 tw14203720350270846035 tw8365336782585663568 tw17347142516826067002 tw14261488194133711158 tw3318524319791396461 tw2187291561489242205 tw801858883890511543 tw16103377438018785285 tw16363662867891706624 tw6894949706401143032 tw1143355268421546771 tw9196866165073086323 tw10941441288130361772 tw7016870561068725056 tw8448257526377211060 tw11180494308818974 tw4474555850737401472 tw12805705674995010277 tw934068817069115725 tw12390475157123873612 tw13538653577038165384 tw9036884565215015247 tw6117018718076356876 tw17978698766362178851 tw12937593792439587872 tw14111842531698909002 tw9255539392987876003 tw18417512457308089200 tw1839015687926670853 tw4692803785377725133 tw9631440307648670904 tw12125612588268149818 tw10139269736859850966 tw9425416863712512323 tw11140461132110482005 tw9740865943670194448 tw8870618838998304591 tw9327025511649679771 tw3534447820470051477 tw1920003969537576330 tw17565603796625734480 tw12557784168071061292 tw11544693060877203445 tw6257539050020838235 tw12572005560317559181 tw578671747978663250 tw9637800037842542592 tw15600373819900656198 tw17311073255411872217 tw15540906543581132339 tw5197258308662436809 tw6389023750494262449 tw11120334191068342614 tw13747229502747123786 tw2292616409862704738 tw248040185714839681 tw798266819711982075 tw15101890749582348971 tw22857743167720164 tw17705531606427902699 tw17484624398928149329 tw15691507375022341567 tw10882191984727006014 tw1322869251846446598 tw9352489871064380651 tw7008019810059871679 tw13855673499330079146 tw3204472843651665247 tw14970885754721076435 tw6678539731571531149 tw15414140748587674186 tw1126093317674469430 tw7262539952393733549 tw6568316117353689230 tw5362309880239927570 tw4035104750379038691 tw10726465151227296944 tw1843636281638476862 tw1081886035396710779 tw5667886345654298594 tw3543612054963350591 tw4936303353578988413 tw4084232029961983085 tw431768475040705876 tw7793943018062186110 tw17063810251462439284 tw17156586537682122124 tw18132309383040172403 tw11441597896850145824 tw5167149000154973395 tw12022910441023298031 tw140854904560480079 tw17119665561489819485 tw9738591658429880402 tw2931786015647897421 tw738828719478661420 tw2902669744946802378 tw15626877166579817277 tw7764489452893411738 tw9393810865016066722 tw10806721346594268388 tw8939098931218124629 tw16656558491696519341 tw2022299176893108221 tw3597373333116339813 tw3187303178080758532 tw12334261736624580176 tw6498413846593697611 tw8783467218611512810 tw1282893497958582788 tw5432684508022706206 tw17995561445972005114 tw17820543508561243081 tw10724852081793230758 tw4598025306577576530 tw4662908292725049059 tw5653889786934525161 tw17263961208917036078 tw12556528112437889372 tw485824610412666844 tw12272335079894491708 tw5896108235409787906 tw5966065976270021404 tw878356513817570832 tw17075535365139702176 tw12604509686237815083 tw7816598825234784212 tw16175417898917277238 tw12403011192673409755 tw7009761605735628841 tw1513175582831400056 tw18177647949822177356 tw16500610424646506864 tw13580954942993438948 tw6873697801353513395 tw9463564380268072369 tw16539907744898834037 tw4252005372853919825 tw8816211648214045912 tw10069879487732965790 tw16792413027956196750 tw2252181991918334305 tw8288885755327667494 tw8874186722483041658 tw5761240272049498907 tw7214134457018727122 tw16115638134591099927 tw12205504846664591423 tw703441117727982748 tw11781456175741430008 tw16215965720375394643 tw5223320526698001509 tw11688145480126372974 tw7385795105080901924 tw12075831433812864083 tw3624749107198409115 tw14627288365385231615 tw14122109851054727108 tw7731881342111203700 tw15089236018314097670 tw6055408035418863690 tw4924680568030226338 tw5694195563085875786 tw7637407625600700630 tw4560389270417458085 tw9797153374590118794 tw2004827095031297642 tw6201625555359539964 tw2932794168483401281 tw8758972422577655660 tw5082482528374435827 tw8935998327029666341 tw14433134000032031337 tw9844959363231640150 tw2944997239198291071 tw9818446101713009178 tw2787399273733284310 tw5838804317985723168 tw15971907722839929834 tw16407084529012575516 tw2546034508032846710 tw12528887080453058613 tw14144929990805956727 tw4764533266525230783 tw12151102670554995610 tw16609733646305618637 tw8865121006245228113 tw1135837748432169568 tw13260370124073902016 tw16359133094492876078 tw16437182390021890994 tw8718950380953436360 tw337853224598407095 tw2210158474085283741 tw1807991643385688312 tw9218394386751493195 tw625776357992189298 tw7266856756185021997 tw2975788346561703976 tw11028590083389210605 tw4630872626042452267 tw1217314889798754603 tw453662001030294737 tw16325871575425306072 tw5740446505414168094 tw11547864793817362640 tw1873016683051088728 tw2248305178796926179 tw15899949848733287788 tw5145707389447503160 tw5071275466095204542 tw7673388306697868253 tw13238892019161929750 tw10316615286998253027 tw3313308548183528775 tw5878889397467524793 tw10838037636285057454 tw2728530258004127562 tw10543009617602570558 tw17796968251038645945 tw9670490214517322705 tw4977668498631868499 tw4983700380151993223 tw1498072356295441343 tw6030154927351857867 tw11915861135794447234 tw1503054575455631758 tw17837095267436559077 tw2757427271431063017 tw16797421842714285541 tw11164121944855519924 tw2370718737431992290 tw10633766445660195428 tw8174194515509027445 tw5916439594989224340 tw11838592430063601280 tw3434014877874650432 tw12350856278487650206 tw11842499423811197307 tw16168948567056165937 tw17561679699294011790 tw3023173230875441361 tw11517976960021040315 tw3068753502155129487 tw12391404355429191765 tw6857119687878749872 tw13968370939164724559 tw15439606813433106047 tw9734920322314228310 tw7662657914037083522 tw16477834068199312295 tw11130657025984851260 tw167544593874859343 tw8577695500813208082 tw15020327357738337867 tw1784623494779502386 tw6401708988822503970 tw3606964612355991641 tw8703829529208246511 tw2324530601547583271 tw1219861368344026615 tw4232318755334597915 tw12405498398055443580 tw3878001284895878247 tw11941473595585898362 tw14407483734012106539 tw14989641631279705366 tw10447800774057964689 tw14240434825571492456 tw15367728971195836097 tw10924102573555543349 tw4312741226122923658 tw720044072681842730 tw15909534416117789024 tw1533963024985985955 tw12029533852812399506 tw17261403369212117378 tw12064901236382942006 tw12749802978018805089 tw7580947915139455048 tw9229629570752371301 tw2614486114991723605 tw5576268524111539611 tw6102277102474695590 tw4805503770454864029 tw7357575474048526020 tw1002851718698352346 tw8687608411835318987 tw8415737172823954213 tw117436826113423550 tw126653426758485440 tw4688987952241059996 tw16354826896066648944 tw18020151890826865491 tw3189399001112860272 tw4832304087004849567 tw14225496463764880083 tw8173829506501953951 tw15373112623487735550 tw4305876330513473436 tw14406750132467360987 tw12910725235029711029 tw6351791447645294860 tw17510238311725665196 tw15179940472700910141 tw9554120609430313858 tw14582281291243566834 tw17640753704478277855 tw10481678948907028309 tw350646959899285261 tw8842395483371044839 tw13978732591585818304 tw17694733282647784043 tw7074363900715585721 tw12855946261023017290 tw16710654631505671373 tw14577031276212754340 tw416686237532269301 tw8685910722306602530 tw6535414809835562798 tw8930709568717761883 tw3802666420038379887 tw10785478346308827854 tw1430265334813497878 tw554530447410254299 tw9272899799271996926 tw3977830484745964106 tw2754674311042009915 tw2389053513015706196 tw14559411756986994457 tw11688358094059958339 tw3387923617799659102 tw9920691961272872551 tw18254641129576576371 tw5588969314032232620 tw15063920682658735913 tw3921117046287399233 tw2686983971548430030 tw5045158950476060890 tw5585633811472651074 tw4972362873757595513 tw15457401635777170841 tw7810592784135044308 tw14242457817998183212 tw10842056829979654809 tw794964718067043104 tw8764361075763778037 tw13690359552141895005 tw12706140755552065157 tw6081752241144674525 tw15650388206528178648 tw6213621135706959460 tw14146747482624992013 tw1188812511225789918 tw12337349783199965331 tw1565634130680753299 tw14172085231302973704 tw8259418391263621787 tw3376372118325507073 tw12684882700005118997 tw13939195229362129891 tw14560431925043741985 tw5932658506839849720 tw15338959190423819856 tw3148362880935430652 tw12130683448846434766 tw9023711870369672025 tw5341375472760267864 tw1704395799149833661 tw3429469687704999918 tw1365905337190886199 tw12140602824802813939 tw230159219679841011 tw13910273015403404056 tw6059602169141950483 tw568227677291967499 tw4270802371515323329 tw14277057009507048383 tw11420755223480110493 tw12295433297925723472 tw10810957206760095588 tw16909336828175236742 tw18204649369467991719 tw5768350611056796956 tw16213232136140608311 tw11106708507056450657 tw8406124993037884422 tw18313127803018902524 tw2852006883788508111 tw15066347055244222245 tw14584012474030502799 tw6575901165949117403 tw16780211400426354779 tw18349383257484460815 tw8458621087225337287 tw2648712727129998848 tw5465726572519358630 tw14917545293135472898 tw12096447564101882670 tw14039361537246381085 tw8116239992628618575 tw6275222992756477624 tw17492815775795469569 tw17083364045144966513 tw2153851333911950375 tw3273985974657473700 tw14229584343545791396 tw2409866678849459812 tw7363034316995943367 tw1888503656308771740 tw16201751837306528479 tw748128339725763304 tw10529836055522741461 tw991585389881046922 tw11258318219629196558 tw2236869889254222241 tw2084333478901022089 tw11808110073236596965 tw919403897350854881 tw3784552288364535277 tw5199431266357345738 tw1288047699611758618 tw17594248219933958646 tw82325850001508866 tw10310733658533552563 tw3396028858286682015 tw14264992627546184862 tw12342425832673481931 tw2779949153172591106 tw14266216413621000912 tw7092085143827589165 tw14254147343160998342 tw14097768121469843634 tw13273755986682177450 tw9445520226471481611 tw5349957962376925761 tw3943093342484046501 tw12829219480021961406 tw4534181354438457015 tw5571502584499037408 tw17602851658321574975 tw16786568526484426163 tw2478529628125370311 tw8533203012235797811 tw15143351784094033291 tw16871210819876246089 tw206783721954199209 tw16473290067679904242 tw16970377331291418789 tw6679031790331176984 tw11690163794220093325 tw15104308177023356072 tw12909241315991734248 tw10631519862554777780 tw9014975898331360232 tw2999936409638976294 tw3270672859135195966 tw1489282239789444922 tw7341403844690582380 tw8138084140705801711 tw2406285654017499950 tw6533591814370650362 tw10812738058784582174 tw1493928156055731809 tw14843125153038149181 tw1397452237575278071 tw14930818821011126654 tw4100922872297351560 tw17713525237615287238 tw7665182796642275349 tw5135349124611330948 tw8599179425238560005 tw15406180276334988769 tw16181019983641147927 tw6415821521252587731 tw13189306478380709253 tw9830948515821295141 tw14217187421827945985 tw10242536524865052906 tw3776443483183218182 tw13810214485293358289 tw16244629906919612849 tw2278525953049403003 tw6484733605995520410 tw2335138851334644470 tw12194059914520857605 tw14400134779932245835 tw11727069839305544366 tw13375130818020344911 tw8849120236667608192 tw3998616540733088494 tw6512923639864493516 tw7517382756103911102 tw15297317548417245084 tw15817919261209211552 tw807518064444103696 tw3816277800514116288 tw14179493096052793581 tw7430078801107732626 tw15310218337252315602 tw18262864709377621126 tw8142598045456839558 tw1866863534308039428 tw10690826449388865655 tw17281993748044835041 tw18287944961203982380 tw6570496313252836821 tw5521354871428913564 tw531799703153811006 tw13379928451149535745 tw11354540547964608683 tw14296517247179471717 tw17955544018308281329 tw271944940912082868 tw14190465897734391381 tw17936586393680349464 tw1557125468068346930 tw17039239461614486834 tw7223464600382843270 tw16127601288524153962 tw9836587243797627816 tw281014051198522602 tw902792153151269131 tw978260472339574556 tw6440027862489910419 tw811858857630421274 tw3459117601610444099 tw3078790201423266139 tw2223880079901798793 tw18369440276246424571 tw6829639421227699711 tw10190730326087362806 tw7710405462566942094 tw13965563513957946683 tw1826961279602173183 tw11487160144259677057:True)
open PySem PySem.W PyProof.Rows
set_option maxRecDepth 100000 in
set_option maxHeartbeats 0 in
theorem PySem.Challenge.cw_tiewood_k38_whole_the_wood_spans_holds : PySem.Challenge.rw_tiewood_k38_whole_the_wood_spans.Holds := by
  w_on;o_law;k_head;(case hw=>w_witness2)
  k_fill
  refine' K38.walk (l:=PySem.Challenge.rw_tiewood_k38_whole_the_wood_spans) rfl rfl (λw h Y=>PySem.W.km_in_of Y) ?hrec1 ?htab1 ?hrec2 ?htab2 ?hnt ?hne ?F
  case hrec1=>exact rfl
  case htab1=>intro w;exact rfl
  case hrec2=>exact rfl
  case htab2=>intro w;exact rfl
  case hnt=>intro w;exact rfl
  case hne=>decide
  case F =>
    intro w mg fa h KX G hmg;refine' K38.W8 KX G hmg ?GK ?GL ?GM ?GN ?GO ?GP ?GQ ?sG ?l9 ?yh ?yi ?yj ?yk ?ym ?yn ?yo ?ij ?gU ?i5 ?jv ?yp ?yq ?yr ?yt ?yu ?yw ?yz ?j4 ?i6 ?i7 ?jX ?nA ?jw ?jY (L2.qY KX G ?LD ?LF ?Cy ?LG (by walk_at "b1")) (L2.qY KX G ?LH ?LI ?Cz ?LJ (by walk_at "b1")) (L2.qY KX G ?LK ?LL ?CB ?LM (by walk_at "b2")) (L2.qY KX G ?Y7 ?Y8 ?Vt ?Y9 (by walk_at "b1")) (L2.qY KX G ?Ru ?Rv ?JB ?Rw (by walk_at "b2")) (L2.qY KX G ?Ry ?Rz ?JD ?RA (by walk_at "b2")) (L2.qY KX G ?T9 ?Ua ?Nk ?Ub (by walk_at "b1")) (L2.qY KX G ?Uc ?Ud ?Nl ?Ue (by walk_at "b1")) (L2.qY KX G ?DZ ?D0 ?uD ?D5 (by walk_at "b1")) (L2.qY KX G ?RB ?RC ?JC ?RD (by walk_at "b2")) (L2.qY KX G ?Oj ?Ol ?FD ?Om (by walk_at "b4")) (L2.qY KX G ?RE ?RF ?JE ?RG (by walk_at "b3")) (L2.qY KX G ?xc ?xf ?oe ?xg (by walk_at "b2")) (L2.qY KX G ?vj ?vk ?nv ?vm (by walk_at "b3")) (L2.qY KX G ?yA ?yB ?pC ?yC (by walk_at "b3")) (L2.qY KX G ?LN ?LO ?vi ?LP (by walk_at "b2")) (L2.qY KX G ?D6 ?D7 ?uE ?D8 (by walk_at "b2")) (L2.qY KX G ?On ?Oo ?FE ?Oq (by walk_at "b4")) (L2.qY KX G ?CI ?CJ ?sf ?CK (by walk_at "b4")) (L2.qY KX G ?CL ?CM ?sd ?CN (by walk_at "b2")) (L2.qY KX G ?GT ?GU ?wW ?GV (by walk_at "b1")) (L2.qY KX G ?GW ?GX ?wX ?GY (by walk_at "b2")) (L2.qY KX G ?JF ?JG ?zx ?JH (by walk_at "b4")) (L2.qY KX G ?JI ?JJ ?zy ?JK (by walk_at "b2")) (L2.qY KX G ?GZ ?G0 ?kO ?G1 (by walk_at "b2")) (L2.qY KX G ?G2 ?G4 ?wY ?G5 (by walk_at "b2")) (L2.qY KX G ?G6 ?G7 ?xa ?G8 (by walk_at "b3")) (L2.qY KX G ?G9 ?Ha ?wZ ?Hb (by walk_at "b2")) (L2.qY KX G ?JL ?JM ?zA ?JN (by walk_at "b1")) (L2.qY KX G ?LQ ?LR ?CF ?LS (by walk_at "b4")) (L2.qY KX G ?LU ?LW ?CG ?LX (by walk_at "b4")) (L2.qY KX G ?D9 ?Ea ?uF ?Eb (by walk_at "b3")) (L2.qY KX G ?CO ?CP ?se ?CQ (by walk_at "b2")) (L2.qY KX G ?JO ?JP ?zF ?JQ (by walk_at "b5")) (L2.qY KX G ?Za ?Zb ?Zc ?Zd (by walk_at "b1")) (L2.Dl ?z9 ?Aa ?Ab ?iZ ?Ac (by walk_at "b2")) (L2.Dl ?JR ?JS ?JT ?zB ?JU (by walk_at "b2")) (L2.Dl ?JV ?JW ?JX ?zE ?JY (by walk_at "b3")) (L2.Dl ?LY ?LZ ?L0 ?CC ?L3 (by walk_at "b3")) (L2.Dl ?Ec ?Ee ?Eg ?uH ?Eh (by walk_at "b3")) (L2.Dl ?Hc ?He ?Hg ?qd ?Hh (by walk_at "b2")) (L2.Dl ?JZ ?J0 ?J1 ?zD ?J2 (by walk_at "b2")) (L2.Dl ?xh ?xi ?xj ?ig ?xk (by walk_at "b2")) (L2.Dl ?Hi ?Hj ?Hk ?w6 ?Hl (by walk_at "b3")) (L2.Dl ?CS ?CU ?CV ?sg ?CW (by walk_at "b2")) (L2.Dl ?Ei ?Ej ?Ek ?uI ?El (by walk_at "b2")) (L2.Dl ?Em ?En ?Eo ?uJ ?Ep (by walk_at "b2")) (L2.Dl ?xm ?xn ?xo ?n9 ?xp (by walk_at "b3")) (L2.Dl ?Er ?Es ?Et ?uG ?Eu (by walk_at "b2")) (L2.Dl ?sj ?sk ?sr ?l8 ?sA (by walk_at "b3")) (L2.Dl ?Ew ?Ex ?Ey ?uK ?Ez (by walk_at "b3")) (L2.Dl ?EA ?EB ?EC ?uL ?ED (by walk_at "b2")) (L2.Dl ?Ad ?Ae ?Ag ?i4 ?Ah (by walk_at "b2")) (L2.Dl ?CY ?CZ ?C2 ?si ?C3 (by walk_at "b3")) (L2.Dl ?L9 ?Ma ?Mb ?CD ?Mc (by walk_at "b3")) (L2.Dl ?J3 ?J5 ?J7 ?zC ?J8 (by walk_at "b1")) (L2.Dl ?Hm ?Hn ?Ho ?w8 ?Hq (by walk_at "b3")) ?vh ?qb ?LB ?Rj ?qc ?Rk ?LC ?Ro ?Rp ?GR ?Rq ?Cw ?Rr ?GS ?Rt ?ou
    case GK|GL|GM|GN|GO|GP|GQ|sG|l9|yh|yi|yj|yk|ym|yn|yo|ij|gU|i5|jv|yp|yq|yr|yt|yu|yw|yz|j4|i6|i7|jX|nA|jw|jY|LD|LF|Cy|LG|LH|LI|Cz|LJ|LK|LL|CB|LM|Y7|Y8|Vt|Y9|Ru|Rv|JB|Rw|Ry|Rz|JD|RA|T9|Ua|Nk|Ub|Uc|Ud|Nl|Ue|DZ|D0|uD|D5|RB|RC|JC|RD|Oj|Ol|FD|Om|RE|RF|JE|RG|xc|xf|oe|xg|vj|vk|nv|vm|yA|yB|pC|yC|LN|LO|vi|LP|D6|D7|uE|D8|On|Oo|FE|Oq|CI|CJ|sf|CK|CL|CM|sd|CN|GT|GU|wW|GV|GW|GX|wX|GY|JF|JG|zx|JH|JI|JJ|zy|JK|GZ|G0|kO|G1|G2|G4|wY|G5|G6|G7|xa|G8|G9|Ha|wZ|Hb|JL|JM|zA|JN|LQ|LR|CF|LS|LU|LW|CG|LX|D9|Ea|uF|Eb|CO|CP|se|CQ|JO|JP|zF|JQ|Za|Zb|Zc|Zd|z9|Aa|Ab|iZ|Ac|JR|JS|JT|zB|JU|JV|JW|JX|zE|JY|LY|LZ|L0|CC|L3|Ec|Ee|Eg|uH|Eh|Hc|He|Hg|qd|Hh|JZ|J0|J1|zD|J2|xh|xi|xj|ig|xk|Hi|Hj|Hk|w6|Hl|CS|CU|CV|sg|CW|Ei|Ej|Ek|uI|El|Em|En|Eo|uJ|Ep|xm|xn|xo|n9|xp|Er|Es|Et|uG|Eu|sj|sk|sr|l8|sA|Ew|Ex|Ey|uK|Ez|EA|EB|EC|uL|ED|Ad|Ae|Ag|i4|Ah|CY|CZ|C2|si|C3|L9|Ma|Mb|CD|Mc|J3|J5|J7|zC|J8|Hm|Hn|Ho|w8|Hq=>k_is
    case vh|qb=>exact rfl
    case LB|Rj|qc|Rk|LC|Ro|Rp|GR|Rq|Cw|Rr|GS|Rt|ou=>k_is
