import PyProof.Rows.All
import Wide.All
import OpenK.AllK
import Wide.FinOn
import Lean
import PyProof.EqAt
import PyProof.EqKinds
import PyProof.TupleCall
import KE.KMinKey
import KE.KLam
import PyProof.Rows.CallKwBuiltin
import PyProof.Rows.Range3
import PyProof.Rows.SeqMore2
import PyProof.SeqI3
import KE.KSortTup
import PyProof.ZipIter
import KE.KItemsList
import KE.KDictList
import KE.KRevIter
import PyProof.Rows.SetFrom
import PyProof.EnumMake
import PyProof.EnumStmt
import PyProof.EnumFor
import KE.KTryMore
import KE.KTryOn
import KE.KSortKey
import PyProof.ListRange
import PyProof.Rows.SumAny
import KE.KSortTup
import PySem.Challenge.RW_tiewood_k31_ties_put
set_option Elab.async false
set_option linter.all false
set_option maxRecDepth 100000
set_option maxHeartbeats 4000000
open PySem.W renaming Frag->aa,findIn->bK,mg_none_of->cH,nsIn->c9,keepIn->fg,kia_one->fk,emptyDict->fT,instObj->iZ,fnOf->jc,plainGet->jy,kitOne->jz,hasDictIn->kr,makesIn->mh,plainOver->m9,CodeHd->pI,codeIn->qH,mg_of->sj,OpenLaw->tL,isFn->tU,lookIn->vE,plainGet_of->xm,callWith_K->yK,kla_obj->yN,methodObj->z8,takerIn->DT,kat_cons->HX,kat_yes->HY,cellsFrom_some->Kp,tabObj->Kr,methodCall_KW->KC,kitx_list->OV,kitx_dict->OW,handedIn->R7,WalkO->Sa
open PySem renaming wpAny_bind->ae,Addr->af,Value->aj,wpAny_pure->aq,Shared->ar,wpAny->aK,model->aP,sizeLine->aY,Program->a9,Str->bu,World->bQ,starEach->bR,mainGlobals->bW,Around->bY,Heap->cm,wpAny_newObj_type->cp,rawInt->cB,wpAny_holding->cF,wpAny_call_entry->cW,bootBuiltins->dw,compareOp->dG,wpAny_callSpecial?_slot->dH,Stmt->dU,wpAny_mono->dZ,wpAny_Call_Name_kw->eW,FuncData->fB,Obj->gi,eval->gM,codeAny_builtin->gX,plainId_quiet->ik,SetTable->iE,wpAny_rule->iM,wpAny_attempt->i4,wpAny_askSetting->jd,sysModules->jh,builtinLookup_eq_fast->jl,cLine->ju,backTo->jx,wpAny_ite_split->jE,wpAny_setState_of->jJ,pyNext->jQ,Builtin->kg,wpAny_setField->kj,wpAny_typeNameOfWhole_keyiter->kK,codeAny->kU,tupleKind_room_in1->kX,Scope->lh,wpAny_passesOwn->lj,NameKind->lp,wpAny_updateSeq->lu,behindInMarks->lz,wpAny_truthy_bool->lQ,mem_of_lookup->l5,wpAny_field->mv,tupleKind->mU,wpAny_isInstance->mX,wpAny_setEntries_of->nh,wpAny_typeNameOf_keyiter->nO,holding->nU,typeLookup_type->nW,sizeLine_eq->oF,Pos->oZ,intKind->pD,codeAny_mono->pE,wpAny_dictEntries->pK,wpAny_fieldsOf->pL,firstArgMember->pM,Arguments->qG,wpAny_loadName_local->rF,sliceBounds->rG,wpAny_specialOf->si,foldedSetIterable->vj,valueAt->vm,wpAny_standAt->vD,IsPair->vI,wpAny_newList->vL,GenState->xj,binaryOp->xk,updateSeq->xn,relayAll->xo,scanBound->xp,wpAny_Name->yI,assignEach->yJ,wpAny_typeOf->yM,wpAny_nextOf_list_item->yO,wpAny_execs_nil->yU,letOwnedTupleGo->yV,recursionLimit->Bd,keywordEach->Be,wpAny_pyIter_keyiter->Bg,ZipApart->Bh,wpAny_newTuple->Bi,isSubtype_stop->Bj,isSubtype_type->Bl,codeAny_extend_loopS->Bn,revObj->Bo,layNew->Bp,inplaceOp->Bz,standAt->BA,getMethod->BB,pickOrder->BC,seqItems?->BD,rule->DS,wpAny_load->Fk,Result->Fl,typeLookup->Fn,setsByText->Fs,Operator->HL,BindsTo->HM,bindArgs->HN,atKey->HP,callerA->HQ,wpAny_pyIter_slot->HS,collect->HU,fits_of_scanBound->HV,Env->Ia,swapsWith->Kn,assign->Ko,IsPart->Kq,Fin->KE,wpAny_letGo->KG,wpAny_of_eq->KH,Within->Mv,wpAny_dictEpoch->Mx,getItem->Nt,setNext->Nw,pyIter->OB,wpAny_call->OC,backToKw->OD,wpAny_runValue->OH,slotArgs->OL,setEntries->OM,assignInOrder->R5,attributeBase->R9,call->Sb,wpAny_handled->Se,CmpOp->Sr,bindL->Su,bindC->Sv,Sem->Uj,spliced->Uk,newExc->Uo,ItemsOf->Uq,wpAny_isTrue_Compare1->Vb,wpAny_nextOf_list_end->Vh,wpAny_notOrdered_dict->Vj,wpAny_isOneOf_keyiter->Vk,bindName->WY,callWith->WZ,seqIndex_of->W4,wpAny_newFunctionEnv->W5,wpAny_throw->W7,intItems->Xg,Tok->Xr,wpAny_loadName_cell->Xs,wpAny_loadName_free->Xt,wpAny_Tuple_spliced->Xu
open List renaming length_map->ag,mem_cons_of_mem->ak,mem_cons_self->av,mem_cons->ax,mem_singleton->aA,getElem?_eq_some_iff->aB,getElem?_eq_getElem->aC,getElem?_map->aD,size_toArray->aM,mem_append->aQ,map_append->aT,mem_of_getElem?->aW,mem_map_of_mem->bp,length_append->bq,mem_map->bw,nodup_cons->bA,mem_iff_getElem?->bF,map_map->bN,length_take->bO,mem_append_right->bP,take_of_length_le->bS,map_cons->bT,length_cons->bV,length_filter_le->cJ,mem_filter->cK,getLast?_append->cO,length_drop->cQ,lookup_cons->cR,pairwise_map->cS,length->df,append_assoc->dg,filter_append->dk,getElem?_eq_none->dA,not_mem_nil->dX,take_add_one->d9,getElem?_append_right->eK,getElem?_append_left->eX,lookup->ff,take_append_drop->fq,range->fz,count_eq_zero->fA,mem_append_left->fE,nodup_append->fZ,perm_append_comm->gB,eq_nil_or_concat->gC,concat_eq_append->gE,idxOf_lt_length_iff->hU,pairwise_append->ie,count_append->ip,drop_eq_getElem_cons->jg,length_range->jm,mem_range->jL,eq_nil_of_length_eq_zero->j9,zip_cons_cons->kh,mem_of_mem_head?->kL,count_cons_self->lB,getElem_mem->lR,pairwise_iff_getElem->l6,map_congr_left->mi,filter_sublist->mj,filter_eq_self->ml,length_nil->mV,find?_cons->mW,getElem?_take->mZ,append_of_mem->m5,getLast?_cons->m6,getElem?_cons_zero->nc,getElem?_set_self->nT,drop_of_length_le->nV,ext_getElem?->nX,length_pos_of_mem->nY,map_take->pJ,mem_filterMap->rJ,replicate->rK,getElem?_drop->rM,getElem?_zip_eq_some->sA,reverse_perm->tD,pairwise_singleton->tW,map_nil->vk,append_eq_nil_iff->vq,append_inj_right'->vt,append_nil->vF,of_mem_zip->vG,forIn_cons->vH,length_zip->vJ,count_cons->vM,filter_map->vN,length_replicate->v9,getElem?_zipWith->wc,getElem?_toArray->we,getElem?_set_ne->xt,nodup_nil->xv,filterMap_cons->yT,map_drop->Ac,sum_cons->Ad,getElem_idxOf->AC,pairwise_cons->AD,count_pos_iff->AE,map_singleton->AF,cons_append->DY,perm_middle->DZ,any_eq_true->D6,drop_zero->Ic,forIn_nil->Ie,nodup_iff_pairwise_ne->Ij,mem_of_find?_eq_some->Kt,getElem?_eq_none_iff->Ku,any_cons->KD,length_erase_of_mem->KJ,getElem?_replicate->Mw,getElem?_cons_succ->My,eraseIdx_cons_succ->Mz,pairwise_lt_range->Nu,any_map->Nz,length_singleton->OE,countP_mono_left->OG,singleton_append->OO,length_eraseIdx->O1,mem_iff_getElem->O2,nodup_iff_count->O4,drop_eq_nil_iff->O5,length_reverse->Sg,length_pos_iff->Sj,find?_eq_none->Sz,reverse_cons->Um,drop_sublist->UB,filter_cons->Vd,all_eq_true->Ve,countP_cons->Vg,take_length->Vm,map_snd_zip->Vn,take_append->Vo,nodup_range->Vp,find?_some->W6,head?_cons->Xk,idxOf_cons->Xl,take_succ->Xx,drop_drop->Xy
open PySem.Heap renaming get?_push_of_some->ao,lt_size->aL,get?_push_size->aN,get?_update_other->a0,get?_update_self->bE,size_push->ib,SameBut->iL,size_update->tX,get?_none_of_le->OU,ExtBut->O0
open Nat renaming le_refl->au,zero_le->aJ,ne_of_lt->bf,lt_of_lt_of_le->br,le_trans->bz,lt_of_le_of_lt->bI,ne_of_gt->eD,lt_irrefl->fu,le_succ->fQ,le_add_right->iP,lt_succ_self->jR,le_of_lt->ki,le_of_eq->l0,lt_succ_of_lt->oC,le_of_not_lt->pG,mul_le_mul_right->qD,succ_le_succ->uY,min_eq_left->wb,add_le_add_left->Ab,min_eq_right->Fo,lt_trans->OF,add_comm->OP,pow_succ->OQ,pow_le_pow_right->Sk,le_zero->Sl,pos_of_ne_zero->Uv,le_succ_of_le->Vi,min_le_left->Xv
open PySem.Value renaming ref->aF,type->dM,none->eJ,int->ij,str->tT,bool->uW,float->OA,isStrOf->Xq
open Array renaming length_toList->aO,getElem?_eq_getElem->cf,getElem?_eq_some_iff->cD,getElem?_toList->dv,perm_iff_toList_perm->fY,toList_append->iF,size_push->jf,getElem?_eq_none->j8,toList_inj->lO,toList_map->oS,reverse_append->pQ,size_append->sC,append_assoc->z9,toList_push->Bk,toList_zip->DU,getElem?_reverse->MC,reverse_reverse->Ny,forIn_toList->Sd,getD->Sh
open PyProof.Rows renaming wpS_bind->aV,Keyed->aX,wpS_pure->bo,seqObj->b9,pendingOf->cM,callWith_type1->dP,SortSt->dW,IntsAre->fR,wpS_forRange->gp,wpS_modify->jk,get?_update_seq->jF,failedOf->jK,slot_tuple_getitem->jZ,SortKind->kq,listUpdate_at->lA,elem'->oG,arrOf->pO,wpS_mono->pP,wpS_get->tw,minRun'->vp,IsTup->xi,reverseSlice'_eq->xq,callWith_builtin1->xu,wpS->xB,AllBare->yH,envOfC->yL,listItems_at->yP,reverseSlice'->D0,assignInOrder_cons->Fj,wpS_lift->HZ,seqEpoch_at->KI,entry_list_sort->MB,slot_list_sort->ON,Constant_none->R3,lt_int->Ss,subscriptTail_builtinR->Ul,plain_sorted->Uw,entry_sorted->Ux,tuples'->Uy,minRun'_succ->Uz,iadd_int->Vc,kind_sorted->Xd,mirror_size->Xh,binarySort'->Xi,mergeAt'->Xj,getElem?_mirror_all->Xz
open Sum renaming inl->aZ,inr->DR
open Option.some renaming inj->a7,injEq->gR
open PyProof.Rows.SortSt renaming mk'->a8
open Option renaming map_eq_some_iff->bx,map_some->ke,map->yW,isSome_map->AB,isSome_iff_exists->Ib,bind_eq_some_iff->Kv,bind_eq_bind->OJ,isNone_some->OZ,getD_none->Sx,pure_def->Ut
open PySem.Obj renaming mapSeq->bC,data_mapFields->dm,isFreed_of_fields->kY,mapFields->pT,cls_mapFields->tM,putSet->vK,data_mapDictKeys->yQ,isFreed_of_dict->SB
open Bool renaming false_ne_true->bL,false_eq_true->bX,and_eq_true->gW,eq_iff_iff->ji,or_false->KF
open PySem.NameKind renaming free->bM,cell->iD
open Prod.mk renaming inj->cC,injEq->xC
open PySem.F renaming plainAttrs_list->cU,plain_extend_loop->eQ,slot_list_append->gP,type_list_append->gQ,slot_list_index->ic,plainAttrs_dict->ig,type_list_index->mw,slot_dict_pop->nZ,type_dict_pop->n5,slot_dict_setdefault->pH,type_dict_setdefault->DV,slot_dict_getitem->Ga,args_list_index_2->Gb,entry_extend_loop->Gc,entry_list_index->HR
open PySem.PassesOwn renaming never->cZ
open PySem.Builtin.List renaming listExtendWith->c8,listLengthHint->fo,listSameRef->gf,listUpdate->gO,listItems->rL
open Int renaming le_trans->dh,le_of_lt->ia,toNat_natCast->iA,le_refl->qC,not_lt->sk,pow_succ->DW
open PySem.Heap.SameBut renaming update->di
open PySem.PyData renaming depthAll->dz,eqv->dC,canLayAll0->e9,depth->j4,canLay0->nq,int->OY
open PySem.SetTable renaming below->dN,grown->jv,has->Ig,orStandIn->Nv,relaid->Si,fresh->SC,slot->Ur,laid->Us,fits->Uu
open PySem.Around renaming under_plainId->eG,under->KB
open List.cons renaming inj->gA
open PySem.Builtin.SmallTypes renaming ownedTupleIsFree->gN,nextOf->jT
open True renaming intro->gU
open PySem.Str renaming ofString->iN,empty->Nq
open False renaming elim->iO
open PySem.SeqAt.EqAt renaming int_int->jD
open ForInStep renaming yield->jS
open PySem.Calls renaming spliced_cons->j7,spliced_nil->nN,Name_function_global->HK,call_function_entry->Ih
open PySem.Builtin.Slice renaming slicePlaces->ku,sliceAdjust->pF,sliceApplied->Aa
open PySem.Builtin.Tuple renaming tupleExact->kW
open List.Perm renaming cons->mY,append_left->nr,refl->uX,trans->O3
open PySem.SetTable.below renaming go->pN
open List.Pairwise renaming nil->pS,and->Ii
open PySem.SeqAt renaming eqv_refl->rH
open PySem.Builtin.Dict_items renaming ownsTuple->vn
open PySem.SetTable.probe renaming go->vo
open List.Sublist renaming map->xA
open PySem.Paired renaming length->yG
open Classical renaming byContradiction->D5
open PySem.Builtin.Dict renaming showsAll->Fp
open Int.ofNat renaming inj->Ft
open PySem.pickOrder renaming go->HW
open Sum.inl renaming inj->Mu
open PySem.ItemsOf renaming nil->MA
open PySem.Code renaming isFrame->Nr
open PySem.Moved renaming trans->OI,eq_with->Xw
open Prod renaming ext->OX
open PyProof.Rows.IntsAre renaming int_at->SD
open StateT renaming run_pure->UA
open PySem.SetTable.Met.empty renaming injEq->Vl
open PySem.Builtin.Frozenset renaming newClass->W8,updateFrom->W9,slot0->Xa,addrOf->Xb,sizeOf->Xc
open PySem.W.KatTups renaming cons->Xe
section
open PySem PySem.Spec PyProof.Rows
namespace L2
abbrev dQ:=Sum Int bu
def BE:dQ->aj->Bool
 | .inl k,v=>Value.isInt k v
 | .inr x,v=>Xq x v
def ZK (w:bQ):dQ->Int
 | .inl k=>hashInt k
 | .inr x=>hashStr w x
theorem iq:∀ {k:dQ}{v:aj},BE k v=true->(∃ i t,k=aZ i/\v=ij i t)\/(∃ x t,k=DR x/\v=tT x t)
 | .inl i,v,h=>by
  obtain ⟨t,e⟩:=Value.isInt_shape (k:=i) (v:=v) h
  exact .inl ⟨i,t,rfl,e⟩
 | .inr x,v,h=>by
  obtain ⟨t,e⟩:=Value.isStrOf_shape (x:=x) (v:=v) h;exact .inr ⟨x,t,rfl,e⟩
theorem NA (i:Int) (t:Xr):BE (.inl i) (.int i t)=true:=by simp [BE,Value.isInt]
theorem NB (x:bu) (t:Xr):BE (.inr x) (.str x t)=true:=by simp [BE,Xq]
theorem Vq (a b:Int):decide ((aZ a:dQ)=aZ b)=(a == b):=by
 by_cases e:a=b
 ·subst e;simp
 ·have h:¬ (aZ a:dQ)=aZ b:=λq=>e (Mu q);rw [decide_eq_false h];exact (beq_eq_false_iff_ne.mpr e).symm
theorem Vr (a b:bu):decide ((DR a:dQ)=DR b)=decide (a=b):=by
 by_cases e:a=b
 ·subst e;simp
 ·have h:¬ (DR a:dQ)=DR b:=λq=>e (Sum.inr.inj q);rw [decide_eq_false h,decide_eq_false e]
theorem Vs (a:Int) (b:bu):decide ((aZ a:dQ)=DR b)=false:=decide_eq_false (λq=>nomatch q)
theorem Vt (a:bu) (b:Int):decide ((DR a:dQ)=aZ b)=false:=decide_eq_false (λq=>nomatch q)
def fc (prog:a9) (w:bQ):PySem.KeyKind prog w dQ where
 is:=BE
 hash:=ZK w
 inj:=λv a b ha hb=>by
  rcases iq ha with ⟨i,t,rfl,rfl⟩|⟨x,t,rfl,rfl⟩
  ·rcases iq hb with ⟨j,u,rfl,e⟩|⟨y,u,rfl,e⟩
   ·injection e with e1 _;rw [e1]
   ·exact nomatch e
  ·rcases iq hb with ⟨j,u,rfl,e⟩|⟨y,u,rfl,e⟩
   ·exact nomatch e
   ·injection e with e1 _;rw [e1]
 byValue:=λk v h=>by
  rcases iq h with ⟨i,t,rfl,rfl⟩|⟨x,t,rfl,rfl⟩<;>rfl
 pyHash:=λhv h=>by
  rcases iq hv with ⟨i,t,rfl,rfl⟩|⟨x,t,rfl,rfl⟩
  ·exact wpAny_pyHash_int h
  ·exact wpAny_pyHash_str h
 eqBool:=λhu hv h=>by
  rcases iq hu with ⟨i,t,rfl,rfl⟩|⟨x,t,rfl,rfl⟩
  ·rcases iq hv with ⟨j,u,rfl,rfl⟩|⟨y,u,rfl,rfl⟩
   ·rw [Vq] at h;exact wpAny_eqBool_int h
   ·rw [Vs] at h;exact SeqAt.EqAt.int_str i t y u _ _ _ _ h
  ·rcases iq hv with ⟨j,u,rfl,rfl⟩|⟨y,u,rfl,rfl⟩
   ·rw [Vt] at h;exact SeqAt.EqAt.str_int x t j u _ _ _ _ h
   ·rw [Vr] at h;exact wpAny_eqBool_str h
 «strs»:=λk x t v h=>by
  rcases iq h with ⟨i,u,rfl,e⟩|⟨y,u,rfl,e⟩
  ·exact nomatch e
  ·injection e with e1 _
   subst e1;cases v<;>rfl
theorem Ik (prog:a9) (w:bQ) (i:Int) (t:Xr):(fc prog w).is (.inl i) (.int i t)=true:=NA i t
theorem Il (prog:a9) (w:bQ) (x:bu) (t:Xr):(fc prog w).is (.inr x) (.str x t)=true:=NB x t
end L2
namespace L2
inductive V where
 | non|bl (b:Bool)|int (i:Int)|str (x:bu)|byt (b:Array UInt8)|flt (b:UInt64)|ref (a:af)|ty (n:String)
 deriving DecidableEq
def RelV:V->aj->Prop
 | .non,u=>u=eJ
 | .bl b,u=>u=uW b
 | .int i,u=>∃ t,u=ij i t
 | .str x,u=>∃ t,u=tT x t
 | .byt b,u=>∃ t,u=Value.bytes b t
 | .flt b,u=>∃ t,u=OA b t
 | .ref a,u=>u=aF a
 | .ty n,u=>u=dM n
abbrev Vals:List V->List aj->Prop:=Paired RelV
theorem Vals.length {xs:List V}{us:List aj}(r:Vals xs us):xs.length=us.length:=yG r
theorem Vals.get:∀ {xs:List V}{us:List aj}{i:Nat}{x:V},Vals xs us->xs[i]?=some x->∃ u,us[i]?=some u/\RelV x u
 | _,_,_,_,.nil,e=>by simp at e
 | _,_,0,_,.cons r _,e=>by simp at e;subst e;exact ⟨_,rfl,r⟩
 | _,_,i+1,x,.cons _ t,e=>by
  obtain ⟨u,h1,h2⟩:=Vals.get (i:=i) (x:=x) t (by simpa using e);exact ⟨u,by simpa using h1,h2⟩
theorem Vals.set {x:V}{u:aj}(r:RelV x u):∀ {xs:List V}{us:List aj}(i:Nat),Vals xs us->Vals (xs.set i x) (us.set i u)
 | _,_,_,.nil=>.nil
 | _,_,0,.cons _ t=>.cons r t
 | _,_,i+1,.cons q t=>.cons q (Vals.set r i t)
theorem Vals.append:∀ {xs ys:List V}{us ws:List aj},Vals xs us->Vals ys ws->Vals (xs++ys) (us++ws)
 | _,_,_,_,.nil,s=>s
 | _,_,_,_,.cons r t,s=>.cons r (Vals.append t s)
theorem Vals.take:∀ {xs:List V}{us:List aj}(n:Nat),Vals xs us->Vals (xs.take n) (us.take n)
 | _,_,0,_=>.nil
 | _,_,_+1,.nil=>.nil
 | _,_,n+1,.cons r t=>.cons r (Vals.take n t)
theorem Vals.drop:∀ {xs:List V}{us:List aj}(n:Nat),Vals xs us->Vals (xs.drop n) (us.drop n)
 | _,_,0,r=>r
 | _,_,_+1,.nil=>.nil
 | _,_,n+1,.cons _ t=>Vals.drop n t
def sf:Option V->Option aj->Prop
 | some v,some u=>RelV v u
 | none,none=>True
 | _,_=>False
def KV {κ:Type}:List (κ×V)->List (κ×aj)->Prop:=Paired λ(p:κ×V) (q:κ×aj)=>p.1=q.1/\RelV p.2 q.2
def kV:dQ->V
 | .inl i=>.int i
 | .inr x=>.str x
inductive HO where
  | lst (xs:List V)
  | tup (xs:List V)
  | dK (kvs:List (dQ×V))|dT (kvs:List (List dQ×V))
  | set (S:Int->Bool) (n:Nat)
  | ins (C dx:af) (fs:List (bu×V))
  | own (x:af)
  | xd (fs:List (bu×V))
  | met (f x:af)
  | rng (lo hi:Int)
  | frz (o:gi) (u:HO)
  | tbl (ps:Array aj)
  | ext (φ:cm->Prop)
abbrev Hp:=af->Option HO
def upd (H:Hp) (a:af) (o:HO):Hp:=λb=>if b=a then some o else H b
theorem aG {H:Hp}{a:af}{o:HO}:upd H a o a=some o:=by unfold upd;rw [if_pos rfl]
theorem aI {H:Hp}{a b:af}{o:HO}(h:b≠a):upd H a o b=H b:=by unfold upd;rw [if_neg h]
theorem je {H:Hp}{a b:af}{o u:HO}(h:H a=some o) (h':H b=some u) (d:o≠u:=by intro z;cases z):a≠b:=by
 intro e;subst e;rw [h] at h';exact d (a7 h')
theorem aR {H:Hp}{a b:af}{o:HO}(h:H a=some o) (h':H b=none):a≠b:=by
 intro e;subst e;rw [h] at h';cases h'
section
variable (P:a9) (w:bQ)
def fP (H:Hp) (h:cm) (a:af):HO->Prop
 | .lst xs=>xs.length<=aY/\∃ (its:List aj) (n:Nat),Vals xs its/\h.get? a=some { cls:=.type "list",data:=.seq its.toArray n }
 | .tup xs=>xs.length<=aY/\∃ its:List aj,Vals xs its/\xi h a its.toArray
 | .dK kvs=>kvs.length<=aY/\(a == jh)=false/\∃ vs,KV kvs vs/\h.DictOf (fc P w) a vs
 | .dT kvs=>kvs.length<=aY/\(a == jh)=false/\∃ xs:List (List dQ×af×aj),
   Paired (λ(p:List dQ×V) (q:List dQ×af×aj)=>p.1=q.1/\H q.2.1=some (.tup (p.1.map kV))/\RelV p.2 q.2.2) kvs xs /\
   ∃ o es ep,h.get? a=some o/\o.ExactDict/\o.data=.dict es ep/\es.toList=xs.map (entryOfKey (mU (fc P w)))/\(xs.map (·.1)).Nodup
 | .set S n=>h.SetOf (pD P w) a S n
 | .ins C dx fs=>H dx=some (.own a)/\fs.length<=1000/\dx≠a/\h.get? a=some (iZ C dx) /\
   ∃ mA,h.Ns1 dx mA/\(∀ f,sf (fs.lookup f) (mA f))/\Mv mA (fs.map (·.1))
 | .own _=>∃ o,h.get? a=some o
 | .xd fs=>∃ mA,h.Ns1 a mA/\∀ f,sf (fs.lookup f) (mA f)
 | .rng lo hi=>∃ t u v,h.get? a=some { cls:=.type "range",data:=.fields #[.int lo t,.int hi u,.int 1 v] }
 | .frz o u=>h.get? a=some o/\fP H h a u
 | .tbl ps=>h.get? a=some { cls:=.none,data:=.fields ps }
 | .met f x=>h.get? a=some (z8 (.ref f) (.ref x))
 | .ext φ=>φ h/\(∃ o,h.get? a=some o)/\∀ h1 h2:cm,φ h1->(∀ o,h1.get? a=some o->h2.get? a=some o)->φ h2
def tS (H:Hp) (h:cm):Prop:=∀ a o,H a=some o->fP P w H h a o
end
section
variable {P:a9}{w:bQ}{H H':Hp}{h h':cm}{a:af}{o:HO}
theorem fP.lt (x:fP P w H h a o):a<h.objs.size:=by
 cases o with
 | lst xs=>obtain ⟨_,_,_,_,e⟩:=x;exact aL e
 | tup xs=>obtain ⟨_,_,_,p⟩:=x;exact p.lt
 | dK kvs=>obtain ⟨_,_,_,_,o,_,_,e,_⟩:=x;exact aL e
 | dT kvs=>obtain ⟨_,_,_,_,o,_,_,e,_⟩:=x;exact aL e
 | set S n=>obtain ⟨o,_,_,_,e,_⟩:=x;exact aL e
 | ins C dx fs=>obtain ⟨_,_,_,e,_⟩:=x;exact aL e
 | own y=>obtain ⟨_,e⟩:=x;exact aL e
 | xd fs=>obtain ⟨_,⟨_,_,_,e,_⟩,_⟩:=x;exact aL e
 | rng lo hi=>obtain ⟨_,_,_,e⟩:=x;exact aL e
 | frz ob u=>obtain ⟨e,_⟩:=x;exact aL e
 | tbl ps=>exact aL (show h.get? a=some _ from x)
 | met f y=>exact aL (show h.get? a=some _ from x)
 | ext φ=>obtain ⟨_,⟨_,e⟩,_⟩:=x;exact aL e
theorem Paired.Ou {α β:Type} {F G:α->β->Prop}:∀ {l₁:List α} {l₂:List β},Paired F l₁ l₂->(∀ a b,F a b->G a b)->Paired G l₁ l₂
 | _,_,.nil,_=>.nil
 | _,_,.cons r t,f=>.cons (f _ _ r) (Paired.Ou t f)
theorem fP.Bb (x:fP P w H h a o) (k:∀ b u,(b=a\/H b=some (.own a))->h.get? b=some u->h'.get? b=some u)
  (ho:∀ b,H b=some (.own a)->H' b=some (.own a)) (ht:∀ b xs,H b=some (.tup xs)->H' b=some (.tup xs)):fP P w H' h' a o:=by
 induction o with
 | lst xs=>obtain ⟨z,its,n,r,e⟩:=x;exact ⟨z,its,n,r,k _ _ (.inl rfl) e⟩
 | tup xs=>obtain ⟨z,its,r,ob,e,c⟩:=x;exact ⟨z,its,r,ob,k _ _ (.inl rfl) e,c⟩
 | dK kvs=>obtain ⟨z,y,vs,r,ob,es,ep,e,c⟩:=x;exact ⟨z,y,vs,r,ob,es,ep,k _ _ (.inl rfl) e,c⟩
 | dT kvs =>
  obtain ⟨z,y,xs,r,ob,es,ep,e,c⟩:=x
  exact ⟨z,y,xs,Paired.Ou r λp q z=>⟨z.1,ht _ _ z.2.1,z.2.2⟩,ob,es,ep,k _ _ (.inl rfl) e,c⟩
 | set S n=>obtain ⟨ob,es,ep,t,e,c⟩:=x;exact ⟨ob,es,ep,t,k _ _ (.inl rfl) e,c⟩
 | ins C dx fs =>
  obtain ⟨d,z,ne,e,mA,⟨od,es,ep,e2,c⟩,r⟩:=x
  exact ⟨ho _ d,z,ne,k _ _ (.inl rfl) e,mA,⟨od,es,ep,k _ _ (.inr d) e2,c⟩,r⟩
 | own y=>obtain ⟨ob,e⟩:=x;exact ⟨ob,k _ _ (.inl rfl) e⟩
 | xd fs=>obtain ⟨mA,⟨od,es,ep,e,c⟩,r⟩:=x;exact ⟨mA,⟨od,es,ep,k _ _ (.inl rfl) e,c⟩,r⟩
 | rng lo hi=>obtain ⟨t,u,v,e⟩:=x;exact ⟨t,u,v,k _ _ (.inl rfl) e⟩
 | frz ob u ih=>obtain ⟨e,q⟩:=x;exact ⟨k _ _ (.inl rfl) e,ih q⟩
 | tbl ps =>
  have e:h.get? a=some { cls:=.none,data:=.fields ps }:=x
  show h'.get? a=some { cls:=.none,data:=.fields ps }
  exact k a _ (.inl rfl) e
 | met f y =>
  have e:h.get? a=some (z8 (.ref f) (.ref y)):=x
  show h'.get? a=some (z8 (.ref f) (.ref y))
  exact k a _ (.inl rfl) e
 | ext φ=>obtain ⟨p,⟨o,e⟩,st⟩:=x;exact ⟨st _ _ p λo q=>k _ _ (.inl rfl) q,⟨o,k _ _ (.inl rfl) e⟩,st⟩
theorem tS.lt (x:tS P w H h) (e:H a=some o):a<h.objs.size:=(x a o e).lt
theorem tS.fresh (x:tS P w H h) (e:h.objs.size<=a):H a=none:=by
 cases q:H a with
 | none=>rfl
 | some u=>exact absurd (br (x.lt q) e) (fu _)
theorem tS.kept (x:tS P w H h) (k:∀ b u,h.get? b=some u->h'.get? b=some u):tS P w H h':=λa o e =>
 (x a o e).Bb (λb u _ q=>k b u q) (λ_ q=>q) λ_ _ q=>q
theorem tS.laid (x:tS P w H h) (k:∀ b u,h.get? b=some u->h'.get? b=some u) (hp:h.objs.size<=a) (new:fP P w (upd H a o) h' a o):tS P w (upd H a o) h':=λb u e=>by
 have hn:=x.fresh hp
 by_cases hb:b=a
 ·subst hb;rw [aG] at e;cases e;exact new
 ·rw [aI hb] at e
  exact (x b u e).Bb (λc v _ q=>k c v q) (λc q=>by rw [aI (aR q hn)];exact q) λc xs q=>by rw [aI (aR q hn)];exact q
end
def Rd (H:Hp) (a:af) (u:HO):Prop:=H a=some u\/∃ o,H a=some (.frz o u)
theorem Rd.ok {P:a9}{w:bQ}{H:Hp}{h:cm}{a:af}{u:HO}(r:Rd H a u) (x:tS P w H h):fP P w H h a u:=by
 rcases r with r|⟨o,r⟩
 ·exact x a u r
 ·obtain ⟨_,q⟩:=x a _ r;exact q
def XA:Option HO->Prop
 | some (.lst _)=>True
 | some (.dK _)=>True
 | some (.dT _)=>True
 | some (.set _ _)=>True
 | some (.ins _ _ _)=>True
 | some (.ext _)=>True
 | _=>False
section
variable {P:a9}{w:bQ}{H:Hp}{h h':cm}{x e:af}{o':HO}
theorem tS.write (ok:tS P w H h) (mu:XA (H x)) (he:e=x\/H e=some (.own x)) (k:∀ b u,b≠e->h.get? b=some u->h'.get? b=some u) (heo:∃ u,h'.get? e=some u)
  (new:fP P w (upd H x o') h' x o'):tS P w (upd H x o') h':=λb u q=>by
 have nown:∀ c y,H c=some (.own y)->c≠x:=λc y r z=>by subst z;rw [r] at mu;exact mu
 have ntup:∀ c xs,H c=some (.tup xs)->c≠x:=λc xs r z=>by subst z;rw [r] at mu;exact mu
 by_cases hb:b=x
 ·subst hb;rw [aG] at q;cases q;exact new
 ·rw [aI hb] at q
  by_cases hbe:b=e
  ·have q':H b=some (.own x):=by
    rcases he with z|z
    ·exact absurd (hbe.trans z) hb
    ·rw [hbe];exact z
   rw [q] at q';cases q';obtain ⟨v,hv⟩:=heo;exact ⟨v,by rw [hbe];exact hv⟩
  ·refine (ok b u q).Bb (λc v hc r=>k c v ?_ r) (λc r=>by rw [aI (nown c b r)];exact r) λc xs r=>by rw [aI (ntup c xs r)];exact r
   rcases hc with rfl|hc
   ·exact hbe
   ·rintro rfl
    rcases he with z|z
    ·exact nown c b hc z
    ·rw [hc] at z;cases z;exact hb rfl
end
structure Un (fs ex:List af) (H H':Hp) (h h':cm):Prop where
 keep:∀ b o,h.get? b=some o->H b=none->b∉fs->b∉ex->h'.get? b=some o
 slot:∀ b o,h.get? b=some o->H b=none->b∈fs->b∉ex->∃ sl,h'.get? b=some { o with slots:=sl }
 free:∀ b o,h.get? b=some o->H b=none->b∉ex->H' b=none
 there:∀ b o,h.get? b=some o->b∉ex->∃ o',h'.get? b=some o'
 Fe:∀ b xs,H b=some (.tup xs)->H' b=some (.tup xs)
 DQ:∀ b o u,H b=some (.frz o u)->H' b=some (.frz o u)
 DP:∀ b ps,H b=some (.tbl ps)->∃ more,H' b=some (.tbl (ps++more))
section
variable {fs fs' ex ex':List af}{H H1 H2:Hp}{h h1 h2 h':cm}{a x e:af}{o:HO}
theorem Un.any (u:Un fs ex H H1 h h1) {b:af}{ob:gi}(q:h.get? b=some ob) (n:H b=none) (hx:b∉ex):∃ sl,h1.get? b=some { ob with slots:=sl }:=by
 by_cases hb:b∈fs
 ·exact u.slot b ob q n hb hx
 ·exact ⟨ob.slots,u.keep b ob q n hb hx⟩
theorem Un.kept (k:∀ b u,h.get? b=some u->h'.get? b=some u):Un fs ex H H h h' :=
 ⟨λb ob q _ _ _=>k b ob q,λb ob q _ _ _=>⟨ob.slots,k b ob q⟩,λ_ _ _ n _=>n,λb ob q _=>⟨ob,k b ob q⟩,λ_ _ q=>q,λ_ _ _ q=>q,λ_ ps q=>⟨#[],by rw [q];simp⟩⟩
theorem Un.refl:Un fs ex H H h h:=Un.kept λ_ _ q=>q
theorem Un.laid (k:∀ b u,h.get? b=some u->h'.get? b=some u) (hp:h.objs.size<=a) (hn:H a=none):Un fs ex H (upd H a o) h h' where
 keep:=λb u q _ _ _=>k b u q
 slot:=λb u q _ _ _=>⟨u.slots,k b u q⟩
 free:=λb u q n _=>by rw [aI (bf (br (aL q) hp))];exact n
 there:=λb u q _=>⟨u,k b u q⟩
 Fe:=λb xs q=>by rw [aI (aR q hn)];exact q
 DQ:=λb u xs q=>by rw [aI (aR q hn)];exact q
 DP:=λb ps q=>⟨#[],by rw [aI (aR q hn),q];simp⟩
theorem Un.write (mu:XA (H x)) (he:e=x\/H e=some (.own x)) (k:∀ b u,b≠e->h.get? b=some u->h'.get? b=some u) (heo:∃ u,h'.get? e=some u):Un fs ex H (upd H x o) h h':=by
 have hx:∀ b,H b=none->b≠x:=λb n z=>by subst z;rw [n] at mu;exact mu
 have hb:∀ b,H b=none->b≠e:=λb n z=>by
  subst z
  rcases he with r|r
  ·exact hx b n r
  ·rw [n] at r;cases r
 have hm:∀ b u,H b=some u->¬ XA (some u)->b≠x:=λb u q nm z=>by subst z;rw [q] at mu;exact nm mu
 refine ⟨λb u q n _ _=>k b u (hb b n) q,λb u q n _ _=>⟨u.slots,k b u (hb b n) q⟩,λb u q n _=>by rw [aI (hx b n)];exact n,λb u q _=>?_,
  λb xs q=>by rw [aI (hm b _ q λz=>z)];exact q,λb u xs q=>by rw [aI (hm b _ q λz=>z)];exact q,λb ps q=>⟨#[],by rw [aI (hm b _ q λz=>z),q];simp⟩⟩
 by_cases hbe:b=e
 ·subst hbe;exact heo
 ·exact ⟨u,k b u hbe q⟩
end
def Y9 (h:cm) (H:Hp):List af:=(fz h.objs.size).filter λa=>(H a).isSome
def BF (h:cm) (H:Hp):cm:=PySem.W.hideAll h (Y9 h H)
theorem NC (h:cm) (H:Hp):(BF h H).objs.size=h.objs.size:=PySem.W.hideAll_size _ _
theorem O6 {h:cm}{H:Hp}{b:af}{o:gi}(e:h.get? b=some o) (n:H b=none):(BF h H).get? b=some o :=
 PySem.W.hideAll_get _ e λhm=>by
  have q:(H b).isSome=true:=(cK.mp hm).2;rw [n] at q;simp at q
theorem SE {h:cm}{H:Hp}{b:af}{o:gi}(e:(BF h H).get? b=some o):h.get? b=some o/\H b=none:=by
 have e':h.get? b=some o:=PySem.W.of_hideAll (Y9 h H) e;refine ⟨e',?_⟩
 cases q:H b with
 | none=>rfl
 | some x =>
  have hm:b∈Y9 h H:=cK.mpr ⟨jL.mpr (aL e'),by simp [q]⟩;have z:(BF h H).get? b=none:=PySem.W.hideAll_none (Y9 h H) hm;rw [z] at e;cases e
def uZ (g h:cm) (L:af):List (af×gi):=(fz h.objs.size).filterMap λa=>if a=L\/(g.get? a).isSome=true then none else (h.get? a).map λo=>(a,o)
theorem Ae {g h:cm}{L a:af}{o:gi}(h1:a≠L) (h2:g.get? a=none) (h3:h.get? a=some o):(a,o)∈uZ g h L :=
 rJ.mpr ⟨a,jL.mpr (aL h3),by simp [h1,h2,h3]⟩
theorem BG {g h:cm}{L:af}{p:af×gi}(hp:p∈uZ g h L):p.1≠L/\g.get? p.1=none/\h.get? p.1=some p.2:=by
 obtain ⟨b,_,e⟩:=rJ.mp hp
 split at e
 ·cases e
 ·rename_i hn
  cases q:h.get? b with
  | none=>rw [q] at e;simp at e
  | some u =>
   rw [q] at e;simp only [ke,gR] at e;subst e;refine ⟨λz=>hn (.inl z),?_,q⟩
   show g.get? b=none
   cases r:g.get? b with
   | none=>rfl
   | some v=>exact (hn (.inr (by simp [r]))).elim
theorem O7 {g h:cm}{L:af}:News g L h (uZ g h L):=λp hp=>let ⟨a,b,c⟩:=BG hp;⟨c,a,b⟩
end L2
namespace L2
structure Mod (K:aa) (mg:bu->Option aj) (base:cm):Prop where
 YF:K.In base
 glob:base.Ns bW mg
 blt:∃ mb,base.Ns builtinsNs mb/\∀ x:bu,x≠"__name__"->mb x=dw x
 nolimit:base.NoLimit
structure Cx where
 prog:a9
 w:bQ
 K:aa
 mg:bu->Option aj
 base:cm
 A:bY
 N:List bu
 s₀:ar
 H₀:Hp
 env:Ia
 outer:List Ia
 stack:List Ia
 ex:List af
 fn:bu->Bool
 calm:Bool
 pn:List (af×gi)
 xe:aj->ar->Prop
def Ov (l:List Ia):List af:=l.filterMap (·.frame)
abbrev Cx.fs (X:Cx):List af:=Ov X.outer
def Za (sc:lh) (x:bu):Prop:=sc.names.lookup x=some .local\/sc.names.lookup x=some .cell\/sc.names.lookup x=some .free
def Loc (sc:lh) (x:bu):Prop:=sc.names.lookup x=some .local\/sc.names.lookup x=some .cell
def Look (env:Ia) (h:cm) (m:bu->Option aj) (x:bu) (u:aj):Prop :=
 (env.kindOf x=some .local/\m x=some u)\/((env.kindOf x=some .cell\/env.kindOf x=some .free)/\∃ c,env.cells.lookup x=some c/\h.IsCell c (some u))
structure Cx.Ok (X:Cx):Prop where
 mod:Mod X.K X.mg X.base
 kind:X.env.scope.kind=.function
 glob:X.env.globals=bW
 blt:X.env.builtins=builtinsNs
 above:X.s₀.heap.objs.size<=X.env.locals
 inj:∀ x y c,X.env.cells.lookup x=some c->X.env.cells.lookup y=some c->x=y
 has:∀ x,(X.env.kindOf x=some .cell\/X.env.kindOf x=some .free)->∃ c,X.env.cells.lookup x=some c
 Xp:∀ x c,X.fn x=true->X.env.cells.lookup x=some c->X.s₀.heap.objs.size<=c
 hd:X.calm=true->X.A.handled=none
 frames:X.A.frames=some X.stack
 YR:X.stack=X.outer\/(X.stack=X.env::X.outer/\X.env.frame=some X.env.locals)
 Zq:∀ b∈X.ex,b≠X.env.locals/\∀ x c,X.env.cells.lookup x=some c->c≠b
 bs:∀ b o,X.base.get? b=some o->X.s₀.heap.get? b=some o/\X.H₀ b=none
 RX:X.base.objs.size<=X.s₀.heap.objs.size
 Os:∀ b o,X.base.get? b=some o->b∉X.ex
 On:∀ b∈X.ex,b∉X.fs
 z6:X.s₀.heap.FunFrames X.base X.outer
 U7:∀ b∈X.fs,X.H₀ b=none
structure Inv (X:Cx) (pins:List (af×gi)) (Z:List (Option V)) (H:Hp) (s:ar):Prop where
 ok:X.Ok
 os:s.os=X.s₀.os
 bare:yH s.gens
 base:Un X.fs X.ex X.H₀ H X.s₀.heap s.heap
 loc:∃ m,s.heap.Ns X.env.locals m/\∀ (i:Nat) (x:bu) (v:V),X.N[i]?=some x->Z[i]?=some (some v)->Za X.env.scope x->∃ u,RelV v u/\Look X.env s.heap m x u
 cell:∀ x c,X.env.cells.lookup x=some c->∃ v,s.heap.IsCell c v
 free:H X.env.locals=none
 uT:∀ x c,X.env.cells.lookup x=some c->H c=none
 pin:∀ p∈X.pn++pins,s.heap.get? p.1=some p.2/\H p.1=none/\p.1≠X.env.locals/\p.1∉X.fs/\∀ v,p.2.data≠.cell v
 fD:tS X.prog X.w H s.heap
 len:Z.length=X.N.length
section
variable {X:Cx}{pins:List (af×gi)}{Z:List (Option V)}{H H':Hp}{s:ar}{h':cm}
theorem Cx.Ok.nofr (ok:X.Ok) {b:af}{o:gi}(e:X.base.get? b=some o):b∉X.fs:=λhb=>by
 have:=(ok.z6.mem hb).1;rw [e] at this;cases this
theorem Inv.bs (I:Inv X pins Z H s):∀ b o,X.base.get? b=some o->s.heap.get? b=some o/\H b=none:=λb o e =>
 ⟨I.base.keep b o (I.ok.bs b o e).1 (I.ok.bs b o e).2 (I.ok.nofr e) (I.ok.Os b o e),I.base.free b o (I.ok.bs b o e).1 (I.ok.bs b o e).2 (I.ok.Os b o e)⟩
theorem Inv.bk (I:Inv X pins Z H s):∀ b o,X.base.get? b=some o->s.heap.get? b=some o:=λb o e=>(I.bs b o e).1
theorem Inv.mod (I:Inv X pins Z H s):Mod X.K X.mg X.base:=I.ok.mod
theorem Inv.Bc (I:Inv X pins Z H s):X.K.In s.heap:=I.ok.mod.YF.keeps I.bk
theorem Inv.fr (I:Inv X pins Z H s):∃ m,Fr X.base X.env.locals s.heap m :=
 let ⟨m,hn,_⟩:=I.loc
 ⟨m,hn,I.bk,bz I.ok.RX I.ok.above⟩
theorem Inv.lt (I:Inv X pins Z H s):X.env.locals<s.heap.objs.size:=let ⟨_,hn,_⟩:=I.loc;hn.lt
theorem Inv.sz (I:Inv X pins Z H s):X.s₀.heap.objs.size<=s.heap.objs.size:=bz I.ok.above (ki I.lt)
theorem Inv.nofs (I:Inv X pins Z H s) {a:af}(h:s.heap.objs.size<=a):a∉X.fs:=λhb=>by
 obtain ⟨_,o,ho,_⟩:=I.ok.z6.mem hb;exact absurd (br (aL ho) (bz I.sz h)) (fu _)
theorem Inv.WU (I:Inv X pins Z H s):∀ x c,X.env.cells.lookup x=some c->c≠X.env.locals:=λx c e z=>by
 obtain ⟨v,o,ho,hd⟩:=I.cell x c e;obtain ⟨m,⟨o',es,ep,ho',hd',_⟩,_⟩:=I.loc;rw [z,ho'] at ho;cases ho;rw [hd'] at hd;cases hd
theorem Inv.z6 (I:Inv X pins Z H s):s.heap.FunFrames X.base X.outer:=by
 have all:∀ (l:List Ia),(∀ b∈Ov l,b∈X.fs)->X.s₀.heap.FunFrames X.base l->s.heap.FunFrames X.base l:=by
  intro l
  induction l with
  | nil=>intro _ _;trivial
  | cons env r ih =>
   intro hs hl;obtain ⟨hk,⟨L,o,hf,hn,ho,hd⟩,hr⟩:=hl;have hL:L∈X.fs:=hs L (by unfold Ov;rw [yT,hf];exact av);obtain ⟨sl,e⟩:=I.base.slot L o ho (I.ok.U7 L hL) hL λz=>I.ok.On L z hL;exact ⟨hk,⟨L,_,hf,hn,e,hd⟩,ih (λb hb=>hs b (by unfold Ov;rw [yT,hf];exact ak _ hb)) hr⟩
 exact all X.outer (λ_ hb=>hb) I.ok.z6
theorem Inv.stack (I:Inv X pins Z H s):s.heap.FunFrames X.base X.stack:=by
 rcases I.ok.YR with e|⟨e,hf⟩
 ·rw [e];exact I.z6
 ·rw [e];obtain ⟨m,hn,_⟩:=I.loc;refine .cons (by rw [I.ok.kind];decide) hf hn ?_ I.z6;exact OU (bz I.ok.RX I.ok.above)
theorem Inv.Mt (I:Inv X pins Z H s):∀ b∈Ov X.stack,b∈X.env.locals::X.fs:=λb hb=>by
 rcases I.ok.YR with e|⟨e,hf⟩
 ·rw [e] at hb;exact ak _ hb
 ·rw [e] at hb;unfold Ov at hb;rw [yT,hf] at hb;exact hb
theorem Inv.Np (I:Inv X pins Z H s):∀ b∈Ov X.stack,H b=none:=λb hb=>by
 rcases ax.mp (I.Mt b hb) with e|hb
 ·rw [e];exact I.free
 ·obtain ⟨_,o,ho,_⟩:=I.ok.z6.mem hb;exact I.base.free b o ho (I.ok.U7 b hb) λz=>I.ok.On b z hb
theorem Inv.step {g':Array xj}{t':Nat}{d':Drawn}{ch:List af}(I:Inv X pins Z H s)
  (hch:∀ b∈ch,(b∈X.ex\/X.s₀.heap.objs.size<=b)/\b≠X.env.locals/\(∀ x c,X.env.cells.lookup x=some c->c≠b)/\∀ p∈X.pn++pins,p.1≠b)
  (keep:∀ b o,b≠X.env.locals->b∉X.fs->b∉ch->s.heap.get? b=some o->H b=none->h'.get? b=some o)
  (slot:∀ b o,b≠X.env.locals->b∈X.fs->b∉ch->s.heap.get? b=some o->H b=none->∃ sl,h'.get? b=some { o with slots:=sl }) (free:∀ b o,b∉ch->s.heap.get? b=some o->H b=none->H' b=none)
  (there:∀ b o,b∉ch->s.heap.get? b=some o->∃ o',h'.get? b=some o')
  (Fe:∀ b xs,H b=some (.tup xs)->H' b=some (.tup xs)) (DQ:∀ b o u,H b=some (.frz o u)->H' b=some (.frz o u)) (DP:∀ b ps,H b=some (.tbl ps)->∃ more,H' b=some (.tbl (ps++more)))
  (ns:∀ m,s.heap.Ns X.env.locals m->h'.Ns X.env.locals m) (fD:tS X.prog X.w H' h') (hg:yH g') :
  Inv X pins Z H' { s with heap:=h',gens:=g',drawn:=d',toks:=t' }:=by
 have neL:∀ b o,X.s₀.heap.get? b=some o->b≠X.env.locals:=λb o e=>bf (br (aL e) I.ok.above)
 have neC:∀ b o,X.s₀.heap.get? b=some o->b∉X.ex->b∉ch:=λb o e hx hb=>by
  rcases (hch b hb).1 with z|z
  ·exact hx z
  ·exact absurd (br (aL e) z) (fu _)
 have cellK:∀ x c,X.env.cells.lookup x=some c->∀ v,s.heap.IsCell c v->h'.IsCell c v:=λx c e v ⟨o,ho,hd⟩=>by
  have nch:c∉ch:=λz=>(hch c z).2.2.1 x c e rfl
  by_cases hc:c∈X.fs
  ·obtain ⟨sl,q⟩:=slot c o (I.WU x c e) hc nch ho (I.uT x c e);exact ⟨_,q,hd⟩
  ·exact ⟨o,keep c o (I.WU x c e) hc nch ho (I.uT x c e),hd⟩
 refine ⟨I.ok,I.os,hg,⟨λb o e n hb hx=>?_,λb o e n hb hx=>?_,λb o e n hx=>?_,λb o e hx=>?_,λb xs e=>Fe b xs (I.base.Fe b xs e),λb o xs e=>DQ b o xs (I.base.DQ b o xs e),λb ps e=>?_⟩,?_,λx c e=>?_,?_,λx c e=>?_,λp hp=>?_,fD,I.len⟩
 ·exact keep b o (neL b o e) hb (neC b o e hx) (I.base.keep b o e n hb hx) (I.base.free b o e n hx)
 ·obtain ⟨sl,e1⟩:=I.base.slot b o e n hb hx;obtain ⟨sl',e2⟩:=slot b _ (neL b o e) hb (neC b o e hx) e1 (I.base.free b o e n hx);exact ⟨sl',e2⟩
 ·obtain ⟨o',e1⟩:=I.base.there b o e hx;exact free b o' (neC b o e hx) e1 (I.base.free b o e n hx)
 ·obtain ⟨o',e1⟩:=I.base.there b o e hx;exact there b o' (neC b o e hx) e1
 ·obtain ⟨m1,e1⟩:=I.base.DP b ps e;obtain ⟨m2,e2⟩:=DP b _ e1;exact ⟨m1++m2,by rw [e2,z9]⟩
 ·obtain ⟨m,hn,hl⟩:=I.loc;refine ⟨m,ns m hn,λi x v e1 e2 e3=>?_⟩;obtain ⟨u,r,l⟩:=hl i x v e1 e2 e3;refine ⟨u,r,?_⟩
  rcases l with l|⟨k,c,e,z⟩
  ·exact .inl l
  ·exact .inr ⟨k,c,e,cellK x c e _ z⟩
 ·obtain ⟨v,z⟩:=I.cell x c e;exact ⟨v,cellK x c e v z⟩
 ·obtain ⟨m,⟨o,_,_,ho,_⟩,_⟩:=I.loc;exact free _ o (λz=>(hch _ z).2.1 rfl) ho I.free
 ·obtain ⟨v,o,ho,hd⟩:=I.cell x c e;exact free c o (λz=>(hch c z).2.2.1 x c e rfl) ho (I.uT x c e)
 ·obtain ⟨e,n,ne,nf,d⟩:=I.pin p hp;have nch:p.1∉ch:=λz=>(hch p.1 z).2.2.2 p hp rfl;exact ⟨keep p.1 p.2 ne nf nch e n,free p.1 p.2 nch e n,ne,nf,d⟩
theorem Inv.un {t':Nat}(I:Inv X pins Z H s) (u:Un X.fs [] H H' s.heap h') (fD:tS X.prog X.w H' h'):Inv X pins Z H' { s with heap:=h',toks:=t' }:=by
 obtain ⟨m,⟨o,es,ep,ho,r⟩,_⟩:=id I.loc;obtain ⟨sl,hL⟩:=u.any ho I.free (by simp)
 exact I.step (g':=s.gens) (d':=s.drawn) (ch:=[]) (λ_ z=>nomatch z) (λb o _ hb _ e n=>u.keep b o e n hb (by simp)) (λb o _ hb _ e n=>u.slot b o e n hb (by simp)) (λb o _ e n=>u.free b o e n (by simp)) (λb o _ e=>u.there b o e (by simp)) u.Fe u.DQ u.DP (λm' hm=>by
  obtain ⟨o',es',ep',ho',r'⟩:=hm;rw [ho] at ho';cases ho'
  exact ⟨_,es',ep',hL,r'⟩) fD I.bare
theorem Inv.call {g':Array xj}{t':Nat}{d':Drawn}{ch:List af}(I:Inv X pins Z H s) (u:Un (Ov X.stack) ch H H' s.heap h') (fD:tS X.prog X.w H' h') (hg:yH g')
  (hch:∀ b∈ch,(b∈X.ex\/X.s₀.heap.objs.size<=b)/\b≠X.env.locals/\(∀ x c,X.env.cells.lookup x=some c->c≠b)/\∀ p∈X.pn++pins,p.1≠b) :
  Inv X pins Z H' { s with heap:=h',gens:=g',drawn:=d',toks:=t' }:=by
 obtain ⟨m,⟨o,es,ep,ho,r⟩,_⟩:=id I.loc;obtain ⟨sl,hL⟩:=u.any ho I.free λz=>(hch _ z).2.1 rfl
 exact I.step (ch:=ch) hch (λb o hL hb hc e n=>u.keep b o e n (λz=>(ax.mp (I.Mt b z)).elim hL hb) hc) (λb o _ _ hc e n=>u.any e n hc) (λb o hc e n=>u.free b o e n hc) (λb o hc e=>u.there b o e hc) u.Fe u.DQ u.DP (λm' hm=>by
  obtain ⟨o',es',ep',ho',r'⟩:=hm;rw [ho] at ho';cases ho'
  exact ⟨_,es',ep',hL,r'⟩) fD hg
theorem Inv.turned {t':Nat}{it:af}(I:Inv X pins Z H s) (k:∀ b o,b≠it->s.heap.get? b=some o->h'.get? b=some o) (hn:H it=none) (hL:it≠X.env.locals)
  (h1:it∈X.ex\/X.s₀.heap.objs.size<=it) (h2:∀ x c,X.env.cells.lookup x=some c->c≠it) (h3:∀ p∈X.pn++pins,p.1≠it):Inv X pins Z H { s with heap:=h',toks:=t' }:=by
 have nit:∀ b u,H b=some u->b≠it:=λb u e z=>by rw [z,hn] at e;cases e
 refine I.step (g':=s.gens) (d':=s.drawn) (ch:=[it]) (λb hb=>?_) (λb o _ _ hc e _=>k b o (λz=>hc (by simp [z])) e) (λb o _ _ hc e _=>⟨o.slots,k b o (λz=>hc (by simp [z])) e⟩) (λ_ _ _ _ n=>n)
  (λb o hc e=>⟨o,k b o (λz=>hc (by simp [z])) e⟩) (λ_ _ e=>e) (λ_ _ _ e=>e) (λb ps e=>⟨#[],by rw [e];simp⟩) (λm hm=>?_) (λb u e=>?_) I.bare
 ·have e:b=it:=by simpa using hb
  subst e;exact ⟨h1,hL,h2,h3⟩
 ·obtain ⟨o,es,ep,ho,r⟩:=hm;exact ⟨o,es,ep,k _ o (Ne.symm hL) ho,r⟩
 ·refine (I.fD b u e).Bb (λc v hc q=>k c v ?_ q) (λ_ q=>q) λ_ _ q=>q
  rcases hc with z|z
  ·rw [z];exact nit b u e
  ·exact nit c _ z
theorem Inv.tok (I:Inv X pins Z H s) (t:Nat):Inv X pins Z H { s with toks:=t }:=I.un (h':=s.heap) (t':=t) Un.refl I.fD
theorem Inv.kept {t':Nat}(I:Inv X pins Z H s) (k:∀ b u,s.heap.get? b=some u->h'.get? b=some u):Inv X pins Z H { s with heap:=h',toks:=t' }:=I.un (Un.kept k) (I.fD.kept k)
theorem Inv.laid {a:af}{o:HO}{t':Nat}(I:Inv X pins Z H s) (k:∀ b u,s.heap.get? b=some u->h'.get? b=some u) (hp:s.heap.objs.size<=a) (new:fP X.prog X.w (upd H a o) h' a o) :
  Inv X pins Z (upd H a o) { s with heap:=h',toks:=t' }:=I.un (Un.laid k hp (I.fD.fresh hp)) (I.fD.laid k hp new)
theorem Inv.write {x e:af}{o:HO}{t':Nat}(I:Inv X pins Z H s) (mu:XA (H x)) (he:e=x\/H e=some (.own x)) (k:∀ b u,b≠e->s.heap.get? b=some u->h'.get? b=some u) (heo:∃ u,h'.get? e=some u)
  (new:fP X.prog X.w (upd H x o) h' x o):Inv X pins Z (upd H x o) { s with heap:=h',toks:=t' }:=I.un (Un.write mu he k heo) (I.fD.write mu he k heo new)
theorem Inv.Nn {pins':List (af×gi)}(I:Inv X pins Z H s) (h:∀ p∈pins',s.heap.get? p.1=some p.2/\H p.1=none/\p.1≠X.env.locals/\p.1∉X.fs/\∀ v,p.2.data≠.cell v):Inv X pins' Z H s :=
 ⟨I.ok,I.os,I.bare,I.base,I.loc,I.cell,I.free,I.uT,λp hp=>(aQ.mp hp).elim (λz=>I.pin p (fE _ z)) (h p),I.fD,I.len⟩
theorem Im {N:List bu}(hN:N.Nodup) {i j:Nat}{x:bu}(a:N[i]?=some x) (b:N[j]?=some x):i=j:=by
 obtain ⟨h1,e1⟩:=aB.mp a;obtain ⟨h2,e2⟩:=aB.mp b;exact (List.getElem_inj hN).mp (e1.trans e2.symm)
theorem Fv {M:Model}{A:bY}{E:aj->ar->Prop}{i:Nat}{x:bu}{v:V}{u:aj}{Q:Unit->ar->Prop}(I:Inv X pins Z H s) (hN:X.N.Nodup) (hi:X.N[i]?=some x) (hx:Loc X.env.scope x) (r:RelV v u)
  (h:∀ s',Inv X pins (Z.set i (some v)) H s'->(∃ a,iL a s.heap s'.heap/\(a=X.env.locals\/X.env.cells.lookup x=some a))->Q () s') (hf:X.fn x=true\/X.env.scope.names.lookup x=some .local:=by first|exact .inl rfl|exact .inr rfl|assumption):aK M A (storeName X.env x u) Q E s:=by
 obtain ⟨m,hn,hl⟩:=id I.loc
 have hcls:(X.env.scope.kind == .class || (X.env.scope.kind == .module && X.env.locals != X.env.globals))=false:=by rw [I.ok.kind];rfl
 have hiσ:i<Z.length:=by rw [I.len];exact (aB.mp hi).1
 have WU:=I.WU
 have tracked:∀ {a:af}{h':cm},(∃ o,s.heap.get? a=some o/\H a=none)->iL a s.heap h'->tS X.prog X.w H h':=λ{a h'} ha hs b ob e=>by
  obtain ⟨_,_,hfree⟩:=ha;refine (I.fD b ob e).Bb (λc w' hc q=>(hs.2 c ?_).trans q) (λ_ q=>q) λ_ _ q=>q;rintro rfl
  rcases hc with rfl|hc
  ·rw [hfree] at e;cases e
  ·rw [hfree] at hc;cases hc
 rcases hx with hk|hk
 ·refine wpAny_storeName_local hk hn (λh' hn' hs=>?_) hcls;obtain ⟨oL,_,_,hoL,_⟩:=id hn;refine h _ ⟨I.ok,I.os,I.bare,⟨λb o e n hb hx=>?_,λb o e n hb hx=>?_,I.base.free,λb o e hx=>?_,I.base.Fe,I.base.DQ,I.base.DP⟩,⟨_,hn',λj y v' e1 e2 e3=>?_⟩,λy c e=>?_,I.free,I.uT,λp hp=>?_,tracked ⟨oL,hoL,I.free⟩ hs,by simpa using I.len⟩ ⟨_,hs,.inl rfl⟩
  ·exact (hs.2 b (bf (br (aL e) I.ok.above))).trans (I.base.keep b o e n hb hx)
  ·obtain ⟨sl,e1⟩:=I.base.slot b o e n hb hx;exact ⟨sl,(hs.2 b (bf (br (aL e) I.ok.above))).trans e1⟩
  ·obtain ⟨o',e1⟩:=I.base.there b o e hx;exact ⟨o',(hs.2 b (bf (br (aL e) I.ok.above))).trans e1⟩
  ·by_cases hj:j=i
   ·subst hj;rw [hi] at e1;cases e1;rw [nT hiσ] at e2;cases e2;exact ⟨u,r,.inl ⟨hk,by simp⟩⟩
   ·rw [xt (Ne.symm hj)] at e2;obtain ⟨u',r',q⟩:=hl j y v' e1 e2 e3;refine ⟨u',r',?_⟩
    rcases q with ⟨k,e⟩|⟨k,c,e,z⟩
    ·refine .inl ⟨k,?_⟩;have:y≠x:=λe=>hj (Im hN e1 (e▸hi));simp [this,e]
    ·exact .inr ⟨k,c,e,z.sameBut hs (WU y c e)⟩
  ·obtain ⟨w',z⟩:=I.cell y c e;exact ⟨w',z.sameBut hs (WU y c e)⟩
  ·obtain ⟨e,n,ne,nf,d⟩:=I.pin p hp;exact ⟨(hs.2 p.1 ne).trans e,n,ne,nf,d⟩
 ·have hfn:X.fn x=true:=by
   rcases hf with z|z
   ·exact z
   ·rw [z] at hk;cases hk
  obtain ⟨c,hc⟩:=I.ok.has x (.inl hk);obtain ⟨w',z⟩:=I.cell x c hc;refine wpAny_storeName_cell I.ok.kind hk hc z (λh' hc' hs=>?_);obtain ⟨oc,hoc,hocd⟩:=id z;refine h { s with heap:=h' } ⟨I.ok,I.os,I.bare,⟨λb o e n hb hx=>?_,λb o e n hb hx=>?_,I.base.free,λb o e hx=>?_,I.base.Fe,I.base.DQ,I.base.DP⟩,⟨m,hn.sameBut hs (Ne.symm (WU x c hc)),λj y v' e1 e2 e3=>?_⟩,λy c' e=>?_,I.free,I.uT,λp hp=>?_,tracked ⟨oc,hoc,I.uT x c hc⟩ hs,by simpa using I.len⟩ ⟨c,hs,.inr hc⟩
  ·exact (hs.2 b (bf (br (aL e) (I.ok.Xp x c hfn hc)))).trans (I.base.keep b o e n hb hx)
  ·obtain ⟨sl,e1⟩:=I.base.slot b o e n hb hx;exact ⟨sl,(hs.2 b (bf (br (aL e) (I.ok.Xp x c hfn hc)))).trans e1⟩
  ·obtain ⟨o',e1⟩:=I.base.there b o e hx;exact ⟨o',(hs.2 b (bf (br (aL e) (I.ok.Xp x c hfn hc)))).trans e1⟩
  ·by_cases hj:j=i
   ·subst hj;rw [hi] at e1;cases e1;rw [nT hiσ] at e2;cases e2;exact ⟨u,r,.inr ⟨.inl hk,c,hc,hc'⟩⟩
   ·rw [xt (Ne.symm hj)] at e2;obtain ⟨u',r',q⟩:=hl j y v' e1 e2 e3;refine ⟨u',r',?_⟩
    rcases q with q|⟨k,c',e,z'⟩
    ·exact .inl q
    ·refine .inr ⟨k,c',e,z'.sameBut hs ?_⟩;rintro rfl;exact hj (Im hN e1 (I.ok.inj _ _ _ e hc▸hi))
  ·by_cases hcc:c'=c
   ·subst hcc;exact ⟨_,hc'⟩
   ·obtain ⟨w2,z2⟩:=I.cell y c' e;exact ⟨w2,z2.sameBut hs hcc⟩
  ·obtain ⟨e,n,ne,nf,d⟩:=I.pin p hp;refine ⟨(hs.2 p.1 ?_).trans e,n,ne,nf,d⟩;intro q;rw [q,hoc] at e;have q':oc=p.2:=a7 e;exact d w' (by rw [← q'];exact hocd)
theorem tY {M:Model}{A:bY}{E:aj->ar->Prop}{i:Nat}{x:bu}{v:V}{u:aj}{Q:Unit->ar->Prop}(I:Inv X pins Z H s) (hN:X.N.Nodup) (hi:X.N[i]?=some x) (hx:Loc X.env.scope x) (r:RelV v u)
  (h:∀ s',Inv X pins (Z.set i (some v)) H s'->Q () s') (hf:X.fn x=true\/X.env.scope.names.lookup x=some .local:=by first|exact .inl rfl|exact .inr rfl|assumption):aK M A (storeName X.env x u) Q E s :=
 Fv I hN hi hx r (λs' I' _=>h s' I') hf
theorem Inv.YO {s':ar}{ch:List af}(I:Inv X pins Z H s) (ho:s'.os=s.os) (u:Un (Ov X.stack) ch H H' s.heap s'.heap) (fD:tS X.prog X.w H' s'.heap) (hg:yH s'.gens)
  (hch:∀ b∈ch,(b∈X.ex\/X.s₀.heap.objs.size<=b)/\b≠X.env.locals/\(∀ x c,X.env.cells.lookup x=some c->c≠b)/\∀ p∈X.pn++pins,p.1≠b):Inv X pins Z H' s':=by
 obtain ⟨h',g',d',t',o'⟩:=s';have e:o'=s.os:=ho;subst e;exact I.call (g':=g') (t':=t') (d':=d') u fD hg hch
end
abbrev XK:=aj->Option af->Hp->Prop
abbrev St:=List (Option V)
abbrev VK:=V->Hp->Prop
abbrev TE:=St->Hp->VK->Prop
abbrev TT:=St->Hp->(Bool->Hp->Prop)->Prop
abbrev TA:=St->Hp->(List V->Hp->Prop)->Prop
structure tN where
 nx:St->Hp->Prop
 rt:VK
 bk:St->Hp->Prop:=λ_ _=>False
 ct:St->Hp->Prop:=λ_ _=>False
abbrev TS:=tN->St->Hp->Prop
def EP (X:Cx) (pins:List (af×gi)) (Z:St) (Q:VK) (u:aj) (s':ar):Prop:=∃ v H',Inv X pins Z H' s'/\RelV v u/\Q v H'
def TP (X:Cx) (pins:List (af×gi)) (Z:St) (Q:Bool->Hp->Prop) (b:Bool) (s':ar):Prop:=∃ H',Inv X pins Z H' s'/\Q b H'
def AP (X:Cx) (pins:List (af×gi)) (Z:St) (Q:List V->Hp->Prop) (us:List aj) (s':ar):Prop:=∃ vs H',Inv X pins Z H' s'/\Vals vs us/\Q vs H'
def SP (X:Cx) (pins:List (af×gi)) (D:tN) (f:Flow) (s':ar):Prop :=
 match f with
 | .next=>∃ σ' H',Inv X pins σ' H' s'/\D.nx σ' H'
 | .brk=>∃ σ' H',Inv X pins σ' H' s'/\D.bk σ' H'
 | .cont=>∃ σ' H',Inv X pins σ' H' s'/\D.ct σ' H'
 | .ret u=>∃ v σ' H',Inv X pins σ' H' s'/\RelV v u/\D.rt v H'
def PE (X:Cx) (e:Expr) (t:TE):Prop :=
 ∀ (pins:List (af×gi)) (s:ar) (Z:St) (H:Hp) (Q:VK),Inv X pins Z H s->t Z H Q->aK (aP X.prog X.w) X.A (gM e X.env) (EP X pins Z Q) X.xe s
def PT (X:Cx) (e:Expr) (t:TT):Prop :=
 ∀ (pins:List (af×gi)) (s:ar) (Z:St) (H:Hp) (Q:Bool->Hp->Prop),Inv X pins Z H s->t Z H Q->aK (aP X.prog X.w) X.A (isTrue e X.env (gM e X.env)) (TP X pins Z Q) X.xe s
def PW (X:Cx) (e:Expr) (t:TT):Prop :=
 ∀ (whole:Uj aj) (pins:List (af×gi)) (s:ar) (Z:St) (H:Hp) (Q:Bool->Hp->Prop),Inv X pins Z H s->t Z H Q->aK (aP X.prog X.w) X.A (isTrue e X.env whole) (TP X pins Z Q) X.xe s
theorem PW.pt {X:Cx}{e:Expr}{t:TT}(h:PW X e t):PT X e t:=h _
def PA (X:Cx) (es:List Expr) (t:TA):Prop :=
 ∀ (pos:oZ) (pins:List (af×gi)) (s:ar) (Z:St) (H:Hp) (Q:List V->Hp->Prop),Inv X pins Z H s->t Z H Q->aK (aP X.prog X.w) X.A (Uk (jx pos (bR es X.env))) (AP X pins Z Q) X.xe s
def PS (X:Cx) (st:dU) (t:TS):Prop :=
 ∀ (pins:List (af×gi)) (s:ar) (Z:St) (H:Hp) (D:tN),Inv X pins Z H s->t D Z H->aK (aP X.prog X.w) X.A (exec st X.env) (SP X pins D) X.xe s
def Mm (X:Cx) (st:List dU) (t:TS):Prop :=
 ∀ (pins:List (af×gi)) (s:ar) (Z:St) (H:Hp) (D:tN),Inv X pins Z H s->t D Z H->aK (aP X.prog X.w) X.A (execs st X.env) (SP X pins D) X.xe s
theorem iG {α:Type} {t:Uj α}{Q Q':α->ar->Prop}{M:Model}{A:bY}{E:aj->ar->Prop}{s:ar}(h:aK M A t Q E s) (hQ:∀ a s,Q a s->Q' a s):aK M A t Q' E s:=dZ h hQ λ_ _ x=>x
end L2
namespace L2
section
variable {X:Cx}
def aw (i:Nat):TE:=λZ H Q=>∃ v,Z[i]?=some (some v)/\Q v H
def tC (v:V):TE:=λ_ H Q=>Q v H
theorem Vu {i:Nat}{x:bu}{pos:oZ}(hN:X.N[i]?=some x) (hv:Za X.env.scope x) (hd:(x == ("__debug__":bu))=false:=by decide) (hcd:(x == ("__classdict__":bu))=false:=by decide):PE X (.Name x pos) (aw i):=by
 intro pins s Z H Q I h;obtain ⟨v,e,h⟩:=h;obtain ⟨m,hn,hl⟩:=I.loc;obtain ⟨u,r,l⟩:=hl i x v hN e hv
 have fin:EP X pins Z Q u s:=⟨v,H,I,r,h⟩
 rcases l with ⟨hk,hm⟩|⟨hk,c,hc,hcell⟩
 ·exact yI (rF I.ok.kind hk hn hm fin) hd
 ·rcases hk with hk|hk
  ·exact yI (Xs I.ok.kind hk hc hcell fin) hd
  ·exact yI (Xt I.ok.kind hk hc hcell fin hcd) hd
theorem aU {i j pos}:PE X (.Constant (.int i) j pos) (tC (.int i)):=λ_ _ _ H _ I h=>wpAny_Constant_int ⟨.int i,H,I.tok _,⟨_,rfl⟩,h⟩
theorem n6 {b j pos}:PE X (.Constant (.bool b) j pos) (tC (.bl b)):=λ_ _ _ H _ I h=>Constant_bool ⟨.bl b,H,I,rfl,h⟩
theorem O8 {j pos}:PE X (.Constant .none j pos) (tC .non):=λ_ _ _ H _ I h=>R3 ⟨.non,H,I,rfl,h⟩
theorem BH {x j pos}:PE X (.Constant (.str x) j pos) (tC (.str x)):=λ_ _ _ H _ I h=>Calls.Constant_str ⟨.str x,H,I.tok _,⟨_,rfl⟩,h⟩
def Gl (X:Cx) (x:bu):Prop:=X.env.kindOf x=some .globalImplicit
theorem Gd {E:aj->ar->Prop}{pins:List (af×gi)}{s:ar}{Z:St}{H:Hp}{x:bu}{u:aj}{pos:oZ}{Q:aj->ar->Prop}(I:Inv X pins Z H s) (hg:Gl X x) (hm:X.mg x=some u) (h:Q u s)
  (hd:(x == ("__debug__":bu))=false:=by decide):aK (aP X.prog X.w) X.A (gM (.Name x pos) X.env) Q E s :=
 HK I.ok.kind hg (Calls.loadGlobal_global (by rw [I.ok.glob];exact I.mod.glob.keeps I.bk) hm h) hd
theorem pU {E:aj->ar->Prop}{pins:List (af×gi)}{s:ar}{Z:St}{H:Hp}{x:bu}{u:aj}{pos:oZ}{Q:aj->ar->Prop}(I:Inv X pins Z H s) (hg:Gl X x) (hm:X.mg x=none) (hv:dw x=some u) (h:Q u s)
  (hn:x≠"__name__":=by decide) (hd:(x == ("__debug__":bu))=false:=by decide):aK (aP X.prog X.w) X.A (gM (.Name x pos) X.env) Q E s:=by
 obtain ⟨mb,h1,h2⟩:=I.mod.blt;exact HK I.ok.kind hg (Calls.loadGlobal_builtin (by rw [I.ok.glob];exact I.mod.glob.keeps I.bk) hm (by rw [I.ok.blt];exact h1.keeps I.bk) ((h2 x hn).trans hv) h) hd
theorem SF {x:bu}{v:V}{u:aj}{pos:oZ}(hg:Gl X x) (hm:X.mg x=some u) (r:RelV v u) (hd:(x == ("__debug__":bu))=false:=by decide):PE X (.Name x pos) (tC v) :=
 λ_ _ _ H _ I h=>Gd I hg hm ⟨v,H,I,r,h⟩ hd
theorem nQ {x:bu}{v:V}{u:aj}{pos:oZ}(hg:Gl X x) (hm:X.mg x=none) (hv:dw x=some u) (r:RelV v u) (hn:x≠"__name__":=by decide) (hd:(x == ("__debug__":bu))=false:=by decide):PE X (.Name x pos) (tC v) :=
 λ_ _ _ H _ I h=>pU I hg hm hv ⟨v,H,I,r,h⟩ hn hd
variable {a b:Expr}{ta tb:TE}{pos:oZ}
def PC (X:Cx) (op:Sr) (a b:Expr) (t:TE):Prop :=
 ∀ (pins:List (af×gi)) (s:ar) (Z:St) (H:Hp) (Q:VK),Inv X pins Z H s->t Z H Q ->
  aK (aP X.prog X.w) X.A (gM a X.env) (λv s₁=>aK (aP X.prog X.w) X.A (gM b X.env) (λu s₂=>aK (aP X.prog X.w) X.A (dG op v u) (EP X pins Z Q) X.xe s₂) X.xe s₁) X.xe s
theorem Io (b:Expr) {op:Sr}(h:op≠.In) (h2:op≠.NotIn):lz op b=false:=by
 have e1:(op == CmpOp.In)=false:=by cases op<;>first|rfl|exact absurd rfl h
 have e2:(op == CmpOp.NotIn)=false:=by cases op<;>first|rfl|exact absurd rfl h2
 cases b<;>simp [lz,e1,e2]
def Vv (ta:TE):TE:=λZ H Q=>ta Z H λx H1=>Q (.bl (decide (x=.non))) H1
def MD (ta:TE):TE:=λZ H Q=>ta Z H λx H1=>Q (.bl (!decide (x=.non))) H1
theorem RelV.Ki {x:V}{v:aj}(r:RelV x v):(v == eJ)=decide (x=.non):=by
 cases x with
 | non=>cases r;rfl
 | bl _=>cases r;rfl
 | int _=>obtain ⟨t,rfl⟩:=r;rfl
 | str _=>obtain ⟨t,rfl⟩:=r;rfl
 | byt _=>obtain ⟨t,rfl⟩:=r;rfl
 | flt _=>obtain ⟨t,rfl⟩:=r;rfl
 | ref _=>cases r;rfl
 | ty _=>cases r;rfl
theorem Vw {j pos'} (ha:PE X a ta):PC X .Is a (.Constant .none j pos') (Vv ta):=by
 intro pins s Z H Q I h;refine iG (ha pins s Z H _ I h) λv s1 ⟨x,H1,I1,r1,q1⟩=>?_;exact R3 (is_none_gen ⟨.bl _,H1,I1,by rw [r1.Ki];rfl,q1⟩)
theorem ME {j pos'} (ha:PE X a ta):PC X .IsNot a (.Constant .none j pos') (MD ta):=by
 intro pins s Z H Q I h;refine iG (ha pins s Z H _ I h) λv s1 ⟨x,H1,I1,r1,q1⟩=>?_;exact R3 (isnot_none_gen ⟨.bl _,H1,I1,by rw [r1.Ki];rfl,q1⟩)
def tB (t:TE):TT:=λZ H Q=>t Z H λx H1=>∃ c,x=.bl c/\Q c H1
theorem O9 {op:Sr}{t:TE}(h:PC X op a b t) (h1:lz op b=false:=by first|exact Io _ (by decide) (by decide)|rfl):PE X (.Compare a [op] [b] pos) t:=λpins s Z H Q I hw=>wpAny_Compare1 (h pins s Z H Q I hw) h1
theorem Pa {op:Sr}{t:TE}(h:PC X op a b t) (h1:lz op b=false:=by first|exact Io _ (by decide) (by decide)|rfl):PT X (.Compare a [op] [b] pos) (tB t):=by
 intro pins s Z H Q I hw;refine Vb (iG (h pins s Z H _ I hw) λv s1 h1=>iG h1 λu s2 h2=>iG h2 λc s3 ⟨x,H1,I1,r1,q1⟩=>?_) h1;obtain ⟨d,rfl,q⟩:=q1;cases r1;exact lQ ⟨H1,I1,q⟩
variable {tA tB':TT}{rest:List Expr}
def Ip (t u:TT):TT:=λZ H Q=>t Z H λc H1=>if c=true then u Z H1 Q else Q false H1
def Sn (t u:TT):TT:=λZ H Q=>t Z H λc H1=>if c=true then Q true H1 else u Z H1 Q
def tZ (t:TT):TT:=λZ H Q=>t Z H λc H1=>Q (!c) H1
theorem u6 (ha:PT X a tA):PW X (.BoolOp .And [a] pos) tA:=by
 intro wh pins s Z H Q I h;refine isTrue_and (iG (ha pins s Z H Q I h) λc s1 e=>?_)
 cases c with
 | true=>exact isTrue_and_nil e
 | false=>exact e
theorem BI (ha:PT X a tA):PW X (.BoolOp .Or [a] pos) tA:=by
 intro wh pins s Z H Q I h;refine isTrue_or (iG (ha pins s Z H Q I h) λc s1 e=>?_)
 cases c with
 | false=>exact isTrue_or_nil e
 | true=>exact e
theorem yX (ha:PT X a tA) (hb:PW X (.BoolOp .And (b::rest) pos) tB'):PW X (.BoolOp .And (a::b::rest) pos) (Ip tA tB'):=by
 intro wh pins s Z H Q I h;refine isTrue_and (iG (ha pins s Z H _ I h) λc s1 ⟨H1,I1,q1⟩=>?_)
 cases c with
 | true=>exact hb wh pins s1 Z H1 Q I1 q1
 | false=>exact ⟨H1,I1,q1⟩
theorem Ag (ha:PT X a tA) (hb:PW X (.BoolOp .Or (b::rest) pos) tB'):PW X (.BoolOp .Or (a::b::rest) pos) (Sn tA tB'):=by
 intro wh pins s Z H Q I h;refine isTrue_or (iG (ha pins s Z H _ I h) λc s1 ⟨H1,I1,q1⟩=>?_)
 cases c with
 | true=>exact ⟨H1,I1,q1⟩
 | false=>exact hb wh pins s1 Z H1 Q I1 q1
theorem lS (ha:PT X a tA):PT X (.UnaryOp .Not a pos) (tZ tA):=by
 intro pins s Z H Q I h;exact isTrue_not (ha pins s Z H (λc H1=>Q (!c) H1) I h)
def BJ (ta tb:TE):TE:=λZ H Q=>ta Z H λx H1=>∃ c,x=.bl c/\if c=true then tb Z H1 Q else Q (.bl false) H1
def Pb (ta:TE):TE:=λZ H Q=>ta Z H λx H1=>∃ c,x=.bl c/\Q (.bl (!c)) H1
theorem BK {op} {t:TE}(h:PE X a t):PE X (.BoolOp op [a] pos) t:=λpins s Z H Q I hw=>BoolOp_one (h pins s Z H Q I hw)
theorem BL (ha:PE X a ta) (hb:PE X (.BoolOp .And (b::rest) pos) tb):PE X (.BoolOp .And (a::b::rest) pos) (BJ ta tb):=by
 intro pins s Z H Q I h;refine BoolOp_and (iG (ha pins s Z H _ I h) λv s1 ⟨x,H1,I1,r1,q1⟩=>?_);obtain ⟨c,rfl,q1⟩:=q1;cases r1;refine lQ ?_
 cases c with
 | true=>exact hb pins s1 Z H1 Q I1 q1
 | false=>exact ⟨.bl false,H1,I1,rfl,q1⟩
theorem Vx (ha:PE X a ta):PE X (.UnaryOp .Not a pos) (Pb ta):=by
 intro pins s Z H Q I h;refine UnaryOp_ (iG (ha pins s Z H _ I h) λv s1 ⟨x,H1,I1,r1,q1⟩=>?_);obtain ⟨c,rfl,q1⟩:=q1;cases r1;exact not_of (lQ ⟨.bl (!c),H1,I1,rfl,q1⟩)
def Xm (t:TT) (ta tb:TE):TE:=λZ H Q=>t Z H λc H1=>if c=true then ta Z H1 Q else tb Z H1 Q
theorem xD {c:Expr}(hc:PT X c tA) (ha:PE X a ta) (hb:PE X b tb):PE X (.IfExp c a b pos) (Xm tA ta tb):=by
 intro pins s Z H Q I h;refine wpAny_IfExp (iG (hc pins s Z H _ I h) λd s1 ⟨H1,I1,q1⟩=>?_)
 cases d with
 | true=>exact ha pins s1 Z H1 Q I1 q1
 | false=>exact hb pins s1 Z H1 Q I1 q1
end
end L2
namespace L2
def de (K:aa) (H:Hp) (a:af) (xs:List V):Prop :=
 Rd H a (.lst xs) \/
  ∃ (o:gi) (its:Array aj) (n:Nat),K.lookup a=some o/\o.cls=.type "list"/\o.dict=none/\o.data=.seq its n/\its.size<=aY/\Vals xs its.toList
def mR (K:aa) (H:Hp) (a:af) (xs:List V):Prop :=
 Rd H a (.tup xs) \/
  ∃ (o:gi) (its:Array aj) (n:Nat),K.lookup a=some o/\o.cls=.type "tuple"/\o.data=.seq its n/\its.size<=aY/\Vals xs its.toList
def ZL:aj->Option V
 | .none=>some .non
 | .bool b=>some (.bl b)
 | .int i _=>some (.int i)
 | .str x _=>some (.str x)
 | .bytes b _=>some (.byt b)
 | .float b _=>some (.flt b)
 | .ref a=>some (.ref a)
 | .type n=>some (.ty n)
 | _=>none
theorem RelV.abs {x:V}{u:aj}(r:RelV x u):ZL u=some x:=by
 cases x with
 | non=>cases r;rfl
 | bl _=>cases r;rfl
 | int _=>obtain ⟨t,rfl⟩:=r;rfl
 | str _=>obtain ⟨t,rfl⟩:=r;rfl
 | byt _=>obtain ⟨t,rfl⟩:=r;rfl
 | flt _=>obtain ⟨t,rfl⟩:=r;rfl
 | ref _=>cases r;rfl
 | ty _=>cases r;rfl
theorem RelV.inj {x y:V}{u:aj}(r:RelV x u) (q:RelV y u):x=y:=a7 (r.abs.symm.trans q.abs)
theorem Vals.inj:∀ {xs ys:List V}{us:List aj},Vals xs us->Vals ys us->xs=ys
 | _,_,_,.nil,.nil=>rfl
 | _,_,_,.cons r t,.cons r' t'=>by rw [r.inj r',Vals.inj t t']
section
variable {X:Cx}{pins:List (af×gi)}{Z:St}{H:Hp}{s:ar}{a:af}{xs ys:List V}
theorem de.of {K:aa}(h:H a=some (.lst xs)):de K H a xs:=.inl (.inl h)
theorem mR.of {K:aa}(h:H a=some (.tup xs)):mR K H a xs:=.inl (.inl h)
theorem Inv.list (I:Inv X pins Z H s) (h:de X.K H a xs):∃ its:List aj,Vals xs its/\PlainL s.heap a its.toArray/\xs.length<=aY:=by
 rcases h with h|⟨o,its,n,hk,hc,hd,hs,hz,r⟩
 ·obtain ⟨z,its,n,r,e⟩:=h.ok I.fD;exact ⟨its,r,⟨_,n,e,rfl,rfl,rfl⟩,z⟩
 ·refine ⟨its.toList,r,⟨o,n,I.Bc a o hk,hc,hd,by simpa using hs⟩,?_⟩;have e:=r.length;simp only [aO] at e;lia
theorem Inv.tuple (I:Inv X pins Z H s) (h:mR X.K H a xs):∃ its:List aj,Vals xs its/\xi s.heap a its.toArray/\xs.length<=aY:=by
 rcases h with h|⟨o,its,n,hk,hc,hs,hz,r⟩
 ·obtain ⟨z,its,r,p⟩:=h.ok I.fD;exact ⟨its,r,p,z⟩
 ·refine ⟨its.toList,r,⟨o,I.Bc a o hk,hc,n,by simpa using hs⟩,?_⟩;have e:=r.length;simp only [aO] at e;lia
theorem Inv.RT (I:Inv X pins Z H s) (h:de X.K H a xs) (h':de X.K H a ys):xs=ys:=by
 obtain ⟨its,r,⟨o,n,e,_,_,d⟩,_⟩:=I.list h;obtain ⟨its',r',⟨o',n',e',_,_,d'⟩,_⟩:=I.list h';rw [e] at e';cases e';rw [d] at d'
 injection d' with d1 _
 have:its=its':=by simpa using congrArg Array.toList d1
 subst this;exact r.inj r'
theorem Inv.Oo (I:Inv X pins Z H s) (h:mR X.K H a xs) (h':mR X.K H a ys):xs=ys:=by
 obtain ⟨its,r,⟨o,e,_,n,d⟩,_⟩:=I.tuple h;obtain ⟨its',r',⟨o',e',_,n',d'⟩,_⟩:=I.tuple h';rw [e] at e';cases e';rw [d] at d'
 injection d' with d1 _
 have:its=its':=by simpa using congrArg Array.toList d1
 subst this;exact r.inj r'
end
abbrev Cx.Fi (X:Cx) (E:aj->ar->Prop):Cx:={ X with xe:=E }
abbrev Cx.WW (X:Cx):Cx:=X.Fi λ_ _=>False
theorem Cx.Ok.Fi {X:Cx}(ok:X.Ok) (E:aj->ar->Prop):(X.Fi E).Ok :=
 ⟨ok.mod,ok.kind,ok.glob,ok.blt,ok.above,ok.inj,ok.has,ok.Xp,ok.hd,ok.frames,ok.YR,ok.Zq,ok.bs,ok.RX,ok.Os,ok.On,ok.z6,ok.U7⟩
theorem Cx.Ok.uS {X:Cx}{E:aj->ar->Prop}(ok:(X.Fi E).Ok):X.Ok :=
 ⟨ok.mod,ok.kind,ok.glob,ok.blt,ok.above,ok.inj,ok.has,ok.Xp,ok.hd,ok.frames,ok.YR,ok.Zq,ok.bs,ok.RX,ok.Os,ok.On,ok.z6,ok.U7⟩
section
variable {X:Cx}{pins:List (af×gi)}{Z:St}{H:Hp}{s:ar}{E:aj->ar->Prop}
theorem Inv.Fi (I:Inv X pins Z H s) (E:aj->ar->Prop):Inv (X.Fi E) pins Z H s:=⟨I.ok.Fi E,I.os,I.bare,I.base,I.loc,I.cell,I.free,I.uT,I.pin,I.fD,I.len⟩
theorem Inv.uS (I:Inv (X.Fi E) pins Z H s):Inv X pins Z H s:=⟨I.ok.uS,I.os,I.bare,I.base,I.loc,I.cell,I.free,I.uT,I.pin,I.fD,I.len⟩
theorem SP.uS {D:tN}{f:Flow}{s':ar}(h:SP (X.Fi E) pins D f s'):SP X pins D f s':=by
 cases f with
 | next=>obtain ⟨σ',H',I,q⟩:=h;exact ⟨σ',H',I.uS,q⟩
 | brk=>obtain ⟨σ',H',I,q⟩:=h;exact ⟨σ',H',I.uS,q⟩
 | cont=>obtain ⟨σ',H',I,q⟩:=h;exact ⟨σ',H',I.uS,q⟩
 | ret u=>obtain ⟨v,σ',H',I,r,q⟩:=h;exact ⟨v,σ',H',I.uS,r,q⟩
theorem Mm.WW {st:List dU}{t:TS}(h:Mm X.WW st t):Mm X st t:=λpins s Z H D I hw =>
 dZ (h pins s Z H D (I.Fi _) hw) (λ_ _ q=>q.uS) λ_ _ z=>iO z
end
section
variable {X:Cx}{st:dU}{rest:List dU}{t u:TS}{e:Expr}{te:TE}{pos:oZ}
def fU:TS:=λD Z H=>D.nx Z H
def bZ (t u:TS):TS:=λD Z H=>t { D with nx:=u D } Z H
theorem cX:Mm X [] fU:=λ_ _ Z H _ I h=>yU ⟨Z,H,I,h⟩
theorem aE (h1:PS X st t) (h2:Mm X rest u):Mm X (st::rest) (bZ t u):=by
 intro pins s Z H D I h;refine wpAny_execs_cons (iG (h1 pins s Z H { D with nx:=u D } I h) λf s1 q=>?_)
 cases f with
 | next =>
  obtain ⟨σ',H',I',q⟩:=q
  exact h2 pins s1 σ' H' D I' q
 | ret v=>exact q
 | brk=>exact q
 | cont=>exact q
theorem aS (h1:PS X st t):Mm X [st] t:=by
 intro pins s Z H D I h;refine wpAny_execs_cons (iG (h1 pins s Z H D I h) λf s1 q=>?_)
 cases f with
 | next=>exact yU q
 | ret v=>exact q
 | brk=>exact q
 | cont=>exact q
theorem Inv.quiet {pins:List (af×gi)}{Z:St}{H:Hp}{s:ar}(I:Inv X pins Z H s):interactive X.env=false:=by simp [interactive,I.ok.kind]
def ir (te:TE):TS:=λD Z H=>te Z H λ_ H1=>D.nx Z H1
theorem dR (he:PE X e te) (hs:Kn e none pos.line X.env=pure false:=by rfl):PS X (.Expr e pos) (ir te):=by
 intro pins s Z H D I h;exact wpAny_Expr_any (iG (he pins s Z H _ I h) λv s1 ⟨x,H1,I1,r1,q1⟩=>⟨Z,H1,I1,q1⟩) I.quiet hs
def eY (te:TE):TS:=λD Z H=>te Z H D.rt
theorem cb (he:PE X e te):PS X (.Return (some e) pos) (eY te):=by
 intro pins s Z H D I h;exact wpAny_Return_some (iG (he pins s Z H _ I h) λv s1 ⟨x,H1,I1,r1,q1⟩=>⟨x,Z,H1,I1,r1,q1⟩)
def jw (c:TT) (t u:TS):TS:=λD Z H=>c Z H λb H1=>if b=true then t D Z H1 else u D Z H1
theorem f9 {c:Expr}{a b:List dU}{tc:TT}(hc:PT X c tc) (ha:Mm X a t) (hb:Mm X b u):PS X (.If c a b pos) (jw tc t u):=by
 intro pins s Z H D I h;refine wpAny_If (iG (hc pins s Z H _ I h) λd s1 ⟨H1,I1,q1⟩=>?_)
 cases d with
 | true=>exact ha pins s1 Z H1 D I1 q1
 | false=>exact hb pins s1 Z H1 D I1 q1
def t7:TS:=λ_ _ _=>False
theorem pV:PS X st t7:=λ_ _ _ _ _ _ h=>h.elim
end
abbrev TG:=V->St->Hp->(St->Hp->Prop)->Prop
abbrev SG:=List V->St->Hp->(St->Hp->Prop)->Prop
def PG (X:Cx) (target:Expr) (t:TG):Prop :=
 ∀ (pins:List (af×gi)) (s:ar) (Z:St) (H:Hp) (v:V) (u:aj) (Q:St->Hp->Prop),Inv X pins Z H s->RelV v u->t v Z H Q ->
  aK (aP X.prog X.w) X.A (Ko target X.env u) (λ_ s'=>∃ σ' H',Inv X pins σ' H' s'/\Q σ' H') X.xe s
def Zb (X:Cx) (ts:List Expr) (t:SG):Prop :=
 ∀ (pins:List (af×gi)) (s:ar) (Z:St) (H:Hp) (vs:List V) (us:List aj) (Q:St->Hp->Prop),Inv X pins Z H s->Vals vs us->t vs Z H Q ->
  aK (aP X.prog X.w) X.A (R5 ((yJ ts X.env).map (·.2)) us) (λ_ s'=>∃ σ' H',Inv X pins σ' H' s'/\Q σ' H') X.xe s
abbrev SH:=V->V->V->Hp->(Hp->Prop)->Prop
def SI (X:Cx) (t:SH):Prop :=
 ∀ (pins:List (af×gi)) (s:ar) (Z:St) (H:Hp) (o i v:V) (ov iv u:aj) (Q:Hp->Prop),Inv X pins Z H s->RelV o ov->RelV i iv->RelV v u->t o i v H Q ->
  aK (aP X.prog X.w) X.A (setItem ov iv u) (λ_ s'=>∃ H',Inv X pins Z H' s'/\Q H') X.xe s
abbrev Zc:=V->V->Hp->VK->Prop
def PIp (X:Cx) (op:HL) (t:Zc):Prop :=
 ∀ (pins:List (af×gi)) (s:ar) (Z:St) (H:Hp) (x y:V) (v u:aj) (Q:VK),Inv X pins Z H s->RelV x v->RelV y u->t x y H Q ->
  aK (aP X.prog X.w) X.A (Bz op v u) (EP X pins Z Q) X.xe s
section
variable {X:Cx}{pos:oZ}
def bJ (i:Nat):TG:=λv Z H Q=>Q (Z.set i (some v)) H
theorem SJ {i:Nat}{x:bu}(hN:X.N.Nodup) (hi:X.N[i]?=some x) (hx:Loc X.env.scope x) (hf:X.fn x=true\/X.env.scope.names.lookup x=some .local:=by first|exact .inl rfl|exact .inr rfl|assumption):PG X (.Name x pos) (bJ i):=by
 intro pins s Z H v u Q I r h;exact wpAny_assign_Name (tY I hN hi hx r (λs' I'=>⟨_,H,I',h⟩) hf)
def Iq:SG:=λvs Z H Q=>vs=[]/\Q Z H
def l7 (t:TG) (u:SG):SG:=λvs Z H Q=>∃ v r,vs=v::r/\t v Z H λσ' H'=>u r σ' H' Q
theorem u7:Zb X [] Iq:=by
 intro pins s Z H vs us Q I r h;obtain ⟨e,h⟩:=h;subst e;cases r;exact assignInOrder_nil ⟨Z,H,I,h⟩
theorem gb {e:Expr}{es:List Expr}{t:TG}{u:SG}(h1:PG X e t) (h2:Zb X es u)
  (hs:(yJ (e::es) X.env).map (·.2)=Ko e X.env::(yJ es X.env).map (·.2):=by rfl):Zb X (e::es) (l7 t u):=by
 intro pins s Z H vs us Q I r h;obtain ⟨v,vr,e1,h⟩:=h;subst e1
 cases r with
 | cons r rr =>
  rw [hs];refine Fj (iG (h1 pins s Z H _ _ _ I r h) λ_ s1 ⟨σ1,H1,I1,q1⟩=>?_);exact h2 pins s1 σ1 H1 _ _ Q I1 rr q1
def Ir (K:aa) (n:Nat) (t:SG):TG:=λv Z H Q=>∃ a xs,v=.ref a/\mR K H a xs/\xs.length=n/\t xs Z H Q
theorem yY {es:List Expr}{k:Nat}{t:SG}{n:Nat}(hc:X.calm=true) (h:Zb X es t)
  (hn:(yJ es X.env).length=n:=by rfl) (hst:(yJ es X.env).findIdx? (·.1)=none:=by rfl):PG X (.Tuple es k pos) (Ir X.K n t):=by
 intro pins s Z H v u Q I r hw;obtain ⟨a,xs,e1,hq,hl,hw⟩:=hw;subst e1;cases r;obtain ⟨its,rv,ht,hz⟩:=I.tuple hq;refine assign_Tuple_tuple (I.ok.hd hc) ht (by simp [hn,← hl,rv.length]) hst λh' hx=>?_;have I1:Inv X pins Z H { s with heap:=h' }:=I.kept (t':=s.toks) λb o e=>hx b o (bf (aL e)) e;exact h pins _ Z H xs _ Q I1 (by simpa using rv) hw
def Ge (to ti:TE) (t:SH):TG:=λv Z H Q=>to Z H λo H1=>ti Z H1 λi H2=>t o i v H2 λH3=>Q Z H3
theorem wg {o i:Expr}{to ti:TE}{t:SH}(ho:PE X o to) (hi:PE X i ti) (hs:SI X t)
  (ha:∀ v,Ko (.Subscript o i pos) X.env v=(do
   let ov ← nU [v] (gM o X.env)
   let iv ← nU [v,ov] (gM i X.env)
   BA pos
   nU [v,ov,iv] (setItem ov iv v)
   release [v,ov,iv] []):=by intro _;rfl):PG X (.Subscript o i pos) (Ge to ti t):=by
 intro pins s Z H v u Q I r h;rw [ha];refine ae (cF (iG (ho pins s Z H _ I h) λov s1 ⟨x,H1,I1,r1,q1⟩=>?_));refine ae (cF (iG (hi pins s1 Z H1 _ I1 q1) λiv s2 ⟨y,H2,I2,r2,q2⟩=>?_));refine ae (vD (ae (cF (iG (hs pins s2 Z H2 x y v ov iv u _ I2 r1 r2 r q2) λ_ s3 ⟨H3,I3,q3⟩=>?_))));exact wpAny_release ⟨Z,H3,I3,q3⟩
def eO (te:TE) (g:TG):TS:=λD Z H=>te Z H λx H1=>g x Z H1 D.nx
theorem t8 {tg e:Expr}{te:TE}{g:TG}(he:PE X e te) (hg:PG X tg g) (hs:swapsWithSole [tg] e pos.line X.env=pure false:=by rfl) (hw:swappedStores [tg] e X.env=pure none:=by rfl)
  (h1:(yJ [tg] X.env).map (·.2)=[Ko tg X.env]:=by rfl):PS X (.Assign [tg] e pos) (eO te g):=by
 intro pins s Z H D I h;refine wpAny_Assign_stores (iG (he pins s Z H _ I h) λv s1 ⟨x,H1,I1,r1,q1⟩=>?_) hs hw;rw [h1];exact iG (hg pins s1 Z H1 x v _ I1 r1 q1) λ_ s2 q=>q
theorem KL {i:Nat}{x:bu}{e:Expr}{te:TE}{pos':oZ}(hN:X.N.Nodup) (hi:X.N[i]?=some x) (hx:Loc X.env.scope x) (he:PE X e te) (hs:Kn e (some (.Name x pos')) pos.line X.env=pure false:=by rfl) (hf:X.fn x=true\/X.env.scope.names.lookup x=some .local:=by first|exact .inl rfl|exact .inr rfl|assumption) :
  PS X (.Assign [.Name x pos'] e pos) (eO te (bJ i)):=by
 intro pins s Z H D I h;refine wpAny_Assign_Name (iG (he pins s Z H _ I h) λv s1 ⟨y,H1,I1,r1,q1⟩=>?_) hs;exact tY I1 hN hi hx r1 (λs2 I2=>⟨_,H1,I2,q1⟩) hf
def Vy (i j:Nat) (ta:TA):TS:=λD Z H=>ta Z H λvs H1=>∃ v w,vs=[v,w]/\D.nx ((Z.set i (some v)).set j (some w)) H1
theorem Vz {i j:Nat}{x y:bu}{a b:Expr}{ta:TA}{px py pt:oZ}{kt k2 pt2} (hc:X.calm=true) (hN:X.N.Nodup) (hi:X.N[i]?=some x) (hj:X.N[j]?=some y) (hij:i≠j)
  (hx:X.env.scope.names.lookup x=some .local) (hy:X.env.scope.names.lookup y=some .local) (ha:PA X [a,b] ta)
  (hw:swappedStores [.Tuple [.Name x px,.Name y py] kt pt] (.Tuple [a,b] k2 pt2) X.env=pure (some [x,y]))
  (hs:swapsWithSole [.Tuple [.Name x px,.Name y py] kt pt] (.Tuple [a,b] k2 pt2) pos.line X.env=pure false:=by rfl) :
  PS X (.Assign [.Tuple [.Name x px,.Name y py] kt pt] (.Tuple [a,b] k2 pt2) pos) (Vy i j ta):=by
 intro pins s Z H D I h;rw [exec_Assign_arm];refine ae (vD ?_);rw [hs];refine ae (aq ?_);rw [if_neg (by decide)];refine ae (Tuple_ (iG (ha _ pins s Z H _ I h) λus s1 ⟨vs,H1,I1,r1,q1⟩=>?_));obtain ⟨v,w,e1,q1⟩:=q1;subst e1
 obtain ⟨u1,u2,rfl,rv,rw'⟩:∃ u1 u2,us=[u1,u2]/\RelV v u1/\RelV w u2:=by
  cases r1 with
  | cons p q =>
   cases q with
   | cons p' q' =>
    cases q';exact ⟨_,_,rfl,p,p'⟩
 refine cp ?_ (by show 2<=aY;decide);have I2:Inv X pins Z H1 { s1 with heap:=s1.heap.push { cls:=.type "tuple",data:=.seq [u1,u2].toArray } }:=I1.kept (t':=s1.toks) λb o e=>ao _ e;rw [hw];refine ae (aq ?_)
 show aK (aP X.prog X.w) X.A (do DS "assign.swapped-stores";let items ← unpackItems (.ref s1.heap.objs.size) 2 none;R5 [λv=>WY X.env y v,λv=>WY X.env x v] items.reverse;pure Flow.next) _ _ _
 refine ae (iM (ae (unpackItems_tuple (items:=#[u1,u2]) (I.ok.hd hc) (IsTup.new s1.heap _) λh' hx'=>?_)));have I3:=I2.kept (h':=h') (t':=s1.toks) λb o e=>hx' b o (bf (aL e)) e
 show aK _ _ (R5 [λv=>WY X.env y v,λv=>WY X.env x v] [u2,u1] >>= λ_=>pure Flow.next) _ _ _
 refine ae (Fj (wpAny_bindName (tY I3 hN hj (.inl hy) rw' (λs2 I4=>?_) (.inr hy))));refine Fj (wpAny_bindName (tY I4 hN hi (.inl hx) rv (λs3 I5=>assignInOrder_nil (aq ?_)) (.inr hx)));rw [List.set_comm _ _ (Ne.symm hij)] at I5;exact ⟨_,H1,I5,q1⟩
def Pc (i:Nat) (te:TE) (ti:Zc):TS:=λD Z H=>∃ x,Z[i]?=some (some x)/\te Z H λy H1=>ti x y H1 λz H2=>D.nx (Z.set i (some z)) H2
theorem KM {i:Nat}{x:bu}{e:Expr}{te:TE}{op:HL}{ti:Zc}{pos':oZ}(hN:X.N.Nodup) (hi:X.N[i]?=some x) (hx:Loc X.env.scope x) (he:PE X e te) (ho:PIp X op ti) (hf:X.fn x=true\/X.env.scope.names.lookup x=some .local:=by first|exact .inl rfl|exact .inr rfl|assumption) :
  PS X (.AugAssign (.Name x pos') op e pos) (Pc i te ti):=by
 intro pins s Z H D I h;obtain ⟨v,e1,h⟩:=h;obtain ⟨m,hn,hl⟩:=I.loc
 have vis:Za X.env.scope x:=by rcases hx with k|k;exact .inl k;exact .inr (.inl k)
 obtain ⟨u,r,l⟩:=hl i x v hi e1 vis;refine wpAny_AugAssign_Name ?_
 have go:aK (aP X.prog X.w) X.A (gM e X.env) (λw s₂=>aK (aP X.prog X.w) X.A (Bz op u w) (λr s₃=>aK (aP X.prog X.w) X.A (storeName X.env x r) (λ_=>SP X pins D .next) X.xe s₃) X.xe s₂) X.xe s:=by
  refine iG (he pins s Z H _ I h) λw s1 ⟨y,H1,I1,r1,q1⟩=>?_;refine iG (ho pins s1 Z H1 v y u w _ I1 r r1 q1) λz s2 ⟨zv,H2,I2,r2,q2⟩=>?_;exact tY I2 hN hi hx r2 (λs3 I3=>⟨_,H2,I3,q2⟩) hf
 rcases l with ⟨hk,hm⟩|⟨hk,c,hc,hcell⟩
 ·exact rF I.ok.kind hk hn hm go
 ·rcases hk with hk|hk
  ·exact Xs I.ok.kind hk hc hcell go
  ·rcases hx with k|k
   ·have:X.env.scope.names.lookup x=some .free:=hk;rw [k] at this;cases this
   ·have:X.env.scope.names.lookup x=some .free:=hk;rw [k] at this;cases this
end
section
variable {X:Cx}{pos:oZ}
def BM (c:TT) (tb:TS):TS:=λD Z H=>∃ W:Nat->St->Hp->Prop,(∃ m,W m Z H)/\∀ m Z H,W m Z H ->
 c Z H λb H1=>if b=true then ∃ N:St->Hp->Prop,(∀ σ' H',N σ' H'->∃ m',m'<m/\W m' σ' H')/\tb { D with nx:=N,ct:=N,bk:=D.nx } Z H1 else D.nx Z H1
theorem BN {c:Expr}{body:List dU}{tc:TT}{tb:TS}(hp:PassesOwn (aP X.prog X.w) X.A X.env X.xe) (hc:PT X c tc) (hb:Mm X body tb):PS X (.While c body [] pos) (BM tc tb):=by
 intro pins s Z H D I h;obtain ⟨W,⟨m0,w0⟩,turn⟩:=h;refine wpAny_While (codeAny_whileLoop (λn s'=>∃ σ' H',Inv X pins σ' H' s'/\W n σ' H') ?_ m0 ⟨Z,H,I,w0⟩);rintro n s1 ⟨σ1,H1,I1,w1⟩;refine lj hp (iG (hc pins s1 σ1 H1 _ I1 (turn n σ1 H1 w1)) λb s2 ⟨H2,I2,q2⟩=>?_)
 cases b with
 | true =>
  obtain ⟨N,hN,q2⟩:=q2;rw [if_pos rfl];refine lj hp (iG (hb pins s2 σ1 H2 _ I2 q2) λf s3 q3=>?_)
  cases f with
  | next =>
   obtain ⟨σ3,H3,I3,n3⟩:=q3;obtain ⟨m',hm,w3⟩:=hN σ3 H3 n3
   exact ⟨m',hm,σ3,H3,I3,w3⟩
  | cont =>
   obtain ⟨σ3,H3,I3,n3⟩:=q3;obtain ⟨m',hm,w3⟩:=hN σ3 H3 n3
   exact ⟨m',hm,σ3,H3,I3,w3⟩
  | brk=>exact q3
  | ret v=>exact q3
 | false =>
  rw [if_neg bL];exact yU ⟨σ1,H2,I2,q2⟩
end
structure It where
 go:Nat->Hp->Prop
 KA:Nat->Hp->V->Hp->Prop
 stop:Nat->Hp->Prop
def yZ (X:Cx) (pins:List (af×gi)) (H:Hp) (b:af):Prop :=
 H b=none/\b≠X.env.locals/\b∉X.fs/\(b∈X.ex\/X.s₀.heap.objs.size<=b)/\(∀ x c,X.env.cells.lookup x=some c->c≠b)/\∀ p∈X.pn++pins,p.1≠b
theorem Inv.Mr {X:Cx}{pins:List (af×gi)}{Z:St}{H H':Hp}{s:ar}{b:af}(I:Inv X pins Z H s) (hb:s.heap.objs.size<=b) (hn:H' b=none):yZ X pins H' b:=by
 refine ⟨hn,eD (br I.lt hb),I.nofs hb,.inr (bz I.sz hb),λx c e z=>?_,λp hp z=>?_⟩
 ·obtain ⟨v,q⟩:=I.cell x c e;exact absurd (br q.lt (by rw [z];exact hb)) (fu _)
 ·exact absurd (br (aL (I.pin p hp).1) (by rw [z];exact hb)) (fu _)
structure ND (P:a9) (w:bQ) (K:aa) (tg:Expr) (J:It) (fp:List af) (it:af) (tn:Nat->cm->Prop):Prop where
 mem:it∈fp
 obj:∀ i h,tn i h->∀ b∈fp,∃ o,h.get? b=some o/\∀ v,o.data≠.cell v
 keep:∀ i h h',tn i h->(∀ b∈fp,∀ o,h.get? b=some o->h'.get? b=some o)->tn i h'
 item:∀ (X:Cx),X.prog=P->X.w=w->X.K=K->X.calm=true->∀ (i:Nat) (pins:List (af×gi)) (s:ar) (Z:St) (H:Hp) (E:aj->ar->Prop),Inv X pins Z H s->(∀ b∈fp,yZ X pins H b)->tn i s.heap->J.go i H ->
  aK (aP P w) X.A (jQ (.ref it)) (λr s1=>∃ u,r=some u /\
   aK (aP P w) X.A (yV tg (.ref it) u) (λ_ s2=>∃ x H',Inv X pins Z H' s2/\RelV x u/\J.KA i H x H'/\tn (i+1) s2.heap/\∀ b∈fp,H' b=none) E s1) E s
 done:∀ (X:Cx),X.prog=P->X.w=w->X.K=K->X.calm=true->∀ (i:Nat) (pins:List (af×gi)) (s:ar) (Z:St) (H:Hp) (E:aj->ar->Prop),Inv X pins Z H s->(∀ b∈fp,yZ X pins H b)->tn i s.heap->J.stop i H ->
  aK (aP P w) X.A (jQ (.ref it)) (λr s1=>r=none/\Inv X pins Z H s1) E s
 self:∀ (A:bY) (i:Nat) (s:ar) (Q:aj->ar->Prop) (E:aj->ar->Prop),tn i s.heap->Q (.ref it) s->aK (aP P w) A (OB (.ref it)) Q E s
abbrev TI:=St->Hp->(It->Hp->Prop)->Prop
def PIE (X:Cx) (pins:List (af×gi)) (Z:St) (tg:Expr) (R:It->Hp->Prop) (itv:aj) (s2:ar):Prop :=
 ∃ (it:af) (fp:List af) (tn:Nat->cm->Prop) (J:It) (H':Hp),itv=.ref it/\Inv X pins Z H' s2/\ND X.prog X.w X.K tg J fp it tn/\tn 0 s2.heap/\(∀ b∈fp,yZ X pins H' b)/\R J H'
def PI (X:Cx) (tg iter:Expr) (wi:TI):Prop :=
 ∀ (pins:List (af×gi)) (s:ar) (Z:St) (H:Hp) (R:It->Hp->Prop),Inv X pins Z H s->wi Z H R ->
  aK (aP X.prog X.w) X.A (gM iter X.env) (λv s1=>aK (aP X.prog X.w) X.A (OB v) (PIE X pins Z tg R) X.xe s1) X.xe s
theorem Iu {M:Model}{A:bY}{E:aj->ar->Prop}{s:ar}{tg:Expr}{it:af}{u:aj}{o:gi}{n:String}{vs:Array aj}{Q:Unit->ar->Prop}(ho:s.heap.get? it=some o) (hc:o.cls=.type n) (hd:o.data=.fields vs)
    (hn:["enumerate","zip","dict_itemiterator","dict_reverseitemiterator","odict_iterator","itertools.zip_longest","itertools.pairwise"].contains n=false) (hQ:Q () s):aK M A (yV tg (.ref it) u) Q E s:=by
  unfold yV
  cases tg<;>first
    | exact aq hQ
    | (cases u<;>first
        | exact aq hQ
        | (refine ae (Fk ho ?_)
           rw [hc,hd]
           show aK M A (if (["enumerate","zip","dict_itemiterator","dict_reverseitemiterator","odict_iterator","itertools.zip_longest","itertools.pairwise"].contains n && vs[0]? == some (cB _))=true then _ else _) Q E s
           rw [if_neg (by intro h;rw [hn,Bool.false_and] at h;cases h)]
           exact aq hQ))
def KN (K:aa) (a:af):It :=
 ⟨λi H=>∃ xs x,de K H a xs/\xs[i]?=some x,λi H x H'=>H'=H/\∀ xs,de K H a xs->xs[i]?=some x,λi H=>∃ xs,de K H a xs/\xs.length<=i⟩
def Xn (K:aa) (a:af):It :=
 ⟨λi H=>∃ xs x,mR K H a xs/\xs[i]?=some x,λi H x H'=>H'=H/\∀ xs,mR K H a xs->xs[i]?=some x,λi H=>∃ xs,mR K H a xs/\xs.length<=i⟩
def SK (lo:Int) (n:Nat):It:=⟨λi _=>i<n,λi H x H'=>H'=H/\x=.int (lo+i),λi _=>n<=i⟩
theorem NF {P:a9}{w:bQ}{K:aa}{tg:Expr}(a it:af):ND P w K tg (KN K a) [it] it (λi h=>h.IsListIter it a i) where
 mem:=by simp
 obj:=λi h st b hb=>by
  have e:b=it:=by simpa using hb
  subst e;obtain ⟨o,e,c,d⟩:=st;exact ⟨o,e,λv z=>by rw [d] at z;cases z⟩
 keep:=λi h h' st k=>st.at λo e=>k it (by simp) o e
 item:=by
  intro X hP hw hK hc i pins s Z H E I hf st hg;subst hP hw hK;obtain ⟨xs,x,hq,hx⟩:=hg;obtain ⟨its,rv,p,hz⟩:=I.list hq;obtain ⟨u,hu,ru⟩:=rv.get hx;obtain ⟨f0,f1,f2,f3,f4,f5⟩:=hf it (by simp);refine wpAny_pyNext_list_item st p.isList (x:=u) (by simpa using hu) λh' st' sb=>?_;have I1:Inv X pins Z H { s with heap:=h' }:=I.turned (t':=s.toks) (λb o hb e=>(sb.2 b hb).trans e) f0 f1 f3 f4 f5;obtain ⟨o,e,c,d⟩:=id st';exact ⟨u,rfl,Iu (s:={ s with heap:=h' }) e c d (by decide) ⟨x,H,I1,ru,⟨rfl,λys hy=>by rw [I.RT hy hq];exact hx⟩,st',λb hb=>(hf b hb).1⟩⟩
 done:=by
  intro X hP hw hK hc i pins s Z H E I hf st hg;subst hP hw hK;obtain ⟨xs,hq,hx⟩:=hg;obtain ⟨its,rv,p,hz⟩:=I.list hq;obtain ⟨f0,f1,f2,f3,f4,f5⟩:=hf it (by simp);have hl:=rv.length
  exact wpAny_pyNext_list_end (I.ok.hd hc) st p.isList (by simp;lia) λh' eb=>⟨rfl,I.turned (t':=s.toks) (λb o hb e=>eb b o hb e) f0 f1 f3 f4 f5⟩
 self:=λ_ _ _ _ _ st h=>wpAny_pyIter_listiter st h
theorem KQ {P:a9}{w:bQ}{K:aa}{tg:Expr}(a it:af):ND P w K tg (Xn K a) [it] it (λi h=>h.IsTupleIter it a i) where
 mem:=by simp
 obj:=λi h st b hb=>by
  have e:b=it:=by simpa using hb
  subst e;obtain ⟨o,e,c,d⟩:=st;exact ⟨o,e,λv z=>by rw [d] at z;cases z⟩
 keep:=λi h h' st k=>st.at λo e=>k it (by simp) o e
 item:=by
  intro X hP hw hK hc i pins s Z H E I hf st hg;subst hP hw hK;obtain ⟨xs,x,hq,hx⟩:=hg;obtain ⟨its,rv,p,hz⟩:=I.tuple hq;obtain ⟨u,hu,ru⟩:=rv.get hx;obtain ⟨f0,f1,f2,f3,f4,f5⟩:=hf it (by simp);refine wpAny_pyNext_tuple_item st (show s.heap.IsTuple a its.toArray from p) (x:=u) (by simpa using hu) λh' st' sb=>?_;have I1:Inv X pins Z H { s with heap:=h' }:=I.turned (t':=s.toks) (λb o hb e=>(sb.2 b hb).trans e) f0 f1 f3 f4 f5;obtain ⟨o,e,c,d⟩:=id st';exact ⟨u,rfl,Iu (s:={ s with heap:=h' }) e c d (by decide) ⟨x,H,I1,ru,⟨rfl,λys hy=>by rw [I.Oo hy hq];exact hx⟩,st',λb hb=>(hf b hb).1⟩⟩
 done:=by
  intro X hP hw hK hc i pins s Z H E I hf st hg;subst hP hw hK;obtain ⟨xs,hq,hx⟩:=hg;obtain ⟨its,rv,p,hz⟩:=I.tuple hq;obtain ⟨f0,f1,f2,f3,f4,f5⟩:=hf it (by simp);have hl:=rv.length
  exact wpAny_pyNext_tuple_end (I.ok.hd hc) st (show s.heap.IsTuple a its.toArray from p) (by simp;lia) λh' eb=>⟨rfl,I.turned (t':=s.toks) (λb o hb e=>eb b o hb e) f0 f1 f3 f4 f5⟩
 self:=λ_ _ _ _ _ st h=>wpAny_pyIter_tupleiter st h
theorem KR {P:a9}{w:bQ}{K:aa}{tg:Expr}(it:af) (lo:Int) (n:Nat):ND P w K tg (SK lo n) [it] it (λi h=>IsRangeIter h it (lo+(i:Nat)*1) ((n:Int)-(i:Nat)) 1) where
 mem:=by simp
 obj:=λi h st b hb=>by
  have e:b=it:=by simpa using hb
  subst e
  exact ⟨_,st,λv z=>by
   have z':Data.fields _=Data.cell v:=z
   cases z'⟩
 keep:=λi h h' st k=>k it (by simp) _ st
 item:=by
  intro X hP hw hK hc i pins s Z H E I hf st hg;subst hP hw hK;obtain ⟨f0,f1,f2,f3,f4,f5⟩:=hf it (by simp);have W:=Walks.range (prog:=X.prog) (w:=X.w) (I.ok.hd hc) it lo 1 n;refine W.item i s _ _ hg st λv h' tk hv st' kk=>?_;obtain ⟨t,rfl⟩:=hv;have I1:Inv X pins Z H { s with heap:=h',toks:=tk }:=I.turned (λb o hb e=>kk b o (by simpa using hb) e) f0 f1 f3 f4 f5;refine ⟨_,rfl,Iu (s:={ s with heap:=h',toks:=tk }) (n:="range_iterator") st' rfl rfl (by decide) ⟨.int (lo+i),H,I1,⟨t,?_⟩,⟨rfl,rfl⟩,st',λb hb=>(hf b hb).1⟩⟩;rw [Int.mul_one]
 done:=by
  intro X hP hw hK hc i pins s Z H E I hf st hg;subst hP hw hK;obtain ⟨f0,f1,f2,f3,f4,f5⟩:=hf it (by simp)
  exact wpAny_pyNext_range_end (I.ok.hd hc) st (by have:n<=i:=hg;lia) λh' eb=>⟨rfl,I.turned (t':=s.toks) (λb o hb e=>eb b o hb e) f0 f1 f3 f4 f5⟩
 self:=λ_ _ _ _ _ st h=>wpAny_pyIter_rangeiter st h
end L2
namespace L2
section
variable {X:Cx}{tg:Expr}
theorem Iv {pins:List (af×gi)}{Z:St}{H:Hp}{s:ar}{R:It->Hp->Prop}{E:aj->ar->Prop}{lo hi:Int}{t u v:Xr}{tk:Nat}(I:Inv X pins Z H s) (h1:-(2^62)<=lo) (h2:lo<2^62) (h3:-(2^62)<=hi) (h4:hi<2^62)
  (q:R (SK lo (hi-lo).toNat) H):aK (aP X.prog X.w) X.A (OB (.ref s.heap.objs.size)) (PIE X pins Z tg R) E { s with heap:=s.heap.push { cls:=.type "range",data:=.fields #[.int lo t,.int hi u,.int 1 v] },toks:=tk }:=by
 refine wpAny_pyIter_range (IsRange.new ..) (small_one h1 h2 h3 h4) ?_;have I1:Inv X pins Z H { s with heap:=s.heap.push { cls:=.type "range",data:=.fields #[.int lo t,.int hi u,.int 1 v] },toks:=tk }:=I.kept λb o e=>ao _ e
 refine ⟨(s.heap.push { cls:=.type "range",data:=.fields #[.int lo t,.int hi u,.int 1 v] }).objs.size,[(s.heap.push { cls:=.type "range",data:=.fields #[.int lo t,.int hi u,.int 1 v] }).objs.size],_,_,H,rfl,
  I1.kept (t':=tk) λb o e=>ao _ e,KR _ lo (hi-lo).toNat,?_,λb hb=>?_,q⟩
 ·have e1:lo+((0:Nat):Int)*1=lo:=by simp
  have e2:(((hi-lo).toNat:Nat):Int)-((0:Nat):Int)=Builtin.Range.rangeSize lo hi 1:=by rw [rangeSize_one];split<;>lia
  show IsRangeIter _ _ (lo+((0:Nat):Int)*1) ((((hi-lo).toNat:Nat):Int)-((0:Nat):Int)) 1
  rw [e1,e2];exact aN _ rfl
 ·have e:b=(s.heap.push { cls:=.type "range",data:=.fields #[.int lo t,.int hi u,.int 1 v] }).objs.size:=by simpa using hb
  subst e;exact I1.Mr (au _) (I1.fD.fresh (au _))
def Ah (ta:TA):TI:=λZ H R=>ta Z H λvs H1=>∃ j:Int,vs=[.int j]/\-(2^62)<=j/\j<2^62/\R (SK 0 j.toNat) H1
def Pd (ta:TA):TI:=λZ H R=>ta Z H λvs H1=>∃ i j:Int,vs=[.int i,.int j]/\(-(2^62)<=i/\i<2^62/\-(2^62)<=j/\j<2^62)/\R (SK i (j-i).toNat) H1
theorem pR {a:Expr}{ta:TA}{p pos:oZ}(hg:Gl X "range") (hm:X.mg "range"=none) (ha:PA X [a] ta) (hs:bR [a] X.env=[(false,gM a X.env)]:=by rfl):PI X tg (.Call (.Name "range" p) [a] [] pos) (Ah ta):=by
 intro pins s Z H R I h;refine Call_ (pU I hg hm boot_range (dP (iG (ha pos pins s Z H _ I h) λus s1 ⟨vs,H1,I1,r1,q1⟩=>?_) hs rfl));obtain ⟨j,e,q1,q2,q⟩:=q1;subst e
 cases r1 with
 | cons r rr =>
  cases rr;obtain ⟨t,rfl⟩:=r;exact call_range_1 (Iv I1 (by lia) (by lia) q1 q2 (by simpa using q))
theorem NG {a b:Expr}{ta:TA}{p pos:oZ}(hg:Gl X "range") (hm:X.mg "range"=none) (ha:PA X [a,b] ta) (hs:bR [a,b] X.env=[(false,gM a X.env),(false,gM b X.env)]:=by rfl) (hs2:bR [b] X.env=[(false,gM b X.env)]:=by rfl) :
  PI X tg (.Call (.Name "range" p) [a,b] [] pos) (Pd ta):=by
 intro pins s Z H R I h;refine Call_ (pU I hg hm boot_range (dP (iG (ha pos pins s Z H _ I h) λus s1 ⟨vs,H1,I1,r1,q1⟩=>?_) (by rw [hs,hs2]) (by rw [hs2];rfl)));obtain ⟨i,j,e,⟨q1,q2,q3,q4⟩,q⟩:=q1;subst e
 cases r1 with
 | cons r rr =>
  cases rr with
  | cons r' rr =>
   cases rr;obtain ⟨t,rfl⟩:=r;obtain ⟨t',rfl⟩:=r';exact call_range_2 (Iv I1 q1 q2 q3 q4 q)
def xE (wi:TI) (g:TG) (tb:TS):TS:=λD Z H=>wi Z H λJ H1=>∃ W:Nat->Nat->St->Hp->Prop,(∃ m,W 0 m Z H1)/\∀ i m Z H,W i m Z H ->
 (J.stop i H/\D.nx Z H)\/(J.go i H/\∃ N:St->Hp->Prop,(∀ σ' H',N σ' H'->∃ m',m'<m/\W (i+1) m' σ' H')/\∀ x H',J.KA i H x H'->g x Z H' λσ2 H2=>tb { D with nx:=N,ct:=N,bk:=D.nx } σ2 H2)
def BO (fp:List af) (h:cm):List (af×gi):=fp.filterMap λb=>(h.get? b).map λo=>(b,o)
theorem sD {fp:List af}{h:cm}{b:af}{o:gi}(hb:b∈fp) (e:h.get? b=some o):(b,o)∈BO fp h:=rJ.mpr ⟨b,hb,by rw [e];rfl⟩
theorem NH {fp:List af}{h:cm}{p:af×gi}(hp:p∈BO fp h):p.1∈fp/\h.get? p.1=some p.2:=by
 obtain ⟨b,hb,e⟩:=rJ.mp hp
 cases q:h.get? b with
 | none=>rw [q] at e;cases e
 | some o =>
  rw [q] at e;have e':(b,o)=p:=a7 e;subst e';exact ⟨hb,q⟩
theorem Inv.pinned {pins:List (af×gi)}{Z:St}{H:Hp}{s:ar}{fp:List af}(I:Inv X pins Z H s) (hf:∀ b∈fp,yZ X pins H b) (ho:∀ b∈fp,∃ o,s.heap.get? b=some o/\∀ v,o.data≠.cell v):Inv X (pins++BO fp s.heap) Z H s :=
 I.Nn λp hp=>(aQ.mp hp).elim (λz=>I.pin p (bP _ z)) λz=>by
  obtain ⟨hb,e⟩:=NH z;obtain ⟨f0,f1,f2,_⟩:=hf p.1 hb;obtain ⟨o,e',d⟩:=ho p.1 hb;rw [e] at e';cases e';exact ⟨e,f0,f1,f2,d⟩
theorem Inv.yC {pins pl:List (af×gi)}{Z:St}{H:Hp}{s:ar}(I:Inv X (pins++pl) Z H s):Inv X pins Z H s:=I.Nn λp hp=>I.pin p (bP _ (fE _ hp))
theorem oH {iter:Expr}{body:List dU}{wi:TI}{g:TG}{tb:TS}{pos:oZ}(hp:PassesOwn (aP X.prog X.w) X.A X.env X.xe) (hc:X.calm=true) (hi:PI X tg iter wi) (hg:PG X tg g) (hb:Mm X body tb)
  (hs:∀ x,vj iter X.env x=pure x:=by intro _;rfl):PS X (.For tg iter body [] pos) (xE wi g tb):=by
 intro pins s Z H D I h;refine wpAny_For (iG (hi pins s Z H _ I h) λv s1 h1=>iG h1 λitv s2 h2=>?_) hs;obtain ⟨it,fp,tn,J,H2,e,I2,T,st2,f2,W,⟨m0,w0⟩,turn⟩:=h2;subst e
 -- what stays true of the iterator's objects through the KU
 have stat:∀ {H':Hp},(∀ b∈fp,H' b=none)->∀ b∈fp,yZ X pins H' b:=λhn b hb=>⟨hn b hb,(f2 b hb).2⟩
 refine codeAny_forLoop_any (λn s'=>∃ i σ' H',Inv X pins σ' H' s'/\tn i s'.heap/\(∀ b∈fp,H' b=none)/\W i n σ' H') ?_ m0 ⟨0,Z,H2,I2,st2,λb hb=>(f2 b hb).1,w0⟩;rintro n s3 ⟨i,σ3,H3,I3,st3,fr3,w3⟩
 rcases turn i n σ3 H3 w3 with ⟨stop,qn⟩|⟨go,N,hN,step⟩
 ·refine lj hp (iG (T.done X rfl rfl rfl hc i pins s3 σ3 H3 X.xe I3 (stat fr3) st3 stop) λr s4 ⟨hr,I4⟩=>?_);subst hr;exact yU ⟨σ3,H3,I4,qn⟩
 ·refine lj hp (iG (T.item X rfl rfl rfl hc i pins s3 σ3 H3 X.xe I3 (stat fr3) st3 go) λr s4 ⟨u,hr,h4⟩=>?_);subst hr;refine lj hp (iG h4 λ_ s5 ⟨x,H5,I5,r5,y5,st5,fr5⟩=>?_);have I5':=I5.pinned (stat fr5) (T.obj _ _ st5);refine lj hp (iG (hg _ s5 σ3 H5 x u _ I5' r5 (step x H5 y5)) λ_ s6 ⟨σ6,H6,I6,q6⟩=>?_);refine lj hp (iG (hb _ s6 σ6 H6 _ I6 q6) λf s7 q7=>?_)
  have again:∀ {σ7:St}{H7:Hp},Inv X (pins++BO fp s5.heap) σ7 H7 s7->N σ7 H7->∃ m,m<n/\∃ i σ' H',Inv X pins σ' H' s7/\tn i s7.heap/\(∀ b∈fp,H' b=none)/\W i m σ' H':=λ{σ7 H7} I7 n7=>by
   obtain ⟨m',hm,w7⟩:=hN σ7 H7 n7;refine ⟨m',hm,i+1,σ7,H7,I7.yC,T.keep _ _ _ st5 λb hb o e=>(I7.pin (b,o) (bP _ (bP _ (sD hb e)))).1,λb hb=>?_,w7⟩;obtain ⟨o,e,d⟩:=T.obj _ _ st5 b hb;exact (I7.pin (b,o) (bP _ (bP _ (sD hb e)))).2.1
  cases f with
  | next=>obtain ⟨σ7,H7,I7,n7⟩:=q7;exact again I7 n7
  | cont=>obtain ⟨σ7,H7,I7,n7⟩:=q7;exact again I7 n7
  | brk=>obtain ⟨σ7,H7,I7,q7⟩:=q7;exact ⟨σ7,H7,I7.yC,q7⟩
  | ret v=>obtain ⟨x7,σ7,H7,I7,r7,q7⟩:=q7;exact ⟨x7,σ7,H7,I7.yC,r7,q7⟩
end
theorem mx {K:aa}{a:af}{xs:List V}{g:TG}{tb:TS}{D:tN}{Z:St}{H:Hp}(Pv:Nat->St->Hp->Prop) (h0:Pv 0 Z H) (hl:∀ i Z H,i<=xs.length->Pv i Z H->de K H a xs)
  (hs:∀ i x Z H,xs[i]?=some x->Pv i Z H->g x Z H λσ2 H2=>tb { D with nx:=Pv (i+1),ct:=Pv (i+1),bk:=D.nx } σ2 H2) (hd:∀ Z H,Pv xs.length Z H->D.nx Z H) :
  ∃ W:Nat->Nat->St->Hp->Prop,(∃ m,W 0 m Z H)/\∀ i m Z H,W i m Z H ->
   ((KN K a).stop i H/\D.nx Z H)\/((KN K a).go i H/\∃ N:St->Hp->Prop,(∀ σ' H',N σ' H'->∃ m',m'<m/\W (i+1) m' σ' H')/\∀ x H',(KN K a).KA i H x H'->g x Z H' λσ2 H2=>tb { D with nx:=N,ct:=N,bk:=D.nx } σ2 H2):=by
 refine ⟨λi m Z H=>m=xs.length-i/\i<=xs.length/\Pv i Z H,⟨xs.length,by simp,aJ _,h0⟩,?_⟩;rintro i m Z H ⟨rfl,hi,p⟩;have q:=hl i Z H hi p
 by_cases hlt:i<xs.length
 ·refine .inr ⟨⟨xs,xs[i],q,by simp [hlt]⟩,Pv (i+1),λσ' H' p'=>⟨xs.length-(i+1),by lia,rfl,hlt,p'⟩,λx H' y=>?_⟩;obtain ⟨e,y⟩:=y;subst e;exact hs i x Z _ (y xs q) p
 ·have e:i=xs.length:=by lia
  subst e;exact .inl ⟨⟨xs,q,au _⟩,hd Z H p⟩
theorem MF {K:aa}{a:af}{xs:List V}{g:TG}{tb:TS}{D:tN}{Z:St}{H:Hp}(Pv:Nat->St->Hp->Prop) (h0:Pv 0 Z H) (hl:∀ i Z H,i<=xs.length->Pv i Z H->mR K H a xs)
  (hs:∀ i x Z H,xs[i]?=some x->Pv i Z H->g x Z H λσ2 H2=>tb { D with nx:=Pv (i+1),ct:=Pv (i+1),bk:=D.nx } σ2 H2) (hd:∀ Z H,Pv xs.length Z H->D.nx Z H) :
  ∃ W:Nat->Nat->St->Hp->Prop,(∃ m,W 0 m Z H)/\∀ i m Z H,W i m Z H ->
   ((Xn K a).stop i H/\D.nx Z H)\/((Xn K a).go i H/\∃ N:St->Hp->Prop,(∀ σ' H',N σ' H'->∃ m',m'<m/\W (i+1) m' σ' H')/\∀ x H',(Xn K a).KA i H x H'->g x Z H' λσ2 H2=>tb { D with nx:=N,ct:=N,bk:=D.nx } σ2 H2):=by
 refine ⟨λi m Z H=>m=xs.length-i/\i<=xs.length/\Pv i Z H,⟨xs.length,by simp,aJ _,h0⟩,?_⟩;rintro i m Z H ⟨rfl,hi,p⟩;have q:=hl i Z H hi p
 by_cases hlt:i<xs.length
 ·refine .inr ⟨⟨xs,xs[i],q,by simp [hlt]⟩,Pv (i+1),λσ' H' p'=>⟨xs.length-(i+1),by lia,rfl,hlt,p'⟩,λx H' y=>?_⟩;obtain ⟨e,y⟩:=y;subst e;exact hs i x Z _ (y xs q) p
 ·have e:i=xs.length:=by lia
  subst e;exact .inl ⟨⟨xs,q,au _⟩,hd Z H p⟩
end L2
namespace L2
abbrev R2:=V->V->Hp->VK->Prop
def tK (X:Cx) (f:aj->aj->Uj aj) (r:R2):Prop :=
 ∀ (pins:List (af×gi)) (s:ar) (Z:St) (H:Hp) (x y:V) (v u:aj) (Q:VK),Inv X pins Z H s->RelV x v->RelV y u->r x y H Q ->
  aK (aP X.prog X.w) X.A (f v u) (EP X pins Z Q) X.xe s
def ZM (X:Cx) (f:aj->Uj aj) (r:V->Hp->VK->Prop):Prop :=
 ∀ (pins:List (af×gi)) (s:ar) (Z:St) (H:Hp) (x:V) (v:aj) (Q:VK),Inv X pins Z H s->RelV x v->r x H Q ->
  aK (aP X.prog X.w) X.A (f v) (EP X pins Z Q) X.xe s
def oY (X:Cx) (f:aj) (r:List V->Hp->VK->Prop):Prop :=
 ∀ (pins:List (af×gi)) (s:ar) (Z:St) (H:Hp) (xs:List V) (us:List aj) (Q:VK),Inv X pins Z H s->Vals xs us->r xs H Q ->
  aK (aP X.prog X.w) X.A (call f us) (EP X pins Z Q) X.xe s
def ZN (X:Cx) (r:V->Hp->(Bool->Hp->Prop)->Prop):Prop :=
 ∀ (pins:List (af×gi)) (s:ar) (Z:St) (H:Hp) (x:V) (v:aj) (Q:Bool->Hp->Prop),Inv X pins Z H s->RelV x v->r x H Q ->
  aK (aP X.prog X.w) X.A (truthy v) (TP X pins Z Q) X.xe s
def cV (r:R2) (ta tb:TE):TE:=λZ H Q=>ta Z H λx H1=>tb Z H1 λy H2=>r x y H2 Q
def Zd (r:V->Hp->VK->Prop) (ta:TE):TE:=λZ H Q=>ta Z H λx H1=>r x H1 Q
def rI (C:Int->Int->Prop) (g:Int->Int->V):R2:=λx y H Q=>∃ i j,x=.int i/\y=.int j/\C i j/\Q (g i j) H
def tO (g:Int->Int->V):R2:=λx y H Q=>∃ i j,x=.int i/\y=.int j/\Q (g i j) H
def rU (g:Int->V):V->Hp->VK->Prop:=λx H Q=>∃ i,x=.int i/\Q (g i) H
section
variable {X:Cx}{a b c:Expr}{ta tb tc:TE}{pos:oZ}
theorem VA (ha:PE X a ta) (hb:PE X b tb) {pins:List (af×gi)}{s:ar}{Z:St}{H:Hp}{R:V->V->Hp->Prop}(I:Inv X pins Z H s)
  (h:ta Z H λx H1=>tb Z H1 λy H2=>R x y H2) {Q:aj->ar->Prop}{f:aj->aj->Uj aj}
  (hf:∀ v u s2 x y H2,Inv X pins Z H2 s2->RelV x v->RelV y u->R x y H2->aK (aP X.prog X.w) X.A (f v u) Q X.xe s2) :
  aK (aP X.prog X.w) X.A (gM a X.env) (λv s₁=>aK (aP X.prog X.w) X.A (gM b X.env) (λu s₂=>aK (aP X.prog X.w) X.A (f v u) Q X.xe s₂) X.xe s₁) X.xe s:=by
 refine iG (ha pins s Z H _ I h) λv s1 ⟨x,H1,I1,r1,q1⟩=>?_;refine iG (hb pins s1 Z H1 _ I1 q1) λu s2 ⟨y,H2,I2,r2,q2⟩=>?_;exact hf v u s2 x y H2 I2 r1 r2 q2
theorem cI {op:HL}{r:R2}(ho:tK X (xk op) r) (ha:PE X a ta) (hb:PE X b tb):PE X (.BinOp a op b pos) (cV r ta tb):=by
 intro pins s Z H Q I h;exact wpAny_BinOp (VA ha hb I h λv u s2 x y H2 I2 rx ry q=>ho pins s2 Z H2 x y v u Q I2 rx ry q)
theorem UC {op:UnaryOp}{r:V->Hp->VK->Prop}(ho:ZM X (unaryOp op) r) (ha:PE X a ta):PE X (.UnaryOp op a pos) (Zd r ta):=by
 intro pins s Z H Q I h;exact UnaryOp_ (iG (ha pins s Z H _ I h) λv s1 ⟨x,H1,I1,r1,q1⟩=>ho pins s1 Z H1 x v Q I1 r1 q1)
theorem Ze {f:aj->aj->Uj aj}{C:Int->Int->Prop}{g:Int->Int->Int}
  (DS:∀ (i j:Int) (t u:Xr) (s:ar) (Q:aj->ar->Prop) (E:aj->ar->Prop),C i j->Q (.int (g i j) s.toks) { s with toks:=s.toks+1 }->aK (aP X.prog X.w) X.A (f (.int i t) (.int j u)) Q E s) :
  tK X f (rI C λi j=>.int (g i j)):=by
 intro pins s Z H x y v u Q I rx ry h;obtain ⟨i,j,rfl,rfl,hc,q⟩:=h;obtain ⟨t,rfl⟩:=rx;obtain ⟨t',rfl⟩:=ry;exact DS i j t t' s _ _ hc ⟨.int (g i j),H,I.tok _,⟨_,rfl⟩,q⟩
theorem SL {f:aj->aj->Uj aj}{g:Int->Int->Int}
  (DS:∀ (i j:Int) (t u:Xr) (s:ar) (Q:aj->ar->Prop) (E:aj->ar->Prop),Q (.int (g i j) s.toks) { s with toks:=s.toks+1 }->aK (aP X.prog X.w) X.A (f (.int i t) (.int j u)) Q E s) :
  tK X f (tO λi j=>.int (g i j)):=by
 intro pins s Z H x y v u Q I rx ry h;obtain ⟨i,j,rfl,rfl,q⟩:=h;obtain ⟨t,rfl⟩:=rx;obtain ⟨t',rfl⟩:=ry;exact DS i j t t' s _ _ ⟨.int (g i j),H,I.tok _,⟨_,rfl⟩,q⟩
theorem SN {f:aj->aj->Uj aj}{g:Int->Int->Bool}
  (DS:∀ (i j:Int) (t u:Xr) (s:ar) (Q:aj->ar->Prop) (E:aj->ar->Prop),Q (.bool (g i j)) s->aK (aP X.prog X.w) X.A (f (.int i t) (.int j u)) Q E s) :
  tK X f (tO λi j=>.bl (g i j)):=by
 intro pins s Z H x y v u Q I rx ry h;obtain ⟨i,j,rfl,rfl,q⟩:=h;obtain ⟨t,rfl⟩:=rx;obtain ⟨t',rfl⟩:=ry;exact DS i j t t' s _ _ ⟨.bl (g i j),H,I,rfl,q⟩
def wj (i j:Int):Prop:=0<j/\j<1073741824
def Oz (i j:Int):Prop:=(-(2^64)<i/\i<2^64)\/(-(2^64)<j/\j<2^64)
theorem Oz.ok {i j:Int}(h:Oz i j):IntMulOk i j:=by
 rcases h with ⟨h1,h2⟩|⟨h1,h2⟩
 ·exact .of_left (intBits_le_64 h1 h2)
 ·exact .of_right (intBits_le_64 h1 h2)
theorem VB:tK X (xk .Add) (tO λi j=>.int (i+j)):=SL λ_ _ _ _ _ _ _ q=>add_int q
theorem BP:tK X (xk .Sub) (tO λi j=>.int (i-j)):=SL λ_ _ _ _ _ _ _ q=>sub_int q
theorem VC:tK X (xk .Mult) (rI Oz λi j=>.int (i*j)):=Ze λ_ _ _ _ _ _ _ hc q=>mul_int q hc.ok
theorem ka:tK X (xk .FloorDiv) (rI wj λi j=>.int (i/j)):=Ze λi j _ _ _ _ _ hc q=>by
 have h1:(0:Int)<j:=hc.1;have h2:j<1073741824:=hc.2;exact floordiv_int (by lia) (by rw [Int.fdiv_eq_ediv_of_nonneg i (by lia)];exact q) (.inl (PyProof.noPylong_small (by lia)))
theorem jG:tK X (xk .Mod) (rI (λ_ j=>0<j) λi j=>.int (i%j)):=Ze λi j _ _ _ _ _ hc q=>by
 have h1:(0:Int)<j:=hc;exact mod_int' (by lia) (by rw [Int.fmod_eq_emod_of_nonneg i (by lia)];exact q)
theorem SQ:tK X (Bz .Add) (tO λi j=>.int (i+j)):=SL λ_ _ _ _ _ _ _ q=>Vc q
theorem SR:tK X (Bz .Sub) (tO λi j=>.int (i-j)):=SL λ_ _ _ _ _ _ _ q=>isub_int q
theorem SS:tK X (Bz .Mult) (rI Oz λi j=>.int (i*j)):=Ze λ_ _ _ _ _ _ _ hc q=>imul_int q hc.ok
theorem unI {f:aj->Uj aj}{g:Int->Int}
  (DS:∀ (i:Int) (t:Xr) (s:ar) (Q:aj->ar->Prop) (E:aj->ar->Prop),Q (.int (g i) s.toks) { s with toks:=s.toks+1 }->aK (aP X.prog X.w) X.A (f (.int i t)) Q E s) :
  ZM X f (rU λi=>.int (g i)):=by
 intro pins s Z H x v Q I rx h;obtain ⟨i,rfl,q⟩:=h;obtain ⟨t,rfl⟩:=rx;exact DS i t s _ _ ⟨.int (g i),H,I.tok _,⟨_,rfl⟩,q⟩
theorem Pe:ZM X (unaryOp .USub) (rU λi=>.int (-i)):=unI λ_ _ _ _ _ q=>neg_int q
end
def XB:V->V->Bool
 | .non,.non=>true | .non,.int _=>true | .int _,.non=>true | .non,.bl _=>true | .bl _,.non=>true | .non,.str _=>true | .str _,.non=>true
 | .int _,.int _=>true | .bl _,.bl _=>true | .str _,.str _=>true | .byt _,.byt _=>true
 | .int _,.str _=>true | .str _,.int _=>true | .bl _,.str _=>true | .str _,.bl _=>true
 | _,_=>false
def rEq:R2:=λx y H Q=>XB x y=true/\Q (.bl (decide (x=y))) H
def rNe:R2:=λx y H Q=>XB x y=true/\Q (.bl (!decide (x=y))) H
theorem MG {i j:Int}:decide (V.int i=V.int j)=(i == j):=by
 rw [ji];simp
theorem Pg {i j:Bool}:decide (V.bl i=V.bl j)=(i == j):=by
 rw [ji];simp
theorem MH {i j:bu}:decide (V.str i=V.str j)=(i == j):=by
 rw [ji];simp
theorem MI {i j:Array UInt8}:decide (V.byt i=V.byt j)=(i.toList == j.toList):=by
 rw [ji];cases i;cases j;simp
section
variable {X:Cx}{a b c:Expr}{ta tb tc:TE}{pos:oZ}
theorem fw {pins:List (af×gi)}{Z:St}{H:Hp}{s:ar}{Q:VK}{k k':Bool}(I:Inv X pins Z H s) (q:Q (.bl k) H) (e:k=k'):EP X pins Z Q (.bool k') s:=by
 subst e;exact ⟨.bl k,H,I,rfl,q⟩
theorem XC:tK X (dG .Eq) rEq:=by
 intro pins s Z H x y v u Q I rx ry h;obtain ⟨hs,q⟩:=h
 cases x with
 | non =>
  cases rx
  cases y with
  | non=>cases ry;exact PySem.EqNone.eq_none_none (fw I q (by simp))
  | bl j=>cases ry;exact PySem.EqNone.eq_none_bool (fw I q (by simp))
  | int j=>obtain ⟨t',rfl⟩:=ry;exact PySem.EqNone.eq_none_int (fw I q (by simp))
  | str j=>obtain ⟨t',rfl⟩:=ry;exact PySem.EqNone.eq_none_str (fw I q (by simp))
  | _=>exact absurd (show false=true from hs) bL
 | bl i =>
  cases rx
  cases y with
  | non=>cases ry;exact PySem.EqNone.eq_bool_none (fw I q (by simp))
  | bl j=>cases ry;exact eq_bool (fw I q Pg)
  | str j=>obtain ⟨t',rfl⟩:=ry;exact PySem.EqMixed.eq_bool_str (fw I q (by simp))
  | _=>exact absurd (show false=true from hs) bL
 | int i =>
  obtain ⟨t,rfl⟩:=rx
  cases y with
  | non=>cases ry;exact PySem.EqNone.eq_int_none (fw I q (by simp))
  | int j=>obtain ⟨t',rfl⟩:=ry;exact eq_int (fw I q MG)
  | str j=>obtain ⟨t',rfl⟩:=ry;exact PySem.EqMixed.eq_int_str (fw I q (by simp))
  | _=>exact absurd (show false=true from hs) bL
 | str i =>
  obtain ⟨t,rfl⟩:=rx
  cases y with
  | non=>cases ry;exact PySem.EqNone.eq_str_none (fw I q (by simp))
  | bl j=>cases ry;exact PySem.EqMixed.eq_str_bool (fw I q (by simp))
  | int j=>obtain ⟨t',rfl⟩:=ry;exact PySem.EqMixed.eq_str_int (fw I q (by simp))
  | str j=>obtain ⟨t',rfl⟩:=ry;exact eq_str (fw I q MH)
  | _=>exact absurd (show false=true from hs) bL
 | byt i =>
  obtain ⟨t,rfl⟩:=rx
  cases y with
  | byt j=>obtain ⟨t',rfl⟩:=ry;exact PySem.W.eq_bytes (fw I q MI)
  | _=>exact absurd (show false=true from hs) bL
 | _=>cases y<;>exact absurd (show false=true from hs) bL
theorem XD:tK X (dG .NotEq) rNe:=by
 intro pins s Z H x y v u Q I rx ry h;obtain ⟨hs,q⟩:=h
 cases x with
 | non =>
  cases rx
  cases y with
  | non=>cases ry;exact PySem.EqNone.ne_none_none (fw I q (by simp))
  | bl j=>cases ry;exact PySem.EqNone.ne_none_bool (fw I q (by simp))
  | int j=>obtain ⟨t',rfl⟩:=ry;exact PySem.EqNone.ne_none_int (fw I q (by simp))
  | str j=>obtain ⟨t',rfl⟩:=ry;exact PySem.EqNone.ne_none_str (fw I q (by simp))
  | _=>exact absurd (show false=true from hs) bL
 | bl i =>
  cases rx
  cases y with
  | non=>cases ry;exact PySem.EqNone.ne_bool_none (fw I q (by simp))
  | bl j=>cases ry;exact ne_bool (fw I q (congrArg not Pg))
  | str j=>obtain ⟨t',rfl⟩:=ry;exact PySem.EqMixed.ne_bool_str (fw I q (by simp))
  | _=>exact absurd (show false=true from hs) bL
 | int i =>
  obtain ⟨t,rfl⟩:=rx
  cases y with
  | non=>cases ry;exact PySem.EqNone.ne_int_none (fw I q (by simp))
  | int j=>obtain ⟨t',rfl⟩:=ry;exact ne_int (fw I q (congrArg not MG))
  | str j=>obtain ⟨t',rfl⟩:=ry;exact PySem.EqMixed.ne_int_str (fw I q (by simp))
  | _=>exact absurd (show false=true from hs) bL
 | str i =>
  obtain ⟨t,rfl⟩:=rx
  cases y with
  | non=>cases ry;exact PySem.EqNone.ne_str_none (fw I q (by simp))
  | bl j=>cases ry;exact PySem.EqMixed.ne_str_bool (fw I q (by simp))
  | int j=>obtain ⟨t',rfl⟩:=ry;exact PySem.EqMixed.ne_str_int (fw I q (by simp))
  | str j=>obtain ⟨t',rfl⟩:=ry;exact ne_str (fw I q (congrArg not MH))
  | _=>exact absurd (show false=true from hs) bL
 | byt i =>
  obtain ⟨t,rfl⟩:=rx
  cases y with
  | byt j=>obtain ⟨t',rfl⟩:=ry;exact PySem.W.ne_bytes (fw I q (congrArg not MI))
  | _=>exact absurd (show false=true from hs) bL
 | _=>cases y<;>exact absurd (show false=true from hs) bL
theorem xF:tK X (dG .Lt) (tO λi j=>.bl (decide (i<j))):=SN λ_ _ _ _ _ _ _ q=>Ss q
theorem Iw:tK X (dG .LtE) (tO λi j=>.bl (decide (i<=j))):=SN λ_ _ _ _ _ _ _ q=>le_int q
theorem Ph:tK X (dG .Gt) (tO λi j=>.bl (decide (j<i))):=SN λ_ _ _ _ _ _ _ q=>gt_int q
theorem XE:tK X (dG .GtE) (tO λi j=>.bl (decide (j<=i))):=SN λ_ _ _ _ _ _ _ q=>ge_int q
theorem tK.or {f:aj->aj->Uj aj}{r r':R2}(h:tK X f r) (h':tK X f r'):tK X f (λx y H Q=>r x y H Q\/r' x y H Q):=by
 intro pins s Z H x y v u Q I rx ry q
 rcases q with q|q
 ·exact h pins s Z H x y v u Q I rx ry q
 ·exact h' pins s Z H x y v u Q I rx ry q
theorem dj (b:Expr) {op:Sr}(h:op≠.In:=by decide) (h2:op≠.NotIn:=by decide):lz op b=false:=by
 have e1:(op == CmpOp.In)=false:=by cases op<;>first|rfl|exact absurd rfl h
 have e2:(op == CmpOp.NotIn)=false:=by cases op<;>first|rfl|exact absurd rfl h2
 cases b<;>simp [lz,e1,e2]
theorem sE {op:Sr}{r:R2}(ho:tK X (dG op) r) (ha:PE X a ta) (hb:PE X b tb) (hm:lz op b=false):PE X (.Compare a [op] [b] pos) (cV r ta tb):=by
 intro pins s Z H Q I h;exact wpAny_Compare1 (VA ha hb I h λv u s2 x y H2 I2 rx ry q=>ho pins s2 Z H2 x y v u Q I2 rx ry q) hm
def eL (t:TE):TT:=λZ H Q=>t Z H λx H'=>∃ k,x=.bl k/\Q k H'
theorem cz {op:Sr}{r:R2}(ho:tK X (dG op) r) (ha:PE X a ta) (hb:PE X b tb) (hm:lz op b=false):PT X (.Compare a [op] [b] pos) (eL (cV r ta tb)):=by
 intro pins s Z H Q I h
 refine Vb (iG (ha pins s Z H _ I h) λv s1 ⟨x,H1,I1,r1,q1⟩=>iG (hb pins s1 Z H1 _ I1 q1) λu s2 ⟨y,H2,I2,r2,q2⟩ =>
  iG (ho pins s2 Z H2 x y v u _ I2 r1 r2 q2) λc s3 ⟨z,H3,I3,r3,k,e,q3⟩=>?_) hm
 subst e;cases r3;exact lQ ⟨H3,I3,q3⟩
def Gg (r r':R2) (ta tb tc:TE):TE:=λZ H Q=>ta Z H λx H1=>tb Z H1 λy H2=>r x y H2 λz H3=>∃ k,z=.bl k /\
 (if k=true then tc Z H3 λw' H4=>r' y w' H4 Q else Q (.bl false) H3)
theorem Iy {op op':Sr}{r r':R2}(ho:tK X (dG op) r) (ho':tK X (dG op') r') (ha:PE X a ta) (hb:PE X b tb) (hc:PE X c tc)
  (hm:lastMarks [op,op'] [b,c]=false:=by with_unfolding_all rfl):PE X (.Compare a [op,op'] [b,c] pos) (Gg r r' ta tb tc):=by
 intro pins s Z H Q I h
 refine Compare_chain (iG (ha pins s Z H _ I h) λv s1 ⟨x,H1,I1,r1,q1⟩=>chain_link (iG (hb pins s1 Z H1 _ I1 q1) λu s2 ⟨y,H2,I2,r2,q2⟩ =>
  iG (ho pins s2 Z H2 x y v u _ I2 r1 r2 q2) λd s3 ⟨z,H3,I3,r3,k,e,q3⟩=>?_)) hm
 subst e;cases r3;refine lQ ?_
 cases k with
 | false=>exact ite_ff ⟨.bl false,H3,I3,rfl,q3⟩
 | true=>exact ite_tt (chain_last (iG (hc pins s3 Z H3 _ I3 q3) λw' s4 ⟨z',H4,I4,r4,q4⟩=>ho' pins s4 Z H4 y z' u w' Q I4 r2 r4 q4))
def SU (K:aa) (x:V) (H:Hp) (k:Bool):Prop :=
 match x with
 | .non=>k=false
 | .bl b=>k=b
 | .int i=>k=(i != 0)
 | .str y=>y.length<=aY/\k=((y.length:Int) != 0)
 | .byt y=>y.size<=aY/\k=((y.size:Int) != 0)
 | .ref p=>(∃ xs,de K H p xs/\k=!xs.isEmpty)\/(∃ xs,mR K H p xs/\k=!xs.isEmpty)\/∃ kvs,H p=some (.dK kvs)/\k=!kvs.isEmpty
 | _=>False
theorem KW {κ:Type} {kvs:List (κ×V)}{vs:List (κ×aj)}(r:KV kvs vs):(!vs.isEmpty)=!kvs.isEmpty:=by
 cases r<;>rfl
theorem BQ {xs:List V}{its:List aj}(r:Vals xs its):(!its.toArray.isEmpty)=!xs.isEmpty:=by
 cases r<;>simp
theorem wk:(aY:Nat)<2^63:=by rw [oF];decide
theorem VD:ZN X (λx H Q=>∃ k,SU X.K x H k/\Q k H):=by
 intro pins s Z H x v Q I rx h;obtain ⟨k,e,q⟩:=h;have hl:=wk;have hs:aY=16777216:=oF
 cases x with
 | non =>
  cases rx;have e':k=false:=e;subst e'
  exact truthy_none ⟨H,I,q⟩
 | bl b =>
  cases rx;have e':k=b:=e;subst e'
  exact lQ ⟨H,I,q⟩
 | int i =>
  obtain ⟨t,rfl⟩:=rx;have e':k=(i != 0):=e;subst e'
  exact PySem.P.truthy_int ⟨H,I,q⟩
 | str y =>
  obtain ⟨t,rfl⟩:=rx;obtain ⟨hy,e'⟩:y.length<=aY/\k=((y.length:Int) != 0):=e;subst e'
  exact PySem.P.truthy_str (by lia) ⟨H,I.tok _,q⟩
 | byt y =>
  obtain ⟨t,rfl⟩:=rx;obtain ⟨hy,e'⟩:y.size<=aY/\k=((y.size:Int) != 0):=e;subst e'
  exact PySem.W.truthy_bytes (by lia) ⟨H,I.tok _,q⟩
 | ref p =>
  cases rx;have e':(∃ xs,de X.K H p xs/\k=!xs.isEmpty)\/(∃ xs,mR X.K H p xs/\k=!xs.isEmpty)\/∃ kvs,H p=some (.dK kvs)/\k=!kvs.isEmpty:=e
  rcases e' with ⟨xs,hx,e'⟩|⟨xs,hx,e'⟩|⟨kvs,hx,e'⟩
  ·subst e';obtain ⟨its,r,pl,hz⟩:=I.list hx;have hlen:=r.length;exact wpAny_truthy_list pl.isList (by simp only [aM];lia) ⟨H,I.tok _,by rw [BQ r];exact q⟩
  ·subst e';obtain ⟨its,r,pl,hz⟩:=I.tuple hx;have hlen:=r.length;exact truthy_tuple pl (by simp only [aM];lia) ⟨H,I.tok _,by rw [BQ r];exact q⟩
  ·subst e';obtain ⟨hz,hS,vs,r,m⟩:kvs.length<=aY/\(p == jh)=false/\∃ vs,KV kvs vs/\s.heap.DictOf (fc X.prog X.w) p vs:=I.fD p _ hx;have hlen:kvs.length=vs.length:=yG r
   exact wpAny_truthy_dict hS m (by lia) ⟨H,I.tok _,by rw [KW r];exact q⟩
 | _=>exact (show False from e).elim
theorem Pi (ha:PE X a ta) (he:∀ whole,isTrue a X.env whole=(do let v ← whole;BA a.pos;nU [v] (truthy v))) :
  PT X a (λZ H Q=>ta Z H λx H'=>∃ k,SU X.K x H' k/\Q k H'):=by
 intro pins s Z H Q I h;exact isTrue_plain (iG (ha pins s Z H _ I h) λv s1 ⟨x,H1,I1,r1,q1⟩=>VD pins s1 Z H1 x v Q I1 r1 q1) (he _)
theorem vals1 {x:V}{us:List aj}(r:Vals [x] us):∃ u,us=[u]/\RelV x u:=by
 cases r with
 | cons r1 r2=>cases r2;exact ⟨_,rfl,r1⟩
theorem vals2 {x y:V}{us:List aj}(r:Vals [x,y] us):∃ u w',us=[u,w']/\RelV x u/\RelV y w':=by
 cases r with
 | cons r1 r2 =>
  cases r2 with
  | cons r3 r4=>cases r4;exact ⟨_,_,rfl,r1,r3⟩
theorem u9 (hc:X.calm=true):oY X (.builtin "max") (λxs H Q=>∃ i j,xs=[.int i,.int j]/\Q (.int (if j>i then j else i)) H):=by
 intro pins s Z H xs us Q I r h;obtain ⟨i,j,rfl,q⟩:=h;obtain ⟨u,w',rfl,⟨t,rfl⟩,⟨t',rfl⟩⟩:=vals2 r
 refine max_two_ints (I.ok.hd hc) λh' tk k=>⟨_,H,I.kept k,?_,q⟩
 by_cases hj:j>i
 ·rw [if_pos hj,if_pos hj];exact ⟨_,rfl⟩
 ·rw [if_neg hj,if_neg hj];exact ⟨_,rfl⟩
theorem rN (hc:X.calm=true):oY X (.builtin "min") (λxs H Q=>∃ i j,xs=[.int i,.int j]/\Q (.int (if j<i then j else i)) H):=by
 intro pins s Z H xs us Q I r h;obtain ⟨i,j,rfl,q⟩:=h;obtain ⟨u,w',rfl,⟨t,rfl⟩,⟨t',rfl⟩⟩:=vals2 r
 refine min_two_ints (I.ok.hd hc) λh' tk k=>⟨_,H,I.kept k,?_,q⟩
 by_cases hj:j<i
 ·rw [if_pos hj,if_pos hj];exact ⟨_,rfl⟩
 ·rw [if_neg hj,if_neg hj];exact ⟨_,rfl⟩
end
end L2
namespace L2
structure Mp (h:cm) (x dx C:af) (mA:bu->Option aj):Prop where
 obj:h.get? x=some (iZ C dx)
 ns:h.Ns1 dx mA
 ne:dx≠x
theorem NI {h:cm}{dx:af}{mA:bu->Option aj}(n:h.Ns1 dx mA):∃ od,h.get? dx=some od/\∀ name,vE name od=some (mA name):=by
 obtain ⟨o,es,ep,ho,hd,hk,_,hm⟩:=n;refine ⟨o,ho,λname=>?_⟩;have e:=hm name;unfold nsFind findBy at e;rw [← Array.find?_toList] at e;unfold vE;rw [hd];dsimp only
 split
 ·rename_i y q
  rw [q] at e;exact congrArg some e
 ·rename_i q
  rw [q] at e
  have a:es.toList.any (·.refKey)=false:=by
   rw [List.any_eq_false];intro y hy;obtain ⟨z,t,hkey⟩:=hk y (Array.mem_toList_iff.mp hy);simp [DictEntry.refKey,hkey]
  have a':¬ es.toList.any (·.refKey)=true:=by rw [a];exact bL
  rw [if_neg a'];exact congrArg some e
theorem Mp.look {h:cm}{x dx C:af}{mA:bu->Option aj}(I:Mp h x dx C mA):∃ od,PySem.W.InstAt h x (iZ C dx) C (some od)/\∀ name,vE name od=some (mA name) :=
 let ⟨od,ho,hl⟩:=NI I.ns
 ⟨od,⟨I.obj,rfl,rfl,ho⟩,hl⟩
section
variable {prog:a9}{w:bQ}{A:bY}{E:aj->ar->Prop}{s:ar}{K:aa}{x dx C f:af}{mA:bu->Option aj}{name:bu}{v:aj}
theorem SV {expr:Bool}{Q:aj->ar->Prop}(X:K.In s.heap) (I:Mp s.heap x dx C mA) (hg:jy K C name=true) (hh:kr K C=true)
  (ha:bK K (.ref C) name=some none) (hv:mA name=some v) (hv':R7 v=true) (h:Q v { s with toks:=s.toks+1 }) :
  aK (aP prog w) A (getAttr (.ref x) name expr) Q E s:=by
 obtain ⟨od,J,hl⟩:=I.look;exact PySem.W.get_value X J (xm hg).1 (PySem.W.findObj_own hh ha rfl (by rw [hl,hv])) hv' h
theorem Pj {pl:Uj Bool}{Q:aj×List aj->ar->Prop}(X:K.In s.heap) (I:Mp s.heap x dx C mA) (hg:jy K C name=true)
  (hf:bK K (.ref C) name=some (some (.ref f))) (ht:tU K (.ref f)=true) (hv:mA name=none) (h:Q (.ref f,[.ref x]) s) :
  aK (aP prog w) A (BB (.ref x) name pl) Q E s:=by
 obtain ⟨od,J,hl⟩:=I.look;exact PySem.W.method_fn X J (xm hg).1 (xm hg).2 hf (beq_iff_eq.mp ht) (by show (vE name od).map (·.isSome)=some false;rw [hl,hv];rfl) h
theorem SW {ns:List bu}{Q:Unit->ar->Prop}(X:K.In s.heap) (I:Mp s.heap x dx C mA)
  (hs:bK K (.ref C) "__setattr__"=some (some (.builtin "object.__setattr__"))) (hp:m9 K C=true) (ht:DT K C name=some none) (hh:kr K C=true)
  (hw:Mv mA ns) (hsz:ns.length<=aY)
  (h:∀ h',Mp h' x dx C (λy=>if y=name then some v else mA y)->iL dx s.heap h'->Q () { s with heap:=h',toks:=s.toks+2 }) :
  aK (aP prog w) A (setAttr (.ref x) name v) Q E s:=by
 obtain ⟨od,J,hl⟩:=I.look;refine PySem.W.set_plain X J hs (PySem.W.osa_open (s:={ s with toks:=s.toks+1 }) (r:=none) X J hp ht λb=>?_);obtain ⟨cd,hc,hd'⟩:=PySem.W.any_some hh;have hx:s.heap.get? x=some ⟨.ref C,some dx,.plain,#[]⟩:=I.obj;refine ae (aq (ae (ae (wpAny_loadPart hx (ae (PySem.W.Looks.here (s:={ s with toks:=s.toks+1 }) (PySem.W.looks_clsIn X hc) ?_))))));rw [hd'];refine aq (a:=some dx) (ae (aq (ae ?_)));refine wpAny_nsSet1 (s:={ s with toks:=s.toks+1 }) I.ns λh' hn2 hs2=>?_;obtain ⟨oD,esD,epD,hoD,hdD,hcD⟩:=hn2.count (PySem.Within.cons name v hw);refine ae (wpAny_lookBehind hoD (by rw [hdD];exact pastItsLine_dict (bz hcD (by rw [bV];lia))) ?_);exact aq (h _ ⟨(hs2.2 _ (Ne.symm I.ne)).trans I.obj,hn2,I.ne⟩ hs2)
theorem Pk {R:Fl->ar->Prop}{vs:List aj}{kw:List (bu×aj)}(X:K.In s.heap) (hm:mh K C=true)
  (hi:bK K (.ref C) "__init__"=some (some (.ref f))) (hf:PySem.W.typeIn K (.ref f)=some (.type "function"))
  (h:kU (aP prog w) (A.under (.builtin "type.__call__" ⟨.ref C::vs,kw⟩)) (.call (.ref f) ⟨.ref (s.heap.objs.size+1)::vs,kw⟩) (PySem.W.InitBack (s.heap.objs.size+1) R)
   { s with heap:=(s.heap.push fT).push (iZ C s.heap.objs.size) }) :
  kU (aP prog w) A (.call (.ref C) ⟨vs,kw⟩) R s:=by
 obtain ⟨hh,g,d,t,os⟩:=s;exact PySem.W.make_core (PySem.W.makes_of X hm) (PySem.W.looks_findIn X hi) (λself=>PySem.W.bind_fn X self hf) (.inl rfl) h
end
def eI (f:bu) (v:V):List (bu×V)->List (bu×V)
 | []=>[(f,v)]
 | (g,x)::r=>if g=f then (g,v)::r else (g,x)::eI f v r
theorem fV (f g:bu) (v:V):∀ fs:List (bu×V),(eI f v fs).lookup g=if g=f then some v else fs.lookup g
 | []=>by
  show ff g [(f,v)]=_
  by_cases h:g=f
  ·have hb:(g == f)=true:=beq_iff_eq.mpr h;simp only [ff,hb,if_pos h]
  ·have hb:(g == f)=false:=beq_eq_false_iff_ne.mpr h
   simp only [ff,hb,if_neg h]
 | (k,x)::r=>by
  have ih:=fV f g v r;rw [show eI f v ((k,x)::r)=(if k=f then (k,v)::r else (k,x)::eI f v r) from rfl]
  by_cases hk:k=f
  ·rw [if_pos hk]
   by_cases h:g=k
   ·have hb:(g == k)=true:=beq_iff_eq.mpr h;simp only [ff,hb,if_pos (h.trans hk)]
   ·have hb:(g == k)=false:=beq_eq_false_iff_ne.mpr h;simp only [ff,hb,if_neg (λe:g=f=>h (e.trans hk.symm))]
  ·rw [if_neg hk]
   by_cases h:g=k
   ·have hb:(g == k)=true:=beq_iff_eq.mpr h;simp only [ff,hb,if_neg (λe:g=f=>hk (h.symm.trans e))]
   ·have hb:(g == k)=false:=beq_eq_false_iff_ne.mpr h;simp only [ff,hb];exact ih
theorem y3 (f:bu) (v:V):∀ fs:List (bu×V),f∈(eI f v fs).map (·.1)/\∀ g,g∈fs.map (·.1)->g∈(eI f v fs).map (·.1)
 | []=>⟨by simp [eI],λg h=>by simp at h⟩
 | (k,x)::r=>by
  obtain ⟨i1,i2⟩:=y3 f v r;rw [show eI f v ((k,x)::r)=(if k=f then (k,v)::r else (k,x)::eI f v r) from rfl]
  by_cases hk:k=f
  ·rw [if_pos hk];subst hk;exact ⟨by simp,λg h=>by simpa using h⟩
  ·rw [if_neg hk];refine ⟨?_,λg h=>?_⟩
   ·rw [bT];exact ak _ i1
   ·rw [bT] at h ⊢
    rcases ax.mp h with e|e
    ·exact ax.mpr (.inl e)
    ·exact ak _ (i2 g e)
theorem Ai (f:bu) (v:V):∀ fs:List (bu×V),(eI f v fs).length<=fs.length+1
 | []=>by simp [eI]
 | (k,x)::r=>by
  have ih:=Ai f v r;rw [show eI f v ((k,x)::r)=(if k=f then (k,v)::r else (k,x)::eI f v r) from rfl]
  by_cases hk:k=f
  ·rw [if_pos hk,bV,bV];lia
  ·rw [if_neg hk,bV,bV];lia
theorem sf.some_of {v:V}{o:Option aj}(r:sf (some v) o):∃ u,o=some u/\RelV v u:=by
 cases o with
 | none=>exact (show False from r).elim
 | some u=>exact ⟨u,rfl,r⟩
theorem sf.none_of {o:Option aj}(r:sf none o):o=none:=by
 cases o with
 | none=>rfl
 | some u=>exact (show False from r).elim
theorem NJ {v:V}{u:aj}(r:RelV v u):R7 u=true:=by
 cases v with
 | non=>cases (show u=eJ from r);rfl
 | bl b=>cases (show u=uW b from r);rfl
 | int i=>obtain ⟨t,e⟩:=(show ∃ t,u=ij i t from r);cases e;rfl
 | str x=>obtain ⟨t,e⟩:=(show ∃ t,u=tT x t from r);cases e;rfl
 | byt b=>obtain ⟨t,e⟩:=(show ∃ t,u=Value.bytes b t from r);cases e;rfl
 | flt b=>obtain ⟨t,e⟩:=(show ∃ t,u=OA b t from r);cases e;rfl
 | ref a=>cases (show u=aF a from r);rfl
 | ty n=>cases (show u=dM n from r);rfl
section
variable {P:a9}{w:bQ}{H H':Hp}{h h':cm}{a C dx:af}{fs fs':List (bu×V)}
theorem Bq (fD:tS P w H h) (e:H a=some (.ins C dx fs)):∃ mA,Mp h a dx C mA/\(∀ f,sf (fs.lookup f) (mA f))/\Mv mA (fs.map (·.1))/\fs.length<=1000/\H dx=some (.own a):=by
 obtain ⟨d,z,ne,ob,mA,n,r,q⟩:=(show fP P w H h a (.ins C dx fs) from fD a _ e)
 exact ⟨mA,⟨ob,n,ne⟩,r,q,z,d⟩
end
structure DX (K:aa) (C:af):Prop where
 pg:jy K C Nq=true
 hd:kr K C=true
 po:m9 K C=true
 sa:bK K (.ref C) "__setattr__"=some (some (.builtin "object.__setattr__"))
theorem DX.get {K:aa}{C:af}(c:DX K C) (f:bu):jy K C f=true:=c.pg
def dY (K:aa) (C:af) (f:bu):Prop:=bK K (.ref C) f=some none
theorem dY.YE {K:aa}{C:af}{f:bu}(n:dY K C f):DT K C f=some none:=by
 unfold DT;rw [show bK K (.ref C) f=some none from n]
 rfl
structure SX (K:aa) (C:af) (m:bu) (f:af):Prop where
 at_:bK K (.ref C) m=some (some (.ref f))
 fn:tU K (.ref f)=true
 kp:fg K (.ref f)=true
section
variable {X:Cx}{pins:List (af×gi)}{Z:St}{H:Hp}{s:ar}{a C dx:af}{fs:List (bu×V)}{f:bu}{v:V}{A:bY}{E:aj->ar->Prop}
theorem BR {b:Bool}{Q:aj->ar->Prop}(I:Inv X pins Z H s) (e:H a=some (.ins C dx fs)) (c:DX X.K C) (n:dY X.K C f) (l:fs.lookup f=some v)
  (h:∀ u s',Inv X pins Z H s'->RelV v u->Q u s'):aK (aP X.prog X.w) A (getAttr (.ref a) f b) Q E s:=by
 obtain ⟨mA,O,r,_,_,_⟩:=Bq I.fD e;obtain ⟨u,hu,ru⟩:=sf.some_of (v:=v) (o:=mA f) (by rw [← l];exact r f);exact SV I.Bc O (c.get f) c.hd n hu (NJ ru) (h u _ (I.tok _) ru)
theorem BS {m:bu}{g:af}{pl:Uj Bool}{Q:aj×List aj->ar->Prop}(I:Inv X pins Z H s) (e:H a=some (.ins C dx fs)) (c:DX X.K C) (k:SX X.K C m g) (l:fs.lookup m=none)
  (h:Q (.ref g,[.ref a]) s):aK (aP X.prog X.w) A (BB (.ref a) m pl) Q E s:=by
 obtain ⟨mA,O,r,_,_,_⟩:=Bq I.fD e;have hn:mA m=none:=sf.none_of (by rw [← l];exact r m);exact Pj I.Bc O (c.get m) k.at_ k.fn hn h
theorem BU {y:V}{u:aj}{Q:Unit->ar->Prop}(I:Inv X pins Z H s) (e:H a=some (.ins C dx fs)) (c:DX X.K C) (n:dY X.K C f) (hl:fs.length<1000) (ry:RelV y u)
  (h:∀ s',Inv X pins Z (upd H a (.ins C dx (eI f y fs))) s'->Q () s'):aK (aP X.prog X.w) A (setAttr (.ref a) f u) Q E s:=by
 obtain ⟨mA,O,r,wi,_,ho⟩:=Bq I.fD e
 have hz:(fs.map (·.1)).length<=aY:=by rw [ag,oF];lia
 refine SW I.Bc O c.sa c.po n.YE c.hd wi hz λh' O' sb=>h _ ?_
 have hd:∃ o,h'.get? dx=some o:=let ⟨o,_,_,e',_⟩:=O'.ns;⟨o,e'⟩
 refine I.write (x:=a) (e:=dx) (by rw [e];exact gU) (.inr ho) (λb q hb z=>(sb.2 b hb).trans z) hd ?_;refine ⟨by rw [aI O.ne];exact ho,?_,O.ne,O'.obj,_,O'.ns,λg=>?_,λg hg=>?_⟩
 ·have:=Ai f y fs;lia
 ·show sf ((eI f y fs).lookup g) (if g=f then some u else mA g)
  rw [fV]
  by_cases q:g=f
  ·rw [if_pos q,if_pos q];exact ry
  ·rw [if_neg q,if_neg q];exact r g
 ·by_cases q:g=f
  ·rw [q];exact (y3 f y fs).1
  ·refine (y3 f y fs).2 g (wi g λz=>hg ?_)
   show (if g=f then some u else mA g)=none
   rw [if_neg q];exact z
theorem Inv.made (I:Inv X pins Z H s):Inv X pins Z (upd (upd H s.heap.objs.size (.own (s.heap.objs.size+1))) (s.heap.objs.size+1) (.ins C s.heap.objs.size []))
  { s with heap:=(s.heap.push fT).push (iZ C s.heap.objs.size) }:=by
 have e1:(s.heap.push fT).get? s.heap.objs.size=some fT:=aN s.heap rfl
 have e2:((s.heap.push fT).push (iZ C s.heap.objs.size)).get? (s.heap.objs.size+1)=some (iZ C s.heap.objs.size):=by
  have:=aN (s.heap.push fT) (o:=iZ C s.heap.objs.size) rfl
  rwa [ib] at this
 have e3:(s.heap.push fT).Ns s.heap.objs.size (λ_=>none):=⟨fT,#[],_,e1,rfl,(λe he=>absurd he (by simp)),λ_=>rfl⟩
 have I1:=I.laid (a:=s.heap.objs.size) (o:=.own (s.heap.objs.size+1)) (h':=s.heap.push fT) (t':=s.toks) (λb u q=>ao _ q) (au _) ⟨_,e1⟩;refine I1.laid (a:=s.heap.objs.size+1) (o:=.ins C s.heap.objs.size []) (t':=s.toks) (λb u q=>ao _ q) (l0 (ib _ _)) ?_;have ne:s.heap.objs.size≠s.heap.objs.size+1:=bf (jR _);refine ⟨by rw [aI ne,aG],aJ _,ne,e2,λ_=>none,(Heap.Ns1.of_empty e3).at λo q=>ao _ q,λ_=>gU,λy hy=>absurd rfl hy⟩
theorem SY {prog:a9}{w:bQ}{env:Ia}{e:Expr}{f:bu}{pos:oZ}{s:ar}{Q:aj->ar->Prop}(hb:R9 e f env (gM e env)=gM e env)
  (h:aK (aP prog w) A (gM e env) (λo s₁=>aK (aP prog w) A (getAttr o f true) Q E s₁) E s):aK (aP prog w) A (gM (.Attribute e f pos) env) Q E s :=
 Attribute_any_ h (by rw [arm_eval_Attribute,hb])
end
def fS (K:aa) (ta:TE) (f:bu):TE:=λZ H Q=>ta Z H λx H1=>∃ a C dx fs v,x=.ref a/\H1 a=some (.ins C dx fs)/\DX K C/\dY K C f/\fs.lookup f=some v/\Q v H1
def wm (K:aa) (ta tv:TE) (f:bu):TS:=λD Z H=>tv Z H λy H1=>ta Z H1 λx H2=>∃ a C dx fs,x=.ref a/\H2 a=some (.ins C dx fs)/\DX K C/\dY K C f/\fs.length<1000 /\
 D.nx Z (upd H2 a (.ins C dx (eI f y fs)))
def VE (X:Cx) (op:HL) (rd:V->V->Hp->VK->Prop):Prop :=
 ∀ (pins:List (af×gi)) (s:ar) (Z:St) (H:Hp) (x y:V) (u v:aj) (Q:VK),Inv X pins Z H s->RelV x u->RelV y v->rd x y H Q->aK (aP X.prog X.w) X.A (Bz op u v) (EP X pins Z Q) X.xe s
def vc (K:aa) (ta tv:TE) (rd:V->V->Hp->VK->Prop) (f:bu):TS:=λD Z H=>ta Z H λx H1=>∃ a C dx fs v,x=.ref a/\H1 a=some (.ins C dx fs)/\DX K C/\dY K C f/\fs.lookup f=some v /\
 tv Z H1 λy H2=>rd v y H2 λz H3=>∃ dx' fs',H3 a=some (.ins C dx' fs')/\fs'.length<1000/\D.nx Z (upd H3 a (.ins C dx' (eI f z fs')))
section
variable {X:Cx}{o e value:Expr}{f:bu}{pos pos' tpos:oZ}{ta tv:TE}
theorem cq (he:PE X e ta) (hb:R9 e f X.env (gM e X.env)=gM e X.env):PE X (.Attribute e f pos) (fS X.K ta f):=by
 intro pins s Z H Q I h;refine SY hb (iG (he pins s Z H _ I h) λu s1 ⟨x,H1,I1,rx,a,C,dx,fs,v,ex,ea,c,n,l,q⟩=>?_);subst ex;obtain rfl:u=aF a:=rx
 exact BR I1 ea c n l λu' s2 I2 ru=>⟨v,H1,I2,ru,q⟩
theorem nu (ha:PE X o ta) (hv:PE X value tv) (hs:Kn value (some (.Attribute o f pos')) pos.line X.env=pure false):PS X (.Assign [.Attribute o f pos'] value pos) (wm X.K ta tv f):=by
 intro pins s Z H D I h;refine plainObj_wpAny_Assign_Attribute (iG (hv pins s Z H _ I h) λu s1 ⟨y,H1,I1,ry,q⟩=>iG (ha pins s1 Z H1 _ I1 q) λov s2 ⟨x,H2,I2,rx,a,C,dx,fs,ex,ea,c,n,l,q2⟩=>?_) hs;subst ex;obtain rfl:ov=aF a:=rx
 exact BU I2 ea c n l ry λs3 I3=>⟨Z,_,I3,q2⟩
theorem vd {op:HL}{rd:V->V->Hp->VK->Prop}(ha:PE X o ta) (hv:PE X value tv) (hop:VE X op rd):PS X (.AugAssign (.Attribute o f tpos) op value pos) (vc X.K ta tv rd f):=by
 intro pins s Z H D I h;refine wpAny_AugAssign_AttributeAny (iG (ha pins s Z H _ I h) λov s1 ⟨x,H1,I1,rx,a,C,dx,fs,v,ex,ea,c,n,l,q⟩=>?_);subst ex;obtain rfl:ov=aF a:=rx;refine BR I1 ea c n l λu s2 I2 ru=>iG (hv pins s2 Z H1 _ I2 q) λw3 s3 ⟨y,H2,I3,ry,q3⟩=>iG (hop pins s3 Z H2 v y u w3 _ I3 ru ry q3) λw4 s4 ⟨z,H3,I4,rz,dx',fs',ea',l',q4⟩=>?_
 exact BU I4 ea' c n l' rz λs5 I5=>⟨Z,_,I5,q4⟩
def NK:V->V->Hp->VK->Prop:=λx y H Q=>∃ i j,x=.int i/\y=.int j/\Q (.int (i+j)) H
theorem BV:VE X .Add NK:=by
 rintro pins s Z H x y u v Q I rx ry ⟨i,j,rfl,rfl,q⟩
 obtain ⟨t,rfl⟩:=(show ∃ t,u=ij i t from rx)
 obtain ⟨t',rfl⟩:=(show ∃ t',v=ij j t' from ry)
 exact Vc ⟨.int (i+j),H,I.tok _,⟨_,rfl⟩,q⟩
end
section
variable {X:Cx}{pins:List (af×gi)}{Z:St}{H:Hp}{s:ar}{A:bY}{E:aj->ar->Prop}{Q:aj->ar->Prop}{c:aj}{b:Bool}
inductive xG (K:aa) (H:Hp):V->aj->Prop where
 | non:xG K H .non (.type "NoneType")
 | bl (x:Bool):xG K H (.bl x) (.type "bool")
 | int (i:Int):xG K H (.int i) (.type "int")
 | str (x:bu):xG K H (.str x) (.type "str")
 | flt (x:UInt64):xG K H (.flt x) (.type "float")
 | lst {a:af}{xs:List V}(e:H a=some (.lst xs)):xG K H (.ref a) (.type "list")
 | frz {a:af}{o:gi}{xs:List V}(e:H a=some (.frz o (.lst xs))):xG K H (.ref a) (.type "list")
 | tup {a:af}{xs:List V}(e:H a=some (.tup xs)):xG K H (.ref a) (.type "tuple")
 | dK {a:af}{kvs:List (dQ×V)}(e:H a=some (.dK kvs)):xG K H (.ref a) (.type "dict")
 | dT {a:af}{kvs:List (List dQ×V)}(e:H a=some (.dT kvs)):xG K H (.ref a) (.type "dict")
 | ins {a C dx:af}{fs:List (bu×V)}(e:H a=some (.ins C dx fs)) (cl:DX K C) (ha:bK K (.ref C) "__class__"=some (some (.builtin "object.__class__")))
   (hn:PySem.W.specialIn K (.builtin "object.__class__") "__get__"=some (some (.builtin "getset_descriptor.__get__"))) (htk:PySem.W.takesIn K (.builtin "object.__class__")=some true)
   (hm:PySem.W.mroIn K C (.type "object")=some true):xG K H (.ref a) (.ref C)
theorem NL {x:V}{u t:aj}(I:Inv X pins Z H s) (rx:RelV x u) (ty:xG X.K H x t) (e:jz X.K t c=some b) (h:∀ tk,Q (.bool b) { s with toks:=tk }) :
  aK (aP X.prog X.w) A (call (.builtin "isinstance") [u,c]) Q E s:=by
 cases ty with
 | non=>cases (show u=eJ from rx);exact fk PySem.W.kitx_none I.Bc gU e (λz=>nomatch z) h
 | bl y=>cases (show u=uW y from rx);exact fk PySem.W.kitx_bool I.Bc gU e (λz=>nomatch z) h
 | int i=>obtain ⟨t,q⟩:=(show ∃ t,u=ij i t from rx);cases q;exact fk PySem.W.kitx_int I.Bc gU e (λz=>nomatch z) h
 | str y=>obtain ⟨t,q⟩:=(show ∃ t,u=tT y t from rx);cases q;exact fk PySem.W.kitx_str I.Bc gU e (λz=>nomatch z) h
 | flt y=>obtain ⟨t,q⟩:=(show ∃ t,u=OA y t from rx);cases q;exact fk PySem.W.kitx_float I.Bc gU e (λz=>nomatch z) h
 | @lst a xs ea =>
  cases (show u=aF a from rx)
  obtain ⟨_,_,n,_,h1⟩:=(show fP X.prog X.w H s.heap a (.lst xs) from I.fD a _ ea)
  exact fk OV I.Bc ⟨_,h1,rfl⟩ e (λz=>nomatch z) h
 | @frz a ob xs ea =>
  cases (show u=aF a from rx)
  obtain ⟨_,_,_,n,_,h1⟩:=(show fP X.prog X.w H s.heap a (.frz ob (.lst xs)) from I.fD a _ ea)
  exact fk OV I.Bc ⟨_,h1,rfl⟩ e (λz=>nomatch z) h
 | @tup a xs ea =>
  cases (show u=aF a from rx)
  obtain ⟨_,_,_,p⟩:=(show fP X.prog X.w H s.heap a (.tup xs) from I.fD a _ ea)
  obtain ⟨o,h1,h2,_⟩:=p
  exact fk PySem.W.kitx_tuple I.Bc ⟨o,h1,h2⟩ e (λz=>nomatch z) h
 | @dK a kvs ea =>
  cases (show u=aF a from rx)
  obtain ⟨_,_,vs,_,p⟩:=(show fP X.prog X.w H s.heap a (.dK kvs) from I.fD a _ ea)
  obtain ⟨o,es,ep,h1,h2,_⟩:=p
  exact fk OW I.Bc ⟨o,h1,h2.1⟩ e (λz=>nomatch z) h
 | @dT a kvs ea =>
  cases (show u=aF a from rx)
  obtain ⟨_,_,xs,_,o,es,ep,h1,h2,_⟩:=(show fP X.prog X.w H s.heap a (.dT kvs) from I.fD a _ ea)
  exact fk OW I.Bc ⟨o,h1,h2.1⟩ e (λz=>nomatch z) h
 | @ins a C dx fs ea cl ha hn htk hm =>
  cases (show u=aF a from rx);obtain ⟨mA,O,_⟩:=Bq I.fD ea;obtain ⟨od,J,_⟩:=O.look;exact fk (PySem.W.kitx_own (cl.get _) cl.hd ha hn htk hm) I.Bc J e (λz=>nomatch z) h
end
end L2
namespace L2
structure kT (k:Nat) (A:bY):Prop where
 hd:A.handled=none
 dp:A.depth+3*k+5<Bd
 un:A.units+16*k+200<ju
theorem kT.mono {j k:Nat}{A:bY}(r:kT k A) (h:j<=k):kT j A:=⟨r.hd,by have:=r.dp;lia,by have:=r.un;lia⟩
theorem kT.deeper {k:Nat}{A:bY}(r:kT (k+1) A) (env:Ia):kT k (A.deeper env) :=
 ⟨r.hd,by have:=r.dp;show A.depth+1+3*k+5<_;lia,by have:=r.un;show A.units+3+16*k+200<_;lia⟩
theorem KY {A:bY}{C:af}{us:List aj}{kw:List (bu×aj)}:(A.under (.builtin "type.__call__" ⟨.ref C::us,kw⟩)).depth=A.depth+1:=by
 first|rfl|simp [KB,Code.weight,Code.isCreation,Code.isGuard,Code.isCaller,Code.frames,Nr,guardIds]
theorem KZ {A:bY}{C:af}{us:List aj}{kw:List (bu×aj)}:(A.under (.builtin "type.__call__" ⟨.ref C::us,kw⟩)).units=A.units+1:=by
 first|rfl|simp [KB,Code.cUnits,Code.frames,Nr]
theorem kT.make {k:Nat}{A:bY}(r:kT (k+1) A) (C:af) (us:List aj) (kw:List (bu×aj)):kT k (A.under (.builtin "type.__call__" ⟨.ref C::us,kw⟩)) :=
 ⟨r.hd,by have:=r.dp;rw [KY];lia,by have:=r.un;rw [KZ];lia⟩
theorem kT.depth {k:Nat}{A:bY}(r:kT k A):A.depth<Bd:=by have:=r.dp;lia
theorem kT.units {k:Nat}{A:bY}(r:kT k A):A.units+64<ju:=by have:=r.un;lia
def bj:TA:=λ_ H Q=>Q [] H
def ay (ta:TE) (tr:TA):TA:=λZ H Q=>ta Z H λx H1=>tr Z H1 λxs H2=>Q (x::xs) H2
section
variable {X:Cx}{e:Expr}{es:List Expr}{te:TE}{t:TA}{pos:oZ}
theorem aH:PA X [] bj:=λ_ _ _ _ H Q I h=>nN ⟨[],H,I,.nil,h⟩
theorem ai (ha:PE X e te) (hr:PA X es t) (hs:bR (e::es) X.env=(false,gM e X.env)::bR es X.env:=by rfl):PA X (e::es) (ay te t):=by
 intro pos pins s Z H Q I h;rw [hs]
 show aK _ _ (Uk ((false,gM e X.env)::jx pos (bR es X.env))) _ _ s
 refine j7 (iG (ha pins s Z H _ I h) λu s1 ⟨x,H1,I1,r1,q1⟩=>?_)
 exact iG (hr pos pins s1 Z H1 _ I1 q1) λus s2 ⟨xs,H2,I2,r2,q2⟩=>⟨x::xs,H2,I2,.cons r1 r2,q2⟩
def mn (t:TA):TE:=λZ H Q=>t Z H λxs H1=>xs.length<=aY/\∀ p,H1 p=none->Q (.ref p) (upd H1 p (.tup xs))
def wo (t:TA):TE:=λZ H Q=>t Z H λxs H1=>xs.length<=aY/\∀ p,H1 p=none->Q (.ref p) (upd H1 p (.lst xs))
theorem gF {x1} (h:PA X es t):PE X (.Tuple es x1 pos) (mn t):=by
 intro pins s Z H Q I hq;refine Xu (iG (h pos pins s Z H _ I hq) λus s1 ⟨xs,H1,I1,r,z,q⟩=>⟨by rw [← r.length];exact z,?_⟩);have hf:H1 s1.heap.objs.size=none:=I1.fD.fresh (au _);refine ⟨.ref s1.heap.objs.size,upd H1 s1.heap.objs.size (.tup xs),I1.laid (t':=s1.toks) (λb u e=>ao _ e) (au _) ?_,rfl,q _ hf⟩;exact ⟨z,us,r,⟨_,aN _ rfl,rfl,_,rfl⟩⟩
theorem oI (h:PA X es t):PE X (.List es pos) (wo t):=by
 intro pins s Z H Q I hq;refine wpAny_List_spliced (iG (h pos pins s Z H _ I hq) λus s1 ⟨xs,H1,I1,r,z,q⟩=>⟨by rw [← r.length];exact z,?_⟩);have hf:H1 s1.heap.objs.size=none:=I1.fD.fresh (au _);refine ⟨.ref s1.heap.objs.size,upd H1 s1.heap.objs.size (.lst xs),I1.laid (t':=s1.toks) (λb u e=>ao _ e) (au _) ?_,rfl,q _ hf⟩;exact ⟨z,us,0,r,aN _ rfl⟩
end
abbrev Sp:=List V->Hp->VK->XK->Prop
abbrev Kx:=List Ia->Hp->ar->XK->aj->ar->Prop
structure Mj (P:a9) (w:bQ) (K:aa) (mg:bu->Option aj) (base:cm) (A:bY) (outer:List Ia) (s:ar) (H:Hp):Prop where
 frames:A.frames=some outer
 mod:Mod K mg base
 bs:∀ b o,base.get? b=some o->s.heap.get? b=some o/\H b=none
 RX:base.objs.size<=s.heap.objs.size
 z6:s.heap.FunFrames base outer
 U7:∀ b∈Ov outer,H b=none
 fD:tS P w H s.heap
 bare:yH s.gens
def CE (outer:List Ia) (P:a9) (w:bQ) (H:Hp) (s:ar) (Q:VK) (u:aj) (s':ar):Prop :=
 ∃ v H',s'.os=s.os/\yH s'.gens/\Un (Ov outer) [] H H' s.heap s'.heap/\tS P w H' s'.heap/\RelV v u/\Q v H'
def CR (CX:Kx) (outer:List Ia) (P:a9) (w:bQ) (H:Hp) (s:ar) (Q:VK) (E:XK) (r:Fl) (s':ar):Prop :=
 match r with
 | .ok (.ret u)=>CE outer P w H s Q u s'
 | .ok _=>False
 | .error e=>CX outer H s E e s'
structure dF (P:a9) (w:bQ) (K:aa) (mg:bu->Option aj) (base:cm) (CX:Kx) (k:Nat) (f:af) (fd:fB) (ps:List bu) (sp:Sp):Prop where
 len:∀ vs H Q E,sp vs H Q E->vs.length=ps.length
 run:∀ (A:bY) (outer:List Ia) (s:ar) (H:Hp) (args:Args) (us:List aj) (vs:List V) (Q:VK) (E:XK),kT k A->Mj P w K mg base A outer s H->HM s fd args (ps.zip us)->Vals vs us->sp vs H Q E ->
  kU (aP P w) A (.call (.ref f) args) (CR CX outer P w H s Q E) s
theorem Mj.make {P:a9}{w:bQ}{K:aa}{mg:bu->Option aj}{base:cm}{A:bY}{outer:List Ia}{s:ar}{H:Hp}(e:Mj P w K mg base A outer s H) (C:af) (us:List aj) (kw:List (bu×aj)) :
  Mj P w K mg base (A.under (.builtin "type.__call__" ⟨.ref C::us,kw⟩)) outer s H:=⟨by first|exact e.frames|(simpa [KB,Code.envs,Nr,pushEnvs] using e.frames),e.mod,e.bs,e.RX,e.z6,e.U7,e.fD,e.bare⟩
section
variable {X:Cx}{pins:List (af×gi)}{Z:St}{H:Hp}{s s':ar}
theorem Inv.YL (I:Inv X pins Z H s):Mj X.prog X.w X.K X.mg X.base X.A X.stack s H :=
 ⟨I.ok.frames,I.ok.mod,I.bs,bz I.ok.RX I.sz,I.stack,I.Np,I.fD,I.bare⟩
theorem Inv.after {Q:VK}{u:aj}(I:Inv X pins Z H s) (h:CE X.stack X.prog X.w H s Q u s'):EP X pins Z Q u s':=by
 obtain ⟨v,H',os,bare,un,fD,r,q⟩:=h;obtain ⟨hh,g,d,t,os'⟩:=s';obtain rfl:os'=s.os:=os;exact ⟨v,H',I.call (h':=hh) (g':=g) (d':=d) (t':=t) (ch:=[]) un fD bare (λb z=>absurd z (by simp)),r,q⟩
end
def dS (sp:Sp) (dvs:List V) (E:XK) (t:TA):TE:=λZ H Q=>t Z H λvs H1=>sp (vs++dvs) H1 Q E
def fh (C:af) (m:bu) (sp:Sp) (dvs:List V) (E:XK) (ta:TE) (t:TA):TE:=λZ H Q=>ta Z H λx H1=>∃ a dx fs,x=.ref a/\H1 a=some (.ins C dx fs)/\fs.lookup m=none /\
 t Z H1 λvs H2=>sp (x::(vs++dvs)) H2 Q E
def Iz (C:af) (sp:Sp) (dvs:List V) (E:XK) (t:TA):TE:=λZ H Q=>t Z H λvs H1=>∀ x dx,H1 x=none->H1 dx=none->dx≠x ->
 sp (.ref x::(vs++dvs)) (upd (upd H1 dx (.own x)) x (.ins C dx [])) (λv H2=>v=.non/\Q (.ref x) H2) E
def Binds (K:aa) (fd:fB) (ps:List bu) (ds:List aj):Prop :=
 ∀ (s:ar) (us:List aj),K.In s.heap->(us++ds).length=ps.length->HM s fd ⟨us,[]⟩ (ps.zip (us++ds))
theorem Binds.all {K:aa}{fd:fB}{ps:List bu}(h:∀ us:List aj,us.length=ps.length->HN fd ⟨us,[]⟩=pure (ps.zip us)):Binds K fd ps []:=λs us _ hl=>by
 rw [vF] at hl ⊢;exact .of_eq (h us hl)
def qS (CX:Kx) (X:Cx) (E:XK):Prop:=∀ (pins:List (af×gi)) (Z:St) (H:Hp) (s:ar) (e:aj) (s':ar),Inv X pins Z H s->CX X.stack H s E e s'->X.xe e s'
section
variable {X:Cx}{CX:Kx}{k:Nat}{f C:af}{fd:fB}{ps:List bu}{sp:Sp}{dvs:List V}{ds:List aj}{E:XK}{x m:bu}{p pos apos:oZ}{e o:Expr}{es:List Expr}{ta:TE}{t:TA}
theorem K0 {pins:List (af×gi)}{Z:St}{H:Hp}{s:ar}{Q:VK}{us:List aj}{vs:List V}(F:dF X.prog X.w X.K X.mg X.base CX k f fd ps sp) (hr:kT k X.A) (hb:Binds X.K fd ps ds) (hd:Vals dvs ds) (hx:qS CX X E)
  (I:Inv X pins Z H s) (r:Vals vs us) (h:sp (vs++dvs) H Q E):aK (aP X.prog X.w) X.A (call (.ref f) us) (EP X pins Z Q) X.xe s:=by
 have r2:Vals (vs++dvs) (us++ds):=r.append hd
 have hl:(us++ds).length=ps.length:=by rw [← r2.length];exact F.len _ _ _ _ h
 refine OC (pE (F.run X.A X.stack s H ⟨us,[]⟩ (us++ds) (vs++dvs) Q E hr I.YL (hb s us I.Bc hl) r2 h) λr s' hq=>?_)
 cases r with
 | error e=>exact hx pins Z H s e s' I hq
 | ok fl =>
  cases fl with
  | ret u=>exact I.after hq
  | next=>exact iO hq
  | brk=>exact iO hq
  | cont=>exact iO hq
theorem SZ (F:dF X.prog X.w X.K X.mg X.base CX k f fd ps sp) (hr:kT k X.A) (hg:Gl X x) (hm:X.mg x=some (.ref f)) (hk:fg X.K (.ref f)=true) (hb:Binds X.K fd ps ds) (hd:Vals dvs ds) (hx:qS CX X E)
  (ha:PA X (e::es) t) (hdb:(x == ("__debug__":bu))=false:=by decide) (he:bR (e::es) X.env=(false,gM e X.env)::bR es X.env:=by rfl) (hpl:(jx pos (bR es X.env)).any (·.1)=false:=by rfl) :
  PE X (.Call (.Name x p) (e::es) [] pos) (dS sp dvs E t):=by
 intro pins s Z H Q I h;refine eW (Gd I hg hm ?_ hdb);refine yK (h₀:=X.base) I.ok.mod.YF hk (iG (ha pos pins s Z H _ I h) λus s1 ⟨vs,H1,I1,r,q⟩=>⟨I1.Bc,?_⟩) he hpl;exact K0 F hr hb hd hx I1 r q
theorem Ta {pl:Uj Bool}(he:PE X o ta) (c:DX X.K C) (hm:SX X.K C m f) (F:dF X.prog X.w X.K X.mg X.base CX k f fd ps sp) (hr:kT k X.A) (hb:Binds X.K fd ps ds) (hd:Vals dvs ds) (hx:qS CX X E) (ha:PA X (e::es) t)
  (hst:bR (e::es) X.env=(false,gM e X.env)::bR es X.env:=by rfl) (hpl:(jx pos (bR es X.env)).any (·.1)=false:=by rfl)
  (ht:gM (.Call (.Attribute o m apos) (e::es) [] pos) X.env=(do
   let ov ← gM o X.env
   BA apos.atName
   let (f,first) ← nU [ov] (BB ov m pl)
   WZ pos f first (jx pos (bR (e::es) X.env)) (OD pos (Be [] X.env))):=by rfl) :
  PE X (.Call (.Attribute o m apos) (e::es) [] pos) (fh C m sp dvs E ta t):=by
 intro pins s Z H Q I h;refine KC (pl:=pl) (iG (he pins s Z H _ I h) λu s1 ⟨x,H1,I1,rx,a,dx,fs,ex,ea,l,q⟩=>?_) ht;subst ex;obtain rfl:u=aF a:=rx;refine BS I1 ea c hm l ?_;refine yK (first:=[.ref a]) (h₀:=X.base) I.ok.mod.YF hm.kp (iG (ha pos pins s1 Z H1 _ I1 q) λus s2 ⟨vs,H2,I2,r,q2⟩=>⟨I2.Bc,?_⟩) hst hpl;exact K0 (us:=.ref a::us) (vs:=.ref a::vs) F hr hb hd hx I2 (.cons rfl r) q2
theorem Pl {pl:Uj Bool}(he:PE X o ta) (c:DX X.K C) (hm:SX X.K C m f) (F:dF X.prog X.w X.K X.mg X.base CX k f fd ps sp) (hr:kT k X.A) (hb:Binds X.K fd ps ds) (hd:Vals dvs ds) (hx:qS CX X E)
  (ht:gM (.Call (.Attribute o m apos) [] [] pos) X.env=(do
   let ov ← gM o X.env
   BA apos.atName
   let (f,first) ← nU [ov] (BB ov m pl)
   WZ pos f first (jx pos (bR [] X.env)) (OD pos (Be [] X.env))):=by rfl) :
  PE X (.Call (.Attribute o m apos) [] [] pos) (fh C m sp dvs E ta bj):=by
 intro pins s Z H Q I h;refine KC (pl:=pl) (iG (he pins s Z H _ I h) λu s1 ⟨x,H1,I1,rx,a,dx,fs,ex,ea,l,q⟩=>?_) ht;subst ex;obtain rfl:u=aF a:=rx;refine BS I1 ea c hm l ?_;exact PySem.W.callWith_K0 (first:=[.ref a]) I1.Bc hm.kp (K0 (us:=[.ref a]) (vs:=[.ref a]) F hr hb hd hx I1 (.cons rfl .nil) q)
structure Mk (K:aa) (C f:af):Prop where
 makes:mh K C=true
 init:bK K (.ref C) "__init__"=some (some (.ref f))
 fn:tU K (.ref f)=true
 kp:fg K (.ref C)=true
theorem Pm {pins:List (af×gi)}{Z:St}{H:Hp}{s:ar}{Q:VK}{us:List aj}{vs:List V}(M:Mk X.K C f) (F:dF X.prog X.w X.K X.mg X.base CX k f fd ps sp) (hr:kT (k+1) X.A) (hb:Binds X.K fd ps ds) (hd:Vals dvs ds)
  (hx:qS CX X E) (I:Inv X pins Z H s) (r:Vals vs us)
  (h:∀ x dx,H x=none->H dx=none->dx≠x->sp (.ref x::(vs++dvs)) (upd (upd H dx (.own x)) x (.ins C dx [])) (λv H2=>v=.non/\Q (.ref x) H2) E) :
  aK (aP X.prog X.w) X.A (call (.ref C) us) (EP X pins Z Q) X.xe s:=by
 have hq:=h (s.heap.objs.size+1) s.heap.objs.size (I.fD.fresh (fQ _)) (I.fD.fresh (au _)) (bf (jR _));have I2:=Inv.made (C:=C) I;have r2:Vals (V.ref (s.heap.objs.size+1)::(vs++dvs)) (aF (s.heap.objs.size+1)::(us++ds)):=.cons rfl (r.append hd)
 have hl:(aF (s.heap.objs.size+1)::us++ds).length=ps.length:=by
  have e:=r2.length;rw [F.len _ _ _ _ hq] at e;exact e.symm
 refine OC (Pk (f:=f) I.Bc M.makes M.init (beq_iff_eq.mp M.fn) (pE (F.run _ X.stack _ _ ⟨aF (s.heap.objs.size+1)::us,[]⟩ (aF (s.heap.objs.size+1)::(us++ds)) _ _ E (hr.make C us [])
  (I2.YL.make C us []) (hb _ (aF (s.heap.objs.size+1)::us) I2.Bc hl) r2 hq) λr s' hq'=>?_))
 cases r with
 | error e=>exact hx pins Z _ _ e s' I2 hq'
 | ok fl =>
  cases fl with
  | ret u =>
   obtain ⟨v,H',I3,rv,ev,q3⟩:=I2.after hq';subst ev
   exact ⟨rv,⟨V.ref (s.heap.objs.size+1),H',I3,rfl,q3⟩⟩
  | next=>exact iO hq'
  | brk=>exact iO hq'
  | cont=>exact iO hq'
theorem Gh (M:Mk X.K C f) (F:dF X.prog X.w X.K X.mg X.base CX k f fd ps sp) (hr:kT (k+1) X.A) (hg:Gl X x) (hm:X.mg x=some (.ref C)) (hb:Binds X.K fd ps ds) (hd:Vals dvs ds) (hx:qS CX X E)
  (ha:PA X (e::es) t) (hdb:(x == ("__debug__":bu))=false:=by decide) (he:bR (e::es) X.env=(false,gM e X.env)::bR es X.env:=by rfl) (hpl:(jx pos (bR es X.env)).any (·.1)=false:=by rfl) :
  PE X (.Call (.Name x p) (e::es) [] pos) (Iz C sp dvs E t):=by
 intro pins s Z H Q I h;refine eW (Gd I hg hm ?_ hdb);refine yK (h₀:=X.base) I.ok.mod.YF M.kp (iG (ha pos pins s Z H _ I h) λus s1 ⟨vs,H1,I1,r,q⟩=>⟨I1.Bc,?_⟩) he hpl;exact Pm M F hr hb hd hx I1 r q
end
section
variable {X:Cx}{CX:Kx}{k:Nat}{f C:af}{fd:fB}{ps ks:List bu}{sp:Sp}{E:XK}{x m:bu}{p pos apos kpos:oZ}{e o:Expr}{es:List Expr}{kws:List Keyword}{te ta:TE}{t tk:TA}{nm:Option bu}
variable {g:List aj->List aj->List aj}{gV:List V->List V->List V}
end
structure bU (N P:List bu) (sc:lh):Prop where
 kind:sc.kind=.function
 co:sc.isCoroutine=false
 gen:sc.isGenerator=false
 nd:N.Nodup
 pre:N.take P.length=P
 par:∀ x∈P,sc.names.lookup x=some .local\/sc.names.lookup x=some .cell
 WT:∀ y∈sc.names,y.2≠.free
theorem Fw {kindOf:bu->Option lp}{x:bu}:∀ {binds:List (bu×aj)}{m:bu->Option aj},(∀ v,(x,v)∉binds)->Su kindOf binds m x=m x
 | [],_,_=>rfl
 | (n,v)::r,m,h=>by
  unfold Su;rw [Fw λw hw=>h w (ak _ hw)]
  split
  ·have:x≠n:=by rintro rfl;exact h v av
   simp [this]
  ·rfl
theorem Fx {kindOf:bu->Option lp}{x:bu}:∀ {binds:List (bu×aj)}{m:bu->Option aj},(∀ v,(x,v)∉binds)->Sv kindOf binds m x=m x
 | [],_,_=>rfl
 | (n,v)::r,m,h=>by
  unfold Sv;rw [Fx λw hw=>h w (ak _ hw)]
  split
  ·rfl
  ·have:x≠n:=by rintro rfl;exact h v av
   simp [this]
theorem Fy {kindOf:bu->Option lp}{x:bu}{v:aj}:∀ {P:List bu}{vs:List aj}{i:Nat}{m:bu->Option aj},P.Nodup->P[i]?=some x->vs[i]?=some v->kindOf x=some .local ->
  Su kindOf (P.zip vs) m x=some v
 | [],_,_,_,_,h,_,_=>by simp at h
 | _::_,[],_,_,_,_,h,_=>by simp at h
 | p::P,w::vs,0,m,nd,h1,h2,hk=>by
  simp at h1 h2;subst h1;subst h2
  show Su kindOf ((p,w)::P.zip vs) m p=_
  unfold Su;rw [Fw λv hv=>(bA.mp nd).1 (vG hv).1,if_pos hk]
  simp
 | p::P,w::vs,i+1,m,nd,h1,h2,hk=>by
  show Su kindOf ((p,w)::P.zip vs) m x=_
  unfold Su;exact Fy (i:=i) (bA.mp nd).2 (by simpa using h1) (by simpa using h2) hk
theorem Fz {kindOf:bu->Option lp}{x:bu}{v:aj}:∀ {P:List bu}{vs:List aj}{i:Nat}{m:bu->Option aj},P.Nodup->P[i]?=some x->vs[i]?=some v->kindOf x≠some .local ->
  Sv kindOf (P.zip vs) m x=some v
 | [],_,_,_,_,h,_,_=>by simp at h
 | _::_,[],_,_,_,_,h,_=>by simp at h
 | p::P,w::vs,0,m,nd,h1,h2,hk=>by
  simp at h1 h2;subst h1;subst h2
  show Sv kindOf ((p,w)::P.zip vs) m p=_
  unfold Sv;rw [Fx λv hv=>(bA.mp nd).1 (vG hv).1,if_neg hk]
  simp
 | p::P,w::vs,i+1,m,nd,h1,h2,hk=>by
  show Sv kindOf ((p,w)::P.zip vs) m x=_
  unfold Sv;exact Fz (i:=i) (bA.mp nd).2 (by simpa using h1) (by simpa using h2) hk
def start (N:List bu) (vs:List V):St:=vs.map some++rK (N.length-vs.length) none
def IA (CX:Kx) (P:a9) (w:bQ) (K:aa) (mg:bu->Option aj) (base:cm) (N:List bu) (qual:bu) (scope:lh) (f:af) (cd:aj) (A:bY) (outer:List Ia) (s:ar) (H:Hp) (E:XK):Cx where
 prog:=P
 w:=w
 K:=K
 mg:=mg
 base:=base
 A:=A.deeper (yL qual scope s.heap.objs.size f cd)
 N:=N
 s₀:=s
 H₀:=H
 env:=yL qual scope s.heap.objs.size f cd
 outer:=outer
 stack:=yL qual scope s.heap.objs.size f cd::outer
 ex:=[]
 calm:=true
 fn:=λ_=>true
 pn:=[]
 xe:=λe s'=>aK (aP P w) (A.deeper (yL qual scope s.heap.objs.size f cd)) (leaving (yL qual scope s.heap.objs.size f cd) e) (λ_ s''=>CX outer H s E e s'') (λe' s''=>CX outer H s E e' s'') s'
theorem IB {sc:lh}{n:Nat}{x:bu}(h:sc.names.lookup x=some .cell):∃ c,(cellsFrom n sc.names []).lookup x=some c:=by
 have q:=Kp sc.names n [] (.inl h);exact Ib.mp q
theorem NM {CX:Kx}{P:a9}{w:bQ}{K:aa}{mg:bu->Option aj}{base:cm}{N ps:List bu}{qual:bu}{scope:lh}{f:af}{cd:aj}{A:bY}{outer:List Ia}{s s1:ar}{H:Hp}{E:XK}{us:List aj}{vs:List V}
  (S:bU N ps scope) (hd:A.handled=none) (e0:Mj P w K mg base A outer s H) (hl:vs.length=ps.length) (r:Vals vs us)
  (x:InCallC s s.heap.objs.size (Su (yL qual scope s.heap.objs.size f cd).kindOf (ps.zip us) λ_=>none) (cellsFrom (s.heap.objs.size+1) scope.names []) (Sv (yL qual scope s.heap.objs.size f cd).kindOf (ps.zip us) λ_=>none) s1) :
  Inv (IA CX P w K mg base N qual scope f cd A outer s H E) [] (start N vs) H s1:=by
 have hpl:ps.length<=N.length:=by have:=congrArg df S.pre;rw [bO] at this;lia
 obtain ⟨h1,tk,rfl,hk⟩:=x.done;have noA:∀ b:af,b∉(IA CX P w K mg base N qual scope f cd A outer s H E).ex:=λb z=>absurd (show b∈([]:List af) from z) (by simp)
 refine ⟨⟨e0.mod,S.kind,rfl,rfl,au _,λy z c h1 h2=>?_,λy hy=>?_,λy c _ h=>?_,λ_=>hd,Around.frames_deeper e0.frames,.inr ⟨rfl,rfl⟩,λb z=>absurd z (noA b),e0.bs,e0.RX,λb _ _=>noA b,λb z=>absurd z (noA b),e0.z6,e0.U7⟩,
  rfl,e0.bare,Un.kept hk,⟨_,x.toInCall.ns,λi y v h1 h2 h3=>?_⟩,λy c h=>⟨_,x.cell y c h⟩,e0.fD.fresh (au _),λy c h=>?_,λp hp=>absurd (show p∈([]:List (af×gi)) from hp) (by simp),e0.fD.kept hk,?_⟩
 ·exact name_of_addr x.apart (l5 h1) (l5 h2)
 ·have hy:scope.names.lookup y=some .cell\/scope.names.lookup y=some .free:=hy
  rcases hy with hy|hy
  ·exact IB hy
  ·exact absurd rfl (S.WT _ (l5 hy))
 ·exact ki (x.above y c (l5 h))
 ·have hi:i<vs.length:=by
   unfold start at h2
   by_cases hi:i<vs.length
   ·exact hi
   ·rw [eK (by simpa using hi)] at h2;rw [Mw] at h2
    split at h2<;>cases h2
  have ha:vs[i]?=some v:=by
   unfold start at h2;rw [eX (by simpa using hi),aD] at h2
   cases e:vs[i]? with
   | none=>rw [e] at h2;cases h2
   | some a=>rw [e] at h2;cases h2;rfl
  obtain ⟨u,hu,rv⟩:=r.get ha
  have hp:ps[i]?=some y:=by
   rw [← S.pre,List.getElem?_take_of_lt (by lia)];exact h1
  have ndP:ps.Nodup:=by rw [← S.pre];exact S.nd.sublist (List.take_sublist _ _)
  refine ⟨u,rv,?_⟩
  rcases S.par y (aW hp) with k|k
  ·exact .inl ⟨k,Fy ndP hp hu k⟩
  ·obtain ⟨c,e⟩:=IB (n:=s.heap.objs.size+1) k;refine .inr ⟨.inl k,c,e,?_⟩;have q:=x.cell y c e;rw [Fz ndP hp hu (by show scope.names.lookup y≠_;rw [k];decide)] at q;exact q
 ·exact e0.fD.fresh (ki (x.above y c (l5 h)))
 ·unfold start
  show _=N.length
  rw [bq,ag,v9];lia
theorem UD {CX:Kx}{P:a9}{w:bQ}{K:aa}{mg:bu->Option aj}{base:cm}{k:Nat}{f:af}{name qual:bu}{params:qG}{body:List dU}{scope:lh}{dV kV doc pm sr ct oc:aj}{an od:Option af}
  {osl:Array (Option aj)}{N ps:List bu}{sp:Sp}(lk:K.lookup f=some ⟨oc,od,.func (jc name qual params body scope dV kV doc pm an sr ct),osl⟩) (hcd:qH K sr qual=true) (S:bU N ps scope)
  (len:∀ vs H Q E,sp vs H Q E->vs.length=ps.length)
  (hbody:∀ (A:bY) (outer:List Ia) (s:ar) (H:Hp) (vs:List V) (Q:VK) (E:XK),kT k (A.deeper (yL qual scope s.heap.objs.size f sr))->sp vs H Q E ->
   ∃ t,Mm (IA CX P w K mg base N qual scope f sr A outer s H E) body t/\t { nx:=λ_ H'=>Q .non H',rt:=Q } (start N vs) H) :
  dF P w K mg base CX (k+1) f (jc name qual params body scope dV kV doc pm an sr ct) ps sp:=by
 refine ⟨len,λA outer s H args us vs Q E hr e0 hb r hsp=>?_⟩;have hl:=len _ _ _ _ hsp;have KX:K.In s.heap:=e0.mod.YF.keeps λb o e=>(e0.bs b o e).1;have lim:s.heap.NoLimit:=e0.mod.nolimit.keeps λb o e=>(e0.bs b o e).1
 have hkind:∀ y∈ps.zip us,scope.names.lookup y.1=some .local\/(scope.names.lookup y.1=some .cell/\((cellsFrom (s.heap.objs.size+1) scope.names []).lookup y.1).isSome=true):=λ⟨n,v⟩ hy=>by
  rcases S.par n (vG hy).1 with q|q
  ·exact .inl q
  ·exact .inr ⟨q,Kp _ _ _ (.inl q)⟩
 refine codeAny_call_function hr.depth (KX _ _ lk) rfl S.co S.gen rfl (PySem.W.codeRec_of KX hcd) (hb _ _ _ _ ?_);refine wpAny_newFunctionEnv_cells S.kind hkind λenv he s1 x=>?_;subst he;refine ⟨lim.keeps x.toInCall.keep,codeAny_func ?_⟩;obtain ⟨t,ht,hq⟩:=hbody A outer s H vs Q E (hr.deeper _) hsp;have I:Inv (IA CX P w K mg base N qual scope f sr A outer s H E) [] (start N vs) H s1:=NM S hr.hd e0 hl r x;refine dZ (ht [] s1 (start N vs) H _ I hq) (λfl s' hs=>?_) λe s' hs=>hs
 have fin:∀ {σ':St}{H':Hp}{v:V}{u:aj},Inv (IA CX P w K mg base N qual scope f sr A outer s H E) [] σ' H' s'->RelV v u->Q v H'->CE outer P w H s Q u s' :=
  λ{σ' H' v u} J rv q=>⟨v,H',J.os,J.bare,J.base,J.fD,rv,q⟩
 cases fl with
 | ret u =>
  obtain ⟨v,σ',H',J,rv,q⟩:=hs
  exact fin J rv q
 | next =>
  obtain ⟨σ',H',J,q⟩:=hs
  exact fin (v:=V.non) (u:=eJ) J rfl q
 | brk =>
  obtain ⟨_,_,_,q⟩:=hs
  exact iO q
 | cont =>
  obtain ⟨_,_,_,q⟩:=hs;exact iO q
end L2
namespace L2
section
variable {X:Cx}{x:bu}{p pos:oZ}{e:Expr}{es:List Expr}{t:TA}{id T:String}{r:List V->Hp->VK->Prop}
def qT (r:List V->Hp->VK->Prop) (t:TA):TE:=λZ H Q=>t Z H λvs H1=>r vs H1 Q
theorem cg (hc:oY X (.builtin id) r) (hg:Gl X x) (hm:X.mg x=none) (hv:dw x=some (.builtin id)) (ha:PA X (e::es) t) (hn:x≠"__name__":=by decide) (hdb:(x == ("__debug__":bu))=false:=by decide)
  (he:bR (e::es) X.env=(false,gM e X.env)::bR es X.env:=by rfl) (hpl:(jx pos (bR es X.env)).any (·.1)=false:=by rfl):PE X (.Call (.Name x p) (e::es) [] pos) (qT r t):=by
 intro pins s Z H Q I h;refine eW (pU I hg hm hv ?_ hn hdb);exact xu (iG (ha pos pins s Z H _ I h) λus s1 ⟨vs,H1,I1,r1,q1⟩=>hc pins s1 Z H1 vs us Q I1 r1 q1) he hpl
end
end L2
namespace HT
open PySem PyProof.Rows
def lexLt:List Int->List Int->Bool
 | [],[]=>false
 | [],_::_=>true
 | _::_,[]=>false
 | x::xs,y::ys=>if x=y then lexLt xs ys else decide (x<y)
theorem BW (x y:Int) (xs ys:List Int):lexLt (x::xs) (y::ys)=if x=y then lexLt xs ys else decide (x<y):=rfl
theorem D7:lexLt [] []=false:=rfl
theorem BX (y:Int) (ys:List Int):lexLt [] (y::ys)=true:=rfl
theorem BY (x:Int) (xs:List Int):lexLt (x::xs) []=false:=rfl
theorem Pn (A:bY) (s:ar) (a:Int) (t:Xr) (c:Int) (u:Xr):∃ e,SeqAt.EqAt A s (.int a t) (.int c u) e/\(e=true↔a=c) :=
 ⟨(a == c),jD a t c u,by simp⟩
theorem Po (A:bY) (s:ar) (a:Int) (t:Xr) (c:Int) (u:Xr) (prog:a9) (w:bQ) (E:aj->ar->Prop) (Q:aj->ar->Prop) (h:Q (.bool (decide (a<c))) s) :
  aK (aP prog w) A (richCompare .Lt (.int a t) (.int c u)) Q E s :=
 (Ss h:aK (aP prog w) A (dG .Lt (.int a t) (.int c u)) Q E s)
section
open PySem.SeqAt
open PySem.AutoSeq1 (wpAny_loadPart')
open PySem.MeetsSeq PySem.MeetsSeq2 PySem.MeetsSeq3
theorem D8 (l b:af) (items items2:Array aj) (n n2:Nat) (dd dd2:Option af) (sl sl2:Array (Option aj)) (ns ms:List Int) (hi:fR items.toList ns) (hj:fR items2.toList ms) :
  Meets (kg.«tuple.__lt__» ⟨[.ref l,.ref b],[]⟩)
   (λ_ R s=>s.heap.get? l=some { cls:=.type "tuple",dict:=dd,data:=.seq items n,slots:=sl }/\s.heap.get? b=some { cls:=.type "tuple",dict:=dd2,data:=.seq items2 n2,slots:=sl2 } /\
    R (.ok (.ret (.bool (lexLt ns ms)))) s) :=
 .of_wp λprog w A R s h=>by
  obtain ⟨hp,g,d,tk,os⟩:=s;obtain ⟨hl,hb,h⟩:=h;have f2:=AutoSeq1.sub_tuple_tuple
  have z1:items.size=ns.length:=by rw [← hi.length];simp
  have z2:items2.size=ms.length:=by rw [← hj.length];simp
  wp_walk using wpAny_loadPart' hl,wpAny_loadPart' hb,wpAny_forIn_list _ (λrest b s'=>b.1=none/\s'=⟨hp,g,d,tk,os⟩/\∃ (vs ws:List aj) (ns' ms':List Int),rest=vs.zip ws /\
   fR vs ns'/\fR ws ms'/\ns'.length+items2.size=ms'.length+items.size/\R (.ok (.ret (.bool (lexLt ns' ms')))) ⟨hp,g,d,tk,os⟩) _
  case turn =>
   rintro ⟨y,x⟩ rest b s' ⟨hb',rfl,vs,ws,ns',ms',hz,hvi,hwi,hlen,hR⟩
   cases hvi with
   | nil=>rw [List.zip_nil_left] at hz;cases hz
   | cons a t hvi' =>
    cases hwi with
    | nil=>rw [List.zip_nil_right] at hz;cases hz
    | cons c u hwi' =>
     rw [kh] at hz
     injection hz with hyx hrest
     injection hyx with hy hx
     subst hy hx;rw [BW] at hR;simp only [bV] at hlen;obtain ⟨e,he,hiff⟩:=Pn A.in1 ⟨hp,g,d,tk,os⟩ a t c u;refine ae (he prog w _ _ ?_)
     cases e with
     | true =>
      rw [if_pos (hiff.mp rfl)] at hR
      wp_walk
      exact ⟨rfl,rfl,_,_,_,_,hrest,hvi',hwi',by lia,hR⟩
     | false =>
      rw [if_neg (λq=>absurd (hiff.mpr q) bL)] at hR;have hri:=Po A.in1 ⟨hp,g,d,tk,os⟩ a t c u prog w
      wp_walk using hri
      exact ⟨_,rfl,by simpa using hR⟩
  case fin =>
   rintro ⟨b1,b2⟩ s' ⟨hb',rfl,vs,ws,ns',ms',hz,hvi,hwi,hlen,hR⟩;simp only at hb';subst hb'
   have hv:lexLt ns' ms'=decide (items.size<items2.size):=by
    cases hvi with
    | nil =>
     cases hwi with
     | nil =>
      simp only [mV] at hlen;rw [D7]
      exact (decide_eq_false (by lia)).symm
     | cons c u hw =>
      simp only [mV,bV] at hlen;rw [BX]
      exact (decide_eq_true (by lia)).symm
    | cons a t hv =>
     cases hwi with
     | nil =>
      simp only [mV,bV] at hlen;rw [BY]
      exact (decide_eq_false (by lia)).symm
     | cons c u hw =>
      rw [kh] at hz;cases hz
   rw [hv] at hR
   wp_walk
   exact ⟨_,rfl,by simpa [Builtin.Tuple.tupleCompareSizes] using hR⟩
  case h =>
   exact ⟨rfl,rfl,items.toList,items2.toList,ns,ms,rfl,hi,hj,by lia,h⟩
end
section
variable {prog:a9}{w:bQ}{A:bY}{E:aj->ar->Prop}{s:ar}
theorem K1 {l b:af}{items items2:Array aj}{ns ms:List Int}{Q:aj->ar->Prop}(hl:xi s.heap l items) (hb:xi s.heap b items2) (hi:fR items.toList ns) (hj:fR items2.toList ms)
  (hu:A.units<ju) (h:Q (.bool (lexLt ns ms)) s):aK (aP prog w) A (dG .Lt (.ref l) (.ref b)) Q E s:=by
 obtain ⟨⟨cls,dd,data,sl⟩,ho,hc,n,hd⟩:=id hl;obtain ⟨⟨cls2,dd2,data2,sl2⟩,ho2,hc2,n2,hd2⟩:=id hb;simp only at hc hd hc2 hd2;subst hc hd hc2 hd2
 exact richCompare_meets_room (op:=.Lt) ⟨_,ho,rfl⟩ ⟨_,ho2,rfl⟩ PySem.F.slot_tuple_lt PySem.F.entry_tuple_lt (PySem.F.args_tuple_lt_2 _ _) (D8 l b items items2 n n2 dd dd2 sl sl2 ns ms hi hj)
  ⟨ho,ho2,show uW (lexLt ns ms)≠Value.notImplemented/\Q (.bool (lexLt ns ms)) s from ⟨(λx=>nomatch x),h⟩⟩ hu
def nv (n d:Nat):Option Int->Nat
 | none=>d
 | some v=>if v<0 then (v+(n:Int)).toNat else min v.toNat n
theorem IC (n d:Nat):nv n d none=d:=rfl
theorem Tb (n d k:Nat):nv n d (some (k:Int))=min k n:=by
 show (if (k:Int)<0 then ((k:Int)+(n:Int)).toNat else min (k:Int).toNat n)=min k n
 rw [if_neg (by lia),iA]
theorem VF (n d:Nat) (hd:d<=n) (o:Option Int):nv n d o<=n:=by
 cases o with
 | none=>exact hd
 | some v =>
  show (if v<0 then (v+(n:Int)).toNat else min v.toNat n)<=n
  by_cases hv:v<0
  ·rw [if_pos hv];lia
  ·rw [if_neg hv];exact Nat.min_le_right _ _
theorem MJ (v:Int) (n d:Nat):(if v<0 then max (v+(n:Int)) 0 else min v (n:Int))=((nv n d (some v):Nat):Int):=by
 show (if v<0 then max (v+(n:Int)) 0 else min v (n:Int))=(((if v<0 then (v+(n:Int)).toNat else min v.toNat n):Nat):Int)
 by_cases hv:v<0
 ·simp only [if_pos hv];lia
 ·simp only [if_neg hv];lia
theorem K2 (lo hi:Option Int) (n:Nat):pF lo hi 1 (n:Int)=(((nv n 0 lo:Nat):Int),((nv n n hi:Nat):Int)):=by
 have h1:¬ ((1:Int)<0):=by lia
 unfold pF;simp only [h1,if_false];refine OX ?_ ?_
 ·cases lo with
  | none=>rfl
  | some v=>exact MJ v n 0
 ·cases hi with
  | none=>rfl
  | some v=>exact MJ v n n
theorem K3 (i j:Nat):ku (i:Int) (j:Int) 1=j-i:=by
 unfold ku
 have h1:(1:Int)>0:=by lia
 simp only [h1,if_true,Int.ediv_one]
 split<;>lia
theorem BZ {v:aj}{o:Option Int}{Q:Option Int->ar->Prop}(p:Kq v o) (h:Q o s):aK (aP prog w) A (Builtin.Slice.slicePartIndex v) Q E s:=by
 cases p with
 | none=>exact slicePart_none h
 | int i t=>exact slicePart_int h
theorem y4 {sl:af}{vl vu:aj}{lo hi:Option Int}{n:Nat}{Q:Int×Int×Nat->ar->Prop}(hs:s.heap.IsSliceOf sl vl vu .none) (pl:Kq vl lo) (pu:Kq vu hi)
  (h:Q (((nv n 0 lo:Nat):Int),1,nv n n hi-nv n 0 lo) s):aK (aP prog w) A (Aa (.ref sl) (pure (n:Int))) Q E s:=by
 obtain ⟨os,hos,hcs,hds⟩:=id hs;unfold Aa Builtin.Slice.sliceFields;refine ae (ae (mv hos hds (x:=vl) rfl (ae (mv hos hds (x:=vu) rfl (ae (mv hos hds (x:=.none) rfl (aq ?_)))))));refine ae (slicePart_none ?_)
 show aK _ _ (if ((1:Int) == 0)=true then _ else _) _ _ s
 rw [if_neg (by decide)];refine ae (BZ pl (ae (BZ pu (ae (aq ?_)))))
 show aK _ _ (match pF lo hi 1 (n:Int) with|(lo,hi)=>pure (lo,(1:Int),ku lo hi 1)) _ _ s
 rw [K2 lo hi n]
 show aK _ _ (pure (((nv n 0 lo:Nat):Int),(1:Int),ku ((nv n 0 lo:Nat):Int) ((nv n n hi:Nat):Int) 1)) _ _ s
 rw [K3];exact aq h
theorem Pp (xs:Array aj) (i k:Nat):((fz k).filterMap λ(m:Nat)=>xs[((i:Int)+(m:Int)*1).toNat]?).toArray=((xs.toList.drop i).take k).toArray:=by
 have e:(λ(m:Nat)=>xs[((i:Int)+(m:Int)*1).toNat]?)=λm=>xs[i+m]?:=by
  funext m
  have:((i:Int)+(m:Int)*1).toNat=i+m:=by lia
  rw [this]
 rw [e];have:=pick_run xs i k;rw [List.filterMap_map] at this;have e2:((λx=>xs[x]?)∘λx=>i+x)=λm=>xs[i+m]?:=rfl;rw [e2] at this;rw [this]
theorem xH {t sl:af}{items:Array aj}{vl vu:aj}{lo hi:Option Int}{Q:aj->ar->Prop}(ht:xi s.heap t items) (hs:s.heap.IsSliceOf sl vl vu .none) (pl:Kq vl lo) (pu:Kq vu hi)
  (hw:¬ (nv items.size 0 lo=0/\nv items.size items.size hi=items.size))
  (h:Q (.ref s.heap.objs.size) { s with heap:=s.heap.push { cls:=.type "tuple",data:=.seq ((items.toList.drop (nv items.size 0 lo)).take (nv items.size items.size hi-nv items.size 0 lo)).toArray } })
  (hsz:items.size<=aY):aK (aP prog w) A (Nt (.ref t) (.ref sl)) Q E s:=by
 have htake:sizeOk (.seq ((items.toList.drop (nv items.size 0 lo)).take (nv items.size items.size hi-nv items.size 0 lo)).toArray):=by
  show ((items.toList.drop (nv items.size 0 lo)).take (nv items.size items.size hi-nv items.size 0 lo)).toArray.size<=aY
  rw [aM,bO,cQ,aO];lia
 have hj:nv items.size items.size hi<=items.size:=VF _ _ (au _) hi;obtain ⟨os,hos,hcs,hds⟩:=id hs
 have hTs:s.TypeIs (.ref sl) "slice":=⟨os,hos,hcs⟩
 unfold Nt
 try with_reducible refine cF ?_
 first|refine ae (aq ?_)|skip
 refine ae (wpAny_sequenceKey ht.typeIs (by decide) ?_)
 refine ae (dH (name:=iN "__getitem__") ht.typeIs jZ
  (cW jZ ht.typeIs entry_tuple_getitem ?_ (args_tuple_getitem _ _)))
 show aK _ _ (Builtin.Tuple.tupleItemsOf (.ref t) >>= _) _ _ s
 refine ae (tupleItemsOf_ ht ?_);refine ae (yM hTs ?_);rw [if_pos (by decide)];refine ae (y4 hs pl pu ?_)
 have hno:¬ ((((nv items.size 0 lo:Nat):Int) == 0 && (1:Int) == 1 && (nv items.size items.size hi-nv items.size 0 lo) == items.size)=true):=by
  intro q;rw [gW,gW] at q;have q1:((nv items.size 0 lo:Nat):Int)=0:=eq_of_beq q.1.1;have q2:nv items.size items.size hi-nv items.size 0 lo=items.size:=eq_of_beq q.2;exact hw ⟨by lia,by lia⟩
 show aK _ _ (if (((nv items.size 0 lo:Nat):Int) == 0 && (1:Int) == 1 && (nv items.size items.size hi-nv items.size 0 lo) == items.size)=true then _ else _) _ _ s
 rw [if_neg hno,Pp]
 first
  | exact ae (m:=kW _) (cp (aq ⟨_,rfl,aq h⟩) htake)
  | exact ae (m:=kW _) (cp (ae (aq (aq ⟨_,rfl,aq h⟩))) htake)
  | exact ae (ae (m:=kW _) (cp (aq (aq ⟨_,rfl,aq h⟩)) htake))
  | exact ae (ae (m:=kW _) (cp (aq ⟨_,rfl,aq h⟩) htake))
end
end HT
namespace L2
abbrev TO:=St->Hp->(Option Int->Hp->Prop)->Prop
def PO (X:Cx) (e:Option Expr) (t:TO):Prop :=
 ∀ (pins:List (af×gi)) (s:ar) (Z:St) (H:Hp) (Q:Option Int->Hp->Prop),Inv X pins Z H s->t Z H Q ->
  aK (aP X.prog X.w) X.A (evalPart e X.env) (λu s'=>∃ o H',Inv X pins Z H' s'/\Kq u o/\Q o H') X.xe s
def kM:TO:=λ_ H Q=>Q none H
def mB (t:TE):TO:=λZ H Q=>t Z H λx H1=>∃ i,x=.int i/\Q (some i) H1
theorem intsAre_of {ns:List Int}:∀ {us:List aj},Vals (ns.map V.int) us->fR us ns:=by
 induction ns with
 | nil=>intro us r;rw [vk] at r;cases r;exact .nil
 | cons n ns ih =>
  intro us r;rw [bT] at r
  cases r with
  | cons r1 r2 =>
   obtain ⟨t,e⟩:=r1;subst e;exact .cons n t (ih r2)
section
variable {X:Cx}{e:Expr}{te:TE}{lo hi:Option Expr}{tl th:TO}{pos p2:oZ}
theorem mC:PO X none kM:=by
 intro pins s Z H Q I h;rw [evalPart_none];exact aq ⟨none,H,I,.none,h⟩
theorem iQ (h:PE X e te):PO X (some e) (mB te):=by
 intro pins s Z H Q I hw;rw [evalPart_some];refine iG (h pins s Z H _ I hw) λu s1 ⟨x,H1,I1,r1,q1⟩=>?_;obtain ⟨i,rfl,q⟩:=q1;obtain ⟨t,rfl⟩:=r1;exact ⟨some i,H1,I1,.int i t,q⟩
def ZO (X:Cx) (r:V->Option Int->Option Int->Hp->VK->Prop):Prop :=
 ∀ (pins:List (af×gi)) (s:ar) (Z:St) (H:Hp) (x:V) (v vl vu:aj) (lo hi:Option Int) (sl:af) (Q:VK),Inv X pins Z H s->RelV x v->s.heap.IsSliceOf sl vl vu .none->Kq vl lo->Kq vu hi->r x lo hi H Q ->
  ∃ T id,Fn (.type T) "__getitem__"=pure (some (.builtin id))/\s.TypeIs v T/\aK (aP X.prog X.w) X.A (Nt v (.ref sl)) (EP X pins Z Q) X.xe s
def Ky (r:V->Option Int->Option Int->Hp->VK->Prop) (te:TE) (tl th:TO):TE:=λZ H Q=>te Z H λx H1=>tl Z H1 λl H2=>th Z H2 λu H3=>r x l u H3 Q
theorem iR {r:V->Option Int->Option Int->Hp->VK->Prop}(hr:ZO X r) (he:PE X e te) (hl:PO X lo tl) (hu:PO X hi th):PE X (.Subscript e (.Slice lo hi none p2) pos) (Ky r te tl th):=by
 intro pins s Z H Q I h;refine Subscript_ (iG (he pins s Z H _ I h) λv s1 ⟨x,H1,I1,r1,q1⟩=>?_);refine wpAny_Slice (iG (hl pins s1 Z H1 _ I1 q1) λvl s2 ⟨l,H2,I2,pl,q2⟩=>iG (hu pins s2 Z H2 _ I2 q2) λvu s3 ⟨u,H3,I3,pu,q3⟩=>?_);rw [evalPart_none];refine aq ?_;have I4:Inv X pins Z H3 { s3 with heap:=s3.heap.push { cls:=.type "slice",data:=.fields #[vl,vu,.none] } }:=I3.kept (t':=s3.toks) λb ob q=>ao _ q;obtain ⟨T,id,hT,ht,hg⟩:=hr pins { s3 with heap:=s3.heap.push { cls:=.type "slice",data:=.fields #[vl,vu,.none] } } Z H3 x v vl vu l u s3.heap.objs.size Q I4 r1 (Heap.IsSliceOf.new ..) pl pu q3
 show aK (aP X.prog X.w) X.A (subscriptTail e (.Slice lo hi none p2) v (.ref s3.heap.objs.size)) (EP X pins Z Q) X.xe { s3 with heap:=s3.heap.push { cls:=.type "slice",data:=.fields #[vl,vu,.none] } }
 exact tail_any (ops:=[.ref s3.heap.objs.size,v]) ht hT hg (by with_unfolding_all rfl)
def xI (xs:List V) (lo hi:Option Int):List V:=(xs.drop (HT.nv xs.length 0 lo)).take (HT.nv xs.length xs.length hi-HT.nv xs.length 0 lo)
theorem Aj (xs:List V) (lo hi:Option Int):(xI xs lo hi).length<=xs.length:=by
 unfold xI;rw [bO,cQ];lia
def XF (K:aa):V->Option Int->Option Int->Hp->VK->Prop:=λx lo hi H Q=>∃ a xs,x=.ref a/\mR K H a xs /\
 ¬ (HT.nv xs.length 0 lo=0/\HT.nv xs.length xs.length hi=xs.length)/\∀ p,H p=none->Q (.ref p) (upd H p (.tup (xI xs lo hi)))
theorem VG:ZO X (XF X.K):=by
 intro pins s Z H x v vl vu lo hi sl Q I rx hs pl pu h;obtain ⟨a,xs,rfl,hx,hw,q⟩:=h;cases rx;obtain ⟨its,r,ht,hz⟩:=I.tuple hx
 have hlen:its.toArray.size=xs.length:=by rw [aM];exact r.length.symm
 refine ⟨"tuple",_,jZ.lookup,ht.typeIs,?_⟩;refine HT.xH ht hs pl pu (by rw [hlen];exact hw) ?_ (by rw [hlen];exact hz);rw [hlen];refine ⟨.ref s.heap.objs.size,_,I.laid (t':=s.toks) (o:=.tup (xI xs lo hi)) (λb ob q=>ao _ q) (au _) ?_,rfl,q _ (I.fD.fresh (au _))⟩;exact ⟨bz (Aj xs lo hi) hz,_,(r.drop (HT.nv xs.length 0 lo)).take (HT.nv xs.length xs.length hi-HT.nv xs.length 0 lo),IsTup.new _ _⟩
end
end L2
namespace L2
def OR (n:Nat) (i:Int):Option Nat:=if 0<=i then (if i<n then some i.toNat else none) else if -(n:Int)<=i then some (i+n).toNat else none
def Pq {α:Type} (xs:List α) (i:Int):Option α:=(OR xs.length i).bind λj=>xs[j]?
theorem MK {n:Nat}{i:Int}{j:Nat}(h:OR n i=some j):seqIndex? i n=some j/\j<n/\-(n:Int)<=i/\i<n:=by
 unfold OR at h
 by_cases h0:0<=i
 ·rw [if_pos h0] at h
  by_cases h1:i<n
  ·rw [if_pos h1] at h;have e:i.toNat=j:=a7 h;exact ⟨by rw [W4 h0 h1,e],by lia,by lia,h1⟩
  ·rw [if_neg h1] at h;cases h
 ·rw [if_neg h0] at h
  by_cases h1:-(n:Int)<=i
  ·rw [if_pos h1] at h;have e:(i+n).toNat=j:=a7 h;exact ⟨by rw [seqIndex_neg (by lia) h1,e],by lia,h1,by lia⟩
  ·rw [if_neg h1] at h;cases h
theorem ML {α:Type} {xs:List α}{i:Int}{v:α}(h:Pq xs i=some v):∃ j,seqIndex? i xs.length=some j/\xs[j]?=some v/\j<xs.length/\-(xs.length:Int)<=i/\i<xs.length:=by
 unfold Pq at h
 cases e:OR xs.length i with
 | none=>rw [e] at h;cases h
 | some j =>
  rw [e] at h;obtain ⟨h1,h2,h3,h4⟩:=MK e;exact ⟨j,h1,h,h2,h3,h4⟩
theorem Tc {α:Type} {xs:List α}{j:Nat}{v:α}(h:xs[j]?=some v):Pq xs (j:Int)=some v:=by
 have hj:j<xs.length:=(aB.mp h).1
 have e:OR xs.length (j:Int)=some j:=by
  unfold OR;rw [if_pos (by lia),if_pos (by lia)];simp
 unfold Pq;rw [e];exact h
theorem Pr {α:Type} (xs:List α) (v:α):Pq (xs++[v]) (-1)=some v:=by
 have hl:(xs++[v]).length=xs.length+1:=by simp
 have e:OR (xs++[v]).length (-1)=some xs.length:=by
  unfold OR;rw [hl,if_neg (by decide),if_pos (by lia)]
  congr 1
  lia
 unfold Pq;rw [e]
 show (xs++[v])[xs.length]?=some v
 simp
def Td (b:Expr):Prop:=∀ o i,subscripted b false o i=operate [o,i] (Nt o i)
def Ui (X:Cx) (r:R2):Prop :=
 ∀ (value slice:Expr) (pins:List (af×gi)) (s:ar) (Z:St) (H:Hp) (x y:V) (v u:aj) (Q:VK),Inv X pins Z H s->RelV x v->RelV y u->r x y H Q ->
  subscripted slice false v u=operate [v,u] (Nt v u)->aK (aP X.prog X.w) X.A (subscriptTail value slice v u) (EP X pins Z Q) X.xe s
def MtR (X:Cx) (id:String) (r:V->List V->Hp->VK->Prop):Prop :=
 ∀ (pins:List (af×gi)) (s:ar) (Z:St) (H:Hp) (x:V) (xs:List V) (v:aj) (us:List aj) (Q:VK),Inv X pins Z H s->RelV x v->Vals xs us->r x xs H Q ->
  aK (aP X.prog X.w) X.A (call (.builtin id) (v::us)) (EP X pins Z Q) X.xe s
section
variable {X:Cx}{a b:Expr}{ta tb:TE}{pos:oZ}
theorem Ui.or {r r':R2}(h:Ui X r) (h':Ui X r'):Ui X (λx y H Q=>r x y H Q\/r' x y H Q):=by
 intro value slice pins s Z H x y v u Q I rx ry q hs
 rcases q with q|q
 ·exact h value slice pins s Z H x y v u Q I rx ry q hs
 ·exact h' value slice pins s Z H x y v u Q I rx ry q hs
theorem c6 {r:R2}(hr:Ui X r) (ha:PE X a ta) (hb:PE X b tb) (hs:Td b):PE X (.Subscript a b pos) (cV r ta tb):=by
 intro pins s Z H Q I h;exact Subscript_ (VA ha hb I h λv u s2 x y H2 I2 rx ry q=>hr a b pins s2 Z H2 x y v u Q I2 rx ry q (hs _ _))
def XG (K:aa):R2:=λx y H Q=>∃ p xs i v,x=.ref p/\y=.int i/\de K H p xs/\Pq xs i=some v/\Q v H
def XH (K:aa):R2:=λx y H Q=>∃ p xs i v,x=.ref p/\y=.int i/\mR K H p xs/\Pq xs i=some v/\Q v H
theorem Te:Ui X (XG X.K):=by
 intro value slice pins s Z H x y v u Q I rx ry h hs;obtain ⟨p,xs,i,z,rfl,rfl,hq,he,q⟩:=h;cases rx;obtain ⟨t,rfl⟩:=ry;obtain ⟨its,r,pl,hz⟩:=I.list hq;obtain ⟨j,h1,h2,h3,h4,h5⟩:=ML he;obtain ⟨w,ew,rw'⟩:=r.get h2;have hl:=r.length;have hn:=wk
 have fin:EP X pins Z Q w s:=⟨z,H,I,rw',q⟩
 by_cases h0:0<=i
 ·have hj:i.toNat=j:=by
   rw [W4 h0 h5] at h1;exact a7 h1
  exact item_listR pl.isList h0 (by lia) (by rw [hj];simpa using ew) fin hs
 ·have hj:(i+(its.toArray.size:Int)).toNat=j:=by
   rw [seqIndex_neg (by lia) h4] at h1;rw [aM,← hl];exact a7 h1
  exact Ul (x:=w) pl.isList.typeIs slot_list_getitem.lookup
   (wpAny_getItem_list_neg (Q:=λr s'=>r=w/\EP X pins Z Q r s') pl.isList (by lia) (by rw [aM]<;>lia) (by lia) (by rw [hj];simpa using ew) ⟨rfl,fin⟩) hs
theorem VH:Ui X (XH X.K):=by
 intro value slice pins s Z H x y v u Q I rx ry h hs;obtain ⟨p,xs,i,z,rfl,rfl,hq,he,q⟩:=h;cases rx;obtain ⟨t,rfl⟩:=ry;obtain ⟨its,r,pl,hz⟩:=I.tuple hq;obtain ⟨j,h1,h2,h3,h4,h5⟩:=ML he;obtain ⟨w,ew,rw'⟩:=r.get h2;have hl:=r.length;have hn:=wk
 have fin:EP X pins Z Q w s:=⟨z,H,I,rw',q⟩
 exact Ul (x:=w) pl.typeIs jZ.lookup
  (getItem_tuple (j:=j) (Q:=λr s'=>r=w/\EP X pins Z Q r s') pl (by lia) (by lia) (by rw [aM,← hl];exact h1) (by simpa using ew) ⟨rfl,fin⟩) hs
theorem K4 (its:List aj) (n j:Nat) (u:aj):bC (·.setIfInBounds j u) { cls:=.type "list",data:=.seq its.toArray n }={ cls:=.type "list",data:=.seq (its.set j u).toArray n }:=by
 simp [bC]
theorem Inv.lst {pins:List (af×gi)}{Z:St}{H:Hp}{s:ar}{p:af}{xs:List V}(I:Inv X pins Z H s) (h:H p=some (.lst xs)) :
  ∃ (its:List aj) (n:Nat),Vals xs its/\s.heap.get? p=some { cls:=.type "list",data:=.seq its.toArray n }/\xs.length<=aY:=by
 obtain ⟨z,its,n,r,e⟩:=I.fD p _ h;exact ⟨its,n,r,e,z⟩
theorem Inv.WN {pins:List (af×gi)}{Z:St}{H:Hp}{s:ar}{p:af}{xs ys:List V}{its its':List aj}{n n':Nat}{f:gi->gi}(I:Inv X pins Z H s) (h:H p=some (.lst xs))
  (ho:s.heap.get? p=some { cls:=.type "list",data:=.seq its.toArray n }) (hf:f { cls:=.type "list",data:=.seq its.toArray n }={ cls:=.type "list",data:=.seq its'.toArray n' }) (r:Vals ys its') (hz:ys.length<=aY) (t:Nat) :
  Inv X pins Z (upd H p (.lst ys)) { s with heap:=s.heap.update p f,toks:=t }:=by
 have e:(s.heap.update p f).get? p=some { cls:=.type "list",data:=.seq its'.toArray n' }:=by
  rw [bE f ho (by rw [hf]<;>rfl),hf]
 refine I.write (x:=p) (e:=p) (by rw [h];trivial) (.inl rfl) (λb u hb q=>(a0 _ _ (Ne.symm hb)).trans q) ⟨_,e⟩ ?_;exact ⟨hz,its',n',r,e⟩
def UE:V->V->V->Hp->(Hp->Prop)->Prop:=λo i v H Q=>∃ p xs k j,o=.ref p/\i=.int k/\H p=some (.lst xs)/\OR xs.length k=some j/\Q (upd H p (.lst (xs.set j v)))
theorem Pu:SI X UE:=by
 intro pins s Z H o i v ov iv u Q I ro ri rv h;obtain ⟨p,xs,k,j,rfl,rfl,hp,hj,q⟩:=h;cases ro;obtain ⟨t,rfl⟩:=ri;obtain ⟨its,n,r,ho,hz⟩:=I.lst hp;obtain ⟨h1,h2,h3,h4⟩:=MK hj;have hl:=r.length;have hn:=wk
 have I':Inv X pins Z (upd H p (.lst (xs.set j v))) { s with heap:=s.heap.update p (bC (·.setIfInBounds j u)) } :=
  I.WN hp ho (K4 its n j u) (r.set rv j) (by rw [List.length_set];exact hz) s.toks
 by_cases h0:0<=k
 ·have hk:k.toNat=j:=by
   rw [W4 h0 h4] at h1;exact a7 h1
  exact PySem.W.ki_setAt ho h0 (by lia) (by rw [aM,← hl];exact h4) (by rw [hk];exact ⟨_,I',q⟩)
 ·have hk:(k+(its.toArray.size:Int)).toNat=j:=by
   rw [seqIndex_neg (by lia) h3] at h1;rw [aM,← hl];exact a7 h1
  exact PySem.W.ki_setBack ho (by lia) (by rw [aM,← hl];exact h3) (by lia) (by rw [hk];exact ⟨_,I',q⟩)
theorem Gi (lo hi:Option Int) (n:Nat):(rG lo hi none n).1=((HT.nv n 0 lo:Nat):Int)/\(rG lo hi none n).2.1=((HT.nv n n hi:Nat):Int)/\(rG lo hi none n).2.2=1:=by
 refine ⟨?_,?_,rfl⟩
 ·cases lo with
  | none=>simp [rG,HT.nv]
  | some i =>
   simp only [rG,HT.nv,Sx,show (1:Int)>0 by decide,if_true]
   by_cases h:i<0
   ·simp only [h,if_true]<;>lia
   ·simp only [h,if_false]<;>lia
 ·cases hi with
  | none=>simp [rG,HT.nv]
  | some i =>
   simp only [rG,HT.nv,Sx,show (1:Int)>0 by decide,if_true]
   by_cases h:i<0
   ·simp only [h,if_true]<;>lia
   ·simp only [h,if_false]<;>lia
theorem D9 (its:List aj) (lo hi:Option Int):slicePick its.toArray lo hi none=((its.drop (HT.nv its.length 0 lo)).take (HT.nv its.length its.length hi-HT.nv its.length 0 lo)).toArray:=by
 obtain ⟨h1,h2,h3⟩:=Gi lo hi its.toArray.size;unfold slicePick;rw [h1,h2,h3];simp only [sliceRange_one,pick_run,aM]<;>rfl
def tP (K:aa):V->Option Int->Option Int->Hp->VK->Prop:=λx lo hi H Q=>∃ a xs,x=.ref a/\de K H a xs/\∀ p,H p=none->Q (.ref p) (upd H p (.lst (xI xs lo hi)))
theorem kO:ZO X (tP X.K):=by
 intro pins s Z H x v vl vu lo hi sl Q I rx hs pl pu h;obtain ⟨a,xs,rfl,hx,q⟩:=h;cases rx;obtain ⟨its,r,ht,hz⟩:=I.list hx;have hlen:=r.length;refine ⟨"list",_,slot_list_getitem.lookup,ht.isList.typeIs,?_⟩;refine wpAny_getItem_list_slice ht.isList hs pl pu .none (by simp) ?_ (by rw [aM]<;>lia);rw [D9,← hlen];refine ⟨.ref s.heap.objs.size,_,I.laid (t':=s.toks) (o:=.lst (xI xs lo hi)) (λb ob q=>ao _ q) (au _) ?_,rfl,q _ (I.fD.fresh (au _))⟩;exact ⟨bz (Aj xs lo hi) hz,_,0,(r.drop (HT.nv xs.length 0 lo)).take (HT.nv xs.length xs.length hi-HT.nv xs.length 0 lo),aN _ rfl⟩
theorem Gj:oY X (.builtin "len") (λxs H Q=>∃ p ys,xs=[.ref p]/\(de X.K H p ys\/mR X.K H p ys)/\Q (.int ys.length) H):=by
 intro pins s Z H xs us Q I r h;obtain ⟨p,ys,rfl,hq,q⟩:=h;obtain ⟨u,rfl,rx⟩:=vals1 r;cases rx;have hn:=wk
 rcases hq with hq|hq
 ·obtain ⟨its,r',pl,hz⟩:=I.list hq;have hlen:=r'.length;exact Calls.call_len_list pl.isList (by simp only [aM]<;>lia) ⟨.int ys.length,H,I.tok _,⟨s.toks+1,by rw [aM,hlen]⟩,q⟩
 ·obtain ⟨its,r',pl,hz⟩:=I.tuple hq;have hlen:=r'.length;exact len_tuple pl (by simp only [aM]<;>lia) ⟨.int ys.length,H,I.tok _,⟨s.toks+1,by rw [aM,hlen]⟩,q⟩
theorem oY.or {f:aj}{r r':List V->Hp->VK->Prop}(h:oY X f r) (h':oY X f r'):oY X f (λxs H Q=>r xs H Q\/r' xs H Q):=by
 intro pins s Z H xs us Q I rs q
 rcases q with q|q
 ·exact h pins s Z H xs us Q I rs q
 ·exact h' pins s Z H xs us Q I rs q
def ZP (K:aa) (T:String) (x:V) (H:Hp):Prop:=match x with
 | .str _=>T="str"
 | .int _=>T="int"
 | .ref p=>(T="list"/\∃ xs,de K H p xs)\/(T="tuple"/\∃ o,K.lookup p=some o/\o.cls=.type "tuple"/\o.dict=none) \/
   (T="dict"/\((∃ kvs,H p=some (.dK kvs))\/∃ kvs,H p=some (.dT kvs)))\/(T="set"/\∃ S n,H p=some (.set S n))
 | _=>False
theorem VI {pins:List (af×gi)}{Z:St}{H:Hp}{s:ar}{T:String}{x:V}{v:aj}(I:Inv X pins Z H s) (r:RelV x v) (ty:ZP X.K T x H) :
  s.TypeIs v T/\∀ a,v=.ref a->∃ ob,s.heap.get? a=some ob/\ob.dict=none:=by
 cases x with
 | str z =>
  obtain ⟨t,rfl⟩:=r;cases (show T="str" from ty)
  exact ⟨typeIs_str s z t,λ_ e=>nomatch e⟩
 | int i =>
  obtain ⟨t,rfl⟩:=r;cases (show T="int" from ty)
  exact ⟨typeIs_int s i t,λ_ e=>nomatch e⟩
 | ref p =>
  cases r
  rcases ty with ⟨rfl,xs,hq⟩|⟨rfl,o,hk,hc,hd⟩|⟨rfl,hk⟩|⟨rfl,S,n,hk⟩
  ·obtain ⟨its,_,pl,_⟩:=I.list hq;refine ⟨pl.isList.typeIs,λa e=>?_⟩;cases e;obtain ⟨o,n,e,c,hd,_⟩:=pl;exact ⟨o,e,hd⟩
  ·refine ⟨⟨o,I.Bc p o hk,hc⟩,λa e=>?_⟩;cases e;exact ⟨o,I.Bc _ o hk,hd⟩
  ·have z:∃ o,s.heap.get? p=some o/\o.ExactDict:=by
    rcases hk with ⟨kvs,hk⟩|⟨kvs,hk⟩
    ·obtain ⟨_,_,_,_,o,_,_,e,ex,_⟩:=I.fD p _ hk;exact ⟨o,e,ex⟩
    ·obtain ⟨_,_,_,_,o,_,_,e,ex,_⟩:=I.fD p _ hk;exact ⟨o,e,ex⟩
   obtain ⟨o,e,ex⟩:=z;refine ⟨⟨o,e,ex.1⟩,λa e2=>?_⟩;cases e2;exact ⟨o,e,ex.2.1⟩
  ·obtain ⟨o,_,_,_,e,ex,_⟩:=I.fD p _ hk;refine ⟨⟨o,e,ex.1⟩,λa e2=>?_⟩;cases e2
   exact ⟨o,e,ex.2.1⟩
 | _=>exact iO ty
def FA (K:aa) (T:String) (r:V->List V->Hp->VK->Prop) (to:TE) (t:TA):TE:=λZ H Q=>to Z H λx H1=>ZP K T x H1/\t Z H1 λxs H2=>r x xs H2 Q
variable {o e:Expr}{es:List Expr}{to:TE}{t:TA}{name:bu}{apos cpos:oZ}{T id:String}{r:V->List V->Hp->VK->Prop}
theorem oU (pa:PlainAttrs T) (slot:Slot T name id) (hty:typeOf (.builtin id)=pure (.type "method_descriptor")) (hm:MtR X id r) (ho:PE X o to) (ha:PA X (e::es) t)
  (hbase:R9 o name X.env (gM o X.env)=gM o X.env:=by rfl)
  (hfew:((jx cpos (bR (e::es) X.env)).all (λx=>!x.1) && (OD cpos (Be [] X.env)).all (λx=>x.1.isSome)
   && decide ((e::es).length+([]:List Keyword).length+(if ([]:List Keyword).isEmpty then 0 else 1)<30))=true:=by rfl)
  (hline:(apos.endLine == cpos.line)=true:=by rfl) (hs:bR (e::es) X.env=(false,gM e X.env)::bR es X.env:=by rfl) (hplain:(jx cpos (bR es X.env)).any (·.1)=false:=by rfl) :
  PE X (.Call (.Attribute o name apos) (e::es) [] cpos) (FA X.K T r to t):=by
 intro pins s Z H Q I h;refine wpAny_Call_method_late hbase hfew hline rfl (iG (ho pins s Z H _ I h) λv s1 ⟨x,H1,I1,r1,ty,q1⟩=>?_);obtain ⟨h1,h2⟩:=VI I1 r1 ty;refine ⟨T,id,pa,slot,hty,h1,h2,?_⟩;have hA:=ha cpos pins s1 Z H1 _ I1 q1;rw [hs] at hA ⊢;refine Calls.callWith_builtin (by show (false || (jx cpos (bR es X.env)).any (·.1))=false;rw [hplain]<;>rfl) (Calls.evalArgs_plain ?_);exact iG hA λus s2 ⟨vs,H2,I2,r2,q2⟩=>hm pins s2 Z H2 x vs v us Q I2 r1 r2 q2
end
end L2
namespace L2
def So (X:Cx) (id:String) (r:V->List V->Hp->VK->Prop):Prop :=
 ∀ (pins:List (af×gi)) (s:ar) (Z:St) (H:Hp) (x:V) (xs:List V) (v:aj) (us:List aj) (Q:VK),Inv X pins Z H s->RelV x v->Vals xs us->r x xs H Q ->
  aK (aP X.prog X.w) X.A (call (.builtin id) (v::us)) (EP X pins Z Q) X.xe s
theorem Vals.one:∀ {x:V}{us:List aj},Vals [x] us->∃ u,us=[u]/\RelV x u
 | _,_,.cons r .nil=>⟨_,rfl,r⟩
theorem Vals.two:∀ {x y:V}{us:List aj},Vals [x,y] us->∃ u v,us=[u,v]/\RelV x u/\RelV y v
 | _,_,_,.cons r (.cons q .nil)=>⟨_,_,rfl,r,q⟩
theorem Vals.reverse {xs:List V}{us:List aj}(h:Vals xs us):Vals xs.reverse us.reverse:=by
 induction h with
 | nil=>exact .nil
 | cons r t ih=>rw [Um,Um];exact Vals.append ih (.cons r .nil)
section
variable {X:Cx}{pins:List (af×gi)}{Z:St}{H:Hp}{s:ar}{l b:af}{xs ys zs:List V}
theorem Inv.lset {its its':List aj}{n:Nat}{f:Array aj->Array aj}{t':Nat}(I:Inv X pins Z H s) (hH:H l=some (.lst xs))
  (e:s.heap.get? l=some { cls:=.type "list",data:=.seq its.toArray n }) (hf:f its.toArray=its'.toArray) (hv:Vals ys its') (hz:ys.length<=aY) :
  Inv X pins Z (upd H l (.lst ys)) { s with heap:=s.heap.update l (bC f),toks:=t' }:=by
 have q:=PySem.IsL.update e f;rw [hf] at q;refine I.write (x:=l) (e:=l) (by rw [hH];exact trivial) (.inl rfl) (λb' u hb hu=>(a0 s.heap (bC f) (Ne.symm hb)).trans hu) ⟨_,q⟩ ?_;exact ⟨hz,its',_,hv,q⟩
theorem Inv.YK {its:List aj}{t':Nat}(I:Inv X pins Z H s) (hv:Vals ys its) (hz:ys.length<=aY) :
  Inv X pins Z (upd H s.heap.objs.size (.lst ys)) { s with heap:=s.heap.push { cls:=.type "list",data:=.seq its.toArray },toks:=t' } :=
 I.laid (λ_ _ q=>ao _ q) (au _) ⟨hz,its,0,hv,aN _ rfl⟩
theorem Inv.fresh (I:Inv X pins Z H s):H s.heap.objs.size=none:=I.fD.fresh (au _)
theorem Inv.WQ (I:Inv X pins Z H s) (hH:H l=some (.lst xs)):xs.length<=aY/\∃ (its:List aj) (n:Nat),Vals xs its/\xs.length=its.length/\s.heap.get? l=some { cls:=.type "list",data:=.seq its.toArray n }:=by
 obtain ⟨z,its,n,r,e⟩:=I.fD l _ hH;exact ⟨z,its,n,r,r.length,e⟩
end
section
variable {X:Cx}
def o9:V->List V->Hp->VK->Prop:=λx vs H Q=>∃ l xs y,x=.ref l/\vs=[y]/\H l=some (.lst xs)/\xs.length<aY/\Q .non (upd H l (.lst (xs++[y])))
theorem nz:So X "list.append" o9:=by
 intro pins s Z H x vs v us Q I rx rv h;obtain ⟨l,xs,y,rfl,rfl,hH,hz,q⟩:=h;cases rx;obtain ⟨u,rfl,ru⟩:=rv.one;obtain ⟨z,its,n,r,hl,e⟩:=I.WQ hH;refine call_meets F.slot_list_append ⟨_,e,rfl⟩ F.entry_list_append (F.args_list_append_2 _ _) (PySem.list_append l its.toArray n u (by rw [aM];lia)) ⟨e,?_⟩;refine ⟨.non,_,I.lset (its':=its++[u]) hH e (by simp) (r.append (.cons ru .nil)) ?_,rfl,q⟩;rw [bq,OE];lia
def XI:R2:=λx y H Q=>∃ l b xs zs,x=.ref l/\y=.ref b/\H l=some (.lst xs)/\H b=some (.lst zs)/\xs.length+zs.length<=aY/\∀ p,H p=none->Q (.ref p) (upd H p (.lst (xs++zs)))
theorem VJ:tK X (xk .Add) XI:=by
 intro pins s Z H x y v u Q I rx ry h;obtain ⟨l,b,xs,zs,rfl,rfl,hH,hB,hz,q⟩:=h;cases rx;cases ry;obtain ⟨z,its,n,r,hl,e⟩:=I.WQ hH;obtain ⟨z2,its2,n2,r2,hl2,e2⟩:=I.WQ hB;refine PySem.P.add_list e e2 ?_ (by rw [aM,aM];lia)
 have ea:its.toArray++its2.toArray=(its++its2).toArray:=by simp
 rw [ea];exact ⟨.ref _,_,I.YK (t':=s.toks) (r.append r2) (by rw [bq];lia),rfl,q _ I.fresh⟩
end
section
variable {prog:a9}{w:bQ}{A:bY}{E:aj->ar->Prop}{s:ar}
end
section
variable {X:Cx}
end
end L2
namespace L2
section
variable {κ:Type} [DecidableEq κ]
def eV (kvs:List (κ×V)) (k:κ):Option V:=(kvs.find? λkv=>decide (kv.1=k)).map (·.2)
def lC (kvs:List (κ×V)) (k:κ) (v:V):List (κ×V) :=
 if (kvs.any λkv=>decide (kv.1=k))=true then kvs.map (λkv=>if kv.1=k then (kv.1,v) else kv) else kvs++[(k,v)]
def pW (kvs:List (κ×V)) (k:κ):List (κ×V):=kvs.filter λkv=>decide (kv.1≠k)
theorem jo {p:κ×V}{r:List (κ×V)}{k:κ}(e:p.1=k):eV (p::r) k=some p.2:=by simp [eV,mW,e]
theorem iS {p:κ×V}{r:List (κ×V)}{k:κ}(e:¬ p.1=k):eV (p::r) k=eV r k:=by simp [eV,mW,e]
theorem rO (k:κ):∀ kvs:List (κ×V),(kvs.any λkv=>decide (kv.1=k))=(eV kvs k).isSome
 | []=>rfl
 | p::r=>by
  rw [KD]
  by_cases e:p.1=k
  ·simp only [jo e,decide_eq_true e,Bool.true_or,Option.isSome_some]
  ·rw [iS e,decide_eq_false e,Bool.false_or];exact rO k r
theorem ID (k j:κ) (y:V):∀ kvs:List (κ×V),eV (kvs.map λkv=>if kv.1=k then (kv.1,y) else kv) j=(eV kvs j).map λx=>if j=k then y else x
 | []=>rfl
 | p::r=>by
  have ih:=ID k j y r;rw [bT]
  by_cases h:p.1=k
  ·rw [if_pos h]
   by_cases e:p.1=j
   ·rw [jo (p:=(p.1,y)) e,jo e,ke,if_pos (e.symm.trans h)]
   ·rw [iS (p:=(p.1,y)) e,iS e,ih]
  ·rw [if_neg h]
   by_cases e:p.1=j
   ·rw [jo (p:=p) e,jo e,ke,if_neg (λz=>h (e.trans z))]
   ·rw [iS (p:=p) e,iS e,ih]
theorem FB (k j:κ) (y:V):∀ kvs:List (κ×V),eV kvs k=none->eV (kvs++[(k,y)]) j=if j=k then some y else eV kvs j
 | [],_=>by
  by_cases e:k=j
  ·rw [if_pos e.symm];exact jo (p:=(k,y)) e
  ·rw [if_neg (λz=>e z.symm)];exact iS (p:=(k,y)) e
 | p::r,hn=>by
  rw [DY]
  have hk:¬ p.1=k:=λz=>by rw [jo z] at hn;cases hn
  rw [iS hk] at hn;have ih:=FB k j y r hn
  by_cases e:p.1=j
  ·rw [jo e,jo e,if_neg (λz=>hk (e.trans z))]
  ·rw [iS e,iS e,ih]
theorem B7 (kvs:List (κ×V)) (k j:κ) (y:V):eV (lC kvs k y) j=if j=k then some y else eV kvs j:=by
 unfold lC
 by_cases a:(kvs.any λkv=>decide (kv.1=k))=true
 ·rw [if_pos a,ID];rw [rO] at a
  by_cases e:j=k
  ·obtain ⟨x,hx⟩:=Ib.mp a;rw [if_pos e,e,hx,ke,if_pos rfl]
  ·rw [if_neg e]
   cases eV kvs j with
   | none=>rfl
   | some x=>rw [ke,if_neg e]
 ·rw [if_neg a];refine FB k j y kvs ?_;rw [rO] at a
  cases q:eV kvs k with
  | none=>rfl
  | some x=>rw [q] at a;exact (a rfl).elim
theorem l8 (kvs:List (κ×V)) (k:κ) (v:V):(lC kvs k v).length<=kvs.length+1:=by
 unfold lC
 split
 ·rw [ag];lia
 ·rw [bq,bV,mV];lia
theorem IE {kvs:List (κ×V)}{k:κ}(v:V) (h:eV kvs k=none):lC kvs k v=kvs++[(k,v)]:=by
 unfold lC;rw [rO,h];exact if_neg (by decide)
theorem sf.sg {o:Option V}{u:Option aj}(r:sf o u):o.isSome=u.isSome:=by
 cases o with
 | none=>cases u with
  | none=>rfl
  | some _=>exact (show False from r).elim
 | some _=>cases u with
  | none=>exact (show False from r).elim
  | some _=>rfl
theorem KV.val {kvs:List (κ×V)}{vs:List (κ×aj)}(r:KV kvs vs) (k:κ):sf (eV kvs k) (vm vs k):=by
 unfold KV at r
 induction r with
 | nil=>exact gU
 | @cons p q ps qs h t ih =>
  obtain ⟨h1,h2⟩:=h
  by_cases e:p.1=k
  ·have e':q.1=k:=h1.symm.trans e
   have b:vm (q::qs) k=some q.2:=by simp [vm,mW,e']
   rw [jo e,b];exact h2
  ·have e':¬ q.1=k:=λz=>e (h1.trans z)
   have b:vm (q::qs) k=vm qs k:=by simp [vm,mW,e']
   rw [iS e,b];exact ih
theorem KV.any {kvs:List (κ×V)}{vs:List (κ×aj)}(r:KV kvs vs) (k:κ):(kvs.any λkv=>decide (kv.1=k))=vs.any λkv=>decide (kv.1=k):=by
 unfold KV at r
 induction r with
 | nil=>rfl
 | cons h t ih=>rw [KD,KD,ih,h.1]
theorem KV.WO {kvs:List (κ×V)}{vs:List (κ×aj)}(r:KV kvs vs) (k:κ) {y:V}{u:aj}(ry:RelV y u) :
  KV (kvs.map λkv=>if kv.1=k then (kv.1,y) else kv) (vs.map λkv=>if kv.1=k then (kv.1,u) else kv):=by
 unfold KV at r ⊢
 induction r with
 | nil=>exact .nil
 | @cons p q ps qs h t ih =>
  rw [bT,bT];refine .cons ?_ ih;obtain ⟨h1,h2⟩:=h
  by_cases e:p.1=k
  ·rw [if_pos e,if_pos (h1.symm.trans e)];exact ⟨h1,ry⟩
  ·rw [if_neg e,if_neg (λz=>e (h1.trans z))];exact ⟨h1,h2⟩
theorem KV.put {kvs:List (κ×V)}{vs:List (κ×aj)}(r:KV kvs vs) (k:κ) {y:V}{u:aj}(ry:RelV y u):KV (lC kvs k y) (stored vs k u):=by
 unfold lC stored;rw [r.any k]
 by_cases e:(vs.any λkv=>decide (kv.1=k))=true
 ·rw [if_pos e,if_pos e];exact r.WO k ry
 ·rw [if_neg e,if_neg e];exact Paired.snoc r ⟨rfl,ry⟩
theorem KV.length {kvs:List (κ×V)}{vs:List (κ×aj)}(r:KV kvs vs):kvs.length=vs.length:=yG r
end
theorem B8 {P:a9}{w:bQ}{k:dQ}{u:aj}(r:RelV (kV k) u):(fc P w).is k u=true:=by
 cases k with
 | inl i=>obtain ⟨t,e⟩:=(show ∃ t,u=ij i t from r);subst e;exact Ik P w i t
 | inr x=>obtain ⟨t,e⟩:=(show ∃ t,u=tT x t from r);subst e;exact Il P w x t
theorem FC {P:a9}{w:bQ}:∀ {ks:List dQ}{us:List aj},Vals (ks.map kV) us->ItemsAre (fc P w) ks us
 | [],_,r=>by rw [vk] at r;cases r;exact .nil
 | k::ks,_,r=>by
  rw [bT] at r
  cases r with
  | cons h t=>exact .cons (B8 h) (FC t)
abbrev KT (H:Hp):List (List dQ×V)->List (List dQ×af×aj)->Prop:=Paired λp q=>p.1=q.1/\H q.2.1=some (.tup (p.1.map kV))/\RelV p.2 q.2.2
theorem KT.val {H:Hp}{kvs:List (List dQ×V)}{xs:List (List dQ×af×aj)}(r:KT H kvs xs) (k:List dQ):sf (eV kvs k) ((HP xs k).map (·.2)):=by
 induction r with
 | nil=>exact gU
 | @cons p q ps qs h t ih =>
  obtain ⟨h1,_,h2⟩:=h
  by_cases e:p.1=k
  ·have e':q.1=k:=h1.symm.trans e
   have b:HP (q::qs) k=some q.2:=by simp [HP,mW,e']
   rw [jo e,b];exact h2
  ·have e':¬ q.1=k:=λz=>e (h1.trans z)
   have b:HP (q::qs) k=HP qs k:=by simp [HP,mW,e']
   rw [iS e,b];exact ih
theorem KT.WO {H:Hp}{kvs:List (List dQ×V)}{xs:List (List dQ×af×aj)}(r:KT H kvs xs) (k:List dQ) {y:V}{u:aj}(ry:RelV y u) :
  KT H (kvs.map λkv=>if kv.1=k then (kv.1,y) else kv) (xs.map (putAt k u)):=by
 induction r with
 | nil=>exact .nil
 | @cons p q ps qs h t ih =>
  rw [bT,bT];refine .cons ?_ ih;obtain ⟨h1,h2,h3⟩:=h;unfold putAt
  by_cases e:p.1=k
  ·rw [if_pos e,if_pos (h1.symm.trans e)];exact ⟨h1,h2,ry⟩
  ·rw [if_neg e,if_neg (λz=>e (h1.trans z))];exact ⟨h1,h2,h3⟩
theorem KT.put {H:Hp}{kvs:List (List dQ×V)}{xs:List (List dQ×af×aj)}(r:KT H kvs xs) (k:List dQ) {b:af}{y:V}{u:aj}(hb:H b=some (.tup (k.map kV))) (ry:RelV y u) :
  KT H (lC kvs k y) (storedH xs k b u):=by
 have e:(kvs.any λkv=>decide (kv.1=k))=(HP xs k).isSome:=by
  rw [rO,(r.val k).sg,AB]
 unfold lC storedH;rw [e]
 by_cases q:(HP xs k).isSome=true
 ·rw [if_pos q,if_pos q];exact r.WO k ry
 ·rw [if_neg q,if_neg q];exact Paired.snoc r ⟨rfl,hb,ry⟩
theorem KT.keeps {H H':Hp}{kvs:List (List dQ×V)}{xs:List (List dQ×af×aj)}(r:KT H kvs xs) (ht:∀ b ys,H b=some (.tup ys)->H' b=some (.tup ys)):KT H' kvs xs :=
 Paired.Ou r λ_ _ z=>⟨z.1,ht _ _ z.2.1,z.2.2⟩
section
variable {P:a9}{w:bQ}{H:Hp}{h:cm}{a:af}
theorem UF {u:HO}(ok:tS P w H h) (e:Rd H a u):fP P w H h a u:=e.ok ok
theorem FD {kvs:List (dQ×V)}(ok:tS P w H h) (e:Rd H a (.dK kvs)):kvs.length<=aY/\(a == jh)=false/\∃ vs,KV kvs vs/\h.DictOf (fc P w) a vs :=
 show fP P w H h a (.dK kvs) from UF ok e
theorem MM {kvs:List (dQ×V)}(ok:tS P w H h) (e:H a=some (.dK kvs)):kvs.length<=aY/\(a == jh)=false/\∃ vs,KV kvs vs/\h.DictOf (fc P w) a vs:=FD ok (.inl e)
theorem t9 {ks:List dQ}(ok:tS P w H h) (e:H a=some (.tup (ks.map kV))):(mU (fc P w)).is h ks a:=by
 obtain ⟨_,its,r,o,h1,h2,n,h3⟩:=(show fP P w H h a (.tup (ks.map kV)) from ok a _ e)
 exact ⟨o,its.toArray,n,h1,h2,h3,by simpa using FC r⟩
theorem FE {kvs:List (List dQ×V)}(ok:tS P w H h) (e:Rd H a (.dT kvs)):kvs.length<=aY/\(a == jh)=false /\
  ∃ xs,KT H kvs xs/\h.DictOfH (mU (fc P w)) a xs:=by
 obtain ⟨z,y,xs,r,o,es,ep,h1,h2,h3,h4,h5⟩:=(show fP P w H h a (.dT kvs) from UF ok e)
 refine ⟨z,y,xs,r,o,es,ep,h1,h2,h3,h4,λx hx=>?_,h5⟩
 have all:∀ {l:List (List dQ×V)}{m:List (List dQ×af×aj)},KT H l m->∀ x∈m,(mU (fc P w)).is h x.1 x.2.1:=by
  intro l m q
  induction q with
  | nil=>intro x hx;exact nomatch hx
  | @cons p q ps qs hq t ih =>
   intro x hx
   rcases ax.mp hx with e|hx
   ·subst e;exact t9 ok (by rw [← hq.1];exact hq.2.1)
   ·exact ih x hx
 exact all r x hx
theorem XJ {kvs:List (List dQ×V)}(ok:tS P w H h) (e:H a=some (.dT kvs)):kvs.length<=aY/\(a == jh)=false /\
  ∃ xs,KT H kvs xs/\h.DictOfH (mU (fc P w)) a xs:=FE ok (.inl e)
end
def yD (H:Hp) (a:af) (y:V) (r:Option V):Prop :=
 (∃ kvs k,Rd H a (.dK kvs)/\y=kV k/\r=eV kvs k)\/∃ kvs k b,Rd H a (.dT kvs)/\y=.ref b/\H b=some (.tup (k.map kV))/\r=eV kvs k
def yE (H:Hp) (a:af) (y v:V) (H':Hp):Prop :=
 (∃ kvs k,H a=some (.dK kvs)/\y=kV k/\kvs.length<aY/\H'=upd H a (.dK (lC kvs k v))) \/
 ∃ kvs k b,H a=some (.dT kvs)/\y=.ref b/\H b=some (.tup (k.map kV))/\kvs.length<aY/\H'=upd H a (.dT (lC kvs k v))
theorem yD.k {H:Hp}{a:af}{kvs:List (dQ×V)}{k:dQ}(e:H a=some (.dK kvs)):yD H a (kV k) (eV kvs k):=.inl ⟨kvs,k,.inl e,rfl,rfl⟩
theorem yD.t {H:Hp}{a b:af}{kvs:List (List dQ×V)}{k:List dQ}(e:H a=some (.dT kvs)) (eb:H b=some (.tup (k.map kV))):yD H a (.ref b) (eV kvs k):=.inr ⟨kvs,k,b,.inl e,rfl,eb,rfl⟩
theorem yE.k {H:Hp}{a:af}{kvs:List (dQ×V)}{k:dQ}{v:V}(e:H a=some (.dK kvs)) (hl:kvs.length<aY):yE H a (kV k) v (upd H a (.dK (lC kvs k v))):=.inl ⟨kvs,k,e,rfl,hl,rfl⟩
theorem yE.t {H:Hp}{a b:af}{kvs:List (List dQ×V)}{k:List dQ}{v:V}(e:H a=some (.dT kvs)) (eb:H b=some (.tup (k.map kV))) (hl:kvs.length<aY) :
  yE H a (.ref b) v (upd H a (.dT (lC kvs k v))):=.inr ⟨kvs,k,b,e,rfl,eb,hl,rfl⟩
section
variable {X:Cx}{pins:List (af×gi)}{Z:St}{H:Hp}{s:ar}{a:af}{y v:V}{u r:aj}{o:Option V}{A:bY}{E:aj->ar->Prop}
theorem Inv.big (I:Inv X pins Z H s):jh<s.heap.objs.size:=by
 have h:bW<s.heap.objs.size:=(I.mod.glob.keeps I.bk).lt;exact OF (by decide) h
theorem FF {Q:aj->ar->Prop}(hu:A.units+1<ju) (I:Inv X pins Z H s) (g:yD H a y (some v)) (ry:RelV y u) (h:∀ w' s',Inv X pins Z H s'->RelV v w'->Q w' s') :
  aK (aP X.prog X.w) A (Nt (.ref a) u) Q E s:=by
 rcases g with ⟨kvs,k,e,ey,l⟩|⟨kvs,k,b,e,ey,eb,l⟩
 ·subst ey;obtain ⟨z,hd,vs,rel,dd⟩:=FD I.fD e;obtain ⟨w',hw,rw'⟩:=sf.some_of (v:=v) (o:=vm vs k) (by rw [l];exact rel.val k);exact wpAny_getItem_of (B8 ry) dd.mapOf hw (h w' _ (I.tok _) rw')
 ·subst ey;cases (show u=aF b from ry);obtain ⟨z,hd,xs,rel,dd⟩:=FE I.fD e;obtain ⟨w',hw,rw'⟩:=sf.some_of (v:=v) (o:=(HP xs k).map (·.2)) (by rw [l];exact rel.val k);obtain ⟨p,hp,hp2⟩:=bx.mp hw;refine wpAny_getItem_heap (kX hu) (t9 I.fD eb) dd hp ?_;rw [hp2];exact h w' _ (I.tok _) rw'
theorem ZQ {Q:aj->ar->Prop}(hu:A.units+1<ju) (I:Inv X pins Z H s) (g:yD H a y o) (ry:RelV y u) (h:∀ s',Inv X pins Z H s'->Q (.bool o.isSome) s') :
  aK (aP X.prog X.w) A (dG .In u (.ref a)) Q E s:=by
 rcases g with ⟨kvs,k,e,ey,l⟩|⟨kvs,k,b,e,ey,eb,l⟩
 ·subst ey;obtain ⟨z,hd,vs,rel,dd⟩:=FD I.fD e;refine wpAny_in_of (B8 ry) hd dd.mapOf ?_;rw [← (rel.val k).sg,← l];exact h _ (I.tok _)
 ·subst ey;cases (show u=aF b from ry);obtain ⟨z,hd,xs,rel,dd⟩:=FE I.fD e;refine wpAny_in_heap (kX hu) (t9 I.fD eb) hd dd ?_;have q:=(rel.val k).sg;rw [AB] at q;rw [← q,← l];exact h _ (I.tok _)
theorem Tg {Q:aj->ar->Prop}(hu:A.units+1<ju) (I:Inv X pins Z H s) (g:yD H a y o) (ry:RelV y u) (h:∀ s',Inv X pins Z H s'->Q (.bool (!o.isSome)) s') :
  aK (aP X.prog X.w) A (dG .NotIn u (.ref a)) Q E s:=by
 rcases g with ⟨kvs,k,e,ey,l⟩|⟨kvs,k,b,e,ey,eb,l⟩
 ·subst ey;obtain ⟨z,hd,vs,rel,dd⟩:=FD I.fD e;refine wpAny_notIn_of (B8 ry) hd dd.mapOf ?_;rw [← (rel.val k).sg,← l];exact h _ (I.tok _)
 ·subst ey;cases (show u=aF b from ry);obtain ⟨z,hd,xs,rel,dd⟩:=FE I.fD e;refine wpAny_notIn_heap (kX hu) (t9 I.fD eb) hd dd ?_;have q:=(rel.val k).sg;rw [AB] at q;rw [← q,← l];exact h _ (I.tok _)
theorem xJ {h':cm}{t':Nat}{ob:HO}(I:Inv X pins Z H s) (mu:XA (H a)) (hs:iL a s.heap h') (he:∃ q,h'.get? a=some q) (new:fP X.prog X.w (upd H a ob) h' a ob) :
  Inv X pins Z (upd H a ob) { s with heap:=h',toks:=t' } :=
 I.write (x:=a) (e:=a) mu (.inl rfl) (λb q hb z=>(hs.2 b hb).trans z) he new
theorem K5 {P:a9}{w:bQ}{H':Hp}{h':cm}{kvs:List (dQ×V)}{vs:List (dQ×aj)}(z:kvs.length<=aY) (hd:(a == jh)=false) (rel:KV kvs vs) (dd:h'.DictOf (fc P w) a vs) :
  fP P w H' h' a (.dK kvs):=⟨z,hd,vs,rel,dd⟩
theorem FG {H':Hp}{Q:Unit->ar->Prop}(hu:A.units+1<ju) (I:Inv X pins Z H s) (g:yE H a y v H') (ry:RelV y u) (rv:RelV v r) (h:∀ s',Inv X pins Z H' s'->Q () s') :
  aK (aP X.prog X.w) A (setItem (.ref a) u r) Q E s:=by
 rcases g with ⟨kvs,k,e,ey,l,eH⟩|⟨kvs,k,b,e,ey,eb,l,eH⟩
 ·subst ey eH;obtain ⟨z,hd,vs,rel,dd⟩:=MM I.fD e
  have hz:vs.length<=aY:=by rw [← rel.length];exact z
  have hl:(lC kvs k v).length<=aY:=by have:=l8 kvs k v;lia
  refine wpAny_setItem_pairs (hsz:=hz) (B8 ry) dd λh' dd' hs=>h _ ?_
  have he:∃ q,h'.get? a=some q:=let ⟨q,_,_,hq,_⟩:=dd';⟨q,hq⟩
  exact xJ I (by rw [e];exact gU) hs he (K5 hl hd (rel.put k rv) dd')
 ·subst ey eH;cases (show u=aF b from ry);obtain ⟨z,hd,xs,rel,dd⟩:=XJ I.fD e
  have hz:xs.length<=aY:=by rw [← yG rel];exact z
  have hl:(lC kvs k v).length<=aY:=by have:=l8 kvs k v;lia
  refine wpAny_setItem_heap (hsz:=hz) (kX hu) (t9 I.fD eb) dd λh' dd' hs=>h _ ?_;obtain ⟨q,es,ep,hq,h2,h3,h4,_,h5⟩:=dd';refine xJ I (by rw [e];exact gU) hs ⟨q,hq⟩ ⟨hl,hd,_,(rel.put k eb rv).keeps λc ys ec=>?_,q,es,ep,hq,h2,h3,h4,h5⟩;rw [aI (je ec e (λz=>nomatch z))];exact ec
end
section
variable {X:Cx}{pins:List (af×gi)}{Z:St}{H:Hp}{s:ar}{a:af}{kvs:List (dQ×V)}{k:dQ}{u:aj}{A:bY}{E:aj->ar->Prop}
theorem XM {Q:aj->ar->Prop}(I:Inv X pins Z H s) (e:Rd H a (.dK kvs)) (h:∀ t s',Inv X pins Z H s'->Q (.int kvs.length t) s'):aK (aP X.prog X.w) A (call (.builtin "len") [.ref a]) Q E s:=by
 obtain ⟨z,hd,vs,rel,dd⟩:=FD I.fD e;refine call_len_dict hd dd (by rw [← rel.length];rw [oF] at z;lia) ?_;rw [← rel.length];exact h _ _ (I.tok _)
end
theorem IF {X:Cx}{pins:List (af×gi)}{Z:St}{H:Hp}{s:ar}{a:af}{y:V}{o:Option V}(I:Inv X pins Z H s) (g:yD H a y o):s.TypeIs (.ref a) "dict":=by
 rcases g with ⟨kvs,k,e,_,_⟩|⟨kvs,k,b,e,_,_,_⟩
 ·obtain ⟨_,_,vs,_,dd⟩:=FD I.fD e;exact dd.typeIs
 ·obtain ⟨_,_,xs,_,dd⟩:=FE I.fD e;exact dd.typeIs
def UG (td ty tv:TE) (rd:V->V->Hp->VK->Prop):TS:=λD Z H=>td Z H λx H1=>ty Z H1 λy H2=>∃ a v,x=.ref a/\yD H2 a y (some v) /\
 tv Z H2 λy2 H3=>rd v y2 H3 λz H4=>∃ H5,yE H4 a y z H5/\D.nx Z H5
section
variable {X:Cx}{o i e value:Expr}{pos pos' tpos:oZ}{td ty tv:TE}
theorem Th {op:HL}{rd:V->V->Hp->VK->Prop}(hu:X.A.units+1<ju) (ho:PE X o td) (hi:PE X i ty) (hv:PE X value tv) (hop:VE X op rd)
  (ha:∀ ov iv new,augStore i ov iv new=(do nU [new,ov,iv] (setItem ov iv new);release [new,ov,iv] [];pure .next)):PS X (.AugAssign (.Subscript o i tpos) op value pos) (UG td ty tv rd):=by
 intro pins s Z H D I h;refine wpAny_AugAssign_SubscriptAny (iG (ho pins s Z H _ I h) λu s1 ⟨x,H1,I1,rx,q1⟩=>iG (hi pins s1 Z H1 _ I1 q1) λiv s2 ⟨y,H2,I2,ry,a,v,ex,g,q2⟩=>?_) ha;subst ex;obtain rfl:u=aF a:=rx;refine FF hu I2 g ry λw' s3 I3 rw'=>iG (hv pins s3 Z H2 _ I3 q2) λw2 s4 ⟨y2,H3,I4,ry2,q3⟩=>iG (hop pins s4 Z H3 v y2 w' w2 _ I4 rw' ry2 q3) λw3 s5 ⟨z,H4,I5,rz,H5,g5,q4⟩=>?_
 exact FG hu I5 g5 ry rz λs6 I6=>⟨Z,H5,I6,q4⟩
end
theorem Pw {P:a9}{w:bQ}{H:Hp}(h:cm) (hb:jh<h.objs.size):fP P w H (h.push { cls:=.type "dict",data:=.dict #[] }) h.objs.size (.dK []) :=
 ⟨aJ _,beq_eq_false_iff_ne.mpr (Ne.symm (bf hb)),[],.nil,Heap.DictOf.new h⟩
theorem Px {P:a9}{w:bQ}{H:Hp}(h:cm) (hb:jh<h.objs.size):fP P w H (h.push { cls:=.type "dict",data:=.dict #[] }) h.objs.size (.dT []) :=
 ⟨aJ _,beq_eq_false_iff_ne.mpr (Ne.symm (bf hb)),[],.nil,_,#[],0,aN _ rfl,⟨rfl,rfl,rfl⟩,rfl,rfl,xv⟩
def y6:TE:=λ_ H Q=>∀ p,H p=none->Q (.ref p) (upd H p (.dT []))
section
variable {X:Cx}{pos:oZ}
theorem xK:PE X (.Dict [] [] pos) y6:=λpins s Z H Q I h =>
 wpAny_Dict_empty ⟨.ref s.heap.objs.size,_,I.laid (a:=s.heap.objs.size) (o:=.dT []) (t':=s.toks) (λ_ _ q=>ao _ q) (au _) (Px s.heap I.big),rfl,h _ (I.fD.fresh (au _))⟩
end
def K6:List (TE×TE)->St->Hp->(List (V×V)->Hp->Prop)->Prop
 | [],_,H,Q=>Q [] H
 | (tk,tv)::r,Z,H,Q=>tk Z H λx H1=>tv Z H1 λy H2=>K6 r Z H2 λps H3=>Q ((x,y)::ps) H3
abbrev VV:List (V×V)->List (aj×aj)->Prop:=Paired λp q=>RelV p.1 q.1/\RelV p.2 q.2
def Zg (X:Cx) (pos:oZ) (keys:List (Option Expr)) (values:List Expr) (trs:List (TE×TE)):Prop :=
 ∀ (pins:List (af×gi)) (s:ar) (Z:St) (H:Hp) (Q:List (V×V)->Hp->Prop),Inv X pins Z H s->K6 trs Z H Q ->
  aK (aP X.prog X.w) X.A (evalPairs (pairTrees keys values X.env pos)) (λvs s'=>∃ ps H',Inv X pins Z H' s'/\VV ps vs/\Q ps H') X.xe s
theorem MN {X:Cx}{pos:oZ}:Zg X pos [] [] []:=λpins s Z H Q I h=>pairTrees_nil_walk ⟨[],H,I,.nil,h⟩
theorem IG {X:Cx}{pos:oZ}{k v:Expr}{ks:List (Option Expr)}{vs:List Expr}{tk tv:TE}{trs:List (TE×TE)}(hk:PE X k tk) (hv:PE X v tv) (hr:Zg X pos ks vs trs) :
  Zg X pos (some k::ks) (v::vs) ((tk,tv)::trs):=λpins s Z H Q I h =>
 pairTrees_cons_walk (iG (hk pins s Z H _ I h) λu s1 ⟨x,H1,I1,rx,q1⟩=>iG (hv pins s1 Z H1 _ I1 q1) λw2 s2 ⟨y,H2,I2,ry,q2⟩ =>
  iG (hr pins s2 Z H2 _ I2 q2) λws s3 ⟨ps,H3,I3,rel,q3⟩=>⟨(x,y)::ps,H3,I3,.cons ⟨rx,ry⟩ rel,q3⟩)
def wq (kvs more:List (dQ×V)):List (dQ×V):=more.foldl (λacc kv=>lC acc kv.1 kv.2) kvs
theorem KV.merge:∀ {more:List (dQ×V)}{rs:List (dQ×aj)}{kvs:List (dQ×V)}{vs:List (dQ×aj)},KV more rs->KV kvs vs->KV (wq kvs more) (merged vs rs):=by
 intro more rs kvs vs r;unfold KV at r
 induction r generalizing kvs vs with
 | nil=>intro q;exact q
 | @cons p q ps qs h t ih =>
  intro r0
  have e:KV (lC kvs p.1 p.2) (stored vs q.1 q.2):=by
   have:=r0.put p.1 h.2;rw [← h.1];exact this
  exact ih e
theorem vO:∀ (more kvs:List (dQ×V)),(wq kvs more).length<=kvs.length+more.length
 | [],kvs=>by show kvs.length<=kvs.length+0;lia
 | p::r,kvs=>by
  have h1:=vO r (lC kvs p.1 p.2);have h2:=l8 kvs p.1 p.2
  show (wq (lC kvs p.1 p.2) r).length<=_
  rw [bV];lia
theorem B9 {P:a9}{w:bQ}:∀ {kvs:List (dQ×V)}{ws:List (aj×aj)},VV (kvs.map λkv=>(kV kv.1,kv.2)) ws->∃ rs,Carries (fc P w) ws rs/\KV kvs rs
 | [],_,r=>by rw [vk] at r;cases r;exact ⟨[],gU,.nil⟩
 | p::kvs,_,r=>by
  rw [bT] at r
  cases r with
  | @cons a b as bs h t =>
   obtain ⟨rs,c,q⟩:=B9 (P:=P) (w:=w) t;obtain ⟨b1,b2⟩:=b;exact ⟨(p.1,b2)::rs,⟨B8 h.1,rfl,c⟩,.cons ⟨rfl,h.2⟩ q⟩
def Py (trs:List (TE×TE)):TE:=λZ H Q=>∀ p,H p=none->K6 trs Z (upd H p (.dK [])) λps H2=>H2 p=some (.dK [])/\∃ kvs:List (dQ×V),ps=kvs.map (λkv=>(kV kv.1,kv.2))/\kvs.length<=15/\Q (.ref p) (upd H2 p (.dK (wq [] kvs)))
theorem MO {X:Cx}{pos:oZ}{keys:List (Option Expr)}{values:List Expr}{trs:List (TE×TE)}(h:Zg X pos keys values trs) (hall:keys.all (·.isSome)=true) (hl:keys.length=values.length) (h0:keys≠[])
  (h15:keys.length<=15):PE X (.Dict keys values pos) (Py trs):=by
 intro pins s Z H Q I q;have hn:=I.fD.fresh (au s.heap.objs.size);have I1:=I.laid (a:=s.heap.objs.size) (o:=.dK []) (h':=s.heap.push { cls:=.type "dict",data:=.dict #[] }) (t':=s.toks) (λ_ _ q=>ao _ q) (au _) (Pw s.heap I.big);refine wpAny_Dict_walk (knd:=fc X.prog X.w) hall hl h0 h15 (iG (h pins _ Z _ _ I1 (q _ hn)) λws s2 ⟨ps,H2,I2,rel,e,kvs,ep,lk,q2⟩=>?_);subst ep;obtain ⟨rs,c,rk⟩:=B9 (P:=X.prog) (w:=X.w) rel;obtain ⟨z,hd,vs0,r0,dd⟩:=MM I2.fD e;cases r0;refine ⟨rs,c,dd,λh' dd' hs=>⟨.ref s.heap.objs.size,_,?_,rfl,q2⟩⟩
 have hz:(wq [] kvs).length<=aY:=by
  have h1:=vO kvs [];rw [mV] at h1;rw [oF];lia
 have he:∃ q,h'.get? s.heap.objs.size=some q:=let ⟨q,_,_,hq,_⟩:=dd';⟨q,hq⟩
 exact xJ I2 (by rw [e];exact gU) hs he (K5 hz hd (rk.merge .nil) dd')
section
variable {X:Cx}{pins:List (af×gi)}{Z:St}{H:Hp}{s:ar}{a:af}{y d:V}{u r:aj}{o:Option V}{A:bY}{E:aj->ar->Prop}
end
section
variable {X:Cx}{o e f:Expr}{apos cpos:oZ}{td ty tx:TE}
end
section
variable {X:Cx}{pins:List (af×gi)}{Z:St}{H:Hp}{s:ar}{a:af}{kvs:List (dQ×V)}{A:bY}{E:aj->ar->Prop}
end
section
variable {X:Cx}{pins:List (af×gi)}{Z:St}{H:Hp}{s:ar}{a:af}{y:V}{u:aj}{A:bY}{E:aj->ar->Prop}
end
end L2
namespace Att
open PySem PySem.W PySem.Calls PyProof.Rows
theorem AG {P:Params}{h:cm}:∀ (ns:List Int) (vs:List aj),WellAll P h vs (ns.map WData.int)->fR vs ns:=by
 intro ns
 induction ns with
 | nil =>
  intro vs w;rw [vk] at w;cases w
  exact .nil
 | cons n ns ih =>
  intro vs w;rw [bT] at w
  cases w with
  | cons a b =>
   cases a;exact .cons _ _ (ih _ b)
theorem NN {l:tL}{n:Nat}(hn:l.most=some n) {P:Params}{h:cm}{args:List WData}{vals:List aj}
  (hpre:l.row.toRowW.claim.pre args=true) (hwl:WellAll P h vals args) :
  ∃ a vs ns,vals=[aF a]/\args=[WData.list (ns.map WData.int)]/\h.get? a=some { cls:=.type "list",data:=.seq vs.toArray }/\fR vs ns/\ns.length<=n:=by
 have hsh:WShape.hasAll [] args [.list .int]=true:=(pre_splitW hpre).1;have hc:l.pre.holds [] { args:=args }=true:=(pre_splitW hpre).2;obtain ⟨d,r,rfl,h1,h2⟩:=hasAllW_cons hsh;obtain rfl:=hasAllW_nil h2;obtain ⟨xs,rfl,h3⟩:=hasW_list h1;obtain ⟨ns,rfl⟩:=items_int h3
 have hlen:ns.length<=n:=by
  unfold OpenLaw.pre at hc
  have h4:(WTm.not (.lt (.lit (.int (n:Int))) (.len (.arg 0)))).holds [] { args:=[.list (ns.map .int)] }=true:=by
   have h4:=(holds_andW hc).1;rw [hn] at h4;exact h4
  have h5:=condW_of h4 (w_not (w_lt w_lit (w_len_list (w_arg rfl))));rw [ag] at h5;refine pG λq=>?_
  have q':(n:Int)<((ns.length:Nat):Int):=by lia
  first
   | (rw [decide_eq_true q'] at h5;exact absurd h5 (by decide))
   | (simp at h5;lia)
 cases hwl with
 | cons w1 w2 =>
  cases w2
  cases w1 with
  | list ho hall=>exact ⟨_,_,ns,rfl,rfl,ho,AG ns _ hall,hlen⟩
theorem NO (l:tL) (args:List WData):l.row.toRowW.claim.post args (.bool true) args=true :=
 postW_of (r:=l.row.toRowW) (X:=(true == true))
  (show WShape.has [] (.bool true) .bool=true by first|rfl|decide|simp [WShape.has,WShape.arms,WShape.armsAll])
  (show (WTm.eq .res (.lit (.bool true))).value [] { args:=args,res:=some (.bool true),after:=args }=some (.bool (true == true)) from w_eq_bool (w_res rfl) w_lit) rfl
theorem IH {l:tL}{n:Nat}{q:a9}{loose:List bu}{XP:(bu->Option aj)->cm->Prop}{YP:bQ->cm->Prop}{d:DefRec}
  (hn:l.most=some n) (hdf:d.params.defaults=[])
  (call:∀ (w:bQ) (s₀ s₁:ar) (mg mb:bu->Option aj) (fa:af) (o:gi) (pm cd doc:aj) (a:af) (vs:List aj) (ns:List Int),
   Ground q loose [] XP w s₀ mg mb s₁.heap->YP w s₁.heap ->
   s₁.heap.get? fa=some o->o.data=.func (docDef d.name d.params d.body d.scope pm cd doc)->s₁.heap.CodeRec cd d.name->mg d.name=some (.ref fa) ->
   s₁.heap.get? a=some { cls:=.type "list",data:=.seq vs.toArray }->fR vs ns->ns.length<=n->s₁.gens=#[] ->
   kU (aP l.prog w) HQ (.call (.ref fa) ⟨[.ref a],[]⟩) (λr s'=>r=.ok (.ret (.bool true))/\OldK s₁.heap s'.heap/\s'.os=s₁.os/\yH s'.gens) s₁) :
  Sa q loose XP YP l.row.toRowW d [] (λf vs=>Sb f vs):=by
 intro w s₀ s₁ mg mb G Y fa o pm cd doc dV kV ho hd hcd hD hmg hg args vals as hpre hlay hrd hwl hlo;obtain rfl:dV=.none:=Dflts.none hD hdf;obtain rfl:kV=.none:=Dflts.noKw hD;obtain ⟨a,vs,ns,rfl,rfl,hobj,hints,hlen⟩:=NN hn hpre hwl;refine enter_call (pE (call w s₀ s₁ mg mb fa o pm cd doc a vs ns G Y ho (fd_plain hd) hcd hmg hobj hints hlen hg) λr s' hq=>?_);obtain ⟨rfl,h2,h3,h4⟩:=hq;exact ⟨.inl ⟨.bool true,.bool true,[],rfl,λ_=>rfl,.bool true,NO l _,λ_=>⟨pS,λ_ hm=>(nomatch hm)⟩⟩,h2,h3,h4⟩
section
variable {prog:a9}{w:bQ}{A:bY}{E:aj->ar->Prop}{s:ar}{K:aa}
end
end Att
namespace L2
theorem ve:∀ {vs:List aj}{ns:List Int},fR vs ns->Vals (ns.map V.int) vs
 | _,_,.nil=>.nil
 | _,_,.cons n t h=>.cons ⟨t,rfl⟩ (ve h)
end L2
namespace L2
end L2
namespace L2
def fv (s:dU) (j:Nat):dU:=match s with
 | .ClassDef _ _ _ body _ _ _ _ _ _ _=>body.getD j (.Pass ⟨0,0,0,0⟩)
 | _=>.Pass ⟨0,0,0,0⟩
def qI (s:dU):qG:=match s with
 | .FunctionDef _ a _ _ _ _ _ _ _ _=>a
 | _=>{ posonlyargs:=[],args:=[],vararg:=none,kwonlyargs:=[],kw_defaults:=[],kwarg:=none,defaults:=[] }
def mD (s:dU):List dU:=match s with
 | .FunctionDef _ _ b _ _ _ _ _ _ _=>b
 | _=>[]
def bg (s:dU):lh:=match s with
 | .FunctionDef _ _ _ _ _ _ sc _ _ _=>sc
 | _=>{ kind:=.function,names:=[],isGenerator:=false,isCoroutine:=false }
abbrev eN:Kx:=λ_ _ _ _ _ _=>False
abbrev E0:XK:=λ_ _ _=>False
theorem b0 {X:Cx}:qS eN X E0:=λ_ _ _ _ _ _ _ h=>h.elim
structure lZ (K:aa) (x qual:bu) (st:dU) (f:af) (fd:fB):Prop where
 ex:∃ (oc:aj) (od:Option af) (kV doc pm:aj) (an:Option af) (sr ct:aj) (osl:Array (Option aj)),
  fd=jc x qual (qI st) (mD st) (bg st) .none kV doc pm an sr ct/\K.lookup f=some ⟨oc,od,.func fd,osl⟩/\qH K sr qual=true
 kp:fg K (.ref f)=true
section
variable {P:a9}{w:bQ}{K:aa}{mg:bu->Option aj}{base:cm}
theorem lZ.ok {x qual:bu}{st:dU}{f:af}{fd:fB}{N ps:List bu}{k:Nat}{sp:Sp}(F:lZ K x qual st f fd) (S:bU N ps (bg st)) (len:∀ vs H Q E,sp vs H Q E->vs.length=ps.length)
  (hbody:∀ (sr:aj) (A:bY) (outer:List Ia) (s:ar) (H:Hp) (vs:List V) (Q:VK) (E:XK),kT k (A.deeper (yL qual (bg st) s.heap.objs.size f sr))->sp vs H Q E ->
   ∃ t,Mm (IA eN P w K mg base N qual (bg st) f sr A outer s H E).WW (mD st) t/\t { nx:=λ_ H'=>Q .non H',rt:=Q } (start N vs) H):dF P w K mg base eN (k+1) f fd ps sp:=by
 obtain ⟨oc,od,kV,doc,pm,an,sr,ct,osl,rfl,lk,hcd⟩:=F.ex;refine UD lk hcd S len λA outer s H vs Q E hr hsp=>?_;obtain ⟨t,h,q⟩:=hbody sr A outer s H vs Q E hr hsp;exact ⟨t,h.WW,q⟩
theorem lZ.binds {x qual:bu}{st:dU}{f:af}{fd:fB}{ps:List bu}(F:lZ K x qual st f fd)
  (h:∀ (kV doc pm:aj) (an:Option af) (sr ct:aj) (us:List aj),us.length=ps.length->HN (jc x qual (qI st) (mD st) (bg st) .none kV doc pm an sr ct) ⟨us,[]⟩=pure (ps.zip us)):Binds K fd ps []:=by
 obtain ⟨oc,od,kV,doc,pm,an,sr,ct,osl,rfl,lk,hcd⟩:=F.ex;exact .all (h kV doc pm an sr ct)
theorem Gk {x qual:bu}{st:dU}{f:af}{oc:aj}{od an:Option af}{osl:Array (Option aj)}{kV doc pm sr ct:aj}(l:K.lookup f=some ⟨oc,od,.func (jc x qual (qI st) (mD st) (bg st) .none kV doc pm an sr ct),osl⟩)
  (c:qH K sr qual=true) (k:fg K (.ref f)=true):lZ K x qual st f (jc x qual (qI st) (mD st) (bg st) .none kV doc pm an sr ct):=⟨⟨oc,od,kV,doc,pm,an,sr,ct,osl,rfl,l,c⟩,k⟩
end
section
variable {X:Cx}
theorem pv (i:Nat) {x:bu}{pos:oZ}(hN:X.N[i]?=some x:=by rfl) (hv:Za X.env.scope x:=by first|exact Or.inl rfl|exact Or.inr (Or.inl rfl)|exact Or.inr (Or.inr rfl)) (hd:(x == ("__debug__":bu))=false:=by decide)
  (hcd:(x == ("__classdict__":bu))=false:=by decide):PE X (.Name x pos) (aw i):=Vu hN hv hd hcd
end
theorem kP {A B:Prop}(h:B):if false=true then A else B:=by
 rw [if_neg bL];exact h
theorem pX {A B:Prop}(h:A):if true=true then A else B:=by
 rw [if_pos rfl];exact h
def b8 (H H':Hp):Prop:=∀ b o,H b=some o->H' b=some o
theorem b8.trans {H H1 H2:Hp}(a:b8 H H1) (b:b8 H1 H2):b8 H H2:=λc o h=>b c o (a c o h)
theorem b8.free {H H':Hp}(e:b8 H H') {l:af}(h:H' l=Option.none):H l=Option.none:=by
 cases q:H l with
 | none=>rfl
 | some o =>
  rw [e l o q] at h;cases h
theorem b8.seq {K:aa}{H H':Hp}{a:af}{xs:List V}(e:b8 H H') (h:de K H a xs):de K H' a xs:=by
 rcases h with (h|⟨o,h⟩)|h
 ·exact .inl (.inl (e _ _ h))
 ·exact .inl (.inr ⟨o,e _ _ h⟩)
 ·exact .inr h
end L2
namespace L2
section
variable {X:Cx}
theorem NP:oY X (.builtin "len") (λxs H Q=>∃ a kvs,xs=[V.ref a]/\H a=some (.dK kvs)/\Q (.int kvs.length) H):=by
 intro pins s Z H xs us Q I r h;obtain ⟨a,kvs,rfl,ha,q⟩:=h;obtain ⟨u,rfl,ru⟩:=vals1 r;cases ru
 exact XM I (.inl ha) λt s' I'=>⟨.int kvs.length,H,I',⟨t,rfl⟩,q⟩
end
section
variable {κ:Type} [DecidableEq κ]
theorem MP:∀ {l:List κ}{k:κ},l.Nodup->¬ k∈l->(l++[k]).Nodup
 | [],k,_,_=>by simp
 | a::r,k,h,hk=>by
  obtain ⟨h1,h2⟩:=bA.mp h
  show (a::(r++[k])).Nodup
  refine bA.mpr ⟨λm=>?_,MP h2 λm=>hk (ax.mpr (Or.inr m))⟩
  rcases aQ.mp m with q|q
  ·exact h1 q
  ·exact hk (ax.mpr (Or.inl (aA.mp q).symm))
theorem NQ {p:κ×V}{r:List (κ×V)}{k:κ}(e:p.1=k):pW (p::r) k=pW r k:=by
 unfold pW;rw [Vd,if_neg (by simp [e])]
theorem FH {p:κ×V}{r:List (κ×V)}{k:κ}(e:¬ p.1=k):pW (p::r) k=p::pW r k:=by
 unfold pW;rw [Vd,if_pos (by simp [e])]
theorem II:∀ {kvs:List (κ×V)}{k:κ},¬ k∈kvs.map (·.1)->pW kvs k=kvs
 | [],_,_=>rfl
 | p::r,k,h=>by
  have h':¬ k∈r.map (·.1):=λm=>by
   obtain ⟨q,hq,e⟩:=bw.mp m;exact h (bw.mpr ⟨q,ax.mpr (Or.inr hq),e⟩)
  rw [FH λe=>h (bw.mpr ⟨p,ax.mpr (Or.inl rfl),e⟩),II h']
end
end L2
namespace L2
def qF (cells:List (bu×af)):List (bu×lp)->List (bu×af)->List (bu×af)
 | [],acc=>acc
 | (n,k)::r,acc=>qF cells r (if k == .free then (n,(cells.lookup n).getD 0)::acc else acc)
theorem wu {env:Ia}:∀ (names:List (bu×lp)) (acc:List (bu×af)),(∀ n,(n,bM)∈names->∃ c,env.cells.lookup n=some c) ->
  (forIn names acc λ(x:bu×lp) (r:List (bu×af))=>(if x.2 == .free then (cellOf env x.1 >>= λc=>pure (jS ((x.1,c)::r))) else pure (jS r):Uj (ForInStep (List (bu×af)))))=pure (qF env.cells names acc)
 | [],acc,_=>rfl
 | (n,k)::r,acc,h=>by
  rw [vH];have hr:∀ n,(n,bM)∈r->∃ c,env.cells.lookup n=some c:=λn hn=>h n (ak _ hn)
  cases hk:k == bM with
  | false =>
   simp only [hk,bX,if_false,pure_bind];rw [wu r acc hr]
   show _=pure (qF env.cells r (if k == bM then _ else acc))
   rw [hk];rfl
  | true =>
   have e:k=.free:=by simpa using hk
   subst e;obtain ⟨c,hc⟩:=h n av
   have e2:cellOf env n=pure c:=by unfold cellOf;rw [hc]
   simp only [hk,if_true,e2,pure_bind];rw [wu r _ hr]
   show _=pure (qF env.cells r (if bM == bM then (n,(env.cells.lookup n).getD 0)::acc else acc))
   rw [hc];rfl
theorem wx {scope:lh}{env:Ia}(h:∀ n,(n,bM)∈scope.names->∃ c,env.cells.lookup n=some c):closureFor scope env=pure (qF env.cells scope.names []):=by
 have e:=wu (env:=env) scope.names [] h;unfold closureFor;rw [← bind_pure (pure (qF env.cells scope.names []):Uj _),← e]
theorem l9 {cells:List (bu×af)}{x:bu}{c:af}:∀ (names:List (bu×lp)) (acc:List (bu×af)),(∀ n,(n,bM)∈names->∃ c,cells.lookup n=some c) ->
  (qF cells names acc).lookup x=some c->cells.lookup x=some c\/acc.lookup x=some c
 | [],acc,_,h=>.inr h
 | (n,k)::r,acc,hf,h=>by
  have hr:∀ n,(n,bM)∈r->∃ c,cells.lookup n=some c:=λn hn=>hf n (ak _ hn);unfold qF at h
  rcases l9 r _ hr h with z|z
  ·exact .inl z
  ·cases hk:k == bM with
   | false=>rw [hk] at z;exact .inr z
   | true =>
    have e:k=.free:=by simpa using hk
    subst e;obtain ⟨d,hd⟩:=hf n av;rw [hk,if_pos rfl,hd] at z
    by_cases hx:x=n
    ·subst hx;rw [cR,beq_self_eq_true] at z;exact .inl (by rw [hd];exact z)
    ·rw [cR,beq_false_of_ne hx] at z;exact .inr z
theorem xM {cells:List (bu×af)}{x:bu}:∀ (names:List (bu×lp)) (acc:List (bu×af)),((x,bM)∈names\/∃ c,acc.lookup x=some c)->∃ c,(qF cells names acc).lookup x=some c
 | [],acc,h=>h.elim (λz=>nomatch z) λz=>z
 | (n,k)::r,acc,h=>by
  unfold qF;refine xM r _ ?_
  rcases h with z|⟨c,z⟩
  ·rcases ax.mp z with e|z
   ·have e1:n=x:=(cC e).1.symm;have e2:k=.free:=(cC e).2.symm;subst e1 e2;exact .inr ⟨_,by rw [if_pos (by rfl),cR,beq_self_eq_true]⟩
   ·exact .inl z
  ·refine .inr ?_
   split
   ·rw [cR];cases x == n
    ·exact ⟨c,z⟩
    ·exact ⟨_,rfl⟩
   ·exact ⟨c,z⟩
theorem xN {env:Ia}{x:bu}{k:lp}:∀ {names:List (bu×lp)},
  (names.map λ(n,k)=>if (k == bM && env.scope.kind == .function && env.kindOf n == some .cell) then (n,iD) else (n,k)).lookup x=some k ->
   ∃ k0,names.lookup x=some k0/\(k=k0\/(k0=.free/\k=.cell))
 | [],h=>by simp at h
 | (n,k1)::r,h=>by
  have ih:=@xN env x k r;have h:ff x ((if (k1 == bM && env.scope.kind == .function && env.kindOf n == some .cell)=true then (n,iD) else (n,k1))::r.map λ(n,k)=>if (k == bM && env.scope.kind == .function && env.kindOf n == some .cell) then (n,iD) else (n,k))=some k:=h
  by_cases hc:(k1 == bM && env.scope.kind == .function && env.kindOf n == some .cell)=true
  ·rw [if_pos hc,cR] at h;rw [cR]
   have e:k1=.free:=by
    rw [gW,gW] at hc
    simpa using hc.1.1
   cases hx:x == n with
   | true=>rw [hx] at h;exact ⟨k1,rfl,.inr ⟨e,(a7 h).symm⟩⟩
   | false=>rw [hx] at h;exact ih h
  ·rw [if_neg hc,cR] at h;rw [cR]
   cases hx:x == n with
   | true=>rw [hx] at h;exact ⟨k1,rfl,.inl (a7 h).symm⟩
   | false=>rw [hx] at h;exact ih h
theorem Ak {env:Ia}{x:bu}:∀ {names:List (bu×lp)},names.lookup x=some .free ->
  (names.map λ(n,k)=>if (k == bM && env.scope.kind == .function && env.kindOf n == some .cell) then (n,iD) else (n,k)).lookup x=some .free \/
  (names.map λ(n,k)=>if (k == bM && env.scope.kind == .function && env.kindOf n == some .cell) then (n,iD) else (n,k)).lookup x=some .cell
 | [],h=>by simp at h
 | (n,k1)::r,h=>by
  have ih:=@Ak env x r
  show ff x ((if (k1 == bM && env.scope.kind == .function && env.kindOf n == some .cell)=true then (n,iD) else (n,k1))::r.map λ(n,k)=>if (k == bM && env.scope.kind == .function && env.kindOf n == some .cell) then (n,iD) else (n,k))=some .free \/
   ff x ((if (k1 == bM && env.scope.kind == .function && env.kindOf n == some .cell)=true then (n,iD) else (n,k1))::r.map λ(n,k)=>if (k == bM && env.scope.kind == .function && env.kindOf n == some .cell) then (n,iD) else (n,k))=some .cell
  rw [cR] at h
  by_cases hc:(k1 == bM && env.scope.kind == .function && env.kindOf n == some .cell)=true
  ·rw [if_pos hc,cR]
   cases hx:x == n with
   | true=>exact .inr rfl
   | false=>rw [hx] at h;exact ih h
  ·rw [if_neg hc,cR]
   cases hx:x == n with
   | true=>rw [hx] at h;exact .inl h
   | false=>rw [hx] at h;exact ih h
theorem mem_of_lookup {x:bu}{k:lp}:∀ {names:List (bu×lp)},names.lookup x=some k->(x,k)∈names
 | [],h=>by simp at h
 | (n,k1)::r,h=>by
  rw [cR] at h
  cases hx:x == n with
  | true =>
   rw [hx] at h
   have e:x=n:=by simpa using hx
   rw [e,a7 h];exact av
  | false=>rw [hx] at h;exact ak _ (mem_of_lookup h)
def Gm (X:Cx) (N:List bu) (scope:lh) (s:ar) (H:Hp) (fp:List af):Cx where
 prog:=X.prog
 w:=X.w
 K:=X.K
 mg:=X.mg
 base:=X.base
 A:=X.A
 N:=N
 s₀:=s
 H₀:=H
 env:=compEnvC scope (qF X.env.cells scope.names []) s.heap.objs.size X.env
 outer:=X.stack
 stack:=X.stack
 ex:=fp
 fn:=λ_=>false
 calm:=X.calm
 pn:=[]
 xe:=λ_ _=>False
def DM (X:Cx) (scope:lh):List Nat->List bu->Prop
 | [],[]=>True
 | j::js,y::ys=>X.N[j]?=some y/\(X.env.kindOf y=some .cell\/X.env.kindOf y=some .free)/\scope.names.lookup y=some .free/\DM X scope js ys
 | _,_=>False
def IJ (Z:St) (js:List Nat):St:=js.map λj=>(Z[j]?).join
theorem DM.len {X:Cx}{scope:lh}:∀ {js:List Nat}{ys:List bu},DM X scope js ys->js.length=ys.length
 | [],[],_=>rfl
 | _::_,_::_,h=>by rw [bV,bV,DM.len h.2.2.2]
 | [],_::_,h=>h.elim
 | _::_,[],h=>h.elim
theorem DM.get {X:Cx}{scope:lh}{Z:St}{y:bu}{v:V}:∀ {js:List Nat}{ys:List bu}{i:Nat},DM X scope js ys->ys[i]?=some y->(IJ Z js)[i]?=some (some v) ->
  ∃ j:Nat,X.N[j]?=some y/\Z[j]?=some (some v)/\(X.env.kindOf y=some .cell\/X.env.kindOf y=some .free)/\scope.names.lookup y=some .free
 | [],[],i,_,e,_=>by simp at e
 | j::js,z::ys,0,h,e,q=>by
  simp only [nc,gR] at e;subst e;refine ⟨j,h.1,?_,h.2.1,h.2.2.1⟩
  have q':(Z[j]?).join=some v:=by simpa [IJ] using q
  cases hj:Z[j]? with
  | none=>rw [hj] at q';simp at q'
  | some o=>rw [hj] at q';rw [← q'];rfl
 | j::js,z::ys,i+1,h,e,q=>DM.get (i:=i) h.2.2.2 (by simpa using e) (by simpa [IJ] using q)
 | [],_::_,_,h,_,_=>h.elim
 | _::_,[],_,h,_,_=>h.elim
section
variable {X:Cx}{pins:List (af×gi)}{Z:St}{H:Hp}{s s':ar}{scope:lh}{fp:List af}
theorem K7 {N:List bu}(I:Inv X pins Z H s) (hf:∀ b∈fp,yZ X pins H b) (hlt:∀ b∈fp,b<s.heap.objs.size) (hkind:scope.kind=.function) (hcell:∀ y∈scope.names,y.2≠.cell)
  (hfr:∀ n,(n,bM)∈scope.names->∃ c,X.env.cells.lookup n=some c):(Gm X N scope s H fp).Ok where
 mod:=I.mod
 kind:=hkind
 glob:=I.ok.glob
 blt:=I.ok.blt
 above:=au _
 inj:=λx y c h1 h2=>I.ok.inj x y c ((l9 _ _ hfr h1).resolve_right (by simp)) ((l9 _ _ hfr h2).resolve_right (by simp))
 has:=λx hx=>by
  refine xM _ _ (.inl ?_)
  have key:∀ k,(k=iD\/k=bM)->(relabel scope X.env).names.lookup x=some k->(x,bM)∈scope.names:=λk hk e=>by
   obtain ⟨k0,e0,z⟩:=xN e
   rcases z with z|⟨z,_⟩
   ·subst z
    rcases hk with hk|hk
    ·subst hk;exact absurd rfl (hcell _ (mem_of_lookup e0))
    ·subst hk;exact mem_of_lookup e0
   ·subst z;exact mem_of_lookup e0
  rcases hx with hx|hx
  ·exact key _ (.inl rfl) hx
  ·exact key _ (.inr rfl) hx
 Xp:=λx c h=>by cases h
 hd:=I.ok.hd
 frames:=I.ok.frames
 YR:=.inl rfl
 Zq:=λb hb=>⟨bf (hlt b hb),λx c e=>(hf b hb).2.2.2.2.1 x c ((l9 _ _ hfr e).resolve_right (by simp))⟩
 bs:=I.bs
 RX:=bz I.ok.RX I.sz
 Os:=λb o e hb=>by
  rcases (hf b hb).2.2.2.1 with z|z
  ·exact I.ok.Os b o e z
  ·exact absurd (br (aL e) (bz I.ok.RX z)) (fu _)
 On:=λb hb hs=>by
  rcases ax.mp (I.Mt b hs) with z|z
  ·exact (hf b hb).2.1 z
  ·exact (hf b hb).2.2.1 z
 z6:=I.stack
 U7:=I.Np
theorem Tj {own ys:List bu}{js:List Nat}{h1:cm}{tk:Nat}{m:bu->Option aj}(I:Inv X pins Z H s) (hf:∀ b∈fp,yZ X pins H b) (hlt:∀ b∈fp,b<s.heap.objs.size) (hkind:scope.kind=.function)
  (hcell:∀ y∈scope.names,y.2≠.cell) (hfr:∀ n,(n,bM)∈scope.names->∃ c,X.env.cells.lookup n=some c) (hc:DM X scope js ys)
  (hn:h1.Ns s.heap.objs.size m) (hk:∀ b o,s.heap.get? b=some o->h1.get? b=some o) :
  Inv (Gm X (own++ys) scope s H fp) [] (rK own.length none++IJ Z js) H { s with heap:=h1,toks:=tk }:=by
 have hcl:∀ x c,(qF X.env.cells scope.names []).lookup x=some c->X.env.cells.lookup x=some c:=λx c e=>(l9 _ _ hfr e).resolve_right (by simp);refine ⟨K7 I hf hlt hkind hcell hfr,rfl,I.bare,Un.kept hk,⟨m,hn,λi x v e1 e2 e3=>?_⟩,λx c e=>?_,I.fresh,λx c e=>I.uT x c (hcl x c e),(λp hp=>nomatch hp),I.fD.kept hk,?_⟩
 ·have e1':(own++ys)[i]?=some x:=e1
  by_cases hi:i<own.length
  ·rw [eX (by simpa using hi)] at e2;rw [Mw] at e2
   split at e2
   ·cases a7 e2
   ·cases e2
  ·have hi':own.length<=i:=pG hi;rw [eK hi'] at e1';rw [eK (by simpa using hi'),v9] at e2;obtain ⟨j,q1,q2,q3,q4⟩:=hc.get e1' e2;obtain ⟨m0,_,hl⟩:=I.loc
   obtain ⟨u,r,l⟩:=hl j x v q1 q2 (by
    rcases q3 with q3|q3
    ·exact .inr (.inl q3)
    ·exact .inr (.inr q3))
   refine ⟨u,r,.inr ⟨?_,?_⟩⟩
   ·rcases Ak (env:=X.env) q4 with z|z
    ·exact .inr z
    ·exact .inl z
   ·rcases l with ⟨k,_⟩|⟨_,c,hc1,hc2⟩
    ·rcases q3 with q3|q3<;>rw [k] at q3<;>cases a7 q3
    ·obtain ⟨d,hd⟩:=xM (cells:=X.env.cells) (x:=x) scope.names [] (.inl (mem_of_lookup q4));have hd':=hcl x d hd;rw [hc1] at hd';cases a7 hd';obtain ⟨o,ho,hod⟩:=hc2;exact ⟨c,hd,o,hk c o ho,hod⟩
 ·obtain ⟨v,o,ho,hod⟩:=I.cell x c (hcl x c e);exact ⟨v,o,hk c o ho,hod⟩
 ·show (rK own.length none++IJ Z js).length=(own++ys).length
  rw [bq,bq,v9,IJ,ag,hc.len]
theorem Pz {N:List bu}{σ':St}{H':Hp}(I:Inv X pins Z H s) (hf:∀ b∈fp,yZ X pins H b) (J:Inv (Gm X N scope s H fp) [] σ' H' s'):Inv X pins Z H' s' :=
 I.YO (ch:=fp) J.os J.base J.fD J.bare λb hb=>⟨(hf b hb).2.2.2.1,(hf b hb).2.1,(hf b hb).2.2.2.2.1,(hf b hb).2.2.2.2.2⟩
end
section
variable {prog:a9}{w:bQ}{A:bY}{R:Fl->ar->Prop}{s:ar}
theorem Gn {elt target iter:Expr}{ifs:List Expr}{scope:lh}{pos:oZ}{it acc:aj}{env:Ia}(I:Nat->ar->Prop)
  (turn:∀ n s,I n s->aK (aP prog w) A (jQ it) (λr s₁=>match r with
   | none=>R (.ok .next) s₁
   | some v=>aK (aP prog w) A (yV target it v) (λ_ s₁'=>aK (aP prog w) A (Ko target env v) (λ_ s₂ =>
     aK (aP prog w) A (forIn ifs true λc r=>if r=true then do let ok ← isTrue c env (gM c env);pure (jS ok) else pure (jS r)) (λok s₃ =>
      if ok=true then aK (aP prog w) A (gM elt env) (λx s₄ =>
       aK (aP prog w) A (call (.builtin "list.append") [acc,x]) (λ_ s₅=>∃ m,m<n/\I m s₅) (λ_ _=>False) s₄) (λ_ _=>False) s₃
      else ∃ m,m<n/\I m s₃) (λ_ _=>False) s₂) (λ_ _=>False) s₁') (λ_ _=>False) s₁) (λ_ _=>False) s)
  (n:Nat) (h:I n s) :
  kU (aP prog w) A (.compLoop (.ListComp elt [⟨target,iter,ifs,0⟩] scope pos) 0 it acc env) R s:=by
 refine codeAny_loop rfl I (λn s hI=>?_) n h
 show aK _ A ((compTurn (.ListComp elt [⟨target,iter,ifs,0⟩] scope pos) 0 it acc env).onRaise (λx=>do noteFrame x env;theTreesLotGoes x)) _ _ s
 refine wpAny_noted ?_;rw [compTurn_list];refine ae (vD (ae (dZ (turn n s hI) (λr s₁ h₁=>?_) λ_ _ h'=>h'.elim)))
 cases r with
 | none=>exact aq h₁
 | some v =>
  refine ae (dZ h₁ (λ_ s₁' h₁'=>?_) λ_ _ h'=>h'.elim);refine ae (dZ h₁' (λ_ s₂ h₂=>ae (dZ h₂ (λok s₃ h₃=>?_) λ_ _ h'=>h'.elim)) λ_ _ h'=>h'.elim)
  cases ok with
  | false=>exact aq ⟨rfl,h₃⟩
  | true =>
   exact ae (ae (dZ h₃ (λx s₄ h₄=>ae (dZ h₄ (λ_ s₅ h₅=>aq (aq ⟨rfl,h₅⟩)) λ_ _ h'=>h'.elim)) λ_ _ h'=>h'.elim))
end
def PB (X:Cx) (ifs:List Expr) (t:TT):Prop :=
 ∀ (pins:List (af×gi)) (s:ar) (Z:St) (H:Hp) (Q:Bool->Hp->Prop),Inv X pins Z H s->t Z H Q ->
  aK (aP X.prog X.w) X.A (forIn ifs true λc r=>if r=true then do let ok ← isTrue c X.env (gM c X.env);pure (jS ok) else pure (jS r)) (TP X pins Z Q) X.xe s
def xO:TT:=λ_ H Q=>Q true H
theorem mE {X:Cx}:PB X [] xO:=λ_ _ _ H _ I h=>wpAny_tests_nil ⟨H,I,h⟩
theorem lD {X:Cx}{c:Expr}{t:TT}(h:PT X c t):PB X [c] t:=λpins s Z H Q I q=>wpAny_tests_one (h pins s Z H Q I q)
def kx (own:Nat) (js:List Nat) (wi:TI) (g:TG) (tt:TT) (te:TE):TE:=λZ H Q=>wi Z H λJ H1=>∀ acc,H1 acc=none ->
 ∃ W:Nat->Nat->List V->St->Hp->Prop,(∃ m,W 0 m [] (rK own none++IJ Z js) (upd H1 acc (.lst [])))/\∀ i m ys σ' H',W i m ys σ' H'->H' acc=some (.lst ys) /\
  ((J.stop i H'/\Q (.ref acc) H')\/(J.go i H'/\∀ x H2,J.KA i H' x H2->g x σ' H2 λσ2 H3=>tt σ2 H3 λb H4 =>
   if b=true then te σ2 H4 λy H5=>H5 acc=some (.lst ys)/\ys.length<aY/\∃ m',m'<m/\W (i+1) m' (ys++[y]) σ2 (upd H5 acc (.lst (ys++[y]))) else ∃ m',m'<m/\W (i+1) m' ys σ2 H4))
section
variable {X:Cx}
theorem IK {elt tg iter:Expr}{ifs:List Expr}{scope:lh}{pos:oZ}{own ys:List bu}{js:List Nat}{wi:TI}{g:TG}{tt:TT}{te:TE}{pins:List (af×gi)}{s:ar}{Z:St}{H:Hp}{Q:VK}
  {use:Option (aj->Uj Unit)}{Q':aj->ar->Prop}{p:oZ}(hcalm:X.calm=true)
  (hi:PI X tg iter wi) (hkind:scope.kind=.function) (hcell:∀ y∈scope.names,y.2≠.cell) (hnames:∀ y∈scope.names,y.2=.local->scope.names.lookup y.1=some .local)
  (hfr:∀ n,(n,bM)∈scope.names->∃ c,X.env.cells.lookup n=some c) (hc:DM X scope js ys)
  (hg:∀ s0 H0 fp,PG (Gm X (own++ys) scope s0 H0 fp) tg g) (ht:∀ s0 H0 fp,PB (Gm X (own++ys) scope s0 H0 fp) ifs tt) (he:∀ s0 H0 fp,PE (Gm X (own++ys) scope s0 H0 fp) elt te)
  (I:Inv X pins Z H s) (h:kx own.length js wi g tt te Z H Q)
  (hu:∀ (D C:af) (H':Hp) (s':ar),Inv X pins Z H' s'->Q (.ref D) H'->yZ X pins H' C->(∃ m,s'.heap.Ns C m)->compPost (aP X.prog X.w) X.A X.xe use Q' (.ref D) C (.ok .next) s')
  (hs:∀ x,vj iter X.env x=pure x) :
  aK (aP X.prog X.w) X.A (comprehension (.ListComp elt [⟨tg,iter,ifs,0⟩] scope pos) scope X.env p (newList []) false (gM iter X.env) use) Q' X.xe s:=by
 refine wpAny_comprehension_free (g:=⟨tg,iter,ifs,0⟩) (gs:=[]) rfl hs (wx hfr) hkind hnames (iG (hi pins s Z H _ I h) λv s1 h1=>iG h1 λitv s2 h2=>?_);obtain ⟨it,fp,tn,J,H2,e,I2,T,st2,f2,q⟩:=h2;subst e;refine cp (W5 hcell (by intro y hy;simp at hy) (λh₁ hns₁ hsb₁=>?_) hkind);dsimp only at hns₁ hsb₁ ⊢;have nD:H2 s2.heap.objs.size=none:=I2.fresh;have I3:Inv X pins Z (upd H2 s2.heap.objs.size (.lst [])) { s2 with heap:=s2.heap.push { cls:=.type "list",data:=.seq ([]:List aj).toArray },toks:=s2.toks }:=I2.YK (its:=[]) .nil (aJ _)
 have hlt2:∀ b∈fp,b<s2.heap.objs.size:=λb hb=>let ⟨o,e,_⟩:=T.obj _ _ st2 b hb;aL e
 obtain ⟨W,⟨m0,w0⟩,turn⟩:=q _ nD;generalize hs3:({ s2 with heap:=s2.heap.push { cls:=.type "list",data:=.seq ([]:List aj).toArray },toks:=s2.toks }:ar)=s3 at I3
 have hh3:s2.heap.push { cls:=.type "list",dict:=none,data:=.seq ([]:List aj).toArray }=s3.heap:=by rw [← hs3]
 have hsz3:s3.heap.objs.size=s2.heap.objs.size+1:=by rw [← hh3,ib]
 have hlt3:∀ b∈fp,b<s3.heap.objs.size:=λb hb=>by rw [hsz3];exact oC (hlt2 b hb)
 have f3:∀ b∈fp,yZ X pins (upd H2 s2.heap.objs.size (.lst [])) b:=λb hb=>⟨by rw [aI (bf (hlt2 b hb))];exact (f2 b hb).1,(f2 b hb).2⟩
 have fC:yZ X pins (upd H2 s2.heap.objs.size (.lst [])) s3.heap.objs.size:=I3.Mr (au _) I3.fresh;rw [hh3] at hns₁ hsb₁ ⊢;have hk3:∀ b o,s3.heap.get? b=some o->h₁.get? b=some o:=λb o e=>hsb₁.extBut b o (bf (aL e)) (ao _ e)
 have es4:({ s2 with heap:=h₁,toks:=s2.toks+([]:List (bu×aj)).length }:ar)={ s3 with heap:=h₁,toks:=s2.toks+([]:List (bu×aj)).length }:=by rw [← hs3]
 have I4:=Tj (own:=own) (h1:=h₁) (tk:=s2.toks+([]:List (bu×aj)).length) I3 f3 hlt3 hkind hcell hfr hc hns₁ hk3;have st4:tn 0 h₁:=T.keep _ _ _ st2 λb hb o e=>hk3 b o (by rw [← hh3];exact ao _ e)
 have stat:∀ {H':Hp},(∀ b∈fp,H' b=none)->∀ b∈fp,yZ (Gm X (own++ys) scope s3 (upd H2 s2.heap.objs.size (.lst [])) fp) [] H' b:=λhn b hb =>
  ⟨hn b hb,bf (hlt3 b hb),(K7 (N:=own++ys) I3 f3 hlt3 hkind hcell hfr).On b hb,.inl hb,λx c e=>((K7 (N:=own++ys) I3 f3 hlt3 hkind hcell hfr).Zq b hb).2 x c e,λp hp=>nomatch hp⟩
 have KU:∀ s4:ar,s4={ s3 with heap:=h₁,toks:=s2.toks+([]:List (bu×aj)).length } ->
   kU (aP X.prog X.w) X.A (.compLoop (.ListComp elt [⟨tg,iter,ifs,0⟩] scope pos) 0 (.ref it) (.ref s2.heap.objs.size) (compEnvC scope (qF X.env.cells scope.names []) s3.heap.objs.size X.env))
    (compPost (aP X.prog X.w) X.A X.xe use Q' (.ref s2.heap.objs.size) s3.heap.objs.size) s4:=by
  rintro s4 rfl
  refine Gn (λn s'=>∃ i ys' σ' H',Inv (Gm X (own++ys) scope s3 (upd H2 s2.heap.objs.size (.lst [])) fp) [] σ' H' s'/\tn i s'.heap/\(∀ b∈fp,H' b=none)/\W i n ys' σ' H') ?_ m0
   ⟨0,[],_,_,I4,st4,λb hb=>(f3 b hb).1,w0⟩
  rintro n s5 ⟨i,ys',σ5,H5,I5,st5,fr5,w5⟩;obtain ⟨hacc,rest⟩:=turn i n ys' σ5 H5 w5
  rcases rest with ⟨stop,qn⟩|⟨go,step⟩
  ·refine iG (T.done (Gm X (own++ys) scope s3 (upd H2 s2.heap.objs.size (.lst [])) fp) rfl rfl rfl hcalm i [] s5 σ5 H5 _ I5 (stat fr5) st5 stop) λr s6 ⟨hr,I6⟩=>?_;subst hr;exact hu _ _ H5 s6 (Pz I3 f3 I6) qn ⟨I6.free,fC.2⟩ (let ⟨m,hn,_⟩:=I6.loc;⟨m,hn⟩)
  ·refine iG (T.item (Gm X (own++ys) scope s3 (upd H2 s2.heap.objs.size (.lst [])) fp) rfl rfl rfl hcalm i [] s5 σ5 H5 _ I5 (stat fr5) st5 go) λr s6 ⟨u,hr,h6⟩=>?_;subst hr;refine iG h6 λ_ s7 ⟨x,H7,I7,r7,y7,st7,fr7⟩=>?_;have I7':=I7.pinned (stat fr7) (T.obj _ _ st7);refine iG (hg _ _ _ _ s7 σ5 H7 x u _ I7' r7 (step x H7 y7)) λ_ s8 ⟨σ8,H8,I8,q8⟩=>?_;refine iG (ht _ _ _ _ s8 σ8 H8 _ I8 q8) λok s9 ⟨H9,I9,q9⟩=>?_
   have kept:∀ {s10:ar}{σ10:St}{H10:Hp},Inv (Gm X (own++ys) scope s3 (upd H2 s2.heap.objs.size (.lst [])) fp) ([]++BO fp s7.heap) σ10 H10 s10 ->
     Inv (Gm X (own++ys) scope s3 (upd H2 s2.heap.objs.size (.lst [])) fp) [] σ10 H10 s10/\tn (i+1) s10.heap/\∀ b∈fp,H10 b=none:=λ{s10 σ10 H10} I10=>by
    refine ⟨I10.yC,T.keep _ _ _ st7 λb hb o e=>(I10.pin (b,o) (bP _ (bP _ (sD hb e)))).1,λb hb=>?_⟩;obtain ⟨o,e,d⟩:=T.obj _ _ st7 b hb;exact (I10.pin (b,o) (bP _ (bP _ (sD hb e)))).2.1
   cases ok with
   | false =>
    simp only [bX,if_false] at q9 ⊢;obtain ⟨m',hm,w9⟩:=q9;obtain ⟨k1,k2,k3⟩:=kept I9
    exact ⟨m',hm,i+1,ys',σ8,H9,k1,k2,k3,w9⟩
   | true =>
    simp only [if_true] at q9 ⊢;refine iG (he _ _ _ _ s9 σ8 H9 _ I9 q9) λyv s10 ⟨y,H10,I10,r10,a10,l10,m',hm,w10⟩=>?_;refine iG (nz (X:=Gm X (own++ys) scope s3 (upd H2 s2.heap.objs.size (.lst [])) fp) _ s10 σ8 H10 (.ref s2.heap.objs.size) [y] (.ref s2.heap.objs.size) [yv] (λv H'=>v=.non/\H'=upd H10 s2.heap.objs.size (.lst (ys'++[y]))) I10 rfl (.cons r10 .nil) ⟨_,_,_,rfl,rfl,a10,l10,rfl,rfl⟩) λ_ s11 ⟨_,H11,I11,_,_,e11⟩=>?_;subst e11;obtain ⟨k1,k2,k3⟩:=kept I11;exact ⟨m',hm,i+1,_,σ8,_,k1,k2,k3,w10⟩
 have fin:=codeAny_compStart_list (R:=compPost (aP X.prog X.w) X.A X.xe use Q' (.ref s2.heap.objs.size) s3.heap.objs.size) (KU _ rfl) (T.self X.A 0 { s3 with heap:=h₁,toks:=s2.toks+([]:List (bu×aj)).length } _ _ st4 (KU _ rfl));rw [← hs3] at fin ⊢;exact fin
theorem xP {pins:List (af×gi)}{Z:St}{H:Hp}{s:ar}{scope:lh}(I:Inv X pins Z H s) (h:(scope.names.all λy=>y.2 != .free || X.env.kindOf y.1 == some .cell || X.env.kindOf y.1 == some .free)=true) :
  ∀ n,(n,bM)∈scope.names->∃ c,X.env.cells.lookup n=some c:=λn hn=>by
 have q:=Ve.mp h _ hn;simp only [bne_self_eq_false,Bool.false_or,Bool.or_eq_true,beq_iff_eq] at q;exact I.ok.has n q
theorem kb {elt tg iter:Expr}{ifs:List Expr}{scope:lh}{pos:oZ}(own:List bu) {ys:List bu}(js:List Nat) {wi:TI}{g:TG}{tt:TT}{te:TE}(hcalm:X.calm=true)
  (hi:PI X tg iter wi) (hc:DM X scope js ys)
  (hg:∀ s0 H0 fp,PG (Gm X (own++ys) scope s0 H0 fp) tg g) (ht:∀ s0 H0 fp,PB (Gm X (own++ys) scope s0 H0 fp) ifs tt) (he:∀ s0 H0 fp,PE (Gm X (own++ys) scope s0 H0 fp) elt te)
  (hfr:(scope.names.all λy=>y.2 != .free || X.env.kindOf y.1 == some .cell || X.env.kindOf y.1 == some .free)=true:=by rfl)
  (hkind:scope.kind=.function:=by rfl) (hcell:∀ y∈scope.names,y.2≠.cell:=by decide +kernel) (hnames:∀ y∈scope.names,y.2=.local->scope.names.lookup y.1=some .local:=by decide +kernel)
  (hs:∀ x,vj iter X.env x=pure x:=by intro _;rfl):PE X (.ListComp elt [⟨tg,iter,ifs,0⟩] scope pos) (kx own.length js wi g tt te):=by
 intro pins s Z H Q I h;rw [eval_ListComp];refine IK (use:=none) hcalm hi hkind hcell hnames (xP I hfr) hc hg ht he I h (λD C H' s' I' q fC ⟨m,hn⟩=>⟨m,hn,λh' hs'=>⟨.ref D,H',?_,rfl,q⟩⟩) hs;exact I'.turned (t':=s'.toks) (λb o hb e=>(hs'.2 b hb).trans e) fC.1 fC.2.1 fC.2.2.2.1 fC.2.2.2.2.1 fC.2.2.2.2.2
theorem xQ {elt tg iter:Expr}{ifs:List Expr}{scope:lh}{pos spos py:oZ}{i:Nat}{y:bu}(own:List bu) {ys:List bu}(js:List Nat) {wi:TI}{g:TG}{tt:TT}{te:TE}(hcalm:X.calm=true)
  (hN:X.N.Nodup) (hy:X.N[i]?=some y) (hl:X.env.scope.names.lookup y=some .local)
  (hi:PI X tg iter wi) (hc:DM X scope js ys)
  (hg:∀ s0 H0 fp,PG (Gm X (own++ys) scope s0 H0 fp) tg g) (ht:∀ s0 H0 fp,PB (Gm X (own++ys) scope s0 H0 fp) ifs tt) (he:∀ s0 H0 fp,PE (Gm X (own++ys) scope s0 H0 fp) elt te)
  (hfr:(scope.names.all λy=>y.2 != .free || X.env.kindOf y.1 == some .cell || X.env.kindOf y.1 == some .free)=true:=by rfl)
  (hsw:Kn (.ListComp elt [⟨tg,iter,ifs,0⟩] scope pos) (some (.Name y py)) spos.line X.env=pure true:=by rfl)
  (hkind:scope.kind=.function:=by rfl) (hcell:∀ y∈scope.names,y.2≠.cell:=by decide +kernel) (hnames:∀ y∈scope.names,y.2=.local->scope.names.lookup y.1=some .local:=by decide +kernel)
  (hs:∀ x,vj iter X.env x=pure x:=by intro _;rfl) :
  PS X (.Assign [.Name y py] (.ListComp elt [⟨tg,iter,ifs,0⟩] scope pos) spos) (eO (kx own.length js wi g tt te) (bJ i)):=by
 intro pins s Z H D I h;rw [exec_Assign_Name_used _ _ _ _ hsw];refine ae (vD (ae ?_))
 show aK _ X.A (do let _ ← comprehension (.ListComp elt [⟨tg,iter,ifs,0⟩] scope pos) scope X.env _ (newList []) false (gM iter X.env) (some (Ko (.Name y py) X.env))) _ _ s
 refine ae (dZ (IK (Q:=λx H1=>bJ i x Z H1 D.nx) (Q':=λ_ s'=>SP X pins D .next s') (use:=some (Ko (.Name y py) X.env)) hcalm hi hkind hcell hnames (xP I hfr) hc hg ht he I h (λDd C H' s' I' q fC ⟨m,hn⟩=>?_) hs) (λ_ s' hq=>aq (aq hq)) λ_ _ e=>e)
 show aK _ X.A (Ko (.Name y py) X.env (.ref Dd)) _ _ _
 refine wpAny_assign_Name (Fv (v:=.ref Dd) I' hN hy (.inl hl) rfl (λs'' I'' ⟨a,sb,ha⟩=>?_) (.inr hl))
 have hCa:C≠a:=by
  rcases ha with z|z
  ·rw [z];exact fC.2.1
  ·exact Ne.symm (fC.2.2.2.2.1 _ _ z)
 refine ⟨m,hn.sameBut sb hCa,λh' hs'=>?_⟩;exact ⟨_,H',I''.turned (t':=s''.toks) (λb o hb e=>(hs'.2 b hb).trans e) fC.1 fC.2.1 fC.2.2.2.1 fC.2.2.2.2.1 fC.2.2.2.2.2,q⟩
end
end L2
namespace L2
mutual
def Rep (K:aa) (H:Hp):PyData->V->Prop
 | .none,v=>v=.non
 | .bool b,v=>v=.bl b
 | .int i,v=>v=.int i
 | .str x,v=>v=.str x
 | .list ds,v=>∃ a xs,v=.ref a/\de K H a xs/\fj K H ds xs
 | .tuple ds,v=>∃ a xs,v=.ref a/\mR K H a xs/\fj K H ds xs
 | .dict _,_=>False
def fj (K:aa) (H:Hp):List PyData->List V->Prop
 | [],vs=>vs=[]
 | d::ds,vs=>∃ v r,vs=v::r/\Rep K H d v/\fj K H ds r
end
section
variable {X:Cx}{pins:List (af×gi)}{Z:St}{H:Hp}{s:ar}
mutual
theorem Rep.reads (I:Inv X pins Z H s):∀ (d:PyData) (v:V) (u:aj),Rep X.K H d v->RelV v u->∃ as,Reads s.heap u d as
 | .none,v,u,h,r=>by
  cases (show v=.non by simpa only [Rep] using h)
  cases (show u=eJ from r);exact ⟨_,.none⟩
 | .bool b,v,u,h,r=>by
  cases (show v=.bl b by simpa only [Rep] using h)
  cases (show u=uW b from r);exact ⟨_,.bool b⟩
 | .int i,v,u,h,r=>by
  cases (show v=.int i by simpa only [Rep] using h)
  obtain ⟨t,rfl⟩:=(show ∃ t,u=ij i t from r);exact ⟨_,.int i t⟩
 | .str x,v,u,h,r=>by
  cases (show v=.str x by simpa only [Rep] using h)
  obtain ⟨t,rfl⟩:=(show ∃ t,u=tT x t from r);exact ⟨_,.str x t⟩
 | .list ds,v,u,h,r=>by
  obtain ⟨a,xs,rfl,hq,ha⟩:=(show ∃ a xs,v=.ref a/\de X.K H a xs/\fj X.K H ds xs by simpa only [Rep] using h)
  cases (show u=aF a from r);obtain ⟨its,rv,⟨o,n,e1,e2,_,e3⟩,_⟩:=I.list hq;obtain ⟨as,ra⟩:=fj.reads I ds xs its ha rv
  exact ⟨_,.list e1 e2 e3 (by simpa using ra)⟩
 | .tuple ds,v,u,h,r=>by
  obtain ⟨a,xs,rfl,hq,ha⟩:=(show ∃ a xs,v=.ref a/\mR X.K H a xs/\fj X.K H ds xs by simpa only [Rep] using h)
  cases (show u=aF a from r);obtain ⟨its,rv,⟨o,e1,e2,n,e3⟩,_⟩:=I.tuple hq;obtain ⟨as,ra⟩:=fj.reads I ds xs its ha rv
  exact ⟨_,.tuple e1 e2 e3 (by simpa using ra)⟩
 | .dict _,v,u,h,r=>absurd h (by simp only [Rep];exact λz=>z)
theorem fj.reads (I:Inv X pins Z H s):∀ (ds:List PyData) (vs:List V) (us:List aj),fj X.K H ds vs->Vals vs us->∃ as,ReadsAll s.heap us ds as
 | [],vs,us,h,r=>by
  cases (show vs=[] by simpa only [fj] using h)
  cases r;exact ⟨_,.nil⟩
 | d::ds,vs,us,h,r=>by
  obtain ⟨v,rr,rfl,h1,h2⟩:=(show ∃ v r,vs=v::r/\Rep X.K H d v/\fj X.K H ds r by simpa only [fj] using h)
  cases r with
  | cons ru rs =>
   obtain ⟨as,r1⟩:=Rep.reads I d v _ h1 ru;obtain ⟨bs,r2⟩:=fj.reads I ds rr _ h2 rs;exact ⟨_,.cons r1 r2⟩
end
end
theorem b8.WM {K:aa}{H H':Hp}{a:af}{xs:List V}(e:b8 H H') (h:mR K H a xs):mR K H' a xs:=by
 rcases h with (h|⟨o,h⟩)|h
 ·exact .inl (.inl (e _ _ h))
 ·exact .inl (.inr ⟨o,e _ _ h⟩)
 ·exact .inr h
theorem fj.cons {K:aa}{H:Hp}{d:PyData}{v:V}{ds:List PyData}{vs:List V}(h1:Rep K H d v) (h2:fj K H ds vs):fj K H (d::ds) (v::vs):=by
 simp only [fj];exact ⟨v,vs,rfl,h1,h2⟩
theorem fj.nil {K:aa}{H:Hp}:fj K H [] []:=by simp only [fj]
theorem Rep.int {K:aa}{H:Hp}(i:Int):Rep K H (.int i) (.int i):=by simp only [Rep]
theorem Rep.lst {K:aa}{H:Hp}{a:af}{xs:List V}{ds:List PyData}(h:de K H a xs) (r:fj K H ds xs):Rep K H (.list ds) (.ref a):=by
 simp only [Rep];exact ⟨a,xs,rfl,h,r⟩
theorem Rep.tup {K:aa}{H:Hp}{a:af}{xs:List V}{ds:List PyData}(h:mR K H a xs) (r:fj K H ds xs):Rep K H (.tuple ds) (.ref a):=by
 simp only [Rep];exact ⟨a,xs,rfl,h,r⟩
theorem fj.ints {K:aa}{H:Hp}:∀ (ns:List Int),fj K H (ns.map .int) (ns.map V.int)
 | []=>fj.nil
 | n::ns=>fj.cons (Rep.int n) (fj.ints ns)
section
variable {X:Cx}
structure wy (d:PyData):Prop where
 lay:d.canLay0=true
 dep:d.depth<=60
def Tn (K:aa) (neg:Bool):R2:=λx y H Q=>∃ dx dy,Rep K H dx x/\Rep K H dy y/\wy dx/\wy dy/\Q (.bl (if neg then !PyData.eqv dx dy else dC dx dy)) H
theorem VL (hu:X.A.units+64<ju):tK X (dG .Eq) (Tn X.K false):=by
 intro pins s Z H x y v u Q I rx ry h;obtain ⟨dx,dy,h1,h2,f1,f2,q⟩:=h;obtain ⟨as,r1⟩:=Rep.reads I dx x v h1 rx;obtain ⟨bs,r2⟩:=Rep.reads I dy y u h2 ry;have:=f1.dep;exact SeqAt.compareEq_reads r1 r2 f1.lay f2.lay (bI (Ab (bz (Xv _ _) (bz f1.dep (by decide))) _) hu) ⟨.bl _,H,I,rfl,q⟩
theorem VM (hu:X.A.units+64<ju):tK X (dG .NotEq) (Tn X.K true):=by
 intro pins s Z H x y v u Q I rx ry h;obtain ⟨dx,dy,h1,h2,f1,f2,q⟩:=h;obtain ⟨as,r1⟩:=Rep.reads I dx x v h1 rx;obtain ⟨bs,r2⟩:=Rep.reads I dy y u h2 ry;exact SeqAt.compareNe_reads r1 r2 f1.lay f2.lay (bI (Ab (bz (Xv _ _) (bz f1.dep (by decide))) _) hu) ⟨.bl _,H,I,rfl,q⟩
def m7 (K:aa):R2:=λx y H Q=>rEq x y H Q\/Tn K false x y H Q
def IL (K:aa):R2:=λx y H Q=>rNe x y H Q\/Tn K true x y H Q
theorem iH (hu:X.A.units+64<ju):tK X (dG .Eq) (m7 X.K):=XC.or (VL hu)
theorem Ca (hu:X.A.units+64<ju):tK X (dG .NotEq) (IL X.K):=XD.or (VM hu)
def VN (K:aa) (neg:Bool):R2:=λx y H Q=>∃ d ds,Rep K H d x/\(Rep K H (.list ds) y\/Rep K H (.tuple ds) y)/\wy d/\e9 ds=true/\Q (.bl (if neg then !(ds.any λe=>dC e d) else ds.any λe=>dC e d)) H
theorem VO (hu:X.A.units+64<ju):tK X (dG .In) (VN X.K false):=by
 intro pins s Z H x y v u Q I rx ry h;obtain ⟨d,ds,h1,h2,f1,f2,q⟩:=h;obtain ⟨as,r1⟩:=Rep.reads I d x v h1 rx;have hb:X.A.units+1+min (dz ds) d.depth<ju:=bI (by have:=f1.dep;lia) hu
 rcases h2 with h2|h2
 ·obtain ⟨bs,r2⟩:=Rep.reads I _ y u h2 ry;exact SeqAt.in_list_reads r2 r1 f2 f1.lay hb ⟨.bl _,H,I,rfl,q⟩
 ·obtain ⟨bs,r2⟩:=Rep.reads I _ y u h2 ry;exact SeqAt.in_tuple_reads r2 r1 f2 f1.lay hb ⟨.bl _,H,I,rfl,q⟩
theorem NR (hu:X.A.units+64<ju):tK X (dG .NotIn) (VN X.K true):=by
 intro pins s Z H x y v u Q I rx ry h;obtain ⟨d,ds,h1,h2,f1,f2,q⟩:=h;obtain ⟨as,r1⟩:=Rep.reads I d x v h1 rx;have hb:X.A.units+1+min (dz ds) d.depth<ju:=bI (by have:=f1.dep;lia) hu
 rcases h2 with h2|h2
 ·obtain ⟨bs,r2⟩:=Rep.reads I _ y u h2 ry;exact SeqAt.notIn_list_reads r2 r1 f2 f1.lay hb ⟨.bl _,H,I,rfl,q⟩
 ·obtain ⟨bs,r2⟩:=Rep.reads I _ y u h2 ry;exact SeqAt.notIn_tuple_reads r2 r1 f2 f1.lay hb ⟨.bl _,H,I,rfl,q⟩
def VP (neg:Bool):R2:=λy x H Q=>∃ a o,x=.ref a/\yD H a y o/\Q (.bl (if neg then !o.isSome else o.isSome)) H
theorem VQ (hu:X.A.units+64<ju):tK X (dG .In) (VP false):=by
 intro pins s Z H y x iv u Q I ry rx h;obtain ⟨a,o,rfl,g,q⟩:=h;cases rx
 exact ZQ (bI (by lia) hu) I g ry λs' I'=>⟨.bl _,H,I',rfl,q⟩
theorem NS (hu:X.A.units+64<ju):tK X (dG .NotIn) (VP true):=by
 intro pins s Z H y x iv u Q I ry rx h;obtain ⟨a,o,rfl,g,q⟩:=h;cases rx
 exact Tg (bI (by lia) hu) I g ry λs' I'=>⟨.bl _,H,I',rfl,q⟩
def y8 (K:aa) (neg:Bool):R2:=λx y H Q=>VN K neg x y H Q\/VP neg x y H Q
theorem Gp (hu:X.A.units+64<ju):tK X (dG .In) (y8 X.K false):=(VO hu).or (VQ hu)
theorem vf (hu:X.A.units+64<ju):tK X (dG .NotIn) (y8 X.K true):=(NR hu).or (NS hu)
def iu:R2:=λx y H Q=>tO (λi j=>.int (i+j)) x y H Q\/XI x y H Q
theorem d7:tK X (xk .Add) iu:=VB.or VJ
def XN:R2:=λx y H Q=>∃ a v,x=.ref a/\yD H a y (some v)/\Q v H
theorem To (hu:X.A.units+64<ju):Ui X XN:=by
 intro value slice pins s Z H x y v u Q I rx ry h hs;obtain ⟨a,z,rfl,g,q⟩:=h;cases rx;exact tail_any (IF I g) Ga.lookup (FF (bI (by lia) hu) I g ry λw' s' I' r'=>⟨z,H,I',r',q⟩) hs
def eP (K:aa):R2:=λx y H Q=>(XG K x y H Q\/XH K x y H Q)\/XN x y H Q
theorem fF (hu:X.A.units+64<ju):Ui X (eP X.K):=(Te.or VH).or (To hu)
def UH:V->V->V->Hp->(Hp->Prop)->Prop:=λo i v H Q=>∃ a H',o=.ref a/\yE H a i v H'/\Q H'
theorem set_dict (hu:X.A.units+64<ju):SI X UH:=by
 intro pins s Z H o i v ov iv u Q I ro ri rv h;obtain ⟨a,H',rfl,g,q⟩:=h;cases ro
 exact FG (bI (by lia) hu) I g ri rv λs' I'=>⟨H',I',q⟩
def vP:V->V->V->Hp->(Hp->Prop)->Prop:=λo i v H Q=>UE o i v H Q\/UH o i v H Q
theorem Cb (hu:X.A.units+64<ju):SI X vP:=by
 intro pins s Z H o i v ov iv u Q I ro ri rv h
 rcases h with h|h
 ·exact Pu pins s Z H o i v ov iv u Q I ro ri rv h
 ·exact set_dict hu pins s Z H o i v ov iv u Q I ro ri rv h
def vv (K:aa):List V->Hp->VK->Prop:=λxs H Q=>(∃ p ys,xs=[.ref p]/\(de K H p ys\/mR K H p ys)/\Q (.int ys.length) H)\/(∃ a kvs,xs=[V.ref a]/\H a=some (.dK kvs)/\Q (.int kvs.length) H)
theorem jq:oY X (.builtin "len") (vv X.K):=Gj.or NP
def AH (K:aa):List V->Hp->VK->Prop:=λxs H Q=>∃ x T t b,xs=[x,.ty T]/\xG K H x t/\jz K t (.type T)=some b/\Q (.bl b) H
theorem lE:oY X (.builtin "isinstance") (AH X.K):=by
 intro pins s Z H xs us Q I r h;obtain ⟨x,T,t,b,rfl,ty,e,q⟩:=h;obtain ⟨u,w',rfl,ru,rw'⟩:=vals2 r;cases (show w'=dM T from rw')
 exact NL I ru ty e λtk=>⟨.bl b,H,I.tok tk,rfl,q⟩
theorem Inv.Ov {pins:List (af×gi)}{Z:St}{H:Hp}{s:ar}(I:Inv X pins Z H s):∃ m,Fr X.base X.env.locals s.heap m/\News X.base X.env.locals s.heap (uZ X.base s.heap X.env.locals) :=
 let ⟨m,F⟩:=I.fr
 ⟨m,F,O7⟩
def Gq (K:aa):List V->Hp->VK->Prop:=λxs H Q=>∃ (p:af) (ns:List Int),xs=[.ref p]/\de K H p (ns.map V.int)/\ns.length<64 /\
 ∀ (l:af) (ns':List Int),H l=none->ns'.Perm ns->ns'.Pairwise (·<=·)->Q (.ref l) (upd H l (.lst (ns'.map V.int)))
theorem IM:oY X (.builtin "sorted") (Gq X.K):=by
 intro pins s Z H xs us Q I r h;obtain ⟨p,ns,rfl,hq,h64,q⟩:=h;obtain ⟨u,rfl,ru⟩:=vals1 r;cases ru;obtain ⟨its,rv,pl,hz⟩:=I.list hq;have hi:fR its ns:=intsAre_of rv;have hl:=rv.length;rw [ag] at hl;refine sorted_ints pl.isList hi (by lia) λout ns' a1 a2 a3=>?_;obtain ⟨e,he⟩:=sortedAll_at s.heap its out;have hn:H (s.heap.objs.size+1)=none:=I.fD.fresh (fQ _);refine ⟨.ref (s.heap.objs.size+1),_,I.laid (t':=s.toks) (o:=.lst (ns'.map V.int)) (λb o e=>sortedAll_old e) (fQ _) ⟨?_,out.toList,e,ve a1,by simpa [b9] using he⟩,rfl,q _ _ hn a2 a3⟩;rw [ag,a2.length_eq];exact ki (br h64 (by rw [oF];decide))
end
end L2
namespace L2
section
variable {Z:St}{H:Hp}{Q:VK}{D:tN}{ta tb te:TE}{t u:TS}{c c':TT}{tA:TA}{QT:Bool->Hp->Prop}{QA:List V->Hp->Prop}
theorem PD (h:t { D with nx:=u D } Z H):bZ t u D Z H:=h
theorem XO {g:TG}(h:te Z H λx H1=>g x Z H1 D.nx):eO te g D Z H:=h
theorem Br {i:Nat}{v:V}{R:St->Hp->Prop}(h:R (Z.set i (some v)) H):bJ i v Z H R:=h
theorem VR {to ti:TE}{ts:SH}{v:V}{R:St->Hp->Prop}(h:to Z H λo H1=>ti Z H1 λi H2=>ts o i v H2 λH3=>R Z H3):Ge to ti ts v Z H R:=h
theorem rP {i:Nat}{v:V}(h:Z[i]?=some (some v)) (k:Q v H):aw i Z H Q:=⟨v,h,k⟩
theorem x_c {v:V}(k:Q v H):tC v Z H Q:=k
theorem ZR {r:R2}(h:ta Z H λx H1=>tb Z H1 λy H2=>r x y H2 Q):cV r ta tb Z H Q:=h
theorem ZT {r:V->Hp->VK->Prop}(h:ta Z H λx H1=>r x H1 Q):Zd r ta Z H Q:=h
theorem XQ (h:te Z H D.rt):eY te D Z H:=h
theorem PF (h:te Z H λ_ H1=>D.nx Z H1):ir te D Z H:=h
theorem VS (h:D.nx Z H):fU D Z H:=h
theorem XR (h:c Z H λb H1=>if b=true then t D Z H1 else u D Z H1):jw c t u D Z H:=h
theorem ZU (h:c Z H λb H1=>if b=true then ta Z H1 Q else tb Z H1 Q):Xm c ta tb Z H Q:=h
theorem VT (h:te Z H λx H'=>∃ k,x=.bl k/\QT k H'):eL te Z H QT:=h
theorem XS (h:c Z H λb H1=>if b=true then c' Z H1 QT else QT false H1):Ip c c' Z H QT:=h
theorem ZV (h:c Z H λb H1=>if b=true then QT true H1 else c' Z H1 QT):Sn c c' Z H QT:=h
theorem XT (h:c Z H λb H1=>QT (!b) H1):tZ c Z H QT:=h
theorem VU (h:ta Z H λx H1=>∃ c,x=.bl c/\if c=true then tb Z H1 Q else Q (.bl false) H1):BJ ta tb Z H Q:=h
theorem VW (h:ta Z H λx H1=>∃ c,x=.bl c/\Q (.bl (!c)) H1):Pb ta Z H Q:=h
theorem XU (h:QT true H):xO Z H QT:=h
theorem Cc (h:QA [] H):bj Z H QA:=h
theorem wz (h:te Z H λx H1=>tA Z H1 λxs H2=>QA (x::xs) H2):ay te tA Z H QA:=h
theorem XW (h:tA Z H λxs H1=>xs.length<=aY/\∀ p,H1 p=none->Q (.ref p) (upd H1 p (.tup xs))):mn tA Z H Q:=h
theorem PH (h:tA Z H λxs H1=>xs.length<=aY/\∀ p,H1 p=none->Q (.ref p) (upd H1 p (.lst xs))):wo tA Z H Q:=h
theorem VX {sp:Sp}{dvs:List V}{E:XK}(h:tA Z H λvs H1=>sp (vs++dvs) H1 Q E):dS sp dvs E tA Z H Q:=h
theorem ZW {r:List V->Hp->VK->Prop}(h:tA Z H λvs H1=>r vs H1 Q):qT r tA Z H Q:=h
theorem VY {K:aa}{T:String}{r:V->List V->Hp->VK->Prop}{to:TE}(h:to Z H λx H1=>ZP K T x H1/\tA Z H1 λxs H2=>r x xs H2 Q):FA K T r to tA Z H Q:=h
theorem ZX {r:V->Option Int->Option Int->Hp->VK->Prop}{tl th:TO}(h:te Z H λx H1=>tl Z H1 λl H2=>th Z H2 λu H3=>r x l u H3 Q):Ky r te tl th Z H Q:=h
theorem PJ {R:Option Int->Hp->Prop}(h:R none H):kM Z H R:=h
theorem VZ {R:Option Int->Hp->Prop}(h:te Z H λx H1=>∃ i,x=.int i/\R (some i) H1):mB te Z H R:=h
theorem XX {g:Int->Int->V}{i j:Int}(h:Q (g i j) H):tO g (.int i) (.int j) H Q:=⟨i,j,rfl,rfl,h⟩
theorem ZY {C:Int->Int->Prop}{g:Int->Int->V}{i j:Int}(hc:C i j) (h:Q (g i j) H):rI C g (.int i) (.int j) H Q:=⟨i,j,rfl,rfl,hc,h⟩
theorem V0 {i j:Int}(h:Q (.int (i+j)) H):iu (.int i) (.int j) H Q:=.inl ⟨i,j,rfl,rfl,h⟩
theorem XY {K:aa}{i j:Int}(h:Q (.bl (decide (V.int i=V.int j))) H):m7 K (.int i) (.int j) H Q:=.inl ⟨rfl,h⟩
theorem XZ {K:aa}{i j:Int}(h:Q (.bl (!decide (V.int i=V.int j))) H):IL K (.int i) (.int j) H Q:=.inl ⟨rfl,h⟩
theorem pY {K:aa}{p:af}{xs:List V}{i:Int}{v:V}(h:de K H p xs) (e:Pq xs i=some v) (k:Q v H):eP K (.ref p) (.int i) H Q:=.inl (.inl ⟨p,xs,i,v,rfl,rfl,h,e,k⟩)
theorem jM {K:aa}{p:af}{xs:List V}{i:Int}{v:V}(h:mR K H p xs) (e:Pq xs i=some v) (k:Q v H):eP K (.ref p) (.int i) H Q:=.inl (.inr ⟨p,xs,i,v,rfl,rfl,h,e,k⟩)
theorem wA {K:aa}{p:af}{xs:List V}(h:de K H p xs) (k:Q (.int xs.length) H):vv K [.ref p] H Q:=.inl ⟨p,xs,rfl,.inl h,k⟩
theorem V1 {K:aa}{p:af}{xs:List V}(h:mR K H p xs) (k:Q (.int xs.length) H):vv K [.ref p] H Q:=.inl ⟨p,xs,rfl,.inr h,k⟩
theorem rQ {l:af}{xs:List V}{y:V}(h:H l=some (.lst xs)) (hl:xs.length<aY) (k:Q .non (upd H l (.lst (xs++[y])))):o9 (.ref l) [y] H Q:=⟨l,xs,y,rfl,rfl,h,hl,k⟩
theorem V2 {p:af}{xs:List V}{k:Int}{j:Nat}{v:V}{R:Hp->Prop}(h:H p=some (.lst xs)) (e:OR xs.length k=some j) (q:R (upd H p (.lst (xs.set j v)))):vP (.ref p) (.int k) v H R:=.inl ⟨p,xs,k,j,rfl,rfl,h,e,q⟩
theorem tV {p A B:Prop} [Decidable p] (h1:p->A) (h2:¬ p->B):if decide p=true then A else B:=by
 by_cases h:p
 ·rw [if_pos (decide_eq_true h)];exact h1 h
 ·rw [if_neg (by rw [decide_eq_false h];decide)];exact h2 h
theorem Tp {p A B:Prop} [Decidable p] (h1:¬ p->A) (h2:p->B):if (!decide p)=true then A else B:=by
 by_cases h:p
 ·rw [if_neg (by rw [decide_eq_true h];decide)];exact h2 h
 ·rw [if_pos (by rw [decide_eq_false h];decide)];exact h1 h
theorem lT {i j:Int}:(V.int i=V.int j)↔i=j:=⟨λh=>by injection h,λh=>by rw [h]⟩
end
end L2
namespace BootT
open PySem
theorem len:dw "len"=some (.builtin "len"):=by decide +kernel
theorem i5:dw "isinstance"=some (.builtin "isinstance"):=by decide +kernel
theorem sF:dw "sorted"=some (.builtin "sorted"):=by decide +kernel
theorem min:dw "min"=some (.builtin "min"):=by decide +kernel
theorem max:dw "max"=some (.builtin "max"):=by decide +kernel
theorem int:dw "int"=some (.type "int"):=by decide +kernel
theorem bool:dw "bool"=some (.type "bool"):=by decide +kernel
theorem list:dw "list"=some (.type "list"):=by decide +kernel
theorem tuple:dw "tuple"=some (.type "tuple"):=by decide +kernel
end BootT
namespace L2
def FI:List V->Hp->VK->Prop:=λxs H Q=>∃ i j,xs=[.int i,.int j]/\Q (.int (if j<i then j else i)) H
def IP:List V->Hp->VK->Prop:=λxs H Q=>∃ i j,xs=[.int i,.int j]/\Q (.int (if j>i then j else i)) H
def oJ (K:aa) (ta:TE):TT:=λZ H Q=>ta Z H λx H'=>∃ k,SU K x H' k/\Q k H'
theorem X0 {K:aa}{ta:TE}{Z:St}{H:Hp}{Q:Bool->Hp->Prop}(h:ta Z H λx H'=>∃ k,SU K x H' k/\Q k H'):oJ K ta Z H Q:=h
section
variable {X:Cx}{a:Expr}{ta:TE}
theorem iI (ha:PE X a ta) (he:∀ whole,isTrue a X.env whole=(do let v ← whole;BA a.pos;nU [v] (truthy v))):PT X a (oJ X.K ta):=Pi ha he
end
def ZZ (a:af) (kvs:List (dQ×V)) (o:gi):It :=
 ⟨λi H=>i<kvs.length/\H a=some (.frz o (.dK kvs)),λi H x H'=>H'=H/\∃ k v,kvs[i]?=some (k,v)/\x=kV k,λi H=>kvs.length<=i/\H a=some (.frz o (.dK kvs))⟩
theorem V3 {k:dQ}{u:aj}(h:BE k u=true):RelV (kV k) u:=by
 rcases iq h with ⟨i,t,rfl,rfl⟩|⟨x,t,rfl,rfl⟩
 ·exact ⟨t,rfl⟩
 ·exact ⟨t,rfl⟩
theorem KV.get {kvs:List (dQ×V)}{vs:List (dQ×aj)}(r:KV kvs vs) {i:Nat}{k:dQ}{v:V}(e:kvs[i]?=some (k,v)):∃ u,vs[i]?=some (k,u)/\RelV v u:=by
 unfold KV at r
 induction r generalizing i with
 | nil=>simp at e
 | @cons p q ps qs h t ih =>
  cases i with
  | zero =>
   simp at e;subst e;obtain ⟨q1,q2⟩:=q;obtain ⟨h1,h2⟩:=h;simp only at h1 h2;subst h1
   exact ⟨q2,rfl,h2⟩
  | succ i =>
   obtain ⟨u,e1,e2⟩:=ih (by simpa using e);exact ⟨u,by simpa using e1,e2⟩
theorem NT {P:a9}{w:bQ}{K:aa}{tg:Expr}(a it:af) (o:gi) (kvs:List (dQ×V)) (vs:List (dQ×aj)) (ep:Nat) (rel:KV kvs vs)
  (od:∀ h:cm,h.get? a=some o->h.DictAt (fc P w) a vs ep):ND P w K tg (ZZ a kvs o) [it] it (λi h=>h.IsKeyIter it a i vs.length ep) where
 mem:=by simp
 obj:=λi h st b hb=>by
  have e:b=it:=by simpa using hb
  subst e;obtain ⟨o,e,c,d⟩:=st;exact ⟨o,e,λv z=>by rw [d] at z;cases z⟩
 keep:=λi h h' st k=>st.at λo e=>k it (by simp) o e
 item:=by
  intro X hP hw hK hc i pins s Z H E I hf st hg;subst hP hw hK;obtain ⟨hlt,hq⟩:=hg
  obtain ⟨e0,_⟩:=(show fP X.prog X.w H s.heap a (.frz o (.dK kvs)) from I.fD a _ hq)
  obtain ⟨⟨k,v⟩,hx⟩:∃ p,kvs[i]?=some p:=⟨kvs[i],by simp [hlt]⟩
  obtain ⟨u,hu,ru⟩:=rel.get hx;obtain ⟨f0,f1,f2,f3,f4,f5⟩:=hf it (by simp);refine wpAny_pyNext_dict_item st (od _ e0) hu λkey h' hkey st' sb=>?_;have I1:Inv X pins Z H { s with heap:=h' }:=I.turned (t':=s.toks) (λb o hb e=>(sb.2 b hb).trans e) f0 f1 f3 f4 f5;obtain ⟨o',e,c,d⟩:=id st';exact ⟨key,rfl,Iu (s:={ s with heap:=h' }) e c d (by decide) ⟨kV k,H,I1,V3 hkey,⟨rfl,k,v,hx,rfl⟩,st',λb hb=>(hf b hb).1⟩⟩
 done:=by
  intro X hP hw hK hc i pins s Z H E I hf st hg;subst hP hw hK;obtain ⟨hle,hq⟩:=hg
  obtain ⟨e0,_⟩:=(show fP X.prog X.w H s.heap a (.frz o (.dK kvs)) from I.fD a _ hq)
  obtain ⟨f0,f1,f2,f3,f4,f5⟩:=hf it (by simp);have hl:=rel.length
  exact wpAny_pyNext_dict_end (I.ok.hd hc) st (od _ e0) (by simp;lia) λh' eb=>⟨rfl,I.turned (t':=s.toks) (λb o hb e=>eb b o hb e) f0 f1 f3 f4 f5⟩
 self:=λ_ _ _ _ _ st h=>Bg st h
def pZ (K:aa) (tl:TE):TI:=λZ H R=>tl Z H λx H1=>∃ a,x=.ref a/\(((∃ xs,de K H1 a xs)/\R (KN K a) H1)\/((∃ xs,mR K H1 a xs)/\R (Xn K a) H1) \/
 ∃ kvs,H1 a=some (.dK kvs)/\∀ o,R (ZZ a kvs o) (upd H1 a (.frz o (.dK kvs))))
theorem V4 {K:aa}{tl:TE}{Z:St}{H:Hp}{R:It->Hp->Prop}(h:tl Z H λx H1=>∃ a,x=.ref a/\(((∃ xs,de K H1 a xs)/\R (KN K a) H1)\/((∃ xs,mR K H1 a xs)/\R (Xn K a) H1) \/
 ∃ kvs,H1 a=some (.dK kvs)/\∀ o,R (ZZ a kvs o) (upd H1 a (.frz o (.dK kvs))))):pZ K tl Z H R:=h
section
variable {X:Cx}{tg:Expr}
theorem i6 {l:Expr}{tl:TE}(hl:PE X l tl):PI X tg l (pZ X.K tl):=by
 intro pins s Z H R I h;refine iG (hl pins s Z H _ I h) λv s1 ⟨x,H1,I1,r1,q1⟩=>?_;obtain ⟨a,e,q1⟩:=q1;subst e;cases r1
 rcases q1 with ⟨⟨xs,hq⟩,q⟩|⟨⟨xs,hq⟩,q⟩|⟨kvs,hq,q⟩
 ·obtain ⟨its,rv,p,hz⟩:=I1.list hq;refine wpAny_pyIter_list p.isList ?_;refine ⟨s1.heap.objs.size,[s1.heap.objs.size],_,_,H1,rfl,I1.kept (t':=s1.toks) λb o e=>ao _ e,NF a _,⟨_,aN _ rfl,rfl,rfl⟩,λb hb=>?_,q⟩
  have e:b=s1.heap.objs.size:=by simpa using hb
  subst e;exact I1.Mr (au _) (I1.fD.fresh (au _))
 ·obtain ⟨its,rv,p,hz⟩:=I1.tuple hq;refine wpAny_pyIter_tuple (show s1.heap.IsTuple a its.toArray from p) ?_;refine ⟨s1.heap.objs.size,[s1.heap.objs.size],_,_,H1,rfl,I1.kept (t':=s1.toks) λb o e=>ao _ e,KQ a _,⟨_,aN _ rfl,rfl,rfl⟩,λb hb=>?_,q⟩
  have e:b=s1.heap.objs.size:=by simpa using hb
  subst e;exact I1.Mr (au _) (I1.fD.fresh (au _))
 ·obtain ⟨hz,hsys,vs,rel,dd⟩:=MM I1.fD hq;obtain ⟨ep,da⟩:=dd.dictAt;obtain ⟨ob,es,ho,rr⟩:=id da
  have od:∀ h:cm,h.get? a=some ob->h.DictAt (fc X.prog X.w) a vs ep:=λh e=>⟨ob,es,e,rr⟩
  have un:Un X.fs [] H1 (upd H1 a (.frz ob (.dK kvs))) s1.heap s1.heap:=by
   have hne:∀ b u,H1 b=some u->u≠.dK kvs->b≠a:=λb u e n z=>by subst z;rw [hq] at e;exact n (a7 e).symm
   refine ⟨λb o e _ _ _=>e,λb o e _ _ _=>⟨o.slots,e⟩,λb o e n _=>?_,λb o e _=>⟨o,e⟩,λb ys e=>?_,λb o u e=>?_,λb ps e=>?_⟩
   ·rw [aI (λz=>by subst z;rw [hq] at n;cases n)];exact n
   ·rw [aI (hne b _ e (by intro z;cases z))];exact e
   ·rw [aI (hne b _ e (by intro z;cases z))];exact e
   ·exact ⟨#[],by rw [aI (hne b _ e (by intro z;cases z)),e];simp⟩
  have fD:tS X.prog X.w (upd H1 a (.frz ob (.dK kvs))) s1.heap:=λb u e=>by
   by_cases hb:b=a
   ·subst hb;rw [aG] at e;cases e;exact ⟨ho,hz,hsys,vs,rel,dd⟩
   ·rw [aI hb] at e;refine (I1.fD b u e).Bb (λc v _ q=>q) (λc q0=>?_) λc ys q0=>?_
    ·rw [aI (λz=>by rw [z,hq] at q0;cases q0)];exact q0
    ·rw [aI (λz=>by rw [z,hq] at q0;cases q0)];exact q0
  have I2:Inv X pins Z (upd H1 a (.frz ob (.dK kvs))) { s1 with heap:=s1.heap,toks:=s1.toks }:=I1.un un fD;refine wpAny_pyIter_dict hsys da ?_;refine ⟨s1.heap.objs.size,[s1.heap.objs.size],_,_,_,rfl,I2.kept (t':=s1.toks) λb o e=>ao _ e,NT a _ ob kvs vs ep rel od,⟨_,aN _ rfl,rfl,rfl⟩,λb hb=>?_,q ob⟩
  have e:b=s1.heap.objs.size:=by simpa using hb
  subst e;exact I2.Mr (au _) (I2.fD.fresh (au _))
def xR:V->List V->Hp->VK->Prop:=λx vs H Q=>∃ a kvs k v,x=.ref a/\vs=[kV k,v]/\H a=some (.dK kvs)/\kvs.length<aY /\
 ((∃ z,eV kvs k=some z/\Q z H)\/(eV kvs k=none/\Q v (upd H a (.dK (lC kvs k v)))))
theorem FJ:So X "dict.setdefault" xR:=by
 intro pins s Z H x xs v us Q I rx rs h;obtain ⟨a,kvs,k,y,rfl,rfl,ha,hl,h⟩:=h;cases rx;obtain ⟨u,r,rfl,ru,rr⟩:=Vals.two rs;obtain ⟨z,hd,vs,rel,dd⟩:=MM I.fD ha;have hlen:=rel.length;refine call_meetsIn pH dd.typeIs PySem.F.entry_dict_setdefault (PySem.F.args_dict_setdefault_3 _ _ _) (kt_meets_setdefault (fc X.prog X.w) a (B8 ru) hd r) ⟨vs,dd,by rw [← hlen];exact z,λw' hw=>?_,λhn h' dd' hs=>?_⟩
 ·rcases h with ⟨y',e,q⟩|⟨e,_⟩
  ·obtain ⟨w2,e2,r2⟩:=sf.some_of (v:=y') (o:=vm vs k) (by rw [← e];exact rel.val k);rw [hw] at e2;cases e2;exact ⟨y',H,I.tok _,r2,q⟩
  ·have:=sf.none_of (o:=vm vs k) (by rw [← e];exact rel.val k);rw [hw] at this;cases this
 ·rcases h with ⟨y',e,q⟩|⟨e,q⟩
  ·obtain ⟨w2,e2,r2⟩:=sf.some_of (v:=y') (o:=vm vs k) (by rw [← e];exact rel.val k);rw [hn] at e2;cases e2
  ·have he:∃ q,h'.get? a=some q:=let ⟨q,_,_,hq,_⟩:=dd';⟨q,hq⟩
   exact ⟨y,_,xJ (t':=s.toks+1) I (by rw [ha];exact gU) hs he (K5 (bz (l8 kvs k y) hl) hd (rel.put k rr) dd'),rr,q⟩
end
section
variable {K:aa}{Z:St}{H:Hp}{Q:VK}
structure k9 (n i:Nat) (S:St->Prop) (Pv:List V->Hp->Prop) (m:Nat) (ys:List V) (Z:St) (H:Hp):Prop where
 m:m=n-i
 le:i<=n
 s:S Z
 p:Pv ys H
theorem k9.mk' {n i:Nat}{S:St->Prop}{Pv:List V->Hp->Prop}{ys:List V}{Z:St}{H:Hp}(hi:i<n) (s:S Z) (p:Pv ys H):∃ m',m'<n-i/\k9 n (i+1) S Pv m' ys Z H:=⟨n-(i+1),by lia,rfl,hi,s,p⟩
theorem nR {σ0:St}{g:TG}{tt:TT}{te:TE}{J:It}{n:Nat}{acc:af}{R:Hp->Prop}(Pv:Nat->List V->Hp->Prop) (S:St->Prop) (h0:Pv 0 [] (upd H acc (.lst []))) (s0:S σ0)
  (ha:∀ i ys H,Pv i ys H->H acc=some (.lst ys)) (hst:∀ ys H,Pv n ys H->J.stop n H/\R H) (hgo:∀ i ys H,i<n->Pv i ys H->J.go i H)
  (hs:∀ i ys σ' H x H2,i<n->Pv i ys H->S σ'->J.KA i H x H2->g x σ' H2 λσ2 H3=>tt σ2 H3 λb H4=>if b=true then te σ2 H4 λy H5=>H5 acc=some (.lst ys)/\ys.length<aY/\∃ m',m'<n-i/\k9 n (i+1) S (Pv (i+1)) m' (ys++[y]) σ2 (upd H5 acc (.lst (ys++[y]))) else ∃ m',m'<n-i/\k9 n (i+1) S (Pv (i+1)) m' ys σ2 H4) :
  ∃ W:Nat->Nat->List V->St->Hp->Prop,(∃ m,W 0 m [] σ0 (upd H acc (.lst [])))/\∀ i m ys σ' H',W i m ys σ' H'->H' acc=some (.lst ys) /\
  ((J.stop i H'/\R H')\/(J.go i H'/\∀ x H2,J.KA i H' x H2->g x σ' H2 λσ2 H3=>tt σ2 H3 λb H4 =>
   if b=true then te σ2 H4 λy H5=>H5 acc=some (.lst ys)/\ys.length<aY/\∃ m',m'<m/\W (i+1) m' (ys++[y]) σ2 (upd H5 acc (.lst (ys++[y]))) else ∃ m',m'<m/\W (i+1) m' ys σ2 H4)):=by
 refine ⟨λi m ys σ' H'=>k9 n i S (Pv i) m ys σ' H',⟨n,by simp,aJ _,s0,h0⟩,?_⟩;rintro i m ys σ' H' ⟨rfl,hi,hS,p⟩;refine ⟨ha i ys H' p,?_⟩
 by_cases hlt:i<n
 ·exact .inr ⟨hgo i ys H' hlt p,λx H2 y=>hs i ys σ' H' x H2 hlt p hS y⟩
 ·have e:i=n:=by lia
  subst e;exact .inl (hst ys H' p)
structure PK (Pv:St->Hp->Prop) (μ:St->Hp->Nat) (m:Nat) (Z:St) (H:Hp):Prop where
 m:m=μ Z H
 p:Pv Z H
theorem Cd {c:TT}{tb:TS}{D:tN}(Pv:St->Hp->Prop) (μ:St->Hp->Nat) (h0:Pv Z H)
  (hs:∀ Z H,Pv Z H->c Z H λb H1=>if b=true then ∃ N:St->Hp->Prop,(∀ σ' H',N σ' H'->∃ m',m' < μ Z H/\PK Pv μ m' σ' H')/\tb { D with nx:=N,ct:=N,bk:=D.nx } Z H1 else D.nx Z H1):BM c tb D Z H:=by
 refine ⟨PK Pv μ,⟨_,rfl,h0⟩,?_⟩;rintro m Z H ⟨rfl,p⟩;exact hs Z H p
def wN (Pv:St->Hp->Prop) (μ:St->Hp->Nat) (b:Nat):St->Hp->Prop:=λZ H=>Pv Z H/\μ Z H<b
theorem PL {Pv:St->Hp->Prop}{μ:St->Hp->Nat} {b:Nat}:∀ σ' H',wN Pv μ b σ' H'->∃ m',m'<b/\PK Pv μ m' σ' H':=λσ' H' ⟨p,l⟩=>⟨_,l,rfl,p⟩
end
end L2
namespace L2
section
variable {Z:St}{H:Hp}{Q:VK}{D:tN}{ta tb te:TE}{t u:TS}{tA:TA}{QT:Bool->Hp->Prop}{QA:List V->Hp->Prop}{K:aa}
theorem Tq {r r':R2}{tc:TE}(h:ta Z H λx H1=>tb Z H1 λy H2=>r x y H2 λz H3=>∃ k,z=.bl k/\(if k=true then tc Z H3 λw' H4=>r' y w' H4 Q else Q (.bl false) H3)):Gg r r' ta tb tc Z H Q:=h
theorem Z0 {g:Int->V}{i:Int}(h:Q (g i) H):rU g (.int i) H Q:=⟨i,rfl,h⟩
theorem X1 {i j:Bool}(h:Q (.bl (decide (V.bl i=V.bl j))) H):m7 K (.bl i) (.bl j) H Q:=.inl ⟨rfl,h⟩
theorem Z1 (h:te Z H λx H1=>∃ c,x=.bl c/\QT c H1):tB te Z H QT:=h
theorem X2 (h:ta Z H λx H1=>Q (.bl (decide (x=.non))) H1):Vv ta Z H Q:=h
theorem V5 (h:ta Z H λx H1=>Q (.bl (!decide (x=.non))) H1):MD ta Z H Q:=h
theorem V7 {R:It->Hp->Prop}(h:tA Z H λvs H1=>∃ j:Int,vs=[.int j]/\-(2^62)<=j/\j<2^62/\R (SK 0 j.toNat) H1):Ah tA Z H R:=h
theorem PN {wi:TI}{g:TG}{tb:TS}(h:wi Z H λJ H1=>∃ W:Nat->Nat->St->Hp->Prop,(∃ m,W 0 m Z H1)/\∀ i m Z H,W i m Z H ->
 (J.stop i H/\D.nx Z H)\/(J.go i H/\∃ N:St->Hp->Prop,(∀ σ' H',N σ' H'->∃ m',m'<m/\W (i+1) m' σ' H')/\∀ x H',J.KA i H x H'->g x Z H' λσ2 H2=>tb { D with nx:=N,ct:=N,bk:=D.nx } σ2 H2)):xE wi g tb D Z H:=h
theorem V8 {own:Nat}{js:List Nat}{wi:TI}{g:TG}{tt:TT}(h:wi Z H λJ H1=>∀ acc,H1 acc=none ->
 ∃ W:Nat->Nat->List V->St->Hp->Prop,(∃ m,W 0 m [] (rK own none++IJ Z js) (upd H1 acc (.lst [])))/\∀ i m ys σ' H',W i m ys σ' H'->H' acc=some (.lst ys) /\
  ((J.stop i H'/\Q (.ref acc) H')\/(J.go i H'/\∀ x H2,J.KA i H' x H2->g x σ' H2 λσ2 H3=>tt σ2 H3 λb H4 =>
   if b=true then te σ2 H4 λy H5=>H5 acc=some (.lst ys)/\ys.length<aY/\∃ m',m'<m/\W (i+1) m' (ys++[y]) σ2 (upd H5 acc (.lst (ys++[y]))) else ∃ m',m'<m/\W (i+1) m' ys σ2 H4))):kx own js wi g tt te Z H Q:=h
theorem X3 {i:Nat}{ti:Zc}{x:V}(hx:Z[i]?=some (some x)) (h:te Z H λy H1=>ti x y H1 λz H2=>D.nx (Z.set i (some z)) H2):Pc i te ti D Z H:=⟨x,hx,h⟩
theorem y9 {n:Nat}{ts:SG}{a:af}{xs:List V}{R:St->Hp->Prop}(h:mR K H a xs) (hn:xs.length=n) (k:ts xs Z H R):Ir K n ts (.ref a) Z H R:=⟨a,xs,rfl,h,hn,k⟩
theorem Gr {g:TG}{gs:SG}{v:V}{r:List V}{R:St->Hp->Prop}(h:g v Z H λσ' H'=>gs r σ' H' R):l7 g gs (v::r) Z H R:=⟨v,r,rfl,h⟩
theorem PP {R:St->Hp->Prop}(h:R Z H):Iq [] Z H R:=⟨rfl,h⟩
theorem MQ {l b:af}{xs zs:List V}(h:H l=some (.lst xs)) (h':H b=some (.lst zs)) (hl:xs.length+zs.length<=aY) (k:∀ p,H p=none->Q (.ref p) (upd H p (.lst (xs++zs)))):iu (.ref l) (.ref b) H Q:=.inr ⟨l,b,xs,zs,rfl,rfl,h,h',hl,k⟩
theorem X4 {i j:Int}(k:Q (.int (if j<i then j else i)) H):FI [.int i,.int j] H Q:=⟨i,j,rfl,k⟩
theorem X5 {i j:Int}(k:Q (.int (if j>i then j else i)) H):IP [.int i,.int j] H Q:=⟨i,j,rfl,k⟩
theorem vQ {x:V}{T:String}{t:aj}{b:Bool}(ty:xG K H x t) (e:jz K t (.type T)=some b) (k:Q (.bl b) H):AH K [x,.ty T] H Q:=⟨x,T,t,b,rfl,ty,e,k⟩
theorem Al {a:af}{xs:List V}{lo hi:Option Int}(h:de K H a xs) (k:∀ p,H p=none->Q (.ref p) (upd H p (.lst (xI xs lo hi)))):tP K (.ref a) lo hi H Q:=⟨a,xs,rfl,h,k⟩
theorem IQ {x y:V}{dx dy:PyData}(h1:Rep K H dx x) (h2:Rep K H dy y) (f1:wy dx) (f2:wy dy) (k:Q (.bl (dC dx dy)) H):m7 K x y H Q:=.inr ⟨dx,dy,h1,h2,f1,f2,k⟩
theorem X6 {x y:V}{dx dy:PyData}(h1:Rep K H dx x) (h2:Rep K H dy y) (f1:wy dx) (f2:wy dy) (k:Q (.bl (!PyData.eqv dx dy)) H):IL K x y H Q:=.inr ⟨dx,dy,h1,h2,f1,f2,k⟩
theorem IR {x y:V}{d:PyData}{ds:List PyData}(h1:Rep K H d x) (h2:Rep K H (.list ds) y) (f1:wy d) (f2:e9 ds=true) (k:Q (.bl (!(ds.any λe=>dC e d))) H):y8 K true x y H Q:=.inl ⟨d,ds,h1,.inl h2,f1,f2,k⟩
theorem PQ {x y:V}{d:PyData}{ds:List PyData}(h1:Rep K H d x) (h2:Rep K H (.list ds) y) (f1:wy d) (f2:e9 ds=true) (k:Q (.bl (ds.any λe=>dC e d)) H):y8 K false x y H Q:=.inl ⟨d,ds,h1,.inl h2,f1,f2,k⟩
theorem PR {a:af}{kvs:List (dQ×V)}{i:Int}{v:V}(h:H a=some (.dK kvs)) (hl:kvs.length<aY) (k:(∃ z,eV kvs (aZ i:dQ)=some z/\Q z H)\/(eV kvs (aZ i:dQ)=none/\Q v (upd H a (.dK (lC kvs (aZ i) v))))):xR (.ref a) [.int i,v] H Q :=
 ⟨a,kvs,aZ i,v,rfl,rfl,h,hl,k⟩
theorem X7 {a:af}{kvs:List (dQ×V)}{i:Int}{v:V}(h:Rd H a (.dK kvs)) (e:eV kvs (aZ i:dQ)=some v) (k:Q v H):eP K (.ref a) (.int i) H Q:=.inr ⟨a,v,rfl,.inl ⟨kvs,aZ i,h,rfl,e.symm⟩,k⟩
theorem PU {p:af}{ns:List Int}(h:de K H p (ns.map V.int)) (hl:ns.length<64) (k:∀ (l:af) (ns':List Int),H l=none->ns'.Perm ns->ns'.Pairwise (·<=·)->Q (.ref l) (upd H l (.lst (ns'.map V.int)))):Gq K [.ref p] H Q:=⟨p,ns,rfl,h,hl,k⟩
end
section
variable {K:aa}
theorem PV:jz K (.type "int") (.type "int")=some true:=by rfl
theorem PX:jz K (.type "int") (.type "bool")=some false:=by rfl
theorem K8:jz K (.type "bool") (.type "bool")=some true:=by rfl
theorem PY:jz K (.type "list") (.type "list")=some true:=by rfl
theorem V9:jz K (.type "tuple") (.type "tuple")=some true:=by rfl
end
theorem b8.cw {H:Hp}{l:af}{o:HO}(h:H l=none):b8 H (upd H l o):=λb u e=>by rw [aI (aR e h)];exact e
def bH (c:af) (H H':Hp):Prop:=∀ b o,H b=some o->b≠c->H' b=some o
theorem bH.refl (c:af) (H:Hp):bH c H H:=λ_ _ h _=>h
theorem bH.trans {c:af}{H H1 H2:Hp}(a:bH c H H1) (b:bH c H1 H2):bH c H H2:=λx o h n=>b x o (a x o h n) n
theorem bH.same {c:af}{H H':Hp}(e:b8 H H'):bH c H H':=λb o h _=>e b o h
theorem bH.upd {c:af}{H:Hp}{o:HO}:bH c H (upd H c o):=λb u e n=>by rw [aI n];exact e
theorem fG {α:Type} {xs:List α}{j:Nat}{i:Int}{v:α}(hi:i=(j:Int)) (h:xs[j]?=some v):Pq xs i=some v:=by subst hi;exact Tc h
theorem Wa {n j:Nat}{i:Int}(hi:i=(j:Int)) (h:j<n):OR n i=some j:=by
 subst hi;unfold OR;rw [if_pos (by lia),if_pos (by lia)]
 rfl
theorem bD {n m:Nat}(h:n<=m) (hm:m<=100000:=by decide):n<=aY:=bz h (bz hm (by rw [oF];decide))
theorem ee {n m:Nat}(h:n<m) (hm:m<=100000:=by decide):n<aY:=br h (bz hm (by rw [oF];decide))
mutual
def oK:PyData->Bool
 | .int _=>true
 | .list xs=>kA xs
 | .tuple xs=>kA xs
 | _=>false
def kA:List PyData->Bool
 | []=>true
 | x::xs=>oK x && kA xs
end
mutual
theorem za:∀ d:PyData,oK d=true->d.canLay0=true
 | .int _,_=>by simp [nq]
 | .list xs,h=>by simp only [oK] at h;simp only [nq];exact gj xs h
 | .tuple xs,h=>by simp only [oK] at h;simp only [nq];exact gj xs h
 | .none,h=>by simp [oK] at h
 | .bool _,h=>by simp [oK] at h
 | .str _,h=>by simp [oK] at h
 | .dict _,h=>by simp [oK] at h
theorem gj:∀ ds:List PyData,kA ds=true->e9 ds=true
 | [],_=>by simp [e9]
 | d::ds,h=>by
  simp only [kA,gW] at h;simp only [e9,gW];exact ⟨za d h.1,gj ds h.2⟩
end
end L2
namespace L2
section
variable {Z:St}{H:Hp}{Q:VK}{K:aa}
theorem Wb {a:af}{kvs:List (dQ×V)}{i:Int}{v:V}{R:Hp->Prop}(h:H a=some (.dK kvs)) (hl:kvs.length<aY) (q:R (upd H a (.dK (lC kvs (aZ i) v)))):vP (.ref a) (.int i) v H R :=
 .inr ⟨a,_,rfl,yE.k (k:=aZ i) h hl,q⟩
theorem PZ {a:af}{kvs:List (dQ×V)}{i:Int}(h:H a=some (.dK kvs)) (k:Q (.bl (!(eV kvs (aZ i:dQ)).isSome)) H):y8 K true (.int i) (.ref a) H Q:=.inr ⟨a,_,rfl,yD.k (k:=aZ i) h,k⟩
end
end L2
namespace L2
open PySem PySem.Spec PySem.Calls PyProof.Rows
open PySem.W (kla_fn kla_obj tabObj CodeHd)
def IS (Pt:af) (H H':Hp):Prop:=∀ b o,b≠Pt->H b=some o->H' b=some o
def Mq (Pt:af) (pos:oZ) (qual:bu) (H:Hp):Prop :=
 H Pt=some (.tbl #[])\/∃ c' oc vs t,H Pt=some (.tbl #[cB pos.line,cB pos.col,.ref c'])/\H c'=some (.frz oc (.ext λ_=>True))/\oc.data=.fields vs/\vs[1]?=some (tT qual t)
theorem Mq.tbl {Pt:af}{pos:oZ}{qual:bu}{H:Hp}(h:Mq Pt pos qual H):∃ ps,H Pt=some (.tbl ps):=by
 rcases h with h|⟨_,_,_,_,h,_⟩
 ·exact ⟨_,h⟩
 ·exact ⟨_,h⟩
section
variable {X:Cx}{pins:List (af×gi)}{Z:St}{H:Hp}{s:ar}{c Pt:af}
theorem P0 {E:aj->ar->Prop}{Q:aj->ar->Prop}{params:qG}{body:Expr}{scope:lh}{pos:oZ}(I:Inv X pins Z H s) (hcode:X.env.code=.ref c) (C:pI X.base c Pt) (B:X.base.BuiltinsAt X.mg Pt)
  (hdef:defaultsOf params X.env=([],[])) (hfr:∀ n,(n,bM)∈scope.names->∃ c,X.env.cells.lookup n=some c) (hT:Mq Pt pos (X.env.qual++"<lambda>") H)
  (h:∀ f c' ctv h' tk H2,Inv X pins Z H2 { s with heap:=h',toks:=tk }->h'.get? f=some (yN "<lambda>" (X.env.qual++"<lambda>") params body scope (qF X.env.cells scope.names []) ((X.mg "__name__").getD .none) c' ctv)->h'.CodeRec (.ref c') (X.env.qual++"<lambda>") ->
   IS Pt H H2->Mq Pt pos (X.env.qual++"<lambda>") H2->(∀ b o,b≠Pt->s.heap.get? b=some o->h'.get? b=some o)->Q (.ref f) { s with heap:=h',toks:=tk }) :
  aK (aP X.prog X.w) X.A (gM (.Lambda params body scope pos) X.env) Q E s:=by
 have hg:s.heap.Ns bW X.mg:=I.mod.glob.keeps I.bk;have C1:=C.keeps I.bk
 have B1:s.heap.BuiltinsAt X.mg Pt:=let ⟨bm,o,b1,b2,b3,b4,b5,b6⟩:=B;⟨bm,o,b1,b2,b3,b4,I.bk _ _ b5,b6⟩
 refine PySem.W.kla_eval hdef ?_
 rcases hT with hT|⟨c',oc,vs,t,hT,hc',hd,hv⟩
 ·have hP:s.heap.get? Pt=some (Kr #[]):=I.fD Pt _ hT
  have hgP:bW≠Pt:=λq=>by
   obtain ⟨o,es,ep,e,hd,_⟩:=hg;rw [q,hP] at e;cases e;cases hd
  refine PySem.W.kla_makeFunction (mg:=X.mg) (wx hfr) I.ok.glob hg hcode C1 hP trivial rfl hgP B1 λc' ctv h' tk hx hge hlt hrec htb=>?_;obtain ⟨c₂,oc,vs,t,e2,hoc,hd,hv⟩:=id hrec;cases e2;have hn:H c'=none:=I.fD.fresh hge
  have ncP:c'≠Pt:=λq=>by rw [q,hT] at hn;cases hn
  have hL:X.env.locals≠Pt:=λq=>by have:=I.free;rw [q,hT] at this;cases this
  have k:∀ b o,b≠Pt->s.heap.get? b=some o->(h'.push (yN "<lambda>" (X.env.qual++"<lambda>") params body scope (qF X.env.cells scope.names []) ((X.mg "__name__").getD .none) c' ctv)).get? b=some o:=λb o hb e=>ao _ (hx b o hb e);have hP':(h'.push (yN "<lambda>" (X.env.qual++"<lambda>") params body scope (qF X.env.cells scope.names []) ((X.mg "__name__").getD .none) c' ctv)).get? Pt=some (Kr #[cB pos.line,cB pos.col,.ref c']):=ao _ htb;have hoc':(h'.push (yN "<lambda>" (X.env.qual++"<lambda>") params body scope (qF X.env.cells scope.names []) ((X.mg "__name__").getD .none) c' ctv)).get? c'=some oc:=ao _ hoc;have hf:(h'.push (yN "<lambda>" (X.env.qual++"<lambda>") params body scope (qF X.env.cells scope.names []) ((X.mg "__name__").getD .none) c' ctv)).get? h'.objs.size=some (yN "<lambda>" (X.env.qual++"<lambda>") params body scope (qF X.env.cells scope.names []) ((X.mg "__name__").getD .none) c' ctv):=aN _ rfl;generalize h'.push (yN "<lambda>" (X.env.qual++"<lambda>") params body scope (qF X.env.cells scope.names []) ((X.mg "__name__").getD .none) c' ctv)=h2 at k hP' hoc' hf
  have st:∀ b o,b≠Pt->H b=some o->upd (upd H Pt (.tbl #[cB pos.line,cB pos.col,.ref c'])) c' (.frz oc (.ext λ_=>True)) b=some o:=λb o hb e=>by
   rw [aI (aR e hn),aI hb];exact e
  refine h _ c' ctv h2 tk (upd (upd H Pt (.tbl #[cB pos.line,cB pos.col,.ref c'])) c' (.frz oc (.ext λ_=>True))) ?_ hf ⟨c',oc,vs,t,rfl,hoc',hd,hv⟩ st (.inr ⟨c',oc,vs,t,by rw [aI (Ne.symm ncP)];exact aG,aG,hd,hv⟩) k
  have nP:∀ b,H b=none->b≠Pt:=λb e q=>by rw [q,hT] at e;cases e
  refine I.step (g':=s.gens) (d':=s.drawn) (ch:=[]) (λ_ z=>nomatch z) (λb o _ _ _ e n=>k b o (nP b n) e) (λb o _ _ _ e n=>⟨o.slots,k b o (nP b n) e⟩) (λb o _ e n=>?_) (λb o _ e=>?_) (λb xs e=>?_) (λb o u e=>?_)
   (λb ps e=>?_) (λm' hm'=>?_) (λb u e=>?_) I.bare
  ·rw [aI (bf (br (aL e) hge)),aI (nP b n)];exact n
  ·by_cases hb:b=Pt
   ·exact ⟨_,hb▸hP'⟩
   ·exact ⟨o,k b o hb e⟩
  ·exact st b _ (λq=>by rw [q,hT] at e;cases e) e
  ·exact st b _ (λq=>by rw [q,hT] at e;cases e) e
  ·by_cases hb:b=Pt
   ·subst hb;rw [hT] at e;cases e;exact ⟨#[cB pos.line,cB pos.col,.ref c'],by rw [aI (Ne.symm ncP),aG];simp⟩
   ·exact ⟨#[],by rw [st b _ hb e];simp⟩
  ·obtain ⟨o,es,ep,e,r⟩:=hm';exact ⟨o,es,ep,k _ o hL e,r⟩
  ·by_cases hb:b=c'
   ·subst hb;rw [aG] at e;cases e;exact ⟨hoc',trivial,⟨oc,hoc'⟩,λ_ _ _ _=>trivial⟩
   ·rw [aI hb] at e
    by_cases hb2:b=Pt
    ·subst hb2;rw [aG] at e;cases e;exact hP'
    ·rw [aI hb2] at e;refine (I.fD b u e).Bb (λd v hc q=>k d v ?_ q) (λd q=>st d _ (λz=>by rw [z,hT] at q;cases q) q) λd xs q=>st d _ (λz=>by rw [z,hT] at q;cases q) q;rintro rfl
     rcases hc with hc|hc
     ·exact hb2 hc.symm
     ·rw [hT] at hc;cases hc
 ·have hP:s.heap.get? Pt=some (Kr #[cB pos.line,cB pos.col,.ref c']):=I.fD Pt _ hT;refine PySem.W.kla_makeFunctionHit (mg:=X.mg) (cv:=.ref c') (wx hfr) I.ok.glob hg hcode C1 hP (by simp [TriplesOk,cB]) (by simp [codeAmong,cB]) B1 λctv h' tk hk hsz=>?_;have k:∀ b o,s.heap.get? b=some o->(h'.push (yN "<lambda>" (X.env.qual++"<lambda>") params body scope (qF X.env.cells scope.names []) ((X.mg "__name__").getD .none) c' ctv)).get? b=some o:=λb o e=>ao _ (hk b o e);refine h h'.objs.size c' ctv _ tk H (I.kept k) (aN _ rfl) ⟨c',oc,vs,t,rfl,k _ _ (I.fD c' _ hc').1,hd,hv⟩ (λ_ _ _ e=>e) (.inr ⟨c',oc,vs,t,hT,hc',hd,hv⟩) λb o _ e=>k b o e
end
end L2
namespace L2
open PySem PySem.Spec PySem.Calls PyProof.Rows
open PySem.W (kla_fn kla_obj tabObj CodeHd)
section
variable {X:Cx}{c Pt:af}{e:Expr}{tx:TA}{x y:bu}{j:Nat}{params:qG}{scope:lh}{p0 p1 p2 p3 lpos kpos pos:oZ}
end
end L2
namespace L2
open PySem PySem.Spec PySem.Calls PyProof.Rows
open PySem.W (tabObj CodeHd noTabs tabIn)
end L2
namespace L2
theorem lZ.okC {P:a9}{w:bQ}{K:aa}{mg:bu->Option aj}{base:cm}{x qual:bu}{st:dU}{f:af}{fd:fB}{N ps:List bu}{k:Nat}{sp:Sp}{sr:aj}(F:lZ K x qual st f fd) (hc:fd.code=sr) (S:bU N ps (bg st)) (len:∀ vs H Q E,sp vs H Q E->vs.length=ps.length)
  (hbody:∀ (A:bY) (outer:List Ia) (s:ar) (H:Hp) (vs:List V) (Q:VK) (E:XK),kT k (A.deeper (yL qual (bg st) s.heap.objs.size f sr))->sp vs H Q E ->
   ∃ t,Mm (IA eN P w K mg base N qual (bg st) f sr A outer s H E).WW (mD st) t/\t { nx:=λ_ H'=>Q .non H',rt:=Q } (start N vs) H):dF P w K mg base eN (k+1) f fd ps sp:=by
 obtain ⟨oc,od,kV,doc,pm,an,cdv',ct,osl,rfl,lk,hcd⟩:=F.ex;have e:cdv'=sr:=hc;subst e;refine UD lk hcd S len λA outer s H vs Q E hr hsp=>?_;obtain ⟨t,h,q⟩:=hbody A outer s H vs Q E hr hsp;exact ⟨t,h.WW,q⟩
end L2
namespace L2
end L2
namespace L2
end L2
namespace L2
section
variable {K:aa}{Z:St}{H:Hp}{Q:VK}
theorem Bt {σ0:St}{g:TG}{tt:TT}{te:TE}{z acc:af}{xs:List V}{R:Hp->Prop}{α:Type} (items:List α) (p:α->Bool) (f:α->V) (S:St->Prop) (hlen:items.length=xs.length) (hz:de K H z xs) (ha:H acc=none) (s0:S σ0) (hs:xs.length<=100000)
  (turn:∀ (i:Nat) (a:α) (x:V) (σ':St) (H':Hp) (G:V->St->Hp->Prop) (G':St->Hp->Prop),items[i]?=some a->xs[i]?=some x->b8 H H'->S σ'->(p a=true->∀ σ2,S σ2->G (f a) σ2 H')->(p a=false->∀ σ2,S σ2->G' σ2 H') ->
   g x σ' H' λσ2 H3=>tt σ2 H3 λb H4=>if b=true then te σ2 H4 λy H5=>G y σ2 H5 else G' σ2 H4)
  (fin:∀ H',b8 H H'->H' acc=some (.lst ((items.filter p).map f))->R H') :
  ∃ W:Nat->Nat->List V->St->Hp->Prop,(∃ m,W 0 m [] σ0 (upd H acc (.lst [])))/\∀ i m ys σ' H',W i m ys σ' H'->H' acc=some (.lst ys) /\
  (((KN K z).stop i H'/\R H')\/((KN K z).go i H'/\∀ x H2,(KN K z).KA i H' x H2->g x σ' H2 λσ2 H3=>tt σ2 H3 λb H4 =>
   if b=true then te σ2 H4 λy H5=>H5 acc=some (.lst ys)/\ys.length<aY/\∃ m',m'<m/\W (i+1) m' (ys++[y]) σ2 (upd H5 acc (.lst (ys++[y]))) else ∃ m',m'<m/\W (i+1) m' ys σ2 H4)):=by
 refine nR (n:=xs.length) (λi ys H'=>ys=((items.take i).filter p).map f/\H' acc=some (.lst ys)/\b8 H H') S ⟨by simp,aG,b8.cw ha⟩ s0 ?_ ?_ ?_ ?_
 ·rintro i ys H' ⟨_,h,_⟩;exact h
 ·rintro ys H' ⟨e,h,S'⟩;refine ⟨⟨_,S'.seq hz,au _⟩,fin H' S' ?_⟩;rw [h,e,bS (by lia)]
 ·rintro i ys H' hi ⟨e,h,S'⟩;exact ⟨_,_,S'.seq hz,aC hi⟩
 ·rintro i ys σ' H' x H2 hi ⟨e,h,S'⟩ hσ ⟨e2,hx⟩;subst e2;have hxi:=hx _ (S'.seq hz)
  obtain ⟨a,hai⟩:∃ a,items[i]?=some a:=⟨_,aC (by lia)⟩
  have et:items.take (i+1)=items.take i++[a]:=by rw [d9,hai];rfl
  refine turn i a x σ' H2 _ _ hai hxi S' hσ (λhp σ2 h2=>?_) λhp σ2 h2=>?_
  ·refine ⟨h,bI (m:=i) ?_ (br hi (bD hs)),k9.mk' hi h2 ⟨?_,aG,λb o q=>by rw [aI (aR q ha)];exact S' _ _ q⟩⟩
   ·rw [e,ag];exact bz (cJ _ _) (by rw [bO];lia)
   ·rw [et,e,dk,aT];simp [hp]
  ·refine k9.mk' hi h2 ⟨?_,h,S'⟩;rw [et,e,dk,aT];simp [hp]
theorem qa:∀ ns:List Int,kA (ns.map .int)=true
 | []=>rfl
 | n::ns=>by simp only [bT,kA,gW];exact ⟨by simp [oK],qa ns⟩
theorem Ce:∀ ns:List Int,dz (ns.map .int)<=1
 | []=>by simp [dz]
 | n::ns=>by
  have:=Ce ns;simp only [bT,dz]
  have e:(OY n).depth<=1:=by simp [j4]
  lia
theorem qb {H:Hp}{a:af}{ns:List Int}(h:de K H a (ns.map V.int)):Rep K H (.list (ns.map .int)) (.ref a):=.lst h (fj.ints ns)
end
end L2
namespace BootT
open PySem
theorem sum:dw "sum"=some (.builtin "sum"):=by decide +kernel
theorem zip:dw "zip"=some (.type "zip"):=by decide +kernel
theorem set:dw "set"=some (.type "set"):=by decide +kernel
end BootT
namespace L2
open PySem PySem.Spec PyProof.Rows PySem.SeqAt
section
variable {X:Cx}
def P9 (K:aa):V->List V->Hp->VK->Prop:=λx vs H Q=>∃ (l:af) (ns:List Int) (k:Int),x=.ref l/\vs=[.int k]/\de K H l (ns.map V.int)/\k∈ns/\Q (.int (ns.idxOf k:Nat)) H
theorem Qa:So X "list.index" (P9 X.K):=by
 intro pins s Z H x vs v us Q I rx rv h;obtain ⟨l,ns,k,rfl,rfl,hq,hk,q⟩:=h;cases rx;obtain ⟨u,rfl,t,rfl⟩:=rv.one;obtain ⟨its,r,pl,hz⟩:=I.list hq;have hi:fR its ns:=intsAre_of r;have hlen:=hi.length;have hl2:=r.length;have hj:ns.idxOf k<ns.length:=hU.mpr hk;have h63:=wk;rw [ag] at hz hl2;obtain ⟨⟨cls,dd,data,sl⟩,ho,hc,n,hd⟩:=pl.isList;simp only at hc hd;subst hc hd
 refine call_meets ic ⟨_,ho,rfl⟩ HR (Gb _ _)
  (list_indexAt l its.toArray n dd sl (.int k t) (isInt k) (ns.idxOf k) (by rw [aM];lia) (by lia) ?_ ?_) ⟨ho,λy hy=>(eq_isInt k t hi y (by simpa using hy)).at _ _,⟨.int _,H,I.tok _,⟨_,rfl⟩,q⟩⟩
 ·show isInt k its[ns.idxOf k]=true
  rw [isInt_at k hi _ (by lia) hj]
  simpa using AC hj
 ·intro j hjs hlt
  show isInt k its[j]=false
  rw [isInt_at k hi j (by simpa using hjs) (by lia)];exact ne_of_lt_idxOf hlt _
def MR (K:aa):V->List V->Hp->VK->Prop:=λx vs H Q=>∃ (l:af) (y:V) (ds:List PyData) (d:PyData) (j:Nat) (ej:PyData),x=.ref l/\vs=[y]/\Rep K H (.list ds) (.ref l)/\Rep K H d y/\wy d/\e9 ds=true /\
 ds.length<=aY/\ds[j]?=some ej/\dC ej d=true/\(∀ m e,m<j->ds[m]?=some e->dC e d=false)/\Q (.int (j:Nat)) H
theorem NU (hu:X.A.units+64<ju):So X "list.index" (MR X.K):=by
 intro pins s Z H x vs v us Q I rx rv h;obtain ⟨l,y,ds,d,j,ej,rfl,rfl,hR,hd,hf,hc,hz,hj,he,hno,q⟩:=h;cases rx;obtain ⟨u,rfl,ru⟩:=rv.one;obtain ⟨as,r1⟩:=Rep.reads I _ _ _ hR rfl;obtain ⟨bs,r2⟩:=Rep.reads I d y u hd ru;have h63:=wk;have hdep:=hf.dep;have hjl:j<ds.length:=(aB.mp hj).1
 cases r1 with
 | @list _ o items n _ as2 h1 h2 h3 h4 =>
  obtain ⟨cls,dd,data,sl⟩:=o;have h2':cls=_:=h2;have h3':data=_:=h3;subst h2' h3';have hm:=readsAll_map _ _ _ hc h4
  have hsz:items.size=ds.length:=by rw [← hm,ag,aO]
  have at_:∀ (m:Nat) (hm':m<items.size) (e:PyData),ds[m]?=some e->readOf s.heap items[m]=e:=λm hm' e z=>by
   rw [← hm,aD,dv,cf hm'] at z;exact a7 z
  refine call_meets ic ⟨_,h1,rfl⟩ HR (Gb _ _)
   (list_indexAt l items n dd sl u (λy=>dC (readOf s.heap y) d) j (by lia) (by lia) ?_ ?_) ⟨h1,items_eqAt h4 r2 hc hf.lay (by lia),⟨.int _,H,I.tok _,⟨_,rfl⟩,q⟩⟩
  ·show dC (readOf s.heap items[j]) d=true
   rw [at_ j (by lia) _ hj];exact he
  ·intro m hm' hlt
   obtain ⟨e,z⟩:∃ e,ds[m]?=some e:=⟨_,aC (by lia)⟩
   show dC (readOf s.heap items[m]) d=false
   rw [at_ m hm' e z];exact hno m e hlt z
theorem So.or {id:String}{r r':V->List V->Hp->VK->Prop}(h:So X id r) (h':So X id r'):So X id (λx vs H Q=>r x vs H Q\/r' x vs H Q):=by
 intro pins s Z H x vs v us Q I rx rv z
 rcases z with z|z
 ·exact h pins s Z H x vs v us Q I rx rv z
 ·exact h' pins s Z H x vs v us Q I rx rv z
def sG (K:aa):V->List V->Hp->VK->Prop:=λx vs H Q=>P9 K x vs H Q\/MR K x vs H Q
theorem vg (hu:X.A.units+64<ju):So X "list.index" (sG X.K):=Qa.or (NU hu)
variable {tg:Expr}
theorem MS {K:aa}{l:af}{ns:List Int}{k:Int}{H:Hp}{Q:VK}(h:de K H l (ns.map V.int)) (hk:k∈ns) (q:Q (.int (ns.idxOf k:Nat)) H):sG K (.ref l) [.int k] H Q:=.inl ⟨l,ns,k,rfl,rfl,h,hk,q⟩
end
end L2
namespace L2
end L2
namespace L2
section
variable {K:aa}{H:Hp}{Q:VK}{a:af}{xs:List V}{ns:List Int}{i i':Int}{j j':Nat}
theorem Gs {n d:Nat}(h:i=(j:Int)):HT.nv n d (some i)=min j n:=by subst h;exact HT.Tb n d j
theorem IT (h:i=(j:Int)):xI xs (some i) none=xs.drop j:=by
 unfold xI;rw [Gs h,HT.IC]
 by_cases e:j<=xs.length
 ·rw [wb e,bS (by rw [cQ];lia)]
 ·rw [Fo (by lia),nV (au _),nV (by lia)];simp
theorem Cg (h:i=(j:Int)):xI xs none (some i)=xs.take j:=by
 unfold xI;rw [Gs h,HT.IC,Ic,Nat.sub_zero]
 by_cases e:j<=xs.length
 ·rw [wb e]
 ·rw [Fo (by lia),bS (au _),bS (by lia)]
theorem MT (h:i=(j:Int)) (h':i'=(j':Int)):xI xs (some i) (some i')=(xs.drop j).take (j'-j):=by
 unfold xI;rw [Gs h,Gs h']
 by_cases e:j<=xs.length
 ·rw [wb e]
  by_cases e':j'<=xs.length
  ·rw [wb e']
  ·rw [Fo (by lia),bS (by rw [cQ];lia),bS (by rw [cQ];lia)]
 ·rw [nV (show xs.length<=min j xs.length by lia),nV (show xs.length<=j by lia)];simp
theorem xS (h:de K H a (ns.map V.int)) (e:i=(j:Int)) (k:∀ p,H p=none->Q (.ref p) (upd H p (.lst ((ns.drop j).map V.int)))):tP K (.ref a) (some i) none H Q :=
 Al h λp hp=>by rw [IT e,← Ac];exact k p hp
theorem Qb (h:de K H a (ns.map V.int)) (e:i=(j:Int)) (k:∀ p,H p=none->Q (.ref p) (upd H p (.lst ((ns.take j).map V.int)))):tP K (.ref a) none (some i) H Q :=
 Al h λp hp=>by rw [Cg e,← pJ];exact k p hp
theorem MU (h:de K H a (ns.map V.int)) (e:i=(j:Int)) (e':i'=(j':Int)) (k:∀ p,H p=none->Q (.ref p) (upd H p (.lst (((ns.drop j).take (j'-j)).map V.int)))):tP K (.ref a) (some i) (some i') H Q :=
 Al h λp hp=>by rw [MT e e',← Ac,← pJ];exact k p hp
theorem Gu {l b:af}{ms:List Int}(h:H l=some (.lst (ns.map V.int))) (h':H b=some (.lst (ms.map V.int))) (hl:ns.length+ms.length<=100000) (k:∀ p,H p=none->Q (.ref p) (upd H p (.lst ((ns++ms).map V.int)))):iu (.ref l) (.ref b) H Q :=
 MQ h h' (by rw [ag,ag];exact bD hl) λp hp=>by rw [← aT];exact k p hp
theorem Tr {j:Nat}{v:Int}(h:ns[j]?=some v):(ns.map V.int)[j]?=some (.int v):=by rw [aD,h];rfl
theorem MV {v:Int}(h:de K H a (ns.map V.int)) (e:i=(j:Int)) (g:ns[j]?=some v) (k:Q (.int v) H):eP K (.ref a) (.int i) H Q:=pY h (fG e (Tr g)) k
theorem K9 (h:de K H a (ns.map V.int)) (k:Q (.int ns.length) H):vv K [.ref a] H Q:=wA h (by rw [ag];exact k)
end
end L2
namespace L2
section
variable {K:aa}{Z:St}{H:Hp}{Q:VK}
theorem Qc {σ0:St}{g:TG}{te:TE}{J:It}{n:Nat}{acc:af}{R:Hp->Prop}(E:Nat->V->Hp->Prop) (X:Nat->V->Prop) (S:St->Prop) (ha:H acc=none) (s0:S σ0) (hn:n<=100000)
  (hgo:∀ i H',b8 H H'->i<n->J.go i H') (hstop:∀ H',b8 H H'->J.stop n H') (hy:∀ i H' x H2,b8 H H'->i<n->J.KA i H' x H2->H2=H'/\X i x)
  (st:∀ i y H1 H2 zs,H1 acc=some (.lst zs)->bH acc H1 H2->E i y H1->E i y H2)
  (turn:∀ (i:Nat) (x:V) (σ':St) (H':Hp) (G:V->St->Hp->Prop),i<n->X i x->b8 H H'->S σ'->(∀ y σ2 H5,S σ2->b8 H' H5->E i y H5->G y σ2 H5)->g x σ' H' λσ2 H3=>te σ2 H3 λy H5=>G y σ2 H5)
  (fin:∀ ys H',ys.length=n->H' acc=some (.lst ys)->b8 H H'->(∀ i y,ys[i]?=some y->E i y H')->R H') :
  ∃ W:Nat->Nat->List V->St->Hp->Prop,(∃ m,W 0 m [] σ0 (upd H acc (.lst [])))/\∀ i m ys σ' H',W i m ys σ' H'->H' acc=some (.lst ys) /\
  ((J.stop i H'/\R H')\/(J.go i H'/\∀ x H2,J.KA i H' x H2->g x σ' H2 λσ2 H3=>xO σ2 H3 λb H4 =>
   if b=true then te σ2 H4 λy H5=>H5 acc=some (.lst ys)/\ys.length<aY/\∃ m',m'<m/\W (i+1) m' (ys++[y]) σ2 (upd H5 acc (.lst (ys++[y]))) else ∃ m',m'<m/\W (i+1) m' ys σ2 H4)):=by
 refine nR (n:=n) (tt:=xO) (λi ys H'=>ys.length=i/\H' acc=some (.lst ys)/\b8 H H'/\∀ j y,ys[j]?=some y->E j y H') S ⟨rfl,aG,b8.cw ha,λj y e=>by simp at e⟩ s0 ?_ ?_ ?_ ?_
 ·rintro i ys H' ⟨_,h,_⟩;exact h
 ·rintro ys H' ⟨e,h,S',hE⟩;exact ⟨hstop H' S',fin ys H' e h S' hE⟩
 ·rintro i ys H' hi ⟨e,h,S',hE⟩;exact hgo i H' S' hi
 ·rintro i ys σ' H' x H2 hi ⟨e,h,S',hE⟩ hσ hyl;obtain ⟨rfl,hX⟩:=hy i H' x H2 S' hi hyl;have z:=turn i x σ' H2 (λy σ2 H5=>H5 acc=some (.lst ys)/\ys.length<aY/\∃ m',m'<n-i/\k9 n (i+1) S (λys H'=>ys.length=i+1/\H' acc=some (.lst ys)/\b8 H H'/\∀ j y,ys[j]?=some y->E j y H') m' (ys++[y]) σ2 (upd H5 acc (.lst (ys++[y])))) hi hX S' hσ ?_
  ·exact z
  ·intro y σ2 H5 h2 S5 hE5;refine ⟨S5 _ _ h,ee (m:=100000) (by lia),k9.mk' hi h2 ⟨by rw [bq,e];rfl,aG,λb o q=>by rw [aI (aR q ha)];exact S5 _ _ (S' _ _ q),λj v hv=>?_⟩⟩;have hb:bH acc H5 (upd H5 acc (.lst (ys++[y]))):=bH.upd
   by_cases hj:j<ys.length
   ·rw [eX hj] at hv;exact st j v _ _ _ (S5 _ _ h) hb (st j v _ _ _ h (bH.same S5) (hE j v hv))
   ·rw [eK (by lia)] at hv
    have ej:j=i:=by
     by_cases z:j-ys.length=0
     ·lia
     ·rw [dA (by simp;lia)] at hv;cases hv
    subst ej;rw [e,Nat.sub_self] at hv
    have ev:y=v:=by simpa using hv
    subst ev;exact st j y _ _ _ (S5 _ _ h) hb hE5
theorem Qd {σ0:St}{g:TG}{te:TE}{z acc:af}{xs:List V}{R:Hp->Prop}(E:Nat->V->Hp->Prop) (S:St->Prop) (hz:de K H z xs) (ha:H acc=none) (s0:S σ0) (hn:xs.length<=100000)
  (st:∀ i y H1 H2 zs,H1 acc=some (.lst zs)->bH acc H1 H2->E i y H1->E i y H2)
  (turn:∀ (i:Nat) (x:V) (σ':St) (H':Hp) (G:V->St->Hp->Prop),i<xs.length->xs[i]?=some x->b8 H H'->S σ'->(∀ y σ2 H5,S σ2->b8 H' H5->E i y H5->G y σ2 H5)->g x σ' H' λσ2 H3=>te σ2 H3 λy H5=>G y σ2 H5)
  (fin:∀ ys H',ys.length=xs.length->H' acc=some (.lst ys)->b8 H H'->(∀ i y,ys[i]?=some y->E i y H')->R H') :
  ∃ W:Nat->Nat->List V->St->Hp->Prop,(∃ m,W 0 m [] σ0 (upd H acc (.lst [])))/\∀ i m ys σ' H',W i m ys σ' H'->H' acc=some (.lst ys) /\
  (((KN K z).stop i H'/\R H')\/((KN K z).go i H'/\∀ x H2,(KN K z).KA i H' x H2->g x σ' H2 λσ2 H3=>xO σ2 H3 λb H4 =>
   if b=true then te σ2 H4 λy H5=>H5 acc=some (.lst ys)/\ys.length<aY/\∃ m',m'<m/\W (i+1) m' (ys++[y]) σ2 (upd H5 acc (.lst (ys++[y]))) else ∃ m',m'<m/\W (i+1) m' ys σ2 H4)) :=
 Qc E (λi x=>xs[i]?=some x) S ha s0 hn (λi H' S' h=>⟨xs,_,S'.seq hz,aC h⟩) (λH' S'=>⟨xs,S'.seq hz,au _⟩) (λi H' x H2 S' _ h=>⟨h.1,h.2 xs (S'.seq hz)⟩) st turn fin
end
end L2
namespace Sx
open PySem PySem.W PyProof.Rows
variable {n:Nat}{k:Nat->Int}
end Sx
namespace L2
open PySem PySem.Spec PyProof.Rows PySem.W
theorem Wc {h:cm}{a:af}{m m':bu->Option aj}(x:h.Ns a m) (y:h.Ns a m'):m=m':=by
 obtain ⟨o,es,ep,e,d,_,r⟩:=x;obtain ⟨o',es',ep',e',d',_,r'⟩:=y;rw [e] at e';cases e';rw [d] at d';cases d'
 funext n
 rw [← r n,← r' n]
theorem fP.obj {P:a9}{w:bQ}{H:Hp}{h:cm}{a:af}{o:HO}(x:fP P w H h a o):∃ ob,h.get? a=some ob:=by
 cases o with
 | lst xs=>obtain ⟨_,_,_,_,e⟩:=x;exact ⟨_,e⟩
 | tup xs=>obtain ⟨_,_,_,ob,e,_⟩:=x;exact ⟨_,e⟩
 | dK kvs=>obtain ⟨_,_,_,_,ob,_,_,e,_⟩:=x;exact ⟨_,e⟩
 | dT kvs=>obtain ⟨_,_,_,_,ob,_,_,e,_⟩:=x;exact ⟨_,e⟩
 | set S n=>obtain ⟨ob,_,_,_,e,_⟩:=x;exact ⟨_,e⟩
 | ins C dx fs=>obtain ⟨_,_,_,e,_⟩:=x;exact ⟨_,e⟩
 | own y=>exact x
 | xd fs=>obtain ⟨_,⟨ob,_,_,e,_⟩,_⟩:=x;exact ⟨_,e⟩
 | rng lo hi=>obtain ⟨_,_,_,e⟩:=x;exact ⟨_,e⟩
 | frz ob u=>exact ⟨_,x.1⟩
 | tbl ps=>exact ⟨_,x⟩
 | met f y=>exact ⟨_,x⟩
 | ext φ=>exact x.2.1
section
variable {X:Cx}{pins:List (af×gi)}{Z:St}{H:Hp}{s:ar}
theorem Inv.RP {h':cm}{m:bu->Option aj}{t':Nat}{D:af}{ob:gi}{o:HO}(I:Inv X pins Z H s) (hm:s.heap.Ns X.env.locals m) (F:Fr X.base X.env.locals h' m)
  (N:News X.base X.env.locals h' ((D,ob)::uZ X.base s.heap X.env.locals)) (hD:∀ q∈uZ X.base s.heap X.env.locals,q.1<D) (new:fP X.prog X.w (upd H D o) h' D o):H D=none/\Inv X pins Z (upd H D o) { s with heap:=h',toks:=t' }:=by
 have nd:=N (D,ob) av
 have gD:s.heap.get? D=none:=by
  cases q:s.heap.get? D with
  | none=>rfl
  | some u=>exact absurd (hD (D,u) (Ae nd.2.1 nd.2.2 q)) (fu _)
 have hn:H D=none:=by
  cases q:H D with
  | none=>rfl
  | some u =>
   obtain ⟨w,e⟩:∃ w,s.heap.get? D=some w:=(I.fD D u q).obj;rw [gD] at e;cases e
 have k:∀ b o,b≠X.env.locals->s.heap.get? b=some o->h'.get? b=some o:=λb o h1 e=>by
  cases q:X.base.get? b with
  | some u =>
   have z:=I.bk b u q;rw [e] at z;cases z
   exact F.keep b _ q
  | none=>exact (N (b,o) (ak _ (Ae h1 q e))).1
 have nD:∀ b o,s.heap.get? b=some o->b≠D:=λb o e z=>by rw [z,gD] at e;cases e
 have hH:∀ b u,H b=some u->b≠D:=λb u e=>aR e hn
 refine ⟨hn,I.step (g':=s.gens) (d':=s.drawn) (ch:=[]) (λ_ z=>nomatch z) (λb o h1 _ _ e _=>k b o h1 e) (λb o h1 _ _ e _=>⟨o.slots,k b o h1 e⟩) (λb o _ e n=>by rw [aI (nD b o e)];exact n) (λb o _ e=>?_)
  (λb _ e=>by rw [aI (hH b _ e)];exact e) (λb _ _ e=>by rw [aI (hH b _ e)];exact e) (λb ps e=>⟨#[],by rw [aI (hH b _ e),e];simp⟩) (λm' hm'=>by rw [← Wc hm hm'];exact F.ns) (λb u e=>?_) I.bare⟩
 ·by_cases hb:b=X.env.locals
  ·subst hb;obtain ⟨o',_,_,e',_⟩:=F.ns;exact ⟨o',e'⟩
  ·exact ⟨o,k b o hb e⟩
 ·by_cases hb:b=D
  ·subst hb;rw [aG] at e;cases e;exact new
  ·rw [aI hb] at e
   refine (I.fD b u e).Bb (λc v hc q=>k c v ?_ q) (λc q=>by rw [aI (hH c _ q)];exact q) λc _ q=>by rw [aI (hH c _ q)];exact q
   rintro rfl
   rcases hc with hc|hc
   ·rw [← hc,I.free] at e;cases e
   ·rw [I.free] at hc;cases hc
end
theorem IU {α:Type} {p q:α->Bool}:∀ {l:List α}{x:α},(∀ y∈l,p y=true->q y=true)->x∈l->p x=false->q x=true->l.countP p<l.countP q
 | y::l,x,h,hx,h1,h2=>by
  have hl:∀ y∈l,p y=true->q y=true:=λy hy=>h y (ak _ hy);have hle:l.countP p<=l.countP q:=OG hl;rw [Vg,Vg]
  rcases ax.mp hx with e|hx
  ·subst e;rw [h1,h2];simp;lia
  ·have hlt:=IU hl hx h1 h2
   by_cases hp:p y=true
   ·rw [if_pos hp,if_pos (h y av hp)];lia
   ·rw [if_neg hp];lia
abbrev Zt:=Int×Int×af
def zP (z:Zt):Int×Int:=(z.1,z.2.1)
def j5 (z:Zt):V:=.ref z.2.2
def fH (H:Hp) (z:Zt):Prop:=H z.2.2=some (.tup [.int z.1,.int z.2.1])
section
variable {prog:a9}{w:bQ}{A:bY}{s:ar}
end
end L2
namespace L2
open PySem PySem.Spec PyProof.Rows PySem.W
theorem FK:∀ zs:List Zt,Vals (zs.map j5) (zs.map λz=>aF z.2.2)
 | []=>.nil
 | z::zs=>.cons rfl (FK zs)
section
variable {X:Cx}
end
section
variable {X:Cx}
end
end L2
namespace Zl
open PySem PySem.W PyProof.Rows
section
variable {prog:a9}{w:bQ}{A:bY}{E:aj->ar->Prop}{s:ar}{z TI TO i1 i2 l1 l2:af}{xs ys:Array aj}{k:Nat}
abbrev Ci (h:cm) (z TI TO T:af) (f:Bool):Prop:=h.get? z=some { cls:=.type "zip",dict:=none,data:=.fields #[cB T,.bool f,.bool false,.ref TI,.ref TO],slots:=#[] }
theorem IV {T:af}{f:Bool}{oT:gi}{Q:Bool->ar->Prop}(hz:Ci s.heap z TI TO T f) (hT:s.heap.get? T=some oT)
  (hQ:∀ h',Ci h' z TI TO T true->iL z s.heap h'->Q false { s with heap:=h' }):aK (aP prog w) A (gN (.ref z)) Q E s:=by
 unfold gN;refine ae (mv hz rfl (x:=cB T) rfl ?_);unfold cB;dsimp only;refine ae (kdx_alive (a:=T) hT ?_);simp only [OZ,bX,if_false];refine ae (mv hz rfl (x:=.bool f) rfl ?_)
 cases f with
 | true =>
  rw [if_neg (by decide)]
  exact aq (hQ s.heap hz ⟨rfl,λb hb=>rfl⟩)
 | false =>
  rw [if_pos (by decide)];exact ae (wpAny_setField_rec hz (by simp) λh' hz' hs'=>aq (hQ h' hz' hs'))
theorem Qe {T:af}{f:Bool}{oT:gi}{x y:aj}{Q:aj->ar->Prop}(D:Bh z TI TO i1 i2 l1 l2) (hz:Ci s.heap z TI TO T f) (hT:s.heap.get? T=some oT) (hTI:vI s.heap TI (.ref i1) (.ref i2))
  (h1:s.heap.IsListIter i1 l1 k) (h2:s.heap.IsListIter i2 l2 k) (hl1:s.heap.IsList l1 xs) (hl2:s.heap.IsList l2 ys) (hx:xs[k]?=some x) (hy:ys[k]?=some y)
  (hQ:∀ h',Ci h' z TI TO T true->h'.IsListIter i1 l1 (k+1)->h'.IsListIter i2 l2 (k+1)->vI h' s.heap.objs.size x y ->
   (∀ c o,c≠z->c≠i1->c≠i2->s.heap.get? c=some o->h'.get? c=some o)->Q (.ref s.heap.objs.size) { s with heap:=h' }) :
  aK (aP prog w) A (kg.«zip.__next__» ⟨[.ref z],[]⟩) (λfin s'=>∃ v,fin=.done (.ret v)/\Q v s') E s:=by
 show aK _ _ (field (.ref z) 2 >>= _) _ _ _
 refine ae (mv hz rfl (x:=.bool false) rfl ?_)
 show aK _ _ (field (.ref z) 3 >>= _) _ _ _
 refine ae (mv hz rfl (x:=.ref TI) rfl (ae (wpAny_seqItems hTI rfl ?_)))
 show aK _ _ (gN (.ref z) >>= _) _ _ _
 refine ae (IV hz hT λh₀ z₀ s₀=>?_);simp only [bX,if_false];refine ae ?_;rw [← Sd];simp only [vH,Ie];refine ae (ae (cF ?_))
 show aK _ _ (jT (.ref i1) >>= _) _ _ _
 refine ae (yO (s:={ s with heap:=h₀ }) (h1.extBut s₀.extBut D.i1z) (hl1.extBut s₀.extBut D.l1z) hx λh₁ j₁ s₁=>aq (aq ?_));refine ae (ae (cF ?_))
 show aK _ _ (jT (.ref i2) >>= _) _ _ _
 refine ae (yO (s:={ s with heap:=h₁ }) ((h2.extBut s₀.extBut D.i2z).extBut s₁.extBut D.i12.symm) ((hl2.extBut s₀.extBut D.l2z).extBut s₁.extBut D.l2i1) hy λh₂ j₂ s₂=>aq (aq (aq ?_)))
 have sz:h₂.objs.size=s.heap.objs.size:=by rw [s₂.1,s₁.1,s₀.1]
 have zz:Ci h₂ z TI TO T true:=s₂.extBut _ _ D.i2z.symm (s₁.extBut _ _ D.i1z.symm z₀);have kp:∀ c o,c≠z->c≠i1->c≠i2->s.heap.get? c=some o->h₂.get? c=some o:=λc o c1 c2 c3 e=>s₂.extBut _ _ c3 (s₁.extBut _ _ c2 (s₀.extBut _ _ c1 e));refine ae (Bi ?_ (by show 2<=aY;exact L2.bD (m:=2) (au 2)));refine aq ⟨_,rfl,?_⟩
 show Q (.ref h₂.objs.size) { s with heap:=h₂.push { cls:=.type "tuple",data:=.seq #[x,y] } }
 rw [sz];refine hQ _ (ao _ zz) ((Heap.IsListIter.extBut j₁ s₂.extBut D.i12).at λo e=>ao _ e) (j₂.at λo e=>ao _ e) (by rw [← sz];exact aN _ rfl) λc o c1 c2 c3 e=>ao _ (kp c o c1 c2 c3 e)
theorem Ts {T:af}{f:Bool}{oT:gi}{Q:KE->ar->Prop}(hh:A.handled=none) (D:Bh z TI TO i1 i2 l1 l2) (hz:Ci s.heap z TI TO T f) (hT:s.heap.get? T=some oT) (hTI:vI s.heap TI (.ref i1) (.ref i2))
  (h1:s.heap.IsListIter i1 l1 k) (h2:s.heap.IsListIter i2 l2 k) (hl1:s.heap.IsList l1 xs) (hl2:s.heap.IsList l2 ys) (hend:xs[k]?=none\/ys[k]?=none)
  (hE:∀ h' e,(∀ c o,c≠z->c≠i1->c≠i2->s.heap.get? c=some o->h'.get? c=some o)->(∃ o,h'.get? e=some o/\o.cls=.type "StopIteration")->E (.ref e) { s with heap:=h' }) :
  aK (aP prog w) A (kg.«zip.__next__» ⟨[.ref z],[]⟩) Q E s:=by
 show aK _ _ (field (.ref z) 2 >>= _) _ _ _
 refine ae (mv hz rfl (x:=.bool false) rfl ?_)
 show aK _ _ (field (.ref z) 3 >>= _) _ _ _
 refine ae (mv hz rfl (x:=.ref TI) rfl (ae (wpAny_seqItems hTI rfl ?_)))
 show aK _ _ (gN (.ref z) >>= _) _ _ _
 refine ae (IV hz hT λh₀ z₀ s₀=>?_);simp only [bX,if_false];refine ae ?_;rw [← Sd];simp only [vH,Ie];refine ae (ae (cF ?_))
 show aK _ _ (jT (.ref i1) >>= _) _ _ _
 cases hx:xs[k]? with
 | none=>exact ae (Vh (s:={ s with heap:=h₀ }) hh (h1.extBut s₀.extBut D.i1z) (hl1.extBut s₀.extBut D.l1z) hx λh₁ e s₁ he=>hE h₁ e (λc o c1 c2 c3 q=>s₁ _ _ c2 (s₀.extBut _ _ c1 q)) he)
 | some x =>
  have hy:ys[k]?=none:=by rcases hend with q|q;rw [hx] at q;cases q;exact q
  refine ae (yO (s:={ s with heap:=h₀ }) (h1.extBut s₀.extBut D.i1z) (hl1.extBut s₀.extBut D.l1z) hx λh₁ j₁ s₁=>aq (aq ?_));refine ae (ae (cF ?_))
  show aK _ _ (jT (.ref i2) >>= _) _ _ _
  exact ae (Vh (s:={ s with heap:=h₁ }) hh ((h2.extBut s₀.extBut D.i2z).extBut s₁.extBut D.i12.symm) ((hl2.extBut s₀.extBut D.l2z).extBut s₁.extBut D.l2i1) hy λh₂ e s₂ he =>
   hE h₂ e (λc o c1 c2 c3 q=>s₂ _ _ c3 (s₁.extBut _ _ c2 (s₀.extBut _ _ c1 q))) he)
structure ZS (h:cm) (z TI TO i1 i2 l1 l2 S:af) (xs ys:Array aj) (k:Nat):Prop where
 zz:(k=0/\IsZip h z TI TO .none/\∃ a b,vI h TO a b)\/∃ T f oT,Ci h z TI TO T f/\h.get? T=some oT/\T≠z/\T≠i1/\T≠i2/\T≠S
 ti:vI h TI (.ref i1) (.ref i2)
 a1:h.IsListIter i1 l1 k
 a2:h.IsListIter i2 l2 k
 b1:h.IsList l1 xs
 b2:h.IsList l2 ys
structure Off (z TI TO i1 i2 l1 l2 S:af):Prop where
 z:z≠S
 ti:TI≠S
 to:TO≠S
 i1:i1≠S
 i2:i2≠S
 l1:l1≠S
 l2:l2≠S
theorem ZS.keep {h h':cm}{S:af}(x:ZS h z TI TO i1 i2 l1 l2 S xs ys k) (O:Off z TI TO i1 i2 l1 l2 S) (hk:∀ b o,b≠S->h.get? b=some o->h'.get? b=some o):ZS h' z TI TO i1 i2 l1 l2 S xs ys k where
 zz:=by
  rcases x.zz with ⟨e,hz,a,b,hp⟩|⟨T,f,oT,hz,hT,n1,n2,n3,n4⟩
  ·exact .inl ⟨e,hk _ _ O.z hz,a,b,hk _ _ O.to hp⟩
  ·exact .inr ⟨T,f,oT,hk _ _ O.z hz,hk _ _ n4 hT,n1,n2,n3,n4⟩
 ti:=hk _ _ O.ti x.ti
 a1:=x.a1.at λo e=>hk _ o O.i1 e
 a2:=x.a2.at λo e=>hk _ o O.i2 e
 b1:=x.b1.at λo e=>hk _ o O.l1 e
 b2:=x.b2.at λo e=>hk _ o O.l2 e
theorem ZS.item {S:af}{x y:aj}{Q:Option aj->ar->Prop}(D:Bh z TI TO i1 i2 l1 l2) (st:ZS s.heap z TI TO i1 i2 l1 l2 S xs ys k) (hS:S<s.heap.objs.size) (hx:xs[k]?=some x) (hy:ys[k]?=some y)
  (hQ:∀ h',ZS h' z TI TO i1 i2 l1 l2 S xs ys (k+1)->vI h' s.heap.objs.size x y->(∀ c o,c≠z->c≠TO->c≠i1->c≠i2->s.heap.get? c=some o->h'.get? c=some o)->Q (some (.ref s.heap.objs.size)) { s with heap:=h' }) :
  aK (aP prog w) A (jQ (.ref z)) Q E s:=by
 have lt1:i1<s.heap.objs.size:=by obtain ⟨_,e,_⟩:=st.a1;exact aL e
 have lt2:i2<s.heap.objs.size:=by obtain ⟨_,e,_⟩:=st.a2;exact aL e
 rcases st.zz with ⟨e,hz,a,b,hp⟩|⟨T,f,oT,hz,hT,n1,n2,n3,n4⟩
 ·refine wpAny_pyNext_zip_item D hz st.ti hp st.a1 st.a2 st.b1 st.b2 hx hy λh' q1 q2 q3 q4 q5 q6 q7=>?_;refine hQ h' ⟨.inr ⟨_,false,_,q1,q5,eD (aL hz),eD lt1,eD lt2,eD hS⟩,q7 _ _ D.TIz D.TITO D.TIi1 D.TIi2 st.ti,q3,q4,st.b1.at λo e=>q7 _ o D.l1z D.l1TO D.l1i1 D.l1i2 e,st.b2.at λo e=>q7 _ o D.l2z D.l2TO D.l2i1 D.l2i2 e⟩ q5 q7
 ·have ty:s.TypeIs (.ref z) "zip":=⟨_,hz,rfl⟩
  unfold jQ
  refine ae (i4 (dH (name:=iN "__next__") ty F.slot_zip_next (cW F.slot_zip_next ty F.entry_zip_next
   (Qe D hz hT st.ti st.a1 st.a2 st.b1 st.b2 hx hy λh' q1 q3 q4 q5 q7=>aq ?_) (F.args_zip_next_1 _))))
  refine hQ h' ⟨.inr ⟨T,true,oT,q1,q7 _ _ n1 n2 n3 hT,n1,n2,n3,n4⟩,q7 _ _ D.TIz D.TIi1 D.TIi2 st.ti,q3,q4,st.b1.at λo e=>q7 _ o D.l1z D.l1i1 D.l1i2 e,st.b2.at λo e=>q7 _ o D.l2z D.l2i1 D.l2i2 e⟩ q5 λc o c1 _ c3 c4 e=>q7 c o c1 c3 c4 e
theorem ZS.done {S:af}{Q:Option aj->ar->Prop}(hh:A.handled=none) (D:Bh z TI TO i1 i2 l1 l2) (st:ZS s.heap z TI TO i1 i2 l1 l2 S xs ys k) (hend:xs[k]?=none\/ys[k]?=none)
  (hQ:∀ h',(∀ c o,c≠z->c≠TO->c≠i1->c≠i2->s.heap.get? c=some o->h'.get? c=some o)->Q none { s with heap:=h' }):aK (aP prog w) A (jQ (.ref z)) Q E s:=by
 rcases st.zz with ⟨e,hz,a,b,hp⟩|⟨T,f,oT,hz,hT,n1,n2,n3,n4⟩
 ·exact wpAny_pyNext_zip_end hh D hz st.ti hp st.a1 st.a2 st.b1 st.b2 hend hQ
 ·have ty:s.TypeIs (.ref z) "zip":=⟨_,hz,rfl⟩
  unfold jQ
  refine ae (i4 (dH (name:=iN "__next__") ty F.slot_zip_next (cW F.slot_zip_next ty F.entry_zip_next
   (Ts hh D hz hT st.ti st.a1 st.a2 st.b1 st.b2 hend λh' e hk he=>?_) (F.args_zip_next_1 _))))
  obtain ⟨o,ho,hc⟩:=he;exact ae (mX (T:="StopIteration") (b:=true) ⟨o,ho,hc⟩ Bj (aq (hQ _ λc o c1 _ c3 c4 q=>hk c o c1 c3 c4 q)))
structure Made (h:cm) (lo:af) (xs ys:Array aj) (as:List af):Prop where
 up:as.Pairwise (· < ·)
 lo:∀ a∈as,lo<a
 pr:∀ (j:Nat) (a:af),as[j]?=some a->∃ x y,xs[j]?=some x/\ys[j]?=some y/\vI h a x y
theorem KU {S n:Nat}{R:Fl->ar->Prop}(hh:A.handled=none) (D:Bh z TI TO i1 i2 l1 l2) (O:Off z TI TO i1 i2 l1 l2 S) (hn:min xs.size ys.size=n) (hn2:n<=100000) (res:aj) (lo:af) (hlo:z<=lo/\TO<=lo/\i1<=lo/\i2<=lo/\S<=lo) {h₀:cm}
  (hR:∀ h' tk acc c as,(∀ b o,b≠S->b≠z->b≠TO->b≠i1->b≠i2->h₀.get? b=some o->h'.get? b=some o)->h'.get? S=some { cls:=.type "list",dict:=none,data:=.seq acc c,slots:=#[] }->acc.toList=as.map aF->as.length=n->Made h' lo xs ys as->R (.ok (.ret res)) { s with heap:=h',toks:=tk }) :
  ∀ (m i:Nat) (h:cm) (tk c:Nat) (acc:Array aj) (as:List af),n-i=m->i<=n->ZS h z TI TO i1 i2 l1 l2 S xs ys i->(∀ b o,b≠S->b≠z->b≠TO->b≠i1->b≠i2->h₀.get? b=some o->h.get? b=some o) ->
   h.get? S=some { cls:=.type "list",dict:=none,data:=.seq acc c,slots:=#[] }->acc.toList=as.map aF->as.length=i->Made h lo xs ys as->lo<h.objs.size ->
   kU (aP prog w) A (.builtin "list.extend.loop" ⟨[.ref S,.ref z,res],[]⟩) R { s with heap:=h,toks:=tk }:=by
 intro m
 induction m with
 | zero =>
  intro i h tk c acc as hm hi st kp hS hacc hal hM hlh
  have ei:i=n:=by lia
  subst ei;refine gX Gc ?_;rw [eG eQ _]
  show aK _ A.in1 (jQ (.ref z) >>= _) _ _ _
  have hend:xs[i]?=none\/ys[i]?=none:=by
   by_cases q:xs.size<=i
   ·exact .inl (j8 q)
   ·exact .inr (j8 (by lia))
  refine ae (ZS.done (s:={ s with heap:=h,toks:=tk }) (A:=A.in1) hh D st hend λh' he=>?_);refine aq (hR h' tk acc c as (λb o b1 b2 b3 b4 b5 e=>he b o b2 b3 b4 b5 (kp b o b1 b2 b3 b4 b5 e)) (he S _ (Ne.symm O.z) (Ne.symm O.to) (Ne.symm O.i1) (Ne.symm O.i2) hS) hacc hal ⟨hM.up,hM.lo,λj a hj=>?_⟩);obtain ⟨x,y,q1,q2,q3⟩:=hM.pr j a hj;have far:∀ {b:af},b<=lo->a≠b:=λhb=>eD (bI hb (hM.lo a (aW hj)))
  exact ⟨x,y,q1,q2,he a _ (far hlo.1) (far hlo.2.1) (far hlo.2.2.1) (far hlo.2.2.2.1) q3⟩
 | succ m ih =>
  intro i h tk c acc as hm hi st kp hS hacc hal hM hlh
  have hlt:i<n:=by lia
  obtain ⟨x,hx⟩:∃ x,xs[i]?=some x:=⟨_,cf (by lia)⟩
  obtain ⟨y,hy⟩:∃ y,ys[i]?=some y:=⟨_,cf (by lia)⟩
  refine gX Gc ?_;rw [eG eQ _]
  show aK _ A.in1 (jQ (.ref z) >>= _) _ _ _
  refine ae (ZS.item (s:={ s with heap:=h,toks:=tk }) (A:=A.in1) D st (aL hS) hx hy λh' st' hp kk=>?_);have hS':=kk S _ (Ne.symm O.z) (Ne.symm O.to) (Ne.symm O.i1) (Ne.symm O.i2) hS
  have hsz:acc.size=i:=by rw [← aO,hacc,ag,hal]
  show aK _ A.in1 (xn S (·.push (aF h.objs.size)) >>= _) _ _ _
  refine ae (lu hS' rfl (aq ⟨ik eQ _,?_⟩) (by rw [hsz];exact L2.bD (m:=100000) (by lia)) (by rw [jf,hsz];exact Vi (L2.bD (m:=100000) (by lia))));have oth:∀ b o,b≠S->h'.get? b=some o->(h'.update S (bC (·.push (aF h.objs.size)))).get? b=some o:=λb o hb e=>(a0 _ _ (Ne.symm hb)).trans e;have hnS:h.objs.size≠S:=eD (aL hS);refine ih (i+1) _ tk _ (acc.push (aF h.objs.size)) (as++[h.objs.size]) (by lia) hlt (st'.keep O oth) (λb o b1 b2 b3 b4 b5 e=>oth b o b1 (kk b o b2 b3 b4 b5 (kp b o b1 b2 b3 b4 b5 e))) (bE _ hS' rfl) (by rw [Bk,hacc,aT];rfl) (by rw [bq,hal];rfl) ⟨?_,λa ha=>?_,λj a hj=>?_⟩ ?_
  ·refine ie.mpr ⟨hM.up,tW _ _,λa ha b hb=>?_⟩;rw [aA.mp hb];obtain ⟨j,hj⟩:=bF.mp ha;obtain ⟨_,_,_,_,q⟩:=hM.pr j a hj;exact aL q
  ·rcases aQ.mp ha with q|q
   ·exact hM.lo a q
   ·rw [aA.mp q];exact hlh
  ·by_cases q:j<as.length
   ·rw [eX q] at hj;obtain ⟨x',y',q1,q2,q3⟩:=hM.pr j a hj;have far:∀ {b:af},b<=lo->a≠b:=λhb=>eD (bI hb (hM.lo a (aW hj)));exact ⟨x',y',q1,q2,oth a _ (far hlo.2.2.2.2) (kk a _ (far hlo.1) (far hlo.2.1) (far hlo.2.2.1) (far hlo.2.2.2.1) q3)⟩
   ·rw [eK (by lia)] at hj
    have ej:j-as.length=0:=by
     by_cases w:j-as.length=0
     ·exact w
     ·rw [dA (by simp;lia)] at hj;cases hj
    rw [ej] at hj
    have ea:h.objs.size=a:=by simpa using hj
    have ej':j=i:=by lia
    subst ea ej';exact ⟨x,y,hx,hy,oth _ _ hnS hp⟩
  ·rw [tX];exact br hlh (ki (aL hp))
theorem La:Fn (.type "zip") "__len__"=pure none:=by rw [nW,jl];kernel_rfl
theorem Tu:Fn (.type "zip") "__length_hint__"=pure none:=by rw [nW,jl];kernel_rfl
theorem Lb {Q:Bool->ar->Prop}(ty:s.TypeIs (.ref z) "zip") (h:Q true s):aK (aP prog w) A (fo (.ref z)) Q E s:=by
 unfold fo;refine ae (si ty La ?_);refine ae (si ty Tu ?_);exact aq h
theorem Lc {S c₀ n:Nat} {R:Fl->ar->Prop}{va vb:aj}(hh:A.handled=none) (D:Bh z TI TO i1 i2 l1 l2) (O:Off z TI TO i1 i2 l1 l2 S) (hn:min xs.size ys.size=n) (hn2:n<=100000) (res:aj) (hz:IsZip s.heap z TI TO .none) (hTO:vI s.heap TO va vb)
  (st:ZS s.heap z TI TO i1 i2 l1 l2 S xs ys 0) (hS:s.heap.get? S=some { cls:=.type "list",data:=.seq #[] c₀ })
  (hR:∀ h' tk acc c as,(∀ b o,b≠S->b≠z->b≠TO->b≠i1->b≠i2->s.heap.get? b=some o->h'.get? b=some o)->h'.get? S=some { cls:=.type "list",dict:=none,data:=.seq acc c,slots:=#[] }->acc.toList=as.map aF->as.length=n->Made h' (s.heap.objs.size-1) xs ys as->R (.ok (.ret res)) { s with heap:=h',toks:=tk }) :
  aK (aP prog w) A.in1 (c8 (.ref S) (.ref z) res) (λfin s'=>match fin with | .done f=>R (.ok f) s' | .again c'=>c'.quiet=true/\kU (aP prog w) A c' R s') (λe s'=>R (.error e) s') s:=by
 have ty:s.TypeIs (.ref z) "zip":=⟨_,hz,rfl⟩
 have lts:∀ {b:af}{o:gi},s.heap.get? b=some o->b<=s.heap.objs.size-1:=λe=>Nat.le_sub_one_of_lt (aL e)
 have lt1:i1<=s.heap.objs.size-1:=by obtain ⟨_,e,_⟩:=st.a1;exact lts e
 have lt2:i2<=s.heap.objs.size-1:=by obtain ⟨_,e,_⟩:=st.a2;exact lts e
 have pos:0<s.heap.objs.size:=bI (aJ _) (aL hz)
 have key:∀ (h:cm) (c₁ tk:Nat),h.objs.size=s.heap.objs.size->(∀ b o,b≠S->s.heap.get? b=some o->h.get? b=some o)->h.get? S=some { cls:=.type "list",data:=.seq #[] c₁ } ->
   kU (aP prog w) A (.builtin "list.extend.loop" ⟨[.ref S,.ref z,res],[]⟩) R { s with heap:=h,toks:=tk }:=λh c₁ tk hsz kp hS₁ =>
  KU (h₀:=s.heap) hh D O hn hn2 res (s.heap.objs.size-1) ⟨lts hz,lts hTO,lt1,lt2,lts hS⟩ hR n 0 h tk c₁ #[] [] rfl (aJ _) (st.keep O kp) (λb o b1 _ _ _ _ e=>kp b o b1 e) hS₁ rfl rfl ⟨pS,(λa ha=>nomatch ha),λj a hj=>by simp at hj⟩ (by rw [hsz];exact Nat.sub_lt pos (by decide))
 unfold c8;refine ae (yM (T:="zip") ty ?_)
 have e1:gf (.ref S) (.ref z)=false:=by simp [gf,Ne.symm O.z]
 have e2:(dM "zip" == dM "list")=false:=by decide
 have e3:(dM "zip" == dM "tuple")=false:=by decide
 simp only [e1,e2,e3,KF,bX,if_false];refine ae (wpAny_pyIter_zip hz (ae (cF (Lb ty ?_))));refine jE (λ_=>ae (iM (ae ?_))) (λ_=>aq ⟨ik eQ _,key _ c₀ _ rfl (λb o _ e=>e) hS⟩)
 show aK _ _ (xn S (·.push .none) >>= λ_=>xn S (·.pop)) _ _ _
 have g₂:=bE (bC (·.push eJ)) hS rfl;have g₃:=bE (bC (·.pop)) g₂ rfl;refine ae (lu hS rfl (lu (hz:=by seq_fits) g₂ rfl (aq ⟨ik eQ _,key _ _ _ ?_ (λb o hb e=>?_) g₃⟩)))
 ·rw [tX,tX]
 ·exact (a0 _ _ (Ne.symm hb)).trans ((a0 _ _ (Ne.symm hb)).trans e)
theorem zb {n:Nat}{Q:aj->ar->Prop}{va vb:aj}(hh:A.handled=none) (D:Bh z TI TO i1 i2 l1 l2) (hn:min xs.size ys.size=n) (hn2:n<=100000) (hz:IsZip s.heap z TI TO .none) (hTO:vI s.heap TO va vb) (hTI:vI s.heap TI (.ref i1) (.ref i2))
  (a1:s.heap.IsListIter i1 l1 0) (a2:s.heap.IsListIter i2 l2 0) (b1:s.heap.IsList l1 xs) (b2:s.heap.IsList l2 ys)
  (hQ:∀ h' tk acc c as,(∀ b o,b≠z->b≠TO->b≠i1->b≠i2->s.heap.get? b=some o->h'.get? b=some o)->h'.get? s.heap.objs.size=some { cls:=.type "list",dict:=none,data:=.seq acc c,slots:=#[] }->acc.toList=as.map aF->as.length=n->Made h' s.heap.objs.size xs ys as->Q (.ref s.heap.objs.size) { s with heap:=h',toks:=tk }) :
  aK (aP prog w) A (call (.type "list") [.ref z]) Q E s:=by
 refine callType_codes (Q₁:=λobj s₁=>obj=.ref s.heap.objs.size/\s₁={ s with heap:=s.heap.push { cls:=.type "list",data:=.seq #[] } }) PySem.F.called_list (PySem.F.typeCall_list_1 _) PySem.F.entry_list_init (code_list_new _ ⟨rfl,rfl⟩) ?_;rintro obj s₁ ⟨rfl,rfl⟩;have hS:(s.heap.push { cls:=.type "list",data:=.seq #[] }).get? s.heap.objs.size=some { cls:=.type "list",data:=.seq #[] }:=aN _ rfl;refine ⟨⟨_,hS,rfl⟩,PySem.F.args_list_init_2 _ _,?_⟩;have ne:∀ {b:af}{o:gi},s.heap.get? b=some o->b≠s.heap.objs.size:=λe=>bf (aL e)
 have O:Off z TI TO i1 i2 l1 l2 s.heap.objs.size:=⟨ne hz,ne hTI,ne hTO,by obtain ⟨_,e,_⟩:=a1;exact ne e,by obtain ⟨_,e,_⟩:=a2;exact ne e,by obtain ⟨_,e,_⟩:=b1;exact ne e,by obtain ⟨_,e,_⟩:=b2;exact ne e⟩
 show aK _ _ (do let old ← rL (.ref s.heap.objs.size);gO (.ref s.heap.objs.size) (λ_=>#[]);letGo old.toList.reverse;c8 (.ref s.heap.objs.size) (.ref z) .none) _ _ _
 refine ae (yP hS rfl (ae (lA hS rfl (ae (KG ?_)) (aJ _) (aJ _))));have g₂:=bE (bC (λ_=>(#[]:Array aj))) hS rfl;have kp:∀ b o,s.heap.get? b=some o->((s.heap.push { cls:=.type "list",data:=.seq #[] }).update s.heap.objs.size (bC (λ_=>(#[]:Array aj)))).get? b=some o:=λb o e=>(a0 _ _ (Ne.symm (ne e))).trans (ao _ e)
 have sz:((s.heap.push { cls:=.type "list",data:=.seq #[] }).update s.heap.objs.size (bC (λ_=>(#[]:Array aj)))).objs.size-1=s.heap.objs.size:=by rw [tX,ib];rfl
 refine Lc (s:={ s with heap:=(s.heap.push { cls:=.type "list",data:=.seq #[] }).update s.heap.objs.size (bC (λ_=>(#[]:Array aj))) }) (A:=A.in1) hh D O hn hn2 .none (kp _ _ hz) (kp _ _ hTO) ⟨.inl ⟨rfl,kp _ _ hz,_,_,kp _ _ hTO⟩,kp _ _ hTI,a1.at λo e=>kp _ o e,a2.at λo e=>kp _ o e,b1.at λo e=>kp _ o e,b2.at λo e=>kp _ o e⟩ g₂ λh' tk acc c as k1 k2 k3 k4 k5=>?_;have k5':Made h' s.heap.objs.size xs ys as:=sz▸k5;exact ⟨rfl,hQ h' tk acc c as (λb o c1 c2 c3 c4 e=>k1 b o (ne e) c1 c2 c3 c4 (kp b o e)) k2 k3 k4 k5'⟩
end
end Zl
namespace L2
open PySem PySem.Spec PyProof.Rows PySem.W
section
variable {X:Cx}{pins:List (af×gi)}{Z:St}{H H':Hp}{s:ar}
theorem Inv.grow {h':cm}{t':Nat}(I:Inv X pins Z H s) (k:∀ b u,s.heap.get? b=some u->h'.get? b=some u) (sub:b8 H H') (new:∀ b,b<s.heap.objs.size->H b=none->H' b=none) (ok:tS X.prog X.w H' h'):Inv X pins Z H' { s with heap:=h',toks:=t' } :=
 I.un ⟨λb o e _ _ _=>k b o e,λb o e _ _ _=>⟨o.slots,k b o e⟩,λb o e n _=>new b (aL e) n,λb o e _=>⟨o,k b o e⟩,λb _ e=>sub _ _ e,λb _ _ e=>sub _ _ e,λb ps e=>⟨#[],by rw [sub _ _ e];simp⟩⟩ ok
end
def Ea (H:Hp) (zs:List Zt):Hp:=λb=>match zs.find? (λz=>z.2.2 == b) with|some z=>some (.tup [.int z.1,.int z.2.1])|none=>H b
theorem Qg {H:Hp}{zs:List Zt}{b:af}(h:∀ z∈zs,z.2.2≠b):Ea H zs b=H b:=by
 unfold Ea;rw [Sz.mpr λz hz=>by simpa using h z hz]
theorem IW {H:Hp}:∀ {zs:List Zt}{z:Zt},(zs.map λz=>z.2.2).Nodup->z∈zs->Ea H zs z.2.2=some (.tup [.int z.1,.int z.2.1])
 | y::zs,z,hn,hz=>by
  unfold Ea;rw [bT,bA] at hn
  rcases ax.mp hz with e|hz
  ·subst e;rw [List.find?_cons_of_pos (by simp)]
  ·have hne:¬ (y.2.2 == z.2.2)=true:=λq=>hn.1 (by
    have e:y.2.2=z.2.2:=by simpa using q
    rw [e];exact bp hz)
   rw [List.find?_cons_of_neg (p:=λw:Zt=>w.2.2 == z.2.2) hne];exact IW hn.2 hz
def Qh (K:aa) (t:TA):TE:=λZ H Q=>t Z H λvs H1=>∃ (a b:af) (ns ms:List Int),vs=[.ref a,.ref b]/\de K H1 a (ns.map V.int)/\de K H1 b (ms.map V.int)/\ns.length<=100000 /\
 ∀ (l:af) (zs:List Zt) (H2:Hp),b8 H1 H2->H1 l=none->H2 l=some (.lst (zs.map j5))->(∀ z∈zs,fH H2 z)->zs.map zP=ns.zip ms->Q (.ref l) H2
theorem Gv:∀ {vs:List aj}{ns:List Int}{j:Nat}{v:aj},fR vs ns->vs[j]?=some v->∃ i t,ns[j]?=some i/\v=.int i t
 | _,_,0,v,.cons n t r,e=>by simp at e;exact ⟨n,t,rfl,e.symm⟩
 | _,_,j+1,v,.cons n t r,e=>Gv (j:=j) r (by simpa using e)
 | _,_,j,v,.nil,e=>by simp at e
theorem Qi {h:cm}{lo:af}{xs ys:List aj}{ns ms:List Int}(hx:fR xs ns) (hy:fR ys ms):∀ {as:List af},(∀ (j:Nat) (a:af),as[j]?=some a->∃ x y,xs.toArray[j]?=some x/\ys.toArray[j]?=some y/\vI h a x y)->as.length=min ns.length ms.length ->
  ∃ zs:List Zt,zs.map (λz=>z.2.2)=as/\zs.map zP=ns.zip ms/\∀ z∈zs,∃ t u,vI h z.2.2 (.int z.1 t) (.int z.2.1 u):=by
 intro as hp hl;have hlx:=hx.length;have hly:=hy.length;refine ⟨(ns.zip ms).zipWith (λt a=>(t.1,t.2,a)) as,?_,?_,λz hz=>?_⟩
 ·apply nX
  intro j;rw [aD,wc]
  by_cases hj:j<as.length
  ·rw [aC hj,aC (by rw [vJ];lia)];rfl
  ·rw [dA (pG hj)];cases (ns.zip ms)[j]?<;>rfl
 ·apply nX
  intro j;rw [aD,wc]
  by_cases hj:j<as.length
  ·rw [aC hj,aC (by rw [vJ];lia)];rfl
  ·rw [dA (pG hj),dA (by rw [vJ];lia)];rfl
 ·obtain ⟨j,hj⟩:=bF.mp hz;rw [wc] at hj
  cases ea:as[j]? with
  | none =>
   rw [ea] at hj
   cases ew:(ns.zip ms)[j]? with
   | none=>rw [ew] at hj;cases hj
   | some w=>rw [ew] at hj;cases hj
  | some a =>
   obtain ⟨x,y,q1,q2,q3⟩:=hp j a ea;obtain ⟨i,t,e1,rfl⟩:=Gv (j:=j) hx (by simpa using q1);obtain ⟨i',u,e2,rfl⟩:=Gv (j:=j) hy (by simpa using q2)
   have ez:(ns.zip ms)[j]?=some (i,i'):=by rw [sA];exact ⟨e1,e2⟩
   rw [ea,ez] at hj;have:z=(i,i',a):=(a7 hj).symm;subst this;exact ⟨t,u,q3⟩
section
variable {X:Cx}{x y:Expr}{t:TA}{p1 p2 q1 q2:oZ}
theorem Tv (hc:X.calm=true) (hgl:Gl X "list") (hml:X.mg "list"=none) (hgz:Gl X "zip") (hmz:X.mg "zip"=none) (ha:PA X [x,y] t)
  (he:bR [.Call (.Name "zip" p1) [x,y] [] p2] X.env=[(false,gM (.Call (.Name "zip" p1) [x,y] [] p2) X.env)]:=by rfl) (he2:bR [x,y] X.env=(false,gM x X.env)::bR [y] X.env:=by rfl) (hpl:(jx p2 (bR [y] X.env)).any (·.1)=false:=by rfl) :
  PE X (.Call (.Name "list" q1) [.Call (.Name "zip" p1) [x,y] [] p2] [] q2) (Qh X.K t):=by
 intro pins s Z H Q I h;refine eW (pU I hgl hml BootT.list (dP ?_ he rfl));rw [he]
 show aK _ _ (Uk ((false,gM (.Call (.Name "zip" p1) [x,y] [] p2) X.env)::jx q2 (bR [] X.env))) _ _ s
 refine j7 (eW (pU I hgz hmz BootT.zip (dP (iG (ha p2 pins s Z H _ I h) λus s1 ⟨vs,H1,I1,r1,q⟩=>?_) he2 hpl)));obtain ⟨a,b,ns,ms,rfl,hA,hB,hle,k⟩:=q;obtain ⟨u,v,rfl,ru,rv⟩:=vals2 r1;cases ru;cases rv;obtain ⟨xs,vx,px,_⟩:=I1.list hA;obtain ⟨ys,vy,py,_⟩:=I1.list hB;have ix:=intsAre_of vx;have iy:=intsAre_of vy;have lx:=ix.length;have ly:=iy.length
 have al:a<s1.heap.objs.size:=by obtain ⟨_,e,_⟩:=px.isList;exact aL e
 have bl:b<s1.heap.objs.size:=by obtain ⟨_,e,_⟩:=py.isList;exact aL e
 refine call_zip_2 px.isList py.isList λh' hz hTI hTO j1 j2 hsz hk=>nN ?_;refine Zl.zb (s:={ s1 with heap:=h' }) (n:=min ns.length ms.length) (I1.ok.hd hc) (zipApart_new al bl) (by rw [aM,aM,lx,ly]) (by lia) hz hTO hTI j1 j2 (px.isList.at λo e=>hk _ o e) (py.isList.at λo e=>hk _ o e) λh2 tk acc c as k1 k2 k3 k4 k5=>?_;obtain ⟨zs,e1,e2,e3⟩:=Qi (lo:=0) ix iy k5.pr k4
 have old:∀ b o,s1.heap.get? b=some o->h2.get? b=some o:=λb o e=>by
  have hb:=aL e;refine k1 b o (bf (br hb (iP _ _))) (bf (br hb (iP _ _))) (bf hb) (bf (br hb (iP _ _))) (hk b o e)
 have up:∀ z∈zs,h'.objs.size<z.2.2:=λz hz=>k5.lo _ (by rw [← e1];exact bp hz);have hs5:h'.objs.size=s1.heap.objs.size+5:=hsz
 have nd:(zs.map λz=>z.2.2).Nodup:=by rw [e1];exact k5.up.imp λq=>bf q
 have far:∀ z∈zs,∀ b:af,b<s1.heap.objs.size->z.2.2≠b:=λz hz b hb=>eD (OF (br hb (by rw [hs5];exact iP _ _)) (up z hz));have lf:∀ b:af,b<s1.heap.objs.size->b≠h'.objs.size:=λb hb=>bf (br hb (by rw [hs5];exact iP _ _))
 have hold:∀ b:af,b<s1.heap.objs.size->upd (Ea H1 zs) h'.objs.size (.lst (zs.map j5)) b=H1 b:=λb hb=>by rw [aI (lf b hb),Qg λz hz=>far z hz b hb]
 have S:b8 H1 (upd (Ea H1 zs) h'.objs.size (.lst (zs.map j5))):=λb o e=>by rw [hold b (I1.fD.lt e)];exact e
 have hpair:∀ z∈zs,fH (upd (Ea H1 zs) h'.objs.size (.lst (zs.map j5))) z:=λz hz=>by
  show upd (Ea H1 zs) h'.objs.size (.lst (zs.map j5)) z.2.2=_
  rw [aI (eD (up z hz))];exact IW nd hz
 have hlz:zs.length<=100000:=by
  have:=congrArg df e2;rw [ag,vJ] at this;lia
 have I2:Inv X pins Z (upd (Ea H1 zs) h'.objs.size (.lst (zs.map j5))) { s1 with heap:=h2,toks:=tk }:=I1.grow old S (λb hb n=>by rw [hold b hb];exact n) λb o e=>by
  by_cases hb:b<s1.heap.objs.size
  ·rw [hold b hb] at e;exact (I1.fD b o e).Bb (λc v _ q=>old c v q) (λc q=>S _ _ q) λc _ q=>S _ _ q
  ·by_cases hl:b=h'.objs.size
   ·subst hl;rw [aG] at e;cases e;refine ⟨by rw [ag];exact bD hlz,acc.toList,c,?_,by rw [Array.toArray_toList];exact k2⟩;rw [k3,← e1,bN];exact FK zs
   ·rw [aI hl] at e;unfold Ea at e
    cases w:zs.find? (λz=>z.2.2 == b) with
    | none =>
     rw [w] at e;have e:H1 b=some o:=e;rw [I1.fD.fresh (pG hb)] at e
     cases e
    | some z =>
     rw [w] at e;cases e;have hz':=Kt w
     have eb:z.2.2=b:=by simpa using W6 w
     subst eb;obtain ⟨t,u,hp⟩:=e3 z hz';exact ⟨bD (m:=2) (au 2),[.int z.1 t,.int z.2.1 u],.cons ⟨t,rfl⟩ (.cons ⟨u,rfl⟩ .nil),⟨_,hp,rfl,_,rfl⟩⟩
 exact ⟨.ref h'.objs.size,_,I2,rfl,k _ zs _ S (I1.fD.fresh (by rw [hs5];exact iP _ _)) aG hpair e2⟩
theorem We {K:aa}{t:TA}{Z:St}{H:Hp}{Q:VK}(h:t Z H λvs H1=>∃ (a b:af) (ns ms:List Int),vs=[.ref a,.ref b]/\de K H1 a (ns.map V.int)/\de K H1 b (ms.map V.int)/\ns.length<=100000 /\
 ∀ (l:af) (zs:List Zt) (H2:Hp),b8 H1 H2->H1 l=none->H2 l=some (.lst (zs.map j5))->(∀ z∈zs,fH H2 z)->zs.map zP=ns.zip ms->Q (.ref l) H2):Qh K t Z H Q:=h
end
end L2
namespace L2
open PySem PySem.Spec PyProof.Rows PySem.W
def z4 (h:cm) (d:af) (ks:List aj) (ep:Nat):Prop:=∃ o es,h.get? d=some o/\o.ExactDict/\o.data=.dict es ep/\es.toList.map (·.key)=ks
theorem z4.at {h h':cm}{d:af}{ks:List aj}{ep:Nat}(x:z4 h d ks ep) (k:∀ o,h.get? d=some o->h'.get? d=some o):z4 h' d ks ep :=
 let ⟨o,es,e,r⟩:=x;⟨o,es,k o e,r⟩
theorem z4.lt {h:cm}{d:af}{ks:List aj}{ep:Nat}(x:z4 h d ks ep):d<h.objs.size:=let ⟨_,_,e,_⟩:=x;aL e
section
variable {prog:a9}{w:bQ}{A:bY}{E:aj->ar->Prop}{s:ar}{d it:af}{ks:List aj}{ep i:Nat}
theorem z4.typeIs (x:z4 s.heap d ks ep):s.TypeIs (.ref d) "dict":=let ⟨o,_,e,c,_⟩:=x;⟨o,e,c.1⟩
theorem Cj {Q:aj->ar->Prop}(hd:(d == jh)=false) (x:z4 s.heap d ks ep)
  (q:Q (.ref s.heap.objs.size) { s with heap:=s.heap.push { cls:=.type "dict_keyiterator",data:=.fields #[.ref d,.int 0 0,.int ks.length 0,.int ep 0] } }):aK (aP prog w) A (OB (.ref d)) Q E s:=by
 have hT:=x.typeIs;obtain ⟨o,es,e,c,da,hk⟩:=x
 have hs:es.size=ks.length:=by rw [← hk,ag,aO]
 refine HS hT F.slot_dict_iter (cW F.slot_dict_iter hT F.entry_dict_iter ?_ (F.args_dict_iter_1 _));unfold kg.«dict.__iter__» Builtin.Dict.dictSlotNone;refine ae (ae (Vj hT ?_))
 show aK _ _ (pure (aF d)) _ _ s
 refine aq ?_
 show aK _ _ (Fp d >>= _) _ _ s
 unfold Fp;rw [if_neg (by rw [hd];exact bL)];refine ae (aq (ae (pK e da (ae (Mx e da ?_)))));refine ae (cp (aq ⟨_,rfl,"dict_keyiterator",_,⟨_,aN _ rfl,rfl⟩,F.slot_dict_keyiterator_next.lookup,?_⟩))
 simpa [cB,hs] using q
theorem IX {Q:Option aj->ar->Prop}{v:aj}(t:s.heap.IsKeyIter it d i ks.length ep) (x:z4 s.heap d ks ep) (hv:ks[i]?=some v)
  (q:∀ h',h'.IsKeyIter it d (i+1) ks.length ep->iL it s.heap h'->Q (some v) { s with heap:=h' }):aK (aP prog w) A (jQ (.ref it)) Q E s:=by
 have tt:=t.typeIs;obtain ⟨ob,g,gc,gd⟩:=id t;obtain ⟨o,es,e,c,da,hk⟩:=x
 have hs:es.size=ks.length:=by rw [← hk,ag,aO]
 have hi:i<es.size:=by rw [hs];exact (aB.mp hv).1
 have ev:es[i].key=v:=by
  rw [← hk,aD] at hv
  simpa [hi] using hv
 unfold jQ;refine ae (i4 (dH (name:=iN "__next__") tt F.slot_dict_keyiterator_next (cW F.slot_dict_keyiterator_next tt F.entry_dict_keyiterator_next ?_ (F.args_dict_keyiterator_next_1 _))));refine ae (aq (ae (ae ?_)))
 first|refine ae (kK tt (aq ?_))|refine ae (nO tt (aq ?_))
 refine ae (pL g gd ?_);simp only [show vn "dict_keyiterator"=false by decide,bX,if_false]
 show aK _ _ (if (aF d == eJ)=true then _ else _) _ _ s
 rw [if_neg (show ¬ ((aF d == eJ)=true) from bL)];refine ae (aq (ae (pK e da ?_)));rw [if_neg (by rw [hs];simp)];refine ae (aq (ae (Mx e da ?_)));rw [if_neg (by simp)];refine aq ?_;simp only [show ¬ ((i:Int)<0) from by lia,if_false,iA,cf hi];refine ae ?_
 first|refine ae (kK tt (aq ?_))|refine ae (nO tt (aq ?_))
 refine ae (Vk tt ?_)
 show aK _ _ (setField (.ref it) 1 (cB ((i:Int)+1)) >>= _) _ _ s
 refine ae (kj g gd (by simp) ?_)
 have t':(s.heap.update it (pT (·.setIfInBounds 1 (cB ((i:Int)+1))))).IsKeyIter it d (i+1) ks.length ep :=
  ⟨_,bE _ g (kY (dm gd _)),(tM ..).trans gc,by rw [dm gd];simp [cB]⟩
 refine ae (cF ?_);refine ae (Vk (s:={ s with heap:=s.heap.update it (pT (·.setIfInBounds 1 (cB ((i:Int)+1)))) }) t'.typeIs ?_)
 show aK _ _ (pure es[i].key) _ _ _
 rw [ev];exact aq (aq ⟨_,rfl,aq (q _ t' (di ..))⟩)
theorem MW {Q:Option aj->ar->Prop}(hh:A.handled=none) (hi:ks.length<=i) (t:s.heap.IsKeyIter it d i ks.length ep) (x:z4 s.heap d ks ep) (q:∀ h',O0 it s.heap h'->Q none { s with heap:=h' }):aK (aP prog w) A (jQ (.ref it)) Q E s:=by
 have tt:=t.typeIs;obtain ⟨ob,g,gc,gd⟩:=id t;obtain ⟨o,es,e,c,da,hk⟩:=x
 have hs:es.size=ks.length:=by rw [← hk,ag,aO]
 unfold jQ;refine ae (i4 (dH (name:=iN "__next__") tt F.slot_dict_keyiterator_next (cW F.slot_dict_keyiterator_next tt F.entry_dict_keyiterator_next ?_ (F.args_dict_keyiterator_next_1 _))));refine ae (aq (ae (ae ?_)))
 first|refine ae (kK tt (aq ?_))|refine ae (nO tt (aq ?_))
 refine ae (pL g gd ?_);simp only [show vn "dict_keyiterator"=false by decide,bX,if_false]
 show aK _ _ (if (aF d == eJ)=true then _ else _) _ _ s
 rw [if_neg (show ¬ ((aF d == eJ)=true) from bL)];refine ae (aq (ae (pK e da ?_)));rw [if_neg (by rw [hs];simp)];refine ae (aq (ae (Mx e da ?_)));rw [if_neg (by simp)];refine aq ?_;simp only [show ¬ ((i:Int)<0) from by lia,if_false,iA,j8 (bz (l0 hs) hi)];refine ae ?_
 first|refine ae (kK tt (aq ?_))|refine ae (nO tt (aq ?_))
 show aK _ _ (setField (.ref it) 0 .none >>= _) _ _ s
 refine ae (kj g gd (by simp) ?_)
 show aK _ _ (Uo (.type "StopIteration") [] >>= _) _ _ _
 refine ae ?_;simp only [Uo,newTuple];refine ae (cp ?_ (by size_fits));refine ae (m:=pM _ _) (KH (a:=eJ) (by first|rfl|(simp only [pM];rfl)) ?_);refine cp ?_ (by size_fits);simp only [raiseNew];refine ae (Se ?_);rw [show A.in1.handled=none from hh];refine ae (aq (W7 ?_));refine ae (mX (T:="StopIteration") (b:=true) ⟨_,aN _ rfl,rfl⟩ Bj ?_);exact aq (q _ (((di ..).extBut.push _).push _))
theorem NV (hh:A.handled=none) (I d:af) (hne:d≠I) (ks:List aj) (ep:Nat):Walks prog w A I [I,d] [I] ks.length (λi v=>ks[i]?=some v) (λi h=>h.IsKeyIter I d i ks.length ep/\z4 h d ks ep) where
 sub:=λb hb=>by simp at hb;simp [hb]
 frame:=λ_ _ _ st hk=>⟨st.1.at λo e=>hk I (by simp) o e,st.2.at λo e=>hk d (by simp) o e⟩
 item:=λi s Q E hi st hQ=>by
  have hv:ks[i]?=some ks[i]:=aC hi;refine IX st.1 st.2 hv λh' t' hs'=>hQ _ h' s.toks hv ⟨t',st.2.at λo e=>hs'.extBut d o hne e⟩ λb o hb e=>hs'.extBut b o (λh=>hb (by simp [h])) e
 done:=λs Q E st hQ=>MW hh (au _) st.1 st.2 λh' he=>hQ h' s.toks λb o hb e=>he b o (λh=>hb (by simp [h])) e
 self:=λ_ _ _ _ st hQ=>Bg st.1 hQ
theorem Tw (lo:(d == jh)=false):KdlSrc prog w "dict" d d ks.length (λi v=>ks[i]?=some v) (λh=>z4 h d ks ep) where
 type:=λ_ x=>x.typeIs
 there:=λ_ x=>⟨x.lt,x.lt⟩
 keep:=λ_ _ x hk=>x.at λo e=>hk d (.inl rfl) o e
 notList:=by decide
 notTuple:=by decide
 hint:=λ_ _ _ _ x hq=>kdl_hint_dict x.typeIs hq
 iter:=λ_ _ hh x=>⟨_,_,(λ_ _ hq=>Cj lo x hq),NV hh _ d (bf x.lt) ks ep,⟨⟨_,aN _ rfl,rfl,rfl⟩,x.at λo e=>ao _ e⟩⟩
theorem Qj {T:String}{r S:af}{n:Nat}{P:Nat->aj->Prop}{OK:cm->Prop}{R:Fl->ar->Prop}(K:KdlSrc prog w T r d n P OK) (hh:A.handled=none) (ok:OK s.heap) (h1:S≠r) (h2:S≠d) (hn:n<=aY) (g:s.heap.get? S=some { cls:=.type "list",data:=.seq #[] 0 })
  (q:∀ h' tk acc' c',(∀ b o,b≠S->s.heap.get? b=some o->h'.get? b=some o)->h'.get? S=some { cls:=.type "list",dict:=none,data:=.seq acc' c',slots:=#[] }->Uq P acc' n->R (.ok (.ret (.ref S))) { s with heap:=h',toks:=tk }) :
  kU (aP prog w) A (.builtin "list.__iadd__" ⟨[.ref S,.ref r],[]⟩) R s:=by
 refine gX F.entry_list_iadd ?_;rw [eG F.plain_list_iadd _];exact kdl_extend K hh ok S h1 h2 (.ref S) 0 g q hn
theorem IY {T:String}{r:af}{n:Nat}{P:Nat->aj->Prop}{OK:cm->Prop}{Q:List aj->ar->Prop}(K:KdlSrc prog w T r d n P OK) (hh:A.handled=none) (ok:OK s.heap) (hn:n<=aY)
  (q:∀ h' tk acc,(∀ b o,s.heap.get? b=some o->h'.get? b=some o)->Uq P acc n->Q acc.toList { s with heap:=h',toks:=tk }):aK (aP prog w) A (HU (.ref r)) Q E s:=by
 have th:=K.there _ ok;unfold HU;refine ae (OH (gX F.entry_proto_collect ?_));rw [eG F.plain_proto_collect _]
 show aK _ A.in1 (newList [] >>= λl=>again (.builtin "list.__iadd__" ⟨[l,.ref r],[]⟩)) _ _ s
 have g:(s.heap.push { cls:=.type "list",data:=.seq ([]:List aj).toArray }).get? s.heap.objs.size=some { cls:=.type "list",data:=.seq #[] 0 }:=aN _ rfl;refine ae (cp (aq ⟨ik F.plain_list_iadd _,Qj (s:={ s with heap:=s.heap.push { cls:=.type "list",data:=.seq ([]:List aj).toArray } }) K hh (K.keep _ _ ok λb _ o e=>ao _ e) (eD th.1) (eD th.2) hn g λh' tk acc' c' hk hS hacc=>?_⟩))
 show aK _ A (load s.heap.objs.size >>= _) _ _ { s with heap:=h',toks:=tk }
 refine ae (Fk hS (aq (q h' tk acc' (λb o e=>hk b o (bf (aL e)) (ao _ e)) hacc)))
theorem IZ {acc:Array aj}(h:Uq (λi v=>ks[i]?=some v) acc ks.length):acc.toList=ks:=by
 apply nX
 intro j
 cases e:acc.toList[j]? with
 | some v=>exact (h.2 j v (by rw [← dv];exact e)).symm
 | none =>
  have:ks.length<=j:=by have:=Ku.mp e;rw [aO,h.1] at this;exact this
  exact (dA this).symm
end
theorem MX {H:Hp}:∀ {kvs:List (List dQ×V)}{xs:List (List dQ×af×aj)},Paired (λ(p:List dQ×V) (q:List dQ×af×aj)=>p.1=q.1/\H q.2.1=some (.tup (p.1.map kV))/\RelV p.2 q.2.2) kvs xs ->
  (∀ p∈kvs,∃ x y:Int,p.1=[aZ x,aZ y])->∃ zs:List Zt,xs.map (λq=>aF q.2.1)=(zs.map λz=>aF z.2.2)/\(∀ z∈zs,fH H z)/\kvs.map (·.1)=zs.map λz=>[aZ z.1,aZ z.2.1]
 | _,_,.nil,_=>⟨[],rfl,(λz hz=>nomatch hz),rfl⟩
 | _,_,.cons (a:=p) (b:=q) r t,hp=>by
  obtain ⟨zs,e1,e2,e3⟩:=MX t λp' hp'=>hp p' (ak _ hp');obtain ⟨x,y,exy⟩:=hp _ av;refine ⟨(x,y,q.2.1)::zs,by simp [e1],λz hz=>?_,by simp [exy,e3]⟩
  rcases ax.mp hz with rfl|hz
  ·have:=r.2.1;rw [exy] at this;exact this
  ·exact e2 z hz
section
variable {X:Cx}
end
end L2
namespace L2
open PySem PySem.Spec PyProof.Rows PySem.W
theorem Paired.at {α β:Type} {F:α->β->Prop}{l₁:List α} {l₂:List β} (r:Paired F l₁ l₂):∀ {i:Nat}{a:α},l₁[i]?=some a->∃ b,l₂[i]?=some b/\F a b:=by
 induction r with
 | nil=>intro i a e;simp at e
 | cons h t ih =>
  intro i a e
  cases i with
  | zero =>
   simp only [nc,gR] at e;subst e
   exact ⟨_,rfl,h⟩
  | succ i=>exact ih (by simpa using e)
theorem Paired.len {α β:Type} {F:α->β->Prop}{l₁:List α} {l₂:List β} (r:Paired F l₁ l₂):l₁.length=l₂.length:=by
 induction r with
 | nil=>rfl
 | cons h t ih=>simp [ih]
def UI (a:af) (kvs:List (List dQ×V)) (o:gi):It :=
 ⟨λi H=>i<kvs.length/\H a=some (.frz o (.dT kvs)),λi H x H'=>H'=H/\∃ k v b,kvs[i]?=some (k,v)/\x=.ref b/\H b=some (.tup (k.map kV)),λi H=>kvs.length<=i/\H a=some (.frz o (.dT kvs))⟩
theorem MY {P:a9}{w:bQ}{K:aa}{tg:Expr}(a it:af) (o:gi) (kvs:List (List dQ×V)) (es:Array DictEntry) (ep:Nat) (hx:o.ExactDict) (hd:o.data=.dict es ep) (hl:es.size=kvs.length) :
  ND P w K tg (UI a kvs o) [it] it (λi h=>h.IsKeyIter it a i (es.toList.map (·.key)).length ep) where
 mem:=by simp
 obj:=λi h st b hb=>by
  have e:b=it:=by simpa using hb
  subst e;obtain ⟨o,e,c,d⟩:=st;exact ⟨o,e,λv z=>by rw [d] at z;cases z⟩
 keep:=λi h h' st k=>st.at λo e=>k it (by simp) o e
 item:=by
  intro X hP hw hK hc i pins s Z H E I hf st hg;subst hP hw hK;obtain ⟨hlt,hq⟩:=hg
  obtain ⟨e0,_,_,xs,rel,o',es',ep',e1,e2,e3,e4,e5⟩:=(show fP X.prog X.w H s.heap a (.frz o (.dT kvs)) from I.fD a _ hq)
  rw [e0] at e1;cases e1;rw [hd] at e3
  injection e3 with e3 e3'
  subst e3 e3'
  obtain ⟨⟨k,v⟩,hkv⟩:∃ p,kvs[i]?=some p:=⟨kvs[i],by simp [hlt]⟩
  obtain ⟨q,hq2,rq⟩:=L2.Paired.at rel hkv
  have hkey:(es.toList.map (·.key))[i]?=some (.ref q.2.1):=by rw [e4,bN,aD,hq2];rfl
  obtain ⟨f0,f1,f2,f3,f4,f5⟩:=hf it (by simp);refine IX st ⟨o,es,e0,hx,hd,rfl⟩ hkey λh' st' sb=>?_;have I1:Inv X pins Z H { s with heap:=h' }:=I.turned (t':=s.toks) (λb o hb e=>(sb.2 b hb).trans e) f0 f1 f3 f4 f5;obtain ⟨o',e,c,d⟩:=id st';exact ⟨_,rfl,Iu (s:={ s with heap:=h' }) e c d (by decide) ⟨.ref q.2.1,H,I1,rfl,⟨rfl,k,v,q.2.1,hkv,rfl,rq.2.1⟩,st',λb hb=>(hf b hb).1⟩⟩
 done:=by
  intro X hP hw hK hc i pins s Z H E I hf st hg;subst hP hw hK;obtain ⟨hle,hq⟩:=hg
  obtain ⟨e0,_⟩:=(show fP X.prog X.w H s.heap a (.frz o (.dT kvs)) from I.fD a _ hq)
  obtain ⟨f0,f1,f2,f3,f4,f5⟩:=hf it (by simp)
  have hn:(es.toList.map (·.key)).length=kvs.length:=by rw [ag,aO,hl]
  exact MW (I.ok.hd hc) (by lia) st ⟨o,es,e0,hx,hd,rfl⟩ λh' eb=>⟨rfl,I.turned (t':=s.toks) (λb o hb e=>eb b o hb e) f0 f1 f3 f4 f5⟩
 self:=λ_ _ _ _ _ st h=>Bg st h
def X8 (tl:TE):TI:=λZ H R=>tl Z H λx H1=>∃ a kvs,x=.ref a/\((H1 a=some (.dT kvs)/\∀ o,R (UI a kvs o) (upd H1 a (.frz o (.dT kvs))))\/∃ o,H1 a=some (.frz o (.dT kvs))/\R (UI a kvs o) H1)
theorem Qk {tl:TE}{Z:St}{H:Hp}{R:It->Hp->Prop}(h:tl Z H λx H1=>∃ a kvs,x=.ref a/\((H1 a=some (.dT kvs)/\∀ o,R (UI a kvs o) (upd H1 a (.frz o (.dT kvs))))\/∃ o,H1 a=some (.frz o (.dT kvs))/\R (UI a kvs o) H1)):X8 tl Z H R:=h
section
variable {X:Cx}{tg:Expr}
theorem Ql {l:Expr}{tl:TE}(hl:PE X l tl):PI X tg l (X8 tl):=by
 intro pins s Z H R I h;refine iG (hl pins s Z H _ I h) λv s1 ⟨x,H1,I1,r1,q1⟩=>?_;obtain ⟨a,kvs,e,q1⟩:=q1;subst e;cases r1
 rcases q1 with ⟨hq,q⟩|⟨ob,hq,q⟩
 rotate_left
 ·obtain ⟨ho,hz,hsys,xs,rel,ob',es,ep,ho',hx,hd,he,hn⟩:=(show fP X.prog X.w H1 s1.heap a (.frz ob (.dT kvs)) from I1.fD a _ hq)
  rw [ho] at ho';cases ho'
  have hl:es.size=kvs.length:=by rw [← aO,he,ag,Paired.len rel]
  refine Cj hsys ⟨ob,es,ho,hx,hd,rfl⟩ ?_;refine ⟨s1.heap.objs.size,[s1.heap.objs.size],_,_,_,rfl,I1.kept (t':=s1.toks) λb o e=>ao _ e,MY a _ ob kvs es ep hx hd hl,⟨_,aN _ rfl,rfl,rfl⟩,λb hb=>?_,q⟩
  have e:b=s1.heap.objs.size:=by simpa using hb
  subst e;exact I1.Mr (au _) (I1.fD.fresh (au _))
 obtain ⟨hz,hsys,xs,rel,ob,es,ep,ho,hx,hd,he,hn⟩:=(show fP X.prog X.w H1 s1.heap a (.dT kvs) from I1.fD a _ hq)
 have un:Un X.fs [] H1 (upd H1 a (.frz ob (.dT kvs))) s1.heap s1.heap:=by
  have hne:∀ b u,H1 b=some u->u≠.dT kvs->b≠a:=λb u e n z=>by subst z;rw [hq] at e;exact n (a7 e).symm
  refine ⟨λb o e _ _ _=>e,λb o e _ _ _=>⟨o.slots,e⟩,λb o e n _=>?_,λb o e _=>⟨o,e⟩,λb ys e=>?_,λb o u e=>?_,λb ps e=>?_⟩
  ·rw [aI (λz=>by subst z;rw [hq] at n;cases n)];exact n
  ·rw [aI (hne b _ e (by intro z;cases z))];exact e
  ·rw [aI (hne b _ e (by intro z;cases z))];exact e
  ·exact ⟨#[],by rw [aI (hne b _ e (by intro z;cases z)),e];simp⟩
 have nt:∀ c ys,H1 c=some (.tup ys)->(upd H1 a (.frz ob (.dT kvs))) c=some (.tup ys):=λc ys q0=>by
  rw [aI (λz=>by rw [z,hq] at q0;cases q0)];exact q0
 have fD:tS X.prog X.w (upd H1 a (.frz ob (.dT kvs))) s1.heap:=λb u e=>by
  by_cases hb:b=a
  ·subst hb;rw [aG] at e;cases e;exact ⟨ho,hz,hsys,xs,Paired.Ou rel λp q z=>⟨z.1,nt _ _ z.2.1,z.2.2⟩,ob,es,ep,ho,hx,hd,he,hn⟩
  ·rw [aI hb] at e;refine (I1.fD b u e).Bb (λc v _ q=>q) (λc q0=>?_) nt;rw [aI (λz=>by rw [z,hq] at q0;cases q0)];exact q0
 have I2:Inv X pins Z (upd H1 a (.frz ob (.dT kvs))) { s1 with heap:=s1.heap,toks:=s1.toks }:=I1.un un fD
 have hl:es.size=kvs.length:=by rw [← aO,he,ag,Paired.len rel]
 refine Cj hsys ⟨ob,es,ho,hx,hd,rfl⟩ ?_;refine ⟨s1.heap.objs.size,[s1.heap.objs.size],_,_,_,rfl,I2.kept (t':=s1.toks) λb o e=>ao _ e,MY a _ ob kvs es ep hx hd hl,⟨_,aN _ rfl,rfl,rfl⟩,λb hb=>?_,q ob⟩
 have e:b=s1.heap.objs.size:=by simpa using hb
 subst e;exact I2.Mr (au _) (I2.fD.fresh (au _))
end
theorem Wg {a:af}{kvs:List (List dQ×V)}{o:gi}{g:TG}{tb:TS}{D:tN}{Z:St}{H:Hp}(Pv:Nat->St->Hp->Prop) (h0:Pv 0 Z H) (hl:∀ i Z H,i<=kvs.length->Pv i Z H->H a=some (.frz o (.dT kvs)))
  (hs:∀ i k v b Z H,kvs[i]?=some (k,v)->H b=some (.tup (k.map kV))->Pv i Z H->g (.ref b) Z H λσ2 H2=>tb { D with nx:=Pv (i+1),ct:=Pv (i+1),bk:=D.nx } σ2 H2) (hd:∀ Z H,Pv kvs.length Z H->D.nx Z H) :
  ∃ W:Nat->Nat->St->Hp->Prop,(∃ m,W 0 m Z H)/\∀ i m Z H,W i m Z H ->
   ((UI a kvs o).stop i H/\D.nx Z H)\/((UI a kvs o).go i H/\∃ N:St->Hp->Prop,(∀ σ' H',N σ' H'->∃ m',m'<m/\W (i+1) m' σ' H')/\∀ x H',(UI a kvs o).KA i H x H'->g x Z H' λσ2 H2=>tb { D with nx:=N,ct:=N,bk:=D.nx } σ2 H2):=by
 refine ⟨λi m Z H=>m=kvs.length-i/\i<=kvs.length/\Pv i Z H,⟨kvs.length,by simp,aJ _,h0⟩,?_⟩;rintro i m Z H ⟨hm,hi,p⟩
 by_cases e:i=kvs.length
 ·subst e;exact .inl ⟨⟨au _,hl _ _ _ (au _) p⟩,hd _ _ p⟩
 ·refine .inr ⟨⟨by lia,hl _ _ _ hi p⟩,Pv (i+1),λσ' H' p'=>⟨kvs.length-(i+1),by lia,rfl,by lia,p'⟩,?_⟩;rintro x H' ⟨rfl,k,v,b,hk,rfl,hb⟩;exact hs i k v b Z H' hk hb p
def Qm (H:Hp) (Q:VK):VK:=λx H'=>Q x H'\/∃ a o kvs,(∀ o' u',H a≠some (.frz o' u'))/\H' a=some (.frz o (.dT kvs))/\Q x (upd H' a (.dT kvs))
theorem Un.Mn {fs ex:List af}{H H':Hp}{h h':cm}{a:af}{o:gi}{kvs:List (List dQ×V)}(u:Un fs ex H H' h h') (hn:∀ o' u',H a≠some (.frz o' u')) (ha:H' a=some (.frz o (.dT kvs))):Un fs ex H (upd H' a (.dT kvs)) h h' where
 keep:=u.keep
 slot:=u.slot
 free:=λb ob e n hx=>by
  have q:=u.free b ob e n hx;rw [aI (λz=>by rw [z,ha] at q;cases q)];exact q
 there:=u.there
 Fe:=λb xs e=>by
  have q:=u.Fe b xs e;rw [aI (λz=>by rw [z,ha] at q;cases q)];exact q
 DQ:=λb ob w e=>by
  have q:=u.DQ b ob w e;rw [aI (λz=>hn ob w (by rw [← z];exact e))];exact q
 DP:=λb ps e=>by
  obtain ⟨more,q⟩:=u.DP b ps e;exact ⟨more,by rw [aI (λz=>by rw [z,ha] at q;cases q)];exact q⟩
theorem tS.Mn {P:a9}{w:bQ}{H:Hp}{h:cm}{a:af}{o:gi}{kvs:List (List dQ×V)}(k:tS P w H h) (ha:H a=some (.frz o (.dT kvs))):tS P w (upd H a (.dT kvs)) h:=by
 have nt:∀ c ys,H c=some (.tup ys)->(upd H a (.dT kvs)) c=some (.tup ys):=λc ys q0=>by
  rw [aI (λz=>by rw [z,ha] at q0;cases q0)];exact q0
 intro b u e
 by_cases hb:b=a
 ·subst hb;rw [aG] at e;cases e
  obtain ⟨_,hz,hsys,xs,rel,ob,es,ep,r⟩:=(show fP P w H h b (.frz o (.dT kvs)) from k b _ ha)
  exact ⟨hz,hsys,xs,Paired.Ou rel λp q z=>⟨z.1,nt _ _ z.2.1,z.2.2⟩,ob,es,ep,r⟩
 ·rw [aI hb] at e;refine (k b u e).Bb (λc v _ q=>q) (λc q0=>?_) nt;rw [aI (λz=>by rw [z,ha] at q0;cases q0)];exact q0
end L2
namespace BootT
theorem Qn:dw "reversed"=some (.type "reversed"):=by decide +kernel
end BootT
namespace L2
open PySem PySem.Spec PyProof.Rows PySem.W
theorem dF.Mn {P:a9}{w:bQ}{K:aa}{mg:bu->Option aj}{base:cm}{CX:Kx}{k:Nat}{f:af}{fd:fB}{ps:List bu}{sp sp':Sp}(F:dF P w K mg base CX k f fd ps sp')
  (h:∀ vs H Q E,sp vs H Q E->sp' vs H (Qm H Q) E):dF P w K mg base CX k f fd ps sp:=by
 refine ⟨λvs H Q E q=>F.len vs H _ E (h _ _ _ _ q),λA outer s H args us vs Q E hr he hb hv hs=>?_⟩;refine pE (F.run A outer s H args us vs _ E hr he hb hv (h _ _ _ _ hs)) λr s' q=>?_
 cases r with
 | error e=>exact q
 | ok fl =>
  cases fl with
  | ret u =>
   obtain ⟨v,H',h1,h2,h3,h4,h5,q⟩:=(show CE outer P w H s (Qm H Q) u s' from q)
   rcases q with q|⟨a,o,kvs,hn,ha,q⟩
   ·exact (show CE outer P w H s Q u s' from ⟨v,H',h1,h2,h3,h4,h5,q⟩)
   ·exact (show CE outer P w H s Q u s' from ⟨v,_,h1,h2,h3.Mn hn ha,h4.Mn ha,h5,q⟩)
  | _=>exact q
theorem Paired.eraseIdx {α β:Type} {F:α->β->Prop}{l₁:List α} {l₂:List β} (r:Paired F l₁ l₂):∀ j,Paired F (l₁.eraseIdx j) (l₂.eraseIdx j):=by
 induction r with
 | nil=>intro j;exact .nil
 | cons h t ih =>
  intro j
  cases j with
  | zero=>exact t
  | succ j=>exact .cons h (ih j)
theorem Ck {κ:Type} [DecidableEq κ] {k:κ}{v:V}:∀ {kvs:List (κ×V)}{j:Nat},(kvs.map (·.1)).Nodup->kvs[j]?=some (k,v)->kvs.eraseIdx j=pW kvs k
 | [],j,_,e=>by simp at e
 | p::r,0,hn,e=>by
  simp only [nc,gR] at e;subst e;have h1:=(bA.mp hn).1
  rw [NQ rfl,II h1];rfl
 | p::r,j+1,hn,e=>by
  simp only [My] at e;have h1:=(bA.mp hn).1;have hm:k∈r.map (·.1):=bw.mpr ⟨_,aW e,rfl⟩;have hne:¬ p.1=k:=λz=>h1 (by rw [show (λx:κ×V=>x.1) p=k from z];exact hm);rw [FH hne,Mz,Ck (bA.mp hn).2 e]
theorem Am {κ:Type} [DecidableEq κ] {k:κ}{v:V}:∀ {kvs:List (κ×V)}{j:Nat},(kvs.map (·.1)).Nodup->kvs[j]?=some (k,v)->eV kvs k=some v
 | [],j,_,e=>by simp at e
 | p::r,0,hn,e=>by
  simp only [nc,gR] at e;subst e
  exact jo rfl
 | p::r,j+1,hn,e=>by
  simp only [My] at e;have h1:=(bA.mp hn).1;have hm:k∈r.map (·.1):=bw.mpr ⟨_,aW e,rfl⟩;have hne:¬ p.1=k:=λz=>h1 (by rw [show (λx:κ×V=>x.1) p=k from z];exact hm);rw [iS hne];exact Am (bA.mp hn).2 e
theorem FL {α β:Type} (f:α->β):∀ (l:List α) (j:Nat),(l.map f).eraseIdx j=(l.eraseIdx j).map f
 | [],_=>by simp
 | a::l,0=>rfl
 | a::l,j+1=>by simp [Mz,FL f l j]
theorem NW {H:Hp}{kvs:List (List dQ×V)}{xs:List (List dQ×af×aj)}(r:KT H kvs xs):kvs.map (·.1)=xs.map (·.1):=by
 induction r with
 | nil=>rfl
 | cons h t ih=>simp [h.1,ih]
section
variable {X:Cx}
def I0:V->List V->Hp->VK->Prop:=λx vs H Q=>∃ a kvs k b v,x=.ref a/\vs=[.ref b]/\H a=some (.dT kvs)/\H b=some (.tup (k.map kV))/\eV kvs k=some v/\Q v (upd H a (.dT (pW kvs k)))
theorem Bu (hu:X.A.units+64<ju):So X "dict.pop" I0:=by
 intro pins s Z H x xs v us Q I rx rs h;obtain ⟨a,kvs,k,b,y,rfl,rfl,ha,hb,hy,q⟩:=h;cases rx;obtain ⟨u,rfl,ru⟩:=vals1 rs;cases ru
 obtain ⟨hz,lo,ys,rel,o,es,ep,e1,e2,e3,e4,e5⟩:=(show fP X.prog X.w H s.heap a (.dT kvs) from I.fD a _ ha)
 have hl:es.size=kvs.length:=by rw [← aO,e4,ag,Paired.len rel]
 have hT:s.TypeIs (.ref a) "dict":=⟨o,e1,e2.1⟩
 have hes:es.size<=aY:=by rw [hl];exact hz
 have hkey:=t9 (P:=X.prog) (w:=X.w) I.fD hb
 have his:∀ x∈ys,(mU (fc X.prog X.w)).is s.heap x.1 x.2.1:=λx hx=>by
  obtain ⟨i,hi⟩:=bF.mp hx
  obtain ⟨p,hp⟩:∃ p,kvs[i]?=some p:=⟨kvs[i]'(by rw [Paired.len rel];exact (aB.mp hi).1),by simp⟩
  obtain ⟨x',hx',r1,r2,_⟩:=L2.Paired.at rel hp;rw [hi] at hx';cases hx';rw [← r1];exact t9 I.fD r2
 have rel:KT H kvs ys:=rel;have ev:=KT.val rel k;rw [hy] at ev;have hroom:(mU (fc X.prog X.w)).room X.A.in1:=kX (by lia)
 have hnd:(kvs.map (·.1)).Nodup:=by rw [NW rel];exact e5
 refine cW F.slot_dict_pop hT F.entry_dict_pop ?_ (F.args_dict_pop_2 _ _);unfold kg.«dict.pop» Builtin.Dict.keyAndDefault;refine ae (ae (Vj hT ?_))
 show aK _ _ (pure (a,aF b,none)) _ _ s
 refine aq ?_
 have hne:es.isEmpty=false:=by
  cases e:es.isEmpty with
  | false=>rfl
  | true =>
   have:es.size=0:=by simpa [Array.isEmpty] using e
   have:kvs=[]:=j9 (by lia);subst this;cases hy
 show aK _ _ (dictEntries a >>= _) _ _ s
 refine ae (pK e1 e3 ?_);simp only [hne,bX,if_false,pure_bind];refine ae ?_;unfold Builtin.Dict.takeOut
 try with_reducible refine cF ?_
 refine ae ((mU (fc X.prog X.w)).pyHash hroom hkey ?_);refine ae (wpAny_dictFind_heap (s:={ s with toks:=s.toks+(mU (fc X.prog X.w)).draws k }) hroom hkey e1 e3 e4 his e5 (λhno=>?_) λj p hj=>?_)
 ·rw [atKey_none_of_get hno] at ev;exact ev.elim
 ·have ep':HP ys k=some p:=atKey_of_get e5 hj;rw [ep'] at ev;have ev:RelV y p.2:=ev;refine ae (pK (s:={ s with toks:=s.toks+(mU (fc X.prog X.w)).draws k }) e1 e3 ?_);rw [entry_at e4 j,hj];refine ae (wpAny_updateDictKeys (hz:=hes) (s:={ s with toks:=s.toks+(mU (fc X.prog X.w)).draws k }) e1 e3 (aq ?_));simp only [ke,OZ,bX,if_false];refine ae (KG (aq ⟨_,rfl,y,upd H a (.dT (pW kvs k)),?_,ev,q⟩))
  have hk2:kvs[j]?=some (k,y):=by
   have hjl:j<kvs.length:=by rw [Paired.len rel];exact (aB.mp hj).1
   obtain ⟨x',hx',r1,_⟩:=L2.Paired.at rel (aC hjl);rw [hj] at hx';cases hx'
   have e:kvs[j]?=some (k,kvs[j].2):=by
    rw [aC hjl];have r1:kvs[j].1=k:=r1;exact congrArg some (OX r1 rfl)
   have:=Am hnd e;rw [hy] at this;rw [e,← a7 this]
  have hrel:KT H (pW kvs k) (ys.eraseIdx j):=by rw [← Ck hnd hk2];exact Paired.eraseIdx rel j
  refine xJ I (by rw [ha];exact gU) (di ..) ⟨_,bE _ e1 (SB (yQ e3 _))⟩
   ⟨bz (cJ _ _) hz,lo,_,hrel.keeps λc zs ec=>?_,_,_,ep+1,bE _ e1 (SB (yQ e3 _)),e2.mapDictKeys _,yQ e3 _,?_,?_⟩
  ·rw [aI (je ec ha (λz=>nomatch z))];exact ec
  ·have:(es.eraseIdxIfInBounds j).toList=es.toList.eraseIdx j:=by obtain ⟨l⟩:=es;simp
   rw [this,e4,FL]
  ·exact (xA _ (List.eraseIdx_sublist _ _)).nodup e5
end
end L2
namespace L2
open PySem PySem.Spec PyProof.Rows PySem.W
namespace Rv
theorem La:Fn (.type "list_reverseiterator") "__len__"=pure none:=by rw [nW,jl];kernel_rfl
theorem Qo:Fn (.type "list_reverseiterator") "__length_hint__"=pure (some (.builtin "list_reverseiterator.__length_hint__")):=by rw [nW,jl];kernel_rfl
section
variable {prog:a9}{w:bQ}{A:bY}{E:aj->ar->Prop}{s:ar}{I l:af}
theorem Lb {Q:Bool->ar->Prop}(ty:s.TypeIs (.ref I) "list_reverseiterator") (h:Q false s):aK (aP prog w) A (fo (.ref I)) Q E s:=by
 unfold fo;refine ae (si ty La ?_)
 show aK _ A (specialOf (aF I) (iN "__length_hint__") >>= _) _ _ _
 refine ae (si ty Qo ?_);generalize hid:("list_reverseiterator.__length_hint__":String)=id0
 wp_delta
 rw [show splitId id0=some ("list_reverseiterator","__length_hint__") from by subst hid;decide +kernel];subst hid;refine ae (mX (T:="list_reverseiterator") (b:=true) ty (by rw [Bl];kernel_rfl) ?_);exact aq h
theorem Lc {S c₀ n:Nat} {R:Fl->ar->Prop}{fp wr:List af}{G:Array xj->Array xj->Prop}{P:Nat->aj->Prop}{St:Nat->ar->Prop}(W:WalksS prog w A.in1 I fp wr G n P St) (ty:∀ i s,St i s->s.TypeIs (.ref I) "list_reverseiterator")
  (res:aj) (hst:St 0 s) (hSf:S∉fp) (hI:I∈fp) (hS:s.heap.get? S=some { cls:=.type "list",data:=.seq #[] c₀ }) (hn:n<=aY)
  (hR:∀ s' acc' c',Moved (S::wr) G s s'->s'.heap.get? S=some { cls:=.type "list",dict:=none,data:=.seq acc' c',slots:=#[] }->Uq P acc' n->R (.ok (.ret res)) s') :
  aK (aP prog w) A.in1 (c8 (.ref S) (.ref I) res) (λfin s'=>match fin with | .done f=>R (.ok f) s' | .again c'=>c'.quiet=true/\kU (aP prog w) A c' R s') (λe s'=>R (.error e) s') s:=by
 have hSI:S≠I:=λe=>hSf (e▸hI);unfold c8;refine ae (yM (ty 0 _ hst) ?_)
 have h1:gf (.ref S) (.ref I)=false:=by simp [gf,hSI]
 have h2:(dM "list_reverseiterator" == dM "list")=false:=by decide
 have h3:(dM "list_reverseiterator" == dM "tuple")=false:=by decide
 simp only [h1,h2,h3,KF,bX,if_false];refine ae (W.self 0 _ _ _ hst (ae (cF (Lb (ty 0 _ hst) ?_))));refine jE (λ_=>?_) (λ_=>aq ⟨ik F.plain_extend_loop _,Bn W hn _ hSf _ n 0 _ _ _ rfl (aJ _) hst hS (MA P) hR⟩);refine ae (iM (ae ?_))
 show aK _ A.in1 (xn S (·.push .none) >>= λ_=>xn S (·.pop)) _ _ _
 refine ae (lu hS rfl ?_);have g2:=bE (bC (·.push eJ)) hS rfl;refine lu (hz:=by seq_fits) g2 rfl ?_;have g3:=bE (bC (·.pop)) g2 rfl
 have oth:∀ b o,b≠S->s.heap.get? b=some o->((s.heap.update S (bC (·.push eJ))).update S (bC (·.pop))).get? b=some o :=
  λb o hb e=>(a0 _ _ (Ne.symm hb)).trans ((a0 _ _ (Ne.symm hb)).trans e)
 refine aq ⟨ik F.plain_extend_loop _,Bn W hn _ hSf _ n 0 _ _ _ rfl (aJ _) (W.frame 0 s _ s.toks hst (au _) λb hb o e=>oth b o (λh=>hSf (h▸hb)) e) g3 (MA P) λs' acc' c' hm hS' hacc=>?_⟩;exact hR s' acc' c' (OI W.gtrans ((Moved.refl W.grefl).then_heap (au _) λb o hb e=>oth b o (λh=>hb (h▸av)) e) hm) hS' hacc
theorem zb {n:Nat}{Q:aj->ar->Prop}{fp wr:List af}{G:Array xj->Array xj->Prop}{P:Nat->aj->Prop}{St:Nat->ar->Prop}(W:WalksS prog w A.in1.in1 I fp wr G n P St) (ty:∀ i s,St i s->s.TypeIs (.ref I) "list_reverseiterator")
  (hst:St 0 s) (hfp:∀ b∈fp,b<s.heap.objs.size) (hI:I∈fp) (hn:n<=aY)
  (hQ:∀ s' acc' c',Moved (s.heap.objs.size::wr) G { s with heap:=s.heap.push { cls:=.type "list",data:=.seq #[] } } s'->s'.heap.get? s.heap.objs.size=some { cls:=.type "list",dict:=none,data:=.seq acc' c',slots:=#[] }->Uq P acc' n->Q (.ref s.heap.objs.size) s') :
  aK (aP prog w) A (call (.type "list") [.ref I]) Q E s:=by
 have hSf:s.heap.objs.size∉fp:=λhm=>fu _ (hfp _ hm);refine callType_codes (Q₁:=λobj s₁=>obj=.ref s.heap.objs.size/\s₁={ s with heap:=s.heap.push { cls:=.type "list",data:=.seq #[] } }) F.called_list (F.typeCall_list_1 _) F.entry_list_init (code_list_new _ ⟨rfl,rfl⟩) ?_;rintro obj s₁ ⟨rfl,rfl⟩;have hS:(s.heap.push { cls:=.type "list",data:=.seq #[] }).get? s.heap.objs.size=some { cls:=.type "list",data:=.seq #[] }:=aN _ rfl;refine ⟨⟨_,hS,rfl⟩,F.args_list_init_2 _ _,?_⟩
 show aK _ _ (do let old ← rL (.ref s.heap.objs.size);gO (.ref s.heap.objs.size) (λ_=>#[]);letGo old.toList.reverse;c8 (.ref s.heap.objs.size) (.ref I) .none) _ _ _
 refine ae (yP hS rfl (ae (lA hS rfl (ae (KG ?_)) (aJ _) (aJ _))));have g2:=bE (bC (λ_=>(#[]:Array aj))) hS rfl
 have oth:∀ b o,b≠s.heap.objs.size->(s.heap.push { cls:=.type "list",data:=.seq #[] }).get? b=some o->((s.heap.push { cls:=.type "list",data:=.seq #[] }).update s.heap.objs.size (bC (λ_=>(#[]:Array aj)))).get? b=some o :=
  λb o hb e=>(a0 _ _ (Ne.symm hb)).trans e
 refine Lc (A:=A.in1) (s:={ s with heap:=(s.heap.push { cls:=.type "list",data:=.seq #[] }).update s.heap.objs.size (bC (λ_=>(#[]:Array aj))) }) W ty .none (W.frame 0 s _ s.toks hst (au _) λb hb o e=>oth b o (λh=>hSf (h▸hb)) (ao _ e)) hSf hI g2 hn λs' acc' c' hm hS' hacc=>?_;exact ⟨rfl,hQ s' acc' c' (OI W.gtrans ((Moved.refl (s:={ s with heap:=s.heap.push { cls:=.type "list",data:=.seq #[] } }) W.grefl).then_heap (au _) λb o hb e=>oth b o (λh=>hb (h▸av)) e) hm) hS' hacc⟩
end
end Rv
def Qp (K:aa) (t:TA):TE:=λZ H Q=>t Z H λvs H1=>∃ a xs,vs=[.ref a]/\de K H1 a xs/\∀ p,H1 p=none->Q (.ref p) (upd H1 p (.lst xs.reverse))
theorem Wh {K:aa}{t:TA}{Z:St}{H:Hp}{Q:VK}(h:t Z H λvs H1=>∃ a xs,vs=[.ref a]/\de K H1 a xs/\∀ p,H1 p=none->Q (.ref p) (upd H1 p (.lst xs.reverse))):Qp K t Z H Q:=h
section
variable {X:Cx}{x:Expr}{t:TA}{p1 p2 q1 q2:oZ}
theorem Tx (hc:X.calm=true) (hgl:Gl X "list") (hml:X.mg "list"=none) (hgz:Gl X "reversed") (hmz:X.mg "reversed"=none) (ha:PA X [x] t)
  (he:bR [.Call (.Name "reversed" p1) [x] [] p2] X.env=[(false,gM (.Call (.Name "reversed" p1) [x] [] p2) X.env)]:=by rfl) (he2:bR [x] X.env=(false,gM x X.env)::bR [] X.env:=by rfl) (hpl:(jx p2 (bR [] X.env)).any (·.1)=false:=by rfl) :
  PE X (.Call (.Name "list" q1) [.Call (.Name "reversed" p1) [x] [] p2] [] q2) (Qp X.K t):=by
 intro pins s Z H Q I h;refine eW (pU I hgl hml BootT.list (dP ?_ he rfl));rw [he]
 show aK _ _ (Uk ((false,gM (.Call (.Name "reversed" p1) [x] [] p2) X.env)::jx q2 (bR [] X.env))) _ _ s
 refine j7 (eW (pU I hgz hmz BootT.Qn (dP (iG (ha p2 pins s Z H _ I h) λus s1 ⟨vs,H1,I1,r1,q⟩=>?_) he2 hpl)));obtain ⟨a,xs,rfl,hA,k⟩:=q;obtain ⟨u,rfl,ru⟩:=vals1 r1;cases ru;obtain ⟨its,rv,pl,hz⟩:=I1.list hA;have hlen:=rv.length
 have al:a<s1.heap.objs.size:=by obtain ⟨_,e,_⟩:=pl.isList;exact aL e
 have I2:Inv X pins Z H1 { s1 with heap:=s1.heap.push (Bo a ((its.toArray.size:Int)-1)) }:=I1.kept (t':=s1.toks) λb o e=>ao _ e;refine call_reversed_list pl.isList (nN ?_)
 have st0:(s1.heap.push (Bo a ((its.toArray.size:Int)-1))).IsRevIter s1.heap.objs.size a ((its.toArray.size:Int)-1-((0:Nat):Int)):=⟨_,aN _ rfl,rfl,by simp [Bo]⟩
 have il:(s1.heap.push (Bo a ((its.toArray.size:Int)-1))).IsList a its.toArray:=pl.isList.at λo e=>ao _ e;refine Rv.zb (s:={ s1 with heap:=s1.heap.push (Bo a ((its.toArray.size:Int)-1)) }) (Walks.listRev (A:=X.A.in1.in1) (I1.ok.hd hc) s1.heap.objs.size a (bf al) its.toArray).toS (λi s st=>st.2.1.typeIs) ⟨aJ _,st0,il⟩ (λb hb=>?_) (by simp) (by rw [aM];lia) λs' acc c hm hS hacc=>?_
 ·have:(s1.heap.push (Bo a ((its.toArray.size:Int)-1))).objs.size=s1.heap.objs.size+1:=ib ..
  show b<(s1.heap.push (Bo a ((its.toArray.size:Int)-1))).objs.size
  rw [this]
  rcases ax.mp hb with rfl|hb
  ·exact jR _
  ·rw [aA.mp hb];exact oC al
 ·have es:s'={ s1 with heap:=s'.heap,toks:=s'.toks }:=by have e:=Xw hm;exact e
  have hsz:(s1.heap.push (Bo a ((its.toArray.size:Int)-1))).objs.size=s1.heap.objs.size+1:=ib ..
  have old:∀ b o,s1.heap.get? b=some o->s'.heap.get? b=some o:=λb o e=>by
   have hb:=aL e;refine hm.heap b o (λhmem=>?_) (ao _ (ao _ e))
   rcases ax.mp hmem with z|z
   ·rw [show ({ s1 with heap:=s1.heap.push (Bo a ((its.toArray.size:Int)-1)) }:ar).heap.objs.size=s1.heap.objs.size+1 from hsz] at z;rw [z] at hb;exact Nat.not_succ_le_self _ (ki (br hb (au _)))
   ·rw [aA.mp z] at hb;exact fu _ hb
  have eacc:acc.toList=its.reverse:=by
   apply nX
   intro j
   cases e:acc.toList[j]? with
   | some v =>
    have q:=hacc.2 j v (by rw [← dv];exact e)
    have hj:j<its.length:=by have:=(aB.mp e).1;rw [aO,hacc.1,aM] at this;exact this
    rw [List.getElem?_reverse hj];simp only [aM,we] at q
    exact q.symm
   | none =>
    have:its.length<=j:=by have:=Ku.mp e;rw [aO,hacc.1,aM] at this;exact this
    exact (dA (by rw [Sg];exact this)).symm
  rw [show ({ s1 with heap:=s1.heap.push (Bo a ((its.toArray.size:Int)-1)) }:ar).heap.objs.size=s1.heap.objs.size+1 from hsz] at hS ⊢;rw [es];refine ⟨.ref (s1.heap.objs.size+1),_,I1.laid (t':=s'.toks) (o:=.lst xs.reverse) old (fQ _) ⟨by rw [Sg];exact hz,its.reverse,c,rv.reverse,?_⟩,rfl,k _ (I1.fD.fresh (fQ _))⟩;rw [hS,← eacc]
end
end L2
namespace Sw
open PySem
def z7 (xs:Array Nat):Prop:=xs.toList.Pairwise (· < ·)
theorem z7.lt {xs:Array Nat}(h:z7 xs) {i j a b:Nat}(hij:i<j) (h1:xs[i]?=some a) (h2:xs[j]?=some b):a<b:=by
 rw [← dv] at h1 h2;obtain ⟨hi,e1⟩:=aB.mp h1;obtain ⟨hj,e2⟩:=aB.mp h2;have:=l6.mp h i j hi hj hij;rw [e1,e2] at this;exact this
theorem Cm {xs:Array Nat}{j:Nat}(h:z7 xs):∀ (fuel lo hi:Nat),lo<=hi->hi<=xs.size->hi-lo<=fuel->(∀ i a,i<lo->xs[i]?=some a->a<j)->(∀ i a,hi<=i->xs[i]?=some a->j<=a) ->
  (pN xs j fuel lo hi<=xs.size/\(∀ i a,i<pN xs j fuel lo hi->xs[i]?=some a->a<j)/\∀ i a,pN xs j fuel lo hi<=i->xs[i]?=some a->j<=a)
 | 0,lo,hi,h1,h2,h3,h4,h5=>by
  have:lo=hi:=by lia
  subst this
  exact ⟨h2,h4,h5⟩
 | fuel+1,lo,hi,h1,h2,h3,h4,h5=>by
  unfold pN
  by_cases c:lo<hi
  ·rw [if_pos c]
   have hm:(lo+hi)/2<xs.size:=by lia
   have em:xs[(lo+hi)/2]?=some xs[(lo+hi)/2]:=cf hm
   have eg:xs.getD ((lo+hi)/2) j=xs[(lo+hi)/2]:=by simp [Sh,hm]
   simp only [eg]
   by_cases c2:xs[(lo+hi)/2]<j
   ·rw [if_pos c2];refine Cm h fuel _ _ (by lia) h2 (by lia) (λi a hi' ha=>?_) h5
    by_cases e:i=(lo+hi)/2
    ·subst e;rw [em] at ha;cases ha;exact c2
    ·exact OF (h.lt (show i<(lo+hi)/2 by lia) ha em) c2
   ·rw [if_neg c2];refine Cm h fuel _ _ (by lia) (by lia) (by lia) h4 (λi a hi' ha=>?_)
    by_cases e:i=(lo+hi)/2
    ·subst e;rw [em] at ha;cases ha;lia
    ·have:=h.lt (show (lo+hi)/2<i by lia) em ha;lia
  ·rw [if_neg c]
   have:lo=hi:=by lia
   subst this;exact ⟨h2,h4,h5⟩
theorem Cn {xs:Array Nat}(h:z7 xs) (j:Nat):dN xs j<=xs.size/\(∀ i a,i<dN xs j->xs[i]?=some a->a<j)/\∀ i a,dN xs j<=i->xs[i]?=some a->j<=a :=
 Cm h _ _ _ (aJ _) (au _) (by lia) (λi a hi=>absurd hi (by lia)) λi a hi ha=>by
  have:=(cD.mp ha).1;lia
theorem Ja {xs:Array Nat}(h:z7 xs) {k p:Nat}(hk:k=0/\p=0\/∃ k',k=k'+1/\∃ a,xs[k']?=some a/\p=a+1):dN xs p=k:=by
 obtain ⟨h1,h2,h3⟩:=Cn h p
 rcases hk with ⟨rfl,rfl⟩|⟨k',rfl,a,ha,rfl⟩
 ·by_cases e:dN xs 0=0
  ·exact e
  ·have:xs[0]?=some xs[0]:=cf (by lia);have:=h2 0 _ (by lia) this;lia
 ·have hk:=(cD.mp ha).1
  rcases Nat.lt_trichotomy (dN xs (a+1)) (k'+1) with c|c|c
  ·have:=h3 k' a (by lia) ha;lia
  ·exact c
  ·have e:xs[k'+1]?=some (xs[k'+1]'(by lia)):=cf (by lia);have q1:=h2 (k'+1) _ c e;have q2:=h.lt (show k'<k'+1 by lia) ha e;lia
theorem z7.insert {xs:Array Nat}(h:z7 xs) {j:Nat}(hj:xs[dN xs j]?≠some j):z7 (SetTable.insertAt xs (dN xs j) j):=by
 obtain ⟨h1,h2,h3⟩:=Cn h j;generalize dN xs j=p at h1 h2 h3 hj;unfold z7;rw [SetTable.toList_insertAt];have e:xs.toList=xs.toList.take p++xs.toList.drop p:=(fq _ _).symm
 have hp:(xs.toList.take p++xs.toList.drop p).Pairwise (· < ·):=by rw [← e];exact h
 rw [ie] at hp;obtain ⟨p1,p2,p3⟩:=hp
 have m1:∀ a∈xs.toList.take p,a<j:=λa ha=>by
  obtain ⟨i,hi⟩:=bF.mp ha;rw [mZ] at hi
  split at hi
  ·exact h2 i a (by assumption) (by rw [← dv];exact hi)
  ·cases hi
 have m2:∀ a∈xs.toList.drop p,j<a:=λa ha=>by
  obtain ⟨i,hi⟩:=bF.mp ha;rw [rM,dv] at hi;have q:=h3 (p+i) a (by lia) hi
  rcases Nat.lt_or_eq_of_le q with q|q
  ·exact q
  ·subst q
   cases i with
   | zero=>exact absurd hi hj
   | succ i =>
    have e0:xs[p]?=some (xs[p]'(by have:=(cD.mp hi).1;lia)):=cf _;have q1:=h3 p _ (au _) e0;have q2:=h.lt (show p<p+(i+1) by lia) e0 hi;lia
 rw [ie];refine ⟨p1,AD.mpr ⟨m2,p2⟩,λa ha b hb=>?_⟩
 rcases ax.mp hb with rfl|hb
 ·exact m1 a ha
 ·exact p3 a ha b hb
structure TI (t:iE):Prop where
 rise:z7 t.place
 nod:t.dummies=#[]
theorem MZ (j:Nat):Ig #[] j=false:=by simp [Ig]
theorem Jb {t:iE}(h:TI t) {hashAt:Nat->Int}{hh:Int}:∀ (fuel:Nat) (p:SetTable.Probe) {j:Nat}{d:Option Nat},vo t hashAt hh fuel p=some (.empty j d)->p.dummy=none->d=none/\t.place[dN t.place j]?≠some j
 | 0,p,j,d,e,_=>by simp [vo] at e
 | fuel+1,p,j,d,e,hd=>by
  unfold vo at e
  have adv:(t.advance p).dummy=none:=by unfold SetTable.advance;split<;>exact hd
  cases hs:t.slot p.j with
  | empty =>
   rw [hs] at e;simp only [gR,Vl] at e;obtain ⟨rfl,rfl⟩:=e;refine ⟨hd,λz=>?_⟩;unfold Ur at hs
   simp [z] at hs
  | dummy =>
   unfold Ur at hs;rw [h.nod] at hs;simp only [MZ] at hs
   split at hs<;>simp at hs
  | live i =>
   rw [hs] at e;simp only at e
   split at e
   ·simp at e
   ·exact Jb h fuel _ e adv
theorem NX {t:iE}(h:TI t) {hh:Int}{j:Nat}{b:Bool}(e:t.freeSlot hh=some (j,b)):t.place[dN t.place j]?≠some j:=by
 unfold SetTable.freeSlot at e
 split at e
 ·rename_i j' d he
  obtain ⟨e1,e2⟩:=Jb h _ _ he rfl;subst e1;simp at e;rw [← e.1];exact e2
 ·cases e
theorem TI.standIn (t:iE) (n:Nat):TI (t.standIn n):=⟨by unfold z7 SetTable.standIn;simp only [Array.toList_range];exact Nu,rfl⟩
theorem TI.orStandIn {t:iE}(h:TI t) (n:Nat):TI (t.orStandIn n):=by
 unfold Nv
 split
 ·exact h
 ·exact TI.standIn t n
theorem TI.put {t:iE}(h:TI t) {j:Nat}(hj:t.place[dN t.place j]?≠some j):TI (t.put j).1:=by
 refine ⟨h.rise.insert hj,?_⟩
 show (if Ig t.dummies j then _ else t.dummies)=#[]
 rw [h.nod,MZ,if_neg (by decide)]
theorem TI.layNew {t:iE}(h:TI t) (es:Array (Int×aj)) (hh:Int) (x:aj):TI (Bp t es hh x).2.1:=by
 unfold Bp
 split
 ·rename_i slot wd he
  exact (h.put (NX h he)).orStandIn _
 ·exact TI.standIn t _
theorem TI.relayAll {t:iE}(es:Array (Int×aj)) (wanted:Nat):TI (xo t es wanted).2.1:=by
 unfold xo
 split
 ·rename_i t' order he
  dsimp only
  split
  ·unfold Si Us at he;simp only [OJ,Kv,Ut,gR] at he;obtain ⟨owner,_,he⟩:=he;have:=(cC he).1;subst this;refine ⟨?_,rfl⟩
   show ((fz _).filterMap _ |>.map _).toArray.toList.Pairwise _
   rw [List.toList_toArray,List.map_filterMap]
   have:(λx=>yW (λy:Nat×Nat=>y.1) (yW (λy=>(x,y)) (owner.getD x none)))=λx=>yW (λ_=>x) (owner.getD x none):=by funext x;cases owner.getD x none<;>rfl
   refine List.Pairwise.filterMap _ (λa b hab c hc d hd=>?_) Nu;cases ha:owner.getD a none<;>rw [ha] at hc<;>simp at hc;cases hb:owner.getD b none<;>rw [hb] at hd<;>simp at hd;lia
  ·exact TI.standIn t _
 ·exact TI.standIn t _
theorem TI.off {t:iE}(h:TI t):TI { t with plain:=false }:=⟨h.rise,h.nod⟩
theorem TI.fresh (a b:Nat) (c:Bool):TI (SC a b c):=⟨by simp [z7,SC],rfl⟩
theorem Ld (t:iE) (es:Array (Int×aj)) (hh:Int) (x:aj):(Bp t es hh x).2.1.led=t.led:=by
 unfold Bp
 split
 ·simp only [Nv];split<;>rfl
 ·rfl
theorem Gw (t:iE) (es:Array (Int×aj)) (wanted:Nat):(xo t es wanted).2.1.led=t.led:=by
 unfold xo
 split
 ·rename_i t' order he
  dsimp only
  split
  ·unfold Si Us at he;simp only [OJ,Kv,Ut,gR] at he;obtain ⟨owner,_,he⟩:=he;have:=(cC he).1;subst this
   rfl
  ·rfl
 ·rfl
end Sw
namespace Sw
def key (e:Int×aj):Int:=match e.2 with | .int i _=>i|_=>0
section
variable {prog:a9}{w:bQ}
def SO (prog:a9) (w:bQ) (bt:Bool) (h:cm) (a:af) (ks:List Int):Prop :=
 ∃ o es ep t,h.get? a=some o/\o.ExactSet/\o.data=.set es ep t/\ElemsOf (pD prog w) es.toList/\(∀ e∈es.toList,∃ u,e.2=.int (key e) u)/\es.size<xp/\t.fits es.size=true/\TI t/\t.led=!bt/\ks=es.toList.map key/\ks.Nodup
theorem SO.keep {bt:Bool}{h h':cm}{a:af}{ks:List Int}(x:SO prog w bt h a ks) (k:∀ o,h.get? a=some o->h'.get? a=some o):SO prog w bt h' a ks :=
 let ⟨o,es,ep,t,e,r⟩:=x;⟨o,es,ep,t,k o e,r⟩
theorem SO.lt {bt:Bool}{h:cm}{a:af}{ks:List Int}(x:SO prog w bt h a ks):a<h.objs.size:=let ⟨_,_,_,_,e,_⟩:=x;aL e
variable {A:bY}{E:aj->ar->Prop}{s:ar}
theorem Jc {g:Bool->Uj Unit}(hg:∀ (b:Bool) (s₁:ar) (Q':Unit->ar->Prop),Q' () s₁->aK (aP prog w) A (g b) Q' E s₁)
  {a:af}{o:gi}{es:Array (Int×aj)}{ep:Nat}{t:iE}(ho:s.heap.get? a=some o) (hd:o.data=.set es ep t)
  {es1:Array (Int×aj)}{t2:iE}(hb1:es1.size<xp) (hf2:t2.fits es1.size=true) (ti:TI t2) {wasDummy:Bool}{R:Option Bool->ar->Prop}
  (h:∀ h' es2 ep2 t3,iL a s.heap h'->h'.get? a=some { o with data:=.set es2 ep2 t3 }->es2.toList.Perm es1.toList->t3.fits es2.size=true->TI t3->t3.led=t2.led->R (some true) { s with heap:=h' }) :
  aK (aP prog w) A (do
    storeSet a es1 t2
    if (!wasDummy && t2.tooFull)=true then do
      g (relayAll t2 es1 (jv es1.size)).2.2
      storeSet a (relayAll t2 es1 (jv es1.size)).1 (relayAll t2 es1 (jv es1.size)).2.1
      pure (some true)
     else pure (some true)) R E s:=by
 refine ae (wpAny_storeSet_of ho hd ?_ (HV hb1))
 have g1:(s.heap.update a (vK es1 t2)).get? a=some { o with data:=.set es1 (ep+1) t2 }:=by
  have:=bE (vK es1 t2) ho (by rw [putSet_of es1 t2 hd];rfl);rw [putSet_of es1 t2 hd] at this;exact this
 have b1:=di s.heap a (vK es1 t2)
 split
 ·have hp:=relayAll_perm t2 es1 (jv es1.size);have hfr:=relayAll_fits t2 es1 (jv es1.size);have tir:=TI.relayAll (t:=t2) es1 (jv es1.size);have lr:=Gw t2 es1 (jv es1.size);generalize relayAll t2 es1 (jv es1.size)=Rl at hp hfr tir lr ⊢;obtain ⟨es2,t3,gave2⟩:=Rl;dsimp only at hp hfr tir lr ⊢
  have hsz:es2.size=es1.size:=by rw [← aO,hp.length_eq,aO]
  refine ae (hg _ _ _ (ae (wpAny_storeSet_of g1 rfl ?_ (HV (by rw [hsz];exact hb1)))));have g2:((s.heap.update a (vK es1 t2)).update a (vK es2 t3)).get? a=some { o with data:=.set es2 (ep+1+1) t3 }:=bE (vK es2 t3) g1 rfl;exact aq (h _ es2 _ t3 (b1.trans (di _ a _)) g2 hp hfr tir lr)
 ·exact aq (h _ es1 _ t2 b1 g1 (uX _) hf2 ti rfl)
theorem Wi {bt:Bool}{a:af}{ks:List Int}{k:Int}{u:Xr}{Q:Bool->ar->Prop}(hS:SO prog w bt s.heap a ks) (hroom:ks.length+1<xp)
  (h:∀ h' ks' b,iL a s.heap h'->SO prog w bt h' a ks'->(∀ x,x∈ks'↔x∈ks\/x=k)->ks'.length<=ks.length+1->Q b { s with heap:=h' }) :
  aK (aP prog w) A (setAddHashed a (.int k u) ((pD prog w).hash k)) Q E s:=by
 obtain ⟨o,es,ep,t,ho,hex,hd,hel,hin,hb,hf,ti,hled,rfl,hnd⟩:=hS;have hsc:(ij k u).scannable=true:=rfl;have hkey:(pD prog w).is k (.int k u)=true:=intKind_is _ _ _ _
 have hisk:∀ e∈es.toList,((pD prog w).is k e.2=true↔key e=k):=λe he=>by
  obtain ⟨v,hv⟩:=hin e he;rw [hv,KeyKind.is_eq_decide (intKind_is prog w (key e) v) k,decide_eq_true_iff];exact eq_comm
 unfold setAddHashed setAddHashedIn;refine cF (ae (jJ ho hd hf ?_));dsimp only;rw [byScan_of hsc hb hel];simp only [↓reduceIte];unfold setAddByScan;refine ae (ae (iM (ae (wpAny_setScan_of hkey ho hd hf hel ?_))))
 cases hr:List.findIdx? (λe=>(pD prog w).is k e.2) es.toList with
 | some j =>
  dsimp only;obtain ⟨hj,hpj,_⟩:=List.findIdx?_eq_some_iff_getElem.mp hr;have hm:k∈es.toList.map key:=bw.mpr ⟨es.toList[j],lR hj,(hisk _ (lR hj)).mp hpj⟩;refine aq (aq ?_)
  have e:s={ s with heap:=s.heap }:=by cases s;rfl
  rw [e]
  exact h s.heap _ _ (Heap.SameBut.refl a s.heap) ⟨o,es,ep,t,ho,hex,hd,hel,hin,hb,hf,ti,hled,rfl,hnd⟩ (λx=>⟨.inl,λq=>q.elim id λe=>e▸hm⟩) (fQ _)
 | none =>
  dsimp only
  have hnm:k∉es.toList.map key:=λhm=>by
   obtain ⟨e,he,ek⟩:=bw.mp hm;have:=List.findIdx?_eq_none_iff.mp hr e he;rw [(hisk e he).mpr ek] at this;exact Bool.noConfusion this
  have hgw:∀ (b:Bool) {s₁:ar} {Q':Unit->ar->Prop},Q' () s₁->aK (aP prog w) A (match b with|true=>DS "set.scan.the-table-gave-way" | false=>pure ()) Q' E s₁ :=
   λb s₁ Q' hq=>by cases b<;>first|exact aq hq|exact iM hq
  have hperm:=layNew_perm t es ((pD prog w).hash k) (.int k u);have hfits:=layNew_fits t es ((pD prog w).hash k) (.int k u);have tin:=ti.layNew es ((pD prog w).hash k) (.int k u);have ledn:=Ld t es ((pD prog w).hash k) (.int k u);generalize layNew t es ((pD prog w).hash k) (.int k u)=L at hperm hfits tin ledn ⊢;obtain ⟨es1,t1,wasDummy,gave⟩:=L;dsimp only at hperm hfits tin ledn ⊢;rw [Bk] at hperm
  have hsz1:es1.size=es.size+1:=by rw [← aO,hperm.length_eq,bq,aO];rfl
  rw [ag,aO] at hroom
  have hb1:es1.size<xp:=by lia
  refine ae (hgw _ ?_)
  have hend:∀ (h':cm) (es2:Array (Int×aj)) (ep2:Nat) (t2 t3:iE),t2.led=t1.led->iL a s.heap h'->h'.get? a=some { o with data:=.set es2 ep2 t3 }->es2.toList.Perm es1.toList->t3.fits es2.size=true->TI t3->t3.led=t2.led->Q true { s with heap:=h' }:=by
   intro h' es2 ep2 t2 t3 l2 sb g2 hp2 hf3 ti3 l3;have hpp:=hp2.trans hperm;have hpk:=hpp.map key;rw [aT] at hpk;have ek:[((pD prog w).hash k,ij k u)].map key=[k]:=rfl;rw [ek] at hpk
   have hs2:es2.size=es.size+1:=by rw [← aO,hp2.length_eq,aO];exact hsz1
   refine h h' (es2.toList.map key) true sb ⟨_,es2,ep2,t3,g2,hex,rfl,(hel.push hkey hsc).perm hpp,λe he=>?_,by lia,hf3,ti3,by rw [l3,l2,ledn,hled],rfl,?_⟩ (λx=>?_) (by rw [ag,ag,aO,aO];lia)
   ·rcases aQ.mp (hpp.mem_iff.mp he) with he|he
    ·exact hin e he
    ·rw [aA.mp he];exact ⟨u,rfl⟩
   ·exact hpk.nodup_iff.mpr (L2.MP hnd hnm)
   ·rw [hpk.mem_iff,aQ,aA]
  split
  ·refine ae ?_;rw [hashByValue_scannable 8 hsc];refine aq ?_;refine Jc (λb s₁ Q' hq=>by cases b<;>first|exact aq hq|exact iM hq) ho hd hb1 ?_ ?_ ?_
   ·split
    ·exact hfits
    ·exact SetTable.fits_plain_off hfits
   ·split
    ·exact tin
    ·exact tin.off
   ·intro h' es2 ep2 t3 q1 q2 q3 q4 q5 q6;dsimp only;refine aq (hend h' es2 ep2 _ t3 ?_ q1 q2 q3 q4 q5 q6)
    split<;>rfl
  ·refine ae (aq ?_);simp only [↓reduceIte];refine Jc (λb s₁ Q' hq=>by cases b<;>first|exact aq hq|exact iM hq) ho hd hb1 hfits tin ?_;intro h' es2 ep2 t3 q1 q2 q3 q4 q5 q6;dsimp only;exact aq (hend h' es2 ep2 _ t3 rfl q1 q2 q3 q4 q5 q6)
end
end Sw
namespace Sw
abbrev bt (w:bQ):Bool:=w.params.followText "set-order"
section
variable {prog:a9}{w:bQ}{A:bY}{E:aj->ar->Prop}{s:ar}
theorem Qq (a:aj) {Q₁:aj->ar->Prop} (h:Q₁ (.ref s.heap.objs.size) { s with heap:=s.heap.push { cls:=.type "set",dict:=none,data:=.set #[] 0 (.fresh 0 0 (!bt w)) } }) :
  kU (aP prog w) A (.call (.builtin "set.__new__") ⟨[.type "set",a],[]⟩) (wants Q₁ E) s:=by
 refine codeAny_of_tree ?_
 show aK _ A.in1 (do checkBuiltinCall "set.__new__" ⟨[.type "set",a],[]⟩;again (.builtin "set.__new__" ⟨[.type "set",a],[]⟩)) _ _ s
 refine ae (KH (F.newCall_set_1 a) (aq ⟨ik F.plain_set_new _,gX F.entry_set_new ?_⟩));rw [eG F.plain_set_new _];unfold kg.«set.__new__» W8;have hsub:=sub_set_self;obtain ⟨hp,g,d,tk,os⟩:=s;dsimp only
 wp_walk
 refine jd (aq ?_);dsimp only;simp only [newObj];refine ae (wpAny_alloc (aq ?_));exact aq h
theorem Tz {R:Fl->ar->Prop}{I:af}{fp wr:List af}{G:Array xj->Array xj->Prop}{n:Nat}{P:Nat->aj->Prop}{St:Nat->ar->Prop}(W:WalksS prog w A.in1 I fp wr G n P St) (S:af) (hSf:S∉fp) (ns:List Int) (hl:ns.length=n) (hval:∀ i v,P i v->∃ k t,ns[i]?=some k/\v=.int k t) (hb:n+1<xp) :
  ∀ (k i:Nat) (s:ar) (ks:List Int),n-i=k->i<=n->St i s->SO prog w (bt w) s.heap S ks->(∀ x,x∈ks↔x∈ns.take i)->ks.length<=i ->
   (∀ s' ks',Moved (S::wr) G s s'->SO prog w (bt w) s'.heap S ks'->(∀ x,x∈ks'↔x∈ns)->ks'.length<=n->R (.ok (.ret .none)) s') ->
   kU (aP prog w) A (.builtin "set.update.loop" ⟨[.ref S,.ref I],[]⟩) R s:=by
 have hSw:S∉wr:=λh=>hSf (W.sub _ h);have hsub:∀ b∈wr,b∈S::wr:=λb hb=>ak _ hb;intro k
 induction k with
 | zero =>
  intro i s ks hk hi hst hS hm0 hle hR
  have hin:i=n:=by lia
  subst hin;refine gX F.entry_set_update_loop ?_;rw [eG F.plain_set_update_loop _]
  show aK _ A.in1 (jQ (.ref I) >>= _) _ _ s
  refine ae (W.done s _ _ hst λs' hm=>?_)
  show aK _ A.in1 (ret eJ) _ _ s'
  exact aq (hR s' ks (hm.mono hsub) (hS.keep λo e=>hm.heap S o hSw e) (λx=>by rw [hm0,← hl,Vm]) hle)
 | succ k ih =>
  intro i s ks hk hi hst hS hm0 hle hR
  have hlt:i<n:=by lia
  refine gX F.entry_set_update_loop ?_;rw [eG F.plain_set_update_loop _]
  show aK _ A.in1 (jQ (.ref I) >>= _) _ _ s
  refine ae (W.item i s _ _ hlt hst λv s' hP hst' hm=>?_);obtain ⟨c,t,hc,rfl⟩:=hval i v hP
  show aK _ A.in1 (nU [ij c t] (setAdd S (.int c t)) >>= _) _ _ s'
  refine ae (cF ?_);unfold setAdd;refine cF ?_;refine ae ((pD prog w).pyHash (k:=c) (intKind_is _ _ _ _) ?_);refine Wi (s:={ s' with toks:=s'.toks+1 }) (hS.keep λo e=>hm.heap S o hSw e) (by lia) λh' ks' b hsb hS2 hmem hlen=>?_;refine aq ⟨ik F.plain_set_update_loop _,ih (i+1) _ ks' (by lia) hlt (W.frame _ s' _ _ hst' (fQ _) λb hb o e=>?_) hS2 (λx=>?_) (by lia) λs'' ks'' hm'' hS'' hmem'' hlen''=>?_⟩
  ·rw [hsb.2 b (λh:b=S=>hSf (by rw [← h];exact hb))];exact e
  ·rw [hmem,hm0,Xx,hc,aQ];simp
  ·refine hR s'' ks'' (OI W.gtrans ((hm.mono hsub).then_heap (fQ _) λb o hb e=>?_) hm'') hS'' hmem'' hlen'';rw [hsb.2 b (λh:b=S=>hb (by rw [h];exact av))];exact e
theorem Qr {l:af}{items:Array aj}{ns:List Int}{Q:aj->ar->Prop}(hh:A.handled=none) (hl:s.heap.IsList l items) (hi:fR items.toList ns) (hb:items.size+1<xp)
  (h:∀ (h':cm) (tk:Nat) (ks:List Int),SO prog w (bt w) h' s.heap.objs.size ks->(∀ x,x∈ks↔x∈ns)->ks.length<=items.size->(∀ b o,s.heap.get? b=some o->h'.get? b=some o)->Q (.ref s.heap.objs.size) { s with heap:=h',toks:=tk }) :
  aK (aP prog w) A (call (.type "set") [.ref l]) Q E s:=by
 obtain ⟨c,tl,hmro⟩:=F.called_set.mro;have hmade:=F.called_set.made;have hsub:=F.called_set.sub;refine OC (codeAny_of_tree ?_)
 show aK _ _ (callAny (.type "set") _) _ _ _
 refine aq ⟨Code.quiet_builtin _ (by decide +kernel),gX F.entry_type_call ?_⟩;rw [Around.under_plain (weight_type_call_type "set" [.ref l] []) rfl];have h1:=F.called_set.notType;have h2:=F.called_set.canCreate;have hct:=F.typeCall_set_1 (.ref l)
 repeat (any_goals (first|assumption|wp_step))
 refine pE (Qq (.ref l) (E:=E) (Q₁:=λobj s₁=>obj=.ref s.heap.objs.size/\s₁={ s with heap:=s.heap.push { cls:=.type "set",dict:=none,data:=.set #[] 0 (.fresh 0 0 (!bt w)) } }) ⟨rfl,rfl⟩) λr s₁ hr=>?_
 cases r with
 | error e=>exact hr
 | ok fl =>
  cases fl with
  | ret obj =>
   obtain ⟨rfl,rfl⟩:=hr;have hS:(s.heap.push { cls:=.type "set",dict:=none,data:=.set #[] 0 (.fresh 0 0 (!bt w)) }).get? s.heap.objs.size=some { cls:=.type "set",dict:=none,data:=.set #[] 0 (.fresh 0 0 (!bt w)) }:=aN _ rfl
   have hT:Shared.TypeIs { s with heap:=s.heap.push { cls:=.type "set",dict:=none,data:=.set #[] 0 (.fresh 0 0 (!bt w)) } } (.ref s.heap.objs.size) "set":=⟨_,hS,rfl⟩
   have hli:=F.called_set.init.lookup;have hbi:=F.called_set.init.bind (.ref s.heap.objs.size)
   repeat (any_goals (first|assumption|wp_step))
   refine pE (codeAny_call_builtin (R:=wants (λr s₂=>r=.none/\∃ h' tk ks,s₂={ s with heap:=h',toks:=tk }/\SO prog w (bt w) h' s.heap.objs.size ks/\(∀ x,x∈ks↔x∈ns)/\ks.length<=items.size/\(∀ b o,s.heap.get? b=some o->h'.get? b=some o)) E) F.called_set.init.plain F.entry_set_init (check_set_init_1 hT ?_)) λr₂ s₂ hr₂=>?_
   ·obtain ⟨ol,hol,hcl,nl,hdl⟩:=hl;obtain ⟨ocls,odict,odata,oslots⟩:=ol;simp only at hcl hdl;subst hcl;subst hdl;have hol':(s.heap.push { cls:=.type "set",dict:=none,data:=.set #[] 0 (.fresh 0 0 (!bt w)) }).get? l=some { cls:=.type "list",dict:=odict,data:=.seq items nl,slots:=oslots }:=ao _ hol;have hsls:=F.sub_list_set;have hslf:=F.sub_list_frozenset
    have hne:(dM "list" == dM "dict")=false:=by decide
    have hl1:(s.heap.push { cls:=.type "set",dict:=none,data:=.set #[] 0 (.fresh 0 0 (!bt w)) }).IsList l items:=⟨_,hol',rfl,nl,rfl⟩
    unfold kg.«set.__init__» noKeywords W9;generalize hPI:OB=PI
    wp_walk
    subst hPI;refine wpAny_pyIter_list hl1 ?_;refine ae (OH ?_);have hlS:l<s.heap.objs.size:=aL hol
    have hh3:A.in1.in1.in1.handled=none:=by simp [hh]
    have hneI:l≠(s.heap.push { cls:=.type "set",dict:=none,data:=.set #[] 0 (.fresh 0 0 (!bt w)) }).objs.size:=by
     rw [ib];exact bf (oC hlS)
    have hSf:s.heap.objs.size∉[(s.heap.push { cls:=.type "set",dict:=none,data:=.set #[] 0 (.fresh 0 0 (!bt w)) }).objs.size,l]:=by
     rw [ib];simp only [ax,aA,dX,or_false,not_or];exact ⟨bf (jR _),eD hlS⟩
    have hlen:=hi.length;rw [aO] at hlen
    have hval:∀ (i:Nat) (v:aj),items[i]?=some v->∃ k t,ns[i]?=some k/\v=.int k t:=λi v hv=>by
     obtain ⟨t,e⟩:=SD hi i v (by rw [dv];exact hv);have hlt:=(cD.mp hv).1
     have:ns[i]?=some (ns.getD i 0):=by rw [List.getD_eq_getElem?_getD,aC (by lia)];rfl
     exact ⟨_,t,this,e⟩
    refine Tz ((Walks.list hh3 _ l hneI items).toS) s.heap.objs.size hSf ns hlen.symm hval hb (items.size-0) 0 _ [] (by lia) (aJ _)
     ⟨⟨_,aN _ rfl,rfl,rfl⟩,(hl1.push _)⟩ ?hS0 (λx=>by simp) (au _) ?hR
    case hS0 =>
     have hget:((s.heap.push { cls:=.type "set",dict:=none,data:=.set #[] 0 (.fresh 0 0 (!bt w)) }).push { cls:=.type "list_iterator",data:=.fields #[.ref l,.int 0 0] }).get? s.heap.objs.size
       = some { cls:=.type "set",dict:=none,data:=.set #[] 0 (.fresh 0 0 (!bt w)) }:=ao _ hS
     exact ⟨_,#[],0,_,hget,⟨rfl,rfl,rfl⟩,rfl,(λe he=>by simp at he),(λe he=>by simp at he),by decide,rfl,TI.fresh _ _ _,rfl,rfl,xv⟩
    case hR =>
     intro s' ks' hm hS' hmem hlen';obtain ⟨h',g',d',tk',os'⟩:=s';have eg:g'=s.gens:=hm.gens;have ed:d'=s.drawn:=hm.drawn;have eo:os'=s.os:=hm.os;subst eg;subst ed;subst eo
     show aK _ _ _ _ _ _
     refine aq ?_
     show aK _ _ (ret eJ) _ _ _
     refine aq ⟨rfl,h',tk',ks',rfl,hS',hmem,hlen',λb o e=>?_⟩;have hb:=aL e;have hb1:b≠s.heap.objs.size:=bf hb
     have hb2:b≠(s.heap.push { cls:=.type "set",dict:=none,data:=.set #[] 0 (.fresh 0 0 (!bt w)) }).objs.size:=by
      rw [ib];exact bf (oC hb)
     exact hm.heap b o (by simp only [ax,aA,dX,or_false,not_or];exact ⟨hb1,hb2⟩) (ao _ (ao _ e))
   ·cases r₂ with
    | error e=>exact hr₂
    | ok fl₂ =>
     cases fl₂ with
     | ret r =>
      obtain ⟨rfl,h',tk,ks,rfl,hS',hm',hl',hk'⟩:=hr₂
      repeat (any_goals (first|assumption|wp_step))
      exact h _ _ _ hS' hm' hl' hk'
     | _=>exact hr₂.elim
  | _=>exact hr.elim
end
end Sw
namespace Sw
theorem Jd:Manifest.owners.lookup (String.ofList ['r','o','t','a','r','e','t','i','_','t','e','s'].reverse)=some Manifest.sig_set_iterator:=by kernel_rfl
theorem fI:Slot "set_iterator" "__next__" "set_iterator.__next__" :=
 .of (owner:="set_iterator") (n:="__next__") (by rw [nW,jl];kernel_rfl) (by decide +kernel) (by decide +kernel) (by decide +kernel)
  (by first|exact .inl (by decide +kernel)|exact .inr (by decide +kernel)) (by rw [Bl];kernel_rfl)
theorem nS:entryFor table "set_iterator.__next__"=some kg.«set_iterator.__next__»:=entryFor_of_tree (by kernel_rfl)
theorem pe (a:aj):argsOk "set_iterator.__next__" ⟨[a],[]⟩:=by
 unfold argsOk;rw [signature?_of (id:="set_iterator.__next__") (n:=['_','_','t','x','e','n','_','_']) (o:=['r','o','t','a','r','e','t','i','_','t','e','s']) (by kernel_rfl) Jd];kernel_rfl
theorem xU:Slot "set_iterator" "__iter__" "set_iterator.__iter__" :=
 .of (owner:="set_iterator") (n:="__iter__") (by rw [nW,jl];kernel_rfl) (by decide +kernel) (by decide +kernel) (by decide +kernel)
  (by first|exact .inl (by decide +kernel)|exact .inr (by decide +kernel)) (by rw [Bl];kernel_rfl)
theorem Gx (a:aj):argsOk "set_iterator.__iter__" ⟨[a],[]⟩:=by
 unfold argsOk;rw [signature?_of (id:="set_iterator.__iter__") (n:=['_','_','r','e','t','i','_','_']) (o:=['r','o','t','a','r','e','t','i','_','t','e','s']) (by kernel_rfl) Jd];kernel_rfl
theorem Eb:entryFor table "set_iterator.__iter__"=some kg.«dict_keyiterator.__iter__» :=
 entryFor_alias (id':="dict_keyiterator.__iter__") (by kernel_rfl) rfl (by decide +kernel) (by kernel_rfl)
theorem Co:entryFor table "set.__iter__"=some kg.«frozenset.__iter__» :=
 entryFor_alias (id':="frozenset.__iter__") (by kernel_rfl) rfl (by decide +kernel) (by kernel_rfl)
theorem Cp {α:Type} {l:List α}{i:Nat}(h:i<l.length):(l[i]::l.eraseIdx i).Perm l:=by
 rw [List.eraseIdx_eq_take_drop_succ]
 have e:l=l.take i++l[i]::l.drop (i+1):=by rw [List.getElem_cons_drop,fq]
 conv=>rhs;rw [e]
 exact DZ.symm
theorem FM {α:Type} (next:Nat->Nat):∀ (fuel k:Nat) (left:List α) (out:Array α),fuel=left.length->(HW next fuel k left out).toList.Perm (out.toList++left)
 | 0,k,left,out,h=>by
  have:left=[]:=j9 h.symm
  subst this;simp [HW]
 | fuel+1,k,left,out,h=>by
  unfold HW;have hlt:next k%left.length<left.length:=Nat.mod_lt _ (by lia);rw [aC hlt];dsimp only;refine (FM next fuel _ _ _ (by rw [O1];simp [hlt];lia)).trans ?_;rw [Bk,dg];refine nr _ ?_;exact Cp hlt
def yF (h:cm) (it:af) (first:aj) (i:Nat) (a:af) (n ep:Nat):Prop:=∃ o,h.get? it=some o/\o.cls=.type "set_iterator"/\o.data=.fields #[first,cB i,.ref a,cB n,cB ep]
theorem yF.keep {h h':cm}{it a:af}{first:aj}{i n ep:Nat}(x:yF h it first i a n ep) (k:∀ o,h.get? it=some o->h'.get? it=some o):yF h' it first i a n ep:=let ⟨o,e,r⟩:=x;⟨o,k o e,r⟩
def RS (h:cm) (a:af) (es:Array (Int×aj)) (ep:Nat) (t:iE):Prop:=∃ o,h.get? a=some o/\o.ExactSet/\o.data=.set es ep t/\t.fits es.size=true
theorem RS.keep {h h':cm}{a:af}{es:Array (Int×aj)}{ep:Nat}{t:iE}(x:RS h a es ep t) (k:∀ o,h.get? a=some o->h'.get? a=some o):RS h' a es ep t:=let ⟨o,e,r⟩:=x;⟨o,k o e,r⟩
section
variable {prog:a9}{w:bQ}{A:bY}{E:aj->ar->Prop}{s:ar}{it a:af}{es:Array (Int×aj)}{ep n:Nat}{t:iE}
theorem M0 {first:aj}{i:Nat}{Q:aj->ar->Prop}(x:yF s.heap it first i a n ep) (h:Q (.ref it) s):aK (aP prog w) A (OB (.ref it)) Q E s:=by
 have hT:s.TypeIs (.ref it) "set_iterator":=let ⟨o,e,c,_⟩:=x;⟨o,e,c⟩
 refine HS hT xU (cW xU hT Eb ?_ (Gx _))
 show aK _ _ (ret (.ref it)) _ _ s
 exact aq ⟨_,rfl,"set_iterator",_,hT,fI.lookup,h⟩
def Ord (w:bQ) (a:af) (es:Array (Int×aj)) (ep:Nat) (t:iE) (vs:List aj) (sl:Nat->Nat):Prop :=
 sl 0=0/\vs.length=es.size/\((bt w=true/\vs=(BC (w.params.setOrder a ep) es).toList.map (·.2)/\∀ i,sl i=0) \/
  (bt w=false/\vs=es.toList.map (·.2)/\(!t.plain && decide (es.size>1))=false/\(t.led=true)/\z7 t.place/\∀ i p,t.place[i]?=some p->sl (i+1)=p+1))
theorem NY {i:Nat}{v:aj}{vs:List aj}{sl:Nat->Nat}{Q:Option aj->ar->Prop}(x:yF s.heap it (cB (sl i)) i a es.size ep) (r:RS s.heap a es ep t) (o:Ord w a es ep t vs sl) (hv:vs[i]?=some v)
  (q:∀ h',yF h' it (cB (sl (i+1))) (i+1) a es.size ep->iL it s.heap h'->Q (some v) { s with heap:=h' }):aK (aP prog w) A (jQ (.ref it)) Q E s:=by
 have hT:s.TypeIs (.ref it) "set_iterator":=let ⟨o,e,c,_⟩:=x;⟨o,e,c⟩
 obtain ⟨ob,g,gc,gd⟩:=x;obtain ⟨oa,ra,rx,rd,rf⟩:=r;unfold jQ;refine ae (i4 (dH (name:=iN "__next__") hT fI (cW fI hT nS ?_ (pe _))));unfold kg.«set_iterator.__next__»;refine ae (m:=OL "__next__" 0 _) (aq ?_);refine ae (pL g gd ?_)
 show aK _ _ (OM a >>= _) _ _ s
 refine ae (nh ra rd rf ?_);rw [if_neg (by simp)]
 show aK _ _ (Nw a ((sl i:Nat):Int).toNat ((i:Nat):Int).toNat ((ep:Nat):Int).toNat >>= _) _ _ s
 simp only [iA]
 have nxt:aK (aP prog w) A.in1 (Nw a (sl i) i ep) (λz s'=>z=some (v,sl (i+1))/\s'=s) (λ_ _=>False) s:=by
  unfold Nw;refine ae (jJ ra rd rf ?_);dsimp only;refine ae ?_;unfold Fs;refine ae (jd (aq ?_));obtain ⟨o0,o1,⟨b1,b2,b3⟩|⟨b1,b2,b3,b4,b5,b6⟩⟩:=o
  ·have b1':(({ program:=(aP prog w).prog,params:=(aP prog w).w.params }:Setting).params.followText "set-order")=true:=b1;rw [b1'];simp only [↓reduceIte];rw [if_neg (by simp)];refine ae ?_;unfold setWalk;refine ae (jJ ra rd rf ?_);dsimp only;refine ae ?_;unfold Fs;refine ae (jd (aq ?_));rw [b1'];simp only [↓reduceIte];refine ae (jd (aq (aq ⟨?_,rfl⟩)));have hv':=hv;rw [b2,aD,dv] at hv'
   show yW (λe=>(e.2,sl i)) (BC (w.params.setOrder a ep) es)[i]?=_
   obtain ⟨e,he,ev⟩:=bx.mp hv';rw [he,b3 i,b3 (i+1)];simp [ev]
  ·have b1':(({ program:=(aP prog w).prog,params:=(aP prog w).w.params }:Setting).params.followText "set-order")=false:=b1;rw [b1'];simp only [bX,↓reduceIte];refine jE (λhd=>absurd (show (!t.plain && decide (es.size>1))=true from hd) (by rw [b3];decide)) (λ_=>ae ?_)
   show aK _ _ (if (!t.led && !es.isEmpty)=true then _ else _) _ _ _
   rw [if_neg (by rw [b4];simp)];refine aq (aq ⟨?_,rfl⟩)
   have hlt:i<es.size:=by rw [← o1];exact (aB.mp hv).1
   have hfs:t.place.size=es.size:=by
    have:=rf;unfold Uu at this;simp at this;exact this.1
   have hp:t.place[i]?=some (t.place[i]'(by lia)):=cf _
   have hbel:dN t.place (sl i)=i:=by
    refine Ja b5 ?_
    cases i with
    | zero=>exact .inl ⟨rfl,o0⟩
    | succ k =>
     have hk:t.place[k]?=some (t.place[k]'(by lia)):=cf _;exact .inr ⟨k,rfl,_,hk,b6 k _ hk⟩
   rw [hbel,hp,b6 i _ hp];rw [b2,aD,dv] at hv;obtain ⟨e,he,ev⟩:=bx.mp hv;rw [he];obtain ⟨e1,e2⟩:=e;simp at ev;simp [ev]
 refine ae (dZ nxt (λz s' hz=>?_) λ_ _ x=>x.elim);obtain ⟨rfl,rfl⟩:=hz;dsimp only;have g1:=bE (pT (·.setIfInBounds 0 (cB ((sl (i+1):Nat):Int)))) g (kY (dm gd _));refine ae (kj g gd (by simp) (ae (kj g1 (dm gd _) (by simp) ?_)));have g2:=bE (pT (·.setIfInBounds 1 (cB ((i:Int)+1)))) g1 (kY (dm (dm gd _) _));refine aq ⟨_,rfl,aq (q _ ⟨_,g2,(tM ..).trans ((tM ..).trans gc),?_⟩ ((di ..).trans (di ..)))⟩;rw [dm (dm gd _)];simp [cB]
theorem Qs {vs:List aj}{sl:Nat->Nat}{Q:Option aj->ar->Prop}(hh:A.handled=none) (x:yF s.heap it (cB (sl vs.length)) vs.length a es.size ep) (r:RS s.heap a es ep t) (o:Ord w a es ep t vs sl)
  (q:∀ h',O0 it s.heap h'->Q none { s with heap:=h' }):aK (aP prog w) A (jQ (.ref it)) Q E s:=by
 have hT:s.TypeIs (.ref it) "set_iterator":=let ⟨o,e,c,_⟩:=x;⟨o,e,c⟩
 obtain ⟨ob,g,gc,gd⟩:=x;obtain ⟨oa,ra,rx,rd,rf⟩:=r;unfold jQ;refine ae (i4 (dH (name:=iN "__next__") hT fI (cW fI hT nS ?_ (pe _))));unfold kg.«set_iterator.__next__»;refine ae (m:=OL "__next__" 0 _) (aq ?_);refine ae (pL g gd ?_)
 show aK _ _ (OM a >>= _) _ _ s
 refine ae (nh ra rd rf ?_);rw [if_neg (by simp)]
 show aK _ _ (Nw a ((sl vs.length:Nat):Int).toNat ((vs.length:Nat):Int).toNat ((ep:Nat):Int).toNat >>= _) _ _ s
 simp only [iA]
 have nxt:aK (aP prog w) A.in1 (Nw a (sl vs.length) vs.length ep) (λz s'=>z=none/\s'=s) (λ_ _=>False) s:=by
  unfold Nw;refine ae (jJ ra rd rf ?_);dsimp only;refine ae ?_;unfold Fs;refine ae (jd (aq ?_));obtain ⟨o0,o1,⟨b1,b2,b3⟩|⟨b1,b2,b3,b4,b5,b6⟩⟩:=o
  ·have b1':(({ program:=(aP prog w).prog,params:=(aP prog w).w.params }:Setting).params.followText "set-order")=true:=b1;rw [b1'];simp only [↓reduceIte];rw [if_neg (by simp)];refine ae ?_;unfold setWalk;refine ae (jJ ra rd rf ?_);dsimp only;refine ae ?_;unfold Fs;refine ae (jd (aq ?_));rw [b1'];simp only [↓reduceIte];refine ae (jd (aq (aq ⟨?_,rfl⟩)))
   show yW (λe=>(e.2,sl vs.length)) (BC (w.params.setOrder a ep) es)[vs.length]?=_
   rw [j8 (by have h:=o1;rw [b2,ag,aO] at h;rw [o1];exact l0 h)]
   rfl
  ·have b1':(({ program:=(aP prog w).prog,params:=(aP prog w).w.params }:Setting).params.followText "set-order")=false:=b1;rw [b1'];simp only [bX,↓reduceIte];refine jE (λhd=>absurd (show (!t.plain && decide (es.size>1))=true from hd) (by rw [b3];decide)) (λ_=>ae ?_)
   show aK _ _ (if (!t.led && !es.isEmpty)=true then _ else _) _ _ _
   rw [if_neg (by rw [b4];simp)];refine aq (aq ⟨?_,rfl⟩)
   have hfs:t.place.size=es.size:=by
    have:=rf;unfold Uu at this;simp at this;exact this.1
   have hbel:dN t.place (sl vs.length)=vs.length:=by
    refine Ja b5 ?_
    cases e:vs.length with
    | zero=>exact .inl ⟨rfl,o0⟩
    | succ k =>
     have hk:t.place[k]?=some (t.place[k]'(by lia)):=cf _;exact .inr ⟨k,rfl,_,hk,b6 k _ hk⟩
   rw [hbel,j8 (by lia)]
 refine ae (dZ nxt (λz s' hz=>?_) λ_ _ x=>x.elim);obtain ⟨rfl,rfl⟩:=hz;dsimp only;refine ae (kj g gd (by simp) ?_)
 show aK _ _ (Uo (.type "StopIteration") [] >>= _) _ _ _
 refine ae ?_;simp only [Uo,newTuple];refine ae (cp ?_ (by size_fits));refine ae (m:=pM _ _) (KH (a:=eJ) (by first|rfl|(simp only [pM];rfl)) ?_);refine cp ?_ (by size_fits);simp only [raiseNew];refine ae (Se ?_);rw [show A.in1.handled=none from hh];refine ae (aq (W7 ?_));refine ae (mX (T:="StopIteration") (b:=true) ⟨_,aN _ rfl,rfl⟩ Bj ?_);exact aq (q _ (((di ..).extBut.push _).push _))
theorem NZ (hh:A.handled=none) (I a:af) (hne:a≠I) {vs:List aj}{sl:Nat->Nat}(o:Ord w a es ep t vs sl) :
  Walks prog w A I [I,a] [I] vs.length (λi v=>vs[i]?=some v) (λi h=>yF h I (cB (sl i)) i a es.size ep/\RS h a es ep t) where
 sub:=λb hb=>by simp at hb;simp [hb]
 frame:=λ_ _ _ st hk=>⟨st.1.keep λo e=>hk I (by simp) o e,st.2.keep λo e=>hk a (by simp) o e⟩
 item:=λi s Q E hi st hQ=>by
  have hv:vs[i]?=some vs[i]:=aC hi;exact NY st.1 st.2 o hv λh' x' hs'=>hQ _ h' s.toks hv ⟨x',st.2.keep λo e=>hs'.extBut a o hne e⟩ λb o hb e=>hs'.extBut b o (λh=>hb (by simp [h])) e
 done:=λs Q E st hQ=>Qs hh st.1 st.2 o λh' he=>hQ h' s.toks λb o hb e=>he b o (λh=>hb (by simp [h])) e
 self:=λ_ _ _ _ st hQ=>M0 st.1 hQ
end
end Sw
namespace Sw
section
variable {prog:a9}{w:bQ}{A:bY}{E:aj->ar->Prop}{s:ar}{it a:af}{es:Array (Int×aj)}{ep n:Nat}{t:iE}
theorem N0 {M:Model}{src:Source}{k:Nat}{Q:Nat->ar->Prop}(hk:k≠0) (h:∀ i d,i<k->Q i { s with drawn:=d }):aK M A (choose src k) Q E s :=
 λΓ p hΓ=>⟨hk,h _ _ (Nat.mod_lt _ (Uv hk))⟩
theorem M1 {α:Type}:∀ (k:Nat) (xs:List α) {s:ar}{Q:List α->ar->Prop},xs.length=k->(∀ ys d,ys.Perm xs->Q ys { s with drawn:=d })->aK (aP prog w) A (drawOrder k xs) Q E s
 | 0,xs,s,Q,hl,h=>by
  have:xs=[]:=j9 hl;subst this
  exact aq (h [] s.drawn (uX _))
 | k+1,[],s,Q,hl,h=>by simp at hl
 | k+1,x::xs,s,Q,hl,h=>by
  unfold drawOrder;refine ae (N0 (by simp) λi d hi=>?_);rw [aC hi];dsimp only;refine ae (M1 k _ (by rw [O1,if_pos hi];lia) λys d' hp=>aq (h _ d' ?_));exact (hp.cons _).trans (Cp hi)
structure Dr (h:cm) (T:af) (es:Array (Int×aj)) (ord:List Nat) (vs:List aj):Prop where
 tup:∃ o,h.get? T=some o/\o.data=.seq (ord.map λ(i:Nat)=>cB (i:Int)).toArray 0
 len:vs.length=ord.length
 at_:∀ (i:Nat) p,ord[i]?=some p->∃ e,es[p]?=some e/\vs[i]?=some e.2
theorem TB {T:af}{ord:List Nat}{i:Nat}{v:aj}{vs:List aj}{Q:Option aj->ar->Prop}(x:yF s.heap it (.ref T) i a es.size ep) (r:RS s.heap a es ep t) (o:Dr s.heap T es ord vs) (hv:vs[i]?=some v)
  (q:∀ h',yF h' it (.ref T) (i+1) a es.size ep->iL it s.heap h'->Q (some v) { s with heap:=h' }):aK (aP prog w) A (jQ (.ref it)) Q E s:=by
 have hT:s.TypeIs (.ref it) "set_iterator":=let ⟨o,e,c,_⟩:=x;⟨o,e,c⟩
 obtain ⟨ob,g,gc,gd⟩:=x;obtain ⟨oa,ra,rx,rd,rf⟩:=r;obtain ⟨⟨ot,gt,gtd⟩,ol,oat⟩:=o
 have hi:i<ord.length:=by rw [← ol];exact (aB.mp hv).1
 obtain ⟨e,he,hve⟩:=oat i _ (aC hi);rw [hv] at hve;cases hve;unfold jQ;refine ae (i4 (dH (name:=iN "__next__") hT fI (cW fI hT nS ?_ (pe _))));unfold kg.«set_iterator.__next__»;refine ae (m:=OL "__next__" 0 _) (aq ?_);refine ae (pL g gd ?_)
 show aK _ _ (OM a >>= _) _ _ s
 refine ae (nh ra rd rf ?_);rw [if_neg (by simp)]
 show aK _ _ (BD (.ref T) >>= _) _ _ s
 have sq:aK (aP prog w) A.in1 (BD (.ref T)) (λz s'=>z=some (ord.map λ(i:Nat)=>cB (i:Int)).toArray/\s'=s) (λ_ _=>False) s:=by
  unfold BD;refine ae (Fk gt ?_);rw [gtd];exact aq ⟨rfl,rfl⟩
 refine ae (dZ sq (λz s' hz=>?_) λ_ _ x=>x.elim);obtain ⟨rfl,rfl⟩:=hz;dsimp only
 have hpi:(ord.map λ(i:Nat)=>cB (i:Int)).toArray[((i:Nat):Int).toNat]?=some (cB (ord[i]:Int)):=by
  rw [iA,we,aD,aC hi];rfl
 show aK _ _ (match (ord.map λ(i:Nat)=>cB (i:Int)).toArray[((i:Nat):Int).toNat]? with|some (.int place _)=>_|some _=>_|none=>_) _ _ _
 rw [hpi]
 show aK _ _ (setNextDrawn a ((ord[i]:Nat):Int).toNat ((ep:Nat):Int).toNat >>= _) _ _ _
 simp only [iA];refine ae ?_;unfold setNextDrawn;refine ae (jJ ra rd rf ?_);dsimp only;rw [if_neg (by simp),he];refine aq (ae (kj g gd (by simp) ?_));have g1:=bE (pT (·.setIfInBounds 1 (cB ((i:Int)+1)))) g (kY (dm gd _));refine aq ⟨_,rfl,aq (q _ ⟨_,g1,(tM ..).trans gc,?_⟩ (di ..))⟩;rw [dm gd];simp [cB]
theorem zc {T:af}{ord:List Nat}{vs:List aj}{Q:Option aj->ar->Prop}(hh:A.handled=none) (x:yF s.heap it (.ref T) vs.length a es.size ep) (r:RS s.heap a es ep t) (o:Dr s.heap T es ord vs)
  (q:∀ h',O0 it s.heap h'->Q none { s with heap:=h' }):aK (aP prog w) A (jQ (.ref it)) Q E s:=by
 have hT:s.TypeIs (.ref it) "set_iterator":=let ⟨o,e,c,_⟩:=x;⟨o,e,c⟩
 obtain ⟨ob,g,gc,gd⟩:=x;obtain ⟨oa,ra,rx,rd,rf⟩:=r;obtain ⟨⟨ot,gt,gtd⟩,ol,oat⟩:=o;unfold jQ;refine ae (i4 (dH (name:=iN "__next__") hT fI (cW fI hT nS ?_ (pe _))));unfold kg.«set_iterator.__next__»;refine ae (m:=OL "__next__" 0 _) (aq ?_);refine ae (pL g gd ?_)
 show aK _ _ (OM a >>= _) _ _ s
 refine ae (nh ra rd rf ?_);rw [if_neg (by simp)]
 show aK _ _ (BD (.ref T) >>= _) _ _ s
 have sq:aK (aP prog w) A.in1 (BD (.ref T)) (λz s'=>z=some (ord.map λ(i:Nat)=>cB (i:Int)).toArray/\s'=s) (λ_ _=>False) s:=by
  unfold BD;refine ae (Fk gt ?_);rw [gtd];exact aq ⟨rfl,rfl⟩
 refine ae (dZ sq (λz s' hz=>?_) λ_ _ x=>x.elim);obtain ⟨rfl,rfl⟩:=hz;dsimp only
 have hpi:(ord.map λ(i:Nat)=>cB (i:Int)).toArray[((vs.length:Nat):Int).toNat]?=none:=by
  rw [iA,we,aD,dA (by lia)];rfl
 show aK _ _ (match (ord.map λ(i:Nat)=>cB (i:Int)).toArray[((vs.length:Nat):Int).toNat]? with|some (.int place _)=>_|some _=>_|none=>_) _ _ _
 rw [hpi];dsimp only;have g1:=bE (pT (·.setIfInBounds 0 (cB 0))) g (kY (dm gd _));refine ae (kj g gd (by simp) (ae (kj g1 (dm gd _) (by simp) ?_)))
 show aK _ _ (Uo (.type "StopIteration") [] >>= _) _ _ _
 refine ae ?_;simp only [Uo,newTuple];refine ae (cp ?_ (by size_fits));refine ae (m:=pM _ _) (KH (a:=eJ) (by first|rfl|(simp only [pM];rfl)) ?_);refine cp ?_ (by size_fits);simp only [raiseNew];refine ae (Se ?_);rw [show A.in1.handled=none from hh];refine ae (aq (W7 ?_));refine ae (mX (T:="StopIteration") (b:=true) ⟨_,aN _ rfl,rfl⟩ Bj ?_);exact aq (q _ ((((di ..).trans (di ..)).extBut.push _).push _))
theorem Qt (hh:A.handled=none) (I a T:af) (hne:a≠I) (hnT:T≠I) {ord:List Nat}{vs:List aj} :
  Walks prog w A I [I,a,T] [I] vs.length (λi v=>vs[i]?=some v) (λi h=>yF h I (.ref T) i a es.size ep/\RS h a es ep t/\Dr h T es ord vs) where
 sub:=λb hb=>by simp at hb;simp [hb]
 frame:=λ_ _ _ st hk=>⟨st.1.keep λo e=>hk I (by simp) o e,st.2.1.keep λo e=>hk a (by simp) o e,let ⟨o,e,d⟩:=st.2.2.tup;⟨⟨o,hk T (by simp) o e,d⟩,st.2.2.len,st.2.2.at_⟩⟩
 item:=λi s Q E hi st hQ=>by
  have hv:vs[i]?=some vs[i]:=aC hi;exact TB st.1 st.2.1 st.2.2 hv λh' x' hs'=>hQ _ h' s.toks hv ⟨x',st.2.1.keep λo e=>hs'.extBut a o hne e,let ⟨o,e,d⟩:=st.2.2.tup;⟨⟨o,hs'.extBut T o hnT e,d⟩,st.2.2.len,st.2.2.at_⟩⟩ λb o hb e=>hs'.extBut b o (λh=>hb (by simp [h])) e
 done:=λs Q E st hQ=>zc hh st.1 st.2.1 st.2.2 λh' he=>hQ h' s.toks λb o hb e=>he b o (λh=>hb (by simp [h])) e
 self:=λ_ _ _ _ st hQ=>M0 st.1 hQ
theorem Qu {ks:List Int}{Q:aj->ar->Prop}(hh:A.handled=none) (hS:SO prog w (bt w) s.heap a ks)
  (q:∀ I h1 d (vs:List aj) (ns:List Int) fp St,Walks prog w A I fp [I] vs.length (λi v=>vs[i]?=some v) St->St 0 h1->(∀ b o,s.heap.get? b=some o->h1.get? b=some o)->I∈fp->(∀ b∈fp,b=a\/s.heap.objs.size<=b)->s.heap.objs.size<=I->fR vs ns->ns.Perm ks->Q (.ref I) { s with heap:=h1,drawn:=d }) :
  aK (aP prog w) A (OB (.ref a)) Q E s:=by
 have hlt:=hS.lt;obtain ⟨o,es,ep,t,ho,hex,hd,hel,hin,hb,hf,ti,hled,rfl,hnd⟩:=hS
 have hT:s.TypeIs (.ref a) "set":=⟨o,ho,hex.1⟩
 have hints:∀ {l:List (Int×aj)},(∀ e∈l,∃ u,e.2=.int (key e) u)->fR (l.map (·.2)) (l.map key):=by
  intro l
  induction l with
  | nil=>intro _;exact .nil
  | cons e l ih =>
   intro h;obtain ⟨u,eu⟩:=h e av;rw [bT,bT,eu];exact .cons _ _ (ih λe' he'=>h e' (ak _ he'))
 refine HS hT F.slot_set_iter (cW F.slot_set_iter hT Co ?_ (F.args_set_iter_1 _));unfold kg.«frozenset.__iter__» Xa OL;simp only [List.isEmpty_nil,Bool.not_true,bX,↓reduceIte,bind_assoc,mV,bne_self_eq_false];unfold Xb Xc;refine ae (aq ?_)
 try dsimp only
 refine ae (aq ?_);refine ae (ae (nh ho hd hf (aq ?_)));refine ae ?_;unfold setDrawn;refine ae (jJ ho hd hf ?_);dsimp only;refine ae ?_;unfold Fs;refine ae (jd (aq (aq ?_)));have hz:es.size<=aY:=HV hb
 have hrs:RS s.heap a es ep t:=⟨o,ho,hex,hd,hf⟩
 refine jE (λhdr=>?_) (λhdr=>?_)
 ·refine ae (M1 es.size (fz es.size) jm λord d hp=>?_)
  have hol:ord.length=es.size:=by rw [hp.length_eq,jm]
  refine ae (Bi ?_ (by rw [ag,hol];exact hz));have k1:∀ b ob,s.heap.get? b=some ob->(s.heap.push (b9 "tuple" (ord.map λ(i:Nat)=>cB (i:Int)).toArray 0)).get? b=some ob:=λb ob e=>ao _ e;have gT:(s.heap.push (b9 "tuple" (ord.map λ(i:Nat)=>cB (i:Int)).toArray 0)).get? s.heap.objs.size=some (b9 "tuple" (ord.map λ(i:Nat)=>cB (i:Int)).toArray 0):=aN _ rfl;have hsz:(s.heap.push (b9 "tuple" (ord.map λ(i:Nat)=>cB (i:Int)).toArray 0)).objs.size=s.heap.objs.size+1:=ib ..;generalize s.heap.push (b9 "tuple" (ord.map λ(i:Nat)=>cB (i:Int)).toArray 0)=h0 at k1 gT hsz;refine ae (wpAny_setEpoch_of (s:={ s with heap:=h0,drawn:=d }) (k1 _ _ ho) hd hf ?_);unfold newFields;refine ae (cp (aq ⟨_,rfl,"set_iterator",_,⟨_,aN _ rfl,rfl⟩,fI.lookup,?_⟩))
  have hmem:∀ p∈ord,p<es.size:=λp hpm=>by simpa using hp.mem_iff.mp hpm
  have hget:∀ p,p<es.size->es[p]?=some (es.getD p (0,.none)):=λp hp'=>by rw [cf hp'];simp [Sh,hp']
  have hperm:(ord.map λp=>es.getD p (0,.none)).Perm es.toList:=by
   refine (hp.map _).trans ?_
   have:(fz es.size).map (λp=>es.getD p (0,.none))=es.toList:=by
    apply nX
    intro i;rw [aD]
    by_cases hi:i<es.size
    ·rw [List.getElem?_range hi,dv,hget i hi];rfl
    ·rw [dA (by rw [jm];lia),dA (by rw [aO];lia)];rfl
   rw [this]
  have hsub:∀ e∈ord.map (λp=>es.getD p (0,.none)),∃ u,e.2=.int (key e) u:=λe he=>hin e (hperm.mem_iff.mp he)
  have hst:yF (h0.push { cls:=.type "set_iterator",data:=.fields [aF s.heap.objs.size,cB 0,.ref a,cB es.size,cB ep].toArray }) h0.objs.size (.ref s.heap.objs.size) 0 a es.size ep:=⟨_,aN _ rfl,rfl,rfl⟩
  have haI:a≠h0.objs.size:=by rw [hsz];exact bf (oC hlt)
  have hTI:s.heap.objs.size≠h0.objs.size:=by rw [hsz];exact bf (jR _)
  refine q h0.objs.size _ d ((ord.map λp=>es.getD p (0,.none)).map (·.2)) ((ord.map λp=>es.getD p (0,.none)).map key) [h0.objs.size,a,s.heap.objs.size] _ (Qt (es:=es) (ep:=ep) (t:=t) (ord:=ord) hh h0.objs.size a s.heap.objs.size haI hTI) ⟨hst,hrs.keep λob e=>ao _ (k1 _ _ e),⟨_,ao _ gT,rfl⟩,by rw [ag,ag],λi p hip=>?_⟩
   (λb ob e=>ao _ (k1 _ _ e)) (by simp) (λb hb'=>?_) (by rw [hsz];exact fQ _) (hints hsub) (hperm.map key)
  ·have hpl:=hmem p (aW hip);exact ⟨_,hget p hpl,by rw [aD,aD,hip];rfl⟩
  ·simp only [ax,dX,or_false] at hb'
   rcases hb' with rfl|rfl|rfl
   ·exact .inr (by rw [hsz];exact fQ _)
   ·exact .inl rfl
   ·exact .inr (au _)
 ·refine ae (aq (ae (wpAny_setEpoch_of ho hd hf ?_)));unfold newFields;refine ae (cp (aq ⟨_,rfl,"set_iterator",_,⟨_,aN _ rfl,rfl⟩,fI.lookup,?_⟩))
  have hst:yF (s.heap.push { cls:=.type "set_iterator",data:=.fields [cB 0,cB 0,.ref a,cB es.size,cB ep].toArray }) s.heap.objs.size (cB 0) 0 a es.size ep:=⟨_,aN _ rfl,rfl,rfl⟩
  obtain ⟨vs,sl,ns,hord,hiv,hpn⟩:∃ vs sl ns,Ord w a es ep t vs sl/\fR vs ns/\ns.Perm (es.toList.map key):=by
   by_cases hbt:bt w=true
   ·have hpp:=FM (w.params.setOrder a ep) es.size 0 es.toList #[] (aO).symm;rw [show (#[]:Array (Int×aj)).toList++es.toList=es.toList by simp] at hpp;have hpp:(BC (w.params.setOrder a ep) es).toList.Perm es.toList:=hpp;exact ⟨(BC (w.params.setOrder a ep) es).toList.map (·.2),λ_=>0,(BC (w.params.setOrder a ep) es).toList.map key,⟨rfl,by rw [ag,hpp.length_eq,aO],.inl ⟨hbt,rfl,λ_=>rfl⟩⟩,hints λe he=>hin e (hpp.mem_iff.mp he),hpp.map key⟩
   ·have hbf:bt w=false:=by cases h:bt w<;>simp_all
    refine ⟨es.toList.map (·.2),λi=>match i with|0=>0|k+1=>t.place.getD k 0+1,es.toList.map key,⟨rfl,by rw [ag,aO],.inr ⟨hbf,rfl,?_,by rw [hled,hbf];rfl,ti.rise,λi p hp=>?_⟩⟩,hints hin,uX _⟩
    ·cases hx:(!t.plain && decide (es.size>1)) with
     | false=>rfl
     | true =>
      refine absurd ?_ hdr
      show (!(w.params.followText "set-order") && (!t.plain && decide (es.size>1)))=true
      rw [hx,show w.params.followText "set-order"=false from hbf];rfl
    ·have:=(cD.mp hp)
     obtain ⟨hlt',e⟩:=this
     show t.place.getD i 0+1=p+1
     simp [Sh,hlt',e]
  have h0:=hord.1;refine q s.heap.objs.size _ s.drawn vs ns [s.heap.objs.size,a] _ (NZ hh s.heap.objs.size a (bf hlt) hord) ⟨by rw [h0];exact hst,hrs.keep λob e=>ao _ e⟩ (λb ob e=>ao _ e) (by simp) (λb hb'=>?_) (au _) hiv hpn;simp only [ax,dX,or_false] at hb'
  rcases hb' with rfl|rfl
  ·exact .inr (au _)
  ·exact .inl rfl
end
end Sw
namespace Sw
open PySem PySem.Spec PyProof.Rows PySem.W
section
variable {prog:a9}{w:bQ}{A:bY}{E:aj->ar->Prop}{s:ar}{a:af}
theorem Qv {Q:Bool->ar->Prop}(hT:s.TypeIs (.ref a) "set") (h:Q false s):aK (aP prog w) A (fo (.ref a)) Q E s:=by
 unfold fo;refine ae (si hT PySem.F.slot_set_len.lookup ?_);generalize hid:("set.__len__":String)=id0
 wp_delta
 rw [show splitId id0=some ("set","__len__") from by subst hid;decide +kernel];subst hid;refine ae (mX (T:="set") (b:=true) hT (by rw [Bl];kernel_rfl) ?_);refine jE (λhab=>absurd hab (by decide)) (λ_=>?_);refine jE (λ_=>?_) (λhab=>absurd (by decide +kernel) hab);refine ae (yM hT ?_);exact aq h
theorem Qw {S:af}{ks:List Int}{R:Fl->ar->Prop}(hh:A.handled=none) (hS:SO prog w (bt w) s.heap a ks) (hSa:S≠a) (hn:ks.length<=aY) (g:s.heap.get? S=some { cls:=.type "list",data:=.seq #[] 0 })
  (q:∀ h' tk d acc' c' (ns:List Int),(∀ b o,b≠S->s.heap.get? b=some o->h'.get? b=some o)->h'.get? S=some { cls:=.type "list",dict:=none,data:=.seq acc' c',slots:=#[] }->fR acc'.toList ns->ns.Perm ks->R (.ok (.ret (.ref S))) { s with heap:=h',toks:=tk,drawn:=d }) :
  kU (aP prog w) A (.builtin "list.__iadd__" ⟨[.ref S,.ref a],[]⟩) R s:=by
 have hT:s.TypeIs (.ref a) "set":=let ⟨o,_,_,_,e,c,_⟩:=hS;⟨o,e,c.1⟩
 refine gX F.entry_list_iadd ?_;rw [eG F.plain_list_iadd _]
 show aK _ A.in1 (c8 (.ref S) (.ref a) (.ref S)) _ _ s
 unfold c8;refine ae (yM (T:="set") hT ?_)
 have h1:gf (.ref S) (.ref a)=false:=by simp [gf,hSa]
 have h2:(dM "set" == dM "list")=false:=by decide
 have h3:(dM "set" == dM "tuple")=false:=by decide
 simp only [h1,h2,h3,KF,bX,if_false];refine ae (Qu (A:=A.in1) hh hS λI h1 d vs ns fp St W st kp hI hfp hIl hiv hpn=>?_)
 have hSf:S∉fp:=λhm=>by
  rcases hfp S hm with e|e
  ·exact hSa e
  ·exact absurd (aL g) (Nat.not_lt.mpr e)
 have hln:vs.length=ks.length:=by rw [hiv.length,hpn.length_eq]
 have hn':vs.length<=aY:=by lia
 have hT1:({ s with heap:=h1,drawn:=d }:ar).TypeIs (.ref a) "set":=let ⟨o,e,c⟩:=hT;⟨o,kp _ _ e,c⟩
 have key:∀ (h:cm) (c₁:Nat),St 0 h->(∀ b o,b≠S->s.heap.get? b=some o->h.get? b=some o)->h.get? S=some { cls:=.type "list",data:=.seq #[] c₁ } ->
   kU (aP prog w) A (.builtin "list.extend.loop" ⟨[.ref S,.ref I,.ref S],[]⟩) R { s with heap:=h,drawn:=d }:=by
  intro h c₁ hst hk hS₁;refine Bn W.toS hn' S hSf (.ref S) vs.length 0 _ #[] c₁ rfl (aJ _) hst hS₁ (MA _) λs' acc' c' hm hS' hacc=>?_
  have es:s'={ s with heap:=s'.heap,toks:=s'.toks,drawn:=d }:=by have e:=Xw hm;exact e
  rw [es];have ea:acc'.toList=vs:=L2.IZ hacc;refine q s'.heap s'.toks d acc' c' ns (λb o hb e=>hm.heap b o (λhmem=>?_) (hk b o hb e)) hS' (by rw [ea];exact hiv) hpn
  rcases ax.mp hmem with e'|hmem
  ·exact hb e'
  ·rw [aA.mp hmem] at e;exact absurd (aL e) (Nat.not_lt.mpr hIl)
 refine ae (cF (Qv hT1 ?_));refine jE (λ_=>?_) (λ_=>aq ⟨ik eQ _,key _ 0 st (λb o _ e=>kp b o e) (kp _ _ g)⟩);refine ae (iM (ae ?_))
 show aK _ _ (xn S (·.push .none) >>= λ_=>xn S (·.pop)) _ _ _
 refine ae (lu (kp _ _ g) rfl ?_);have g2:=bE (bC (·.push eJ)) (kp _ _ g) rfl;refine lu (hz:=by seq_fits) g2 rfl ?_;have g3:=bE (bC (·.pop)) g2 rfl;refine aq ⟨ik eQ _,key _ _ ?_ (λb o hb e=>?_) g3⟩
 ·refine W.frame 0 _ _ st λb hb o e=>?_;have hbS:b≠S:=λh=>hSf (h▸hb);exact (a0 _ _ (Ne.symm hbS)).trans ((a0 _ _ (Ne.symm hbS)).trans e)
 ·exact (a0 _ _ (Ne.symm hb)).trans ((a0 _ _ (Ne.symm hb)).trans (kp b o e))
theorem Je {ks:List Int}{Q:List aj->ar->Prop}(hh:A.handled=none) (hS:SO prog w (bt w) s.heap a ks) (hn:ks.length<=aY)
  (q:∀ h' tk d vs (ns:List Int),(∀ b o,s.heap.get? b=some o->h'.get? b=some o)->fR vs ns->ns.Perm ks->Q vs { s with heap:=h',toks:=tk,drawn:=d }):aK (aP prog w) A (HU (.ref a)) Q E s:=by
 have hlt:=hS.lt;unfold HU;refine ae (OH (gX F.entry_proto_collect ?_));rw [eG F.plain_proto_collect _]
 show aK _ A.in1 (newList [] >>= λl=>again (.builtin "list.__iadd__" ⟨[l,.ref a],[]⟩)) _ _ s
 have g:(s.heap.push { cls:=.type "list",data:=.seq ([]:List aj).toArray }).get? s.heap.objs.size=some { cls:=.type "list",data:=.seq #[] 0 }:=aN _ rfl;refine ae (cp (aq ⟨ik F.plain_list_iadd _,Qw (s:={ s with heap:=s.heap.push { cls:=.type "list",data:=.seq ([]:List aj).toArray } }) hh (hS.keep λo e=>ao _ e) (eD hlt) hn g λh' tk d acc' c' ns hk hS' hi hp=>?_⟩))
 show aK _ A (load s.heap.objs.size >>= _) _ _ { s with heap:=h',toks:=tk,drawn:=d }
 refine ae (Fk hS' (aq (q h' tk d acc'.toList ns (λb o e=>hk b o (bf (aL e)) (ao _ e)) hi hp)))
theorem Le {ks:List Int}{h₀:cm} {L:af}{m:bu->Option aj}{lF:List (af×gi)}{Q:aj->ar->Prop}(hh:A.handled=none) (hS:SO prog w (bt w) s.heap a ks) (h64:ks.length<64) (F:Fr h₀ L s.heap m) (N:News h₀ L s.heap lF)
  (q:∀ D c h' tk d (out:List aj) (ns:List Int),Fr h₀ L h' m->News h₀ L h' ((D,b9 "list" out.toArray c)::lF)->(∀ p∈lF,p.1<D)->fR out ns->ns.Perm ks->ns.Pairwise (·<=·)->Q (.ref D) { s with heap:=h',toks:=tk,drawn:=d }) :
  aK (aP prog w) A (call (.builtin "sorted") [.ref a]) Q E s:=by
 refine Ih Xd Uw Ux (args_sorted1 _) (ae (m:=checkCount "sorted" 1 1 _) (aq (ae (Je hh hS (L2.bD (m:=64) (by lia)) λh1 tk d vs ns keep hi hp=>?_))))
 have hvl:vs.length<64:=by rw [hi.length,hp.length_eq];exact h64
 have hz:vs.length<=aY:=L2.bD (m:=64) (by lia);refine ae (vL ?_ hz);have F1:=F.kept keep;have N1:=N.grown keep;have hL:L<h1.objs.size:=F1.ns.lt;have g:(h1.push (b9 "list" vs.toArray 0)).get? h1.objs.size=some (b9 "list" vs.toArray 0):=aN _ rfl
 show aK (aP prog w) A.in1 (do let _ ← nU [aF h1.objs.size] (call (.builtin "list.sort") [aF h1.objs.size]);ret (aF h1.objs.size)) _ _ { s with heap:=h1.push (b9 "list" vs.toArray 0),toks:=tk,drawn:=d }
 refine ae (cF (cW ON ⟨_,g,rfl⟩ MB (list_sort_tree (s:={ s with heap:=h1.push (b9 "list" vs.toArray 0),toks:=tk,drawn:=d }) g hi hvl λout ns' a1 a2 a3=>⟨_,rfl,aq ⟨_,rfl,?_⟩⟩) (args_list_sort _)));have hb:∀ b o,s.heap.get? b=some o->b≠h1.objs.size:=λb o e=>bf (aL (keep b o e))
 have k7:∀ b o,s.heap.get? b=some o->(sortedHeap (h1.push (b9 "list" vs.toArray 0)) h1.objs.size vs out).get? b=some o:=λb o e=>by
  unfold sortedHeap;exact (a0 _ _ (Ne.symm (hb b o e))).trans (ao _ (ao _ ((a0 _ _ (Ne.symm (hb b o e))).trans (ao _ (keep b o e)))))
 obtain ⟨c1,g2⟩:∃ c1,((h1.push (b9 "list" vs.toArray 0)).update h1.objs.size (bC λ_=>#[])).get? h1.objs.size=some (b9 "list" #[] c1):=⟨_,jF g λ_=>#[]⟩
 obtain ⟨c7,g7⟩:∃ c7,(sortedHeap (h1.push (b9 "list" vs.toArray 0)) h1.objs.size vs out).get? h1.objs.size=some (b9 "list" out c7):=⟨_,jF (ao _ (ao _ g2)) λ_=>out⟩
 refine q h1.objs.size c7 _ tk d out.toList ns' (F.kept k7) (λp hp'=>?_) (λp hp'=>aL (N1 p hp').1) a1 (a2.trans hp) a3
 rcases ax.mp hp' with rfl|hp'
 ·exact ⟨by simpa using g7,eD hL,OU (bz F1.above (ki hL))⟩
 ·exact (N.grown k7) p hp'
end
end Sw
namespace L2
open PySem PySem.Spec PyProof.Rows PySem.W
theorem Inv.drawn {X:Cx}{pins:List (af×gi)}{Z:St}{H:Hp}{s:ar}(I:Inv X pins Z H s) (d:Drawn):Inv X pins Z H { s with drawn:=d }:=⟨I.ok,I.os,I.bare,I.base,I.loc,I.cell,I.free,I.uT,I.pin,I.fD,I.len⟩
def Cq (K:aa) (t:TA):TE:=λZ H Q=>t Z H λvs H1=>∃ (a:af) (ns:List Int),vs=[.ref a]/\de K H1 a (ns.map V.int)/\ns.length<=4000/\(∃ ds:List Int,ds.length<64/\∀ x∈ns,x∈ds) /\
 ∀ p (ks:List Int),H1 p=none->ks.Pairwise (· < ·)->(∀ x,x∈ks↔x∈ns)->Q (.ref p) (upd H1 p (.lst (ks.map V.int)))
theorem N2 {K:aa}{t:TA}{Z:St}{H:Hp}{Q:VK}(h:t Z H λvs H1=>∃ (a:af) (ns:List Int),vs=[.ref a]/\de K H1 a (ns.map V.int)/\ns.length<=4000/\(∃ ds:List Int,ds.length<64/\∀ x∈ns,x∈ds) /\
 ∀ p (ks:List Int),H1 p=none->ks.Pairwise (· < ·)->(∀ x,x∈ks↔x∈ns)->Q (.ref p) (upd H1 p (.lst (ks.map V.int)))):Cq K t Z H Q:=h
theorem Jg {ks ds:List Int}(hn:ks.Nodup) (h:∀ x∈ks,x∈ds):ks.length<=ds.length:=by
 induction ks generalizing ds with
 | nil=>simp
 | cons a ks ih =>
  obtain ⟨h1,h2⟩:=bA.mp hn;obtain ⟨l1,l2,rfl⟩:=m5 (h a av)
  have:=ih (ds:=l1++l2) h2 λx hx=>by
   have hx':=h x (ak _ hx)
   rcases aQ.mp hx' with q|q
   ·exact fE _ q
   ·rcases ax.mp q with q|q
    ·exact absurd (q▸hx) h1
    ·exact bP _ q
  simp at this ⊢;lia
section
variable {X:Cx}{x:Expr}{t:TA}{p1 p2 q1 q2:oZ}
theorem Lg (hc:X.calm=true) (hgl:Gl X "sorted") (hml:X.mg "sorted"=none) (hgz:Gl X "set") (hmz:X.mg "set"=none) (ha:PA X [x] t)
  (he:bR [.Call (.Name "set" p1) [x] [] p2] X.env=[(false,gM (.Call (.Name "set" p1) [x] [] p2) X.env)]:=by rfl) (he2:bR [x] X.env=(false,gM x X.env)::bR [] X.env:=by rfl) (hpl:(jx p2 (bR [] X.env)).any (·.1)=false:=by rfl) :
  PE X (.Call (.Name "sorted" q1) [.Call (.Name "set" p1) [x] [] p2] [] q2) (Cq X.K t):=by
 intro pins s Z H Q I h;refine eW (pU I hgl hml BootT.sF (xu ?_ he rfl));rw [he]
 show aK _ _ (Uk ((false,gM (.Call (.Name "set" p1) [x] [] p2) X.env)::jx q2 (bR [] X.env))) _ _ s
 refine j7 (eW (pU I hgz hmz BootT.set (dP (iG (ha p2 pins s Z H _ I h) λus s1 ⟨vs,H1,I1,r1,q⟩=>?_) he2 hpl)));obtain ⟨a,ns,rfl,hA,hl4,⟨ds,hds,hsub⟩,k⟩:=q;obtain ⟨u,rfl,ru⟩:=vals1 r1;cases ru;obtain ⟨its,rv,pl,hz⟩:=I1.list hA;have hi:fR its ns:=intsAre_of rv;have hlen:=hi.length;refine Sw.Qr (ns:=ns) (I1.ok.hd hc) pl.isList (by simpa using hi) (by rw [aM,hlen];unfold xp;lia) λh2 tk ks hS hmem hle hk=>nN ?_
 have hnd:ks.Nodup:=by obtain ⟨_,_,_,_,_,_,_,_,_,_,_,_,_,_,hn⟩:=hS;exact hn
 have h64:ks.length<64:=bI (Jg hnd λx hx=>hsub x ((hmem x).mp hx)) hds;have I2:Inv X pins Z H1 { s1 with heap:=h2,toks:=tk }:=I1.kept (t':=tk) hk;obtain ⟨m,F,N⟩:=I2.Ov;refine Sw.Le (s:={ s1 with heap:=h2,toks:=tk }) (I1.ok.hd hc) hS h64 F N λD c h' tk' d out ms F' N' hD a1 a2 a3=>?_;obtain ⟨hn,I3⟩:=I2.RP (t':=tk') (o:=.lst (ms.map V.int)) F.ns F' N' hD ⟨by rw [ag,a2.length_eq];exact bD (m:=64) (by lia),out,c,ve a1,(N' _ av).1⟩;refine ⟨.ref D,_,I3.drawn d,rfl,k D ms hn ?_ (λx=>by rw [a2.mem_iff,hmem])⟩;have hnd':ms.Nodup:=a2.nodup_iff.mpr hnd
 exact (Ii a3 hnd').imp λ{x y} h=>by
  have h1:=h.1;have h2:x≠y:=h.2;lia
end
end L2
namespace L2
open PySem PySem.Spec PyProof.Rows PySem.W
section
variable {X:Cx}
end
end L2
namespace L2
end L2
namespace L2
section
variable {P:a9}{w:bQ}{st:List Ia}{H H2:Hp}{s:ar}{a:af}{B h h':cm}
end
section
variable {P:a9}{w:bQ}{K:aa}{mg:bu->Option aj}{base:cm}{N:List bu}{qual:bu}{scope:lh}{f:af}{cd:aj}{A:bY}{outer:List Ia}{s:ar}{H:Hp}{E E':XK}
end
end L2
namespace L2
end L2
namespace L2
section
variable {X:Cx}{pins:List (af×gi)}{Z:St}{H:Hp}{s:ar}
end
end L2
namespace L2
section
variable {X:Cx}{k:Nat}{f CT:af}{fd:fB}{ps:List bu}{sp:Sp}{x xT n:bu}{p np cpos epos hpos pos:oZ}{e:Expr}{es:List Expr}{t:TA}{th:TS}{i:Nat}{b₀:dU} {suite:List dU}
end
end L2
namespace L2
end L2
namespace L2
section
variable {X:Cx}{k:Nat}{f:af}{fd:fB}{ps:List bu}{sp:Sp}{x:bu}{p pos:oZ}{e:Expr}{es:List Expr}{t:TA}
end
end L2
namespace L2
section
variable {K:aa}{Z:St}{H:Hp}{Q:VK}
end
end L2
namespace L2
structure rR (P:a9) (w:bQ) (K:aa) (mg:bu->Option aj) (base:cm) (CX:Kx) (k:Nat) (x:bu) (ps:List bu) (sp:Sp) where
 f:af
 d:fB
 G:dF P w K mg base CX k f d ps sp
 m:mg x=some (.ref f)
 kp:fg K (.ref f)=true
 b:Binds K d ps []
structure lG (P:a9) (w:bQ) (K:aa) (mg:bu->Option aj) (base:cm) (CX:Kx) (k:Nat) (C:af) (x:bu) (ps:List bu) (sp:Sp) where
 f:af
 d:fB
 G:dF P w K mg base CX k f d ps sp
 m:SX K C x f
 b:Binds K d ps []
structure TC (P:a9) (w:bQ) (K:aa) (mg:bu->Option aj) (base:cm) (CX:Kx) (k:Nat) (C:af) (ps:List bu) (sp:Sp) where
 f:af
 d:fB
 G:dF P w K mg base CX k f d ps sp
 m:Mk K C f
 b:Binds K d ps []
structure vC (K:aa) (mg:bu->Option aj) (x:bu) (st:dU) (ps:List bu) where
 f:af
 d:fB
 F:lZ K x x st f d
 m:mg x=some (.ref f)
 bt:∀ (s:ar) (us:List aj),us.length=ps.length->HM s d ⟨us,[]⟩ (ps.zip us)
 b:Binds K d ps []
structure mT (K:aa) (C:af) (x q:bu) (st:dU) (ps:List bu) where
 f:af
 d:fB
 F:lZ K x q st f d
 a:bK K (.ref C) x=some (some (.ref f))
 i:tU K (.ref f)=true
 b:Binds K d ps []
def yR {K:aa}{h:cm}{mg:bu->Option aj}{x:bu}{st:dU}{ps:List bu}(X:K.In h) (G:h.Ns bW mg) {f:af}{od an:Option af}{sl:Array (Option aj)}{oc kV dc pm cd ct:aj}(a:c9 K bW x=some (some (.ref f)))
  (l:K.lookup f=some ⟨oc,od,.func (jc x x (qI st) (mD st) (bg st) .none kV dc pm an cd ct),sl⟩) (c:qH K cd x=true) (k:fg K (.ref f)=true)
  (hb:∀ (kV doc pm:aj) (an:Option af) (sr ct:aj) (us:List aj),us.length=ps.length->HN (jc x x (qI st) (mD st) (bg st) .none kV doc pm an sr ct) ⟨us,[]⟩=pure (ps.zip us)):vC K mg x st ps :=
 ⟨f,_,Gk l c k,sj X G a,λs us hl=>.of_eq (hb kV dc pm an cd ct us hl),(Gk l c k).binds hb⟩
def Bw {K:aa}{C:af}{x q:bu}{st:dU}{ps:List bu}{f:af}{od an:Option af}{sl:Array (Option aj)}{oc kV dc pm cd ct:aj}(a:bK K (.ref C) x=some (some (.ref f))) (i:tU K (.ref f)=true)
  (l:K.lookup f=some ⟨oc,od,.func (jc x q (qI st) (mD st) (bg st) .none kV dc pm an cd ct),sl⟩) (c:qH K cd q=true) (k:fg K (.ref f)=true)
  (hb:∀ (kV doc pm:aj) (an:Option af) (sr ct:aj) (us:List aj),us.length=ps.length->HN (jc x q (qI st) (mD st) (bg st) .none kV doc pm an sr ct) ⟨us,[]⟩=pure (ps.zip us)):mT K C x q st ps :=
 ⟨f,_,Gk l c k,a,i,(Gk l c k).binds hb⟩
theorem vC.law {K:aa}{mg:bu->Option aj}{x y:bu}{st:dU}{fa:af}(D:vC K mg x st [y]) (h:mg x=some (.ref fa)):D.f=fa:=by
 have:=D.m.symm.trans h;cases this;rfl
section
variable {X:Cx}{CX:Kx}{E:XK}{k:Nat}{C:af}{ps:List bu}{sp:Sp}{x:bu}{p pos apos:oZ}{e o:Expr}{es:List Expr}{t:TA}{ta:TE}
theorem qE (c:rR X.prog X.w X.K X.mg X.base CX k x ps sp) (hr:kT k X.A) (hg:Gl X x) (hx:qS CX X E) (ha:PA X (e::es) t) (hdb:(x == ("__debug__":bu))=false:=by decide) (he:bR (e::es) X.env=(false,gM e X.env)::bR es X.env:=by rfl) (hpl:(jx pos (bR es X.env)).any (·.1)=false:=by rfl) :
  PE X (.Call (.Name x p) (e::es) [] pos) (dS sp [] E t):=SZ c.G hr hg c.m c.kp c.b .nil hx ha hdb he hpl
theorem vR {pl:Uj Bool}(c:lG X.prog X.w X.K X.mg X.base CX k C x ps sp) (cl:DX X.K C) (hr:kT k X.A) (he:PE X o ta) (hx:qS CX X E) (ha:PA X (e::es) t)
  (hst:bR (e::es) X.env=(false,gM e X.env)::bR es X.env:=by rfl) (hpl:(jx pos (bR es X.env)).any (·.1)=false:=by rfl)
  (ht:gM (.Call (.Attribute o x apos) (e::es) [] pos) X.env=(do
   let ov ← gM o X.env
   BA apos.atName
   let (f,first) ← nU [ov] (BB ov x pl)
   WZ pos f first (jx pos (bR (e::es) X.env)) (OD pos (Be [] X.env))):=by rfl) :
  PE X (.Call (.Attribute o x apos) (e::es) [] pos) (fh C x sp [] E ta t):=Ta he cl c.m c.G hr c.b .nil hx ha hst hpl ht
theorem Qx {pl:Uj Bool}(c:lG X.prog X.w X.K X.mg X.base CX k C x ps sp) (cl:DX X.K C) (hr:kT k X.A) (he:PE X o ta) (hx:qS CX X E)
  (ht:gM (.Call (.Attribute o x apos) [] [] pos) X.env=(do
   let ov ← gM o X.env
   BA apos.atName
   let (f,first) ← nU [ov] (BB ov x pl)
   WZ pos f first (jx pos (bR [] X.env)) (OD pos (Be [] X.env))):=by rfl) :
  PE X (.Call (.Attribute o x apos) [] [] pos) (fh C x sp [] E ta bj):=Pl he cl c.m c.G hr c.b .nil hx ht
end
end L2
namespace L2
open PySem PySem.Spec PyProof.Rows PySem.W
def gG:List Int->List Int->Bool
 | [],[]=>false
 | [],_::_=>true
 | _::_,[]=>false
 | x::xs,y::ys=>if x=y then gG xs ys else decide (x<y)
theorem vh:∀ x:List Int,gG x x=false
 | []=>rfl
 | x::xs=>by unfold gG;rw [if_pos rfl];exact vh xs
theorem wB:∀ {x y:List Int},gG x y=false->gG y x=true\/x=y
 | [],[],_=>.inr rfl
 | [],_::_,h=>by unfold gG at h;cases h
 | _::_,[],_=>.inl (by unfold gG;rfl)
 | x::xs,y::ys,h=>by
  unfold gG at h ⊢
  by_cases e:x=y
  ·subst e;rw [if_pos rfl] at h ⊢
   rcases wB h with q|q
   ·exact .inl q
   ·exact .inr (by rw [q])
  ·rw [if_neg e] at h;rw [if_neg (Ne.symm e)];exact .inl (by have:=of_decide_eq_false h;exact decide_eq_true (by lia))
theorem wC:∀ {x y z:List Int},gG x y=true->gG y z=true->gG x z=true
 | [],[],_,h,_=>by unfold gG at h;cases h
 | [],_::_,[],_,h=>by unfold gG at h;cases h
 | [],_::_,_::_,_,_=>by unfold gG;rfl
 | _::_,[],_,h,_=>by unfold gG at h;cases h
 | _::_,_::_,[],_,h=>by unfold gG at h;cases h
 | x::xs,y::ys,z::zs,h,h'=>by
  unfold gG at h h' ⊢
  by_cases e:x=y
  ·subst e;rw [if_pos rfl] at h
   by_cases e':x=z
   ·rw [if_pos e'] at h' ⊢;exact wC h h'
   ·rw [if_neg e'] at h' ⊢;exact h'
  ·rw [if_neg e] at h;have h1:=of_decide_eq_true h
   by_cases e':y=z
   ·subst e';rw [if_neg e];exact h
   ·rw [if_neg e'] at h';have h2:=of_decide_eq_true h';rw [if_neg (by lia)];exact decide_eq_true (by lia)
def FN (ts:List (List Int)) (t:List Int):Int:=(ts.countP λu=>gG u t:Nat)
theorem xV {ts:List (List Int)}{t u:List Int}(ht:t∈ts):decide (FN ts t<FN ts u)=gG t u:=by
 unfold FN
 cases q:gG t u with
 | true =>
  have:=IU (l:=ts) (p:=λv=>gG v t) (q:=λv=>gG v u) (x:=t) (λy _ h=>wC h q) ht (vh t) q
  exact decide_eq_true (by lia)
 | false =>
  have:ts.countP (λv=>gG v u)<=ts.countP λv=>gG v t:=OG λv _ h=>by
   rcases wB q with e|e
   ·exact wC h e
   ·rw [e];exact h
  exact decide_eq_false (by lia)
inductive Flat:List Bool->List V->List Int->Prop
 | nil:Flat [] [] []
 | int (i:Int) {m:List Bool}{xs:List V}{ks:List Int}:Flat m xs ks->Flat (false::m) (.int i::xs) (i::ks)
 | bl (b:Bool) {m:List Bool}{xs:List V}{ks:List Int}:Flat m xs ks->Flat (true::m) (.bl b::xs) (b2i b::ks)
theorem Flat.length {m:List Bool}{xs:List V}{ks:List Int}(h:Flat m xs ks):xs.length=m.length:=by
 induction h with
 | nil=>rfl
 | int _ _ ih=>simp [ih]
 | bl _ _ ih=>simp [ih]
section
variable {prog:a9}{w:bQ}{A:bY}{s:ar}{b:Bool}{Q:Bool->ar->Prop}
theorem Qy {m:List Bool}{xs:List V}{ks:List Int}(fx:Flat m xs ks):∀ {ys:List V}{ls:List Int}{us ws:List aj}{i:Nat},Flat m ys ls->Vals xs us->Vals ys ws->(b && i == 0)=false->Q (gG ks ls) s ->
  KatLex prog w A b false Q (us.zip ws) i s:=by
 induction fx with
 | nil =>
  intro ys ls us ws i fy rx ry hi q;cases fy;cases rx;cases ry;unfold gG at q
  exact kat_nil q
 | int a _ ih =>
  intro ys ls us ws i fy rx ry hi q
  cases fy with
  | int c fy =>
   cases rx with
   | cons r1 rx =>
    cases ry with
    | cons r2 ry =>
     obtain ⟨t,rfl⟩:=r1;obtain ⟨u,rfl⟩:=r2;rw [kh];refine HX (jD a t c u _ _ _ _ ?_);unfold gG at q
     by_cases e:a=c
     ·rw [if_pos e] at q;rw [show (a == c)=true by simpa using e];exact HY (ih fy rx ry (by simp) q)
     ·rw [if_neg e] at q;rw [show (a == c)=false by simpa using e];refine kat_no ?_;rw [hi]
      exact kat_one _ _ (Ss q)
 | bl a _ ih =>
  intro ys ls us ws i fy rx ry hi q
  cases fy with
  | bl c fy =>
   cases rx with
   | cons r1 rx =>
    cases ry with
    | cons r2 ry =>
     cases r1;cases r2;rw [kh];refine HX (SeqAt.EqAt.bool_bool a c _ _ _ _ ?_);unfold gG at q
     by_cases e:a=c
     ·rw [if_pos (by rw [e])] at q;rw [show (a == c)=true by simpa using e];exact HY (ih fy rx ry (by simp) q)
     ·rw [if_neg (by cases a<;>cases c<;>first|exact absurd rfl e|decide)] at q;rw [show (a == c)=false by simpa using e];refine kat_no ?_;rw [hi];exact kat_one _ _ (lt_bool q)
theorem TF {x y:af}{m:List Bool}{xs ys:List V}{ks ls:List Int}{us ws:List aj}{E:aj->ar->Prop}(fx:Flat (false::m) xs ks) (fy:Flat (false::m) ys ls) (rx:Vals xs us) (ry:Vals ys ws)
  (hx:xi s.heap x us.toArray) (hy:xi s.heap y ws.toArray) (h:Q (gG ks ls) s):aK (aP prog w) A (keyLt' (Uy true) (.ref x) (.ref y)) Q E s:=by
 obtain ⟨ox,ex,cx,nx,dx⟩:=hx;obtain ⟨oy,ey,cy,ny,dy⟩:=hy
 have l1:us.length=ws.length:=by rw [← rx.length,← ry.length,fx.length,fy.length]
 refine kat_lt ex dx ey dy ?_;rw [show decide (us.toArray.size<ws.toArray.size)=false by simp [l1]]
 cases fx with
 | int a fx =>
  cases fy with
  | int c fy =>
   cases rx with
   | cons r1 rx =>
    cases ry with
    | cons r2 ry =>
     obtain ⟨t,rfl⟩:=r1;obtain ⟨u,rfl⟩:=r2
     show KatLex _ _ _ _ _ _ (List.zip (_::_) (_::_)) 0 s
     rw [kh];refine HX (jD a t c u _ _ _ _ ?_);unfold gG at h
     by_cases e:a=c
     ·rw [if_pos e] at h;rw [show (a == c)=true by simpa using e];exact HY (Qy fx fy rx ry (by simp) h)
     ·rw [if_neg e] at h;rw [show (a == c)=false by simpa using e];exact kat_no (oneLt_int h)
end
abbrev Zn:=List Int×af
def qc (z:Zn):V:=.ref z.2
def Cr (m:List Bool) (H:Hp) (z:Zn):Prop:=∃ xs,H z.2=some (.tup xs)/\Flat (false::m) xs z.1
theorem Cs:∀ {zs:List Zn}{us:List aj},Vals (zs.map qc) us->us=zs.map λz=>aF z.2
 | [],_,h=>by cases h;rfl
 | z::zs,_,h=>by
  cases h with
  | cons h1 h2=>cases h1;rw [Cs h2];rfl
theorem wD:∀ zs:List Zn,Vals (zs.map qc) (zs.map λz=>aF z.2)
 | []=>.nil
 | _::zs=>.cons rfl (wD zs)
theorem M3 {h:cm}:∀ {zs:List Zn},(∀ z∈zs,∃ i t us,xi h z.2 (ij i t::us).toArray)->∃ fs,KatTups h (zs.map λz=>aF z.2) fs/\fs.length=zs.length/\∀ v∈fs,∃ i t,v=ij i t
 | [],_=>⟨[],.nil,rfl,λ_ h=>nomatch h⟩
 | z::zs,hz=>by
  obtain ⟨fs,k1,k2,k3⟩:=M3 (zs:=zs) λz' h'=>hz z' (ak _ h');obtain ⟨i,t,us,o,e,c,n,d⟩:=hz z av;refine ⟨.int i t::fs,Xe e c d (by simp) k1,by simp [k2],λv hv=>?_⟩
  rcases ax.mp hv with rfl|hv
  ·exact ⟨i,t,rfl⟩
  ·exact k3 v hv
section
variable {X:Cx}
end
end L2
namespace L2
open PySem PySem.Spec PySem.Calls PyProof.Rows
open PySem.W (kla_fn kla_obj tabObj CodeHd)
theorem N3 {prog:a9}{w:bQ}{A:bY}{E:aj->ar->Prop}{Q:aj->ar->Prop}{s:ar}{f c':af}{qual x:bu}{params:qG}{body:Expr}{scope:lh}{clos:List (bu×af)}{pm ctv v:aj}
  (hroom:A.depth<Bd) (ho:s.heap.get? f=some (yN "<lambda>" qual params body scope clos pm c' ctv)) (hrec:s.heap.CodeRec (.ref c') qual) (hlim:s.heap.NoLimit)
  (hb:HN (kla_fn "<lambda>" qual params body scope clos pm (.ref c') ctv) ⟨[v],[]⟩=pure [(x,v)])
  (hx:scope.names.lookup x=some .local) (hk:scope.kind=.function) (hco:scope.isCoroutine=false) (hgen:scope.isGenerator=false) (hcell:∀ z∈scope.names,z.2≠.cell)
  (h:∀ (env:Ia) (h₁:cm) (tk:Nat) (E':aj->ar->Prop),env.scope=scope->env.cells=clos->s.heap.objs.size<=env.locals->h₁.Ns env.locals (λz=>ff z [(x,v)])->(∀ b o,s.heap.get? b=some o->h₁.get? b=some o) ->
   aK (aP prog w) (A.deeper env) (gM body env) Q E' { s with heap:=h₁,toks:=tk }) :
  aK (aP prog w) A (call (.ref f) [v]) Q E s:=by
 refine OC (PySem.W.kla_callFunE hroom ho rfl hco hgen rfl hrec ?_);rw [hb];refine aq (W5 hcell (λz hz=>by rw [aA.mp hz];exact hx) (λh₁ hns hsb=>⟨hlim.fresh _ hsb,?_⟩) hk);have hk₁:∀ b o,s.heap.get? b=some o->h₁.get? b=some o:=λb o e=>hsb.extBut b o (bf (aL e)) (ao _ e);exact PySem.W.kla_codeExpr (h _ h₁ _ _ rfl rfl (au _) hns hk₁)
section
variable {prog:a9}{w:bQ}{A:bY}{env:Ia}{s:ar}{h:cm}{a b:Expr}{i j:Int}{pos:oZ}
end
section
variable {X:Cx}{c Pt:af}{e body:Expr}{tx:TA}{x y:bu}{j:Nat}{params:qG}{scope:lh}{p0 lpos kpos pos:oZ}{C:Int->Int->Int->Prop}{g:Int->Int->Int->Int}
end
end L2
namespace L2
open PySem PySem.Spec PySem.Calls PyProof.Rows PySem.W
theorem M4:∀ x y:List Int,gG x y=HT.lexLt x y
 | [],[]=>rfl
 | [],_::_=>rfl
 | _::_,[]=>rfl
 | x::xs,y::ys=>by unfold gG;rw [HT.BW,M4 xs ys]
def Ji (z:Zn) (t:Xr):gi:=b9 "tuple" #[.int (z.1.headD 0) t,.ref z.2] 0
section
variable {prog:a9}{w:bQ}{A:bY}{s:ar}{Q:Bool->ar->Prop}
theorem TH {k1 k2 b1 b2:af}{w1 w2 x1 y1 x2 y2:Int}{t1 t2 ta tb tc td:Xr}{E:aj->ar->Prop}(hx:xi s.heap k1 #[.int w1 t1,.ref b1]) (hy:xi s.heap k2 #[.int w2 t2,.ref b2])
  (hb1:xi s.heap b1 #[.int x1 ta,.int y1 tb]) (hb2:xi s.heap b2 #[.int x2 tc,.int y2 td]) (hu:A.units<ju) (h:Q (gG [w1,x1,y1] [w2,x2,y2]) s):aK (aP prog w) A (keyLt' (Uy true) (.ref k1) (.ref k2)) Q E s:=by
 obtain ⟨ox,ex,cx,nx,dx⟩:=hx;obtain ⟨oy,ey,cy,ny,dy⟩:=hy;refine kat_lt ex dx ey dy ?_;have ez:(#[ij w1 t1,aF b1].toList.zip #[ij w2 t2,aF b2].toList)=[(.int w1 t1,.int w2 t2),(.ref b1,.ref b2)]:=rfl;rw [ez];refine HX (jD w1 t1 w2 t2 _ _ _ _ ?_);unfold gG at h
 by_cases e:w1=w2
 ·rw [if_pos e] at h;rw [show (w1 == w2)=true by simpa using e]
  by_cases eb:b1=b2
  ·subst eb;refine HY (HX (SeqAt.EqAt.same _ _ _ _ _ (HY (kat_nil ?_))))
   have:x1=x2/\y1=y2:=by
    obtain ⟨o,e1,_,n,d1⟩:=hb1;obtain ⟨o',e2,_,n',d2⟩:=hb2;rw [e1] at e2;cases e2;rw [d1] at d2;simp at d2;exact ⟨d2.1.1.1,d2.1.2.1⟩
   rw [this.1,this.2,vh] at h;exact h
  ·have rc:SeqAt.RcAt A s (.ref b1) (.ref b2) ((fz (min 2 2)).all (λj=>if j=0 then x1 == x2 else y1 == y2) && (2 == 2)):=SeqAt.RcAt.tuples (items:=#[.int x1 ta,.int y1 tb]) (items2:=#[.int x2 tc,.int y2 td]) hb1 hb2 hu λj h1 h2=>by
    match j,h1,h2 with
    | 0,_,_=>exact jD x1 ta x2 tc
    | 1,_,_=>exact jD y1 tb y2 td
    | j+2,h1,_=>exact absurd h1 (by simp)
   have er:((fz (min 2 2)).all (λj=>if j=0 then x1 == x2 else y1 == y2) && (2 == 2))=(x1 == x2 && y1 == y2):=by
    show ([0,1].all _ && true)=_
    simp
   rw [er] at rc;refine HY (HX (SeqAt.EqAt.of_refs eb rc _ _ _ _ ?_))
   by_cases c1:x1=x2/\y1=y2
   ·rw [show (x1 == x2 && y1 == y2)=true by simp [c1]];refine HY (kat_nil ?_);rw [c1.1,c1.2,vh] at h;exact h
   ·rw [show (x1 == x2 && y1 == y2)=false by
     cases q:(x1 == x2 && y1 == y2) with
     | false=>rfl
     | true=>simp at q;exact absurd q c1]
    refine kat_no (kat_one _ _ (HT.K1 hb1 hb2 (.cons _ _ (.cons _ _ .nil)) (.cons _ _ (.cons _ _ .nil)) hu ?_));rw [M4] at h;exact h
 ·rw [if_neg e] at h;rw [show (w1 == w2)=false by simpa using e];exact kat_no (oneLt_int h)
end
section
variable {P:a9}{w:bQ}{A:bY}{env:Ia}{s:ar}{h:cm}{H:Hp}
theorem Qz {x y:bu}{b d cl:af}{wt:Int}{tk:Nat}{p1 p2 p3 p4 p5:oZ}{x1} {Q:aj->ar->Prop}{E:aj->ar->Prop}(fD:tS P w H h) (hk:env.scope.kind=.function) (hx:env.scope.names.lookup x=some .local) (hy:env.scope.names.lookup y=some .free) (hn:h.Ns env.locals (λz=>ff z [(x,aF b)]))
  (hcl:env.cells.lookup y=some cl) (hcv:h.IsCell cl (some (.ref d))) {OT:List (List dQ×V)}{k:List dQ}(hd:H d=some (.dT OT)) (hb:H b=some (.tup (k.map kV))) (hv:eV OT k=some (.int wt)) (hu:A.units+64<ju)
  (q:∀ t tk',Q (.ref h.objs.size) { s with heap:=h.push (b9 "tuple" #[.int wt t,.ref b] 0),toks:=tk' })
  (hdx:(x == ("__debug__":bu))=false:=by decide) (hdy:(y == ("__debug__":bu))=false:=by decide) (hdc:(y == ("__classdict__":bu))=false:=by decide) :
  aK (aP P w) A (gM (.Tuple [.Subscript (.Name y p1) (.Name x p2) p3,.Name x p4] x1 p5) env) Q E { s with heap:=h,toks:=tk }:=by
 have lx:ff x [(x,aF b)]=some (aF b):=by rw [cR,beq_self_eq_true]
 refine Xu (j7 (Subscript_ (yI (Xt hk hy hcl (v:=.ref d) hcv ?_ hdc) hdy)));refine yI (rF hk hx hn (v:=.ref b) lx ?_) hdx;obtain ⟨z,hm,xs,rel,dd⟩:=FE fD (.inl hd);obtain ⟨w',hw,rw'⟩:=sf.some_of (v:=V.int wt) (o:=(HP xs k).map (·.2)) (by rw [← hv];exact rel.val k);obtain ⟨t,rfl⟩:=rw';obtain ⟨p,hp,hp2⟩:=bx.mp hw
 have ty:({ s with heap:=h,toks:=tk }:ar).TypeIs (.ref d) "dict":=by
  obtain ⟨o,es,ep,e1,e2,_⟩:=dd;exact ⟨o,e1,e2.1⟩
 refine tail_any ty Ga.lookup (wpAny_getItem_heap (kX (by lia)) (t9 fD hb) dd hp ?_) rfl;rw [hp2];refine j7 (yI (rF hk hx hn (v:=.ref b) lx (nN ⟨?_,q t _⟩)) hdx);exact bD (m:=2) (au 2)
end
end L2
namespace L2
open PySem PySem.Spec PySem.Calls PyProof.Rows PySem.W
theorem An {α β:Type} {R:α->β->Prop}{a:α}{b:β}(r:R a b):∀ {xs:List α}{ys:List β},Paired R xs ys->Paired R (xs++[a]) (ys++[b])
 | _,_,.nil=>.cons r .nil
 | _,_,.cons h t=>.cons h (An r t)
theorem wF {α β:Type} {R:α->β->Prop}:∀ {xs:List α}{ys:List β},Paired R xs ys->ys.length=xs.length
 | _,_,.nil=>rfl
 | _,_,.cons _ t=>by simp [wF t]
theorem Ct {α β:Type} {R:α->β->Prop}:∀ {xs:List α}{ys:List β},Paired R xs ys->∀ (i:Nat) (a:α),xs[i]?=some a->∃ b,ys[i]?=some b/\R a b
 | _,_,.nil,_,_,h=>by simp at h
 | _,_,.cons r t,0,a,h=>by simp at h;subst h;exact ⟨_,rfl,r⟩
 | _,_,.cons r t,i+1,a,h=>by simpa using Ct t i a (by simpa using h)
section
variable {prog:a9}{w:bQ}{A:bY}{s:ar}{h₀:cm} {L a kS:af}{m:bu->Option aj}{lF:List (af×gi)}{f:aj}{e1:Nat}{zs:List Zn}{Fin:List aj->Nat->ar->Prop}
end
section
variable {prog:a9}{w:bQ}{A:bY}{s:ar}{h₀:cm} {L a kS:af}{m:bu->Option aj}{lF own:List (af×gi)}{e e1:Nat}{zs:List Zn}{ks:List af}{Post:ar->Prop}
end
end L2
namespace L2
open PySem PySem.Spec PySem.Calls PyProof.Rows PySem.W
section
variable {prog:a9}{w:bQ}{A:bY}{E:aj->ar->Prop}{s:ar}{h₀:cm} {L a:af}{m:bu->Option aj}{lF:List (af×gi)}{f:aj}{n:Nat}{vs:List aj}{P:KE->ar->Prop}
end
section
variable {X:Cx}{c Pt:af}{e:Expr}{tx:TA}{x y:bu}{j:Nat}{params:qG}{scope:lh}{p0 p1 p2 p3 p4 p5 lpos kpos pos:oZ}{x1:Nat}
end
end L2
namespace L2
open PySem PySem.Spec PySem.Calls PyProof.Rows
theorem kT.RV {k:Nat}{A:bY}(r:kT k A):A.units+128<ju:=by have:=r.un;lia
section
variable {X:Cx}{CX:Kx}{k:Nat}{B:af}{x:bu}{ps:List bu}{sp:Sp}{o e:Expr}{es:List Expr}{t:TA}{E:XK}{apos pos:oZ}
end
section
variable {X:Cx}{x:Expr}{t:TA}{p1 p2 q1 q2:oZ}
end
end L2
namespace L2
open PySem PySem.Spec PySem.Calls PyProof.Rows
open PySem.W (tabObj CodeHd noTabs tabIn)
theorem N4 {P:a9}{w:bQ}{K:aa}{mg mb:bu->Option aj}{k:Nat}{fa a:af}{Ps:List (af×af)}{fd:fB}{x:bu}{sp:Sp}{s₁:ar} {vs:List aj}{ns:List Int}
  (KX:K.In s₁.heap) (hns:s₁.heap.Ns bW mg) (hb:s₁.heap.Ns builtinsNs mb) (hbb:∀ x:bu,x≠"__name__"->mb x=dw x) (hlim:s₁.heap.NoLimit) (hg:s₁.gens=#[])
  (C:∀ p∈Ps,pI s₁.heap p.1 p.2) (hPt0:∀ p∈Ps,s₁.heap.get? p.2=some (Kr #[])) (Bm:∀ p∈Ps,s₁.heap.BuiltinsAt mg p.2) (hnt:noTabs K=true)
  (ha:s₁.heap.get? a=some { cls:=.type "list",data:=.seq vs.toArray }) (hi:fR vs ns) (hl:ns.length<=aY) (hr:kT k HQ)
  (F:∀ base:cm,K.In base->base.Ns bW mg->(∀ p∈Ps,pI base p.1 p.2/\base.BuiltinsAt mg p.2)->dF P w K mg base eN k fa fd [x] sp) (hbind:∀ (s:ar) (u:aj),HM s fd ⟨[u],[]⟩ [(x,u)])
  (hsp:∀ H:Hp,(∀ p∈Ps,H p.2=some (.tbl #[]))->de K H a (ns.map V.int)->sp [.ref a] H (λv _=>v=.bl true) λ_ _ _=>False)
  (hCX:∀ H e s',eN [] H s₁ (λ_ _ _=>False) e s'->False) :
  kU (aP P w) HQ (.call (.ref fa) ⟨[.ref a],[]⟩) (λr s'=>r=.ok (.ret (.bool true))/\OldK s₁.heap s'.heap/\s'.os=s₁.os/\yH s'.gens) s₁:=by
 have rv:=ve hi;have lenV:=hi.length
 have hPt:∀ b,b∈Ps.map (·.2)->s₁.heap.get? b=some (Kr #[]):=λb hb=>by
  obtain ⟨p,hp,rfl⟩:=bw.mp hb;exact hPt0 p hp
 have naP:a∉Ps.map (·.2):=λz=>by rw [hPt a z] at ha;cases ha
 have KPt:∀ b,b∈Ps.map (·.2)->K.lookup b=none:=λb hb=>by
  cases q:K.lookup b with
  | none=>rfl
  | some o =>
   have e:=KX b o q;rw [hPt b hb] at e;cases e;have h2:=Ve.mp hnt (b,Kr #[]) (PySem.W.mem_of_lookupK q);exact absurd (show false=true from h2) bL
 have core:∀ H:Hp,(∀ b,b∈Ps.map (·.2)->H b=some (.tbl #[]))->(∀ b,b∉Ps.map (·.2)->H b=none\/∃ o xs,H b=some (.frz o (.lst xs)))->de K H a (ns.map V.int)->tS P w H s₁.heap->(∀ b,b∉Ps.map (·.2)->H b≠none->b=a)->(H a≠none->K.lookup a=none) ->
   kU (aP P w) HQ (.call (.ref fa) ⟨[.ref a],[]⟩) (λr s'=>r=.ok (.ret (.bool true))/\OldK s₁.heap s'.heap/\s'.os=s₁.os/\yH s'.gens) s₁:=by
  intro H hT hO hS fD hA hK;have base_of:∀ {b:af}{o:gi},s₁.heap.get? b=some o->H b=none->(BF s₁.heap H).get? b=some o:=λe n=>O6 e n
  have noA:∀ {b:af}{o:gi},s₁.heap.get? b=some o->o.cls≠.type "list"->b∉Ps.map (·.2)->H b=none:=λ{b o} e d hbP=>by
   cases q:H b with
   | none=>rfl
   | some u =>
    have e':b=a:=hA b hbP (by rw [q];simp);subst e';rw [ha] at e;cases e;exact absurd rfl d
  have noD:∀ {b:af}{o:gi}{es:Array DictEntry}{ep:Nat},s₁.heap.get? b=some o->o.data=.dict es ep->H b=none:=λ{b o es ep} e d=>by
   have hbP:b∉Ps.map (·.2):=λz=>by rw [hPt b z] at e;cases e;cases d
   cases q:H b with
   | none=>rfl
   | some u =>
    have e':b=a:=hA b hbP (by rw [q];simp);subst e';rw [ha] at e;cases e;have d':Data.seq vs.toArray _=Data.dict es ep:=d;cases d'
  have nsK:∀ {b:af}{m:bu->Option aj},s₁.heap.Ns b m->(BF s₁.heap H).Ns b m:=λ{b m} ⟨o,es,ep,e,d,r⟩=>⟨o,es,ep,base_of e (noD e d),d,r⟩
  have hKb:K.In (BF s₁.heap H):=λb o e=>base_of (KX b o e) (by
   have hbP:b∉Ps.map (·.2):=λz=>by rw [KPt b z] at e;cases e
   cases q:H b with
   | none=>rfl
   | some u =>
    have e':b=a:=hA b hbP (by rw [q];simp);subst e'
    rw [hK (by rw [q];simp)] at e;cases e)
  have hM:Mod K mg (BF s₁.heap H):=⟨hKb,nsK hns,⟨mb,nsK hb,hbb⟩,let ⟨mc,h1,h2⟩:=hlim;⟨mc,nsK h1,h2⟩⟩
  have notab:∀ {b:af}{o:gi},s₁.heap.get? b=some o->o.cls≠.none->b∉Ps.map (·.2):=λ{b o} e d z=>by rw [hPt b z] at e;cases e;exact d rfl
  have hCB:∀ p∈Ps,pI (BF s₁.heap H) p.1 p.2/\(BF s₁.heap H).BuiltinsAt mg p.2:=λp hp=>by
   refine ⟨?_,?_⟩
   ·obtain ⟨o,vs',file,tf,flags,tg,inF,text,tt,e1,r1,r2,r3,r4,r5,r6,r7,r8,hne⟩:=C p hp;exact ⟨o,vs',file,tf,flags,tg,inF,text,tt,base_of e1 (noA e1 (by rw [r1];decide) (notab e1 (by rw [r1];decide))),r1,r2,r3,r4,r5,r6,r7,r8,hne⟩
   ·obtain ⟨bm,o,b1,b2,b3,b4,b5,b6,b7⟩:=Bm p hp;exact ⟨bm,o,b1,b2,b3,b4,base_of b5 (noA b5 (by rw [b6];decide) (notab b5 (by rw [b6];decide))),b6,b7⟩
  have e0:Mj P w K mg (BF s₁.heap H) HQ [] s₁ H:=⟨rfl,hM,λb o e=>SE e,l0 (NC _ _),trivial,λb hb=>absurd (show b∈([]:List af) from hb) (by simp),fD,.of_eq hg⟩
  refine pE ((F _ hKb (nsK hns) hCB).run HQ [] s₁ H ⟨[.ref a],[]⟩ [.ref a] [.ref a] _ _ hr e0 (hbind s₁ (.ref a)) (.cons rfl .nil) (hsp H (λp hp=>hT p.2 (bp hp)) hS)) λr s' h=>?_
  cases r with
  | error e=>exact (hCX H e s' h).elim
  | ok fl =>
   cases fl with
   | next=>exact iO h
   | brk=>exact iO h
   | cont=>exact iO h
   | ret u =>
    obtain ⟨v,H',os,bare,un,hok',r',q⟩:=h;have q':v=.bl true:=q;subst q';obtain rfl:u=uW true:=r'
    have keep:∀ b o,b∉Ps.map (·.2)->s₁.heap.get? b=some o->s'.heap.get? b=some o:=λb o hbP e=>by
     cases q:H b with
     | none=>exact un.keep b o e q (by intro z;exact absurd (show b∈([]:List af) from z) (by simp)) (by simp)
     | some u =>
      rcases hO b hbP with z|⟨ob,xs,z⟩
      ·rw [q] at z;cases z
      ·have z2:=un.DQ b ob _ z;obtain ⟨e1,_⟩:=fD b _ z;obtain ⟨e2,_⟩:=hok' b _ z2;rw [e] at e1;cases e1;exact e2
    have hmore:∀ b,b∈Ps.map (·.2)->∃ more,s'.heap.get? b=some (Kr (#[]++more)):=λb hb=>by
     obtain ⟨more,hm⟩:=un.DP b _ (hT b hb);exact ⟨more,hok' b _ hm⟩
    refine ⟨rfl,⟨λb o e=>?_,λb o e=>?_⟩,os,bare⟩
    ·by_cases hbP:b∈Ps.map (·.2)
     ·obtain ⟨more,hP'⟩:=hmore b hbP;obtain ⟨p,hp,rfl⟩:=bw.mp hbP;rw [hPt0 p hp] at e;cases e;exact .inr (.inl ⟨((C p hp).tab (hPt0 p hp)).isCodeTable,rfl,#[],more,rfl,hP'⟩)
     ·exact .inl (keep b o hbP e)
    ·by_cases hbP:b∈Ps.map (·.2)
     ·obtain ⟨more,hP'⟩:=hmore b hbP;exact ⟨_,hP'⟩
     ·exact ⟨o,keep b o hbP e⟩
 cases hk:K.lookup a with
 | some o =>
  have e:=KX a o hk;rw [ha] at e;cases e;refine core (λb=>if b∈Ps.map (·.2) then some (.tbl #[]) else none) (λb hb=>if_pos hb) (λb hb=>.inl (if_neg hb)) (.inr ⟨_,vs.toArray,_,hk,rfl,rfl,rfl,by rw [aM,lenV];exact hl,by simpa using rv⟩) (λb u z=>?_) (λb hb z=>absurd (if_neg hb) z) λz=>absurd (if_neg naP) z
  by_cases hb:b∈Ps.map (·.2)
  ·have z':=(if_pos hb).symm.trans z;cases z';exact hPt b hb
  ·have z':=(if_neg hb).symm.trans z
   cases z'
 | none =>
  refine core (λb=>if b∈Ps.map (·.2) then some (.tbl #[]) else if b=a then some (.frz { cls:=.type "list",data:=.seq vs.toArray } (.lst (ns.map V.int))) else none) (λb hb=>if_pos hb) (λb hb=>?_) (.inl (.inr ⟨{ cls:=.type "list",data:=.seq vs.toArray },(if_neg naP).trans (if_pos rfl)⟩)) (λb u z=>?_) (λb hb z=>?_) λ_=>hk
  ·by_cases hba:b=a
   ·exact .inr ⟨_,_,(if_neg hb).trans (if_pos hba)⟩
   ·exact .inl ((if_neg hb).trans (if_neg hba))
  ·by_cases hb:b∈Ps.map (·.2)
   ·have z':=(if_pos hb).symm.trans z;cases z';exact hPt b hb
   ·have z0:=(if_neg hb).symm.trans z
    by_cases hba:b=a
    ·have z':=(if_pos hba).symm.trans z0;cases z';subst hba;exact ⟨ha,by rw [ag];exact hl,vs,_,rv,ha⟩
    ·have z':=(if_neg hba).symm.trans z0;cases z'
  ·by_cases hba:b=a
   ·exact hba
   ·exact absurd ((if_neg hb).trans (if_neg hba)) z
theorem QB {l:tL}{n k:Nat}{q:a9}{loose:List bu}{XP:(bu->Option aj)->cm->Prop}{YP:bQ->cm->Prop}{d:DefRec}{K:Params->aa}{sp:bQ->Sp}{x:bu}{Ps:List (af×af)}
  (hn:l.most=some n) (hn2:n<=aY) (hdf:d.params.defaults=[]) (hr:kT k HQ)
  (hY:∀ (w:bQ) (h:cm),YP w h->(K w.params).In h)
  (htab:∀ p∈Ps,∃ (y:bu) (dy:DefRec),(recsOf q).find? (λe=>e.name == y)=some dy/\∀ w:bQ,tabIn (K w.params) y=some p) (hnt:∀ w:bQ,noTabs (K w.params)=true)
  (F:∀ (w:bQ) (mg:bu->Option aj) (fa:af) (h:cm),(K w.params).In h->h.Ns bW mg->mg d.name=some (.ref fa) ->
   ∃ fd:fB,(∀ (s:ar) (u:aj),HM s fd ⟨[u],[]⟩ [(x,u)]) /\
    ∀ base:cm,(K w.params).In base->base.Ns bW mg->(∀ p∈Ps,pI base p.1 p.2/\base.BuiltinsAt mg p.2)->dF l.prog w (K w.params) mg base eN k fa fd [x] (sp w))
  (hsp:∀ (w:bQ) (H:Hp) (a:af) (ns:List Int),ns.length<=n->(∀ p∈Ps,H p.2=some (.tbl #[]))->de (K w.params) H a (ns.map V.int)->sp w [.ref a] H (λv _=>v=.bl true) λ_ _ _=>False)
  (hCX:∀ (H:Hp) (s:ar) (e:aj) (s':ar),eN [] H s (λ_ _ _=>False) e s'->False) :
  Sa q loose XP YP l.row.toRowW d [] (λf vs=>Sb f vs):=by
 refine Att.IH hn hdf λw s₀ s₁ mg mb fa o pm cd doc a vs ns G Y ho hd hcd hmg hobj hints hlen hg=>?_;have KX:=hY w _ Y;obtain ⟨fd,hb,hF⟩:=F w mg fa _ KX G.T.g hmg
 have hC:∀ p∈Ps,pI s₁.heap p.1 p.2/\s₁.heap.get? p.2=some (Kr #[]):=λp hp=>by
  obtain ⟨y,dy,h1,h2⟩:=htab p hp;exact PySem.W.tab_of G.T KX h1 (h2 w)
 have hgs:=G.T.g;obtain ⟨bm,ob,b1,b2,b3,b4,b5,b6⟩:=G.T.bmain
 have hbG:bm≠bW:=λq=>by
  obtain ⟨o,es,ep,e,hd,_⟩:=hgs;rw [q,e] at b3;cases b3;rw [hd] at b6;cases b6
 refine N4 KX G.T.g G.T.b G.T.builtins G.T.nolimit hg (λp hp=>(hC p hp).1) (λp hp=>(hC p hp).2) (λp hp=>⟨bm,ob,b1,b2,hbG,λq=>?_,b3,b4,b5,b6⟩) (hnt w) hobj hints (bz hlen hn2) hr hF hb (λH hT hS=>hsp w H a ns hlen hT hS) λH e s'=>hCX H s₁ e s';have:=(hC p hp).2;rw [← q,b3] at this;cases this;cases b4
end L2
namespace L2
def QC (K:aa):List V->Hp->VK->Prop:=λxs H Q=>∃ (p:af) (ns:List Int),xs=[.ref p]/\de K H p (ns.map V.int)/\Q (.int ns.sum) H
theorem FO {X:Cx}(hc:X.calm=true):oY X (.builtin "sum") (QC X.K):=by
 intro pins s Z H xs us Q I r h;obtain ⟨p,ns,rfl,hq,q⟩:=h;obtain ⟨u,rfl,ru⟩:=vals1 r;cases ru;obtain ⟨its,rv,pl,hz⟩:=I.list hq;have hi:fR its ns:=intsAre_of rv;obtain ⟨ys,e⟩:=hi.allInts.items;have hn:=hi.numsOf
 have e':its=(Xg ys).toList:=by rw [← e]
 rw [e',nums_intItems] at hn
 have hl:s.heap.IsList p (Xg ys):=by rw [← e];exact pl.isList
 subst hn
 refine sum_intListG (I.ok.hd hc) hl λh' tk t' hk=>⟨.int _,H,I.kept hk,⟨t',?_⟩,q⟩
 rw [preSum_eq,bS (by simp)]
end L2
namespace L2
open PySem PySem.Spec PyProof.Rows PySem.W
section
variable {X:Cx}{a:Expr}{ta:TE}
def Wj (b:Bool) (t:TE):TE:=λZ H Q=>t Z H λx H1=>∃ c,x=.bl c/\Q (.bl (c == b)) H1
theorem Wk {b:Bool}{j pos'} (ha:PE X a ta):PC X .Is a (.Constant (.bool b) j pos') (Wj b ta):=by
 intro pins s Z H Q I h;refine iG (ha pins s Z H _ I h) λv s1 ⟨x,H1,I1,r1,q1⟩=>?_;obtain ⟨c,rfl,q⟩:=q1;cases r1
 refine n6 pins s1 Z H1 (λy H2=>y=.bl b/\H2=H1) I1 ⟨rfl,rfl⟩ |> λz=>iG z λu s2 ⟨y,H2,I2,r2,e1,e2⟩=>?_
 subst e1 e2;cases r2;refine wpAny_is_plain rfl ⟨.bl (c == b),H2,I2,?_,q⟩;cases b<;>cases c<;>rfl
end
end L2
namespace L2
open PySem PySem.Spec PySem.Calls PyProof.Rows PySem.W
section
variable {X:Cx}{c Pt:af}{e:Expr}{tx:TA}{x y:bu}{j:Nat}{params:qG}{scope:lh}{p0 p1 p2 p3 p4 p5 lpos kpos pos:oZ}{x1:Nat}
end
end L2
namespace Sw
section
variable {prog:a9}{w:bQ}{A:bY}{E:aj->ar->Prop}{s:ar}
end
end Sw
namespace L2
open PySem PySem.Spec PyProof.Rows PySem.W
section
variable {X:Cx}{x:Expr}{t:TA}{p1 p2 q1 q2:oZ}
end
end L2
namespace Sy
open PySem PySem.W PyProof.Rows
abbrev SM:=StateT dW Uj
def qJ:Bool->aX->Array aX->Nat->Nat->Nat->SM (Option Nat):=sortPriv% PySem.Builtin.gallop
abbrev TG:=Option (Option Nat)×Nat×Nat
def Zh (b:Nat->SM (Option Bool)) (g:Nat->Nat) (f:Bool->Bool) (m:Nat) (_:Nat) (z:TG):SM (ForInStep TG) :=
 if z.2.2>=m then pure (.done (none,z.2)) else do
  match ← b (g z.2.2) with
  | some c=>if f c=true then pure (.done (none,z.2)) else pure (.yield (none,z.2.2,2*z.2.2+1))
  | _=>pure (.done (some none,z.2))
def X9 (b:Nat->SM (Option Bool)) (_:Nat) (z:TG):SM (ForInStep TG) :=
 if z.2.1>=z.2.2 then pure (.done (none,z.2)) else do
  match ← b (z.2.1+(z.2.2-z.2.1)/2) with
  | some c=>if c=true then pure (.yield (none,z.2.1+(z.2.2-z.2.1)/2+1,z.2.2)) else pure (.yield (none,z.2.1,z.2.1+(z.2.2-z.2.1)/2))
  | _=>pure (.done (some none,z.2))
def Wl (b:Nat->SM (Option Bool)) (n lo hi:Nat):SM (Option Nat):=do
 let z ← forIn [0:n] ((none,lo,hi):TG) (X9 b)
 (match z.1 with
 | some r=>pure r
 | none=>pure (some z.2.2))
def gal (b:Nat->SM (Option Bool)) (n h:Nat):SM (Option Nat):=do
 match ← b h with
 | some c=>(if c=true then (do
   let z ← forIn [0:n] ((none,0,1):TG) (Zh b (λo=>h+o) (λc=>!c) (n-h))
   (match z.1 with
   | some r=>pure r
   | none=>Wl b n (h+z.2.1+1) (h+min z.2.2 (n-h))))
  else (do
   let z ← forIn [0:n] ((none,0,1):TG) (Zh b (λo=>h-o) (λc=>c) (h+1))
   (match z.1 with
   | some r=>pure r
   | none=>Wl b n (h+1-min z.2.2 (h+1)) (h-z.2.1))))
 | _=>pure none
def bey (left:Bool) (key:aX) (arr:Array aX) (base i:Nat):SM (Option Bool):=do
 let x ← oG arr (base+i)
 if left then lt' x key else return (← lt' key x).map (!·)
theorem N5 (left:Bool) (key:aX) (arr:Array aX) (base n hint:Nat):qJ left key arr base n hint=gal (bey left key arr base) n hint:=by kernel_rfl
section
variable {M:Model}{A:bY}{E:aj->ar->Prop}{s:ar}{st:dW}{n m h:Nat}{P:Nat->Bool}{b:Nat->SM (Option Bool)}{Q:Option Nat->dW->Prop}
theorem Ya {g:Nat->Nat}{f:Bool->Bool}{Q:TG->dW->Prop}(hb:∀ o (Q:Option Bool->dW->Prop),o<m->Q (some (P (g o))) st->xB M A E s (b (g o)) Q st) (hm:m<=n) (h0:0<m)
  (h:∀ l o,l<o->l<m->(l=0\/f (P (g l))=false)->(o<m->f (P (g o))=true)->Q (none,l,o) st):xB M A E s (forIn [0:n] ((none,0,1):TG) (Zh b g f m)) Q st:=by
 refine gp (I:=λx z st'=>st'=st/\z.1=none/\z.2.1<z.2.2/\z.2.1<m/\(z.2.1=0\/f (P (g z.2.1))=false)/\x<z.2.2) ?_ ?_ ⟨rfl,rfl,by decide,h0,.inl rfl,by decide⟩
 ·rintro x ⟨z,l,o⟩ st' _ hx ⟨rfl,rfl,h1,h2,h3,h4⟩;unfold Zh;dsimp only at h1 h2 h3 h4 ⊢
  by_cases c:o>=m
  ·rw [if_pos c];exact bo (h l o h1 h2 h3 λq=>absurd q (by lia))
  ·rw [if_neg c];refine aV (hb o _ (by lia) ?_);dsimp only
   by_cases d:f (P (g o))=true
   ·rw [if_pos d];exact bo (h l o h1 h2 h3 λ_=>d)
   ·rw [if_neg d];exact bo ⟨rfl,rfl,by dsimp only;lia,by dsimp only;lia,.inr (by simpa using d),by dsimp only;lia⟩
 ·rintro ⟨z,l,o⟩ st' ⟨rfl,rfl,h1,h2,h3,h4⟩;exact h l o h1 h2 h3 λq=>absurd q (by dsimp only at h4;lia)
theorem UJ {lo hi:Nat}(hb:∀ i (Q:Option Bool->dW->Prop),i<n->Q (some (P i)) st->xB M A E s (b i) Q st) (hP:∀ i j,i<=j->j<n->P j=true->P i=true)
  (h:∀ k,k<=n->(∀ i,i<k->P i=true)->(∀ i,k<=i->i<n->P i=false)->Q (some k) st) (h1:lo<=hi) (h2:hi<=n) (h3:lo=0\/P (lo-1)=true) (h4:hi<n->P hi=false):xB M A E s (Wl b n lo hi) Q st:=by
 have fin:∀ l r,l<=r->r<=n->(l=0\/P (l-1)=true)->(r<n->P r=false)->r<=l->Q (some r) st:=λl r a1 a2 a3 a4 a5=>h r a2 (λi hi=>a3.elim (λz=>by lia) λz=>hP i _ (by lia) (by lia) z) λi z1 z2=>by
  cases q:P i with
  | false=>rfl
  | true=>have:=hP r i z1 z2 q;rw [a4 (by lia)] at this;cases this
 refine aV (gp (I:=λx z st'=>st'=st/\z.1=none/\z.2.1<=z.2.2/\z.2.2<=n/\(z.2.1=0\/P (z.2.1-1)=true)/\(z.2.2<n->P z.2.2=false)/\z.2.2+x<=z.2.1+n) ?_ ?_ ⟨rfl,rfl,h1,h2,h3,h4,by dsimp only;lia⟩)
 ·rintro x ⟨z,l,r⟩ st' _ hx ⟨rfl,rfl,a1,a2,a3,a4,a5⟩;unfold X9;dsimp only at a1 a2 a3 a4 a5 ⊢
  by_cases c:l>=r
  ·rw [if_pos c];exact bo (bo (fin l r a1 a2 a3 a4 c))
  ·rw [if_neg c];refine aV (hb _ _ (by lia) ?_)
   cases d:P (l+(r-l)/2) with
   | true=>exact bo ⟨rfl,rfl,by dsimp only;lia,a2,.inr d,a4,by dsimp only;lia⟩
   | false=>exact bo ⟨rfl,rfl,by dsimp only;lia,by dsimp only;lia,a3,λ_=>d,by dsimp only;lia⟩
 ·rintro ⟨z,l,r⟩ st' ⟨rfl,rfl,a1,a2,a3,a4,a5⟩;exact bo (fin l r a1 a2 a3 a4 (by dsimp only at a1 a5;lia))
theorem Yb (hb:∀ i (Q:Option Bool->dW->Prop),i<n->Q (some (P i)) st->xB M A E s (b i) Q st) (hP:∀ i j,i<=j->j<n->P j=true->P i=true) (hh:h<n)
  (hq:∀ k,k<=n->(∀ i,i<k->P i=true)->(∀ i,k<=i->i<n->P i=false)->Q (some k) st):xB M A E s (gal b n h) Q st:=by
 refine aV (hb h _ hh ?_);dsimp only
 by_cases c:P h=true
 ·rw [if_pos c];refine aV (Ya (P:=P) (λo Q ho q=>hb _ Q (by lia) q) (by lia) (by lia) λl o h1 h2 h3 h4=>UJ hb hP hq (by dsimp only;lia) (by dsimp only;lia) (.inr ?_) λz=>?_)
  ·rcases h3 with rfl|h3
   ·exact c
   ·show P (h+l)=true;simpa using h3
  ·have e:min o (n-h)=o:=by dsimp only at z;lia
   dsimp only at z ⊢;rw [e] at z ⊢;simpa using h4 (by lia)
 ·rw [if_neg c];refine aV (Ya (P:=P) (λo Q ho q=>hb _ Q (by lia) q) (by lia) (by lia) λl o h1 h2 h3 h4=>UJ hb hP hq (by dsimp only;lia) (by dsimp only;lia) ?_ λz=>?_)
  ·dsimp only
   by_cases q:o<h+1
   ·refine .inr ?_
    have e:h+1-min o (h+1)-1=h-o:=by lia
    rw [e];exact h4 q
   ·exact .inl (by lia)
  ·rcases h3 with rfl|h3
   ·simpa using c
   ·exact h3
end
end Sy
namespace Sy
open PySem PySem.W PyProof.Rows
structure G (r:aX->Int) (all out u v:List aX):Prop where
 pm:(out++(u++v)).Perm all
 so:out.Pairwise λx y=>r x<=r y
 su:u.Pairwise λx y=>r x<=r y
 sv:v.Pairwise λx y=>r x<=r y
 le:∀ x∈out,∀ y∈u++v,r x<=r y
section
variable {r:aX->Int}{all out u v c:List aX}{x:aX}
theorem G.swap (g:G r all out u v):G r all out v u :=
 ⟨(nr _ gB).trans g.pm,g.so,g.sv,g.su,λx hx y hy=>g.le x hx y (by simpa [or_comm] using hy)⟩
theorem G.take (g:G r all out (c++u) v) (h:∀ x∈c,∀ y∈v,r x<=r y):G r all (out++c) u v:=by
 obtain ⟨s1,s2,s3⟩:=ie.mp g.su;refine ⟨by simpa using g.pm,ie.mpr ⟨g.so,s1,λx hx y hy=>g.le x hx y (by simp [hy])⟩,s2,g.sv,λx hx y hy=>?_⟩
 rcases aQ.mp hx with hx|hx
 ·exact g.le x hx y (by rcases aQ.mp hy with z|z<;>simp [z])
 ·rcases aQ.mp hy with z|z
  ·exact s3 x hx y z
  ·exact h x hx y z
theorem G.done (g:G r all out u []):G r all (out++u) [] []:=G.take (u:=[]) (by simpa using g) λ_ _ _ z=>nomatch z
theorem G.len (g:G r all out u v):out.length+u.length+v.length=all.length:=by
 have:=g.pm.length_eq;simp at this;lia
end
abbrev S1 (α β γ:Type):=Option (Array aX)×α×β×γ×Nat×Nat
abbrev S2 (α β γ:Type):=Option (Array aX)×α×β×γ×Nat×Nat×Nat
abbrev S0 (α β γ:Type):=Option (Array aX)×α×β×γ×Nat
abbrev T1:=S1 (Array aX) Nat Nat
abbrev T2:=S2 (Array aX) Nat Nat
def QD (g:Nat):SM Unit:=modify λs=>a8 (kindOf s) (pO s) (cM s) g (jK s)
def rnd {α β γ:Type} (N:Nat) (B:Nat->Nat->S1 α β γ->SM (ForInStep (S1 α β γ))) (g:Nat->S2 α β γ->SM (ForInStep (S2 α β γ))) (_:Nat) (z:S0 α β γ):SM (ForInStep (S0 α β γ)):=do
 let y ← forIn [0:N] ((none,z.2.1,z.2.2.1,z.2.2.2.1,0,0):S1 α β γ) (B z.2.2.2.2)
 (match y.1 with
 | some r=>pure (.done (some r,y.2.1,y.2.2.1,y.2.2.2.1,z.2.2.2.2))
 | none=>do
  liftM (DS "list.sort.gallop")
  let x ← forIn [0:N] ((none,y.2.1,y.2.2.1,y.2.2.2.1,z.2.2.2.2+1,y.2.2.2.2):S2 α β γ) g
  (match x.1 with
  | some r=>pure (.done (some r,x.2.1,x.2.2.1,x.2.2.2.1,x.2.2.2.2.1))
  | none=>do
   QD (x.2.2.2.2.1+1)
   pure (.yield (none,x.2.1,x.2.2.1,x.2.2.2.1,x.2.2.2.2.1+1))))
def Z2 {α β γ:Type} (N:Nat) (B:Nat->Nat->S1 α β γ->SM (ForInStep (S1 α β γ))) (g:Nat->S2 α β γ->SM (ForInStep (S2 α β γ))) (x:α) (y:β) (z:γ):SM (Array aX):=do
 let t ← get
 let q ← forIn [0:N] ((none,x,y,z,gallopOf t):S0 α β γ) (rnd N B g)
 (match q.1 with
 | some r=>pure r
 | none=>liftM (unsupported "internal:list.sort.merge-bound"))
def Cu:Array aX->Array aX->SM (Array aX):=sortPriv% PySem.Builtin.mergeLo
section
variable (a b:Array aX)
def dn (o:Array aX) (i j:Nat):Array aX:=o++a.extract i a.size++b.extract j b.size
def lst (o:Array aX) (i j:Nat):Array aX:=o++b.extract j b.size++a.extract i a.size
def Z3 (mg:Nat) (_:Nat) (z:T1):SM (ForInStep T1):=do
 match ← lt' (← oG b z.2.2.2.1) (← oG a z.2.2.1) with
 | some c=>(if c=true then (do
   let o:=z.2.1.push (← oG b z.2.2.2.1)
   if (z.2.2.2.1+1 == b.size)=true then pure (.done (some (dn a b o z.2.2.1 (z.2.2.2.1+1)),o,z.2.2.1,z.2.2.2.1+1,0,z.2.2.2.2.2+1))
   else if z.2.2.2.2.2+1>=mg then pure (.done (none,o,z.2.2.1,z.2.2.2.1+1,0,z.2.2.2.2.2+1)) else pure (.yield (none,o,z.2.2.1,z.2.2.2.1+1,0,z.2.2.2.2.2+1)))
  else (do
   let o:=z.2.1.push (← oG a z.2.2.1)
   if (z.2.2.1+1+1 == a.size)=true then pure (.done (some (lst a b o (z.2.2.1+1) z.2.2.2.1),o,z.2.2.1+1,z.2.2.2.1,z.2.2.2.2.1+1,0))
   else if z.2.2.2.2.1+1>=mg then pure (.done (none,o,z.2.2.1+1,z.2.2.2.1,z.2.2.2.2.1+1,0)) else pure (.yield (none,o,z.2.2.1+1,z.2.2.2.1,z.2.2.2.2.1+1,0))))
 | _=>pure (.done (some (dn a b z.2.1 z.2.2.1 z.2.2.2.1),z.2))
def TJ (o:Array aX) (i j mg k m:Nat):SM (ForInStep T2):=do
 let o:=o.push (← oG a i)
 if (i+1+1 == a.size)=true then pure (.done (some (lst a b o (i+1) j),o,i+1,j,mg,k,m))
 else if (decide (k<7) && decide (m<7))=true then pure (.done (none,o,i+1,j,mg,k,m)) else pure (.yield (none,o,i+1,j,mg,k,m))
def TK (o:Array aX) (i j mg k q:Nat):SM (ForInStep T2):=do
 let o:=o.push (← oG b j)
 if (j+1 == b.size)=true then pure (.done (some (dn a b o i (j+1)),o,i,j+1,mg,k,q))
 else (do
  match ← qJ true (← oG a i) b (j+1) (b.size-(j+1)) 0 with
  | some m=>if m>0 then (if (j+1+m == b.size)=true then pure (.done (some (dn a b (o++b.extract (j+1) (j+1+m)) i (j+1+m)),o++b.extract (j+1) (j+1+m),i,j+1+m,mg,k,m)) else TJ a b (o++b.extract (j+1) (j+1+m)) i (j+1+m) mg k m) else TJ a b o i (j+1) mg k m
  | _=>pure (.done (some (dn a b o i (j+1)),o,i,j+1,mg,k,q)))
def QE (z:T2) (mg:Nat):SM (ForInStep T2):=do
 QD mg
 match ← qJ false (← oG b z.2.2.2.1) a z.2.2.1 (a.size-z.2.2.1) 0 with
 | some k=>if k>0 then (if (z.2.2.1+k+1 == a.size)=true then pure (.done (some (lst a b (z.2.1++a.extract z.2.2.1 (z.2.2.1+k)) (z.2.2.1+k) z.2.2.2.1),z.2.1++a.extract z.2.2.1 (z.2.2.1+k),z.2.2.1+k,z.2.2.2.1,mg,k,z.2.2.2.2.2.2))
   else if (z.2.2.1+k == a.size)=true then pure (.done (some (dn a b (z.2.1++a.extract z.2.2.1 (z.2.2.1+k)) (z.2.2.1+k) z.2.2.2.1),z.2.1++a.extract z.2.2.1 (z.2.2.1+k),z.2.2.1+k,z.2.2.2.1,mg,k,z.2.2.2.2.2.2))
   else TK a b (z.2.1++a.extract z.2.2.1 (z.2.2.1+k)) (z.2.2.1+k) z.2.2.2.1 mg k z.2.2.2.2.2.2) else TK a b z.2.1 z.2.2.1 z.2.2.2.1 mg k z.2.2.2.2.2.2
 | _=>pure (.done (some (dn a b z.2.1 z.2.2.1 z.2.2.2.1),z.2.1,z.2.2.1,z.2.2.2.1,mg,z.2.2.2.2.2))
def Z4 (_:Nat) (z:T2):SM (ForInStep T2):=if z.2.2.2.2.1>1 then QE a b z (z.2.2.2.2.1-1) else QE a b z z.2.2.2.2.1
theorem Yc:Cu a b=(do
  liftM (DS "list.sort.merge-lo")
  let x ← oG b 0
  if (1 == b.size)=true then pure (dn a b #[x] 0 1) else if (0+1 == a.size)=true then pure (lst a b #[x] 0 1)
  else Z2 (a.size+b.size) (Z3 a b) (Z4 a b) #[x] 0 1):=by kernel_rfl
end
end Sy
namespace Sy
open PySem PySem.W PyProof.Rows
def St (r:aX->Int) (a:Array aX) (i j:Nat):Prop:=∀ t u x y,i<=t->t<=u->u<j->a[t]?=some x->a[u]?=some y->r x<=r y
def Bv (r:aX->Int) (left:Bool) (key x:aX):Bool:=if left=true then decide (r x<r key) else !decide (r key<r x)
def Gy (prog:a9) (w:bQ) (A:bY) (s:ar) (κ:kq) (D:aX->Prop) (r:aX->Int):Prop :=
 ∀ x y,D x->D y->∀ Q:Bool->ar->Prop,Q (decide (r x<r y)) s->aK (aP prog w) A (keyLt' κ x.1 y.1) Q (λ_ _=>False) s
section
variable {prog:a9}{w:bQ}{A:bY}{E:aj->ar->Prop}{s:ar}{κ:kq} {D:aX->Prop}{r:aX->Int}{st:dW}{a b:Array aX}{x y key:aX}{i j n hint:Nat}{left:Bool}
theorem w_lt (hc:Gy prog w A s κ D r) (hk:kindOf st=κ) (hx:D x) (hy:D y) {Q:Option Bool->dW->Prop}(h:Q (some (decide (r x<r y))) st):xB (aP prog w) A E s (lt' x y) Q st:=by
 rw [lt'_eq];refine aV (tw ?_);rw [hk];exact aV (HZ (i4 (dZ (hc x y hx hy (λc s'=>s'=s/\c=decide (r x<r y)) ⟨rfl,rfl⟩) (λc s' q=>⟨q.1,by rw [q.2];exact bo h⟩) λ_ _ q=>q.elim)))
theorem qd {Q:aX->dW->Prop}(e:a[i]?=some x) (h:Q x st):xB (aP prog w) A E s (oG a i) Q st:=by rw [elem'_eq,e];exact bo h
theorem rS {Q:Option Nat->dW->Prop}(hc:Gy prog w A s κ D r) (hk:kindOf st=κ) (hD:∀ (t:Nat) x,a[t]?=some x->D x) (hy:D key) (hz:i+n<=a.size) (hs:St r a i (i+n)) (hh:hint<n)
  (h:∀ k,k<=n->(∀ t x,i<=t->t<i+k->a[t]?=some x->Bv r left key x=true)->(∀ t x,i+k<=t->t<i+n->a[t]?=some x->Bv r left key x=false)->Q (some k) st):xB (aP prog w) A E s (qJ left key a i n hint) Q st:=by
 rw [N5]
 have get:∀ t,t<n->∃ x,a[i+t]?=some x:=λt ht=>⟨a[i+t],by simp⟩
 refine Yb (P:=λt=>((a[i+t]?).map (Bv r left key)).getD false) (λt Q ht q=>?_) (λt u h1 h2 h3=>?_) hh λk h1 h2 h3=>h k h1 (λt x z1 z2 e=>?_) λt x z1 z2 e=>?_
 ·obtain ⟨x,e⟩:=get t ht
  have q:Q (some (Bv r left key x)) st:=by simpa [e] using q
  refine aV (qd e ?_)
  cases left with
  | true=>exact w_lt hc hk (hD _ x e) hy q
  | false=>exact aV (w_lt hc hk hy (hD _ x e) (bo q))
 ·obtain ⟨x,e⟩:=get t (by lia);obtain ⟨y,f⟩:=get u h2;have le:=hs _ _ x y (by lia) (show i+t<=i+u by lia) (by lia) e f;simp only [e,f,ke,Option.getD_some] at h3 ⊢
  cases left with
  | true=>exact decide_eq_true (Int.lt_of_le_of_lt le (of_decide_eq_true h3))
  | false =>
   have h3:(!decide (r key<r y))=true:=h3
   show (!decide (r key<r x))=true
   simp only [Bool.not_eq_true',decide_eq_false_iff_not] at h3 ⊢;lia
 ·have:=h2 (t-i) (by lia);rw [show i+(t-i)=t by lia] at this
  simpa [e] using this
 ·have:=h3 (t-i) (by lia) (by lia);rw [show i+(t-i)=t by lia] at this
  simpa [e] using this
end
section
variable {a:Array aX}{x:aX}{i j k:Nat}
theorem M5 (a:Array aX) (i k:Nat):a.toList.drop i=(a.extract i (i+k)).toList++a.toList.drop (i+k):=by
 have:=(fq k (a.toList.drop i)).symm
 simpa [Xy] using this
theorem Lh (h:x∈a.toList.drop i):∃ t,i<=t/\t<a.size/\a[t]?=some x:=by
 obtain ⟨t,ht,e⟩:=O2.mp h;simp at ht;exact ⟨i+t,by lia,by lia,by rw [List.getElem_drop] at e;rw [← e];simp⟩
theorem zd (h:x∈(a.extract i j).toList):∃ t,i<=t/\t<j/\t<a.size/\a[t]?=some x:=by
 obtain ⟨t,ht,e⟩:=O2.mp h;simp at ht;exact ⟨i+t,by lia,by lia,by lia,by rw [Array.getElem_toList,Array.getElem_extract] at e;rw [← e];simp⟩
theorem zc (h:a.size<=i):a.toList.drop i=[]:=List.drop_eq_nil_of_le (by simpa using h)
theorem ua (a:Array aX) (i:Nat):(a.extract i a.size).toList=a.toList.drop i:=by simpa using bS (by simp)
end
end Sy
namespace Sy
open PySem PySem.W PyProof.Rows
section
variable {prog:a9}{w:bQ}{A:bY}{E:aj->ar->Prop}{s:ar}{κ:kq} {D:aX->Prop}{r:aX->Int}{a b:Array aX}{xs o:Array aX}{pd:Array (Nat×Nat×Nat)}{i j k g mg N:Nat}{all:List aX}
def F (r:aX->Int) (all:List aX) (o:Array aX):Prop:=G r all o.toList [] []
def J (r:aX->Int) (all:List aX) (a b o:Array aX) (i j:Nat):Prop:=G r all o.toList (a.toList.drop i) (b.toList.drop j)
def Km (r:aX->Int) (all:List aX) (a b:Array aX) (k:Nat) (z:Option (Array aX)) (o:Array aX) (i j:Nat):Prop :=
 (∀ q,z=some q->F r all q)/\(z=none->J r all a b o i j/\i+1<a.size/\j<b.size/\k<=o.size)
structure HJ (r:aX->Int) (D:aX->Prop) (a b:Array aX):Prop where
 da:∀ (t:Nat) x,a[t]?=some x->D x
 db:∀ (t:Nat) x,b[t]?=some x->D x
 sa:St r a 0 a.size
 sb:St r b 0 b.size
 la:∀ (t u:Nat) x y,t+1=a.size->a[t]?=some x->b[u]?=some y->r y<=r x
theorem J.len (g:J r all a b o i j) (hi:i<=a.size) (hj:j<=b.size) (hl:all.length=a.size+b.size):o.size=i+j:=by
 have:=G.len g;simp at this;lia
theorem J.fb (g:J r all a b o i j) (h:j=b.size):F r all (dn a b o i j):=by
 unfold J at g;rw [zc (a:=b) (l0 h.symm)] at g;have:=g.done;unfold F dn;rw [iF,iF,ua,ua,zc (a:=b) (l0 h.symm),vF];exact this
theorem J.fa (g:J r all a b o i j) (h:i=a.size):F r all (dn a b o i j):=by
 unfold J at g;rw [zc (a:=a) (l0 h.symm)] at g;have:=g.swap.done;unfold F dn;rw [iF,iF,ua,ua,zc (a:=a) (l0 h.symm),vF];exact this
theorem J.fl (g:J r all a b o i j) (T:HJ r D a b) (h:i+1=a.size):F r all (lst a b o i j):=by
 have g2:G r all (o.toList++b.toList.drop j) [] (a.toList.drop i):=G.take (by simpa using G.swap g) λy hy x hx=>by
  obtain ⟨t,h1,h2,e⟩:=Lh hx;obtain ⟨u,_,_,f⟩:=Lh hy;exact T.la t u x y (by lia) e f
 have:=g2.swap.done;unfold F lst;rw [iF,iF,ua,ua];exact this
theorem J.ta (g:J r all a b o i j) (h:∀ t x u y,i<=t->t<i+k->a[t]?=some x->j<=u->b[u]?=some y->r x<=r y):J r all a b (o++a.extract i (i+k)) (i+k) j:=by
 unfold J at g ⊢;rw [M5 a i k] at g;rw [iF]
 exact g.take λx hx y hy=>by
  obtain ⟨t,h1,h2,_,e⟩:=zd hx;obtain ⟨u,h3,_,f⟩:=Lh hy;exact h t x u y h1 h2 e h3 f
theorem J.tb (g:J r all a b o i j) (h:∀ t x u y,j<=t->t<j+k->b[t]?=some x->i<=u->a[u]?=some y->r x<=r y):J r all a b (o++b.extract j (j+k)) i (j+k) :=
 G.swap (J.ta (a:=b) (b:=a) (G.swap g) h)
theorem QF {x:aX}(e:a[i]?=some x):o.push x=o++a.extract i (i+1):=by
 obtain ⟨h,rfl⟩:=cD.mp e
 apply lO.mp
 have:=jg (l:=a.toList) (i:=i) (by simpa using h);simp [this]
theorem J.pa {x:aX}(g:J r all a b o i j) (T:HJ r D a b) (e:a[i]?=some x) (h:∀ u y,j<=u->b[u]?=some y->r x<=r y):J r all a b (o.push x) (i+1) j:=by
 rw [QF e]
 exact J.ta g λt z u y h1 h2 f h3 h4=>by
  have:t=i:=by lia
  subst this;rw [e] at f;cases f;exact h u y h3 h4
theorem J.pb {x:aX}(g:J r all a b o i j) (T:HJ r D a b) (e:b[j]?=some x) (h:∀ u y,i<=u->a[u]?=some y->r x<=r y):J r all a b (o.push x) i (j+1):=by
 rw [QF e]
 exact J.tb g λt z u y h1 h2 f h3 h4=>by
  have:t=j:=by lia
  subst this;rw [e] at f;cases f;exact h u y h3 h4
end
end Sy
namespace Sy
open PySem PySem.W PyProof.Rows
section
variable {prog:a9}{w:bQ}{A:bY}{E:aj->ar->Prop}{s:ar}{κ:kq} {D:aX->Prop}{r:aX->Int}{st:dW}{a b:Array aX}{xs o:Array aX}{pd:Array (Nat×Nat×Nat)}{i j k m q g mg N:Nat}{all:List aX}
def Sm (κ:kq) (xs:Array aX) (pd:Array (Nat×Nat×Nat)) (st:dW):Prop:=∃ g,st=a8 κ xs pd g none
theorem gY {a:Array aX}{i:Nat}(h:i<a.size):∃ x,a[i]?=some x:=⟨a[i],by simp [h]⟩
theorem ub {a:Array aX}{i:Nat}{x:aX}(h:a[i]?=some x):i<a.size:=(cD.mp h).1
theorem Km.told {q:Array aX}(h:F r all q):Km r all a b k (some q) o i j:=⟨λ_ e=>by cases e;exact h,(λe=>nomatch e)⟩
theorem Km.on (h1:J r all a b o i j) (h2:i+1<a.size) (h3:j<b.size) (h4:k<=o.size):Km r all a b k none o i j:=⟨(λ_ e=>nomatch e),λ_=>⟨h1,h2,h3,h4⟩⟩
theorem Yd (hc:Gy prog w A s κ D r) (hk:kindOf st=κ) (T:HJ r D a b) {Q:T1->dW->Prop}(h1:J r all a b o i j) (h2:i+1<a.size) (h3:j<b.size)
  (h:∀ z,Km r all a b o.size z.1 z.2.1 z.2.2.1 z.2.2.2.1->Q z st):xB (aP prog w) A E s (forIn [0:N] ((none,o,i,j,0,0):T1) (Z3 a b mg)) Q st:=by
 refine gp (I:=λx z st'=>st'=st/\z.1=none/\J r all a b z.2.1 z.2.2.1 z.2.2.2.1/\z.2.2.1+1<a.size/\z.2.2.2.1<b.size/\o.size<=z.2.1.size) ?_ ?_ ⟨rfl,rfl,h1,h2,h3,au _⟩
 ·rintro x ⟨z,o',i',j',ac,bc⟩ st' _ hx ⟨rfl,rfl,g,g2,g3,g4⟩;dsimp only at g g2 g3 g4;obtain ⟨u,eu⟩:=gY (a:=a) (i:=i') (by lia);obtain ⟨v,ev⟩:=gY g3;unfold Z3;refine aV (qd ev (aV (qd eu (aV (w_lt hc hk (T.db _ _ ev) (T.da _ _ eu) ?_)))));dsimp only
  have sz:∀ x:aX,o.size<=(o'.push x).size:=λx=>by rw [jf];lia
  by_cases c:r v<r u
  ·rw [decide_eq_true c,if_pos rfl];have g5:=g.pb T ev λt y h1 e=>dh (ia c) (T.sa _ _ _ _ (aJ _) h1 (ub e) eu e);refine aV (qd ev ?_)
   by_cases e:j'+1=b.size
   ·rw [if_pos (by simpa using e)];exact bo (h _ (Km.told (g5.fb e)))
   ·rw [if_neg (by simpa using e)]
    by_cases f:bc+1>=mg
    ·rw [if_pos f];exact bo (h _ (Km.on g5 g2 (by dsimp only;lia) (sz _)))
    ·rw [if_neg f];exact bo ⟨rfl,rfl,g5,g2,by dsimp only;lia,sz _⟩
  ·rw [decide_eq_false c,if_neg (by simp)];have g5:=g.pa T eu λt y h1 e=>dh (sk.mp c) (T.sb _ _ _ _ (aJ _) h1 (ub e) ev e);refine aV (qd eu ?_)
   by_cases e:i'+1+1=a.size
   ·rw [if_pos (by simpa using e)];exact bo (h _ (Km.told (g5.fl T e)))
   ·rw [if_neg (by simpa using e)]
    by_cases f:ac+1>=mg
    ·rw [if_pos f];exact bo (h _ (Km.on g5 (by dsimp only;lia) g3 (sz _)))
    ·rw [if_neg f];exact bo ⟨rfl,rfl,g5,by dsimp only;lia,g3,sz _⟩
 ·rintro ⟨z,o',i',j',ac,bc⟩ st' ⟨rfl,rfl,g,g2,g3,g4⟩;exact h _ (Km.on g g2 g3 g4)
def Nx (κ:kq) (xs:Array aX) (pd:Array (Nat×Nat×Nat)) (r:aX->Int) (all:List aX) (a b:Array aX) (k:Nat) (x:ForInStep T2) (st':dW):Prop :=
 Sm κ xs pd st'/\match x with
  | .done z=>Km r all a b k z.1 z.2.1 z.2.2.1 z.2.2.2.1
  | .yield z=>z.1=none/\J r all a b z.2.1 z.2.2.1 z.2.2.2.1/\z.2.2.1+1<a.size/\z.2.2.2.1<b.size/\k<=z.2.1.size
theorem UK (T:HJ r D a b) (h0:Sm κ xs pd st) (h1:J r all a b o i j) (h2:i+1<a.size) (h3:j<b.size) (h4:k<=o.size+1)
  (h:∀ x,a[i]?=some x->∀ u y,j<=u->b[u]?=some y->r x<=r y):xB (aP prog w) A E s (TJ a b o i j mg m q) (Nx κ xs pd r all a b k) st:=by
 obtain ⟨x,e⟩:=gY (a:=a) (i:=i) (by lia);unfold TJ;have g:=h1.pa T e (h x e)
 have sz:k<=(o.push x).size:=by rw [jf];lia
 refine aV (qd e ?_);dsimp only
 by_cases c:i+1+1=a.size
 ·rw [if_pos (by simpa using c)];exact bo ⟨h0,Km.told (g.fl T c)⟩
 ·rw [if_neg (by simpa using c)]
  split
  ·exact bo ⟨h0,Km.on g (by dsimp only;lia) h3 sz⟩
  ·exact bo ⟨h0,rfl,g,by dsimp only;lia,h3,sz⟩
theorem UL (hc:Gy prog w A s κ D r) (T:HJ r D a b) (h0:Sm κ xs pd st) (h1:J r all a b o i j) (h2:i+1<a.size) (h3:j<b.size) (h4:k<=o.size+2)
  (h:∀ x,b[j]?=some x->∀ u y,i<=u->a[u]?=some y->r x<=r y):xB (aP prog w) A E s (TK a b o i j mg m q) (Nx κ xs pd r all a b k) st:=by
 obtain ⟨x,e⟩:=gY h3;obtain ⟨y,f⟩:=gY (a:=a) (i:=i) (by lia);unfold TK;have g:=h1.pb T e (h x e);refine aV (qd e ?_);dsimp only
 by_cases c:j+1=b.size
 ·rw [if_pos (by simpa using c)];exact bo ⟨h0,Km.told (g.fb c)⟩
 ·rw [if_neg (by simpa using c)]
  have hk:kindOf st=κ:=by obtain ⟨_,rfl⟩:=h0;rfl
  refine aV (qd f (aV (rS hc hk T.db (T.da _ _ f) (by lia) (λt u x y z1 z2 z3=>T.sb t u x y (aJ _) z2 (by lia)) (by lia) λn n1 n2 n3=>?_)));dsimp only;have ya:∀ u z,i<=u->a[u]?=some z->r y<=r z:=λu z h1 e=>T.sa _ _ _ _ (aJ _) h1 (ub e) f e;have g2:=g.tb (k:=n) λt x u z z1 z2 e1 z3 e2=>dh (ia (of_decide_eq_true (n2 t x z1 z2 e1))) (ya u z z3 e2)
  have hb:∀ x,a[i]?=some x->∀ u z,j+1+n<=u->b[u]?=some z->r x<=r z:=λx e1 u z h1 e2=>by
   rw [f] at e1;cases e1;exact sk.mp (of_decide_eq_false (n3 u z h1 (by have:=ub e2;lia) e2))
  have sz:k<=(o.push x).size+1:=by rw [jf];lia
  by_cases d:n>0
  ·rw [if_pos d]
   by_cases c2:j+1+n=b.size
   ·rw [if_pos (by simpa using c2)];exact bo ⟨h0,Km.told (g2.fb c2)⟩
   ·rw [if_neg (by simpa using c2)];exact UK T h0 g2 h2 (by lia) (by rw [sC];lia) hb
  ·rw [if_neg d]
   have:n=0:=by lia
   subst this;exact UK T h0 g h2 (by lia) sz hb
theorem Ye (hc:Gy prog w A s κ D r) (T:HJ r D a b) (h0:Sm κ xs pd st) {z:T2}(h1:J r all a b z.2.1 z.2.2.1 z.2.2.2.1) (h2:z.2.2.1+1<a.size) (h3:z.2.2.2.1<b.size) (h4:k<=z.2.1.size+1) :
  xB (aP prog w) A E s (QE a b z mg) (Nx κ xs pd r all a b k) st:=by
 obtain ⟨z0,o,i,j,g0,ac,bc⟩:=z;dsimp only at h1 h2 h3 h4;obtain ⟨x,e⟩:=gY h3;unfold QE QD;dsimp only;refine aV (jk ?_)
 have h0':Sm κ xs pd (a8 (kindOf st) (pO st) (cM st) mg (jK st)):=by obtain ⟨g,rfl⟩:=h0;exact ⟨mg,rfl⟩
 have hk:kindOf (a8 (kindOf st) (pO st) (cM st) mg (jK st))=κ:=by obtain ⟨_,e⟩:=h0';rw [e]
 generalize a8 (kindOf st) (pO st) (cM st) mg (jK st)=st1 at h0' hk;refine aV (qd e (aV (rS hc hk T.da (T.db _ _ e) (by lia) (λt u x y z1 z2 z3=>T.sa t u x y (aJ _) z2 (by lia)) (by lia) λn n1 n2 n3=>?_)));dsimp only;have xb:∀ u z,j<=u->b[u]?=some z->r x<=r z:=λu z h1 e1=>T.sb _ _ _ _ (aJ _) h1 (ub e1) e e1
 have nx:∀ t y,i<=t->t<i+n->a[t]?=some y->r y<=r x:=λt y h1 h2 e1=>by
  have:=n2 t y h1 h2 e1
  simpa [Bv] using this
 have g2:=h1.ta (k:=n) λt y u z z1 z2 e1 z3 e2=>dh (nx t y z1 z2 e1) (xb u z z3 e2)
 have ha:∀ y,b[j]?=some y->∀ u z,i+n<=u->a[u]?=some z->r y<=r z:=λy e1 u z h1 e2=>by
  rw [e] at e1;cases e1;have:=n3 u z h1 (by have:=ub e2;lia) e2;exact ia (by simpa [Bv] using this)
 by_cases d:n>0
 ·rw [if_pos d]
  by_cases c1:i+n+1=a.size
  ·rw [if_pos (by simpa using c1)];exact bo ⟨h0',Km.told (g2.fl T c1)⟩
  ·rw [if_neg (by simpa using c1)]
   by_cases c2:i+n=a.size
   ·rw [if_pos (by simpa using c2)];exact bo ⟨h0',Km.told (g2.fa c2)⟩
   ·rw [if_neg (by simpa using c2)];exact UL hc T h0' g2 (by lia) h3 (by rw [sC];lia) ha
 ·rw [if_neg d]
  have:n=0:=by lia
  subst this;exact UL hc T h0' h1 h2 h3 (by lia) ha
theorem UM {α β γ:Type} {B:Nat->Nat->S1 α β γ->SM (ForInStep (S1 α β γ))}{G:Nat->S2 α β γ->SM (ForInStep (S2 α β γ))}{Fq:Array aX->Prop}{Jv:α->β->γ->Prop}{sz:α->β->γ->Nat}{Q:Array aX->dW->Prop}{x:α}{y:β}{z:γ}
  (hB:∀ mg st x y z (Q:S1 α β γ->dW->Prop),Sm κ xs pd st->Jv x y z->(∀ u,(∀ q,u.1=some q->Fq q)->(u.1=none->Jv u.2.1 u.2.2.1 u.2.2.2.1/\sz x y z<=sz u.2.1 u.2.2.1 u.2.2.2.1)->Q u st)->xB (aP prog w) A E s (forIn [0:N] ((none,x,y,z,0,0):S1 α β γ) (B mg)) Q st)
  (hG:∀ i st (u:S2 α β γ),Sm κ xs pd st->Jv u.2.1 u.2.2.1 u.2.2.2.1->xB (aP prog w) A E s (G i u) (λv st'=>Sm κ xs pd st'/\match v with
   | .done v=>(∀ q,v.1=some q->Fq q)/\(v.1=none->Jv v.2.1 v.2.2.1 v.2.2.2.1/\sz u.2.1 u.2.2.1 u.2.2.2.1+1<=sz v.2.1 v.2.2.1 v.2.2.2.1)
   | .yield v=>v.1=none/\Jv v.2.1 v.2.2.1 v.2.2.2.1/\sz u.2.1 u.2.2.1 u.2.2.2.1+1<=sz v.2.1 v.2.2.1 v.2.2.2.1) st)
  (hN:∀ x y z,Jv x y z->sz x y z<N) (h0:Sm κ xs pd st) (h1:Jv x y z) (h:∀ q st',Sm κ xs pd st'->Fq q->Q q st'):xB (aP prog w) A E s (Z2 N B G x y z) Q st:=by
 refine aV (tw (aV (pP (gp (I:=λk z st'=>Sm κ xs pd st'/\z.1=none/\Jv z.2.1 z.2.2.1 z.2.2.2.1/\k<=sz z.2.1 z.2.2.1 z.2.2.2.1)
  (Q:=λz st'=>Sm κ xs pd st'/\∃ q,z.1=some q/\Fq q) ?_ ?_ ⟨h0,rfl,h1,aJ _⟩) ?_)))
 ·rintro k u st' _ hk ⟨i0,i1,i2,i3⟩;refine aV (hB _ _ _ _ _ _ i0 i2 λv v1 v2=>?_);obtain ⟨v0,v⟩:=v
  cases v0 with
  | some q=>exact bo ⟨i0,q,rfl,v1 q rfl⟩
  | none =>
   obtain ⟨v3,v4⟩:=v2 rfl;refine aV (HZ (iM ⟨rfl,?_⟩))
   refine aV (pP (gp (I:=λm z st'=>Sm κ xs pd st'/\z.1=none/\Jv z.2.1 z.2.2.1 z.2.2.2.1/\k+m<=sz z.2.1 z.2.2.1 z.2.2.2.1)
    (Q:=λz st'=>Sm κ xs pd st'/\(∀ q,z.1=some q->Fq q)/\(z.1=none->Jv z.2.1 z.2.2.1 z.2.2.2.1/\k+1<=sz z.2.1 z.2.2.1 z.2.2.2.1)) ?_ ?_ ⟨i0,rfl,v3,bz i3 v4⟩) ?_)
   ·rintro m u' st2 _ hm ⟨j0,j1,j2,j3⟩;refine pP (hG m st2 u' j0 j2) λv st3 q=>?_;obtain ⟨p,q⟩:=q
    cases v with
    | done v=>exact ⟨p,q.1,λe=>let ⟨a1,a2⟩:=q.2 e;⟨a1,by lia⟩⟩
    | yield v=>exact ⟨p,q.1,q.2.1,by have:=q.2.2;lia⟩
   ·rintro u' st2 ⟨j0,j1,j2,j3⟩;exact ⟨j0,⟨λq e=>(by rw [j1] at e;cases e),λ_=>⟨j2,by have:=hN _ _ _ j2;lia⟩⟩⟩
   ·rintro ⟨u0,u'⟩ st2 ⟨j0,j1,j2⟩
    cases u0 with
    | some q=>exact bo ⟨j0,q,rfl,j1 q rfl⟩
    | none =>
     have j3:=j2 rfl;exact aV (jk (bo ⟨by obtain ⟨g,rfl⟩:=j0;exact ⟨_,rfl⟩,rfl,j3.1,j3.2⟩))
 ·rintro u st' ⟨i0,i1,i2,i3⟩;have:=hN _ _ _ i2;lia
 ·rintro ⟨u0,u⟩ st' ⟨i0,q,e,hq⟩;cases e;exact bo (h q st' i0 hq)
theorem Z5 (hc:Gy prog w A s κ D r) (T:HJ r D a b) (h0:st=a8 κ xs pd g none) (ha:0<a.size) (hb:0<b.size) (hl:∀ x y,b[0]?=some x->a[0]?=some y->r x<=r y) {Q:Array aX->dW->Prop}
  (h:∀ q st',Sm κ xs pd st'->F r (a.toList++b.toList) q->Q q st'):xB (aP prog w) A E s (Cu a b) Q st:=by
 rw [Yc];refine aV (HZ (iM ⟨rfl,?_⟩));obtain ⟨x,e⟩:=gY hb;obtain ⟨y,f⟩:=gY ha;refine aV (qd e ?_);have pw:∀ c:Array aX,St r c 0 c.size->c.toList.Pairwise λx y=>r x<=r y:=λc h=>l6.mpr λi j hi hj hij=>h i j _ _ (aJ _) (ki hij) (by simpa using hj) (by simp) (by simp)
 have g0:J r (a.toList++b.toList) a b #[] 0 0:=⟨by simp,pS,by simpa using pw a T.sa,by simpa using pw b T.sb,λ_ z=>nomatch z⟩
 have g:=g0.pb T e λu z h1 e1=>dh (hl x y e f) (T.sa _ _ _ _ (aJ _) h1 (ub e1) f e1);have g:J r (a.toList++b.toList) a b #[x] 0 1:=g
 by_cases c1:1=b.size
 ·rw [if_pos (by simpa using c1)];exact bo (h _ _ ⟨_,h0⟩ (g.fb c1))
 ·rw [if_neg (by simpa using c1)]
  by_cases c2:0+1=a.size
  ·rw [if_pos (by simpa using c2)];exact bo (h _ _ ⟨_,h0⟩ (g.fl T c2))
  ·rw [if_neg (by simpa using c2)]
   refine UM (Fq:=F r (a.toList++b.toList)) (Jv:=λo i j=>J r (a.toList++b.toList) a b o i j/\i+1<a.size/\j<b.size) (sz:=λo _ _=>o.size) (λmg st o i j Q w1 w2 w3=>Yd hc (by obtain ⟨_,rfl⟩:=w1;rfl) T w2.1 w2.2.1 w2.2.2 λu q=>w3 u q.1 λe=>let ⟨a1,a2,a3,a4⟩:=q.2 e;⟨⟨a1,a2,a3⟩,a4⟩) (λk st u w1 w2=>?_) (λo i j q=>by
    have:=q.1.len (by lia) (by lia) (by simp)
    lia) ⟨_,h0⟩ ⟨g,by lia,by lia⟩ h
   have e:Z4 a b k u=QE a b u (if u.2.2.2.2.1>1 then u.2.2.2.2.1-1 else u.2.2.2.2.1):=by unfold Z4;split<;>rfl
   rw [e]
   refine pP (Ye hc T w1 w2.1 w2.2.1 w2.2.2 (au _)) λv st2 q=>⟨q.1,?_⟩
   have q:=q.2
   cases v with
   | done v=>exact ⟨q.1,λe=>let ⟨a1,a2,a3,a4⟩:=q.2 e;⟨⟨a1,a2,a3⟩,a4⟩⟩
   | yield v=>exact ⟨q.1,⟨q.2.1,q.2.2.1,q.2.2.2.1⟩,q.2.2.2.2⟩
end
end Sy
namespace Sy
open PySem PySem.W PyProof.Rows
def Cv:Array aX->Array aX->SM (Array aX):=sortPriv% PySem.Builtin.mergeHi
abbrev U1:=S1 Nat Nat (Array aX)
abbrev U2:=S2 Nat Nat (Array aX)
section
variable (a b:Array aX)
def QG (o:Array aX) (i j:Nat):Array aX:=a.extract 0 i++b.extract 0 j++o.reverse
def Wm (o:Array aX) (i j:Nat):Array aX:=b.extract 0 j++a.extract 0 i++o.reverse
def Z6 (mg:Nat) (_:Nat) (z:U1):SM (ForInStep U1):=do
 match ← lt' (← oG b (z.2.2.1-1)) (← oG a (z.2.1-1)) with
 | some c=>(if c=true then (do
   let o:=z.2.2.2.1.push (← oG a (z.2.1-1))
   if (z.2.1-1 == 0)=true then pure (.done (some (QG a b o (z.2.1-1) z.2.2.1),z.2.1-1,z.2.2.1,o,z.2.2.2.2.1+1,0))
   else if z.2.2.2.2.1+1>=mg then pure (.done (none,z.2.1-1,z.2.2.1,o,z.2.2.2.2.1+1,0)) else pure (.yield (none,z.2.1-1,z.2.2.1,o,z.2.2.2.2.1+1,0)))
  else (do
   let o:=z.2.2.2.1.push (← oG b (z.2.2.1-1))
   if (z.2.2.1-1 == 1)=true then pure (.done (some (Wm a b o z.2.1 (z.2.2.1-1)),z.2.1,z.2.2.1-1,o,0,z.2.2.2.2.2+1))
   else if z.2.2.2.2.2+1>=mg then pure (.done (none,z.2.1,z.2.2.1-1,o,0,z.2.2.2.2.2+1)) else pure (.yield (none,z.2.1,z.2.2.1-1,o,0,z.2.2.2.2.2+1))))
 | _=>pure (.done (some (QG a b z.2.2.2.1 z.2.1 z.2.2.1),z.2))
def TL (o:Array aX) (i j mg k m:Nat):SM (ForInStep U2):=do
 let o:=o.push (← oG a (i-1))
 if (i-1 == 0)=true then pure (.done (some (QG a b o (i-1) j),i-1,j,o,mg,k,m))
 else if (decide (k<7) && decide (m<7))=true then pure (.done (none,i-1,j,o,mg,k,m)) else pure (.yield (none,i-1,j,o,mg,k,m))
def TM (o:Array aX) (i j mg k q:Nat):SM (ForInStep U2):=do
 let o:=o.push (← oG b (j-1))
 if (j-1 == 1)=true then pure (.done (some (Wm a b o i (j-1)),i,j-1,o,mg,k,q))
 else (do
  match ← qJ true (← oG a (i-1)) b 0 (j-1) (j-1-1) with
  | some m=>if j-1-m>0 then (if (m == 1)=true then pure (.done (some (Wm a b (o++(b.extract m (j-1)).reverse) i m),i,m,o++(b.extract m (j-1)).reverse,mg,k,j-1-m))
    else if (m == 0)=true then pure (.done (some (QG a b (o++(b.extract m (j-1)).reverse) i m),i,m,o++(b.extract m (j-1)).reverse,mg,k,j-1-m))
    else TL a b (o++(b.extract m (j-1)).reverse) i m mg k (j-1-m)) else TL a b o i (j-1) mg k (j-1-m)
  | _=>pure (.done (some (QG a b o i (j-1)),i,j-1,o,mg,k,q)))
def QH (z:U2) (mg:Nat):SM (ForInStep U2):=do
 QD mg
 match ← qJ false (← oG b (z.2.2.1-1)) a 0 z.2.1 (z.2.1-1) with
 | some k=>if z.2.1-k>0 then (if (k == 0)=true then pure (.done (some (QG a b (z.2.2.2.1++(a.extract k z.2.1).reverse) k z.2.2.1),k,z.2.2.1,z.2.2.2.1++(a.extract k z.2.1).reverse,mg,z.2.1-k,z.2.2.2.2.2.2))
   else TM a b (z.2.2.2.1++(a.extract k z.2.1).reverse) k z.2.2.1 mg (z.2.1-k) z.2.2.2.2.2.2) else TM a b z.2.2.2.1 z.2.1 z.2.2.1 mg (z.2.1-k) z.2.2.2.2.2.2
 | _=>pure (.done (some (QG a b z.2.2.2.1 z.2.1 z.2.2.1),z.2.1,z.2.2.1,z.2.2.2.1,mg,z.2.2.2.2.2))
def Z7 (_:Nat) (z:U2):SM (ForInStep U2):=if z.2.2.2.2.1>1 then QH a b z (z.2.2.2.2.1-1) else QH a b z z.2.2.2.2.1
theorem Yg:Cv a b=(do
  liftM (DS "list.sort.merge-hi")
  let x ← oG a (a.size-1)
  if (a.size-1 == 0)=true then pure (QG a b #[x] (a.size-1) b.size) else if (b.size == 1)=true then pure (Wm a b #[x] (a.size-1) b.size)
  else Z2 (a.size+b.size) (Z6 a b) (Z7 a b) (a.size-1) b.size #[x]):=by kernel_rfl
end
end Sy
namespace Sy
open PySem PySem.W PyProof.Rows
section
variable {prog:a9}{w:bQ}{A:bY}{E:aj->ar->Prop}{s:ar}{κ:kq} {D:aX->Prop}{r:aX->Int}{st:dW}{a b:Array aX}{xs o:Array aX}{pd:Array (Nat×Nat×Nat)}{i j k m q g mg N:Nat}{all:List aX}
def ng (r:aX->Int) (x:aX):Int:=- r x
theorem rv {a:Array aX}{n:Nat}(h1:n<=a.size) (h0:0<n):a.reverse[a.size-n]?=a[n-1]?:=by
 rw [MC (by lia)];congr 1;lia
theorem oV {a:Array aX}{t:Nat}{x:aX}(e:a.reverse[t]?=some x):t<a.size/\a[a.size-1-t]?=some x:=by
 have h:=ub e;simp at h;rw [MC h] at e;exact ⟨h,e⟩
theorem rx {a:Array aX}{k n:Nat}(h:n<=a.size) (hk:k<=n):(a.extract k n).reverse=a.reverse.extract (a.size-n) (a.size-n+(n-k)):=by
 apply Array.ext
 ·simp;lia
 ·intro t h1 h2;simp at h1 h2 ⊢
  congr 1;lia
theorem Zi {a:Array aX}{n:Nat}(h:n<=a.size):(a.extract 0 n).reverse=a.reverse.extract (a.size-n) a.reverse.size:=by
 rw [rx h (aJ _)];congr 1;simp;lia
theorem Wn (h1:i<=a.size) (h2:j<=b.size):(QG a b o i j).reverse=dn b.reverse a.reverse o (b.size-j) (a.size-i):=by
 unfold QG dn;rw [pQ,pQ,Ny,Zi h1,Zi h2,z9]
theorem Wo (h1:i<=a.size) (h2:j<=b.size):(Wm a b o i j).reverse=lst b.reverse a.reverse o (b.size-j) (a.size-i):=by
 unfold Wm lst;rw [pQ,pQ,Ny,Zi h1,Zi h2,z9]
structure Jh (r:aX->Int) (all:List aX) (a b:Array aX) (i j:Nat) (o:Array aX):Prop where
 jj:J (ng r) all b.reverse a.reverse o (b.size-j) (a.size-i)
 i0:0<i
 i1:i<=a.size
 j0:1<j
 j1:j<=b.size
def Fh (r:aX->Int) (all:List aX) (o:Array aX):Prop:=F (ng r) all o.reverse
theorem Fh.dn (g:J (ng r) all b.reverse a.reverse o (b.size-j) (a.size-i)) (h1:i<=a.size) (h2:j<=b.size) (h:i=0\/j=0):Fh r all (QG a b o i j):=by
 unfold Fh;rw [Wn h1 h2]
 rcases h with rfl|rfl
 ·exact g.fb (by simp)
 ·exact g.fa (by simp)
theorem Fh.fs (T:HJ (ng r) D b.reverse a.reverse) (g:J (ng r) all b.reverse a.reverse o (b.size-j) (a.size-i)) (h1:i<=a.size) (h2:j<=b.size) (h:j=1):Fh r all (Wm a b o i j):=by
 unfold Fh;rw [Wo h1 h2];exact g.fl T (by simp;lia)
theorem J.pA (T:HJ (ng r) D b.reverse a.reverse) (h:J (ng r) all b.reverse a.reverse o (b.size-j) (a.size-i)) (h0:0<i) (h1:i<=a.size) {x:aX}(e:a[i-1]?=some x) (hx:∀ u y,u<j->b[u]?=some y->r y<=r x) :
  J (ng r) all b.reverse a.reverse (o.push x) (b.size-j) (a.size-(i-1)):=by
 rw [show a.size-(i-1)=a.size-i+1 by lia]
 exact h.pb T (by rw [rv h1 h0,e]) λu y h1 f=>by
  obtain ⟨f1,f⟩:=oV f;have:=hx _ y (by lia) f;unfold ng;lia
theorem J.pB (T:HJ (ng r) D b.reverse a.reverse) (h:J (ng r) all b.reverse a.reverse o (b.size-j) (a.size-i)) (h0:0<j) (h1:j<=b.size) {x:aX}(e:b[j-1]?=some x) (hx:∀ u y,u<i->a[u]?=some y->r y<=r x) :
  J (ng r) all b.reverse a.reverse (o.push x) (b.size-(j-1)) (a.size-i):=by
 rw [show b.size-(j-1)=b.size-j+1 by lia]
 exact h.pa T (by rw [rv h1 h0,e]) λu y h1 f=>by
  obtain ⟨f1,f⟩:=oV f;have:=hx _ y (by lia) f;unfold ng;lia
theorem J.tA (h:J (ng r) all b.reverse a.reverse o (b.size-j) (a.size-i)) (hk:k<=i) (h1:i<=a.size) (hx:∀ t x u y,k<=t->t<i->a[t]?=some x->u<j->b[u]?=some y->r y<=r x) :
  J (ng r) all b.reverse a.reverse (o++(a.extract k i).reverse) (b.size-j) (a.size-k):=by
 rw [rx h1 hk,show a.size-k=a.size-i+(i-k) by lia]
 exact h.tb λt x u y h1 h2 e h3 f=>by
  obtain ⟨e1,e⟩:=oV e;obtain ⟨f1,f⟩:=oV f;have:=hx _ x _ y (by lia) (by lia) e (by lia) f;unfold ng;lia
theorem J.tB (h:J (ng r) all b.reverse a.reverse o (b.size-j) (a.size-i)) (hk:k<=j) (h1:j<=b.size) (hx:∀ t x u y,k<=t->t<j->b[t]?=some x->u<i->a[u]?=some y->r y<=r x) :
  J (ng r) all b.reverse a.reverse (o++(b.extract k j).reverse) (b.size-k) (a.size-i):=by
 rw [rx h1 hk,show b.size-k=b.size-j+(j-k) by lia]
 exact h.ta λt x u y h1 h2 e h3 f=>by
  obtain ⟨e1,e⟩:=oV e;obtain ⟨f1,f⟩:=oV f;have:=hx _ x _ y (by lia) (by lia) e (by lia) f;unfold ng;lia
structure WX (r:aX->Int) (D:aX->Prop) (a b:Array aX):Prop where
 da:∀ (t:Nat) x,a[t]?=some x->D x
 db:∀ (t:Nat) x,b[t]?=some x->D x
 sa:St r a 0 a.size
 sb:St r b 0 b.size
 fb:∀ (u:Nat) x y,b[0]?=some x->a[u]?=some y->r x<=r y
theorem WX.two (T:WX r D a b):HJ (ng r) D b.reverse a.reverse where
 da t x e:=T.db _ x (oV e).2
 db t x e:=T.da _ x (oV e).2
 sa t u x y _ h2 h3 e f:=by
  have:=T.sb _ _ y x (aJ _) (show b.size-1-u<=b.size-1-t by lia) (by have:=(oV e).1;lia) (oV f).2 (oV e).2;unfold ng;lia
 sb t u x y _ h2 h3 e f:=by
  have:=T.sa _ _ y x (aJ _) (show a.size-1-u<=a.size-1-t by lia) (by have:=(oV e).1;lia) (oV f).2 (oV e).2;unfold ng;lia
 la t u x y h1 e f:=by
  simp at h1;have e':=(oV e).2;rw [show b.size-1-t=0 by lia] at e';have:=T.fb _ x y e' (oV f).2;unfold ng;lia
def Kj (r:aX->Int) (all:List aX) (a b:Array aX) (k:Nat) (z:Option (Array aX)) (i j:Nat) (o:Array aX):Prop :=
 (∀ q,z=some q->Fh r all q)/\(z=none->Jh r all a b i j o/\k<=o.size)
theorem Kj.told {q:Array aX}(h:Fh r all q):Kj r all a b k (some q) i j o:=⟨λ_ e=>by cases e;exact h,(λe=>nomatch e)⟩
theorem Kj.on (h1:Jh r all a b i j o) (h4:k<=o.size):Kj r all a b k none i j o:=⟨(λ_ e=>nomatch e),λ_=>⟨h1,h4⟩⟩
theorem Yh (hc:Gy prog w A s κ D r) (hk:kindOf st=κ) (T:WX r D a b) {Q:U1->dW->Prop}(h1:Jh r all a b i j o)
  (h:∀ z,Kj r all a b o.size z.1 z.2.1 z.2.2.1 z.2.2.2.1->Q z st):xB (aP prog w) A E s (forIn [0:N] ((none,i,j,o,0,0):U1) (Z6 a b mg)) Q st:=by
 refine gp (I:=λx z st'=>st'=st/\z.1=none/\Jh r all a b z.2.1 z.2.2.1 z.2.2.2.1/\o.size<=z.2.2.2.1.size) ?_ ?_ ⟨rfl,rfl,h1,au _⟩
 ·rintro x ⟨z,i',j',o',ac,bc⟩ st' _ hx ⟨rfl,rfl,g,g4⟩;dsimp only at g g4;obtain ⟨g,i0,i1,j0,j1⟩:=g;obtain ⟨u,eu⟩:=gY (a:=a) (i:=i'-1) (by lia);obtain ⟨v,ev⟩:=gY (a:=b) (i:=j'-1) (by lia);unfold Z6;refine aV (qd ev (aV (qd eu (aV (w_lt hc hk (T.db _ _ ev) (T.da _ _ eu) ?_)))));dsimp only
  have sz:∀ x:aX,o.size<=(o'.push x).size:=λx=>by rw [jf];lia
  by_cases c:r v<r u
  ·rw [decide_eq_true c,if_pos rfl];have g5:=g.pA T.two i0 i1 eu λt y h1 e=>dh (T.sb _ _ _ _ (aJ _) (by lia) (by lia) e ev) (ia c);refine aV (qd eu ?_)
   by_cases e:i'-1=0
   ·rw [if_pos (by simpa using e)];exact bo (h _ (Kj.told (Fh.dn g5 (by lia) j1 (.inl e))))
   ·rw [if_neg (by simpa using e)]
    by_cases f:ac+1>=mg
    ·rw [if_pos f];exact bo (h _ (Kj.on ⟨g5,by dsimp only;lia,by dsimp only;lia,j0,j1⟩ (sz _)))
    ·rw [if_neg f];exact bo ⟨rfl,rfl,⟨g5,by dsimp only;lia,by dsimp only;lia,j0,j1⟩,sz _⟩
  ·rw [decide_eq_false c,if_neg (by simp)];have g5:=g.pB T.two (by lia) j1 ev λt y h1 e=>dh (T.sa _ _ _ _ (aJ _) (by lia) (by lia) e eu) (sk.mp c);refine aV (qd ev ?_)
   by_cases e:j'-1=1
   ·rw [if_pos (by simpa using e)];exact bo (h _ (Kj.told (Fh.fs T.two g5 i1 (by lia) e)))
   ·rw [if_neg (by simpa using e)]
    by_cases f:bc+1>=mg
    ·rw [if_pos f];exact bo (h _ (Kj.on ⟨g5,i0,i1,by dsimp only;lia,by dsimp only;lia⟩ (sz _)))
    ·rw [if_neg f];exact bo ⟨rfl,rfl,⟨g5,i0,i1,by dsimp only;lia,by dsimp only;lia⟩,sz _⟩
 ·rintro ⟨z,o',i',j',ac,bc⟩ st' ⟨rfl,rfl,g,g4⟩;exact h _ (Kj.on g g4)
def Z8 (κ:kq) (xs:Array aX) (pd:Array (Nat×Nat×Nat)) (r:aX->Int) (all:List aX) (a b:Array aX) (k:Nat) (x:ForInStep U2) (st':dW):Prop :=
 Sm κ xs pd st'/\match x with
  | .done z=>Kj r all a b k z.1 z.2.1 z.2.2.1 z.2.2.2.1
  | .yield z=>z.1=none/\Jh r all a b z.2.1 z.2.2.1 z.2.2.2.1/\k<=z.2.2.2.1.size
theorem UN (T:WX r D a b) (h0:Sm κ xs pd st) (h1:Jh r all a b i j o) (h4:k<=o.size+1) (h:∀ x,a[i-1]?=some x->∀ u y,u<j->b[u]?=some y->r y<=r x) :
  xB (aP prog w) A E s (TL a b o i j mg m q) (Z8 κ xs pd r all a b k) st:=by
 obtain ⟨g,i0,i1,j0,j1⟩:=h1;obtain ⟨x,e⟩:=gY (a:=a) (i:=i-1) (by lia);unfold TL;have g:=g.pA T.two i0 i1 e (h x e)
 have sz:k<=(o.push x).size:=by rw [jf];lia
 refine aV (qd e ?_);dsimp only
 by_cases c:i-1=0
 ·rw [if_pos (by simpa using c)];exact bo ⟨h0,Kj.told (Fh.dn g (by lia) j1 (.inl c))⟩
 ·rw [if_neg (by simpa using c)]
  have g2:Jh r all a b (i-1) j (o.push x):=⟨g,by lia,by lia,j0,j1⟩
  split
  ·exact bo ⟨h0,Kj.on g2 sz⟩
  ·exact bo ⟨h0,rfl,g2,sz⟩
theorem UO (hc:Gy prog w A s κ D r) (T:WX r D a b) (h0:Sm κ xs pd st) (h1:Jh r all a b i j o) (h4:k<=o.size+2) (h:∀ x,b[j-1]?=some x->∀ u y,u<i->a[u]?=some y->r y<=r x) :
  xB (aP prog w) A E s (TM a b o i j mg m q) (Z8 κ xs pd r all a b k) st:=by
 obtain ⟨g,i0,i1,j0,j1⟩:=h1;obtain ⟨x,e⟩:=gY (a:=b) (i:=j-1) (by lia);obtain ⟨y,f⟩:=gY (a:=a) (i:=i-1) (by lia);unfold TM;have g:=g.pB T.two (by lia) j1 e (h x e);refine aV (qd e ?_);dsimp only
 by_cases c:j-1=1
 ·rw [if_pos (by simpa using c)];exact bo ⟨h0,Kj.told (Fh.fs T.two g i1 (by lia) c)⟩
 ·rw [if_neg (by simpa using c)]
  have hk:kindOf st=κ:=by obtain ⟨_,rfl⟩:=h0;rfl
  refine aV (qd f (aV (rS hc hk T.db (T.da _ _ f) (by lia) (λt u x y z1 z2 z3=>T.sb t u x y (aJ _) z2 (by lia)) (by lia) λn n1 n2 n3=>?_)));dsimp only;have ya:∀ u z,u<i->a[u]?=some z->r z<=r y:=λu z h1 e=>T.sa _ _ _ _ (aJ _) (by lia) (by lia) e f;have g2:=g.tB (k:=n) (by lia) (by lia) λt x u z z1 z2 e1 z3 e2=>dh (ya u z z3 e2) (sk.mp (of_decide_eq_false (n3 t x (by lia) (by lia) e1)))
  have hb:∀ x,a[i-1]?=some x->∀ u z,u<n->b[u]?=some z->r z<=r x:=λx e1 u z h1 e2=>by
   rw [f] at e1;cases e1;exact ia (of_decide_eq_true (n2 u z (aJ _) (by lia) e2))
  have sz:k<=(o.push x).size+1:=by rw [jf];lia
  by_cases d:j-1-n>0
  ·rw [if_pos d]
   by_cases c2:n=1
   ·rw [if_pos (by simpa using c2)];exact bo ⟨h0,Kj.told (Fh.fs T.two g2 i1 (by lia) c2)⟩
   ·rw [if_neg (by simpa using c2)]
    by_cases c3:n=0
    ·rw [if_pos (by simpa using c3)];exact bo ⟨h0,Kj.told (Fh.dn g2 i1 (by lia) (.inr c3))⟩
    ·rw [if_neg (by simpa using c3)];exact UN T h0 ⟨g2,i0,i1,by lia,by lia⟩ (by rw [sC];lia) hb
  ·rw [if_neg d]
   have:n=j-1:=by lia
   subst this;exact UN T h0 ⟨g,i0,i1,by lia,by lia⟩ sz hb
theorem Yi (hc:Gy prog w A s κ D r) (T:WX r D a b) (h0:Sm κ xs pd st) {z:U2}(h1:Jh r all a b z.2.1 z.2.2.1 z.2.2.2.1):xB (aP prog w) A E s (QH a b z mg) (Z8 κ xs pd r all a b (z.2.2.2.1.size+1)) st:=by
 obtain ⟨z0,i,j,o,g0,ac,bc⟩:=z;obtain ⟨g,i0,i1,j0,j1⟩:=h1;dsimp only at g i0 i1 j0 j1;obtain ⟨x,e⟩:=gY (a:=b) (i:=j-1) (by lia);unfold QH QD;dsimp only;refine aV (jk ?_)
 have h0':Sm κ xs pd (a8 (kindOf st) (pO st) (cM st) mg (jK st)):=by obtain ⟨g,rfl⟩:=h0;exact ⟨mg,rfl⟩
 have hk:kindOf (a8 (kindOf st) (pO st) (cM st) mg (jK st))=κ:=by obtain ⟨_,e⟩:=h0';rw [e]
 generalize a8 (kindOf st) (pO st) (cM st) mg (jK st)=st1 at h0' hk;refine aV (qd e (aV (rS hc hk T.da (T.db _ _ e) (by lia) (λt u x y z1 z2 z3=>T.sa t u x y (aJ _) z2 (by lia)) (by lia) λn n1 n2 n3=>?_)));dsimp only;have xb:∀ u z,u<j->b[u]?=some z->r z<=r x:=λu z h1 e1=>T.sb _ _ _ _ (aJ _) (by lia) (by lia) e1 e
 have nx:∀ t y,n<=t->t<i->a[t]?=some y->r x<=r y:=λt y h1 h2 e1=>by
  have:=n3 t y (by lia) (by lia) e1;exact ia (by simpa [Bv] using this)
 have g2:=g.tA (k:=n) (by lia) i1 λt y u z z1 z2 e1 z3 e2=>dh (xb u z z3 e2) (nx t y z1 z2 e1)
 have ha:∀ y,b[j-1]?=some y->∀ u z,u<n->a[u]?=some z->r z<=r y:=λy e1 u z h1 e2=>by
  rw [e] at e1;cases e1;have:=n2 u z (aJ _) (by lia) e2
  simpa [Bv] using this
 by_cases d:i-n>0
 ·rw [if_pos d]
  by_cases c1:n=0
  ·rw [if_pos (by simpa using c1)];exact bo ⟨h0',Kj.told (Fh.dn g2 (by lia) j1 (.inl c1))⟩
  ·rw [if_neg (by simpa using c1)];exact UO hc T h0' ⟨g2,by lia,by lia,j0,j1⟩ (by rw [sC];lia) ha
 ·rw [if_neg d]
  have:n=i:=by lia
  subst this;exact UO hc T h0' ⟨g,i0,i1,j0,j1⟩ (by lia) ha
theorem pw_of (h:St r a 0 a.size):a.toList.Pairwise λx y=>r x<=r y:=l6.mpr λi j hi hj hij=>h i j _ _ (aJ _) (ki hij) (by simpa using hj) (by simp) (by simp)
theorem Z9 (hc:Gy prog w A s κ D r) (T:WX r D a b) (h0:st=a8 κ xs pd g none) (ha:0<a.size) (hb:0<b.size) (hl:∀ x y,b[b.size-1]?=some x->a[a.size-1]?=some y->r x<=r y) {Q:Array aX->dW->Prop}
  (h:∀ q st',Sm κ xs pd st'->F r (a.toList++b.toList) q->Q q st'):xB (aP prog w) A E s (Cv a b) Q st:=by
 have h:∀ q st',Sm κ xs pd st'->Fh r (a.toList++b.toList) q->Q q st':=λq st' w1 w2=>h q st' w1 (by
  unfold Fh F at w2;refine ⟨?_,?_,.nil,.nil,λ_ _ _ z=>nomatch z⟩
  ·have:=w2.pm;simp at this ⊢;exact (tD _).symm.trans this
  ·have:=List.pairwise_reverse.mp (by simpa using w2.so)
   exact this.imp λz=>by unfold ng at z;lia)
 rw [Yg];refine aV (HZ (iM ⟨rfl,?_⟩));obtain ⟨x,e⟩:=gY (a:=b) (i:=b.size-1) (by lia);obtain ⟨y,f⟩:=gY (a:=a) (i:=a.size-1) (by lia);refine aV (qd f ?_)
 have g0:J (ng r) (a.toList++b.toList) b.reverse a.reverse #[] (b.size-b.size) (a.size-a.size):=⟨by simpa using (tD _).append (tD _) |>.trans gB,pS,by simpa using pw_of T.two.sa,by simpa using pw_of T.two.sb,λ_ z=>nomatch z⟩
 have g:=g0.pA T.two ha (au _) f λu z h1 e1=>dh (T.sb _ _ _ _ (aJ _) (by lia) (by lia) e1 e) (hl x y e f);have g:J (ng r) (a.toList++b.toList) b.reverse a.reverse #[y] (b.size-b.size) (a.size-(a.size-1)):=g
 by_cases c1:a.size-1=0
 ·rw [if_pos (by simpa using c1)];exact bo (h _ _ ⟨_,h0⟩ (Fh.dn g (by lia) (au _) (.inl c1)))
 ·rw [if_neg (by simpa using c1)]
  by_cases c2:b.size=1
  ·rw [if_pos (by simpa using c2)];exact bo (h _ _ ⟨_,h0⟩ (Fh.fs T.two g (by lia) (au _) c2))
  ·rw [if_neg (by simpa using c2)]
   refine UM (Fq:=Fh r (a.toList++b.toList)) (Jv:=Jh r (a.toList++b.toList) a b) (sz:=λ_ _ o=>o.size) (λmg st o i j Q w1 w2 w3=>Yh hc (by obtain ⟨_,rfl⟩:=w1;rfl) T w2 λu q=>w3 u q.1 q.2) (λk st u w1 w2=>?_) (λi j o q=>by
    have:=q.jj.len (by simp) (by simp) (by simp;lia);have:=q.i0;have:=q.i1;have:=q.j0;have:=q.j1
    lia) ⟨_,h0⟩ ⟨g,by lia,by lia,by lia,by lia⟩ h
   have e:Z7 a b k u=QH a b u (if u.2.2.2.2.1>1 then u.2.2.2.2.1-1 else u.2.2.2.2.1):=by unfold Z7;split<;>rfl
   rw [e]
   refine pP (Yi hc T w1 w2) λv st2 q=>⟨q.1,?_⟩
   have q:=q.2
   cases v with
   | done v=>exact q
   | yield v=>exact q
end
end Sy
namespace Sy
open PySem PySem.W PyProof.Rows
abbrev C1:=Option (Option Nat)×Nat
def TN (lo:Nat) (_:Nat) (z:C1):SM (ForInStep C1):=do
 match ← ltAt' (lo+z.2) (lo+z.2-1) with
 | some c=>if c=true then pure (.done (none,z.2)) else pure (.yield (none,z.2+1))
 | _=>pure (.done (some none,z.2))
def tl (lo n nrem:Nat):SM (Option Nat):=do
 D0 lo (lo+n)
 let z ← forIn [n:nrem] ((none,n):C1) (TN lo)
 (match z.1 with
 | some r=>pure r
 | none=>pure (some z.2))
def Yj (lo:Nat) (_:Nat) (z:TG):SM (ForInStep TG):=do
 match ← ltAt' (lo+z.2.1) (lo+z.2.1-1) with
 | some c=>(if c=true then (if z.2.2>0 then (do
    D0 (lo+z.2.1-(z.2.2+1)) (lo+z.2.1)
    pure (.yield (none,z.2.1+1,0))) else pure (.yield (none,z.2.1+1,0)))
  else (do
   match ← ltAt' (lo+z.2.1-1) (lo+z.2.1) with
   | some d=>if d=true then pure (.done (none,z.2)) else pure (.yield (none,z.2.1+1,z.2.2+1))
   | _=>pure (.done (some none,z.2))))
 | _=>pure (.done (some none,z.2))
def Zj (lo n nrem:Nat):SM (Option Nat):=do
 liftM (DS "list.sort.descending-run")
 let z ← forIn [n+1:nrem] ((none,n+1,0):TG) (Yj lo)
 (match z.1 with
 | some r=>pure r
 | none=>if z.2.2>0 then (do
   D0 (lo+z.2.1-(z.2.2+1)) (lo+z.2.1)
   tl lo z.2.1 nrem) else tl lo z.2.1 nrem)
theorem QI (lo nrem:Nat):countRun' lo nrem=(do
  let z ← forIn [1:nrem] ((none,1):C1) (TN lo)
  (match z.1 with
  | some r=>pure r
  | none=>if (z.2 == nrem)=true then pure (some z.2) else if z.2>1 then (do
    match ← ltAt' lo (lo+z.2-1) with
    | some c=>if c=true then pure (some z.2) else (do
     D0 lo (lo+z.2)
     Zj lo z.2 nrem)
    | _=>pure none) else Zj lo z.2 nrem)):=by kernel_rfl
section
variable {prog:a9}{w:bQ}{A:bY}{E:aj->ar->Prop}{s:ar}{κ:kq} {D:aX->Prop}{r:aX->Int}{st:dW}{xs ys a₀:Array aX} {pd:Array (Nat×Nat×Nat)}{i j lo hi n m q g nrem:Nat}
def K (r:aX->Int) (xs:Array aX) (i:Nat):Int:=((xs[i]?).map r).getD 0
theorem TQ {i:Nat}{x:aX}(e:xs[i]?=some x):K r xs i=r x:=by unfold K;rw [e];rfl
theorem Li {xs ys:Array aX}{i j:Nat}(h:xs[i]?=ys[j]?):K r xs i=K r ys j:=by unfold K;rw [h]
structure Bs (D:aX->Prop) (a₀:Array aX) (lo:Nat) (xs:Array aX):Prop where
 pm:xs.Perm a₀
 dd:∀ x∈a₀.toList,D x
 ah:∀ t,t<lo->xs[t]?=a₀[t]?
theorem Bs.size (h:Bs D a₀ lo xs):xs.size=a₀.size:=h.pm.size_eq
theorem Bs.d (h:Bs D a₀ lo xs) {i:Nat}{x:aX}(e:xs[i]?=some x):D x:=by
 obtain ⟨h1,rfl⟩:=cD.mp e;exact h.dd _ ((fY.mp h.pm).mem_iff.mp (by simp))
theorem Bs.rev (h:Bs D a₀ lo xs) (hi:lo<=i) (hj:j<=xs.size):Bs D a₀ lo (mirror xs i j ((j-i)/2)) :=
 ⟨(mirror_perm _ _ _ _).trans h.pm,h.dd,λt ht=>by rw [Xz hj,if_neg (by lia)];exact h.ah t ht⟩
theorem QJ (hc:Gy prog w A s κ D r) (h:Bs D a₀ lo xs) {Q:Option Bool->dW->Prop}(hi:i<xs.size) (hj:j<xs.size) (hq:Q (some (decide (K r xs i<K r xs j))) (a8 κ xs pd g none)):xB (aP prog w) A E s (ltAt' i j) Q (a8 κ xs pd g none):=by
 obtain ⟨x,e⟩:=gY hi;obtain ⟨y,f⟩:=gY hj;rw [TQ e,TQ f] at hq;rw [ltAt'_eq];exact aV (tw (aV (qd e (aV (qd f (w_lt hc rfl (h.d e) (h.d f) hq))))))
theorem QK (hj:j<=xs.size) (t:Nat):K r (mirror xs i j ((j-i)/2)) t=if i<=t/\t<j then K r xs (i+j-1-t) else K r xs t:=by
 have e:=Xz (i:=i) hj t
 split
 ·rename_i h;rw [if_pos h] at e;exact Li e
 ·rename_i h;rw [if_neg h] at e;exact Li e
def Up (r:aX->Int) (xs:Array aX) (lo hi:Nat):Prop:=∀ t u,lo<=t->t<=u->u<hi->K r xs t<=K r xs u
def Dn (r:aX->Int) (xs:Array aX) (lo hi:Nat):Prop:=∀ t u,lo<=t->t<=u->u<hi->K r xs u<=K r xs t
theorem Up.next (h:Up r xs lo (lo+n)) (hn:0<n) (hl:K r xs (lo+n-1)<=K r xs (lo+n)):Up r xs lo (lo+(n+1)):=λt u h1 h2 h3=>by
 by_cases c:u<lo+n
 ·exact h t u h1 h2 c
 ·have:u=lo+n:=by lia
  subst this
  by_cases d:t=lo+n
  ·subst d;exact qC _
  ·exact dh (h t _ h1 (by lia) (by lia)) hl
theorem Dn.next (h:Dn r xs lo (lo+n)) (hn:0<n) (hl:K r xs (lo+n)<=K r xs (lo+n-1)):Dn r xs lo (lo+(n+1)):=λt u h1 h2 h3=>by
 by_cases c:u<lo+n
 ·exact h t u h1 h2 c
 ·have:u=lo+n:=by lia
  subst this
  by_cases d:t=lo+n
  ·subst d;exact qC _
  ·exact dh hl (h t _ h1 (by lia) (by lia))
theorem Lj (hj:j<=xs.size) (h:∀ t,i<=t->t<j->K r xs t=K r xs (j-1)) (t:Nat):K r (mirror xs i j ((j-i)/2)) t=K r xs t:=by
 rw [QK hj]
 split
 ·rw [h _ (by lia) (by lia),h t (by lia) (by lia)]
 ·rfl
theorem UP (hc:Gy prog w A s κ D r) (h:Bs D a₀ lo xs) (hz:lo+nrem<=xs.size) (h1:1<=n) (hn:n<=nrem) (hu:Up r xs lo (lo+n)) {Q:C1->dW->Prop}
  (hq:∀ m,n<=m->m<=nrem->Up r xs lo (lo+m)->(m<nrem->K r xs (lo+m)<K r xs (lo+m-1))->Q (none,m) (a8 κ xs pd g none)):xB (aP prog w) A E s (forIn [n:nrem] ((none,n):C1) (TN lo)) Q (a8 κ xs pd g none):=by
 refine gp (I:=λx c st'=>st'=a8 κ xs pd g none/\c=(none,x)/\Up r xs lo (lo+x)) ?_ ?_ ⟨rfl,rfl,hu⟩
 ·rintro x c st' a1 a2 ⟨rfl,rfl,a3⟩;unfold TN;refine aV (QJ hc h (by dsimp only;lia) (by dsimp only;lia) ?_);dsimp only
  by_cases c:K r xs (lo+x)<K r xs (lo+x-1)
  ·rw [decide_eq_true c,if_pos rfl];exact bo (hq x a1 (by lia) a3 λ_=>c)
  ·rw [decide_eq_false c,if_neg (by simp)];exact bo ⟨rfl,rfl,a3.next (by lia) (sk.mp c)⟩
 ·rintro c st' ⟨rfl,rfl,a3⟩
  have e:max n nrem=nrem:=by lia
  rw [e] at a3 ⊢;exact hq nrem hn (au _) a3 λz=>absurd z (by lia)
theorem Yk (hc:Gy prog w A s κ D r) (h:Bs D a₀ lo xs) (hz:lo+nrem<=xs.size) (h1:1<=n) (hn:n<=nrem) (hd:Dn r xs lo (lo+n)) {Q:Option Nat->dW->Prop}
  (hq:∀ m ys,1<=m->m<=nrem->Bs D a₀ lo ys->Up r ys lo (lo+m)->Q (some m) (a8 κ ys pd g none)):xB (aP prog w) A E s (tl lo n nrem) Q (a8 κ xs pd g none):=by
 unfold tl;rw [xq];refine aV (jk ?_);have h':=h.rev (i:=lo) (j:=lo+n) (au _) (by lia);refine aV (UP hc h' (by rw [Xh];exact hz) h1 hn (λt u a1 a2 a3=>?_) λm b1 b2 b3 _=>bo (hq m _ (by lia) b2 h' b3))
 show K r (mirror xs _ _ _) t<=K r (mirror xs _ _ _) u
 rw [QK (by lia),QK (by lia),if_pos (by lia),if_pos (by lia)];exact hd _ _ (by lia) (by lia) (by lia)
theorem UQ (hc:Gy prog w A s κ D r) (h:Bs D a₀ lo xs) (hz:lo+nrem<=xs.size) (hn:n+1<=nrem) (hd:Dn r xs lo (lo+(n+1))) {Q:Option Nat->dW->Prop}
  (hq:∀ m ys,1<=m->m<=nrem->Bs D a₀ lo ys->Up r ys lo (lo+m)->Q (some m) (a8 κ ys pd g none)):xB (aP prog w) A E s (Zj lo n nrem) Q (a8 κ xs pd g none):=by
 unfold Zj;refine aV (HZ (iM ⟨rfl,?_⟩));have hs:=h.size
 refine aV (pP (gp (I:=λx c st'=>∃ ys e,st'=a8 κ ys pd g none/\c=(none,x,e)/\Bs D a₀ lo ys/\Dn r ys lo (lo+x)/\e+1<=x/\∀ t,lo+x-(e+1)<=t->t<lo+x->K r ys t=K r ys (lo+x-1))
  (Q:=λc st'=>∃ x ys e,n+1<=x/\x<=nrem/\st'=a8 κ ys pd g none/\c=(none,x,e)/\Bs D a₀ lo ys/\Dn r ys lo (lo+x)/\e+1<=x/\∀ t,lo+x-(e+1)<=t->t<lo+x->K r ys t=K r ys (lo+x-1)) ?_ ?_ ⟨xs,0,rfl,rfl,h,hd,by lia,λt _ _=>by congr 1;lia⟩) ?_)
 ·rintro x c st' a1 a2 ⟨ys,e,rfl,rfl,b1,b2,b3,b4⟩;have hy:=b1.size;unfold Yj;refine aV (QJ hc b1 (by dsimp only;lia) (by dsimp only;lia) ?_);dsimp only
  by_cases c:K r ys (lo+x)<K r ys (lo+x-1)
  ·rw [decide_eq_true c,if_pos rfl];have d2:=b2.next (by lia) (ia c)
   by_cases d:e>0
   ·rw [if_pos d,xq];have sm:=Lj (r:=r) (xs:=ys) (by lia) b4;refine aV (jk (bo ⟨_,0,rfl,rfl,b1.rev (i:=lo+x-(e+1)) (j:=lo+x) (by lia) (by lia),λt u z1 z2 z3=>?_,by lia,λt _ _=>by congr 1;lia⟩));rw [sm,sm];exact d2 t u z1 z2 z3
   ·rw [if_neg d];exact bo ⟨ys,0,rfl,rfl,b1,d2,by lia,λt _ _=>by congr 1;lia⟩
  ·rw [decide_eq_false c,if_neg (by simp)];refine aV (QJ hc b1 (by lia) (by lia) ?_);dsimp only
   by_cases d:K r ys (lo+x-1)<K r ys (lo+x)
   ·rw [decide_eq_true d,if_pos rfl];exact bo ⟨x,ys,e,a1,by lia,rfl,rfl,b1,b2,b3,b4⟩
   ·rw [decide_eq_false d,if_neg (by simp)];refine bo ⟨ys,e+1,rfl,rfl,b1,b2.next (by lia) (by lia),by lia,λt z1 z2=>?_⟩
    have e1:lo+(x+1)-1=lo+x:=by lia
    rw [e1]
    by_cases f:t=lo+x
    ·rw [f]
    ·rw [b4 t (by lia) (by lia)];lia
 ·rintro c st' ⟨ys,e,rfl,rfl,b1,b2,b3,b4⟩
  have e1:max (n+1) nrem=nrem:=by lia
  rw [e1] at b2 b3 b4 ⊢;exact ⟨nrem,ys,e,hn,au _,rfl,rfl,b1,b2,b3,b4⟩
 ·rintro c st' ⟨x,ys,e,a1,a2,rfl,rfl,b1,b2,b3,b4⟩;have hy:=b1.size;dsimp only
  by_cases d:e>0
  ·rw [if_pos d,xq];have sm:=Lj (r:=r) (xs:=ys) (by lia) b4;refine aV (jk (Yk hc (b1.rev (i:=lo+x-(e+1)) (j:=lo+x) (by lia) (by lia)) (by rw [Xh];lia) (by lia) a2 (λt u z1 z2 z3=>?_) hq));rw [sm,sm];exact b2 t u z1 z2 z3
  ·rw [if_neg d];exact Yk hc b1 (by lia) (by lia) a2 b2 hq
theorem w_count (hc:Gy prog w A s κ D r) (h:Bs D a₀ lo xs) (hz:lo+nrem<=xs.size) (h1:1<=nrem) {Q:Option Nat->dW->Prop}
  (hq:∀ m ys,1<=m->m<=nrem->Bs D a₀ lo ys->Up r ys lo (lo+m)->Q (some m) (a8 κ ys pd g none)):xB (aP prog w) A E s (countRun' lo nrem) Q (a8 κ xs pd g none):=by
 rw [QI]
 refine aV (UP hc h hz (au 1) h1 (λt u a1 a2 a3=>by
  have:t=u:=by lia
  subst this;exact qC _) λm b1 b2 b3 b4=>?_)
 dsimp only
 by_cases e:m=nrem
 ·rw [if_pos (by simpa using e)];exact bo (hq m xs b1 b2 h b3)
 ·rw [if_neg (by simpa using e)];have b4:=b4 (by lia)
  by_cases c:m>1
  ·rw [if_pos c];refine aV (QJ hc h (by lia) (by lia) ?_);dsimp only
   by_cases d:K r xs lo<K r xs (lo+m-1)
   ·rw [decide_eq_true d,if_pos rfl];exact bo (hq m xs b1 b2 h b3)
   ·rw [decide_eq_false d,if_neg (by simp),xq]
    have al:∀ t,lo<=t->t<lo+m->K r xs t=K r xs (lo+m-1):=λt z1 z2=>by
     have:=b3 lo t (au _) z1 z2;have:=b3 t (lo+m-1) z1 (by lia) (by lia);lia
    have sm:=Lj (r:=r) (xs:=xs) (by lia) al
    have dn:Dn r xs lo (lo+m):=λt u z1 z2 z3=>by rw [al t z1 (by lia),al u (by lia) z3];exact qC _
    refine aV (jk (UQ hc (h.rev (i:=lo) (j:=lo+m) (au _) (by lia)) (by rw [Xh];lia) (by lia) (λt u z1 z2 z3=>?_) hq));rw [sm,sm];exact dn.next (by lia) (ia b4) t u z1 z2 z3
  ·rw [if_neg c]
   have:m=1:=by lia
   subst this
   exact UQ hc h hz (by lia) (Dn.next (λt u z1 z2 z3=>by
    have:t=u:=by lia
    subst this;exact qC _) (by lia) (ia b4)) hq
end
end Sy
namespace Sy
open PySem PySem.W PyProof.Rows
def plS (lo k:Nat) (_:Nat) (z:Option Bool×Nat×Nat):SM (ForInStep (Option Bool×Nat×Nat)) :=
 if z.2.1>=z.2.2 then pure (.done (none,z.2)) else do
  match ← ltAt' (lo+k) (lo+(z.2.1+z.2.2)/2) with
  | some c=>if c=true then pure (.yield (none,z.2.1,(z.2.1+z.2.2)/2)) else pure (.yield (none,(z.2.1+z.2.2)/2+1,z.2.2))
  | _=>pure (.done (some false,z.2))
def biS (lo:Nat) (k:Nat) (_:Option Bool×Unit):SM (ForInStep (Option Bool×Unit)):=do
 let z ← forIn [0:k] ((none,0,k):Option Bool×Nat×Nat) (plS lo k)
 (match z.1 with
 | some r=>pure (.done (some r,()))
 | none=>do
  moveDown' (lo+k) (lo+z.2.1)
  pure (.yield (none,())))
theorem Wp (lo n ok:Nat):Xi lo n ok=(do
  let z ← forIn [max ok 1:n] ((none,()):Option Bool×Unit) (biS lo)
  (match z.1 with
  | some r=>pure r
  | none=>pure true)):=by kernel_rfl
section
variable {prog:a9}{w:bQ}{A:bY}{E:aj->ar->Prop}{s:ar}{κ:kq} {D:aX->Prop}{r:aX->Int}{st:dW}{xs ys a₀:Array aX} {pd:Array (Nat×Nat×Nat)}{i j lo hi n m q g nrem:Nat}
theorem UR {x l:Nat}(hx:x<xs.size) (hl:l<=x) (i:Nat):K r (bubble xs x (x-l)) i=if i=l then K r xs x else if l<i/\i<=x then K r xs (i-1) else K r xs i:=by
 have e:=getElem?_bubble hx (x-l) (by lia) i;rw [show x-(x-l)=l by lia] at e
 by_cases h1:i=l
 ·rw [if_pos h1] at e ⊢;exact Li e
 ·rw [if_neg h1] at e ⊢
  by_cases h2:l<i/\i<=x
  ·rw [if_pos h2] at e ⊢;exact Li e
  ·rw [if_neg h2] at e ⊢;exact Li e
theorem QL (hc:Gy prog w A s κ D r) (h:Bs D a₀ lo xs) (hz:lo+n<=xs.size) (h1:1<=m) (hm:m<=n) (hu:Up r xs lo (lo+m)) {Q:Bool->dW->Prop}
  (hq:∀ ys,Bs D a₀ lo ys->Up r ys lo (lo+n)->Q true (a8 κ ys pd g none)):xB (aP prog w) A E s (Xi lo n m) Q (a8 κ xs pd g none):=by
 rw [Wp,show max m 1=m by lia];have hs:=h.size;refine aV (pP (gp (I:=λk c st'=>c.1=none/\∃ ys,st'=a8 κ ys pd g none/\Bs D a₀ lo ys/\Up r ys lo (lo+k)) (Q:=λc st'=>c.1=none/\∃ ys,st'=a8 κ ys pd g none/\Bs D a₀ lo ys/\Up r ys lo (lo+n)) ?_ ?_ ⟨rfl,xs,rfl,h,hu⟩) ?_)
 ·rintro k c st' a1 a2 ⟨_,ys,rfl,b1,b2⟩;have hy:=b1.size;unfold biS
  refine aV (pP (gp (I:=λx z st'=>st'=a8 κ ys pd g none/\z.1=none/\z.2.1<=z.2.2/\z.2.2<=k/\(∀ t,lo<=t->t<lo+z.2.1->K r ys t<=K r ys (lo+k))/\(∀ t,lo+z.2.2<=t->t<lo+k->K r ys (lo+k)<=K r ys t)/\z.2.2+x<=z.2.1+k)
   (Q:=λz st'=>st'=a8 κ ys pd g none/\z.1=none/\z.2.1<=k/\(∀ t,lo<=t->t<lo+z.2.1->K r ys t<=K r ys (lo+k))/\∀ t,lo+z.2.1<=t->t<lo+k->K r ys (lo+k)<=K r ys t) ?_ ?_ ⟨rfl,rfl,aJ _,au _,λt z1 z2=>absurd z2 (by dsimp only;lia),λt z1 z2=>absurd z2 (by dsimp only at z1;lia),by dsimp only;lia⟩) ?_)
  ·rintro x ⟨z,l,u⟩ st' _ _ ⟨rfl,rfl,c1,c2,c3,c4,c5⟩;dsimp only at c1 c2 c3 c4 c5;unfold plS;dsimp only
   by_cases d:l>=u
   ·rw [if_pos d]
    have:l=u:=by lia
    subst this;exact bo ⟨rfl,rfl,c2,c3,c4⟩
   ·rw [if_neg d];refine aV (QJ hc b1 (by lia) (by lia) ?_);dsimp only
    by_cases f:K r ys (lo+k)<K r ys (lo+(l+u)/2)
    ·rw [decide_eq_true f,if_pos rfl];exact bo ⟨rfl,rfl,by dsimp only;lia,by dsimp only;lia,c3,λt z1 z2=>dh (ia f) (b2 _ _ (by lia) z1 z2),by dsimp only;lia⟩
    ·rw [decide_eq_false f,if_neg (by simp)];exact bo ⟨rfl,rfl,by dsimp only;lia,c2,λt z1 z2=>dh (b2 _ (lo+(l+u)/2) z1 (by dsimp only at z2;lia) (by lia)) (sk.mp f),c4,by dsimp only;lia⟩
  ·rintro ⟨z,l,u⟩ st' ⟨rfl,rfl,c1,c2,c3,c4,c5⟩;dsimp only at c1 c2 c3 c4 c5
   have:l=u:=by lia
   subst this;exact ⟨rfl,rfl,c2,c3,c4⟩
  ·rintro ⟨z,l,u⟩ st' ⟨rfl,rfl,c2,c3,c4⟩;dsimp only at c2 c3 c4 ⊢;rw [moveDown'_eq];refine aV (jk (bo ⟨rfl,_,rfl,⟨(bubble_perm _ _ _).trans b1.pm,b1.dd,λt ht=>?_⟩,λt v z1 z2 z3=>?_⟩))
   ·have e:=getElem?_bubble (xs:=ys) (src:=lo+k) (by lia) (lo+k-(lo+l)) (by lia) t
    show (bubble ys _ _)[t]?=_
    rw [e,if_neg (by lia),if_neg (by lia)];exact b1.ah t ht
   ·show K r (bubble ys _ _) t<=K r (bubble ys _ _) v
    rw [UR (by lia) (by lia),UR (by lia) (by lia)]
    by_cases d1:t=lo+l
    ·rw [if_pos d1]
     by_cases d2:v=lo+l
     ·rw [if_pos d2];exact qC _
     ·rw [if_neg d2,if_pos (by lia)];exact c4 _ (by lia) (by lia)
    ·rw [if_neg d1]
     by_cases d2:v=lo+l
     ·rw [if_pos d2,if_neg (by lia)];exact c3 t z1 (by lia)
     ·rw [if_neg d2]
      by_cases d3:lo+l<t
      ·rw [if_pos (by lia),if_pos (by lia)];exact b2 _ _ (by lia) (by lia) (by lia)
      ·rw [if_neg (by lia)]
       by_cases d4:lo+l<v
       ·rw [if_pos (by lia)];exact b2 _ _ (by lia) (by lia) (by lia)
       ·rw [if_neg (by lia)];exact b2 _ _ (by lia) (by lia) (by lia)
 ·rintro c st' ⟨e,ys,rfl,b1,b2⟩;rw [show max m n=n by lia] at b2;exact ⟨e,ys,rfl,b1,b2⟩
 ·rintro ⟨c,u⟩ st' ⟨e,ys,rfl,b1,b2⟩;cases e;exact bo (hq ys b1 b2)
end
end Sy
namespace Sy
open PySem PySem.W PyProof.Rows
def QM (i:Nat) (q:Array aX) (xs:Array aX):Array aX:=q.toList.zipIdx.foldl (λa x=>match x with|(p,j)=>a.setIfInBounds (i+j) p) xs
def TR (i:Nat) (q:Array aX):SM Bool:=do
 modify λt=>a8 (kindOf t) (QM i q (pO t)) (cM t) (gallopOf t) (jK t)
 let t ← get
 pure (jK t).isNone
def Zk (xs:Array aX) (sa na sb nb:Nat):SM Bool:=do
 match ← qJ false (← oG xs sb) xs sa na 0 with
 | some k=>(if (na-k == 0)=true then pure true else (do
   match ← qJ true (← oG xs (sa+k+(na-k)-1)) xs sb nb (nb-1) with
   | some m=>(if (m == 0)=true then pure true else if na-k<=m then (do
     let q ← Cu (xs.extract (sa+k) sb) (xs.extract sb (sb+m))
     TR (sa+k) q) else (do
     let q ← Cv (xs.extract (sa+k) sb) (xs.extract sb (sb+m))
     TR (sa+k) q))
   | _=>pure false))
 | _=>pure false
theorem Yl (i:Nat):Xj i=(do
  let t ← get
  match ((cM t)[i]?,(cM t)[i+1]?) with
  | (some (sa,na,pw),some (sb,nb,_))=>(do
   set (a8 (kindOf t) (pO t) (((cM t).setIfInBounds i (sa,na+nb,pw)).eraseIdxIfInBounds (i+1)) (gallopOf t) (jK t))
   Zk (pO t) sa na sb nb)
  | _=>liftM (unsupported "internal:list.sort.pending")):=by kernel_rfl
theorem QN (i:Nat):∀ (l:List aX) (o:Nat) (xs:Array aX),i+o+l.length<=xs.size ->
  ((l.zipIdx o).foldl (λa x=>match x with|(p,j)=>a.setIfInBounds (i+j) p) xs).toList=xs.toList.take (i+o)++l++xs.toList.drop (i+o+l.length)
 | [],o,xs,_=>by simp
 | p::l,o,xs,h=>by
  rw [List.zipIdx_cons,List.foldl_cons];simp only [bV] at h;rw [QN i l (o+1) _ (by simp;lia)]
  have hl:i+o<xs.toList.length:=by simp;lia
  simp only [Array.toList_setIfInBounds,bV];rw [show i+(o+1)=i+o+1 by lia,d9,List.take_set_of_le (au _),nT hl,List.drop_set_of_lt (by lia),show i+o+1+l.length=i+o+(l.length+1) by lia];simp
theorem Wq {i:Nat}{q xs:Array aX}(h:i+q.size<=xs.size):(QM i q xs).toList=xs.toList.take i++q.toList++xs.toList.drop (i+q.size):=by
 exact QN i q.toList 0 xs (by simpa using h)
section
variable {prog:a9}{w:bQ}{A:bY}{E:aj->ar->Prop}{s:ar}{κ:kq} {D:aX->Prop}{r:aX->Int}{st:dW}{xs ys a₀:Array aX} {pd:Array (Nat×Nat×Nat)}{i j lo hi n m k q g pw nrem:Nat}
theorem Ym {st':dW}{Q:PUnit->dW->Prop}(h:Q ⟨⟩ st'):xB (aP prog w) A E s (set st':SM PUnit) Q st:=jk (f:=λ_=>st') h
theorem n9 {t:Nat}{x:aX}(e:(xs.extract i j)[t]?=some x):i+t<j/\i+t<xs.size/\xs[i+t]?=some x:=by
 have h:=ub e;simp at h
 have e2:(xs.extract i j)[t]?=xs[i+t]?:=by rw [Array.getElem?_extract,if_pos (by lia)]
 exact ⟨by lia,by lia,by rw [← e2,e]⟩
theorem US (h:St r xs i j):(xs.extract i j).toList.Pairwise λx y=>r x<=r y:=pw_of λt u x y _ h2 _ e f=>h _ _ x y (iP _ _) (by lia) (n9 f).1 (n9 e).2.2 (n9 f).2.2
theorem St.whole {n1:Nat}(hn:n1<=xs.size) (h:∀ t u x y,t<n1->n1<=u->xs[t]?=some x->xs[u]?=some y->r x<=r y) (h1:St r xs 0 n1) (h2:St r xs n1 xs.size):St r xs 0 xs.size:=λt u x y a1 a2 a3 e f=>by
 by_cases c:u<n1
 ·exact h1 t u x y a1 a2 c e f
 ·by_cases d:t<n1
  ·exact h t u x y d (by lia) e f
  ·exact h2 t u x y (by lia) a2 a3 e f
theorem St.YG (h:xs.toList.Pairwise λx y=>r x<=r y):St r xs 0 xs.size:=λt u x y _ a2 a3 e f=>by
 obtain ⟨h1,rfl⟩:=cD.mp e;obtain ⟨h2,rfl⟩:=cD.mp f
 by_cases c:t=u
 ·subst c;exact qC _
 ·have:=l6.mp h t u (by simpa using h1) (by simpa using h2) (by lia)
  simpa using this
theorem Yn {q:Array aX}{Q:Bool->dW->Prop}(h:∀ g',Q true (a8 κ (QM i q xs) pd g' none)) (hs:Sm κ xs pd st):xB (aP prog w) A E s (TR i q) Q st:=by
 obtain ⟨g',rfl⟩:=hs;exact aV (jk (aV (tw (bo (h g')))))
theorem Yo {n1 n2:Nat}(hc:Gy prog w A s κ D r) (h:Bs D a₀ 0 xs) (h1:0<n1) (h2:0<n2) (hn:n1+n2=xs.size) (s1:St r xs 0 n1) (s2:St r xs n1 xs.size) {Q:Bool->dW->Prop}
  (hq:∀ ys g',Bs D a₀ 0 ys->St r ys 0 ys.size->Q true (a8 κ ys pd g' none)):xB (aP prog w) A E s (Zk xs 0 n1 n1 n2) Q (a8 κ xs pd g none):=by
 obtain ⟨y0,ey⟩:=gY (a:=xs) (i:=n1) (by lia);obtain ⟨x1,ex⟩:=gY (a:=xs) (i:=n1-1) (by lia);unfold Zk;refine aV (qd ey (aV (rS hc rfl (λt x e=>h.d e) (h.d ey) (by lia) (λt u x y z1 z2 z3=>s1 t u x y z1 z2 (by lia)) h1 λk k1 k2 k3=>?_)))
 have k2':∀ t x,t<k->xs[t]?=some x->r x<=r y0:=λt x z e=>by simpa [Bv] using k2 t x (aJ _) (by lia) e
 have k3':∀ t x,k<=t->t<n1->xs[t]?=some x->r y0<r x:=λt x z z' e=>by simpa [Bv] using k3 t x (by lia) (by lia) e
 have yl:∀ t x,n1<=t->xs[t]?=some x->r y0<=r x:=λt x z e=>s2 _ _ _ _ (au _) z (ub e) ey e;have xl:∀ t x,t<n1->xs[t]?=some x->r x<=r x1:=λt x z e=>s1 _ _ _ _ (aJ _) (by lia) (by lia) e ex;dsimp only
 by_cases c:n1-k=0
 ·rw [if_pos (by simpa using c)];exact bo (hq xs g h (St.whole (n1:=n1) (by lia) (λt u x y z1 z2 e f=>dh (k2' t x (by lia) e) (yl u y z2 f)) s1 s2))
 ·rw [if_neg (by simpa using c)];rw [show 0+k+(n1-k)-1=n1-1 by lia,show 0+k=k by lia];refine aV (qd ex (aV (rS hc rfl (λt x e=>h.d e) (h.d ex) (by lia) (λt u x y z1 z2 z3=>s2 t u x y z1 z2 (by lia)) (by lia) λm m1 m2 m3=>?_)));have m2':∀ t x,n1<=t->t<n1+m->xs[t]?=some x->r x<r x1:=λt x z z' e=>of_decide_eq_true (m2 t x z z' e);have m3':∀ t x,n1+m<=t->xs[t]?=some x->r x1<=r x:=λt x z e=>sk.mp (of_decide_eq_false (m3 t x z (by have:=ub e;lia) e));dsimp only
  by_cases d:m=0
  ·rw [if_pos (by simpa using d)];exact bo (hq xs g h (St.whole (n1:=n1) (by lia) (λt u x y z1 z2 e f=>dh (xl t x z1 e) (m3' u y (by lia) f)) s1 s2))
  ·rw [if_neg (by simpa using d)]
   have sx:(xs.extract k n1).size=n1-k:=by simp;lia
   have sy:(xs.extract n1 (n1+m)).size=m:=by simp;lia
   have fin:∀ q,F r ((xs.extract k n1).toList++(xs.extract n1 (n1+m)).toList) q->∀ st',Sm κ xs pd st'->xB (aP prog w) A E s (TR k q) Q st':=λq hF st' hS=>by
    have pm:q.toList.Perm ((xs.extract k n1).toList++(xs.extract n1 (n1+m)).toList):=by simpa using hF.pm
    have lq:q.size=n1-k+m:=by have:=pm.length_eq;rw [bq,aO,aO,aO,sx,sy] at this;exact this
    have el:=Wq (i:=k) (q:=q) (xs:=xs) (by lia)
    have tk:xs.toList.take k=(xs.extract 0 k).toList:=by simp
    have dp:xs.toList.drop (k+q.size)=(xs.extract (n1+m) xs.size).toList:=by rw [ua];congr 1;lia
    rw [tk,dp] at el
    have wh:xs.toList=(xs.extract 0 k).toList++((xs.extract k n1).toList++(xs.extract n1 (n1+m)).toList)++(xs.extract (n1+m) xs.size).toList:=by
     have e1:=M5 xs 0 k;have e2:=M5 xs k (n1-k);have e3:=M5 xs n1 m;rw [show k+(n1-k)=n1 by lia] at e2;rw [ua];rw [Nat.zero_add] at e1;rw [dg,dg,← e3,← e2,← e1,Ic]
    have mq:∀ x∈q.toList,(∃ t,k<=t/\t<n1/\xs[t]?=some x)\/∃ t,n1<=t/\t<n1+m/\xs[t]?=some x:=λx hx=>by
     rcases aQ.mp (pm.mem_iff.mp hx) with z|z
     ·obtain ⟨t,a1,a2,_,e⟩:=zd z;exact .inl ⟨t,a1,a2,e⟩
     ·obtain ⟨t,a1,a2,_,e⟩:=zd z;exact .inr ⟨t,a1,a2,e⟩
    refine Yn (λg'=>hq _ g' ⟨fY.mpr ?_,h.dd,λt ht=>absurd ht (by lia)⟩ (St.YG ?_)) hS
    ·rw [el];refine O3 ?_ (fY.mp h.pm);rw [wh];exact (pm.append_left _).append_right _
    ·rw [el];refine ie.mpr ⟨ie.mpr ⟨US λt u x y a1 a2 a3=>s1 t u x y a1 a2 (by lia),hF.so,λx hx y hy=>?_⟩,US λt u x y a1 a2 a3=>s2 t u x y (by lia) a2 a3,λx hx y hy=>?_⟩
     ·obtain ⟨t,_,a2,_,e⟩:=zd hx
      rcases mq y hy with ⟨u,b1,b2,f⟩|⟨u,b1,b2,f⟩
      ·exact s1 t u x y (aJ _) (by lia) b2 e f
      ·exact dh (k2' t x a2 e) (yl u y b1 f)
     ·obtain ⟨u,b1,b2,_,f⟩:=zd hy
      rcases aQ.mp hx with hx|hx
      ·obtain ⟨t,_,a2,_,e⟩:=zd hx;exact dh (k2' t x a2 e) (yl u y (by lia) f)
      ·rcases mq x hx with ⟨t,a1,a2,e⟩|⟨t,a1,a2,e⟩
       ·exact dh (xl t x a2 e) (m3' u y b1 f)
       ·exact s2 t u x y a1 (by lia) b2 e f
   have da:∀ (t:Nat) x,(xs.extract k n1)[t]?=some x->D x:=λt x e=>h.d (n9 e).2.2;have db:∀ (t:Nat) x,(xs.extract n1 (n1+m))[t]?=some x->D x:=λt x e=>h.d (n9 e).2.2;have sa:St r (xs.extract k n1) 0 (xs.extract k n1).size:=λt u x y _ a2 _ e f=>s1 _ _ x y (aJ _) (by lia) (n9 f).1 (n9 e).2.2 (n9 f).2.2;have sb:St r (xs.extract n1 (n1+m)) 0 (xs.extract n1 (n1+m)).size:=λt u x y _ a2 _ e f=>s2 _ _ x y (iP _ _) (by lia) (n9 f).2.1 (n9 e).2.2 (n9 f).2.2
   have yx:∀ (t u:Nat) x y,(xs.extract k n1)[t]?=some x->(xs.extract n1 (n1+m))[0]?=some y->r y<=r x:=λt u x y e f=>by
    have f:=(n9 f).2.2;rw [Nat.add_zero,ey] at f;cases f;exact ia (k3' _ x (by lia) (n9 e).1 (n9 e).2.2)
   have xy:∀ (t u:Nat) x y,t+1=(xs.extract k n1).size->(xs.extract k n1)[t]?=some x->(xs.extract n1 (n1+m))[u]?=some y->r y<=r x:=λt u x y z e f=>by
    have e:=(n9 e).2.2;rw [sx] at z;rw [show k+t=n1-1 by lia,ex] at e;cases e;exact ia (m2' _ y (by lia) (n9 f).1 (n9 f).2.2)
   by_cases f:n1-k<=m
   ·rw [if_pos f];exact aV (Z5 hc ⟨da,db,sa,sb,xy⟩ rfl (by lia) (by lia) (λx y e f=>yx 0 0 y x f e) λq st' w1 w2=>fin q w2 st' w1)
   ·rw [if_neg f];exact aV (Z9 hc ⟨da,db,sa,sb,λu x y e f=>yx u 0 y x f e⟩ rfl (by lia) (by lia) (λx y e f=>xy _ _ y x (by lia) f e) λq st' w1 w2=>fin q w2 st' w1)
end
end Sy
namespace Sy
open PySem PySem.W PyProof.Rows
theorem Wr {n:Nat}(h2:2<=n) (h:n<128):n<=2*vp n n 0/\vp n n 0<=n/\1<=vp n n 0:=by
 obtain ⟨f,rfl⟩:∃ f,n=f+2:=⟨n-2,by lia⟩
 by_cases c:f+2<64
 ·have e:vp (f+1+1) (f+2) 0=f+2+0:=by rw [Uz,if_pos c]
  have e:vp (f+2) (f+2) 0=f+2:=e;lia
 ·have e:vp (f+1+1) (f+2) 0=(f+2)/2+max 0 ((f+2)%2):=by rw [Uz,if_neg c,Uz,if_pos (by lia)]
  have e:vp (f+2) (f+2) 0=(f+2)/2+max 0 ((f+2)%2):=e;lia
abbrev R1:=Option Unit×Nat
abbrev R0:=Option Unit×Unit
def cl1 (pw:Nat) (_:Nat) (_:R0):SM (ForInStep R0):=do
 let t ← get
 match (if (cM t).size>1 then (cM t)[(cM t).size-2]? else none) with
 | some (_,_,old)=>(if old<=pw then pure (.done (none,())) else (do
   let b ← Xj ((cM t).size-2)
   if (!b)=true then pure (.done (some (),())) else pure (.yield (none,()))))
 | _=>pure (.done (none,()))
def Yp (N lo n:Nat):SM (ForInStep R1):=do
 let t ← get
 match (cM t).back? with
 | some (s1,n1,_)=>(do
  let z ← forIn [0:N] ((none,()):R0) (cl1 (power' N (2*s1+n1) (2*s1+n1+n1+n) N))
  (match z.1 with
  | some r=>pure (.done (some r,lo))
  | none=>do
   modify λt=>setPending t ((cM t).modify ((cM t).size-1) λx=>(x.1,x.2.1,power' N (2*s1+n1) (2*s1+n1+n1+n) N))
   modify λt=>setPending t ((cM t).push (lo,n,0))
   pure (.yield (none,lo+n))))
 | _=>(do
  modify λt=>setPending t ((cM t).push (lo,n,0))
  pure (.yield (none,lo+n)))
def N6 (N mr:Nat) (_:Nat) (z:R1):SM (ForInStep R1) :=
 if z.2>=N then pure (.done (none,z.2)) else do
  match ← countRun' z.2 (N-z.2) with
  | some f=>(if f<mr then (do
    liftM (DS "list.sort.binary-insertion")
    let b ← Xi z.2 (min (N-z.2) mr) f
    if (!b)=true then pure (.done (some (),z.2)) else Yp N z.2 (min (N-z.2) mr)) else Yp N z.2 f)
  | _=>pure (.done (some (),z.2))
def cl2 (_:Nat) (_:R0):SM (ForInStep R0):=do
 let t ← get
 if (cM t).size<=1 then pure (.done (none,())) else (do
  let b ← Xj (if (if (cM t).size-2>0 then (cM t)[(cM t).size-2-1]?.map (·.2.1) else none).any (·<((cM t)[(cM t).size-2+1]?.elim 0 (·.2.1))) then (cM t).size-2-1 else (cM t).size-2)
  if (!b)=true then pure (.done (some (),())) else pure (.yield (none,())))
theorem TU:sortRuns'=(do
  let t ← get
  let z ← forIn [0:(pO t).size] ((none,0):R1) (N6 (pO t).size (vp (pO t).size (pO t).size 0))
  (match z.1 with
  | some r=>pure r
  | none=>do
   let y ← forIn [0:(pO t).size] ((none,()):R0) cl2
   (match y.1 with
   | some r=>pure r
   | none=>pure ()))):=by kernel_rfl
section
variable {prog:a9}{w:bQ}{A:bY}{E:aj->ar->Prop}{s:ar}{κ:kq} {D:aX->Prop}{r:aX->Int}{xs ys a₀:Array aX} {pd:Array (Nat×Nat×Nat)}{i j lo hi n m k q g pw nrem N n1:Nat}
theorem Up.st (h:Up r xs i j):St r xs i j:=λt u x y a1 a2 a3 e f=>by have:=h t u a1 a2 a3;rwa [TQ e,TQ f] at this
theorem Ws {Q:ForInStep R1->dW->Prop}(h:Q (.yield (none,lo+n)) (a8 κ xs #[(lo,n,0)] g none)):xB (aP prog w) A E s (Yp N lo n) Q (a8 κ xs #[] g none) :=
 aV (tw (aV (jk (bo h))))
theorem Wt {Q:ForInStep R1->dW->Prop}(h:∀ pw,Q (.yield (none,lo+n)) (a8 κ xs #[(0,n1,pw),(lo,n,0)] g none)):xB (aP prog w) A E s (Yp N lo n) Q (a8 κ xs #[(0,n1,0)] g none):=by
 refine aV (tw ?_)
 show xB _ _ _ _ (_ >>= _) _ _
 refine aV (pP (gp (I:=λ_ c st'=>c=(none,())/\st'=a8 κ xs #[(0,n1,0)] g none) (Q:=λc st'=>c=(none,())/\st'=a8 κ xs #[(0,n1,0)] g none) ?_ (λ_ _ z=>z) ⟨rfl,rfl⟩) ?_)
 ·rintro x c st' _ _ ⟨rfl,rfl⟩;exact aV (tw (bo ⟨rfl,rfl⟩))
 ·rintro c st' ⟨rfl,rfl⟩;exact aV (jk (aV (jk (bo (h _)))))
theorem UT {mr:Nat}(hc:Gy prog w A s κ D r) (hD:∀ x∈xs.toList,D x) (h1:lo<N) (hN:N=xs.size) (hm:1<=mr) {Q:ForInStep R1->dW->Prop}{z:R1}(hz:z.2=lo)
  (h:∀ ys m,1<=m->m<=N-lo->min (N-lo) mr<=m->ys.Perm xs->(∀ t,t<lo->ys[t]?=xs[t]?)->Up r ys lo (lo+m)->xB (aP prog w) A E s (Yp N lo m) Q (a8 κ ys pd g none)):xB (aP prog w) A E s (N6 N mr i z) Q (a8 κ xs pd g none):=by
 subst hN hz;unfold N6;rw [if_neg (by lia)];refine aV (w_count (a₀:=xs) hc ⟨Array.Perm.refl _,hD,λ_ _=>rfl⟩ (by lia) (by lia) λm ys m1 m2 hb hu=>?_);have hy:=hb.size;dsimp only
 by_cases c:m<mr
 ·rw [if_pos c];refine aV (HZ (iM ⟨rfl,?_⟩));refine aV (QL hc hb (by lia) m1 (by lia) hu λzs hb' hu'=>?_);exact h zs _ (by lia) (by lia) (au _) hb'.pm hb'.ah hu'
 ·rw [if_neg c];exact h ys m m1 m2 (by lia) hb.pm hb.ah hu
theorem w_runs (hc:Gy prog w A s κ D r) (hD:∀ x∈a₀.toList,D x) (h2:2<=a₀.size) (h128:a₀.size<128) {Q:Unit->dW->Prop}
  (hq:∀ ys st',pO st'=ys->jK st'=none->ys.Perm a₀->St r ys 0 ys.size->Q () st'):xB (aP prog w) A E s sortRuns' Q (a8 κ a₀ #[] 7 none):=by
 obtain ⟨r1,r2,r3⟩:=Wr h2 h128;rw [TU];refine aV (tw ?_)
 show xB _ _ _ _ (forIn [0:a₀.size] _ (N6 a₀.size (vp a₀.size a₀.size 0)) >>= _) _ _
 generalize vp a₀.size a₀.size 0=mr at r1 r2 r3;have dp:∀ {ys:Array aX},ys.Perm a₀->∀ x∈ys.toList,D x:=λh x hx=>hD x ((fY.mp h).mem_iff.mp hx)
 refine aV (pP (gp
  (I:=λx c st'=>(x=0/\c=(none,0)/\st'=a8 κ a₀ #[] 7 none)\/(∃ n1 ys,c=(none,n1)/\mr<=n1/\n1<=a₀.size/\(x=1\/n1=a₀.size)/\st'=a8 κ ys #[(0,n1,0)] 7 none/\ys.Perm a₀/\Up r ys 0 n1) \/
   (c=(none,a₀.size)/\∃ n1 pw ys,0<n1/\n1<a₀.size/\st'=a8 κ ys #[(0,n1,pw),(n1,a₀.size-n1,0)] 7 none/\ys.Perm a₀/\Up r ys 0 n1/\Up r ys n1 a₀.size))
  (Q:=λc st'=>c=(none,a₀.size)/\((∃ ys,st'=a8 κ ys #[(0,a₀.size,0)] 7 none/\ys.Perm a₀/\Up r ys 0 a₀.size)\/∃ n1 pw ys,0<n1/\n1<a₀.size/\st'=a8 κ ys #[(0,n1,pw),(n1,a₀.size-n1,0)] 7 none/\ys.Perm a₀/\Up r ys 0 n1/\Up r ys n1 a₀.size)) ?_ ?_ (.inl ⟨rfl,rfl,rfl⟩)) ?_)
 ·rintro x c st' _ hx (⟨rfl,rfl,rfl⟩|⟨n1,ys,rfl,b1,b2,b3,rfl,b5,b6⟩|⟨rfl,b⟩)
  ·refine UT hc hD (lo:=0) (by lia) rfl r3 rfl λys m m1 m2 m3 p1 p2 p3=>Ws (.inr (.inl ⟨m,ys,by simp,by lia,by lia,.inl rfl,rfl,p1,by simpa using p3⟩))
  ·have hy:=b5.size_eq
   by_cases c:n1=a₀.size
   ·unfold N6;rw [if_pos (by dsimp only;lia)];subst c;exact bo ⟨rfl,.inl ⟨ys,rfl,b5,b6⟩⟩
   ·refine UT hc (dp b5) (lo:=n1) (by lia) hy.symm r3 rfl λzs m m1 m2 m3 p1 p2 p3=>Wt λpw=>.inr (.inr ?_)
    have e:m=a₀.size-n1:=by lia
    subst e;rw [show n1+(a₀.size-n1)=a₀.size by lia] at p3 ⊢;exact ⟨rfl,n1,pw,zs,by lia,by lia,rfl,p1.trans b5,λt u z1 z2 z3=>by rw [Li (p2 t (by lia)),Li (p2 u z3)];exact b6 t u z1 z2 z3,p3⟩
  ·unfold N6;rw [if_pos (au _)];exact bo ⟨rfl,.inr b⟩
 ·rintro c st' (⟨hx,_⟩|⟨n1,ys,rfl,b1,b2,b3,b4,b5,b6⟩|⟨rfl,b⟩)
  ·lia
  ·have:n1=a₀.size:=by lia
   subst this;exact ⟨rfl,.inl ⟨ys,b4,b5,b6⟩⟩
  ·exact ⟨rfl,.inr b⟩
 ·rintro c st' ⟨rfl,b⟩
  refine aV (pP (gp (I:=λx c st'=>c=(none,())/\((∃ ys pw g,st'=a8 κ ys #[(0,a₀.size,pw)] g none/\ys.Perm a₀/\St r ys 0 ys.size)\/x=0/\∃ n1 pw ys,0<n1/\n1<a₀.size/\st'=a8 κ ys #[(0,n1,pw),(n1,a₀.size-n1,0)] 7 none/\ys.Perm a₀/\Up r ys 0 n1/\Up r ys n1 a₀.size))
   (Q:=λc st'=>c=(none,())/\∃ ys pw g,st'=a8 κ ys #[(0,a₀.size,pw)] g none/\ys.Perm a₀/\St r ys 0 ys.size) ?_ ?_ ⟨rfl,?_⟩) ?_)
  ·rintro x c st2 _ _ ⟨rfl,⟨ys,pw,g,rfl,b1,b2⟩|⟨rfl,n1,pw,ys,b1,b2,rfl,b4,b5,b6⟩⟩
   ·refine aV (tw ?_);rw [if_pos (show (cM (a8 κ ys #[(0,a₀.size,pw)] g none)).size<=1 from au 1)];exact bo ⟨rfl,ys,pw,g,rfl,b1,b2⟩
   ·refine aV (tw ?_);rw [if_neg (show ¬ (cM (a8 κ ys #[(0,n1,pw),(n1,a₀.size-n1,0)] 7 none)).size<=1 from λz=>absurd (show 2<=1 from z) (by lia))]
    show xB _ _ _ _ (Xj 0 >>= _) _ _
    rw [Yl];have hy:=b4.size_eq;refine aV (aV (tw ?_))
    show xB _ _ _ _ (_ >>= _) _ _
    refine aV (Ym ?_)
    have ep:((#[(0,n1,pw),(n1,a₀.size-n1,0)]:Array (Nat×Nat×Nat)).setIfInBounds 0 (0,n1+(a₀.size-n1),pw)).eraseIdxIfInBounds 1=#[(0,a₀.size,pw)]:=by
     rw [show n1+(a₀.size-n1)=a₀.size by lia]
     apply lO.mp
     simp
    show xB _ _ _ _ (Zk ys 0 n1 n1 (a₀.size-n1)) _ (a8 κ ys (((#[(0,n1,pw),(n1,a₀.size-n1,0)]:Array (Nat×Nat×Nat)).setIfInBounds 0 (0,n1+(a₀.size-n1),pw)).eraseIdxIfInBounds 1) 7 none)
    rw [ep];exact Yo hc ⟨b4,hD,λt z=>absurd z (by lia)⟩ b1 (by lia) (by lia) b5.st (by rw [hy];exact b6.st) λzs g' w1 w2=>bo ⟨rfl,.inl ⟨zs,pw,g',rfl,w1.pm,w2⟩⟩
  ·rintro c st2 ⟨e,b|⟨hx,_⟩⟩
   ·exact ⟨e,b⟩
   ·have hx:max 0 a₀.size=0:=hx;lia
  ·rcases b with ⟨ys,e,b1,b2⟩|b
   ·exact .inl ⟨ys,0,7,e,b1,by rw [b1.size_eq];exact b2.st⟩
   ·exact .inr ⟨rfl,b⟩
  ·rintro c st2 ⟨rfl,ys,pw,g,rfl,b1,b2⟩;exact bo (hq ys _ rfl rfl b1 b2)
end
end Sy
namespace Sy
open PySem PySem.W PyProof.Rows
theorem perm_map {α β:Type} {f:α->β}{m l:List β}(h:m.Perm l):∀ us:List α,m=us.map f->∃ us':List α,us'.Perm us/\l=us'.map f:=by
 induction h with
 | nil=>exact λus e=>⟨us,.refl _,e⟩
 | cons x _ ih =>
  intro us e
  match us,e with
  | u::us,e =>
   obtain ⟨e1,e2⟩:=gA e;obtain ⟨us',h1,h2⟩:=ih us e2
   exact ⟨u::us',h1.cons u,by rw [e1,h2];rfl⟩
 | swap x y l =>
  intro us e
  match us,e with
  | u::v::us,e =>
   obtain ⟨e1,e2⟩:=gA e;obtain ⟨e2,e3⟩:=gA e2
   exact ⟨v::u::us,.swap _ _ _,by rw [e1,e2,e3];rfl⟩
 | trans _ _ ih1 ih2 =>
  intro us e;obtain ⟨us1,h1,e1⟩:=ih1 us e;obtain ⟨us2,h2,e2⟩:=ih2 us1 e1;exact ⟨us2,h2.trans h1,e2⟩
section
variable {prog:a9}{w:bQ}{A:bY}{E:aj->ar->Prop}{s:ar}{κ:kq} {r:aj->Int}{vs:List aj}
def Ks (prog:a9) (w:bQ) (A:bY) (κ:kq) (r:aj->Int) (vs:List aj) (s:ar):Prop :=
 (∀ Q:kq->ar->Prop,Q κ s->aK (aP prog w) A (keyKind' vs.toArray) Q (λ_ _=>False) s)/\∀ x∈vs,∀ y∈vs,∀ Q:Bool->ar->Prop,Q (decide (r x<r y)) s->aK (aP prog w) A (keyLt' κ x y) Q (λ_ _=>False) s
theorem N7 {a:af}{n:Nat}{P:KE->ar->Prop}(ho:s.heap.get? a=some (b9 "list" vs.toArray n)) (hz:vs.length<128)
  (hk:2<=vs.length->∀ h',(∀ b o,b≠a->s.heap.get? b=some o->h'.get? b=some o)->Ks prog w A κ r vs { s with heap:=h' })
  (h:∀ h' c (out:List aj),(∀ b o,b≠a->s.heap.get? b=some o->h'.get? b=some o)->h'.get? a=some (b9 "list" out.toArray c)->out.Perm vs->out.Pairwise (λx y=>r x<=r y)->P (.done (.ret .none)) { s with heap:=h' }) :
  aK (aP prog w) A (kg.«list.sort» ⟨[.ref a],[]⟩) P E s:=by
 have hl:vs.length<=aY:=L2.bD (m:=128) (by lia);rw [list_sort_plain]
 obtain ⟨c1,g1⟩:∃ c1,(s.heap.update a (bC λ_=>#[])).get? a=some (b9 "list" #[] c1):=⟨_,jF ho λ_=>#[]⟩
 refine ae (yP ho rfl (ae (lA ho rfl (ae (KI g1 rfl (ae (Bi (ae (vL (cF ?_) (aJ _))) hl)))) (by rw [aM];exact hl) (aJ _))));have g6:(((s.heap.update a (bC λ_=>#[])).push (b9 "tuple" vs.toArray 0)).push (b9 "list" #[] 0)).get? a=some (b9 "list" #[] c1):=ao _ (ao _ g1);have k6:∀ b o,b≠a->s.heap.get? b=some o->(((s.heap.update a (bC λ_=>#[])).push (b9 "tuple" vs.toArray 0)).push (b9 "list" #[] 0)).get? b=some o:=λb o hb e=>ao _ (ao _ ((a0 _ _ (Ne.symm hb)).trans e))
 show aK (aP prog w) A _ P E { s with heap:=((s.heap.update a (bC λ_=>#[])).push (b9 "tuple" vs.toArray 0)).push (b9 "list" #[] 0) }
 generalize ((s.heap.update a (bC λ_=>#[])).push (b9 "tuple" vs.toArray 0)).push (b9 "list" #[] 0)=h6 at g6 k6
 have sn:((vs.toArray.zip vs.toArray).map (·.2))=vs.toArray:=by
  apply lO.mp
  simp;exact Vn (au _)
 have fin:∀ st:dW,jK st=none->∀ out:List aj,(pO st).map (·.2)=out.toArray->out.Perm vs->out.Pairwise (λx y=>r x<=r y)->aK (aP prog w) A (do
   let t:=(← seqEpoch a) != c1
   gO (.ref a) λ_=>(pO st).map (·.2)
   if let some e:=jK st then DS "list.sort.comparison-raised";throw e
   if t then DS "list.sort.modified";raiseError "ValueError" "list modified during sort"
   ret .none) P E { s with heap:=h6 }:=λst hf out eo hp hs=>by
  rw [eo]
  obtain ⟨c7,g7⟩:∃ c7,(h6.update a (bC λ_=>out.toArray)).get? a=some (b9 "list" out.toArray c7):=⟨_,jF g6 λ_=>out.toArray⟩
  refine ae (KI g6 rfl (ae (lA g6 rfl ?_ (aJ _) (by rw [aM,hp.length_eq];exact Vi hl))));rw [hf];simp only [bne_self_eq_false,bX,if_false];exact aq (h _ c7 out (λb o hb e=>(a0 _ _ (Ne.symm hb)).trans (k6 b o hb e)) g7 hp hs)
 dsimp only
 by_cases h2:vs.length<2
 ·rw [if_pos (by rw [aM];exact h2),if_pos (by rw [aM];exact h2)];refine ae (aq ?_);rw [UA];refine ae (aq (fin (a8 general' (vs.toArray.zip vs.toArray) #[] 7 none) rfl vs sn (.refl _) ?_))
  match vs,h2 with
  | [],_=>exact .nil
  | [z],_=>exact tW _ _
  | z::w::r,h2=>simp at h2;lia
 ·rw [if_neg (by rw [aM];exact h2),if_neg (by rw [aM];exact h2)];obtain ⟨q1,q2⟩:=hk (by lia) h6 k6;refine ae (dZ (q1 (λκ' s'=>κ'=κ/\s'={ s with heap:=h6 }) ⟨rfl,rfl⟩) (λκ' s' e=>?_) λ_ _ x=>x.elim);obtain ⟨rfl,rfl⟩:=e
  have mz:∀ x∈(vs.toArray.zip vs.toArray).toList,x.1∈vs:=λx hx=>by
   rw [DU] at hx;exact (vG hx).1
  refine ae (dZ (w_runs (a₀:=vs.toArray.zip vs.toArray) (D:=λx=>x.1∈vs) (r:=λx=>r x.1) (Q:=λ_ st'=>∃ ys,pO st'=ys/\jK st'=none/\ys.Perm (vs.toArray.zip vs.toArray)/\St (λx=>r x.1) ys 0 ys.size)
   (λx y hx hy Q q=>q2 x.1 hx y.1 hy Q q) mz (by simp;lia) (by simp;lia) λys st' a1 a2 a3 a4=>⟨ys,a1,a2,a3,a4⟩) ?_ λ_ _ x=>x)
  rintro ⟨⟨⟩,st'⟩ s' ⟨rfl,ys,e,hf,hp,hs⟩;have hp':=fY.mp hp
  have self:∀ x∈ys.toList,x.1=x.2:=λx hx=>by
   have:=hp'.mem_iff.mp hx;rw [DU] at this;exact (mem_zip_self this).1
  refine fin st' hf (ys.toList.map (·.2)) (by rw [e];apply lO.mp;simp) ?_ ?_
  ·have:=hp'.map (·.2);rw [← oS,← oS,sn] at this
   simpa using this
  ·refine cS.mpr ((pw_of hs).imp_of_mem λ{x y} hx hy z=>?_);rw [← self x hx,← self y hy];exact z
theorem sorted_vals {p:af}{Q:aj->ar->Prop}(hz:vs.length<128)
  (hcol:∀ (Q':List aj->ar->Prop),(∀ h' tk,(∀ b o,s.heap.get? b=some o->h'.get? b=some o)->Q' vs { s with heap:=h',toks:=tk })->aK (aP prog w) A.in1 (HU (.ref p)) Q' E s)
  (hk:2<=vs.length->∀ h' tk,(∀ b o,s.heap.get? b=some o->h'.get? b=some o)->Ks prog w A.in1.in1 κ r vs { s with heap:=h',toks:=tk })
  (h:∀ D c h' tk (out:List aj),(∀ b o,s.heap.get? b=some o->h'.get? b=some o)->s.heap.get? D=none->h'.get? D=some (b9 "list" out.toArray c)->out.Perm vs->out.Pairwise (λx y=>r x<=r y)->Q (.ref D) { s with heap:=h',toks:=tk }) :
  aK (aP prog w) A (call (.builtin "sorted") [.ref p]) Q E s:=by
 have hl:vs.length<=aY:=L2.bD (m:=128) (by lia);refine Ih Xd Uw Ux (args_sorted1 _) (ae (m:=checkCount "sorted" 1 1 _) (aq (ae (hcol _ λh1 tk keep=>ae (vL ?_ hl)))));have g:(h1.push (b9 "list" vs.toArray 0)).get? h1.objs.size=some (b9 "list" vs.toArray 0):=aN _ rfl;have hb:∀ b o,s.heap.get? b=some o->b≠h1.objs.size:=λb o e=>bf (aL (keep b o e));have k2:∀ {h':cm},(∀ b o,b≠h1.objs.size->(h1.push (b9 "list" vs.toArray 0)).get? b=some o->h'.get? b=some o)->∀ b o,s.heap.get? b=some o->h'.get? b=some o:=λk b o e=>k b o (hb b o e) (ao _ (keep b o e))
 show aK (aP prog w) A.in1 (do let _ ← nU [aF h1.objs.size] (call (.builtin "list.sort") [aF h1.objs.size]);ret (aF h1.objs.size)) _ _ { s with heap:=h1.push (b9 "list" vs.toArray 0),toks:=tk }
 have hD:s.heap.get? h1.objs.size=none:=by
  cases q:s.heap.get? h1.objs.size with
  | none=>rfl
  | some o=>exact absurd rfl (hb _ o q)
 exact ae (cF (cW ON ⟨_,g,rfl⟩ MB (N7 (s:={ s with heap:=h1.push (b9 "list" vs.toArray 0),toks:=tk }) g hz (λh2 h' k=>hk h2 h' tk (k2 k)) λh' c out k gD hp hs=>⟨_,rfl,aq ⟨_,rfl,h _ c h' tk out (k2 k) hD gD hp hs⟩⟩) (args_list_sort _)))
end
end Sy
namespace L2
open PySem PySem.Spec PyProof.Rows PySem.W
theorem Inv.U9 {X:Cx}{pins:List (af×gi)}{Z:St}{H:Hp}{s:ar}{h':cm}{a:af}{o:HO}{t':Nat}(I:Inv X pins Z H s) (k:∀ b u,s.heap.get? b=some u->h'.get? b=some u) (gn:s.heap.get? a=none) (new:fP X.prog X.w (upd H a o) h' a o) :
  H a=none/\Inv X pins Z (upd H a o) { s with heap:=h',toks:=t' }:=by
 have hn:H a=none:=by
  cases q:H a with
  | none=>rfl
  | some u =>
   obtain ⟨w,e⟩:=(I.fD a u q).obj;rw [gn] at e;cases e
 have ne:∀ {b u},H b=some u->b≠a:=λe=>aR e hn;refine ⟨hn,I.un ⟨λb u q _ _ _=>k b u q,λb u q _ _ _=>⟨u.slots,k b u q⟩,λb u q n _=>?_,λb u q _=>⟨u,k b u q⟩,λb xs q=>by rw [aI (ne q)];exact q,λb u xs q=>by rw [aI (ne q)];exact q,λb ps q=>⟨#[],by rw [aI (ne q),q];simp⟩⟩ λb u e=>?_⟩
 ·rw [aI];exact n;rintro rfl;rw [gn] at q;cases q
 ·by_cases hb:b=a
  ·subst hb;rw [aG] at e;cases e;exact new
  ·rw [aI hb] at e
   exact (I.fD b u e).Bb (λc v _ q=>k c v q) (λc q=>by rw [aI (ne q)];exact q) λc xs q=>by rw [aI (ne q)];exact q
def UU (zs:List Zn):aj->Int
 | .ref a=>((zs.find? λz=>z.2 == a).map λz=>FN (zs.map (·.1)) z.1).getD 0
 | _=>0
section
variable {X:Cx}{pins:List (af×gi)}{Z:St}{H:Hp}{s:ar}{zs:List Zn}{m:List Bool}
theorem uc (hz:∀ z∈zs,∀ z'∈zs,z.2=z'.2->z.1=z'.1) {z:Zn}(h:z∈zs):UU zs (.ref z.2)=FN (zs.map (·.1)) z.1:=by
 show ((zs.find? λy=>y.2 == z.2).map _).getD 0=_
 cases q:zs.find? (λy=>y.2 == z.2) with
 | none=>exact absurd (Sz.mp q z h) (by simp)
 | some y =>
  have e:=W6 q
  show FN _ y.1=_
  rw [hz y (Kt q) z h (by simpa using e)]
theorem QO {m:List Bool}{xs:List V}{ks:List Int}(f:Flat m xs ks):∀ {ls:List Int},Flat m xs ls->ks=ls:=by
 induction f with
 | nil=>intro ls g;cases g;rfl
 | int i _ ih=>intro ls g;cases g with|int _ g=>rw [ih g]
 | bl b _ ih=>intro ls g;cases g with|bl _ g=>rw [ih g]
theorem Ao {r:af}{Q:VK}(I:Inv X pins Z H s) (hz:∀ z∈zs,Cr m H z) (hl:zs.length<128)
  (hcol:∀ (Q':List aj->ar->Prop),(∀ h' tk,(∀ b o,s.heap.get? b=some o->h'.get? b=some o)->Q' (zs.map λz=>aF z.2) { s with heap:=h',toks:=tk })->aK (aP X.prog X.w) X.A.in1 (HU (.ref r)) Q' X.xe s)
  (q:∀ (l:af) (zs':List Zn),H l=none->zs'.Perm zs->zs'.Pairwise (λz w=>gG w.1 z.1=false)->Q (.ref l) (upd H l (.lst (zs'.map qc)))):aK (aP X.prog X.w) X.A (call (.builtin "sorted") [.ref r]) (EP X pins Z Q) X.xe s:=by
 have tup:∀ z∈zs,∃ xs us,Flat (false::m) xs z.1/\Vals xs us/\xi s.heap z.2 us.toArray:=λz hz'=>by
  obtain ⟨xs,h1,h2⟩:=hz z hz';obtain ⟨ts,r,it,_⟩:=I.tuple (.of h1);exact ⟨xs,ts,h2,r,it⟩
 have one:∀ z∈zs,∀ z'∈zs,z.2=z'.2->z.1=z'.1:=λz h z' h' e=>by
  obtain ⟨xs,e1,f1⟩:=hz z h;obtain ⟨ys,e2,f2⟩:=hz z' h';rw [e,e2] at e1;cases e1;exact QO f1 f2
 refine Sy.sorted_vals (κ:=Uy true) (r:=UU zs) (by rw [ag];exact hl) hcol (λh2 h' tk keep=>?_) λD c h' tk out keep gD g hp hs=>?_
 ·rw [ag] at h2
  have tup':∀ z∈zs,∃ xs us,Flat (false::m) xs z.1/\Vals xs us/\xi h' z.2 us.toArray:=λz hz'=>by
   obtain ⟨xs,us,f,r,o,e,rest⟩:=tup z hz';exact ⟨xs,us,f,r,o,keep _ _ e,rest⟩
  obtain ⟨fs,k1,k2,k3⟩:=M3 (zs:=zs) (h:=h') λz hz'=>by
   obtain ⟨xs,us,f,r,it⟩:=tup' z hz';generalize z.1=kz at f
   cases f with
   | int i f =>
    cases r with
    | cons r1 r=>obtain ⟨t,rfl⟩:=r1;exact ⟨i,t,_,it⟩
  refine ⟨λQ hQ=>kat_kind (T:=.type "int") k1 (by lia) (λv hv=>by obtain ⟨i,t,rfl⟩:=k3 v hv;exact Looks.now) rfl (by rw [show (dM "int" != dM "tuple")=true by decide];exact hQ),λx hx y hy Q hQ=>?_⟩;obtain ⟨z,hz',rfl⟩:=bw.mp hx;obtain ⟨z',hz2,rfl⟩:=bw.mp hy;obtain ⟨xs,us,f1,r1,i1⟩:=tup' z hz';obtain ⟨ys,ws,f2,r2,i2⟩:=tup' z' hz2;refine TF (s:={ s with heap:=h',toks:=tk }) f1 f2 r1 r2 i1 i2 ?_;rw [uc one hz',uc one hz2,xV (bp hz')] at hQ;exact hQ
 ·obtain ⟨zs',p',rfl⟩:=Sy.perm_map hp.symm zs rfl;obtain ⟨hn,I2⟩:=I.U9 (t':=tk) (o:=.lst (zs'.map qc)) keep gD ⟨by rw [ag,p'.length_eq];exact bD (m:=128) (by lia),_,c,wD zs',g⟩;refine ⟨.ref D,_,I2,rfl,q D zs' hn p' ((cS.mp hs).imp_of_mem λ{z w} hz1 hw z2=>?_)⟩;have a1:=p'.mem_iff.mp hz1;have a2:=p'.mem_iff.mp hw
  cases e:gG w.1 z.1 with
  | false=>rfl
  | true =>
   rw [← xV (ts:=zs.map (·.1)) (bp a2),decide_eq_true_iff] at e;rw [uc one a1,uc one a2] at z2;lia
def oe (K:aa):List V->Hp->VK->Prop:=λxs H Q=>∃ (p:af) (zs:List Zn) (m:List Bool),xs=[.ref p]/\de K H p (zs.map qc)/\(∀ z∈zs,Cr m H z)/\zs.length<128 /\
 ∀ (l:af) (zs':List Zn),H l=none->zs'.Perm zs->zs'.Pairwise (λz w=>gG w.1 z.1=false)->Q (.ref l) (upd H l (.lst (zs'.map qc)))
theorem mF:oY X (.builtin "sorted") (oe X.K):=by
 intro pins s Z H xs us Q I r h;obtain ⟨p,zs,mk,rfl,hq,hz,hl,q⟩:=h;obtain ⟨u,rfl,ru⟩:=vals1 r;cases ru;obtain ⟨its,rv,pl,hsz⟩:=I.list hq;have ei:=Cs rv;subst ei;refine Ao I hz hl (λQ' k=>collect_list pl.isList (k _ s.toks λb o e=>?_) (by rw [ag];exact bD (m:=128) (by lia))) q;have hlt:=aL e;exact (a0 _ _ (eD hlt)).trans (ao _ e)
def Jj:List V->Hp->VK->Prop:=λxs H Q=>∃ (p:af) (kvs:List (List dQ×V)),xs=[.ref p]/\H p=some (.dT kvs)/\(∀ q∈kvs,∃ x y:Int,q.1=[aZ x,aZ y])/\kvs.length<128 /\
 ∀ (l:af) (zs:List Zn),H l=none->(∀ z∈zs,Cr [false] H z)->(zs.map (·.1)).Perm (kvs.map λp=>p.1.map λk=>k.elim id λ_=>0)->zs.Pairwise (λz w=>gG w.1 z.1=false)->Q (.ref l) (upd H l (.lst (zs.map qc)))
theorem Gz (hc:X.calm=true):oY X (.builtin "sorted") Jj:=by
 intro pins s Z H xs us Q I r h;obtain ⟨p,kvs,rfl,hp,hk,hl,q⟩:=h;obtain ⟨u,rfl,ru⟩:=vals1 r;cases ru
 obtain ⟨hz,lo,ys,rel,o,es,ep,e1,e2,e3,e4,e5⟩:=(show fP X.prog X.w H s.heap p (.dT kvs) from I.fD p _ hp)
 obtain ⟨ws,k1,k2,k3⟩:=MX rel hk
 have hlen:ws.length=kvs.length:=by have:=congrArg df k3;simpa using this.symm
 have raw:z4 s.heap p ((ws.map λz=>(([z.1,z.2.1],z.2.2):Zn)).map λz=>aF z.2) ep:=⟨o,es,e1,e2,e3,by rw [e4,bN];rw [show (λq:List dQ×af×aj=>aF q.2.1)=(λq=>aF q.2.1) from rfl] at k1;exact k1▸(by rw [bN];rfl)⟩
 have hz2:∀ z∈ws.map (λz=>(([z.1,z.2.1],z.2.2):Zn)),Cr [false] H z:=λz hz'=>by
  obtain ⟨y,hy,rfl⟩:=bw.mp hz';exact ⟨_,k2 y hy,.int _ (.int _ .nil)⟩
 refine Ao I hz2 (by rw [ag];lia) (λQ' k=>IY (Tw lo) (I.ok.hd hc) raw (by rw [ag,ag];exact bD (m:=128) (by lia)) λh' tk acc keep ha=>?_) (λl zs' hn hpm hs=>q l zs' hn (λz hz'=>hz2 z (hpm.mem_iff.mp hz')) ?_ hs)
 ·rw [IZ ha];exact k h' tk keep
 ·refine (hpm.map (·.1)).trans (List.Perm.of_eq ?_);have:=congrArg (List.map λk:List dQ=>k.map λk=>k.elim id λ_=>(0:Int)) k3;rw [bN,bN] at this;rw [bN];exact (this.trans (mi λz _=>rfl)).symm
end
end L2
namespace L2
open PySem PySem.Spec PyProof.Rows PySem.W
section
variable {X:Cx}
def UV (K:aa):List V->Hp->VK->Prop:=λxs H Q=>∃ (p:af) (ns:List Int),xs=[.ref p]/\de K H p (ns.map V.int)/\0<ns.length/\∀ M,M∈ns->(∀ a∈ns,a<=M)->Q (.int M) H
theorem N8 (hc:X.calm=true):oY X (.builtin "max") (UV X.K):=by
 intro pins s Z H xs us Q I r h;obtain ⟨p,ns,rfl,hq,hf,q⟩:=h;obtain ⟨u,rfl,ru⟩:=vals1 r;cases ru;obtain ⟨its,rv,pl,hz⟩:=I.list hq;have hi:fR its ns:=intsAre_of rv;obtain ⟨ys,e⟩:=hi.allInts.items;have hn:=hi.numsOf
 have e':its=(Xg ys).toList:=by rw [← e]
 rw [e',nums_intItems] at hn
 have hl:s.heap.IsList p (Xg ys):=by rw [← e];exact pl.isList
 subst hn;rw [ag,aO] at hf;refine max_intList (I.ok.hd hc) hl hf λv h' tk hv hk=>?_;obtain ⟨t,rfl⟩:=intItems_at hv;obtain ⟨h1,h2⟩:=argBest_gt (numAt ys) (ys.size-1);refine ⟨.int _,H,I.kept hk,⟨t,rfl⟩,q _ ?_ λa ha=>?_⟩
 ·rw [numAt_eq];exact getD_mem (by rw [ag,aO];lia)
 ·obtain ⟨j,hj,rfl⟩:=mem_getD ha;rw [ag,aO] at hj;rw [← numAt_eq];exact h2 j (by lia)
end
end L2
namespace L2
open PySem PySem.Spec PySem.Calls PyProof.Rows PySem.W
def Wu (a:af) (h h':cm):Prop:=∀ b o,b≠a->h.get? b=some o->h'.get? b=some o
section
variable {prog:a9}{w:bQ}{A:bY}{E:aj->ar->Prop}{s:ar}{a:af}{f:aj}{zs:List Zn}{KO:Zn->gi->Prop}
theorem QP {n:Nat}{P:KE->ar->Prop}(ho:s.heap.get? a=some (b9 "list" (zs.map λz:Zn=>aF z.2).toArray n)) (hl:zs.length<128) (one:∀ z∈zs,∀ z'∈zs,z.2=z'.2->z.1=z'.1)
  (turn:∀ z∈zs,∀ (h:cm) (tk:Nat),Wu a s.heap h->∀ R:aj->ar->Prop,(∀ h' tk' k o,(∀ b o,h.get? b=some o->h'.get? b=some o)->h.get? k=none->h'.get? k=some o->KO z o->R (.ref k) { s with heap:=h',toks:=tk' }) ->
   aK (aP prog w) A (call f [.ref z.2]) R (λ_ _=>False) { s with heap:=h,toks:=tk })
  (hkind:∀ z o,KO z o->o.cls=.type "tuple"/\∃ i t xs n,o.data=.seq xs n/\xs[0]?=some (.int i t))
  (hlt:∀ z∈zs,∀ z'∈zs,∀ k k' o o' (h:cm) (tk:Nat),Wu a s.heap h->h.get? k=some o->h.get? k'=some o'->KO z o->KO z' o'->∀ Q:Bool->ar->Prop,Q (gG z.1 z'.1) { s with heap:=h,toks:=tk }->aK (aP prog w) A (keyLt' (Uy true) (.ref k) (.ref k')) Q (λ_ _=>False) { s with heap:=h,toks:=tk })
  (fin:∀ h' tk c (zs':List Zn),Wu a s.heap h'->h'.get? a=some (b9 "list" (zs'.map λz:Zn=>aF z.2).toArray c)->zs'.Perm zs->zs'.Pairwise (λz w=>gG w.1 z.1=false)->P (.done (.ret .none)) { s with heap:=h',toks:=tk }) :
  aK (aP prog w) A (ksk_tree a f false) P E s:=by
 have hz:(zs.map λz:Zn=>aF z.2).length<=aY:=bD (m:=128) (by rw [ag];lia);have sl:1000<=aY:=bD (m:=1000) (au _)
 obtain ⟨c1,g1⟩:∃ c,(s.heap.update a (bC λ_=>(#[]:Array aj))).get? a=some (b9 "list" #[] c):=⟨_,jF ho λ_=>#[]⟩
 unfold ksk_tree;refine ae (yP ho rfl (ae (lA ho rfl (ae (KI g1 rfl (ae (Bi (ae (vL (cF ?_) (aJ _))) hz)))) (by rw [aM];exact hz) (aJ _))));have k2:∀ b o,(s.heap.update a (bC λ_=>(#[]:Array aj))).get? b=some o->(((s.heap.update a (bC λ_=>(#[]:Array aj))).push (b9 "tuple" (zs.map λz:Zn=>aF z.2).toArray 0)).push (b9 "list" #[] 0)).get? b=some o:=λb o e=>ao _ (ao _ e);have gk:(((s.heap.update a (bC λ_=>(#[]:Array aj))).push (b9 "tuple" (zs.map λz:Zn=>aF z.2).toArray 0)).push (b9 "list" #[] 0)).get? ((s.heap.update a (bC λ_=>(#[]:Array aj))).push (b9 "tuple" (zs.map λz:Zn=>aF z.2).toArray 0)).objs.size=some (b9 "list" #[] 0):=aN _ rfl;have kfr:∀ b o,(s.heap.update a (bC λ_=>(#[]:Array aj))).get? b=some o->b≠((s.heap.update a (bC λ_=>(#[]:Array aj))).push (b9 "tuple" (zs.map λz:Zn=>aF z.2).toArray 0)).objs.size:=λb o e=>bf (aL (ao (b9 "tuple" (zs.map λz:Zn=>aF z.2).toArray 0) e));have up:∀ b o,b≠a->s.heap.get? b=some o->(s.heap.update a (bC λ_=>(#[]:Array aj))).get? b=some o:=λb o hb e=>(a0 _ _ (Ne.symm hb)).trans e
 show aK (aP prog w) A (ksk_rest a f false (zs.map λz:Zn=>aF z.2).toArray _ (.ref ((s.heap.update a (bC λ_=>(#[]:Array aj))).push (b9 "tuple" (zs.map λz:Zn=>aF z.2).toArray 0)).objs.size)) _ _ { s with heap:=((s.heap.update a (bC λ_=>(#[]:Array aj))).push (b9 "tuple" (zs.map λz:Zn=>aF z.2).toArray 0)).push (b9 "list" #[] 0) }
 generalize ((s.heap.update a (bC λ_=>(#[]:Array aj))).push (b9 "tuple" (zs.map λz:Zn=>aF z.2).toArray 0)).objs.size=kS at gk kfr;generalize ((s.heap.update a (bC λ_=>(#[]:Array aj))).push (b9 "tuple" (zs.map λz:Zn=>aF z.2).toArray 0)).push (b9 "list" #[] 0)=h2 at k2 gk;have hak:a≠kS:=kfr a _ g1;have g2:=k2 _ _ g1;have kp2:Wu a s.heap h2:=λb o hb e=>k2 _ _ (up b o hb e);have nk:∀ b o,b≠a->s.heap.get? b=some o->b≠kS:=λb o hb e=>kfr b o (up b o hb e);generalize s.heap.update a (bC λ_=>(#[]:Array aj))=hx at k2 kfr up g1;unfold ksk_rest;refine ae (iM ?_);rw [List.forIn_toArray]
 -- the keys
 have KU:∀ (r done:List Zn) (ks:List af) (e:Nat) (h:cm) (tk:Nat) (R:ar->Prop),done++r=zs->Wu a s.heap h->h.get? a=some (b9 "list" #[] c1)->h.get? kS=some (b9 "list" (ks.map aF).toArray e)->Paired (λ(z:Zn) (k:af)=>∃ o,h.get? k=some o/\KO z o/\k≠kS/\k≠a) done ks ->
   (∀ ks' e' h' tk',Wu a s.heap h'->h'.get? a=some (b9 "list" #[] c1)->h'.get? kS=some (b9 "list" (ks'.map aF).toArray e')->Paired (λ(z:Zn) (k:af)=>∃ o,h'.get? k=some o/\KO z o/\k≠kS/\k≠a) zs ks'->R { s with heap:=h',toks:=tk' }) ->
   aK (aP prog w) A (forIn (r.map λz:Zn=>aF z.2) PUnit.unit λx _=>do
    match ← (call f [x]).attempt with
    | .ok k=>gO (.ref kS) (·.push k);pure (jS PUnit.unit)
    | .error e =>
     DS "list.sort.key-raised"
     let made ← rL (.ref kS)
     gO (.ref kS) λ_=>#[]
     letGo made.toList.reverse [e]
     gO (.ref a) λ_=>(zs.map λz:Zn=>aF z.2).toArray;throw e) (λ_ s'=>R s') E { s with heap:=h,toks:=tk }:=by
  intro r
  induction r with
  | nil =>
   intro done ks e h tk R hr kp ga gS rel q;rw [vF] at hr;subst hr;rw [vk,Ie]
   exact aq (q ks e h tk kp ga gS rel)
  | cons z r ih =>
   intro done ks e h tk R hr kp ga gS rel q;rw [bT,vH]
   have hlen:ks.length<128:=by
    have:=congrArg df hr;rw [bq,bV,← wF rel] at this;lia
   refine ae (ae (i4 (dZ (turn z (by rw [← hr];simp) h tk kp _ λh' tk' k o keep kn hk ko=>?_) (λ_ _ x=>x) λ_ _ x=>x.elim)))
   have kkS:k≠kS:=λq=>by rw [q,gS] at kn;cases kn
   have kka:k≠a:=λq=>by rw [q,ga] at kn;cases kn
   have gS':=keep _ _ gS
   have ea:(ks.map aF).toArray.push (.ref k)=((ks++[k]).map aF).toArray:=by simp
   obtain ⟨c2,g3⟩:∃ c2,(h'.update kS (bC (·.push (.ref k)))).get? kS=some (b9 "list" ((ks++[k]).map aF).toArray c2):=⟨_,by rw [← ea];exact jF gS' (·.push (.ref k))⟩
   have ot:∀ {b:af}{o:gi},b≠kS->h'.get? b=some o->(h'.update kS (bC (·.push (.ref k)))).get? b=some o:=λhb e=>(a0 _ _ (Ne.symm hb)).trans e;refine ae (lA gS' rfl (aq ?_) (by rw [aM,ag];lia) (by rw [jf,aM,ag];lia));refine ih (done++[z]) (ks++[k]) c2 _ tk' R (by rw [← hr];simp) (λb o hb e=>ot (nk b o hb e) (keep _ _ (kp b o hb e))) (ot hak (keep _ _ ga)) g3 ?_ q;refine An ⟨o,ot kkS hk,ko,kkS,kka⟩ (Paired.Ou rel λz' k' ⟨o',e1,e2,e3,e4⟩=>⟨o',ot e3 (keep _ _ e1),e2,e3,e4⟩)
 refine ae (KU zs [] [] 0 h2 s.toks _ rfl kp2 g2 gk .nil λks e h tk kp ga gS rel=>?_);refine ae (yP gS rfl ?_);have hkl:=wF rel
 -- the end
 have tail:∀ st:dW,jK st=none->∀ zs':List Zn,(pO st).map (·.2)=(zs'.map λz:Zn=>aF z.2).toArray->zs'.Perm zs->zs'.Pairwise (λz w=>gG w.1 z.1=false)->aK (aP prog w) A (ksk_tail a false c1 (.ref kS) st) P E { s with heap:=h,toks:=tk }:=λst hf zs' eo hp hs=>by
  obtain ⟨c3,g3⟩:∃ c3,(h.update kS (bC λ_=>(#[]:Array aj))).get? kS=some (b9 "list" #[] c3):=⟨_,jF gS λ_=>#[]⟩
  have ga':(h.update kS (bC λ_=>(#[]:Array aj))).get? a=some (b9 "list" #[] c1):=(a0 _ _ (Ne.symm hak)).trans ga
  obtain ⟨c4,g4⟩:∃ c4,((h.update kS (bC λ_=>(#[]:Array aj))).update a (bC λ_=>(zs'.map λz:Zn=>aF z.2).toArray)).get? a=some (b9 "list" (zs'.map λz:Zn=>aF z.2).toArray c4):=⟨_,jF ga' λ_=>(zs'.map λz:Zn=>aF z.2).toArray⟩
  unfold ksk_tail
  try dsimp only
  rw [eo];simp only [bX,if_false];refine ae (lA gS rfl (ae (KG (ae (KI ga' rfl (ae (lA ga' rfl ?_ (aJ _) (by rw [aM,ag,hp.length_eq];lia))))))) (by rw [aM,ag];lia) (aJ _));rw [hf];simp only [bne_self_eq_false,bX,if_false];exact aq (fin _ tk c4 zs' (λb o hb e=>(a0 _ _ (Ne.symm hb)).trans ((a0 _ _ (Ne.symm (nk b o hb e))).trans (kp b o hb e))) g4 hp hs)
 have zip2:((ks.map aF).toArray.zip (zs.map λz:Zn=>aF z.2).toArray).map (·.2)=(zs.map λz:Zn=>aF z.2).toArray:=by
  apply lO.mp
  simp;exact Vn (by simp [hkl])
 unfold ksk_end;simp only [bX,if_false]
 by_cases h2':zs.length<2
 ·rw [if_pos (by rw [aM,ag];exact h2'),if_pos (by rw [aM,ag];exact h2')];refine ae (aq ?_);rw [UA];refine ae (aq (tail _ rfl zs zip2 (.refl _) ?_))
  match zs,h2' with
  | [],_=>exact .nil
  | [z],_=>exact tW _ _
  | z::w::r,h2=>simp at h2;lia
 ·rw [if_neg (by rw [aM,ag];exact h2'),if_neg (by rw [aM,ag];exact h2')]
  have kt:∀ {zs:List Zn}{ks:List af},Paired (λ(z:Zn) (k:af)=>∃ o,h.get? k=some o/\KO z o/\k≠kS/\k≠a) zs ks->∃ fs,KatTups h (ks.map aF) fs/\fs.length=zs.length/\∀ v∈fs,∃ i t,v=ij i t:=by
   intro zs ks rel
   induction rel with
   | nil=>exact ⟨[],.nil,rfl,λ_ h=>nomatch h⟩
   | cons r _ ih =>
    obtain ⟨fs,f1,f2,f3⟩:=ih;obtain ⟨o,e1,e2,_⟩:=r;obtain ⟨cc,i,t,xs,n,d,d0⟩:=hkind _ o e2;refine ⟨.int i t::fs,Xe e1 cc d d0 f1,by simp [f2],λv hv=>?_⟩
    rcases ax.mp hv with rfl|hv
    ·exact ⟨_,t,rfl⟩
    ·exact f3 v hv
  obtain ⟨fs,f1,f2,f3⟩:=kt rel;refine ae (kat_kind (T:=.type "int") f1 (by lia) (λv hv=>by obtain ⟨i,t,rfl⟩:=f3 v hv;exact Looks.now) rfl ?_);rw [show (dM "int" != dM "tuple")=true by decide]
  have mz:∀ x∈((ks.map aF).toArray.zip (zs.map λz:Zn=>aF z.2).toArray).toList,∃ z∈zs,∃ k o,x=(aF k,aF z.2)/\h.get? k=some o/\KO z o:=λx hx=>by
   rw [DU] at hx;obtain ⟨i,hi⟩:=bF.mp hx;obtain ⟨x1,x2⟩:=x;rw [sA] at hi;obtain ⟨q1,q2⟩:=hi;simp only [aD] at q1 q2;obtain ⟨z,z1,z2⟩:=bx.mp q2;obtain ⟨k,k1,k2⟩:=bx.mp q1;obtain ⟨k',k3,o,e1,e2,_⟩:=Ct rel i z z1;rw [k1] at k3;cases k3;exact ⟨z,aW z1,k,o,by rw [← k2,← z2],e1,e2⟩
  refine ae (dZ (Sy.w_runs (prog:=prog) (w:=w) (A:=A) (E:=E) (s:={ s with heap:=h,toks:=tk }) (a₀:=(ks.map aF).toArray.zip (zs.map λz:Zn=>aF z.2).toArray) (D:=λx=>∃ z∈zs,∃ k o,x=(aF k,aF z.2)/\h.get? k=some o/\KO z o) (r:=λx=>UU zs x.2) (κ:=Uy true)
   (Q:=λ_ st'=>∃ ys,pO st'=ys/\jK st'=none/\ys.Perm ((ks.map aF).toArray.zip (zs.map λz:Zn=>aF z.2).toArray)/\Sy.St (λx=>UU zs x.2) ys 0 ys.size) ?_ mz (by simp [hkl];lia) (by simp [hkl];lia) λys st' a1 a2 a3 a4=>⟨ys,a1,a2,a3,a4⟩) ?_ λ_ _ x=>x)
  ·rintro x y ⟨z,hz1,k,o,rfl,e1,e2⟩ ⟨z',hz2,k',o',rfl,e3,e4⟩ Q hQ;refine hlt z hz1 z' hz2 k k' o o' h tk kp e1 e3 e2 e4 Q ?_;have hQ:Q (decide (UU zs (.ref z.2)<UU zs (.ref z'.2))) _:=hQ;rw [uc one hz1,uc one hz2,xV (bp hz1)] at hQ;exact hQ
  ·rintro ⟨⟨⟩,st'⟩ s' ⟨rfl,ys,e,hf,hp,hs⟩;have hp':=(fY.mp hp).map (·.2);rw [← oS,← oS,zip2] at hp';obtain ⟨zs',p',e'⟩:=Sy.perm_map hp'.symm zs rfl;rw [oS] at e';refine tail st' hf zs' (by rw [e];apply lO.mp;simpa using e') p' ?_;have hs':=(cS (f:=λx:aX=>x.2) (R:=λx y=>UU zs x<=UU zs y)).mpr (Sy.pw_of hs);rw [show List.map (λx:aX=>x.2) ys.toList=zs'.map λz=>aF z.2 from e'] at hs';refine (cS.mp hs').imp_of_mem λ{z w} hz1 hw z2=>?_;have a1:=p'.mem_iff.mp hz1;have a2:=p'.mem_iff.mp hw
   cases e:gG w.1 z.1 with
   | false=>rfl
   | true =>
    rw [← xV (ts:=zs.map (·.1)) (bp a2),decide_eq_true_iff] at e;rw [uc one a1,uc one a2] at z2;lia
end
def Lk (Pt:af) (pos:oZ) (qual:bu) (j:Nat) (tx:TA):TE:=λZ H Q=>tx Z H λv H1 =>
 ∃ (p d:af) (zs:List Zn) (OT:List (List dQ×V)),v=[.ref p]/\H1 p=some (.lst (zs.map qc))/\Z[j]?=some (some (.ref d))/\H1 d=some (.dT OT)/\(∀ z∈zs,∃ w x y:Int,z.1=[w,x,y]/\H1 z.2=some (.tup [.int x,.int y])/\eV OT [aZ x,aZ y]=some (.int w))/\zs.length<128/\Mq Pt pos qual H1 /\
  ∀ (l:af) (zs':List Zn) (H2:Hp),H2 l=none->IS Pt H1 H2->Mq Pt pos qual H2->zs'.Perm zs->zs'.Pairwise (λz w=>gG w.1 z.1=false)->Q (.ref l) (upd H2 l (.lst (zs'.map qc)))
theorem GA {prog:a9}{w:bQ}{A:bY}{E:aj->ar->Prop}{s:ar}{l:af}{vs:List aj}{Q:List aj->ar->Prop}(hl:s.heap.IsList l vs.toArray) (hn:vs.length<=aY)
  (q:∀ h' tk,(∀ b o,s.heap.get? b=some o->h'.get? b=some o)->Q vs { s with heap:=h',toks:=tk }):aK (aP prog w) A (HU (.ref l)) Q E s:=by
 refine collect_list hl (q _ _ λb o e=>?_) (by simpa using hn);have hlt:b<s.heap.objs.size:=aL e;rw [Heap.get?_update_ne _ _ _ _ (bf hlt),Heap.get?_push_ne _ _ _ (bf hlt)];exact e
section
variable {X:Cx}{c Pt:af}{e:Expr}{tx:TA}{x y:bu}{j:Nat}{params:qG}{scope:lh}{p0 p1 p2 p3 p4 p5 lpos kpos pos:oZ}{x1:Nat}
theorem QQ (hcalm:X.calm=true) (hcode:X.env.code=.ref c) (C0:pI X.base c Pt) (B:X.base.BuiltinsAt X.mg Pt) (hroom:X.A.depth<Bd) (hun:X.A.units+128<ju)
  (hgl:Gl X "sorted") (hm:X.mg "sorted"=none) (hx:PA X [e] tx) (hN:X.N[j]?=some y) (hky:X.env.kindOf y=some .cell)
  (hs:jx pos (bR [e] X.env)=(false,gM e X.env)::jx pos (bR [] X.env):=by rfl) (hpl:(jx pos (bR [e] X.env)).any (·.1)=false:=by rfl)
  (hdef:defaultsOf params X.env=([],[]):=by rfl)
  (hbind:∀ clos pm sr ctv v,HN (kla_fn "<lambda>" (X.env.qual++"<lambda>") params (.Tuple [.Subscript (.Name y p1) (.Name x p2) p3,.Name x p4] x1 p5) scope clos pm sr ctv) ⟨[v],[]⟩=pure [(x,v)]:=by intros;rfl)
  (hsx:scope.names.lookup x=some .local:=by rfl) (hsy:scope.names.lookup y=some .free:=by rfl) (hk:scope.kind=.function:=by rfl) (hco:scope.isCoroutine=false:=by rfl) (hgen:scope.isGenerator=false:=by rfl) (hcell:∀ z∈scope.names,z.2≠.cell:=by decide +kernel)
  (hfr:(scope.names.all λy=>y.2 != .free || X.env.kindOf y.1 == some .cell || X.env.kindOf y.1 == some .free)=true:=by rfl)
  (hdx:(x == ("__debug__":bu))=false:=by decide) (hdy:(y == ("__debug__":bu))=false:=by decide) (hdc:(y == ("__classdict__":bu))=false:=by decide) :
  PE X (.Call (.Name "sorted" p0) [e] [⟨some "key",.Lambda params (.Tuple [.Subscript (.Name y p1) (.Name x p2) p3,.Name x p4] x1 p5) scope lpos,kpos⟩] pos) (Lk Pt lpos (X.env.qual++"<lambda>") j tx):=by
 intro pins s Z H Q I h;refine eW (pU I hgl hm (u:=.builtin "sorted") BootT.sF ?_);refine callWith_kw ?_ hs hpl;refine iG (hx pos pins s Z H _ I h) λus s1 ⟨vs,H1,I1,rv,q⟩=>?_;obtain ⟨p,d,zs,OT,rfl,hp,hj,hd,hkv,h64,hT,k⟩:=q;obtain ⟨u,rfl,ru⟩:=vals1 rv;cases ru
 show aK _ X.A (evalAll [do let v ← gM _ X.env;BA pos;pure v]) _ _ s1
 refine wpAny_evalAll_cons (ae (P0 I1 hcode C0 B hdef (xP I1 hfr) hT λf c' ctv h' tk H2 I2 hf hrec S2 T2 hk2=>ae (vD (aq (wpAny_evalAll_nil ?_)))));obtain ⟨ps,hPt⟩:=hT.tbl;have hp2:=S2 p _ (λz=>by rw [z,hPt] at hp;cases hp) hp;have hd2:=S2 d _ (λz=>by rw [z,hPt] at hd;cases hd) hd
 have k2:∀ z∈zs,∃ w x y:Int,z.1=[w,x,y]/\H2 z.2=some (.tup [.int x,.int y])/\eV OT [aZ x,aZ y]=some (.int w):=λz hz=>by
  obtain ⟨w,x,y,e1,e2,e3⟩:=hkv z hz;exact ⟨w,x,y,e1,S2 _ _ (λz=>by rw [z,hPt] at e2;cases e2) e2,e3⟩
 obtain ⟨its,n1,rp,op,zp⟩:=I2.lst hp2;have hits:=Cs rp;subst hits;have hh:X.A.handled=none:=I2.ok.hd hcalm;obtain ⟨my,hny,hlk⟩:=I2.loc;obtain ⟨uy,ruy,lky⟩:=hlk j y (.ref d) hN hj (.inr (.inl hky));cases ruy
 obtain ⟨cl,hcl,hcv⟩:∃ cl,X.env.cells.lookup y=some cl/\h'.IsCell cl (some (.ref d)):=by
  rcases lky with ⟨z,_⟩|⟨_,cl,h1,h2⟩
  ·rw [hky] at z;cases z
  ·exact ⟨cl,h1,h2⟩
 have hclo:(qF X.env.cells scope.names []).lookup y=some cl:=by
  obtain ⟨d,hd⟩:=xM (cells:=X.env.cells) (x:=y) scope.names [] (.inl (mem_of_lookup hsy));have hd':=(l9 _ _ (xP I1 hfr) hd).resolve_right (by simp);rw [hcl] at hd';rw [hd,← hd']
 have un2:X.A.in1.in1.units+3+64<ju:=by show X.A.units+1+1+3+64<_;lia
 have one:∀ z∈zs,∀ z'∈zs,z.2=z'.2->z.1=z'.1:=λz hz z' hz' e=>by
  obtain ⟨w1,x1,y1,e1,e2,e3⟩:=k2 z hz;obtain ⟨w2,x2,y2,f1,f2,f3⟩:=k2 z' hz';rw [e,f2] at e2;cases e2;rw [e3] at f3;cases f3;rw [e1,f1]
 have turn:∀ z∈zs,∀ (h:cm) (tk':Nat),(∀ b o,h'.get? b=some o->h.get? b=some o)->∀ R:aj->ar->Prop,
   (∀ h3 tk3 k o,(∀ b o,h.get? b=some o->h3.get? b=some o)->h.get? k=none->h3.get? k=some o->(∃ t,o=Ji z t)->R (.ref k) { s1 with heap:=h3,toks:=tk3 })->aK (aP X.prog X.w) X.A.in1.in1 (call (.ref f) [.ref z.2]) R (λ_ _=>False) { s1 with heap:=h,toks:=tk' }:=by
  intro z hz h tk' kk R hR;obtain ⟨ww,xx,yy,ez,hzt,hzw⟩:=k2 z hz;have J:Inv X pins Z H2 { s1 with heap:=h,toks:=tk' }:=I2.kept kk;refine N3 (s:={ s1 with heap:=h,toks:=tk' }) (by exact hroom) (kk f _ hf) ?_ (I2.mod.nolimit.keeps λb o e=>kk b o (I2.bk b o e)) (hbind _ _ _ _ _) hsx hk hco hgen hcell λenv h3 tk3 E' q1 q2 q3 hns hk3=>?_
  ·obtain ⟨c2,o2,vs2,t2',e2,h2,d2⟩:=hrec;cases e2;exact ⟨c',o2,vs2,t2',rfl,kk _ _ h2,d2⟩
  ·refine Qz (s:={ s1 with heap:=h,toks:=tk' }) (H:=H2) (d:=d) (cl:=cl) (k:=[aZ xx,aZ yy]) (J.fD.kept hk3) (by rw [q1];exact hk) (by rw [q1];exact hsx) (by rw [q1];exact hsy) hns (by rw [q2];exact hclo) ?_ hd2 hzt hzw un2 (λt tk4=>?_) hdx hdy hdc
   ·obtain ⟨o,e,d⟩:=hcv;exact ⟨o,hk3 _ _ (kk _ _ e),d⟩
   ·refine hR _ tk4 _ _ (λb o e=>ao _ (hk3 b o e)) ?_ (aN _ rfl) ⟨t,by unfold Ji;rw [ez];rfl⟩
    cases q:h.get? h3.objs.size with
    | none=>rfl
    | some o=>exact absurd (aL (hk3 _ _ q)) (fu _)
 have hzl:(zs.map λz=>aF z.2).length<=aY:=bD (m:=128) (by rw [ag];lia);refine call_function_entry_kw Xd Uw Ux (ksk_s1 _ _) ?_;unfold kg.«sorted»;refine ae (m:=checkCount "sorted" 1 1 _) (aq (ae (GA (s:={ s1 with heap:=h',toks:=tk }) ⟨_,op,rfl,n1,rfl⟩ hzl λh3 tk3 keep3=>?_)));refine ae (vL ?_ hzl);have g4:(h3.push (b9 "list" (zs.map λz=>aF z.2).toArray 0)).get? h3.objs.size=some (b9 "list" (zs.map λz=>aF z.2).toArray 0):=aN _ rfl;have hb:∀ b o,h'.get? b=some o->b≠h3.objs.size:=λb o e=>bf (aL (keep3 b o e));have k4:∀ {h:cm},Wu h3.objs.size (h3.push (b9 "list" (zs.map λz=>aF z.2).toArray 0)) h->∀ b o,h'.get? b=some o->h.get? b=some o:=λk b o e=>k b o (hb b o e) (ao _ (keep3 b o e))
 have gD:h'.get? h3.objs.size=none:=by
  cases q:h'.get? h3.objs.size with
  | none=>rfl
  | some o=>exact absurd rfl (hb _ o q)
 show aK (aP X.prog X.w) X.A.in1 (do let _ ← nU [aF h3.objs.size] (call (.builtin "list.sort") [aF h3.objs.size] _);ret (aF h3.objs.size)) _ _ { s1 with heap:=h3.push (b9 "list" (zs.map λz=>aF z.2).toArray 0),toks:=tk3 }
 refine ae (cF (wpAny_call_entry_kw ON ⟨_,g4,rfl⟩ MB ?_ (ksk_l1 _ _)))
 show aK (aP X.prog X.w) X.A.in1.in1 (kg.«list.sort» ⟨[.ref h3.objs.size],[(iN "key",.ref f)]⟩) _ _ _
 rw [ksk_t1]
 refine QP (s:={ s1 with heap:=h3.push (b9 "list" (zs.map λz=>aF z.2).toArray 0),toks:=tk3 }) (KO:=λz o=>∃ t,o=Ji z t) g4 h64 one (λz hz h tk' kp R hR=>turn z hz h tk' (k4 kp) R hR) ?_ ?_ λh7 tk7 c7 zs' kp g7 hperm hsort=>⟨_,rfl,aq ⟨_,rfl,?_⟩⟩
 ·rintro z o ⟨t,rfl⟩;exact ⟨rfl,_,t,_,0,rfl,rfl⟩
 ·rintro z hz z' hz' k k' o o' h tk' kp g g' ⟨t,rfl⟩ ⟨t',rfl⟩ Q' hQ
  have tie:∀ z∈zs,∃ v x y t u,z.1=[v,x,y]/\xi h z.2 #[.int x t,.int y u]:=λz hz=>by
   obtain ⟨ww,xx,yy,ez,hzt,hzw⟩:=k2 z hz;obtain ⟨ts,r,it,_⟩:=I2.tuple (.of hzt)
   cases r with
   | cons h1 r =>
    cases r with
    | cons h2 r =>
     cases r;obtain ⟨t,rfl⟩:=h1;obtain ⟨u,rfl⟩:=h2;obtain ⟨o,e,rest⟩:=it;exact ⟨ww,xx,yy,t,u,ez,o,k4 kp _ o e,rest⟩
  obtain ⟨v1,x1,y1,ta,tb,z1,b1⟩:=tie z hz;obtain ⟨v2,x2,y2,tc,td,z2,b2⟩:=tie z' hz';rw [z1,z2] at hQ;refine TH (s:={ s1 with heap:=h,toks:=tk' }) (w1:=v1) (w2:=v2) ⟨_,g,rfl,0,by unfold Ji;rw [z1];rfl⟩ ⟨_,g',rfl,0,by unfold Ji;rw [z2];rfl⟩ b1 b2 (by show X.A.units+1+1<_;lia) hQ
 ·obtain ⟨hn,I3⟩:=I2.U9 (t':=tk7) (o:=.lst (zs'.map qc)) (k4 kp) gD ⟨by rw [ag,hperm.length_eq];exact bD (m:=128) (by lia),_,c7,wD zs',g7⟩;exact ⟨.ref h3.objs.size,_,I3,rfl,k h3.objs.size zs' H2 hn S2 T2 hperm hsort⟩
end
end L2
namespace L2
theorem ni {K:aa}{ta:TE}{f:bu}{Z:St}{H:Hp}{Q:VK}(h:ta Z H λx H1=>∃ a C dx fs v,x=.ref a/\H1 a=some (.ins C dx fs)/\DX K C/\dY K C f/\fs.lookup f=some v/\Q v H1):fS K ta f Z H Q:=h
theorem qU {C:af}{m:bu}{sp:Sp}{dvs:List V}{E:XK}{ta:TE}{t:TA}{Z:St}{H:Hp}{Q:VK}(h:ta Z H λx H1=>∃ a dx fs,x=.ref a/\H1 a=some (.ins C dx fs)/\fs.lookup m=none/\t Z H1 λvs H2=>sp (x::(vs++dvs)) H2 Q E):fh C m sp dvs E ta t Z H Q:=h
section
variable {K:aa}{mg:bu->Option aj}{x q:bu}{C:af}{st:dU}{ps:List bu}{CX:Kx}{k:Nat}{sp:Sp}
def vC.pC (d:vC K mg x st ps) (P:a9) (w:bQ) (base:cm) (h:dF P w K mg base CX k d.f d.d ps sp):rR P w K mg base CX k x ps sp:=⟨d.f,d.d,h,d.m,d.F.kp,d.b⟩
def mT.pC (d:mT K C x q st ps) (P:a9) (w:bQ) (base:cm) (h:dF P w K mg base CX k d.f d.d ps sp):lG P w K mg base CX k C x ps sp:=⟨d.f,d.d,h,⟨d.a,d.i,d.F.kp⟩,d.b⟩
def mT.WS (d:mT K C "__init__" q st ps) (P:a9) (w:bQ) (base:cm) (mk:mh K C=true) (kc:fg K (.ref C)=true) (h:dF P w K mg base CX k d.f d.d ps sp):TC P w K mg base CX k C ps sp:=⟨d.f,d.d,h,⟨mk,d.a,d.i,kc⟩,d.b⟩
theorem lZ.oj {P:a9}{w:bQ}{base:cm}{f:af}{fd:fB}{N:List bu}{t:TS}(F:lZ K x q st f fd) (S:bU N ps (bg st)) (len:∀ vs H Q E,sp vs H Q E->vs.length=ps.length) (run:∀ vs H Q E,sp vs H Q E->t { nx:=λ_ H'=>Q .non H',rt:=Q } (start N vs) H)
  (b:∀ (sr:aj) (A:bY) (outer:List Ia) (s:ar) (H:Hp) (E:XK),kT k (A.deeper (yL q (bg st) s.heap.objs.size f sr))->Mm (IA eN P w K mg base N q (bg st) f sr A outer s H E).WW (mD st) t):dF P w K mg base eN (k+1) f fd ps sp :=
 F.ok S len λsr A outer s H vs Q E hr h=>⟨t,b sr A outer s H E hr,run vs H Q E h⟩
end
section
variable {X:Cx}{pos:oZ}{i:Nat}{x:bu}
theorem eh {e:Expr}{te:TE}{pos':oZ}(hN:X.N.Nodup) (he:PE X e te) (hi:X.N[i]?=some x:=by rfl) (hx:Loc X.env.scope x:=by exact .inl rfl) (hs:Kn e (some (.Name x pos')) pos.line X.env=pure false:=by rfl) (hf:X.fn x=true\/X.env.scope.names.lookup x=some .local:=by first|exact .inl rfl|exact .inr rfl|assumption):PS X (.Assign [.Name x pos'] e pos) (eO te (bJ i)):=KL hN hi hx he hs hf
theorem eS (hN:X.N.Nodup) (hi:X.N[i]?=some x:=by rfl) (hx:Loc X.env.scope x:=by exact .inl rfl) (hf:X.fn x=true\/X.env.scope.names.lookup x=some .local:=by first|exact .inl rfl|exact .inr rfl|assumption):PG X (.Name x pos) (bJ i):=SJ hN hi hx hf
end
end L2
namespace Rm
variable {f:Nat->Int}{m:Nat}{r:List Int}
def tn {α:Type} (r:List α) (k:Nat):List α:=r.drop k++(r.drop 1).take k
theorem QR {k:Nat}(hk:k<r.length):(tn r k).length=r.length:=by
 unfold tn;rw [bq,cQ,bO,cQ];lia
theorem TV:tn r 0=r:=by simp [tn]
theorem Ll {a:Int}(h:a∈r):r.idxOf a<r.length:=hU.mpr h
end Rm
namespace Rm
section
variable {n:Nat}{v par:Nat->Nat}
end
end Rm
namespace Rm
def al:List Int->List (Int×Int)
 | []=>[]
 | [_]=>[]
 | a::b::r=>(a,b)::al (b::r)
theorem Lm:∀ r:List Int,al r=r.zip (r.drop 1)
 | []=>rfl
 | [_]=>rfl
 | a::b::r=>by
  have:=Lm (b::r);simp only [List.drop_succ_cons,Ic] at this ⊢;rw [kh,← this];rfl
theorem mG:∀ (xs:List Int) (x:Int) (ys:List Int),al (xs++x::ys)=al (xs++[x])++al (x::ys)
 | [],x,ys=>rfl
 | [a],x,ys=>rfl
 | a::b::xs,x,ys=>by
  have:=mG (b::xs) x ys
  show (a,b)::al ((b::xs)++x::ys)=(a,b)::al ((b::xs)++[x])++al (x::ys)
  rw [this];rfl
theorem hV:∀ {r:List Int}{x y:Int},(x,y)∈al r->x∈r/\y∈r
 | a::b::r,x,y,h=>by
  rcases ax.mp h with e|h
  ·cases e;simp
  ·have:=hV h;exact ⟨ak _ this.1,ak _ this.2⟩
theorem Lo:∀ r:List Int,(al r).length=r.length-1
 | []=>rfl
 | [_]=>rfl
 | a::b::r=>by
  have:=Lo (b::r);simp only [al,bV] at this ⊢;lia
structure nM (r:List Int):Prop where
 ne:r≠[]
 cnt:∃ ds:List Int,ds.Nodup/\(∀ x,x∈ds↔x∈r)/\r.length+1=2*ds.length
 ends:r.head?=r.getLast?
 nd:(al r).Nodup
 sym:∀ x y,(x,y)∈al r->(y,x)∈al r
theorem nM.one (a:Int):nM [a]:=⟨by simp,⟨[a],by simp,by simp,rfl⟩,rfl,by simp [al],λx y h=>by simp [al] at h⟩
theorem nM.RR {A B:List Int}{z:Int}(h:nM (A++z::B)) (hA:z∉A) (hB:z∉B) (hn:A++B≠[]):∃ A' w B',A=A'++[w]/\B=w::B':=by
 have he:=h.ends
 have hAne:A≠[]:=λe=>by
  subst e;simp only [List.nil_append,Xk] at he hn
  rcases gC B with e|⟨us,u,e⟩
  ·exact hn e
  ·rw [gE] at e;subst e;rw [show z::(us++[u])=(z::us)++[u] by simp,cO] at he;simp at he;subst he;exact hB (by simp)
 have hBne:B≠[]:=λe=>by
  subst e;rw [cO] at he;simp at he
  cases A with
  | nil=>exact hAne rfl
  | cons a A =>
   simp at he;subst he;exact hA (by simp)
 obtain ⟨A',w,e⟩:∃ A' w,A=A'++[w]:=by
  rcases gC A with e|⟨us,u,e⟩
  ·exact absurd e hAne
  ·exact ⟨us,u,by rw [e,gE]⟩
 subst e
 cases B with
 | nil=>exact absurd rfl hBne
 | cons v B' =>
  refine ⟨A',w,B',rfl,?_⟩
  have e1:al (A'++[w]++z::v::B')=al (A'++[w])++((w,z)::(z,v)::al (v::B')):=by
   rw [dg,OO,mG];rfl
  have m:=h.sym w z (by rw [e1];simp);rw [e1] at m
  rcases aQ.mp m with m|m
  ·exact absurd (hV m).1 hA
  ·rcases ax.mp m with m|m
   ·cases m;exact absurd (by simp) hA
   ·rcases ax.mp m with m|m
    ·cases m;rfl
    ·exact absurd (hV m).1 hB
theorem QS (xs ys:List Int) (w z:Int):(al (xs++w::z::w::ys)).Perm ((w,z)::(z,w)::al (xs++w::ys)):=by
 rw [mG,mG xs w ys]
 show (al (xs++[w])++([(w,z),(z,w)]++al (w::ys))).Perm ([(w,z),(z,w)]++(al (xs++[w])++al (w::ys)))
 rw [← dg,← dg];exact List.Perm.append_right _ gB
theorem Cw (xs ys:List Int) (w z:Int):(xs++w::z::w::ys).head?=(xs++w::ys).head?/\(xs++w::z::w::ys).getLast?=(xs++w::ys).getLast?:=by
 constructor
 ·cases xs<;>simp
 ·cases ys with
  | nil=>simp [cO]
  | cons y ys=>simp [cO,m6]
theorem nM.Oq {xs ys:List Int}{w z:Int}(h:nM (xs++w::z::w::ys)) (hz:z∉xs++w::ys):nM (xs++w::ys):=by
 have hp:=QS xs ys w z;have nd:=hp.nodup_iff.mp h.nd;have nd2:=(bA.mp nd).2;refine ⟨by simp,?_,?_,(bA.mp nd2).2,λx y hxy=>?_⟩
 ·obtain ⟨ds,h1,h2,h3⟩:=h.cnt;have hzd:z∈ds:=(h2 z).mpr (by simp);refine ⟨ds.erase z,h1.erase z,λx=>?_,?_⟩
  ·rw [h1.mem_erase_iff,h2]
   constructor
   ·rintro ⟨h4,h5⟩;simp at h5 ⊢
    rcases h5 with h5|h5|h5|h5|h5
    ·exact .inl h5
    ·exact .inr (.inl h5)
    ·exact absurd h5 h4
    ·exact .inr (.inl h5)
    ·exact .inr (.inr h5)
   ·intro h5;refine ⟨λe=>hz (e▸h5),?_⟩;simp at h5 ⊢
    rcases h5 with h5|h5|h5
    ·exact .inl h5
    ·exact .inr (.inl h5)
    ·exact .inr (.inr (.inr (.inr h5)))
  ·rw [KJ hzd];have:0<ds.length:=nY hzd;simp at h3 ⊢;lia
 ·have:=Cw xs ys w z;rw [← this.1,← this.2];exact h.ends
 ·have hm:=hp.mem_iff.mp (h.sym x y (hp.mem_iff.mpr (ak _ (ak _ hxy))))
  rcases ax.mp hm with e|hm
  ·cases e;exact absurd (hV hxy).1 hz
  ·rcases ax.mp hm with e|hm
   ·cases e;exact absurd (hV hxy).2 hz
   ·exact hm
theorem nM.put {xs ys:List Int}{w z:Int}(h:nM (xs++w::ys)) (hz:z∉xs++w::ys):nM (xs++w::z::w::ys):=by
 have hp:=QS xs ys w z;have hwz:w≠z:=λe=>hz (by simp [e]);refine ⟨by simp,?_,?_,hp.nodup_iff.mpr ?_,λx y hxy=>?_⟩
 ·obtain ⟨ds,h1,h2,h3⟩:=h.cnt;refine ⟨z::ds,bA.mpr ⟨λhm=>hz ((h2 z).mp hm),h1⟩,λx=>?_,?_⟩
  ·rw [ax,h2];simp
   constructor
   ·rintro (h|h|h|h)
    ·exact .inr (.inr (.inl h))
    ·exact .inl h
    ·exact .inr (.inl h)
    ·exact .inr (.inr (.inr (.inr h)))
   ·rintro (h|h|h|h|h)
    ·exact .inr (.inl h)
    ·exact .inr (.inr (.inl h))
    ·exact .inl h
    ·exact .inr (.inr (.inl h))
    ·exact .inr (.inr (.inr h))
  ·simp at h3 ⊢;lia
 ·have:=Cw xs ys w z;rw [this.1,this.2];exact h.ends
 ·refine bA.mpr ⟨λhm=>?_,bA.mpr ⟨λhm=>hz (hV hm).1,h.nd⟩⟩
  rcases ax.mp hm with e|hm
  ·exact hwz (by cases e;rfl)
  ·exact hz (hV hm).2
 ·refine hp.mem_iff.mpr ?_
  rcases ax.mp (hp.mem_iff.mp hxy) with e|hm
  ·cases e;simp
  ·rcases ax.mp hm with e|hm
   ·cases e;simp
   ·exact ak _ (ak _ (h.sym x y hm))
theorem sH:∀ {ds r:List Int},ds.Nodup->(∀ x∈r,x∈ds)->(ds.map λd=>r.count d).sum=r.length
 | ds,[],h1,h2=>by
  have:(ds.map λd=>([]:List Int).count d)=ds.map λ_=>0:=by simp
  rw [this]
  clear this h1 h2
  induction ds with
  | nil=>rfl
  | cons d ds ih=>simpa using ih
 | ds,x::r,h1,h2=>by
  have ih:=sH (ds:=ds) (r:=r) h1 λy hy=>h2 y (ak _ hy);have hx:=h2 x av
  have key:∀ (ds:List Int),ds.Nodup->(ds.map λd=>(x::r).count d).sum=(ds.map λd=>r.count d).sum+if x∈ds then 1 else 0:=by
   intro ds
   induction ds with
   | nil=>intro _;simp
   | cons d ds ih2 =>
    intro hnd;have:=ih2 (bA.mp hnd).2;have hd:=(bA.mp hnd).1;simp only [bT,Ad,vM] at this ⊢;rw [this]
    by_cases e:x=d
    ·subst e;simp [hd];lia
    ·have e':¬ d=x:=λz=>e z.symm;simp [e];lia
  rw [key ds h1,ih,if_pos hx,bV]
theorem nM.leaf {r:List Int}(h:nM r) (h1:1<r.length):∃ xs w z ys,r=xs++w::z::w::ys/\z∉xs++w::ys:=by
 obtain ⟨ds,d1,d2,d3⟩:=h.cnt;have hs:=sH d1 λx hx=>(d2 x).mpr hx
 obtain ⟨z,hz,hc⟩:∃ z∈ds,r.count z<2:=by
  refine D5 λq=>?_
  have hall:∀ z∈ds,2<=r.count z:=λz hz=>by
   by_cases c:r.count z<2
   ·exact absurd ⟨z,hz,c⟩ q
   ·lia
  have:∀ (ds:List Int),(∀ z∈ds,2<=r.count z)->2*ds.length<=(ds.map λd=>r.count d).sum:=by
   intro ds
   induction ds with
   | nil=>intro _;simp
   | cons d ds ih =>
    intro h;have a:=ih λz hz=>h z (ak _ hz);have b:=h d av;simp only [bT,Ad,bV];lia
  have:=this ds hall;lia
 have hzr:=(d2 z).mp hz;obtain ⟨A,B,e⟩:=m5 hzr;subst e
 have hc2:A.count z=0/\B.count z=0:=by
  rw [ip,lB] at hc;lia
 have hA:z∉A:=fA.mp hc2.1;have hB:z∉B:=fA.mp hc2.2
 obtain ⟨A',w,B',e1,e2⟩:=h.RR hA hB (λq=>by
  rw [vq] at q;rw [q.1,q.2] at h1
  simp at h1)
 subst e1 e2
 exact ⟨A',w,z,B',by simp,λhm=>by
  simp at hm hA hB
  rcases hm with hm|hm|hm
  ·exact hA.1 hm
  ·exact hA.2 hm
  ·exact hB.2 hm⟩
end Rm
namespace Rm
theorem nM.Uh {r r':List Int}(h:nM r) (hn:r'≠[]) (hm:∀ x,x∈r'↔x∈r) (hl:r'.length=r.length) (he:r'.head?=r'.getLast?) (hp:(al r').Perm (al r)):nM r' :=
 ⟨hn,let ⟨ds,a,b,c⟩:=h.cnt;⟨ds,a,λx=>by rw [b,hm],by rw [hl];exact c⟩,he,hp.nodup_iff.mpr h.nd,λx y z=>hp.mem_iff.mpr (h.sym x y (hp.mem_iff.mp z))⟩
theorem FP {r:List Int}{a:Int}(h:a∈r):∃ xs ys,r=xs++a::ys/\xs.length=r.idxOf a/\a∉xs:=by
 induction r with
 | nil=>cases h
 | cons b r ih =>
  by_cases e:b=a
  ·subst e;exact ⟨[],r,rfl,by simp,by simp⟩
  ·have ha:a∈r:=(ax.mp h).resolve_left λq=>e q.symm;obtain ⟨xs,ys,e1,e2,e3⟩:=ih ha
   have eb:(b == a)=false:=by simpa using e
   refine ⟨b::xs,ys,by rw [e1];rfl,by rw [Xl,eb];simp [e2],λhm=>?_⟩
   rcases ax.mp hm with q|q
   ·exact e q.symm
   ·exact e3 q
theorem nM.turn {r:List Int}{a:Int}(h:nM r) (ha:a∈r):nM (tn r (r.idxOf a))/\(al (tn r (r.idxOf a))).Perm (al r)/\(tn r (r.idxOf a)).head?=some a/\(∀ x,x∈tn r (r.idxOf a)↔x∈r)/\(tn r (r.idxOf a)).length=r.length:=by
 have hlen:(tn r (r.idxOf a)).length=r.length:=QR (Ll ha);obtain ⟨xs,ys,e,el,hx⟩:=FP ha
 cases xs with
 | nil =>
  have e0:r.idxOf a=0:=by rw [← el];rfl
  rw [e0,TV]
  exact ⟨h,uX _,by rw [e];rfl,λx=>Iff.rfl,rfl⟩
 | cons b xs =>
  have hba:b≠a:=λq=>hx (by simp [q]);have he:=h.ends
  obtain ⟨ys',ey⟩:∃ ys',ys=ys'++[b]:=by
   rw [e] at he;simp only [DY,Xk] at he;rw [show b::(xs++a::ys)=(b::xs++[a])++ys by simp,cO] at he
   rcases gC ys with q|⟨us,u,q⟩
   ·subst q;rw [show b::xs++[a]=(b::xs)++[a] by rfl,cO] at he;simp at he;exact absurd he hba
   ·rw [gE] at q;subst q;rw [cO] at he;simp at he;subst he;exact ⟨us,rfl⟩
  subst ey
  have et:tn r (r.idxOf a)=(a::ys')++b::(xs++[a]):=by
   unfold tn;rw [← el,e];simp only [bV]
   have d1:((b::xs)++a::(ys'++[b])).drop (xs.length+1)=a::(ys'++[b]):=by simp
   have d2:(((b::xs)++a::(ys'++[b])).drop 1).take (xs.length+1)=xs++[a]:=by
    show (xs++a::(ys'++[b])).take (xs.length+1)=xs++[a]
    rw [Vo,bS (by lia)];simp
   rw [d1,d2];simp
  have hp:(al (tn r (r.idxOf a))).Perm (al r):=by
   rw [et,e,mG (a::ys') b (xs++[a]),mG (b::xs) a (ys'++[b])];exact gB
  have hm:∀ x,x∈tn r (r.idxOf a)↔x∈r:=λx=>by
   rw [et,e];simp
   constructor
   ·rintro (q|q|q|q|q)
    ·exact .inr (.inr (.inl q))
    ·exact .inr (.inr (.inr (.inl q)))
    ·exact .inl q
    ·exact .inr (.inl q)
    ·exact .inr (.inr (.inl q))
   ·rintro (q|q|q|q|q)
    ·exact .inr (.inr (.inl q))
    ·exact .inr (.inr (.inr (.inl q)))
    ·exact .inl q
    ·exact .inr (.inl q)
    ·exact .inr (.inr (.inl q))
  refine ⟨h.Uh (by rw [et];simp) hm hlen (by rw [et];simp [cO,m6]) hp,hp,by rw [et];rfl,hm,hlen⟩
theorem GB {xs ys T:List Int}{a b:Int}(h1:T.head?=some b) (h2:T.getLast?=some b):(al (xs++a::(T++a::ys))).Perm ((a,b)::(b,a)::(al (xs++a::ys)++al T)):=by
 obtain ⟨T1,e1⟩:∃ T1,T=b::T1:=by
  cases T with
  | nil=>simp at h1
  | cons c T=>simp at h1;exact ⟨T,by rw [h1]⟩
 obtain ⟨T2,e2⟩:∃ T2,T=T2++[b]:=by
  rcases gC T with q|⟨us,u,q⟩
  ·subst q;simp at h2
  ·rw [gE] at q;subst q;simp at h2;exact ⟨us,by rw [h2]⟩
 have e3:al (a::(T++a::ys))=(a,b)::(al T++(b,a)::al (a::ys)):=by
  have e4:al (T++a::ys)=al T++(b,a)::al (a::ys):=by
   conv=>lhs;rw [e2,dg,OO,mG]
   rw [← e2];rfl
  have e5:al (a::(T++a::ys))=(a,b)::al (T++a::ys):=by rw [e1];rfl
  rw [e5,e4]
 rw [mG xs a (T++a::ys),mG xs a ys,e3];generalize al (xs++[a])=P;generalize al (a::ys)=R;generalize al T=U
 -- P++(ab::(U++ba::R)) ~ ab::ba::((P++R)++U)
 refine DZ.trans (mY _ ?_);rw [← dg];refine DZ.trans (mY _ ?_);rw [dg,dg];exact nr _ gB
theorem QU (xs ys T:List Int) (a:Int):(xs++a::(T++a::ys)).head?=(xs++a::ys).head?/\(xs++a::(T++a::ys)).getLast?=(xs++a::ys).getLast?:=by
 constructor
 ·cases xs<;>simp
 ·cases ys with
  | nil=>simp [cO,m6]
  | cons y ys=>simp [cO,m6]
theorem nM.WV {xs ys T:List Int}{a b:Int}(h:nM (xs++a::ys)) (hT:nM T) (h1:T.head?=some b) (hd:∀ x∈T,x∉xs++a::ys):nM (xs++a::(T++a::ys)):=by
 have h2:T.getLast?=some b:=by rw [← hT.ends];exact h1
 have hp:=GB (xs:=xs) (ys:=ys) (a:=a) h1 h2;have hb:b∈T:=kL (by rw [h1];rfl)
 have ha:a∈xs++a::ys:=by simp
 have hab:a≠b:=λe=>hd b hb (e▸ha);have hb':=hd b hb;have ha':a∉T:=λq=>hd a q ha;refine ⟨by simp,?_,?_,hp.nodup_iff.mpr ?_,λx y hxy=>?_⟩
 ·obtain ⟨ds,d1,d2,d3⟩:=h.cnt;obtain ⟨es,e1,e2,e3⟩:=hT.cnt;refine ⟨ds++es,fZ.mpr ⟨d1,e1,λx hx y hy q=>hd y ((e2 y).mp hy) (q▸(d2 x).mp hx)⟩,λx=>?_,?_⟩
  ·rw [aQ,d2,e2];simp
   constructor
   ·rintro ((q|q|q)|q)
    ·exact .inl q
    ·exact .inr (.inl q)
    ·exact .inr (.inr (.inr (.inr q)))
    ·exact .inr (.inr (.inl q))
   ·rintro (q|q|q|q|q)
    ·exact .inl (.inl q)
    ·exact .inl (.inr (.inl q))
    ·exact .inr q
    ·exact .inl (.inr (.inl q))
    ·exact .inl (.inr (.inr q))
  ·simp at d3 ⊢;lia
 ·have:=QU xs ys T a;rw [this.1,this.2];exact h.ends
 ·refine bA.mpr ⟨λhm=>?_,bA.mpr ⟨λhm=>?_,fZ.mpr ⟨h.nd,hT.nd,?_⟩⟩⟩
  ·rcases ax.mp hm with q|hm
   ·exact hab (by cases q;rfl)
   ·rcases aQ.mp hm with q|q
    ·exact hb' (hV q).2
    ·exact ha' (hV q).1
  ·rcases aQ.mp hm with q|q
   ·exact hb' (hV q).1
   ·exact ha' (hV q).2
  ·rintro ⟨x,y⟩ hx t ht q;subst q;exact hd x (hV ht).1 (hV hx).1
 ·refine hp.mem_iff.mpr ?_
  rcases ax.mp (hp.mem_iff.mp hxy) with q|hm
  ·cases q;simp
  ·rcases ax.mp hm with q|hm
   ·cases q;simp
   ·refine ak _ (ak _ ?_)
    rcases aQ.mp hm with q|q
    ·exact fE _ (h.sym x y q)
    ·exact bP _ (hT.sym x y q)
theorem nM.part:∀ (n:Nat) {p q inn:List Int}{x y:Int},(p++x::(inn++x::q)).length<=n->nM (p++x::(inn++x::q))->inn.head?=some y->inn.getLast?=some y ->
  nM inn/\nM (p++x::q)/\∀ c∈inn,c∉p++x::q
 | 0,p,q,inn,x,y,hn,h,h1,h2=>by simp at hn
 | n+1,p,q,inn,x,y,hn,h,h1,h2=>by
  have hl:1<(p++x::(inn++x::q)).length:=by simp;lia
  obtain ⟨X,w,z,Y,e,hz⟩:=h.leaf hl
  have hc:(p++x::(inn++x::q)).count z=1:=by
   rw [e];simp at hz;have a1:X.count z=0:=fA.mpr hz.1;have a2:Y.count z=0:=fA.mpr hz.2.2;have a3:¬ w=z:=λq=>hz.2.1 q.symm;simp [ip,vM,a1,a2,a3]
  have hzx:x≠z:=λq=>by
   subst q;simp [ip,vM] at hc;lia
  have hc2:p.count z+inn.count z+q.count z=1:=by
   simp [ip,vM,hzx] at hc;lia
  -- a place that stands once,with what is around it
  have at_:∀ A B,p++x::(inn++x::q)=A++z::B->∃ A' w B',A=A'++[w]/\B=w::B':=λA B eA=>by
   rw [eA] at h hc hl
   have c0:A.count z=0/\B.count z=0:=by rw [ip,lB] at hc;lia
   refine h.RR (fA.mp c0.1) (fA.mp c0.2) λq=>?_;rw [vq] at q;rw [q.1,q.2] at hl;simp at hl
  have nin:∀ {l:List Int},l.count z=0->z∉l:=λq=>fA.mp q
  by_cases z1:z∈inn
  ·have k1:0<inn.count z:=AE.mpr z1;have hp0:z∉p:=nin (by lia);have hq0:z∉q:=nin (by lia);obtain ⟨i1,i2,ei⟩:=m5 z1
   have c12:i1.count z=0/\i2.count z=0:=by
    rw [ei,ip,lB] at hc2;lia
   have n1:=nin c12.1;have n2:=nin c12.2
   by_cases hs:i1++i2=[]
   ·rw [vq] at hs;rw [hs.1,hs.2] at ei;subst ei
    have zo:z∉p++x::q:=λhm=>by
     rcases aQ.mp hm with m|m
     ·exact hp0 m
     ·rcases ax.mp m with m|m
      ·exact hzx m.symm
      ·exact hq0 m
    refine ⟨nM.one z,nM.Oq (w:=x) (z:=z) (by simpa using h) zo,λc hc=>?_⟩
    have:c=z:=by simpa using hc
    subst this;exact zo
   ·obtain ⟨A',w',B',eA,eB⟩:=at_ (p++x::i1) (i2++x::q) (by rw [ei];simp)
    have i1n:i1≠[]:=λq0=>by
     subst q0;rw [ei] at h1 h2;simp at h1;subst h1
     rcases gC i2 with q1|⟨us,u,q1⟩
     ·exact hs (by simp [q1])
     ·rw [gE] at q1;subst q1;simp [cO,m6] at h2;exact n2 (by simp [h2])
    have i2n:i2≠[]:=λq0=>by
     subst q0;rw [ei] at h1 h2;rw [cO] at h2;simp at h2;subst h2
     cases i1 with
     | nil=>exact i1n rfl
     | cons a i1=>simp at h1;exact n1 (by simp [h1])
    obtain ⟨i1',u,ei1⟩:∃ i1' u,i1=i1'++[u]:=by
     rcases gC i1 with q0|⟨us,u,q0⟩
     ·exact absurd q0 i1n
     ·exact ⟨us,u,by rw [q0,gE]⟩
    cases i2 with
    | nil=>exact absurd rfl i2n
    | cons v i2' =>
     have ev:v=w':=by simp at eB;exact eB.1
     have eu:u=w':=by
      rw [ei1,← DY,← dg] at eA;have:=vt eA rfl
      simpa using this
     subst ei1 ev eu
     have ei':inn=i1'++u::z::u::i2':=by rw [ei];simp
     subst ei'
     have zi:z∉i1'++u::i2':=λhm=>by
      simp at hm n1 n2
      rcases hm with m|m|m
      ·exact n1.1 m
      ·exact n1.2 m
      ·exact n2.2 m
     have eR:p++x::(i1'++u::z::u::i2'++x::q)=(p++x::i1')++u::z::u::(i2'++x::q):=by simp
     have eR':p++x::(i1'++u::i2'++x::q)=(p++x::i1')++u::(i2'++x::q):=by simp
     have zR:z∉(p++x::i1')++u::(i2'++x::q):=λhm=>by
      simp at hm zi
      rcases hm with m|m|m|m|m|m|m
      ·exact hp0 m
      ·exact hzx m.symm
      ·exact zi.1 m
      ·exact zi.2.1 m
      ·exact zi.2.2 m
      ·exact hzx m.symm
      ·exact hq0 m
     rw [eR] at h;have hR':=h.Oq zR;rw [← eR'] at hR';have en:=Cw i1' i2' u z;obtain ⟨r1,r2,r3⟩:=nM.part n (by simp at hn ⊢;lia) hR' (by rw [← en.1];exact h1) (by rw [← en.2];exact h2);refine ⟨r1.put zi,r2,λc hc=>?_⟩;simp at hc
     have hcz:c=z->c∉p++x::q:=λq0 hm=>by
      subst q0;simp at hm
      rcases hm with m|m|m
      ·exact hp0 m
      ·exact hzx m.symm
      ·exact hq0 m
     rcases hc with m|m|m|m|m
     ·exact r3 c (by simp [m])
     ·exact r3 c (by simp [m])
     ·exact hcz m
     ·exact r3 c (by simp [m])
     ·exact r3 c (by simp [m])
  ·by_cases z2:z∈p
   ·have k1:0<p.count z:=AE.mpr z2;have hq0:z∉q:=nin (by lia);obtain ⟨p1,p2,ep⟩:=m5 z2;obtain ⟨A',w',B',eA,eB⟩:=at_ p1 (p2++x::(inn++x::q)) (by rw [ep];simp)
    have c12:p1.count z=0/\p2.count z=0:=by
     rw [ep,ip,lB] at hc2;lia
    have n1:=nin c12.1;have n2:=nin c12.2;subst eA
    cases p2 with
    | nil =>
     have ew:w'=x:=by simp at eB;exact eB.1.symm
     subst ew
     have ep':p=A'++[w',z]:=by rw [ep];simp
     subst ep'
     have zR:z∉A'++w'::(inn++w'::q):=λhm=>by
      simp at hm n1
      rcases hm with m|m|m|m|m
      ·exact n1.1 m
      ·exact n1.2 m
      ·exact z1 m
      ·exact n1.2 m
      ·exact hq0 m
     have hR':=nM.Oq (xs:=A') (w:=w') (z:=z) (ys:=inn++w'::q) (by simpa using h) zR;obtain ⟨r1,r2,r3⟩:=nM.part n (by simp at hn ⊢;lia) hR' h1 h2
     have zo:z∉A'++w'::q:=λhm=>by
      simp at hm n1
      rcases hm with m|m|m
      ·exact n1.1 m
      ·exact n1.2 m
      ·exact hq0 m
     refine ⟨r1,by simpa using r2.put zo,λc hc hm=>?_⟩;simp at hm
     rcases hm with m|m|m|m
     ·exact r3 c hc (by simp [m])
     ·exact r3 c hc (by simp [m])
     ·exact z1 (m▸hc)
     ·exact r3 c hc (by
       rcases m with m|m
       ·simp [m]
       ·simp [m])
    | cons v p2 =>
     have ew:v=w':=by simp at eB;exact eB.1
     subst ew
     have ep':p=A'++v::z::v::p2:=by rw [ep];simp
     subst ep'
     have zR:z∉A'++v::(p2++x::(inn++x::q)):=λhm=>by
      simp at hm n1 n2
      rcases hm with m|m|m|m|m|m|m
      ·exact n1.1 m
      ·exact n1.2 m
      ·exact n2.2 m
      ·exact hzx m.symm
      ·exact z1 m
      ·exact hzx m.symm
      ·exact hq0 m
     have hR':=nM.Oq (xs:=A') (w:=v) (z:=z) (ys:=p2++x::(inn++x::q)) (by simpa using h) zR;obtain ⟨r1,r2,r3⟩:=nM.part n (p:=A'++v::p2) (q:=q) (inn:=inn) (x:=x) (by simp at hn ⊢;lia) (by simpa using hR') h1 h2
     have zo:z∉A'++v::(p2++x::q):=λhm=>by
      simp at hm n1 n2
      rcases hm with m|m|m|m|m
      ·exact n1.1 m
      ·exact n1.2 m
      ·exact n2.2 m
      ·exact hzx m.symm
      ·exact hq0 m
     refine ⟨r1,by simpa using nM.put (xs:=A') (w:=v) (z:=z) (ys:=p2++x::q) (by simpa using r2) zo,λc hc hm=>?_⟩;simp at hm
     rcases hm with m|m|m|m|m|m|m
     ·exact r3 c hc (by simp [m])
     ·exact r3 c hc (by simp [m])
     ·exact z1 (m▸hc)
     ·exact r3 c hc (by simp [m])
     ·exact r3 c hc (by simp [m])
     ·exact r3 c hc (by simp [m])
     ·exact r3 c hc (by simp [m])
   ·have hq1:z∈q:=by
     have k1:0<q.count z:=by
      have a1:=fA.mpr z1;have a2:=fA.mpr z2;lia
     exact AE.mp k1
    obtain ⟨q1,q2,eq⟩:=m5 hq1;obtain ⟨A',w',B',eA,eB⟩:=at_ (p++x::(inn++x::q1)) q2 (by rw [eq];simp)
    have c12:q1.count z=0/\q2.count z=0:=by
     rw [eq,ip,lB] at hc2;lia
    have n1:=nin c12.1;have n2:=nin c12.2;subst eB
    rcases gC q1 with e1|⟨q1',u,e1⟩
    ·subst e1
     have ew:x=w':=by
      rw [show p++x::(inn++[x])=(p++x::inn)++[x] by simp] at eA;have:=vt eA rfl
      simpa using this
     subst ew
     have eq':q=z::x::B':=by rw [eq];rfl
     subst eq'
     have zR:z∉(p++x::inn)++x::B':=λhm=>by
      simp at hm n2
      rcases hm with m|m|m|m|m
      ·exact z2 m
      ·exact hzx m.symm
      ·exact z1 m
      ·exact hzx m.symm
      ·exact n2.2 m
     have hR':=nM.Oq (xs:=p++x::inn) (w:=x) (z:=z) (ys:=B') (by simpa using h) zR;obtain ⟨r1,r2,r3⟩:=nM.part n (p:=p) (q:=B') (inn:=inn) (x:=x) (by simp at hn ⊢;lia) (by simpa using hR') h1 h2
     have zo:z∉p++x::B':=λhm=>by
      simp at hm n2
      rcases hm with m|m|m
      ·exact z2 m
      ·exact hzx m.symm
      ·exact n2.2 m
     refine ⟨r1,r2.put zo,λc hc hm=>?_⟩;simp at hm
     rcases hm with m|m|m|m|m
     ·exact r3 c hc (by simp [m])
     ·exact r3 c hc (by simp [m])
     ·exact z1 (m▸hc)
     ·exact r3 c hc (by simp [m])
     ·exact r3 c hc (by simp [m])
    ·rw [gE] at e1;subst e1
     have ew:u=w':=by
      rw [show p++x::(inn++x::(q1'++[u]))=(p++x::(inn++x::q1'))++[u] by simp] at eA;have:=vt eA rfl
      simpa using this
     subst ew
     have eq':q=q1'++u::z::u::B':=by rw [eq];simp
     subst eq'
     have zR:z∉(p++x::(inn++x::q1'))++u::B':=λhm=>by
      simp at hm n1 n2
      rcases hm with m|m|m|m|m|m|m
      ·exact z2 m
      ·exact hzx m.symm
      ·exact z1 m
      ·exact hzx m.symm
      ·exact n1.1 m
      ·exact n1.2 m
      ·exact n2.2 m
     have hR':=nM.Oq (xs:=p++x::(inn++x::q1')) (w:=u) (z:=z) (ys:=B') (by simpa using h) zR;obtain ⟨r1,r2,r3⟩:=nM.part n (p:=p) (q:=q1'++u::B') (inn:=inn) (x:=x) (by simp at hn ⊢;lia) (by simpa using hR') h1 h2
     have zo:z∉(p++x::q1')++u::B':=λhm=>by
      simp at hm n1 n2
      rcases hm with m|m|m|m|m
      ·exact z2 m
      ·exact hzx m.symm
      ·exact n1.1 m
      ·exact n1.2 m
      ·exact n2.2 m
     refine ⟨r1,by simpa using nM.put (xs:=p++x::q1') (w:=u) (z:=z) (ys:=B') (by simpa using r2) zo,λc hc hm=>?_⟩;simp at hm
     rcases hm with m|m|m|m|m|m|m
     ·exact r3 c hc (by simp [m])
     ·exact r3 c hc (by simp [m])
     ·exact r3 c hc (by simp [m])
     ·exact r3 c hc (by simp [m])
     ·exact z1 (m▸hc)
     ·exact r3 c hc (by simp [m])
     ·exact r3 c hc (by simp [m])
end Rm
namespace Rm
theorem QV {r:List Int}{i:Nat}{x y:Int}:(al r)[i]?=some (x,y)↔r[i]?=some x/\r[i+1]?=some y:=by
 rw [Lm,sA,rM,OP 1 i]
def ud (r:List Int) (i j:Nat):List Int:=(r.drop (i+1)).take (j-i)
def ze (r:List Int) (i j:Nat):List Int:=r.take (i+1)++r.drop (j+2)
def yS (r:List Int) (a b:Int):List Int×List Int :=
 if (al r).idxOf (a,b)<(al r).idxOf (b,a) then (ze r ((al r).idxOf (a,b)) ((al r).idxOf (b,a)),ud r ((al r).idxOf (a,b)) ((al r).idxOf (b,a)))
 else (ud r ((al r).idxOf (b,a)) ((al r).idxOf (a,b)),ze r ((al r).idxOf (b,a)) ((al r).idxOf (a,b)))
theorem QW {r:List Int}{i j:Nat}{x y:Int}(hij:i<j) (h1:r[i]?=some x) (h2:r[i+1]?=some y) (h3:r[j]?=some y) (h4:r[j+1]?=some x) :
  r=r.take i++x::(ud r i j++x::r.drop (j+2))/\ze r i j=r.take i++x::r.drop (j+2)/\(ud r i j).head?=some y/\(ud r i j).getLast?=some y/\(ud r i j).length+(ze r i j).length+1=r.length:=by
 have l4:=(aB.mp h4).1
 have g1:r.drop i=x::r.drop (i+1):=by
  have hl:=aB.mp h1;rw [jg hl.1,hl.2]
 have g2:r.drop (j+1)=x::r.drop (j+2):=by
  have hl:=aB.mp h4;rw [jg hl.1,hl.2]
 have g3:r.drop (i+1)=ud r i j++r.drop (j+1):=by
  unfold ud;have:=fq (j-i) (r.drop (i+1));rw [Xy,show i+1+(j-i)=j+1 by lia] at this;exact this.symm
 have li:(ud r i j).length=j-i:=by unfold ud;rw [bO,cQ];lia
 refine ⟨?_,?_,?_,?_,?_⟩
 ·rw [← g2,← g3,← g1,fq]
 ·unfold ze;rw [d9,h1];simp
 ·rw [List.head?_eq_getElem?];unfold ud;rw [mZ,if_pos (by lia),rM];exact h2
 ·rw [List.getLast?_eq_getElem?,li];unfold ud;rw [mZ,if_pos (by lia),rM,show i+1+(j-i-1)=j by lia];exact h3
 ·rw [li];unfold ze;rw [bq,bO,cQ];lia
theorem UW {r:List Int}{a b:Int}(h:(a,b)∈al r):r[(al r).idxOf (a,b)]?=some a/\r[(al r).idxOf (a,b)+1]?=some b:=by
 have hl:(al r).idxOf (a,b)<(al r).length:=hU.mpr h;refine QV.mp ?_;rw [aC hl,AC]
structure Mo (r X Y:List Int) (a b:Int):Prop where
 x:nM X
 y:nM Y
 ha:a∈X
 hb:b∈Y
 YN:∀ c∈Y,c∉X
 pm:(al r).Perm ((a,b)::(b,a)::(al X++al Y))
 len:X.length+Y.length+1=r.length
theorem nM.parted {r:List Int}{a b:Int}(h:nM r) (hm:(a,b)∈al r) (hab:a≠b):Mo r (yS r a b).1 (yS r a b).2 a b:=by
 obtain ⟨p1,p2⟩:=UW hm;obtain ⟨q1,q2⟩:=UW (h.sym a b hm);unfold yS;generalize (al r).idxOf (a,b)=i at p1 p2;generalize (al r).idxOf (b,a)=j at q1 q2
 by_cases hij:i<j
 ·rw [if_pos hij];obtain ⟨e1,e2,e3,e4,e5⟩:=QW hij p1 p2 q1 q2;have hR:=h;rw [e1] at hR;obtain ⟨r1,r2,r3⟩:=nM.part _ (au _) hR e3 e4;refine ⟨by rw [e2];exact r2,r1,by rw [e2];simp,kL (by rw [e3];rfl),λc hc=>by rw [e2];exact r3 c hc,?_,by simp only;lia⟩;simp only;rw [e2];have hp:=GB (xs:=r.take i) (ys:=r.drop (j+2)) (a:=a) e3 e4
  rwa [← e1] at hp
 ·rw [if_neg hij]
  have hji:j<i:=by
   rcases Nat.lt_or_ge j i with q|q
   ·exact q
   ·have:i=j:=by lia
    subst this;rw [p1] at q1;exact absurd (a7 q1) hab
  obtain ⟨e1,e2,e3,e4,e5⟩:=QW hji q1 q2 p1 p2;have hR:=h;rw [e1] at hR;obtain ⟨r1,r2,r3⟩:=nM.part _ (au _) hR e3 e4;refine ⟨r1,by rw [e2];exact r2,kL (by rw [e3];rfl),by rw [e2];simp,λc hc hx=>by rw [e2] at hc;exact r3 c hx hc,?_,by simp only;lia⟩;simp only;rw [e2];have hp:=GB (xs:=r.take j) (ys:=r.drop (i+2)) (a:=b) e3 e4;rw [← e1] at hp;refine hp.trans ((List.Perm.swap _ _ _).trans (mY _ (mY _ gB)))
end Rm
namespace Rm
theorem Jk (x y:Int) (l:List Int):al (x::y::l)=(x,y)::al (y::l):=rfl
end Rm
namespace Rm
def Cy (r1 r2:List Int) (a b:Int):List Int:=r1.take (r1.idxOf a+1)++(tn r2 (r2.idxOf b)++r1.drop (r1.idxOf a))
structure HJ (r1 r2:List Int) (a b:Int):Prop where
 h1:nM r1
 h2:nM r2
 ha:a∈r1
 hb:b∈r2
 YN:∀ x∈r2,x∉r1
theorem HJ.facts {r1 r2:List Int}{a b:Int}(T:HJ r1 r2 a b):nM (Cy r1 r2 a b)/\(al (Cy r1 r2 a b)).Perm ((a,b)::(b,a)::(al r1++al r2))/\(Cy r1 r2 a b).length=r1.length+r2.length+1:=by
 obtain ⟨t1,t2,t3,t4,t5⟩:=T.h2.turn T.hb;obtain ⟨xs,ys,e,el,hx⟩:=FP T.ha
 have es:Cy r1 r2 a b=xs++a::(tn r2 (r2.idxOf b)++a::ys):=by
  unfold Cy;rw [← el]
  conv=>lhs;rw [e]
  have d1:(xs++a::ys).take (xs.length+1)=xs++[a]:=by
   rw [Vo,bS (by lia)];simp
  have d2:(xs++a::ys).drop xs.length=a::ys:=by simp
  rw [d1,d2];simp
 have hR:nM (xs++a::ys):=by rw [← e];exact T.h1
 have hd:∀ x∈tn r2 (r2.idxOf b),x∉xs++a::ys:=λx hx=>by rw [← e];exact T.YN x ((t4 x).mp hx)
 refine ⟨by rw [es];exact hR.WV t1 t3 hd,?_,?_⟩
 ·rw [es,e]
  have t3':(tn r2 (r2.idxOf b)).getLast?=some b:=by rw [← t1.ends];exact t3
  exact (GB t3 t3').trans (mY _ (mY _ (nr _ t2)))
 ·have hlt:(tn r2 (r2.idxOf b)).length=r2.length:=t5;unfold Cy;have:=Ll T.ha;rw [bq,bq,bO,cQ,hlt];lia
theorem HJ.mem {r1 r2:List Int}{a b:Int}(T:HJ r1 r2 a b) (x:Int):x∈Cy r1 r2 a b↔x∈r1\/x∈r2:=by
 obtain ⟨t1,t2,t3,t4,t5⟩:=T.h2.turn T.hb;unfold Cy;rw [aQ,aQ,t4]
 constructor
 ·rintro (h|h|h)
  ·exact .inl (List.mem_of_mem_take h)
  ·exact .inr h
  ·exact .inl (List.mem_of_mem_drop h)
 ·rintro (h|h)
  ·rw [← fq (r1.idxOf a) r1] at h
   rcases aQ.mp h with h|h
   ·exact .inl (List.take_subset_take_left _ (fQ _) h)
   ·exact .inr (.inr h)
  ·exact .inr (.inl h)
theorem Mo.mem {r X Y:List Int}{a b:Int}(P:Mo r X Y a b) (hr:nM r) (x:Int):x∈r↔x∈X\/x∈Y:=by
 have key:∀ {l:List Int},nM l->∀ {x:Int},x∈l->(l=[x]\/∃ y,(x,y)∈al l):=λ{l} hl {x} hx=>by
  obtain ⟨i,hi⟩:=bF.mp hx;have hlt:=(aB.mp hi).1
  by_cases h:i+1<l.length
  ·exact .inr ⟨_,bF.mpr ⟨i,QV.mpr ⟨hi,aC h⟩⟩⟩
  ·by_cases h1:l.length=1
   ·obtain ⟨c,rfl⟩:=List.length_eq_one_iff.mp h1
    have:i=0:=by simp at hlt;lia
    subst this;simp at hi;exact .inl (by rw [hi])
   ·have e1:l[i-1]?=some l[i-1]:=aC (by lia);exact .inr ⟨_,hl.sym _ _ (bF.mpr ⟨i-1,QV.mpr ⟨e1,by rw [show i-1+1=i by lia];exact hi⟩⟩)⟩
 constructor
 ·intro hx
  rcases key hr hx with e|⟨y,hy⟩
  ·have:=P.len;rw [e] at this;have h1:=Sj.mpr P.x.ne;have h2:=Sj.mpr P.y.ne;rw [OE] at this;lia
  ·rcases ax.mp (P.pm.mem_iff.mp hy) with e|hy
   ·cases e;exact .inl P.ha
   ·rcases ax.mp hy with e|hy
    ·cases e;exact .inr P.hb
    ·rcases aQ.mp hy with hy|hy
     ·exact .inl (hV hy).1
     ·exact .inr (hV hy).1
 ·intro hx;have HH:∀ {u v:Int},(u,v)∈(a,b)::(b,a)::(al X++al Y)->u∈r:=λh=>(hV (P.pm.mem_iff.mpr h)).1
  rcases hx with hx|hx
  ·rcases key P.x hx with e|⟨y,hy⟩
   ·have:=P.ha;rw [e] at this;rw [← aA.mp this];exact HH (v:=b) av
   ·exact HH (v:=y) (ak _ (ak _ (fE _ hy)))
  ·rcases key P.y hx with e|⟨y,hy⟩
   ·have:=P.hb;rw [e] at this;rw [← aA.mp this];exact HH (v:=a) (ak _ av)
   ·exact HH (v:=y) (ak _ (ak _ (bP _ hy)))
structure Wd (n:Nat) (R:Nat->List Int):Prop where
 r:∀ i,i<n->nM (R i)
 me:∀ i:Nat,i<n->(i:Int)∈R i
 HH:∀ i,i<n->∀ x∈R i,∃ j:Nat,j<n/\x=(j:Int)/\R j=R i
def Ed (n:Nat) (R:Nat->List Int) (x y:Int):Prop:=∃ i,i<n/\(x,y)∈al (R i)
theorem Wd.start (n:Nat):Wd n λi=>[(i:Int)] :=
 ⟨λi _=>nM.one _,λi _=>by simp,λi hi x hx=>⟨i,hi,by simpa using hx,rfl⟩⟩
theorem Wd.same {n:Nat}{R:Nat->List Int}(W:Wd n R) {i j:Nat}(hi:i<n) (hj:j<n) {x:Int}(h1:x∈R i) (h2:x∈R j):R i=R j:=by
 obtain ⟨k,hk,e1,e2⟩:=W.HH i hi x h1;obtain ⟨k',hk',e3,e4⟩:=W.HH j hj x h2
 have:k=k':=by lia
 subst this;rw [← e2,e4]
theorem Wd.head {n:Nat}{R:Nat->List Int}(W:Wd n R) {i j:Nat}(hi:i<n) (hj:j<n):((R i).head?=(R j).head?↔(j:Int)∈R i):=by
 constructor
 ·intro e
  obtain ⟨x,hx⟩:∃ x,(R i).head?=some x:=by
   cases h:R i with
   | nil=>exact absurd h (W.r i hi).ne
   | cons a l=>exact ⟨a,rfl⟩
  rw [W.same hi hj (kL hx) (kL (e▸hx))];exact W.me j hj
 ·intro h;rw [W.same hi hj h (W.me j hj)]
theorem Ed.at {n:Nat}{R:Nat->List Int}(W:Wd n R) {x y:Int}(h:Ed n R x y) {i:Nat}(hi:i<n) (hx:x∈R i):(x,y)∈al (R i):=by
 obtain ⟨j,hj,hm⟩:=h;rw [W.same hi hj hx (hV hm).1];exact hm
theorem Ed.symm {n:Nat}{R:Nat->List Int}(W:Wd n R) {x y:Int}(h:Ed n R x y):Ed n R y x:=let ⟨i,hi,hm⟩:=h;⟨i,hi,(W.r i hi).sym _ _ hm⟩
theorem Wd.link {n:Nat}{R:Nat->List Int}(W:Wd n R) {a b:Nat}(ha:a<n) (hb:b<n) (hn:(b:Int)∉R a) :
  HJ (R a) (R b) a b/\Wd n (λi=>if (i:Int)∈Cy (R a) (R b) a b then Cy (R a) (R b) a b else R i) /\
   ∀ x y,Ed n (λi=>if (i:Int)∈Cy (R a) (R b) a b then Cy (R a) (R b) a b else R i) x y↔(Ed n R x y\/(x,y)=((a:Int),(b:Int))\/(x,y)=((b:Int),(a:Int))):=by
 have T:HJ (R a) (R b) a b:=⟨W.r a ha,W.r b hb,W.me a ha,W.me b hb,λx h2 h1=>hn (by rw [W.same ha hb h1 h2];exact W.me b hb)⟩
 obtain ⟨f1,f2,f3⟩:=T.facts;have fm:=T.mem;generalize Cy (R a) (R b) a b=s at f1 f2 f3 fm
 have hs:∀ x∈s,∃ j:Nat,j<n/\x=(j:Int)/\(j:Int)∈s:=λx hx=>by
  rcases (fm x).mp hx with h|h
  ·obtain ⟨j,hj,e,_⟩:=W.HH a ha x h;exact ⟨j,hj,e,e▸hx⟩
  ·obtain ⟨j,hj,e,_⟩:=W.HH b hb x h;exact ⟨j,hj,e,e▸hx⟩
 have nos:∀ i,i<n->(i:Int)∉s->∀ x∈R i,x∉s:=λi hi h x hx hxs=>by
  rcases (fm x).mp hxs with q|q
  ·exact h ((fm i).mpr (.inl (W.same ha hi q hx▸W.me i hi)))
  ·exact h ((fm i).mpr (.inr (W.same hb hi q hx▸W.me i hi)))
 refine ⟨T,⟨λi hi=>?_,λi hi=>?_,λi hi x hx=>?_⟩,λx y=>⟨?_,?_⟩⟩
 ·by_cases c:(i:Int)∈s
  ·rw [if_pos c];exact f1
  ·rw [if_neg c];exact W.r i hi
 ·by_cases c:(i:Int)∈s
  ·rw [if_pos c];exact c
  ·rw [if_neg c];exact W.me i hi
 ·by_cases c:(i:Int)∈s
  ·simp only [if_pos c] at hx ⊢;obtain ⟨j,hj,e,hjs⟩:=hs x hx;exact ⟨j,hj,e,if_pos hjs⟩
  ·simp only [if_neg c] at hx ⊢;obtain ⟨j,hj,e,er⟩:=W.HH i hi x hx;exact ⟨j,hj,e,by rw [if_neg (λh=>nos i hi c x hx (e▸h))];exact er⟩
 ·rintro ⟨i,hi,hm⟩
  by_cases c:(i:Int)∈s
  ·simp only [if_pos c] at hm
   rcases ax.mp (f2.mem_iff.mp hm) with e|hm
   ·exact .inr (.inl e)
   ·rcases ax.mp hm with e|hm
    ·exact .inr (.inr e)
    ·rcases aQ.mp hm with h|h
     ·exact .inl ⟨a,ha,h⟩
     ·exact .inl ⟨b,hb,h⟩
  ·simp only [if_neg c] at hm;exact .inl ⟨i,hi,hm⟩
 ·have inS:∀ {u v:Int},(u,v)∈al s->Ed n (λi=>if (i:Int)∈s then s else R i) u v:=λh=>⟨a,ha,by simp only [if_pos ((fm a).mpr (.inl (W.me a ha)))];exact h⟩
  rintro (⟨i,hi,hm⟩|e|e)
  ·by_cases c:(i:Int)∈s
   ·refine inS (f2.mem_iff.mpr (ak _ (ak _ ?_)))
    rcases (fm i).mp c with h|h
    ·rw [← W.same ha hi h (W.me i hi)] at hm;exact fE _ hm
    ·rw [← W.same hb hi h (W.me i hi)] at hm;exact bP _ hm
   ·exact ⟨i,hi,by simp only [if_neg c];exact hm⟩
  ·obtain ⟨rfl,rfl⟩:=cC e;exact inS (f2.mem_iff.mpr av)
  ·obtain ⟨rfl,rfl⟩:=cC e;exact inS (f2.mem_iff.mpr (ak _ av))
theorem Wd.cut {n:Nat}{R:Nat->List Int}(W:Wd n R) {a b:Nat}(ha:a<n) (hb:b<n) (hab:a≠b) (hm:((a:Int),(b:Int))∈al (R a)) :
  Wd n (λi=>if (i:Int)∈(yS (R a) a b).2 then (yS (R a) a b).2 else if (i:Int)∈(yS (R a) a b).1 then (yS (R a) a b).1 else R i) /\
   ∀ x y,Ed n (λi=>if (i:Int)∈(yS (R a) a b).2 then (yS (R a) a b).2 else if (i:Int)∈(yS (R a) a b).1 then (yS (R a) a b).1 else R i) x y↔(Ed n R x y/\¬ (x,y)=((a:Int),(b:Int))/\¬ (x,y)=((b:Int),(a:Int))):=by
 have hR:=W.r a ha;have P:=hR.parted hm (by lia:(a:Int)≠b);have PM:=P.mem hR;generalize (yS (R a) a b).1=X at P PM;generalize (yS (R a) a b).2=Y at P PM;have nd:=P.pm.nodup_iff.mp hR.nd;have nab:=(bA.mp nd).1;have nba:=(bA.mp (bA.mp nd).2).1;have inr:∀ x∈R a,∃ j:Nat,j<n/\x=(j:Int)/\R j=R a:=W.HH a ha;have nos:∀ i,i<n->(i:Int)∉R a->∀ x∈R i,x∉R a:=λi hi h x hx hxs=>h (W.same ha hi hxs hx▸W.me i hi);have sw:∀ i:Nat,(i:Int)∈Y->(i:Int)∉X:=λi h=>P.YN _ h;refine ⟨⟨λi hi=>?_,λi hi=>?_,λi hi x hx=>?_⟩,λx y=>⟨?_,?_⟩⟩
 ·by_cases c2:(i:Int)∈Y
  ·rw [if_pos c2];exact P.y
  ·by_cases c1:(i:Int)∈X
   ·rw [if_neg c2,if_pos c1];exact P.x
   ·rw [if_neg c2,if_neg c1];exact W.r i hi
 ·by_cases c2:(i:Int)∈Y
  ·rw [if_pos c2];exact c2
  ·by_cases c1:(i:Int)∈X
   ·rw [if_neg c2,if_pos c1];exact c1
   ·rw [if_neg c2,if_neg c1];exact W.me i hi
 ·by_cases c2:(i:Int)∈Y
  ·simp only [if_pos c2] at hx ⊢;obtain ⟨j,hj,e,_⟩:=inr x ((PM x).mpr (.inr hx));exact ⟨j,hj,e,if_pos (e▸hx)⟩
  ·by_cases c1:(i:Int)∈X
   ·simp only [if_neg c2,if_pos c1] at hx ⊢;obtain ⟨j,hj,e,_⟩:=inr x ((PM x).mpr (.inl hx));have hjX:(j:Int)∈X:=e▸hx;exact ⟨j,hj,e,by rw [if_neg (λh=>sw j h hjX),if_pos hjX]⟩
   ·simp only [if_neg c2,if_neg c1] at hx ⊢;obtain ⟨j,hj,e,er⟩:=W.HH i hi x hx;have hni:(i:Int)∉R a:=λh=>((PM i).mp h).elim c1 c2;have hnj:(j:Int)∉R a:=λh=>nos i hi hni x hx (e▸h);exact ⟨j,hj,e,by rw [if_neg (λh=>hnj ((PM j).mpr (.inr h))),if_neg (λh=>hnj ((PM j).mpr (.inl h)))];exact er⟩
 ·have old:∀ {u v:Int},(u,v)∈al X++al Y->Ed n R u v/\¬ (u,v)=((a:Int),(b:Int))/\¬ (u,v)=((b:Int),(a:Int)):=λ{u v} h =>
   ⟨⟨a,ha,P.pm.mem_iff.mpr (ak _ (ak _ h))⟩,λe=>nab (ak _ (e▸h)),λe=>nba (e▸h)⟩
  rintro ⟨i,hi,h⟩
  by_cases c2:(i:Int)∈Y
  ·simp only [if_pos c2] at h;exact old (bP _ h)
  ·by_cases c1:(i:Int)∈X
   ·simp only [if_neg c2,if_pos c1] at h;exact old (fE _ h)
   ·simp only [if_neg c2,if_neg c1] at h;have hni:(i:Int)∉R a:=λh=>((PM i).mp h).elim c1 c2;have hxa:x∉R a:=nos i hi hni x (hV h).1;refine ⟨⟨i,hi,h⟩,λe=>hxa ?_,λe=>hxa ?_⟩
    ·rw [(cC e).1];exact W.me a ha
    ·rw [(cC e).1];exact (PM _).mpr (.inr P.hb)
 ·rintro ⟨h,e1,e2⟩
  by_cases hx:x∈R a
  ·have hm:=Ed.at W h ha hx
   rcases ax.mp (P.pm.mem_iff.mp hm) with e|hm
   ·exact absurd e e1
   ·rcases ax.mp hm with e|hm
    ·exact absurd e e2
    ·rcases aQ.mp hm with q|q
     ·refine ⟨a,ha,?_⟩;simp only [if_neg (λh=>sw a h P.ha),if_pos P.ha];exact q
     ·refine ⟨b,hb,?_⟩;simp only [if_pos P.hb];exact q
  ·obtain ⟨i,hi,hm⟩:=h;have hni:(i:Int)∉R a:=λh=>hx (W.same ha hi h (W.me i hi)▸(hV hm).1);refine ⟨i,hi,?_⟩;simp only [if_neg (λh=>hni ((PM i).mpr (.inr h))),if_neg (λh=>hni ((PM i).mpr (.inl h)))];exact hm
theorem QX {M:Int->Prop}:∀ {l:List Int},(∀ x y,(x,y)∈al l->(M x↔M y))->(∃ a∈l,M a)->∀ x∈l,M x
 | [],_,_,x,hx=>nomatch hx
 | [c],_,⟨a,ha,hM⟩,x,hx=>by
  rw [aA.mp hx,← aA.mp ha];exact hM
 | c::d::t,h,⟨a,ha,hM⟩,x,hx=>by
  have hcd:=h c d (by rw [Jk];exact av);have ih:=QX (l:=d::t) λx y hm=>h x y (by rw [Jk];exact ak _ hm)
  have hd:M d:=by
   rcases ax.mp ha with e|ha
   ·exact hcd.mp (e▸hM)
   ·exact ih ⟨a,ha,hM⟩ d av
  rcases ax.mp hx with e|hx
  ·rw [e];exact hcd.mpr hd
  ·exact ih ⟨d,av,hd⟩ x hx
theorem Zr {l:List Int}{n:Nat}(hn:l.Nodup) (h:∀ x∈l,∃ j:Nat,j<n/\x=(j:Int)):l.length<=n:=by
 have e:=sH (ds:=(fz n).map λi:Nat=>(i:Int)) (r:=l) (by
  rw [Ij,cS]
  exact List.Pairwise.imp (λh e=>h (by lia)) (Ij.mp Vp)) λx hx=>by
   obtain ⟨j,hj,e⟩:=h x hx;exact bw.mpr ⟨j,jL.mpr hj,e.symm⟩
 have le:∀ (ds:List Int),(ds.map λd=>l.count d).sum<=ds.length:=λds=>by
  induction ds with
  | nil=>simp
  | cons d ds ih =>
   have:l.count d<=1:=O4.mp hn d;simp only [bT,Ad,bV];lia
 have:=le ((fz n).map λi:Nat=>(i:Int));rw [e] at this
 simpa using this
theorem Wd.len {n:Nat}{R:Nat->List Int}(W:Wd n R) {i:Nat}(hi:i<n):(R i).length+1<=2*n:=by
 obtain ⟨ds,h1,h2,h3⟩:=(W.r i hi).cnt
 have:=Zr h1 λx hx=>let ⟨j,hj,e,_⟩:=W.HH i hi x ((h2 x).mp hx);⟨j,hj,e⟩
 lia
end Rm
namespace Rm
end Rm
namespace Rm
theorem Cz:∀ {L M:List Int},L.Pairwise (· < ·)->M.Pairwise (· < ·)->(∀ t,t∈L↔t∈M)->L=M
 | [],[],_,_,_=>rfl
 | [],m::M,_,_,h=>absurd ((h m).mpr av) (by simp)
 | l::L,[],_,_,h=>absurd ((h l).mp av) (by simp)
 | l::L,m::M,h1,h2,h=>by
  obtain ⟨a1,a2⟩:=AD.mp h1;obtain ⟨b1,b2⟩:=AD.mp h2
  have e:l=m:=by
   rcases ax.mp ((h l).mp av) with e|hl
   ·exact e
   ·rcases ax.mp ((h m).mpr av) with e|hm
    ·exact e.symm
    ·have x1:=b1 l hl;have x2:=a1 m hm;lia
  subst e;rw [Cz a2 b2 λt=>?_]
  constructor
  ·intro ht
   rcases ax.mp ((h t).mp (ak _ ht)) with e|z
   ·subst e;exact absurd (a1 _ ht) (by lia)
   ·exact z
  ·intro ht
   rcases ax.mp ((h t).mpr (ak _ ht)) with e|z
   ·subst e;exact absurd (b1 _ ht) (by lia)
   ·exact z
end Rm
namespace Rm
def lk (R:Nat->List Int) (a b:Nat):Nat->List Int:=λi=>if (i:Int)∈Cy (R a) (R b) a b then Cy (R a) (R b) a b else R i
def ct (R:Nat->List Int) (a b:Nat):Nat->List Int:=λi=>if (i:Int)∈(yS (R a) a b).2 then (yS (R a) a b).2 else if (i:Int)∈(yS (R a) a b).1 then (yS (R a) a b).1 else R i
theorem M6 {r s:List Int}(hr:nM r) (hs:nM s) (h:∀ x∈r,x∈s):r.length<=s.length:=by
 obtain ⟨d,d1,d2,d3⟩:=hr.cnt;obtain ⟨e,e1,e2,e3⟩:=hs.cnt;have q:=sH (ds:=e) (r:=d) e1 λx hx=>(e2 x).mpr (h x ((d2 x).mp hx))
 have le:∀ (ds:List Int),(ds.map λc=>d.count c).sum<=ds.length:=λds=>by
  induction ds with
  | nil=>simp
  | cons c ds ih =>
   have:d.count c<=1:=O4.mp d1 c;simp only [bT,Ad,bV];lia
 have:=le e;lia
section
variable {n:Nat}{R R':Nat->List Int}{x y z a b:Nat}
theorem Wd.sub (W:Wd n R) (W':Wd n R') (h:∀ x y,Ed n R x y->Ed n R' x y) (hx:x<n):∀ c∈R x,c∈R' x :=
 QX (M:=λc=>c∈R' x) (λu v hm =>
  have e:=h u v ⟨x,hx,hm⟩
  ⟨λhu=>(hV (Ed.at W' e hx hu)).2,λhv=>(hV (Ed.at W' (Ed.symm W' e) hx hv)).2⟩) ⟨x,W.me x hx,W'.me x hx⟩
theorem Wd.sy (W:Wd n R) (hx:x<n) (hy:y<n) (h:(y:Int)∈R x):(x:Int)∈R y:=W.same hx hy h (W.me y hy)▸W.me x hx
theorem Wd.eq (W:Wd n R) (hx:x<n) (hy:y<n) (h:(y:Int)∈R x):R x=R y:=W.same hx hy h (W.me y hy)
theorem Wd.lk (W:Wd n R) (ha:a<n) (hb:b<n) (hn:(b:Int)∉R a):Wd n (lk R a b):=(W.link ha hb hn).2.1
theorem Wd.RW (W:Wd n R) (ha:a<n) (hb:b<n) (hn:(b:Int)∉R a) (x y:Int):Ed n (Rm.lk R a b) x y↔(Ed n R x y\/(x,y)=((a:Int),(b:Int))\/(x,y)=((b:Int),(a:Int))):=(W.link ha hb hn).2.2 x y
theorem Wd.F0 (W:Wd n R) (ha:a<n) (hb:b<n) (hn:(b:Int)∉R a) (h:(x:Int)∈R a\/(x:Int)∈R b):(∀ c,c∈Rm.lk R a b x↔c∈R a\/c∈R b)/\(Rm.lk R a b x).length=(R a).length+(R b).length+1:=by
 have T:=(W.link ha hb hn).1;have e:Rm.lk R a b x=Cy (R a) (R b) a b:=if_pos ((T.mem x).mpr h);rw [e];exact ⟨T.mem,T.facts.2.2⟩
theorem Wd.RY (W:Wd n R) (ha:a<n) (hb:b<n) (hn:(b:Int)∉R a) (h1:(x:Int)∉R a) (h2:(x:Int)∉R b):Rm.lk R a b x=R x :=
 if_neg λh=>((((W.link ha hb hn).1).mem x).mp h).elim h1 h2
theorem Wd.Va (W:Wd n R) (ha:a<n) (hb:b<n) (hn:(b:Int)∉R a) (hx:x<n):∀ c∈R x,c∈Rm.lk R a b x :=
 W.sub (W.lk ha hb hn) (λu v h=>(W.RW ha hb hn u v).mpr (.inl h)) hx
theorem Wd.ct (W:Wd n R) (ha:a<n) (hb:b<n) (hab:a≠b) (hm:Ed n R a b):Wd n (ct R a b):=(W.cut ha hb hab (Ed.at W hm ha (W.me a ha))).1
theorem Wd.RZ (W:Wd n R) (ha:a<n) (hb:b<n) (hab:a≠b) (hm:Ed n R a b) (x y:Int):Ed n (Rm.ct R a b) x y↔(Ed n R x y/\¬ (x,y)=((a:Int),(b:Int))/\¬ (x,y)=((b:Int),(a:Int))):=(W.cut ha hb hab (Ed.at W hm ha (W.me a ha))).2 x y
theorem Wd.U4 (W:Wd n R) (ha:a<n) (hb:b<n) (hab:a≠b) (hm:Ed n R a b):(b:Int)∉Rm.ct R a b a/\(∀ c,c∈R a↔c∈Rm.ct R a b a\/c∈Rm.ct R a b b)/\(Rm.ct R a b a).length+(Rm.ct R a b b).length+1=(R a).length:=by
 have hR:=W.r a ha;have P:=hR.parted (Ed.at W hm ha (W.me a ha)) (by lia:(a:Int)≠b);have PM:=P.mem hR;have e1:Rm.ct R a b b=(yS (R a) a b).2:=if_pos P.hb
 have e2:Rm.ct R a b a=(yS (R a) a b).1:=by
  show (if _ then _ else if _ then _ else _)=_
  rw [if_neg λh=>P.YN _ h P.ha,if_pos P.ha]
 rw [e1,e2];exact ⟨P.YN _ P.hb,PM,P.len⟩
theorem Wd.WR (W:Wd n R) (ha:a<n) (hb:b<n) (hab:a≠b) (hm:Ed n R a b) (h:(x:Int)∉R a):Rm.ct R a b x=R x:=by
 have hR:=W.r a ha;have PM:=(hR.parted (Ed.at W hm ha (W.me a ha)) (by lia:(a:Int)≠b)).mem hR
 show (if _ then _ else if _ then _ else _)=_
 rw [if_neg λq=>h ((PM _).mpr (.inr q)),if_neg λq=>h ((PM _).mpr (.inl q))]
end
structure Ti where
 x:Nat
 y:Nat
 cT:Nat
 wd:Bool
def Ti.key (t:Ti):Int×Int:=((t.x:Int),(t.y:Int))
def Ti.Is (t:Ti) (u v:Int):Prop:=(u,v)=((t.x:Int),(t.y:Int))\/(u,v)=((t.y:Int),(t.x:Int))
def Ti.up (t:Ti):Ti:={ t with cT:=t.cT+1 }
def Ti.xr (t:Ti):Ti:={ t with wd:=true }
theorem Ti.RQ {t u:Ti}(h:t.key=u.key):t.x=u.x/\t.y=u.y:=by
 obtain ⟨h1,h2⟩:=cC h;lia
theorem Ti.xg {t u:Ti}(ht:t.x<t.y) (hu:u.x<u.y) (h:t.Is u.x u.y):t.key=u.key:=by
 rcases h with h|h<;>obtain ⟨h1,h2⟩:=cC h
 ·exact OX h1.symm h2.symm
 ·lia
theorem Ti.Nm {t:Ti}{u v:Int}:t.Is u v->t.Is v u:=λh=>h.elim (λh=>.inr (by rw [xC] at h ⊢;exact ⟨h.2,h.1⟩)) (λh=>.inl (by rw [xC] at h ⊢;exact ⟨h.2,h.1⟩))
structure Lv (n T:Nat) (ts:List Ti) (R:Nat->Nat->List Int):Prop where
 wd:∀ i,i<=T->Wd n (R i)
 ed:∀ i,i<=T->∀ u v:Int,Ed n (R i) u v↔∃ t∈ts,t.wd=true/\i<=t.cT/\t.Is u v
 sz:∀ i,i<=T->∀ x,x<n->((R i x).length+1)*2^i<=2*n
 lt:∀ t∈ts,t.x<t.y/\t.y<n/\t.cT<=T
 nd:(ts.map Ti.key).Nodup
def Jn (ts:List Ti) (R:Nat->Nat->List Int):Prop:=∀ t∈ts,(t.y:Int)∈R t.cT t.x
theorem qV {ts:List Ti}(h:(ts.map Ti.key).Nodup) {t u:Ti}(ht:t∈ts) (hu:u∈ts) (e:t.key=u.key):t=u:=by
 induction ts with
 | nil=>nomatch ht
 | cons s ts ih =>
  rw [bT,bA] at h
  rcases ax.mp ht with rfl|ht'<;>rcases ax.mp hu with rfl|hu'
  ·rfl
  ·exact absurd (e▸bp hu') h.1
  ·exact absurd (e▸bp ht') h.1
  ·exact ih h.2 ht' hu'
def i7 (ts:List Ti) (k:Int×Int) (f:Ti->Ti):List Ti:=ts.map λt=>if t.key=k then f t else t
section
variable {n T:Nat}{ts:List Ti}{R:Nat->Nat->List Int}{t:Ti}{f:Ti->Ti}
theorem ma (hf:∀ t,(f t).key=t.key) (k:Int×Int):(i7 ts k f).map Ti.key=ts.map Ti.key:=by
 unfold i7;rw [bN]
 exact mi λu _=>by
  show Ti.key (if _ then _ else _)=_
  split
  ·exact hf u
  ·rfl
theorem mH (hnd:(ts.map Ti.key).Nodup) (ht:t∈ts) (u:Ti):u∈i7 ts t.key f↔u=f t\/(u∈ts/\u.key≠t.key):=by
 unfold i7;rw [bw]
 constructor
 ·rintro ⟨v,hv,e⟩
  by_cases c:v.key=t.key
  ·rw [if_pos c] at e;rw [qV hnd hv ht c] at e;exact .inl e.symm
  ·rw [if_neg c] at e;subst e;exact .inr ⟨hv,c⟩
 ·rintro (e|⟨h,c⟩)
  ·exact ⟨t,ht,by rw [if_pos rfl,e]⟩
  ·exact ⟨u,h,if_neg c⟩
theorem Lv.mono (L:Lv n T ts R) {i j x:Nat}(hij:i<=j) (hj:j<=T) (hx:x<n):∀ c∈R j x,c∈R i x :=
 (L.wd j hj).sub (L.wd i (bz hij hj)) (λu v h=>by
  obtain ⟨t,h1,h2,h3,h4⟩:=(L.ed j hj u v).mp h
  exact (L.ed i (bz hij hj) u v).mpr ⟨t,h1,h2,bz hij h3,h4⟩) hx
theorem Lv.apart (L:Lv n T ts R) (ht:t∈ts) (hw:t.wd=true) {i:Nat}(hi:t.cT<i) (hT:i<=T):(t.y:Int)∉R i t.x:=by
 obtain ⟨h1,h2,h3⟩:=L.lt t ht;have W:=L.wd t.cT h3;have e:Ed n (R t.cT) t.x t.y:=(L.ed _ h3 _ _).mpr ⟨t,ht,hw,au _,.inl rfl⟩;have c:=W.U4 (a:=t.x) (b:=t.y) (by lia) h2 (by lia) e;intro hin;refine c.1 ((L.wd i hT).sub (W.ct (a:=t.x) (b:=t.y) (by lia) h2 (by lia) e) (λu v h=>?_) (by lia) _ hin);obtain ⟨s,s1,s2,s3,s4⟩:=(L.ed i hT u v).mp h
 have ne:¬ t.Is u v:=λq=>by
  have:s.key=t.key:=by
   obtain ⟨l1,l2,l3⟩:=L.lt s s1
   rcases q with q|q<;>obtain ⟨rfl,rfl⟩:=cC q
   ·exact Ti.xg l1 h1 s4
   ·exact Ti.xg l1 h1 (Ti.Nm s4)
  rw [qV L.nd s1 ht this] at s3;lia
 exact (W.RZ (a:=t.x) (b:=t.y) (by lia) h2 (by lia) e u v).mpr ⟨(L.ed _ h3 u v).mpr ⟨s,s1,s2,by lia,s4⟩,λq=>ne (.inl q),λq=>ne (.inr q)⟩
def Yq (R:Nat->Nat->List Int) (j x y:Nat):Nat->Nat->List Int:=λi=>if i=j then lk (R j) x y else R i
def Kz (R:Nat->Nat->List Int) (l x y:Nat):Nat->Nat->List Int:=λi=>if i<=l then lk (R i) x y else R i
def Zm (R:Nat->Nat->List Int) (l x y:Nat):Nat->Nat->List Int:=λi=>if i<=l then ct (R i) x y else R i
theorem Lv.xg (L:Lv n T ts R) {s:Ti}(hs:s∈ts) (ht:t∈ts) {u v:Int}(h1:s.Is u v) (h2:t.Is u v):s=t:=by
 refine qV L.nd hs ht ?_
 rcases h2 with q|q<;>obtain ⟨rfl,rfl⟩:=cC q
 ·exact Ti.xg (L.lt s hs).1 (L.lt t ht).1 h1
 ·exact Ti.xg (L.lt s hs).1 (L.lt t ht).1 (Ti.Nm h1)
structure Dn (n T:Nat) (ts:List Ti) (R:Nat->Nat->List Int) (a b k:Nat):Prop where
 lv:Lv n T ts R
 ha:a<n
 hb:b<n
 hk:k<=T+1
 ap:(b:Int)∉R 0 a
 s2:∀ i,i<k->((R i a).length+(R i b).length+2)*2^i<=2*n
 jn:∀ t∈ts,(t.y:Int)∈R t.cT t.x\/(t.cT<k/\((t.x:Int)∈R t.cT a/\(t.y:Int)∈R t.cT b\/(t.x:Int)∈R t.cT b/\(t.y:Int)∈R t.cT a))
variable {a b k l:Nat}
theorem Dn.swap (D:Dn n T ts R a b k):Dn n T ts R b a k :=
 ⟨D.lv,D.hb,D.ha,D.hk,λh=>D.ap ((D.lv.wd 0 (aJ _)).sy D.hb D.ha h),λi hi=>by have:=D.s2 i hi;rwa [OP (R i b).length],λt ht=>(D.jn t ht).imp_right λh=>⟨h.1,h.2.symm⟩⟩
theorem Dn.done (D:Dn n T ts R a b 0):Jn ts R:=λt ht=>(D.jn t ht).resolve_right λh=>by lia
theorem Dn.apart (D:Dn n T ts R a b k) {i:Nat}(hi:i<=T):(b:Int)∉R i a:=λh=>D.ap (D.lv.mono (aJ _) hi D.ha _ h)
theorem Lv.drop (L:Lv n T ts R) (J:Jn ts R) (ht:t∈ts) (hw:t.wd=true):Dn n T (ts.filter λu=>decide (u.key≠t.key)) (Zm R t.cT t.x t.y) t.x t.y (t.cT+1):=by
 obtain ⟨h1,h2,h3⟩:=L.lt t ht
 have hx:t.x<n:=by lia
 have hne:t.x≠t.y:=by lia
 have e:∀ i,i<=t.cT->Ed n (R i) t.x t.y:=λi hi=>(L.ed i (by lia) _ _).mpr ⟨t,ht,hw,hi,.inl rfl⟩;have lo:∀ i,i<=t.cT->Zm R t.cT t.x t.y i=ct (R i) t.x t.y:=λi hi=>if_pos hi;have hi':∀ i,¬ i<=t.cT->Zm R t.cT t.x t.y i=R i:=λi hi=>if_neg hi
 have mm:∀ u,u∈ts.filter (λu=>decide (u.key≠t.key))↔u∈ts/\u≠t:=λu=>by
  rw [cK,decide_eq_true_iff];exact and_congr_right λhu=>not_congr ⟨λq=>qV L.nd hu ht q,λq=>q▸rfl⟩
 have C:=λi (hi:i<=t.cT)=>(L.wd i (by lia)).U4 hx h2 hne (e i hi);refine ⟨⟨λi hi=>?_,λi hi u v=>?_,λi hi x hx'=>?_,λu hu=>L.lt u ((mm u).mp hu).1,?_⟩,hx,h2,by lia,?_,λi hi=>?_,λu hu=>?_⟩
 ·by_cases c:i<=t.cT
  ·rw [lo i c];exact (L.wd i hi).ct hx h2 hne (e i c)
  ·rw [hi' i c];exact L.wd i hi
 ·by_cases c:i<=t.cT
  ·rw [lo i c,(L.wd i hi).RZ hx h2 hne (e i c),L.ed i hi]
   constructor
   ·rintro ⟨⟨s,s1,s2,s3,s4⟩,n1,n2⟩;exact ⟨s,(mm s).mpr ⟨s1,λq=>(q▸s4).elim n1 n2⟩,s2,s3,s4⟩
   ·rintro ⟨s,s1,s2,s3,s4⟩;have s5:=(mm s).mp s1;exact ⟨⟨s,s5.1,s2,s3,s4⟩,λq=>s5.2 (L.xg s5.1 ht s4 (.inl q)),λq=>s5.2 (L.xg s5.1 ht s4 (.inr q))⟩
  ·rw [hi' i c,L.ed i hi]
   constructor
   ·rintro ⟨s,s1,s2,s3,s4⟩;exact ⟨s,(mm s).mpr ⟨s1,λq=>c (q▸s3)⟩,s2,s3,s4⟩
   ·rintro ⟨s,s1,s2⟩;exact ⟨s,((mm s).mp s1).1,s2⟩
 ·refine bz (qD _ (uY ?_)) (L.sz i hi x hx')
  by_cases c:i<=t.cT
  ·rw [lo i c];have W':=(L.wd i hi).ct hx h2 hne (e i c);exact M6 (W'.r x hx') ((L.wd i hi).r x hx') (W'.sub (L.wd i hi) (λu v q=>(((L.wd i hi).RZ hx h2 hne (e i c) u v).mp q).1) hx')
  ·rw [hi' i c];exact au _
 ·exact (xA _ mj).nodup L.nd
 ·rw [lo 0 (aJ _)];exact (C 0 (aJ _)).1
 ·rw [lo i (by lia)];have:=(C i (by lia)).2.2;have:=L.sz i (by lia) t.x hx
  have e:(ct (R i) t.x t.y t.x).length+(ct (R i) t.x t.y t.y).length+2=(R i t.x).length+1:=by lia
  rw [e];exact this
 ·obtain ⟨q1,q2⟩:=(mm u).mp hu;have j:=J u q1;obtain ⟨u1,u2,u3⟩:=L.lt u q1
  by_cases c:u.cT<=t.cT
  ·rw [lo _ c];have W:=L.wd _ u3;have W':=W.ct hx h2 hne (e _ c)
   by_cases d:(u.x:Int)∈R u.cT t.x
   ·have d':(u.y:Int)∈R u.cT t.x:=by rw [W.eq hx (by lia) d];exact j
    rcases ((C _ c).2.1 _).mp d with p|p<;>rcases ((C _ c).2.1 _).mp d' with p'|p'
    ·exact .inl (by rw [← W'.eq hx (by lia) p];exact p')
    ·exact .inr ⟨by lia,.inl ⟨p,p'⟩⟩
    ·exact .inr ⟨by lia,.inr ⟨p,p'⟩⟩
    ·exact .inl (by rw [← W'.eq h2 (by lia) p];exact p')
   ·rw [W.WR hx h2 hne (e _ c) d];exact .inl j
  ·rw [hi' _ c];exact .inl j
theorem Dn.Zr (D:Dn n T ts R a b (l+1)) (hT:∀ j,2^(j+1)<=n->j<=T) (hs:((R l a).length+1)*2^(l+1)<=2*n) {x y:Nat}(hx:(x:Int)∈R l a) (hy:(y:Int)∈R l a) (hxy:x≠y):l+1<=T:=by
 have hl:l<=T:=by have:=D.hk;lia
 obtain ⟨d,d1,d2,d3⟩:=((D.lv.wd l hl).r a D.ha).cnt
 have:2<=d.length:=by
  have hx':=(d2 _).mpr hx;have hy':=(d2 _).mpr hy
  match d,d1,hx',hy' with
  | [c],_,hx',hy' =>
   rw [aA] at hx' hy'
   lia
  | c::e::r,_,_,_=>simp
 refine hT _ ?_;have h4:4*2^(l+1)<=((R l a).length+1)*2^(l+1):=qD _ (by lia);have:=OQ 2 (l+1);lia
theorem Dn.YH (D:Dn n T ts R a b (l+1)) (hT:∀ j,2^(j+1)<=n->j<=T) (hs:((R l a).length+1)*2^(l+1)<=2*n) (ht:t∈ts) (hw:t.wd=true) (hl:t.cT=l) (hx:(t.x:Int)∈R l a) (hy:(t.y:Int)∈R l a) :
  l+1<=T/\(t.y:Int)∉R (l+1) t.x/\Dn n T (i7 ts t.key Ti.up) (Yq R (l+1) t.x t.y) a b (l+1):=by
 have L:=D.lv;obtain ⟨h1,h2,h3⟩:=L.lt t ht;have hl1:l+1<=T:=D.Zr hT hs hx hy (by lia);have hap:=L.apart ht hw (i:=l+1) (by lia) hl1
 have hxn:t.x<n:=by lia
 have W:=L.wd _ hl1;have hi':∀ i,i≠l+1->Yq R (l+1) t.x t.y i=R i:=λi hi=>if_neg hi;have at':Yq R (l+1) t.x t.y (l+1)=lk (R (l+1)) t.x t.y:=if_pos rfl;have mm:=mH (f:=Ti.up) L.nd ht;have kk:∀ u,u∈ts->u≠t->u.key≠t.key:=λu hu hne q=>hne (qV L.nd hu ht q);have lo:=L.wd l (by lia);refine ⟨hl1,hap,⟨λi hi=>?_,λi hi u v=>?_,λi hi x hx'=>?_,λu hu=>?_,?_⟩,D.ha,D.hb,D.hk,?_,λi hi=>?_,λu hu=>?_⟩
 ·by_cases c:i=l+1
  ·subst c;rw [at'];exact W.lk hxn h2 hap
  ·rw [hi' i c];exact L.wd i hi
 ·have:(∃ s∈i7 ts t.key Ti.up,s.wd=true/\i<=s.cT/\s.Is u v)↔(i<=l+1/\t.Is u v)\/∃ s∈ts,s≠t/\s.wd=true/\i<=s.cT/\s.Is u v:=by
   constructor
   ·rintro ⟨s,s1,s2⟩
    rcases (mm s).mp s1 with rfl|⟨q1,q2⟩
    ·exact .inl ⟨by have:i<=t.cT+1:=s2.2.1;lia,s2.2.2⟩
    ·exact .inr ⟨s,q1,λq=>q2 (q▸rfl),s2⟩
   ·rintro (⟨q1,q2⟩|⟨s,s1,s2,s3⟩)
    ·exact ⟨t.up,(mm _).mpr (.inl rfl),hw,by show i<=t.cT+1;lia,q2⟩
    ·exact ⟨s,(mm _).mpr (.inr ⟨s1,kk s s1 s2⟩),s3⟩
  rw [this]
  have old:Ed n (R i) u v↔(i<=l/\t.Is u v)\/∃ s∈ts,s≠t/\s.wd=true/\i<=s.cT/\s.Is u v:=by
   rw [L.ed i hi]
   constructor
   ·rintro ⟨s,s1,s2,s3,s4⟩
    by_cases q:s=t
    ·subst q;exact .inl ⟨by lia,s4⟩
    ·exact .inr ⟨s,s1,q,s2,s3,s4⟩
   ·rintro (⟨q1,q2⟩|⟨s,s1,s2,s3⟩)
    ·exact ⟨t,ht,hw,by lia,q2⟩
    ·exact ⟨s,s1,s3⟩
  by_cases c:i=l+1
  ·subst c;rw [at',W.RW hxn h2 hap,old]
   constructor
   ·rintro ((⟨q,_⟩|q)|q)
    ·lia
    ·exact .inr q
    ·exact .inl ⟨au _,q⟩
   ·rintro (⟨_,q⟩|q)
    ·exact .inr q
    ·exact .inl (.inr q)
  ·rw [hi' i c,old];exact or_congr_left (and_congr_left λ_=>by lia)
 ·by_cases c:i=l+1
  ·subst c;rw [at']
   by_cases d:(x:Int)∈R (l+1) t.x\/(x:Int)∈R (l+1) t.y
   ·refine bz (qD _ (uY ?_)) hs;refine M6 ((W.lk hxn h2 hap).r x hx') (lo.r a D.ha) λc hc=>?_
    rcases ((W.F0 hxn h2 hap d).1 c).mp hc with q|q
    ·rw [lo.eq D.ha hxn hx];exact L.mono (fQ l) hl1 hxn _ q
    ·rw [lo.eq D.ha h2 hy];exact L.mono (fQ l) hl1 h2 _ q
   ·rw [W.RY hxn h2 hap (λq=>d (.inl q)) (λq=>d (.inr q))];exact L.sz _ hi x hx'
  ·rw [hi' i c];exact L.sz i hi x hx'
 ·rcases (mm u).mp hu with rfl|⟨q,_⟩
  ·exact ⟨h1,h2,by show t.cT+1<=T;lia⟩
  ·exact L.lt u q
 ·exact (ma (f:=Ti.up) (λ_=>rfl) t.key).symm▸L.nd
 ·rw [hi' 0 (by lia)];exact D.ap
 ·rw [hi' i (by lia)];exact D.s2 i hi
 ·rcases (mm u).mp hu with rfl|⟨q,_⟩
  ·have:t.up.cT=l+1:=by show t.cT+1=l+1;lia
   rw [this,at'];exact .inl (((W.F0 (x:=t.x) hxn h2 hap (.inl (W.me _ hxn))).1 _).mpr (.inr (W.me _ h2)))
  ·have j:=D.jn u q;obtain ⟨u1,u2,u3⟩:=L.lt u q
   by_cases c:u.cT=l+1
   ·rw [c] at j ⊢;rw [at'];exact .inl (W.Va hxn h2 hap (by lia) _ (j.resolve_right λq=>by lia))
   ·rw [hi' _ c];exact j
theorem Dn.full (D:Dn n T ts R a b (l+1)) (hno:∀ t∈ts,t.wd=true->t.cT=l->(t.x:Int)∈R l a->(t.y:Int)∈R l a->False) (hl:l+1<=T) {x y:Nat}(hx:x<n) (hy:y<n) (h1:(x:Int)∈R l a) (h2:(y:Int)∈R l a):(y:Int)∈R (l+1) x:=by
 have L:=D.lv;have W:=L.wd l (by lia);have V:=L.wd (l+1) hl;have e:=W.eq D.ha hx h1;refine QX (M:=λc=>c∈R (l+1) x) (l:=R l a) (λu v hm=>?_) ⟨x,h1,V.me x hx⟩ y h2;obtain ⟨t,t1,t2,t3,t4⟩:=(L.ed l (by lia) u v).mp ⟨a,D.ha,hm⟩;have m:=hV hm
 have ne:t.cT≠l:=λq=>by
  rcases t4 with p|p<;>obtain ⟨rfl,rfl⟩:=cC p
  ·exact hno t t1 t2 q m.1 m.2
  ·exact hno t t1 t2 q m.2 m.1
 have E:Ed n (R (l+1)) u v:=(L.ed _ hl u v).mpr ⟨t,t1,t2,by lia,t4⟩;exact ⟨λhu=>(hV (Ed.at V E hx hu)).2,λhv=>(hV (Ed.at V (Ed.symm V E) hx hv)).2⟩
theorem Dn.YM (D:Dn n T ts R a b (l+1)) (ht:t∈ts) (hw:t.wd=false) (hl:t.cT=l) (hl1:l+1<=T) (hj:(t.y:Int)∈R (l+1) t.x):Dn n T (i7 ts t.key Ti.up) R a b (l+1):=by
 have L:=D.lv;obtain ⟨h1,h2,h3⟩:=L.lt t ht;have mm:=mH (f:=Ti.up) L.nd ht;have kk:∀ u,u∈ts->u≠t->u.key≠t.key:=λu hu hne q=>hne (qV L.nd hu ht q);refine ⟨⟨L.wd,λi hi u v=>?_,L.sz,λu hu=>?_,?_⟩,D.ha,D.hb,D.hk,D.ap,D.s2,λu hu=>?_⟩
 ·rw [L.ed i hi]
  constructor
  ·rintro ⟨s,s1,s2,s3⟩;exact ⟨s,(mm s).mpr (.inr ⟨s1,kk s s1 λq=>by rw [q,hw] at s2;exact absurd s2 (by decide)⟩),s2,s3⟩
  ·rintro ⟨s,s1,s2,s3⟩
   rcases (mm s).mp s1 with rfl|⟨q,_⟩
   ·exact absurd (hw.symm.trans s2) (by decide)
   ·exact ⟨s,q,s2,s3⟩
 ·rcases (mm u).mp hu with rfl|⟨q,_⟩
  ·exact ⟨h1,h2,by show t.cT+1<=T;lia⟩
  ·exact L.lt u q
 ·exact (ma (f:=Ti.up) (λ_=>rfl) t.key).symm▸L.nd
 ·rcases (mm u).mp hu with rfl|⟨q,_⟩
  ·have:t.up.cT=l+1:=by show t.cT+1=l+1;lia
   rw [this];exact .inl hj
  ·exact D.jn u q
theorem Dn.next (D:Dn n T ts R a b (l+1)) (hno:∀ t∈ts,t.wd=false->t.cT=l->¬ ((t.x:Int)∈R l a/\(t.y:Int)∉R l a)/\¬ ((t.x:Int)∉R l a/\(t.y:Int)∈R l a)):Dn n T ts R a b l:=by
 have L:=D.lv
 have hl:l<=T:=by have:=D.hk;lia
 refine ⟨L,D.ha,D.hb,by lia,D.ap,λi hi=>D.s2 i (by lia),λt ht=>?_⟩;obtain ⟨h1,h2,h3⟩:=L.lt t ht
 rcases D.jn t ht with j|⟨j1,j2⟩
 ·exact .inl j
 ·by_cases c:t.cT=l
  ·cases hw:t.wd with
   | true =>
    have E:Ed n (R t.cT) t.x t.y:=(L.ed _ h3 _ _).mpr ⟨t,ht,hw,au _,.inl rfl⟩
    exact .inl (hV (Ed.at (L.wd _ h3) E (by lia) ((L.wd _ h3).me _ (by lia)))).2
   | false =>
    have q:=hno t ht hw c;have W:=L.wd l hl;have ap:∀ z:Int,z∈R l a->z∉R l b:=λz q1 q2=>D.apart hl (by rw [W.same D.ha D.hb q1 q2];exact W.me b D.hb);rw [c] at j2
    rcases j2 with ⟨p1,p2⟩|⟨p1,p2⟩
    ·exact absurd ⟨p1,λp=>ap _ p p2⟩ q.1
    ·exact absurd ⟨λp=>ap _ p p1,p2⟩ q.2
  ·exact .inr ⟨by lia,j2⟩
theorem Lv.adopt (L:Lv n T ts R) (ht:t∈ts) (hw:t.wd=false) (hap:∀ i,i<=t.cT->(t.y:Int)∉R i t.x) (hs:∀ i,i<=t.cT->((R i t.x).length+(R i t.y).length+2)*2^i<=2*n):Lv n T (i7 ts t.key Ti.xr) (Kz R t.cT t.x t.y):=by
 obtain ⟨h1,h2,h3⟩:=L.lt t ht
 have hxn:t.x<n:=by lia
 have mm:=mH (f:=Ti.xr) L.nd ht;have kk:∀ u,u∈ts->u≠t->u.key≠t.key:=λu hu hne q=>hne (qV L.nd hu ht q);have lo:∀ i,i<=t.cT->Kz R t.cT t.x t.y i=lk (R i) t.x t.y:=λi hi=>if_pos hi;have hi':∀ i,¬ i<=t.cT->Kz R t.cT t.x t.y i=R i:=λi hi=>if_neg hi;refine ⟨λi hi=>?_,λi hi u v=>?_,λi hi x hx'=>?_,λu hu=>?_,?_⟩
 ·by_cases c:i<=t.cT
  ·rw [lo i c];exact (L.wd i hi).lk hxn h2 (hap i c)
  ·rw [hi' i c];exact L.wd i hi
 ·have:(∃ s∈i7 ts t.key Ti.xr,s.wd=true/\i<=s.cT/\s.Is u v)↔(∃ s∈ts,s.wd=true/\i<=s.cT/\s.Is u v)\/(i<=t.cT/\t.Is u v):=by
   constructor
   ·rintro ⟨s,s1,s2⟩
    rcases (mm s).mp s1 with rfl|⟨q1,q2⟩
    ·exact .inr ⟨s2.2.1,s2.2.2⟩
    ·exact .inl ⟨s,q1,s2⟩
   ·rintro (⟨s,s1,s2,s3⟩|⟨q1,q2⟩)
    ·exact ⟨s,(mm _).mpr (.inr ⟨s1,kk s s1 λq=>by rw [q,hw] at s2;exact absurd s2 (by decide)⟩),s2,s3⟩
    ·exact ⟨t.xr,(mm _).mpr (.inl rfl),rfl,q1,q2⟩
  rw [this,← L.ed i hi]
  by_cases c:i<=t.cT
  ·rw [lo i c,(L.wd i hi).RW hxn h2 (hap i c)];exact or_congr_right ⟨λq=>⟨c,q⟩,λq=>q.2⟩
  ·rw [hi' i c];exact ⟨.inl,λq=>q.elim id λq=>absurd q.1 c⟩
 ·by_cases c:i<=t.cT
  ·rw [lo i c]
   by_cases d:(x:Int)∈R i t.x\/(x:Int)∈R i t.y
   ·rw [((L.wd i hi).F0 hxn h2 (hap i c) d).2];exact hs i c
   ·rw [(L.wd i hi).RY hxn h2 (hap i c) (λq=>d (.inl q)) (λq=>d (.inr q))];exact L.sz _ hi x hx'
  ·rw [hi' i c];exact L.sz i hi x hx'
 ·rcases (mm u).mp hu with rfl|⟨q,_⟩
  ·exact ⟨h1,h2,h3⟩
  ·exact L.lt u q
 ·exact (ma (f:=Ti.xr) (λ_=>rfl) t.key).symm▸L.nd
theorem Lv.Kh (L:Lv n T ts R) (ht:t∈ts) (hap:∀ i,i<=t.cT->(t.y:Int)∉R i t.x) {i x:Nat}(hi:i<=T) (hx:x<n):∀ c∈R i x,c∈Kz R t.cT t.x t.y i x:=by
 obtain ⟨h1,h2,h3⟩:=L.lt t ht
 by_cases c:i<=t.cT
 ·have e:Kz R t.cT t.x t.y i=lk (R i) t.x t.y:=if_pos c;rw [e];exact (L.wd i hi).Va (by lia) h2 (hap i c) hx
 ·have e:Kz R t.cT t.x t.y i=R i:=if_neg c;rw [e];exact λ_ h=>h
theorem Dn.adopt (D:Dn n T ts R a b (l+1)) (ht:t∈ts) (hw:t.wd=false) (hl:t.cT=l) (h:(t.x:Int)∈R l a/\(t.y:Int)∉R l a\/(t.x:Int)∉R l a/\(t.y:Int)∈R l a) :
  (∀ i,i<=t.cT->(t.y:Int)∉R i t.x)/\Lv n T (i7 ts t.key Ti.xr) (Kz R t.cT t.x t.y)/\Jn (i7 ts t.key Ti.xr) (Kz R t.cT t.x t.y):=by
 have L:=D.lv;obtain ⟨h1,h2,h3⟩:=L.lt t ht
 have hxn:t.x<n:=by lia
 have W:=L.wd t.cT h3
 have j:(t.x:Int)∈R t.cT a/\(t.y:Int)∈R t.cT b\/(t.x:Int)∈R t.cT b/\(t.y:Int)∈R t.cT a:=by
  rcases D.jn t ht with j|j
  ·rw [← hl] at h
   rcases h with ⟨p1,p2⟩|⟨p1,p2⟩
   ·exact absurd (by rw [W.eq D.ha hxn p1];exact j) p2
   ·exact absurd (by rw [W.eq D.ha h2 p2];exact W.sy hxn h2 j) p1
  ·exact j.2
 -- at each lower level the one end is on the one side,the other on the other
 have j':∀ i,i<=t.cT->(R i t.x=R i a/\R i t.y=R i b)\/(R i t.x=R i b/\R i t.y=R i a):=λi hi=>by
  have V:=L.wd i (by lia)
  rcases j with ⟨p1,p2⟩|⟨p1,p2⟩
  ·exact .inl ⟨(V.eq D.ha hxn (L.mono hi h3 D.ha _ p1)).symm,(V.eq D.hb h2 (L.mono hi h3 D.hb _ p2)).symm⟩
  ·exact .inr ⟨(V.eq D.hb hxn (L.mono hi h3 D.hb _ p1)).symm,(V.eq D.ha h2 (L.mono hi h3 D.ha _ p2)).symm⟩
 have hap:∀ i,i<=t.cT->(t.y:Int)∉R i t.x:=λi hi q=>by
  have V:=L.wd i (by lia);have e:=V.eq hxn h2 q;have n:=D.apart (i:=i) (by lia)
  rcases j' i hi with ⟨p1,p2⟩|⟨p1,p2⟩
  ·exact n (by rw [← p1,e,p2];exact V.me b D.hb)
  ·exact n (by rw [← p2,← e,p1];exact V.me b D.hb)
 have L':=L.adopt ht hw hap λi hi=>by
  have:=D.s2 i (by lia)
  rcases j' i hi with ⟨p1,p2⟩|⟨p1,p2⟩
  ·rw [p1,p2];exact this
  ·rw [p1,p2,OP (R i b).length];exact this
 refine ⟨hap,L',λu hu=>?_⟩
 have lo:∀ i,i<=t.cT->∀ z:Nat,(z:Int)∈R i t.x\/(z:Int)∈R i t.y->∀ c,c∈Kz R t.cT t.x t.y i z↔c∈R i t.x\/c∈R i t.y:=λi hi z hz=>by
  have:Kz R t.cT t.x t.y i=lk (R i) t.x t.y:=if_pos hi;rw [this];exact ((L.wd i (by lia)).F0 hxn h2 (hap i hi) hz).1
 rcases (mH (f:=Ti.xr) L.nd ht u).mp hu with rfl|⟨q,_⟩
 ·exact (lo t.cT (au _) t.x (.inl (W.me _ hxn)) _).mpr (.inr (W.me _ h2))
 ·obtain ⟨u1,u2,u3⟩:=L.lt u q
  rcases D.jn u q with j|⟨k1,k2⟩
  ·exact L.Kh ht hap u3 (by lia) _ j
  ·have V:=L.wd _ u3
   have c:u.cT<=t.cT:=by lia
   rcases j' _ c with ⟨p1,p2⟩|⟨p1,p2⟩<;>rcases k2 with ⟨k3,k4⟩|⟨k3,k4⟩<;>rw [← p1] at *<;>rw [← p2] at *
   ·exact (lo _ c _ (.inl k3) _).mpr (.inr k4)
   ·exact (lo _ c _ (.inr k3) _).mpr (.inl k4)
   ·exact (lo _ c _ (.inr k3) _).mpr (.inl k4)
   ·exact (lo _ c _ (.inl k3) _).mpr (.inr k4)
theorem Lv.YQ (L:Lv n T ts R) (J:Jn ts R) (ht:t∈ts) (hw:t.wd=false):Lv n T (ts.filter λu=>decide (u.key≠t.key)) R/\Jn (ts.filter λu=>decide (u.key≠t.key)) R:=by
 have mm:∀ u,u∈ts.filter (λu=>decide (u.key≠t.key))↔u∈ts/\u≠t:=λu=>by
  rw [cK,decide_eq_true_iff];exact and_congr_right λhu=>not_congr ⟨λq=>qV L.nd hu ht q,λq=>q▸rfl⟩
 refine ⟨⟨L.wd,λi hi u v=>?_,L.sz,λu hu=>L.lt u ((mm u).mp hu).1,(xA _ mj).nodup L.nd⟩,λu hu=>J u ((mm u).mp hu).1⟩;rw [L.ed i hi]
 constructor
 ·rintro ⟨s,s1,s2,s3⟩;exact ⟨s,(mm s).mpr ⟨s1,λq=>by rw [q,hw] at s2;exact absurd s2 (by decide)⟩,s2,s3⟩
 ·rintro ⟨s,s1,s2⟩;exact ⟨s,((mm s).mp s1).1,s2⟩
theorem Lv.put (L:Lv n T ts R) {x y:Nat}(hxy:x<y) (hy:y<n) (hk:((x:Int),(y:Int))∉ts.map Ti.key):Lv n T (ts++[⟨x,y,0,false⟩]) R:=by
 refine ⟨L.wd,λi hi u v=>?_,L.sz,λu hu=>?_,?_⟩
 ·rw [L.ed i hi]
  constructor
  ·rintro ⟨s,s1,s2⟩;exact ⟨s,fE _ s1,s2⟩
  ·rintro ⟨s,s1,s2,s3⟩
   rcases aQ.mp s1 with q|q
   ·exact ⟨s,q,s2,s3⟩
   ·rw [aA.mp q] at s2;exact absurd s2 bL
 ·rcases aQ.mp hu with q|q
  ·exact L.lt u q
  ·rw [aA.mp q];exact ⟨hxy,hy,aJ _⟩
 ·rw [aT,fZ];exact ⟨L.nd,by simp,λp hp q hq e=>hk (by rw [AF,aA] at hq;have e2:p=((x:Int),(y:Int)):=e.trans hq;rw [← e2];exact hp)⟩
theorem Lv.start (n T:Nat) (hn:2^(T+1)<=n\/T=0):Lv n T [] (λ_ i=>[(i:Int)]) :=
 ⟨λi _=>Wd.start n,λi _ u v=>⟨λ⟨j,_,hm⟩=>by simp [al] at hm,λ⟨t,h,_⟩=>nomatch h⟩,λi hi x hx=>by
  show 2*2^i<=2*n
  refine Nat.mul_le_mul_left 2 ?_
  rcases hn with h|h
  ·exact bz (Sk (by decide) (by lia)) h
  ·have:i=0:=by lia
   subst this
   simp;lia,(λt h=>nomatch h),xv⟩
theorem GC {α:Type} [DecidableEq α]:∀ {l m:List α},l.Nodup->(∀ x∈l,x∈m)->l.length<=m.length
 | [],m,_,_=>aJ _
 | a::l,m,hn,h=>by
  obtain ⟨h1,h2⟩:=bA.mp hn;have hm:=h a av;have:=GC (l:=l) (m:=m.erase a) h2 λx hx=>(List.mem_erase_of_ne (λe:x=a=>h1 (e▸hx))).mpr (h x (ak _ hx));rw [KJ hm] at this;have:=nY hm;simp only [bV];lia
structure Zp (n T lv s o:Nat) (ts:List Ti) (R:Nat->Nat->List Int) (ps:List (Int×Int)) (i:Nat) (ts1:List Ti) (R1:Nat->Nat->List Int):Prop where
 dn:Dn n T ts1 R1 s o (lv+1)
 rl:R1 lv=R lv
 ks:ts1.map Ti.key=ts.map Ti.key
 pend:∀ t∈ts1,t.wd=true->t.cT=lv->(t.x:Int)∈R lv s->(t.y:Int)∈R lv s->t.key∈ps.drop i
 rem:∀ p∈ps.drop i,∃ t∈ts1,t.key=p/\t.wd=true/\t.cT=lv/\(t.x:Int)∈R lv s/\(t.y:Int)∈R lv s
 all:∀ p∈ps,∃ t∈ts1,t.key=p/\t.wd=true
variable {s o lv i:Nat}{ps:List (Int×Int)}{p:Int×Int}{ts1:List Ti}{R1:Nat->Nat->List Int}
theorem Zp.step (L:Zp n T lv s o ts R ps i ts1 R1) (hT:∀ j,2^(j+1)<=n->j<=T) (hs:((R lv s).length+1)*2^(lv+1)<=2*n) (hn:ps.Nodup) (hi:ps[i]?=some p) :
  ∃ t∈ts1,t.key=p/\t.wd=true/\t.cT+1<=T/\(t.y:Int)∉R1 (t.cT+1) t.x/\Zp n T lv s o ts R ps (i+1) (i7 ts1 t.key Ti.up) (Yq R1 (t.cT+1) t.x t.y):=by
 obtain ⟨hlt,he⟩:=aB.mp hi
 have ed:ps.drop i=p::ps.drop (i+1):=by rw [jg hlt,he]
 have hpn:p∉ps.drop (i+1):=by
  have:=(UB i ps).nodup hn;rw [ed] at this;exact (bA.mp this).1
 obtain ⟨t,t1,t2,t3,t4,t5,t6⟩:=L.rem p (by rw [ed];exact av);have hnd:=L.dn.lv.nd;have q:=L.dn.YH hT (by rw [L.rl];exact hs) t1 t3 t4 (by rw [L.rl];exact t5) (by rw [L.rl];exact t6);have mm:=mH (f:=Ti.up) hnd t1;rw [← t4] at q;refine ⟨t,t1,t2,t3,q.1,q.2.1,by rw [t4] at q ⊢;exact q.2.2,?_,?_,λu hu h1 h2 h3 h4=>?_,λp' hp'=>?_,λp' hp'=>?_⟩
 ·show (if _ then _ else _)=_
  rw [if_neg (by lia)];exact L.rl
 ·rw [ma (f:=Ti.up) (λ_=>rfl)];exact L.ks
 ·rcases (mm u).mp hu with rfl|⟨h5,h6⟩
  ·exact absurd h2 (by show ¬ t.cT+1=lv;lia)
  ·have:=L.pend u h5 h1 h2 h3 h4;rw [ed] at this;exact (ax.mp this).resolve_left λe=>h6 (e.trans t2.symm)
 ·obtain ⟨u,u1,u2,u3⟩:=L.rem p' (by rw [ed];exact ak _ hp');exact ⟨u,(mm u).mpr (.inr ⟨u1,λe=>hpn (by rw [← t2,← e,u2];exact hp')⟩),u2,u3⟩
 ·obtain ⟨u,u1,u2,u3⟩:=L.all p' hp'
  by_cases c:u.key=t.key
  ·exact ⟨t.up,(mm _).mpr (.inl rfl),by rw [← u2,c];rfl,t3⟩
  ·exact ⟨u,(mm u).mpr (.inr ⟨u1,c⟩),u2,u3⟩
structure Ox (n T lv s o:Nat) (ts:List Ti) (R:Nat->Nat->List Int) (ps:List (Int×Int)) (i:Nat) (ts1:List Ti):Prop where
 dn:Dn n T ts1 R s o (lv+1)
 ks:ts1.map Ti.key=ts.map Ti.key
 full:lv+1<=T->∀ x y,x<n->y<n->(x:Int)∈R lv s->(y:Int)∈R lv s->(y:Int)∈R (lv+1) x
 rem:∀ p∈ps.drop i,∃ t∈ts1,t.key=p/\t.wd=false/\t.cT=lv
 done:∀ t∈ts1,t.wd=false->t.cT=lv->t.key∈ps.drop i\/((t.x:Int)∉R lv s/\(t.y:Int)∉R lv s)
theorem Ox.at (L:Ox n T lv s o ts R ps i ts1) (hn:ps.Nodup) (hi:ps[i]?=some p):∃ t∈ts1,t.key=p/\t.wd=false/\t.cT=lv/\ps.drop i=p::ps.drop (i+1)/\p∉ps.drop (i+1):=by
 obtain ⟨hlt,he⟩:=aB.mp hi
 have ed:ps.drop i=p::ps.drop (i+1):=by rw [jg hlt,he]
 obtain ⟨t,t1,t2,t3,t4⟩:=L.rem p (by rw [ed];exact av);refine ⟨t,t1,t2,t3,t4,ed,?_⟩;have:=(UB i ps).nodup hn;rw [ed] at this;exact (bA.mp this).1
theorem Ox.zero (L:Ox n T lv s o ts R ps i ts1) (hn:ps.Nodup) (hi:ps[i]?=some p) (h1:p.1∉R lv s) (h2:p.2∉R lv s):Ox n T lv s o ts R ps (i+1) ts1:=by
 obtain ⟨t,t1,t2,t3,t4,ed,hp⟩:=L.at hn hi;refine ⟨L.dn,L.ks,L.full,λq hq=>L.rem q (by rw [ed];exact ak _ hq),λu u1 u2 u3=>?_⟩
 rcases L.done u u1 u2 u3 with h|h
 ·rw [ed] at h
  rcases ax.mp h with e|h
  ·have e1:(u.x:Int)=p.1:=by rw [← e];rfl
   have e2:(u.y:Int)=p.2:=by rw [← e];rfl
   exact .inr (by rw [e1,e2];exact ⟨h1,h2⟩)
  ·exact .inl h
 ·exact .inr h
theorem Ox.two (L:Ox n T lv s o ts R ps i ts1) (hT:∀ j,2^(j+1)<=n->j<=T) (hs:((R lv s).length+1)*2^(lv+1)<=2*n) (hn:ps.Nodup) (hi:ps[i]?=some p) (h1:p.1∈R lv s) (h2:p.2∈R lv s):∃ t∈ts1,t.key=p/\t.wd=false/\Ox n T lv s o ts R ps (i+1) (i7 ts1 t.key Ti.up):=by
 obtain ⟨t,t1,t2,t3,t4,ed,hp⟩:=L.at hn hi;subst t2;have hl:=L.dn.lv.lt t t1;have hT1:=L.dn.Zr hT hs (x:=t.x) (y:=t.y) h1 h2 (by lia);have mm:=mH (f:=Ti.up) L.dn.lv.nd t1;refine ⟨t,t1,rfl,t3,L.dn.YM t1 t3 t4 hT1 (L.full hT1 _ _ (by lia) hl.2.1 h1 h2),?_,L.full,λq hq=>?_,λu hu h3 h4=>?_⟩
 ·rw [ma (f:=Ti.up) (λ_=>rfl)];exact L.ks
 ·obtain ⟨u,u1,u2,u3⟩:=L.rem q (by rw [ed];exact ak _ hq);exact ⟨u,(mm u).mpr (.inr ⟨u1,λe=>hp (by rw [← e,u2];exact hq)⟩),u2,u3⟩
 ·rcases (mm u).mp hu with rfl|⟨h5,h6⟩
  ·exact absurd h4 (by show ¬ t.cT+1=lv;lia)
  ·rcases L.done u h5 h3 h4 with h|h
   ·rw [ed] at h;exact .inl ((ax.mp h).resolve_left h6)
   ·exact .inr h
theorem Ox.one (L:Ox n T lv s o ts R ps i ts1) (hn:ps.Nodup) (hi:ps[i]?=some p) (h:p.1∈R lv s/\p.2∉R lv s\/p.1∉R lv s/\p.2∈R lv s):∃ t∈ts1,t.key=p/\(∀ i,i<=t.cT->(t.y:Int)∉R i t.x)/\Lv n T (i7 ts1 t.key Ti.xr) (Kz R t.cT t.x t.y)/\Jn (i7 ts1 t.key Ti.xr) (Kz R t.cT t.x t.y):=by
 obtain ⟨t,t1,t2,t3,t4,ed,hp⟩:=L.at hn hi;subst t2;exact ⟨t,t1,rfl,L.dn.adopt t1 t3 t4 h⟩
theorem Ox.fin (L:Ox n T lv s o ts R ps i ts1) (hi:ps.length<=i):Dn n T ts1 R s o lv:=L.dn.next λt ht h1 h2=>by
 rcases L.done t ht h1 h2 with h|⟨h3,h4⟩
 ·rw [O5.mpr hi] at h;cases h
 ·exact ⟨λq=>h3 q.1,λq=>h4 q.2⟩
end
end Rm
namespace L2
abbrev Ln (sp:Sp) (k:Nat):Prop:=∀ vs H Q E,sp vs H Q E->vs.length=k
abbrev Rn (sp:Sp) (rd:TS) (N:List bu):Prop:=∀ vs H Q E,sp vs H Q E->rd { nx:=λ_ H'=>Q .non H',rt:=Q } (start N vs) H
abbrev Rx (sp:Sp) (rd:XK->TS) (N:List bu):Prop:=∀ vs H Q E,sp vs H Q E->rd E { nx:=λ_ H'=>Q .non H',rt:=Q } (start N vs) H
theorem lF {H H':Hp}{q:af}{o:HO}(e:upd H q o=H') (h:H q=none):b8 H H'/\H' q=some o:=e▸⟨b8.cw h,aG⟩
theorem kT.m {j k:Nat}{A:bY}(r:kT k A) (h:j<=k:=by decide):kT j A:=r.mono h
end L2
local macro_rules | `(tactic| walk_at "s")=>`(tactic| exact ⟨rfl,rfl,rfl,by decide +kernel,rfl,by decide +kernel,by decide +kernel⟩)
local macro_rules | `(tactic| walk_at "m")=>`(tactic| (walk_at "x";refine L2.qU ?_;walk_at "x"))
local macro_rules | `(tactic| walk_at "f")=>`(tactic| (walk_at "x";refine L2.ni ?_;walk_at "x"))
local macro_rules | `(tactic| walk_at "l")=>`(tactic| (intro vs H Q E h;repeat' (first|(obtain ⟨e,_⟩:=h;exact e▸rfl)|(obtain ⟨_,h⟩:=h))))
namespace K31
open PySem PySem.Spec PyProof.Rows L2
abbrev jH:List bu:=["self","a","b"]
abbrev m8:List bu:=["self","tie"]
abbrev Jl:List bu:=["_law_keeper","_law_known","_law_a","_law_b"]
abbrev Wv:List bu:=["_law_table_here","_law_n","_law_cell","_law_known","_law_rest","_law_high","_law_some","_law_a","_law_b","_law_tie"]
abbrev Ww:List bu:=["_law_script","_law_n","_law_keeper","_law_known","_law_first","_law_a","_law_b","_law_cell","_law_deed_here"]
abbrev xW:List bu:=["self","tie","weight"]
abbrev Ec:List bu:=["level","side","risen","found"]
abbrev Wx:List bu:=["_law_keeper","_law_known","_law_a","_law_b","_law_table_here","_law_due","_law_said","_law_behind"]
abbrev Wy:List bu:=["_law_known","_law_a","_law_near","_law_one","_law_other","_law_seen","_law_row","_law_k"]
abbrev Wz:List bu:=["_law_keeper","_law_known","_law_a","_law_b","_law_members_here","_law_side","_law_said"]
abbrev kZ:List bu:=["self","a"]
abbrev lH:List bu:=["self","n"]
abbrev nj:List bu:=["n","a","b"]
abbrev oW:List bu:=["n","thing"]
abbrev Ap:List bu:=["n","standing","a","b"]
abbrev QY:List bu:=["row","a","b","along","there","back","k","m","inner","outer"]
abbrev QZ:List bu:=["_law_row","_law_cell","_law_size","_law_cut","_law_turned_row"]
abbrev FQ:List bu:=["n","standing","a","b","tie"]
abbrev Aq:List bu:=["self","level","tie"]
abbrev CB:List bu:=["_law_script","_law_k"]
abbrev Q0:List bu:=["self","level","tie","side","risen","other","ends"]
abbrev M7:List bu:=["_law_table_here","_law_n","_law_cell"]
abbrev CC:List bu:=["ties","weight_of"]
abbrev M8:List bu:=["a","b","level","in_wood","n"]
abbrev Q1:List bu:=["_law_table_here","_law_row","_law_number"]
abbrev qe:List bu:=["thing"]
abbrev Q2:List bu:=["self","tie","level","looking","trail"]
abbrev Jm:List bu:=["_law_known","_law_a"]
abbrev Jo:List bu:=["_law_n","_law_cell"]
abbrev tE:List bu:=["trail"]
abbrev M9:List bu:=["self","level","wooden"]
abbrev CD:List bu:=["tie","side"]
abbrev Q3:List bu:=["_law_n","_law_cell","_law_way"]
abbrev Q4:List bu:=["self","level","wooden","ties"]
abbrev Na:List bu:=["row","other","a","b"]
abbrev Q5:List bu:=["self","a","b","tie","trail"]
abbrev Nc:List bu:=["_law_row","_law_cell"]
abbrev Q6:List bu:=["self","tie","level","wood"]
abbrev Q7:List bu:=["self","level","tie","wood"]
abbrev Q8:List bu:=["row","other","a","b","k"]
abbrev CF:List bu:=["n","ties"]
abbrev CG:List bu:=["_law_row"]
abbrev Ar:List bu:=["a","b"]
abbrev Nd:List bu:=["_law_table_here"]
abbrev Jp:List bu:=["_law_script"]
abbrev Jq:List bu:=["self","row"]
abbrev Q9:List bu:=["self","a","b","row"]
abbrev Rb:List bu:=["n","level","needed"]
abbrev Rc:List bu:=["self","row","place"]
abbrev xX:List bu:=["self"]
abbrev CI:List bu:=["_law_k"]
abbrev Re:List bu:=["self","tie","wood"]
abbrev Ng:List bu:=["row","a","b"]
def oE (i:Nat):dU:=PySem.Challenge.pw_tiewood_k31_ties_put.main.body.getD i (.Pass ⟨0,0,0,0⟩)
abbrev zf:dU:=oE 3
abbrev zg:dU:=oE 4
abbrev zh:dU:=oE 5
abbrev stop:dU:=oE 6
abbrev GD:dU:=oE 7
abbrev GE:dU:=oE 9
abbrev Lp:dU:=oE 10
abbrev Lq:dU:=oE 11
abbrev sI:dU:=oE 21
abbrev GF:dU:=oE 22
abbrev CJ:dU:=oE 23
abbrev GG:dU:=oE 24
abbrev nA:dU:=oE 26
abbrev mI:dU:=oE 27
abbrev oM:dU:=oE 28
abbrev zj:dU:=oE 31
abbrev sJ:dU:=oE 32
abbrev CK:dU:=oE 35
abbrev qW:dU:=oE 36
abbrev qX:dU:=oE 41
abbrev ue:dU:=oE 42
abbrev uf:dU:=oE 43
abbrev wG:dU:=oE 44
abbrev qY:dU:=oE 45
abbrev ug:dU:=oE 46
abbrev zk:dU:=oE 47
abbrev uh:dU:=oE 48
abbrev WB:dU:=oE 49
abbrev qf:dU:=fv (oE 29) 0
abbrev wH:dU:=fv (oE 29) 1
abbrev wI:dU:=fv (oE 29) 2
abbrev zl:dU:=fv (oE 29) 3
abbrev sL:dU:=fv (oE 29) 4
abbrev ui:dU:=fv (oE 29) 5
abbrev wJ:dU:=fv (oE 29) 6
abbrev nB:dU:=fv (oE 33) 0
abbrev uj:dU:=fv (oE 33) 1
abbrev qZ:dU:=fv (oE 33) 2
abbrev sM:dU:=fv (oE 33) 3
abbrev sN:dU:=fv (oE 33) 4
abbrev nC:dU:=fv (oE 33) 5
abbrev sO:dU:=fv (oE 33) 6
abbrev lb:dU:=fv (oE 33) 7
abbrev sP:dU:=fv (oE 33) 8
abbrev sQ:dU:=fv (oE 33) 9
abbrev qg:dU:=fv (oE 37) 0
abbrev rg:dU:=fv (oE 37) 1
abbrev zm:dU:=fv (oE 37) 2
abbrev sR:dU:=fv (oE 37) 3
abbrev wK:dU:=fv (oE 37) 5
abbrev wL:dU:=fv (oE 37) 6
abbrev uk:dU:=fv (oE 39) 0
theorem Lr:bU qe qe (bg zf):=by walk_at "s"
theorem Ls:bU qe qe (bg zg):=by walk_at "s"
theorem Lu:bU oW oW (bg zh):=by walk_at "s"
theorem Jr:bU Rb ["n"] (bg stop):=by walk_at "s"
theorem Rg:bU Ar Ar (bg GD):=by walk_at "s"
theorem Rh:bU CF CF (bg GE):=by walk_at "s"
theorem TX:bU tE tE (bg Lp):=by walk_at "s"
theorem Nh:bU ["trail","finds"] tE (bg Lq):=by walk_at "s"
theorem Ee:bU ["row"] ["row"] (bg sI):=by walk_at "s"
theorem Js:bU ["row","a","k"] ["row","a"] (bg GF):=by walk_at "s"
theorem FR:bU Q8 Na (bg CJ):=by walk_at "s"
theorem og:bU QY Ng (bg GG):=by walk_at "s"
theorem xY:bU oW oW (bg nA):=by walk_at "s"
theorem wM:bU nj nj (bg mI):=by walk_at "s"
theorem zq:bU nj nj (bg oM):=by walk_at "s"
theorem Lx:bU CC CC (bg zj):=by walk_at "s"
theorem Eg:bU CD CD (bg sJ):=by walk_at "s"
theorem FS:bU FQ Ap (bg CK):=by walk_at "s"
theorem um:bU FQ Ap (bg qW):=by walk_at "s"
theorem CL:bU CB CB (bg qX):=by walk_at "s"
theorem xZ:bU Q3 Jo (bg ue):=by walk_at "s"
theorem ph:bU QZ Nc (bg uf):=by walk_at "s"
theorem jA:bU Wv M7 (bg wG):=by walk_at "s"
theorem fJ:bU Wy Jm (bg qY):=by walk_at "s"
theorem sS:bU Q1 Nd (bg ug):=by walk_at "s"
theorem qh:bU Wx Jl (bg zk):=by walk_at "s"
theorem pj:bU Wz Jl (bg uh):=by walk_at "s"
theorem tF:bU Ww Jp (bg WB):=by walk_at "s"
theorem AI:bU lH lH (bg qf):=by walk_at "s"
theorem As:bU Rc Jq (bg wH):=by walk_at "s"
theorem Jt:bU jH jH (bg wI):=by walk_at "s"
theorem CM:bU Q9 jH (bg zl):=by walk_at "s"
theorem Eh:bU jH jH (bg sL):=by walk_at "s"
theorem GH:bU kZ kZ (bg ui):=by walk_at "s"
theorem Ju:bU kZ kZ (bg wJ):=by walk_at "s"
theorem x3:bU lH lH (bg nB):=by walk_at "s"
theorem GI:bU xW xW (bg uj):=by walk_at "s"
theorem uo:bU Re m8 (bg qZ):=by walk_at "s"
theorem Ei:bU m8 m8 (bg sM):=by walk_at "s"
theorem rh:bU Q6 m8 (bg sN):=by walk_at "s"
theorem qK:bU Q4 M9 (bg nC):=by walk_at "s"
theorem Ej:bU m8 m8 (bg sO):=by walk_at "s"
theorem oh:bU Q7 Aq (bg lb):=by walk_at "s"
theorem jU:bU Q0 Aq (bg sP):=by walk_at "s"
theorem jV:bU Q2 m8 (bg sQ):=by walk_at "s"
theorem AJ:bU lH lH (bg qg):=by walk_at "s"
theorem CN:bU xW xW (bg rg):=by walk_at "s"
theorem wO:bU Q5 jH (bg zm):=by walk_at "s"
theorem Ek:bU jH jH (bg sR):=by walk_at "s"
theorem Jw:bU kZ kZ (bg wK):=by walk_at "s"
theorem Jx:bU xX xX (bg wL):=by walk_at "s"
theorem GJ:bU jH jH (bg uk):=by walk_at "s"
structure CA where
  (bB Keeper:af)
structure oi (K:aa) (mg:bu->Option aj) (C:af) (A:CA):Prop where
 kR:DX K C
 Ug:mg "Wood"=some (.ref C)
 uU:dY K C "n"
 oB:dY K C "rows"
 hJ:DX K A.bB
 Oy:mg "Levels"=some (.ref A.bB)
 iY:dY K A.bB "level_of"
 iK:dY K A.bB "weight_of"
 jO:dY K A.bB "wooden"
 kI:dY K A.bB "woods"
 iC:DX K A.Keeper
 Ot:mg "Keeper"=some (.ref A.Keeper)
 lM:dY K A.Keeper "came"
 jP:dY K A.Keeper "levels"
 jN:dY K A.Keeper "looked"
 lN:dY K A.Keeper "lost"
 qB:dY K A.Keeper "n"
 kJ:dY K A.Keeper "risen"
 lL:dY K A.Keeper "wood"
 DN:mg "bool"=none
 U8:mg "int"=none
 gm:mg "isinstance"=none
 uV:mg "len"=none
 HI:mg "list"=none
 Kk:mg "max"=none
 Kl:mg "min"=none
 tu:mg "range"=none
 Ml:mg "reversed"=none
 YJ:mg "set"=none
 mS:mg "sorted"=none
 U6:mg "sum"=none
 Ue:mg "tuple"=none
 YI:mg "zip"=none
 Fg:∃ t:Xr,mg "MOST_PLACES"=some (.int 200 t)
variable {P:a9}{w:bQ}{K:aa}{mg:bu->Option aj}{base:cm}{f:af}{fd:fB}{sp:Sp}{C:af}{A:CA}
def uq (K:aa) (C:af):TS :=
 eY (BJ (qT (AH K) (ay (aw 0) (ay (tC (.ty "int")) bj))) (Pb (qT (AH K) (ay (aw 0) (ay (tC (.ty "bool")) bj)))))
theorem Jy (Fu:lZ K "is_whole" "is_whole" zf f fd) (T:oi K mg C A)
 (len:Ln sp 1) (run:Rn sp (uq K C) qe):dF P w K mg base eN 1 f fd qe sp :=
 Fu.oj Lr len run λ_ _ _ _ _ _ hr =>
 aS (cb (BL (cg lE rfl T.gm BootT.i5 (ai (pv 0) (ai (nQ rfl T.U8 BootT.int rfl) aH))) (BK (Vx (cg lE rfl T.gm BootT.i5 (ai (pv 0) (ai (nQ rfl T.DN BootT.bool rfl) aH)))))))
def ur (K:aa) (C:af) (ft:Sp):TS :=
 eY (BJ (dS ft [] E0 (ay (aw 0) bj)) (Gg (tO λi j=>.bl (decide (i<=j))) (tO λi j=>.bl (decide (i<=j))) (tC (.int 1)) (aw 0) (tC (.int 200))))
theorem Jz (Fu:lZ K "is_count" "is_count" zg f fd) (T:oi K mg C A) {ft:Sp}(kB:rR P w K mg base eN 1 "is_whole" qe ft)
 (len:Ln sp 1) (run:Rn sp (ur K C ft) qe):dF P w K mg base eN 2 f fd qe sp :=
 Fu.oj Ls len run λ_ _ _ _ _ _ hr =>
 aS (cb (BL (qE kB hr.m rfl b0 (ai (pv 0) aH)) (BK (Iy Iw Iw aU (pv 0) (SF rfl T.Fg.choose_spec ⟨_,rfl⟩)))))
def uu (K:aa) (C:af) (ft:Sp):TS :=
 eY (BJ (dS ft [] E0 (ay (aw 1) bj)) (Gg (tO λi j=>.bl (decide (i<=j))) (tO λi j=>.bl (decide (i<j))) (tC (.int 0)) (aw 1) (aw 0)))
theorem JA (Fu:lZ K "is_place" "is_place" zh f fd) (T:oi K mg C A) {ft:Sp}(kB:rR P w K mg base eN 1 "is_whole" qe ft)
 (len:Ln sp 2) (run:Rn sp (uu K C ft) oW):dF P w K mg base eN 2 f fd oW sp :=
 Fu.oj Lu len run λ_ _ _ _ _ _ hr =>
 aS (cb (BL (qE kB hr.m rfl b0 (ai (pv 1) aH)) (BK (Iy Iw xF aU (pv 1) (pv 0)))))
def JB (K:aa) (C:af):TS :=
 BM (eL (cV (tO λi j=>.bl (decide (i<=j))) (aw 2) (aw 0)))
 (bZ (Pc 1 (tC (.int 1)) (tO λi j=>.int (i+j)))
 (Pc 2 (tC (.int 2)) (rI Oz λi j=>.int (i*j))))
def Ly (K:aa) (C:af):TS :=
 bZ (eO (tC (.int 0)) (bJ 1))
 (bZ (eO (tC (.int 4)) (bJ 2))
 (bZ (JB K C)
 (eY (aw 1))))
theorem WC (Fu:lZ K "top" "top" stop f fd) (T:oi K mg C A)
 (len:Ln sp 1) (run:Rn sp (Ly K C) Rb):dF P w K mg base eN 1 f fd ["n"] sp :=
 Fu.oj Jr len run λ_ _ _ _ _ _ hr =>
 aE (eh Jr.nd aU)
 (aE (eh Jr.nd aU)
 (aE (BN cZ (cz Iw (pv 2) (pv 0) (dj _))
 (aE (KM (i:=1) Jr.nd rfl (Or.inl rfl) aU SQ)
 (aS (KM (i:=2) Jr.nd rfl (Or.inl rfl) aU SS))))
 (aS (cb (pv 1)))))
def zr (K:aa) (C:af):TS :=
 eY (Xm (eL (cV (tO λi j=>.bl (decide (i<j))) (aw 0) (aw 1))) (mn (ay (aw 0) (ay (aw 1) bj))) (mn (ay (aw 1) (ay (aw 0) bj))))
theorem N9 (Fu:lZ K "tie_of" "tie_of" GD f fd) (T:oi K mg C A)
 (len:Ln sp 2) (run:Rn sp (zr K C) Ar):dF P w K mg base eN 1 f fd Ar sp :=
 Fu.oj Rg len run λ_ _ _ _ _ _ hr =>
 aS (cb (xD (cz xF (pv 0) (pv 1) (dj _)) (gF (ai (pv 0) (ai (pv 1) aH))) (gF (ai (pv 1) (ai (pv 0) aH)))))
def zt (K:aa) (C:af) (nE:Sp):TS :=
 eY (qT (QC K) (ay (kx 4 [0] (pZ K (aw 1)) (Ir K 4 (l7 (bJ 0) (l7 (bJ 1) (l7 (bJ 2) (l7 (bJ 3) Iq))))) xO (cV (tO λi j=>.int (i-j)) (dS nE [] E0 (ay (aw 4) bj)) (aw 2))) bj))
theorem Oa (Fu:lZ K "credit" "credit" GE f fd) (T:oi K mg C A) {nE:Sp}(Au:rR P w K mg base eN 1 "top" ["n"] nE)
 (len:Ln sp 2) (run:Rn sp (zt K C nE) CF):dF P w K mg base eN 2 f fd CF sp :=
 Fu.oj Rh len run λ_ _ _ _ _ _ hr =>
 aS (cb (cg (FO rfl) rfl T.U6 BootT.sum (ai (kb ["a","b","level","in_wood"] (ys:=["n"]) [0] rfl (i6 (pv 1)) ⟨rfl,.inl rfl,rfl,trivial⟩ (λ_ _ _=>yY rfl (gb (eS (show (M8:List bu).Nodup by decide +kernel)) (gb (eS (show (M8:List bu).Nodup by decide +kernel)) (gb (eS (show (M8:List bu).Nodup by decide +kernel)) (gb (eS (show (M8:List bu).Nodup by decide +kernel)) u7))))) (λ_ _ _=>mE) (λ_ _ _=>cI BP (qE Au hr.m rfl b0 (ai (pv 4) aH)) (pv 2))) aH)))
def CO (K:aa) (C:af):TS :=
 eY (qT (QC K) (ay (kx 4 [] (pZ K (aw 0)) (Ir K 4 (l7 (bJ 0) (l7 (bJ 1) (l7 (bJ 2) (l7 (bJ 3) Iq))))) xO (qT (vv K) (ay (aw 2) bj))) bj))
theorem Ri (Fu:lZ K "rises" "rises" Lp f fd) (T:oi K mg C A)
 (len:Ln sp 1) (run:Rn sp (CO K C) tE):dF P w K mg base eN 1 f fd tE sp :=
 Fu.oj TX len run λ_ _ _ _ _ _ hr =>
 aS (cb (cg (FO rfl) rfl T.U6 BootT.sum (ai (kb Ec (ys:=[]) [] rfl (i6 (pv 0)) trivial (λ_ _ _=>yY rfl (gb (eS (show (Ec:List bu).Nodup by decide +kernel)) (gb (eS (show (Ec:List bu).Nodup by decide +kernel)) (gb (eS (show (Ec:List bu).Nodup by decide +kernel)) (gb (eS (show (Ec:List bu).Nodup by decide +kernel)) u7))))) (λ_ _ _=>mE) (λ_ _ _=>cg jq rfl T.uV BootT.len (ai (pv 2) aH))) aH)))
def CP (K:aa) (C:af) (iT:Sp):TS :=
 bZ (eO (kx 4 [] (pZ K (aw 0)) (Ir K 4 (l7 (bJ 0) (l7 (bJ 1) (l7 (bJ 2) (l7 (bJ 3) Iq))))) (tB (MD (aw 3))) (aw 3)) (bJ 1))
 (eY (Xm (oJ K (aw 1)) (cV iu (dS iT [] E0 (ay (aw 0) bj)) (tC (.int 1))) (dS iT [] E0 (ay (aw 0) bj))))
theorem Rj (Fu:lZ K "looks" "looks" Lq f fd) (T:oi K mg C A) {iT:Sp}(pq:rR P w K mg base eN 1 "rises" tE iT)
 (len:Ln sp 1) (run:Rn sp (CP K C iT) ["trail","finds"]):dF P w K mg base eN 2 f fd tE sp :=
 Fu.oj Nh len run λ_ _ _ _ _ _ hr =>
 aE (xQ (i:=1) Ec (ys:=[]) [] rfl Nh.nd rfl rfl (i6 (pv 0)) trivial (λ_ _ _=>yY rfl (gb (eS (show (Ec:List bu).Nodup by decide +kernel)) (gb (eS (show (Ec:List bu).Nodup by decide +kernel)) (gb (eS (show (Ec:List bu).Nodup by decide +kernel)) (gb (eS (show (Ec:List bu).Nodup by decide +kernel)) u7))))) (λ_ _ _=>lD (Pa (ME (pv 3)))) (λ_ _ _=>pv 3))
 (aS (cb (xD (iI (pv 1) (λ_=>rfl)) (cI d7 (qE pq hr.m rfl b0 (ai (pv 0) aH)) aU) (qE pq hr.m rfl b0 (ai (pv 0) aH)))))
def qi (K:aa) (C:af):TS :=
 eY (Qh K (ay (aw 0) (ay (Ky (tP K) (aw 0) (mB (tC (.int 1))) kM) bj)))
theorem CQ (Fu:lZ K "steps_along" "steps_along" sI f fd) (T:oi K mg C A)
 (len:Ln sp 1) (run:Rn sp (qi K C) ["row"]):dF P w K mg base eN 1 f fd ["row"] sp :=
 Fu.oj Ee len run λ_ _ _ _ _ _ hr =>
 aS (cb (Tv rfl rfl T.HI rfl T.YI (ai (pv 0) (ai (iR kO (pv 0) (iQ aU) mC) aH))))
def zu (K:aa) (C:af):TS :=
 bZ (eO (FA K "list" (sG K) (aw 0) (ay (aw 1) bj)) (bJ 2))
 (eY (cV iu (Ky (tP K) (aw 0) (mB (aw 2)) kM) (Ky (tP K) (aw 0) (mB (tC (.int 1))) (mB (cV iu (aw 2) (tC (.int 1)))))))
theorem Ob (Fu:lZ K "turned" "turned" GF f fd) (T:oi K mg C A)
 (len:Ln sp 2) (run:Rn sp (zu K C) ["row","a","k"]):dF P w K mg base eN 1 f fd ["row","a"] sp :=
 Fu.oj Js len run λ_ _ _ _ _ _ hr =>
 aE (eh Js.nd (oU cU ic mw (vg hr.units) (pv 0) (ai (pv 1) aH)))
 (aS (cb (cI d7 (iR kO (pv 0) (iQ (pv 2)) mC) (iR kO (pv 0) (iQ aU) (iQ (cI d7 (pv 2) aU))))))
def wQ (K:aa) (C:af) (nF:Sp):TS :=
 bZ (eO (FA K "list" (sG K) (aw 0) (ay (aw 2) bj)) (bJ 4))
 (eY (cV iu (cV iu (Ky (tP K) (aw 0) kM (mB (cV iu (aw 4) (tC (.int 1))))) (dS nF [] E0 (ay (aw 1) (ay (aw 3) bj)))) (Ky (tP K) (aw 0) (mB (aw 4)) kM)))
theorem Lz (Fu:lZ K "spliced" "spliced" CJ f fd) (T:oi K mg C A) {nF:Sp}(uv:rR P w K mg base eN 1 "turned" ["row","a"] nF)
 (len:Ln sp 4) (run:Rn sp (wQ K C nF) Q8):dF P w K mg base eN 2 f fd Na sp :=
 Fu.oj FR len run λ_ _ _ _ _ _ hr =>
 aE (eh FR.nd (oU cU ic mw (vg hr.units) (pv 0) (ai (pv 2) aH)))
 (aS (cb (cI d7 (cI d7 (iR kO (pv 0) mC (iQ (cI d7 (pv 4) aU))) (qE uv hr.m rfl b0 (ai (pv 1) (ai (pv 3) aH)))) (iR kO (pv 0) (iQ (pv 4)) mC))))
def zw (K:aa) (C:af) (cP:Sp):TS :=
 bZ (eO (dS cP [] E0 (ay (aw 0) bj)) (bJ 3))
 (bZ (eO (FA K "list" (sG K) (aw 3) (ay (mn (ay (aw 1) (ay (aw 2) bj))) bj)) (bJ 4))
 (bZ (eO (FA K "list" (sG K) (aw 3) (ay (mn (ay (aw 2) (ay (aw 1) bj))) bj)) (bJ 5))
 (bZ (eO (qT FI (ay (aw 4) (ay (aw 5) bj))) (bJ 6))
 (bZ (eO (qT IP (ay (aw 4) (ay (aw 5) bj))) (bJ 7))
 (bZ (eO (Ky (tP K) (aw 0) (mB (cV iu (aw 6) (tC (.int 1)))) (mB (cV iu (aw 7) (tC (.int 1))))) (bJ 8))
 (bZ (eO (cV iu (Ky (tP K) (aw 0) kM (mB (cV iu (aw 6) (tC (.int 1))))) (Ky (tP K) (aw 0) (mB (cV iu (aw 7) (tC (.int 2)))) kM)) (bJ 9))
 (eY (Xm (eL (cV (tO λi j=>.bl (decide (i<j))) (aw 4) (aw 5))) (mn (ay (aw 9) (ay (aw 8) bj))) (mn (ay (aw 8) (ay (aw 9) bj)))))))))))
theorem Oc (Fu:lZ K "parted" "parted" GG f fd) (T:oi K mg C A) {cP:Sp}(iw:rR P w K mg base eN 1 "steps_along" ["row"] cP)
 (len:Ln sp 3) (run:Rn sp (zw K C cP) QY):dF P w K mg base eN 2 f fd Ng sp :=
 Fu.oj og len run λ_ _ _ _ _ _ hr =>
 aE (eh og.nd (qE iw hr.m rfl b0 (ai (pv 0) aH)))
 (aE (eh og.nd (oU cU ic mw (vg hr.units) (pv 3) (ai (gF (ai (pv 1) (ai (pv 2) aH))) aH)))
 (aE (eh og.nd (oU cU ic mw (vg hr.units) (pv 3) (ai (gF (ai (pv 2) (ai (pv 1) aH))) aH)))
 (aE (eh og.nd (cg (rN rfl) rfl T.Kl BootT.min (ai (pv 4) (ai (pv 5) aH))))
 (aE (eh og.nd (cg (u9 rfl) rfl T.Kk BootT.max (ai (pv 4) (ai (pv 5) aH))))
 (aE (eh og.nd (iR kO (pv 0) (iQ (cI d7 (pv 6) aU)) (iQ (cI d7 (pv 7) aU))))
 (aE (eh og.nd (cI d7 (iR kO (pv 0) mC (iQ (cI d7 (pv 6) aU))) (iR kO (pv 0) (iQ (cI d7 (pv 7) aU)) mC)))
 (aS (cb (xD (cz xF (pv 4) (pv 5) (dj _)) (gF (ai (pv 9) (ai (pv 8) aH))) (gF (ai (pv 8) (ai (pv 9) aH))))))))))))
def lU (K:aa) (C:af) (kC:Sp):TS :=
 jw (tZ (oJ K (dS kC [] E0 (ay (aw 0) (ay (aw 1) bj)))))
 t7
 fU
theorem wR (Fu:lZ K "refuse_no_place" "refuse_no_place" nA f fd) (T:oi K mg C A) {kC:Sp}(qj:rR P w K mg base eN 2 "is_place" oW kC)
 (len:Ln sp 2) (run:Rn sp (lU K C kC) oW):dF P w K mg base eN 3 f fd oW sp :=
 Fu.oj xY len run λ_ _ _ _ _ _ hr =>
 aS (f9 (lS (iI (qE qj hr.m rfl b0 (ai (pv 0) (ai (pv 1) aH))) (λ_=>rfl)))
 (aS pV)
 cX)
def lg (K:aa) (C:af) (bG:Sp):TS :=
 bZ (ir (dS bG [] E0 (ay (aw 0) (ay (aw 1) bj))))
 (ir (dS bG [] E0 (ay (aw 0) (ay (aw 2) bj))))
theorem vw (Fu:lZ K "refuse_no_places" "refuse_no_places" mI f fd) (T:oi K mg C A) {bG:Sp}(cL:rR P w K mg base eN 3 "refuse_no_place" oW bG)
 (len:Ln sp 3) (run:Rn sp (lg K C bG) nj):dF P w K mg base eN 4 f fd nj sp :=
 Fu.oj wM len run λ_ _ _ _ _ _ hr =>
 aE (dR (qE cL hr.m rfl b0 (ai (pv 0) (ai (pv 1) aH))))
 (aS (dR (qE cL hr.m rfl b0 (ai (pv 0) (ai (pv 2) aH)))))
def mJ (K:aa) (C:af) (ck:Sp):TS :=
 bZ (ir (dS ck [] E0 (ay (aw 0) (ay (aw 1) (ay (aw 2) bj)))))
 (jw (eL (cV (m7 K) (aw 1) (aw 2)))
 t7
 fU)
theorem x4 (Fu:lZ K "refuse_no_pair" "refuse_no_pair" oM f fd) (T:oi K mg C A) {ck:Sp}(eC:rR P w K mg base eN 4 "refuse_no_places" nj ck)
 (len:Ln sp 3) (run:Rn sp (mJ K C ck) nj):dF P w K mg base eN 5 f fd nj sp :=
 Fu.oj zq len run λ_ _ _ _ _ _ hr =>
 aE (dR (qE eC hr.m rfl b0 (ai (pv 0) (ai (pv 1) (ai (pv 2) aH)))))
 (aS (f9 (cz (iH hr.units) (pv 1) (pv 2) (dj _))
 (aS pV)
 cX))
def qL (K:aa) (C:af) (Pt:af):TS :=
 eY (Lk Pt ⟨119,28,119,61⟩ ((("in_order":bu)++".<locals>.")++"<lambda>") 1 (ay (aw 0) bj))
theorem JC (Fu:lZ K "in_order" "in_order" zj f fd) (T:oi K mg C A) {c Pt:af}(hcd:fd.code=.ref c) (CH:pI base c Pt) (B:base.BuiltinsAt mg Pt)
 (len:Ln sp 2) (run:Rn sp (qL K C Pt) CC):dF P w K mg base eN 1 f fd CC sp :=
 Fu.okC hcd Lx len λA0 outer s H vs Q E hr h=>⟨qL K C Pt,
 aS (cb (QQ rfl rfl CH B hr.depth hr.RV rfl T.mS (ai (pv 0) aH) rfl rfl)),run vs H Q E h⟩
def qk (K:aa) (C:af):TS :=
 eY (qT (vv K) (ay (kx 1 [1] (pZ K (aw 0)) (bJ 0) (eL (cV (y8 K false) (aw 0) (aw 1))) (aw 0)) bj))
theorem CS (Fu:lZ K "ends_within" "ends_within" sJ f fd) (T:oi K mg C A)
 (len:Ln sp 2) (run:Rn sp (qk K C) CD):dF P w K mg base eN 1 f fd CD sp :=
 Fu.oj Eg len run λ_ _ _ _ _ _ hr =>
 aS (cb (cg jq rfl T.uV BootT.len (ai (kb ["place"] (ys:=["side"]) [1] rfl (i6 (pv 0)) ⟨rfl,.inl rfl,rfl,trivial⟩ (λ_ _ _=>eS (show (["place","side"]:List bu).Nodup by decide +kernel)) (λ_ _ _=>lD (cz (Gp hr.units) (pv 0) (pv 1) (by with_unfolding_all rfl))) (λ_ _ _=>pv 0)) aH)))
def wU (K:aa) (C:af) (bh iB:Sp):TS :=
 bZ (ir (dS bh [] E0 (ay (aw 0) (ay (aw 2) (ay (aw 3) bj)))))
 (bZ (eO (dS iB [] E0 (ay (aw 2) (ay (aw 3) bj))) (bJ 4))
 (bZ (jw (eL (cV (y8 K false) (aw 4) (aw 1)))
 t7
 fU)
 (eY (aw 4))))
theorem LA (Fu:lZ K "new_tie" "new_tie" CK f fd) (T:oi K mg C A) {bh:Sp}(cE:rR P w K mg base eN 5 "refuse_no_pair" nj bh) {iB:Sp}(om:rR P w K mg base eN 1 "tie_of" Ar iB)
 (len:Ln sp 4) (run:Rn sp (wU K C bh iB) FQ):dF P w K mg base eN 6 f fd Ap sp :=
 Fu.oj FS len run λ_ _ _ _ _ _ hr =>
 aE (dR (qE cE hr.m rfl b0 (ai (pv 0) (ai (pv 2) (ai (pv 3) aH)))))
 (aE (eh FS.nd (qE om hr.m rfl b0 (ai (pv 2) (ai (pv 3) aH))))
 (aE (f9 (cz (Gp hr.units) (pv 4) (pv 1) (by with_unfolding_all rfl))
 (aS pV)
 cX)
 (aS (cb (pv 4)))))
def oN (K:aa) (C:af) (bh iB:Sp):TS :=
 bZ (ir (dS bh [] E0 (ay (aw 0) (ay (aw 2) (ay (aw 3) bj)))))
 (bZ (eO (dS iB [] E0 (ay (aw 2) (ay (aw 3) bj))) (bJ 4))
 (bZ (jw (eL (cV (y8 K true) (aw 4) (aw 1)))
 t7
 fU)
 (eY (aw 4))))
theorem AK (Fu:lZ K "standing_tie" "standing_tie" qW f fd) (T:oi K mg C A) {bh:Sp}(cE:rR P w K mg base eN 5 "refuse_no_pair" nj bh) {iB:Sp}(om:rR P w K mg base eN 1 "tie_of" Ar iB)
 (len:Ln sp 4) (run:Rn sp (oN K C bh iB) FQ):dF P w K mg base eN 6 f fd Ap sp :=
 Fu.oj um len run λ_ _ _ _ _ _ hr =>
 aE (dR (qE cE hr.m rfl b0 (ai (pv 0) (ai (pv 2) (ai (pv 3) aH)))))
 (aE (eh um.nd (qE om hr.m rfl b0 (ai (pv 2) (ai (pv 3) aH))))
 (aE (f9 (cz (vf hr.units) (pv 4) (pv 1) (by with_unfolding_all rfl))
 (aS pV)
 cX)
 (aS (cb (pv 4)))))
def oO (K:aa) (C:af):TS :=
 bZ (jw (eL (cV (tO λi j=>.bl (decide (i<j))) (aw 1) (qT (vv K) (ay (aw 0) bj))))
 (eY (cV (eP K) (aw 0) (aw 1)))
 fU)
 (eY (tC (.int 0)))
theorem AM (Fu:lZ K "_law_cell_at" "_law_cell_at" qX f fd) (T:oi K mg C A)
 (len:Ln sp 2) (run:Rn sp (oO K C) CB):dF P w K mg base eN 1 f fd CB sp :=
 Fu.oj CL len run λ_ _ _ _ _ _ hr =>
 aE (f9 (cz xF (pv 1) (cg jq rfl T.uV BootT.len (ai (pv 0) aH)) (dj _))
 (aS (cb (c6 (fF hr.units) (pv 0) (pv 1) (λ_ _=>rfl))))
 cX)
 (aS (cb aU))
def rj (K:aa) (C:af):TS :=
 bZ (eO (cV (rI (λ_ j=>0<j) λi j=>.int (i%j)) (aw 1) (tC (.int 6))) (bJ 2))
 (bZ (jw (eL (cV (m7 K) (aw 2) (tC (.int 1))))
 (eY (kx 1 [] (Ah (ay (cV (tO λi j=>.int (i-j)) (aw 0) (tC (.int 1))) bj)) (bJ 0) xO (mn (ay (aw 0) (ay (cV iu (aw 0) (tC (.int 1))) bj)))))
 fU)
 (bZ (jw (Ip (eL (cV (m7 K) (aw 2) (tC (.int 2)))) (eL (cV (tO λi j=>.bl (decide (j<i))) (aw 0) (tC (.int 2)))))
 (eY (cV iu (kx 1 [] (Ah (ay (cV (tO λi j=>.int (i-j)) (aw 0) (tC (.int 1))) bj)) (bJ 0) xO (mn (ay (aw 0) (ay (cV iu (aw 0) (tC (.int 1))) bj)))) (wo (ay (mn (ay (tC (.int 0)) (ay (cV (tO λi j=>.int (i-j)) (aw 0) (tC (.int 1))) bj))) bj))))
 fU)
 (bZ (jw (eL (cV (m7 K) (aw 2) (tC (.int 3))))
 (eY (kx 1 [0] (Pd (ay (tC (.int 8)) (ay (tC (.int 64)) bj))) (bJ 0) (eL (cV (tO λi j=>.bl (decide (i<j))) (cV iu (cV (rI (λ_ j=>0<j) λi j=>.int (i%j)) (aw 0) (tC (.int 8))) (cV (rI wj λi j=>.int (i/j)) (aw 0) (tC (.int 8)))) (qT FI (ay (aw 1) (ay (tC (.int 8)) bj))))) (mn (ay (cV (rI (λ_ j=>0<j) λi j=>.int (i%j)) (aw 0) (tC (.int 8))) (ay (cV iu (cV (rI (λ_ j=>0<j) λi j=>.int (i%j)) (aw 0) (tC (.int 8))) (cV (rI wj λi j=>.int (i/j)) (aw 0) (tC (.int 8)))) bj)))))
 fU)
 (bZ (jw (eL (cV (m7 K) (aw 2) (tC (.int 4))))
 (eY (kx 1 [0,1] (Ah (ay (aw 0) bj)) (bJ 0) (eL (cV (IL K) (aw 0) (cV (rI (λ_ j=>0<j) λi j=>.int (i%j)) (cV (rI wj λi j=>.int (i/j)) (aw 2) (tC (.int 6))) (aw 1)))) (mn (ay (cV (rI (λ_ j=>0<j) λi j=>.int (i%j)) (cV (rI wj λi j=>.int (i/j)) (aw 2) (tC (.int 6))) (aw 1)) (ay (aw 0) bj)))))
 fU)
 (bZ (jw (eL (cV (m7 K) (aw 2) (tC (.int 5))))
 (eY (kx 1 [0] (Ah (ay (cV (rI Oz λi j=>.int (i*j)) (tC (.int 2)) (aw 0)) bj)) (bJ 0) (eL (cV (tO λi j=>.bl (decide (i<j))) (cV iu (cV iu (cV (rI wj λi j=>.int (i/j)) (aw 0) (tC (.int 2))) (tC (.int 1))) (cV (rI (λ_ j=>0<j) λi j=>.int (i%j)) (aw 0) (tC (.int 2)))) (aw 1))) (mn (ay (cV (rI wj λi j=>.int (i/j)) (aw 0) (tC (.int 2))) (ay (cV iu (cV iu (cV (rI wj λi j=>.int (i/j)) (aw 0) (tC (.int 2))) (tC (.int 1))) (cV (rI (λ_ j=>0<j) λi j=>.int (i%j)) (aw 0) (tC (.int 2)))) bj)))))
 fU)
 (eY (wo bj)))))))
theorem El (Fu:lZ K "_law_shape" "_law_shape" ue f fd) (T:oi K mg C A)
 (len:Ln sp 2) (run:Rn sp (rj K C) Q3):dF P w K mg base eN 1 f fd Jo sp :=
 Fu.oj xZ len run λ_ _ _ _ _ _ hr =>
 aE (eh xZ.nd (cI jG (pv 1) aU))
 (aE (f9 (cz (iH hr.units) (pv 2) aU (dj _))
 (aS (cb (kb CI (ys:=[]) [] rfl (pR rfl T.tu (ai (cI BP (pv 0) aU) aH)) trivial (λ_ _ _=>eS (show (CI:List bu).Nodup by decide +kernel)) (λ_ _ _=>mE) (λ_ _ _=>gF (ai (pv 0) (ai (cI d7 (pv 0) aU) aH))))))
 cX)
 (aE (f9 (PW.pt (yX (cz (iH hr.units) (pv 2) aU (dj _)) (u6 (cz Ph (pv 0) aU (dj _)))))
 (aS (cb (cI d7 (kb CI (ys:=[]) [] rfl (pR rfl T.tu (ai (cI BP (pv 0) aU) aH)) trivial (λ_ _ _=>eS (show (CI:List bu).Nodup by decide +kernel)) (λ_ _ _=>mE) (λ_ _ _=>gF (ai (pv 0) (ai (cI d7 (pv 0) aU) aH)))) (oI (ai (gF (ai aU (ai (cI BP (pv 0) aU) aH))) aH)))))
 cX)
 (aE (f9 (cz (iH hr.units) (pv 2) aU (dj _))
 (aS (cb (kb CI (ys:=["_law_n"]) [0] rfl (NG rfl T.tu (ai aU (ai aU aH))) ⟨rfl,.inl rfl,rfl,trivial⟩ (λ_ _ _=>eS (show (["_law_k","_law_n"]:List bu).Nodup by decide +kernel)) (λ_ _ _=>lD (cz xF (cI d7 (cI jG (pv 0) aU) (cI ka (pv 0) aU)) (cg (rN rfl) rfl T.Kl BootT.min (ai (pv 1) (ai aU aH))) (dj _))) (λ_ _ _=>gF (ai (cI jG (pv 0) aU) (ai (cI d7 (cI jG (pv 0) aU) (cI ka (pv 0) aU)) aH))))))
 cX)
 (aE (f9 (cz (iH hr.units) (pv 2) aU (dj _))
 (aS (cb (kb CI (ys:=Jo) [0,1] rfl (pR rfl T.tu (ai (pv 0) aH)) ⟨rfl,.inl rfl,rfl,⟨rfl,.inl rfl,rfl,trivial⟩⟩ (λ_ _ _=>eS (show (["_law_k","_law_n","_law_cell"]:List bu).Nodup by decide +kernel)) (λ_ _ _=>lD (cz (Ca hr.units) (pv 0) (cI jG (cI ka (pv 2) aU) (pv 1)) (dj _))) (λ_ _ _=>gF (ai (cI jG (cI ka (pv 2) aU) (pv 1)) (ai (pv 0) aH))))))
 cX)
 (aE (f9 (cz (iH hr.units) (pv 2) aU (dj _))
 (aS (cb (kb CI (ys:=["_law_n"]) [0] rfl (pR rfl T.tu (ai (cI VC aU (pv 0)) aH)) ⟨rfl,.inl rfl,rfl,trivial⟩ (λ_ _ _=>eS (show (["_law_k","_law_n"]:List bu).Nodup by decide +kernel)) (λ_ _ _=>lD (cz xF (cI d7 (cI d7 (cI ka (pv 0) aU) aU) (cI jG (pv 0) aU)) (pv 1) (dj _))) (λ_ _ _=>gF (ai (cI ka (pv 0) aU) (ai (cI d7 (cI d7 (cI ka (pv 0) aU) aU) (cI jG (pv 0) aU)) aH))))))
 cX)
 (aS (cb (oI aH))))))))
def rm (K:aa) (C:af):TS :=
 bZ (eO (qT (vv K) (ay (aw 0) bj)) (bJ 2))
 (bZ (jw (eL (cV (m7 K) (aw 2) (tC (.int 0))))
 (eY (wo bj))
 fU)
 (bZ (eO (cV (rI (λ_ j=>0<j) λi j=>.int (i%j)) (aw 1) (aw 2)) (bJ 3))
 (bZ (eO (cV iu (Ky (tP K) (aw 0) (mB (aw 3)) kM) (Ky (tP K) (aw 0) kM (mB (aw 3)))) (bJ 4))
 (bZ (jw (eL (cV (m7 K) (cV (rI (λ_ j=>0<j) λi j=>.int (i%j)) (cV (rI wj λi j=>.int (i/j)) (aw 1) (tC (.int 7))) (tC (.int 2))) (tC (.int 1))))
 (eY (Qp K (ay (aw 4) bj)))
 fU)
 (eY (aw 4))))))
theorem Em (Fu:lZ K "_law_mixed" "_law_mixed" uf f fd) (T:oi K mg C A)
 (len:Ln sp 2) (run:Rn sp (rm K C) QZ):dF P w K mg base eN 1 f fd Nc sp :=
 Fu.oj ph len run λ_ _ _ _ _ _ hr =>
 aE (eh ph.nd (cg jq rfl T.uV BootT.len (ai (pv 0) aH)))
 (aE (f9 (cz (iH hr.units) (pv 2) aU (dj _))
 (aS (cb (oI aH)))
 cX)
 (aE (eh ph.nd (cI jG (pv 1) (pv 2)))
 (aE (eh ph.nd (cI d7 (iR kO (pv 0) (iQ (pv 3)) mC) (iR kO (pv 0) mC (iQ (pv 3)))))
 (aE (f9 (cz (iH hr.units) (cI jG (cI ka (pv 1) aU) aU) aU (dj _))
 (aS (cb (Tx rfl rfl T.HI rfl T.Ml (ai (pv 4) aH))))
 cX)
 (aS (cb (pv 4)))))))
def sT (K:aa) (C:af):TS :=
 bZ (eO (kx 1 [] (pZ K (aw 0)) (bJ 0) xO (mn (ay (cV (eP K) (aw 0) (tC (.int 0))) (ay (cV (eP K) (aw 0) (tC (.int 1))) bj)))) (bJ 3))
 (bZ (eO (cV (rI wj λi j=>.int (i/j)) (aw 2) (tC (.int 8))) (bJ 4))
 (bZ (jw (Ip (eL (cV (tO λi j=>.bl (decide (i<j))) (cV (rI (λ_ j=>0<j) λi j=>.int (i%j)) (aw 2) (tC (.int 8))) (tC (.int 3)))) (eL (cV (tO λi j=>.bl (decide (j<i))) (qT (vv K) (ay (aw 3) bj)) (tC (.int 0)))))
 (bZ (eO (qT (UV K) (ay (kx 1 [] (pZ K (aw 0)) (bJ 0) (oJ K (cV (eP K) (aw 0) (tC (.int 3)))) (cV (eP K) (aw 0) (tC (.int 2)))) bj)) (bJ 5))
 (bZ (eO (kx 1 [5] (pZ K (aw 0)) (bJ 0) (Ip (oJ K (cV (eP K) (aw 0) (tC (.int 3)))) (eL (cV (m7 K) (cV (eP K) (aw 0) (tC (.int 2))) (aw 1)))) (mn (ay (cV (eP K) (aw 0) (tC (.int 0))) (ay (cV (eP K) (aw 0) (tC (.int 1))) bj)))) (bJ 6))
 (eY (mn (ay (tC (.str "out")) (ay (cV (eP K) (aw 6) (cV (rI (λ_ j=>0<j) λi j=>.int (i%j)) (aw 4) (qT (vv K) (ay (aw 6) bj)))) bj))))))
 fU)
 (bZ (jw (Ip (eL (cV (tO λi j=>.bl (decide (i<j))) (cV (rI (λ_ j=>0<j) λi j=>.int (i%j)) (aw 2) (tC (.int 8))) (tC (.int 5)))) (eL (cV (tO λi j=>.bl (decide (j<i))) (qT (vv K) (ay (aw 3) bj)) (tC (.int 0)))))
 (eY (mn (ay (tC (.str "out")) (ay (cV (eP K) (aw 3) (cV (rI (λ_ j=>0<j) λi j=>.int (i%j)) (aw 4) (qT (vv K) (ay (aw 3) bj)))) bj))))
 fU)
 (bZ (eO (cV (rI (λ_ j=>0<j) λi j=>.int (i%j)) (aw 4) (aw 1)) (bJ 7))
 (bZ (eO (cV (rI (λ_ j=>0<j) λi j=>.int (i%j)) (cV (rI wj λi j=>.int (i/j)) (aw 4) (aw 1)) (aw 1)) (bJ 8))
 (bZ (eO (mn (ay (qT FI (ay (aw 7) (ay (aw 8) bj))) (ay (qT IP (ay (aw 7) (ay (aw 8) bj))) bj))) (bJ 9))
 (bZ (jw (eL (cV (m7 K) (aw 7) (aw 8)))
 (eY (tC .non))
 fU)
 (bZ (jw (eL (cV (y8 K false) (aw 9) (aw 3)))
 (eY (mn (ay (tC (.str "out")) (ay (aw 9) bj))))
 fU)
 (eY (mn (ay (tC (.str "put")) (ay (aw 9) bj))))))))))))
theorem GK (Fu:lZ K "_law_deed" "_law_deed" wG f fd) (T:oi K mg C A)
 (len:Ln sp 3) (run:Rn sp (sT K C) Wv):dF P w K mg base eN 1 f fd M7 sp :=
 Fu.oj jA len run λ_ _ _ _ _ _ hr =>
 aE (xQ (i:=3) CG (ys:=[]) [] rfl jA.nd rfl rfl (i6 (pv 0)) trivial (λ_ _ _=>eS (show (CG:List bu).Nodup by decide +kernel)) (λ_ _ _=>mE) (λ_ _ _=>gF (ai (c6 (fF hr.units) (pv 0) aU (λ_ _=>rfl)) (ai (c6 (fF hr.units) (pv 0) aU (λ_ _=>rfl)) aH))))
 (aE (eh jA.nd (cI ka (pv 2) aU))
 (aE (f9 (PW.pt (yX (cz xF (cI jG (pv 2) aU) aU (dj _)) (u6 (cz Ph (cg jq rfl T.uV BootT.len (ai (pv 3) aH)) aU (dj _)))))
 (aE (KL (i:=5) jA.nd rfl (Or.inr rfl) (cg (N8 rfl) rfl T.Kk BootT.max (ai (kb CG (ys:=[]) [] rfl (i6 (pv 0)) trivial (λ_ _ _=>eS (show (CG:List bu).Nodup by decide +kernel)) (λ_ _ _=>lD (iI (c6 (fF hr.units) (pv 0) aU (λ_ _=>rfl)) (λ_=>rfl))) (λ_ _ _=>c6 (fF hr.units) (pv 0) aU (λ_ _=>rfl))) aH)))
 (aE (xQ (i:=6) CG (ys:=["_law_high"]) [5] rfl jA.nd rfl rfl (i6 (pv 0)) ⟨rfl,.inl rfl,rfl,trivial⟩ (λ_ _ _=>eS (show (["_law_row","_law_high"]:List bu).Nodup by decide +kernel)) (λ_ _ _=>lD (PW.pt (yX (iI (c6 (fF hr.units) (pv 0) aU (λ_ _=>rfl)) (λ_=>rfl)) (u6 (cz (iH hr.units) (c6 (fF hr.units) (pv 0) aU (λ_ _=>rfl)) (pv 1) (dj _)))))) (λ_ _ _=>gF (ai (c6 (fF hr.units) (pv 0) aU (λ_ _=>rfl)) (ai (c6 (fF hr.units) (pv 0) aU (λ_ _=>rfl)) aH))))
 (aS (cb (gF (ai BH (ai (c6 (fF hr.units) (pv 6) (cI jG (pv 4) (cg jq rfl T.uV BootT.len (ai (pv 6) aH))) (λ_ _=>rfl)) aH)))))))
 cX)
 (aE (f9 (PW.pt (yX (cz xF (cI jG (pv 2) aU) aU (dj _)) (u6 (cz Ph (cg jq rfl T.uV BootT.len (ai (pv 3) aH)) aU (dj _)))))
 (aS (cb (gF (ai BH (ai (c6 (fF hr.units) (pv 3) (cI jG (pv 4) (cg jq rfl T.uV BootT.len (ai (pv 3) aH))) (λ_ _=>rfl)) aH)))))
 cX)
 (aE (eh jA.nd (cI jG (pv 4) (pv 1)))
 (aE (eh jA.nd (cI jG (cI ka (pv 4) (pv 1)) (pv 1)))
 (aE (eh jA.nd (gF (ai (cg (rN rfl) rfl T.Kl BootT.min (ai (pv 7) (ai (pv 8) aH))) (ai (cg (u9 rfl) rfl T.Kk BootT.max (ai (pv 7) (ai (pv 8) aH))) aH))))
 (aE (f9 (cz (iH hr.units) (pv 7) (pv 8) (dj _))
 (aS (cb O8))
 cX)
 (aE (f9 (cz (Gp hr.units) (pv 9) (pv 3) (by with_unfolding_all rfl))
 (aS (cb (gF (ai BH (ai (pv 9) aH)))))
 cX)
 (aS (cb (gF (ai BH (ai (pv 9) aH)))))))))))))
def qM (K:aa) (C:af):TS :=
 xE (X8 (aw 0)) (Ir K 2 (l7 (bJ 3) (l7 (bJ 4) Iq)))
 (bZ (ir (FA K "list" o9 (FA K "dict" xR (aw 2) (ay (aw 3) (ay (wo bj) bj))) (ay (aw 4) bj)))
 (ir (FA K "list" o9 (FA K "dict" xR (aw 2) (ay (aw 4) (ay (wo bj) bj))) (ay (aw 3) bj))))
def qN (K:aa) (C:af):TS :=
 xE (pZ K (cV (eP K) (aw 2) (cV (eP K) (aw 6) (aw 7)))) (bJ 4)
 (jw (eL (cV (y8 K true) (aw 4) (aw 5)))
 (bZ (eO (tC (.bl true)) (Ge (aw 5) (aw 4) vP))
 (ir (FA K "list" o9 (aw 6) (ay (aw 4) bj))))
 fU)
def qO (K:aa) (C:af):TS :=
 BM (eL (cV (tO λi j=>.bl (decide (i<j))) (aw 7) (qT (vv K) (ay (aw 6) bj))))
 (bZ (qN K C)
 (eO (cV iu (aw 7) (tC (.int 1))) (bJ 7)))
def oP (K:aa) (C:af):TS :=
 bZ (eO (Py [((aw 1:TE),(wo (bj):TE))]) (bJ 2))
 (bZ (qM K C)
 (bZ (eO (Py [((aw 1:TE),(tC (.bl true):TE))]) (bJ 5))
 (bZ (eO (wo (ay (aw 1) bj)) (bJ 6))
 (bZ (eO (tC (.int 0)) (bJ 7))
 (bZ (qO K C)
 (eY (qT (Gq K) (ay (aw 6) bj))))))))
theorem AN (Fu:lZ K "_law_members" "_law_members" qY f fd) (T:oi K mg C A)
 (len:Ln sp 2) (run:Rn sp (oP K C) Wy):dF P w K mg base eN 1 f fd Jm sp :=
 Fu.oj fJ len run λ_ _ _ _ _ _ hr =>
 aE (eh fJ.nd (MO (IG (pv 1) (oI aH) MN) rfl rfl (by decide) (by decide)))
 (aE (oH cZ rfl (Ql (pv 0)) (yY rfl (gb (eS fJ.nd) (gb (eS fJ.nd) u7)))
 (aE (dR (oU cU gP gQ nz (oU ig pH DV FJ (pv 2) (ai (pv 3) (ai (oI aH) aH))) (ai (pv 4) aH)))
 (aS (dR (oU cU gP gQ nz (oU ig pH DV FJ (pv 2) (ai (pv 4) (ai (oI aH) aH))) (ai (pv 3) aH))))))
 (aE (eh fJ.nd (MO (IG (pv 1) n6 MN) rfl rfl (by decide) (by decide)))
 (aE (eh fJ.nd (oI (ai (pv 1) aH)))
 (aE (eh fJ.nd aU)
 (aE (BN cZ (cz xF (pv 7) (cg jq rfl T.uV BootT.len (ai (pv 6) aH)) (dj _))
 (aE (oH cZ rfl (i6 (c6 (fF hr.units) (pv 2) (c6 (fF hr.units) (pv 6) (pv 7) (λ_ _=>rfl)) (λ_ _=>rfl))) (eS fJ.nd)
 (aS (f9 (cz (vf hr.units) (pv 4) (pv 5) (by with_unfolding_all rfl))
 (aE (t8 n6 (wg (pv 5) (pv 4) (Cb hr.units)))
 (aS (dR (oU cU gP gQ nz (pv 6) (ai (pv 4) aH)))))
 cX)))
 (aS (eh fJ.nd (cI d7 (pv 7) aU)))))
 (aS (cb (cg IM rfl T.mS BootT.sF (ai (pv 6) aH)))))))))
def tG (K:aa) (C:af):TS :=
 xE (pZ K (Ky (XF K) (aw 1) kM (mB (tC (.int 3))))) (bJ 2)
 (jw (Sn (tZ (oJ K (qT (AH K) (ay (aw 2) (ay (tC (.ty "int")) bj))))) (oJ K (qT (AH K) (ay (aw 2) (ay (tC (.ty "bool")) bj)))))
 (eY (tC (.bl false)))
 fU)
def tH (K:aa) (C:af):TS :=
 xE (pZ K (aw 0)) (bJ 1)
 (bZ (jw (Sn (tZ (oJ K (qT (AH K) (ay (aw 1) (ay (tC (.ty "tuple")) bj))))) (Sn (eL (cV (IL K) (qT (vv K) (ay (aw 1) bj)) (tC (.int 4)))) (tZ (oJ K (qT (AH K) (ay (cV (eP K) (aw 1) (tC (.int 3))) (ay (tC (.ty "bool")) bj)))))))
 (eY (tC (.bl false)))
 fU)
 (tG K C))
def rn (K:aa) (C:af):TS :=
 bZ (jw (tZ (oJ K (qT (AH K) (ay (aw 0) (ay (tC (.ty "list")) bj)))))
 (eY (tC (.bl false)))
 fU)
 (bZ (tH K C)
 (eY (cV (m7 K) (aw 0) (qT (oe K) (ay (aw 0) bj)))))
theorem En (Fu:lZ K "_law_table" "_law_table" ug f fd) (T:oi K mg C A)
 (len:Ln sp 1) (run:Rn sp (rn K C) Q1):dF P w K mg base eN 1 f fd Nd sp :=
 Fu.oj sS len run λ_ _ _ _ _ _ hr =>
 aE (f9 (lS (iI (cg lE rfl T.gm BootT.i5 (ai (pv 0) (ai (nQ rfl T.HI BootT.list rfl) aH))) (λ_=>rfl)))
 (aS (cb n6))
 cX)
 (aE (oH cZ rfl (i6 (pv 0)) (eS sS.nd)
 (aE (f9 (PW.pt (Ag (lS (iI (cg lE rfl T.gm BootT.i5 (ai (pv 1) (ai (nQ rfl T.Ue BootT.tuple rfl) aH))) (λ_=>rfl))) (Ag (cz (Ca hr.units) (cg jq rfl T.uV BootT.len (ai (pv 1) aH)) aU (dj _)) (BI (lS (iI (cg lE rfl T.gm BootT.i5 (ai (c6 (fF hr.units) (pv 1) aU (λ_ _=>rfl)) (ai (nQ rfl T.DN BootT.bool rfl) aH))) (λ_=>rfl)))))))
 (aS (cb n6))
 cX)
 (aS (oH cZ rfl (i6 (iR VG (pv 1) mC (iQ aU))) (eS sS.nd)
 (aS (f9 (PW.pt (Ag (lS (iI (cg lE rfl T.gm BootT.i5 (ai (pv 2) (ai (nQ rfl T.U8 BootT.int rfl) aH))) (λ_=>rfl))) (BI (iI (cg lE rfl T.gm BootT.i5 (ai (pv 2) (ai (nQ rfl T.DN BootT.bool rfl) aH))) (λ_=>rfl)))))
 (aS (cb n6))
 cX))))))
 (aS (cb (sE (iH hr.units) (pv 0) (cg mF rfl T.mS BootT.sF (ai (pv 0) aH)) (dj _)))))
def uw (K:aa) (C:af) (A:CA) (cA i8 cY i9:Sp):TS :=
 bZ (eO (fh A.Keeper "ties" cA [] E0 (aw 0) bj) (bJ 4))
 (bZ (eO (cV (y8 K true) (aw 3) (dS cY [] E0 (ay (aw 1) (ay (aw 2) bj)))) (bJ 5))
 (bZ (eO (fh A.Keeper "put" i8 [] E0 (aw 0) (ay (aw 2) (ay (aw 3) bj))) (bJ 6))
 (bZ (eO (tC (.bl true)) (Ge (aw 1) (mn (ay (qT FI (ay (aw 2) (ay (aw 3) bj))) (ay (qT IP (ay (aw 2) (ay (aw 3) bj))) bj))) vP))
 (bZ (jw (Sn (tZ (oJ K (qT (AH K) (ay (aw 6) (ay (tC (.ty "bool")) bj))))) (eL (cV (IL K) (aw 6) (aw 5))))
 (eY (tC (.bl false)))
 fU)
 (bZ (eO (fh A.Keeper "ties" cA [] E0 (aw 0) bj) (bJ 7))
 (eY (BJ (dS i9 [] E0 (ay (aw 7) bj)) (cV (m7 K) (aw 7) (qT (oe K) (ay (cV iu (aw 4) (wo (ay (mn (ay (qT FI (ay (aw 2) (ay (aw 3) bj))) (ay (qT IP (ay (aw 2) (ay (aw 3) bj))) (ay (tC (.int 0)) (ay (aw 5) bj))))) bj))) bj))))))))))
theorem JD (Fu:lZ K "_law_put" "_law_put" zk f fd) (T:oi K mg C A) {cA:Sp}(gH:lG P w K mg base eN 2 A.Keeper "ties" xX cA) {i8:Sp}(mK:lG P w K mg base eN 10 A.Keeper "put" jH i8) {cY:Sp}(gI:rR P w K mg base eN 1 "_law_members" Jm cY) {i9:Sp}(mL:rR P w K mg base eN 1 "_law_table" Nd i9)
 (len:Ln sp 4) (run:Rn sp (uw K C A cA i8 cY i9) Wx):dF P w K mg base eN 11 f fd Jl sp :=
 Fu.oj qh len run λ_ _ _ _ _ _ hr =>
 aE (eh qh.nd (Qx gH T.iC hr.m (pv 0) b0))
 (aE (eh qh.nd (sE (vf hr.units) (pv 3) (qE gI hr.m rfl b0 (ai (pv 1) (ai (pv 2) aH))) (by with_unfolding_all rfl)))
 (aE (eh qh.nd (vR mK T.iC hr.m (pv 0) b0 (ai (pv 2) (ai (pv 3) aH))))
 (aE (t8 n6 (wg (pv 1) (gF (ai (cg (rN rfl) rfl T.Kl BootT.min (ai (pv 2) (ai (pv 3) aH))) (ai (cg (u9 rfl) rfl T.Kk BootT.max (ai (pv 2) (ai (pv 3) aH))) aH))) (Cb hr.units)))
 (aE (f9 (PW.pt (Ag (lS (iI (cg lE rfl T.gm BootT.i5 (ai (pv 6) (ai (nQ rfl T.DN BootT.bool rfl) aH))) (λ_=>rfl))) (BI (cz (Ca hr.units) (pv 6) (pv 5) (dj _)))))
 (aS (cb n6))
 cX)
 (aE (eh qh.nd (Qx gH T.iC hr.m (pv 0) b0))
 (aS (cb (BL (qE mL hr.m rfl b0 (ai (pv 7) aH)) (BK (sE (iH hr.units) (pv 7) (cg mF rfl T.mS BootT.sF (ai (cI d7 (pv 4) (oI (ai (gF (ai (cg (rN rfl) rfl T.Kl BootT.min (ai (pv 2) (ai (pv 3) aH))) (ai (cg (u9 rfl) rfl T.Kk BootT.max (ai (pv 2) (ai (pv 3) aH))) (ai aU (ai (pv 5) aH))))) aH))) aH)) (dj _)))))))))))
def rA (K:aa) (C:af) (A:CA) (cY iU gJ:Sp):TS :=
 bZ (eO (dS cY [] E0 (ay (aw 1) (ay (aw 2) bj))) (bJ 4))
 (bZ (eO (fh A.Keeper "side" iU [] E0 (aw 0) (ay (aw 2) bj)) (bJ 5))
 (bZ (eO (fh A.Keeper "joined" gJ [] E0 (aw 0) (ay (aw 2) (ay (aw 3) bj))) (bJ 6))
 (bZ (jw (Sn (tZ (oJ K (qT (AH K) (ay (aw 5) (ay (tC (.ty "list")) bj))))) (Sn (eL (cV (IL K) (aw 5) (aw 4))) (Sn (tZ (oJ K (qT (AH K) (ay (aw 6) (ay (tC (.ty "bool")) bj))))) (eL (cV (IL K) (aw 6) (cV (y8 K false) (aw 3) (aw 4)))))))
 (eY (tC (.bl false)))
 fU)
 (bZ (ir (FA K "list" o9 (aw 5) (ay (Zd (rU λi=>.int (-i)) (tC (.int 1))) bj)))
 (eY (BJ (cV (m7 K) (fh A.Keeper "side" iU [] E0 (aw 0) (ay (aw 2) bj)) (aw 4)) (Wj true (fh A.Keeper "joined" gJ [] E0 (aw 0) (ay (aw 2) (ay (aw 2) bj))))))))))
theorem Eo (Fu:lZ K "_law_sides" "_law_sides" uh f fd) (T:oi K mg C A) {cY:Sp}(gI:rR P w K mg base eN 1 "_law_members" Jm cY) {iU:Sp}(md:lG P w K mg base eN 5 A.Keeper "side" kZ iU) {gJ:Sp}(jW:lG P w K mg base eN 6 A.Keeper "joined" jH gJ)
 (len:Ln sp 4) (run:Rn sp (rA K C A cY iU gJ) Wz):dF P w K mg base eN 7 f fd Jl sp :=
 Fu.oj pj len run λ_ _ _ _ _ _ hr =>
 aE (eh pj.nd (qE gI hr.m rfl b0 (ai (pv 1) (ai (pv 2) aH))))
 (aE (eh pj.nd (vR md T.iC hr.m (pv 0) b0 (ai (pv 2) aH)))
 (aE (eh pj.nd (vR jW T.iC hr.m (pv 0) b0 (ai (pv 2) (ai (pv 3) aH))))
 (aE (f9 (PW.pt (Ag (lS (iI (cg lE rfl T.gm BootT.i5 (ai (pv 5) (ai (nQ rfl T.HI BootT.list rfl) aH))) (λ_=>rfl))) (Ag (cz (Ca hr.units) (pv 5) (pv 4) (dj _)) (Ag (lS (iI (cg lE rfl T.gm BootT.i5 (ai (pv 6) (ai (nQ rfl T.DN BootT.bool rfl) aH))) (λ_=>rfl))) (BI (cz (Ca hr.units) (pv 6) (sE (Gp hr.units) (pv 3) (pv 4) (by with_unfolding_all rfl)) (dj _)))))))
 (aS (cb n6))
 cX)
 (aE (dR (oU cU gP gQ nz (pv 5) (ai (UC Pe aU) aH)))
 (aS (cb (BL (sE (iH hr.units) (vR md T.iC hr.m (pv 0) b0 (ai (pv 2) aH)) (pv 4) (dj _)) (BK (O9 (Wk (vR jW T.iC hr.m (pv 0) b0 (ai (pv 2) (ai (pv 2) aH)))))))))))))
def CU (K:aa) (C:af) (A:CA) (dt dr eE eF fe eT cA dB fW:Sp):TS :=
 xE (pZ K (dS eE [] E0 (ay (dS eF [] E0 (ay (aw 1) (ay (aw 4) bj))) (ay (cV (rI wj λi j=>.int (i/j)) (aw 4) (tC (.int 36))) bj)))) (Ir K 2 (l7 (bJ 5) (l7 (bJ 6) Iq)))
 (jw (tZ (oJ K (dS eT [] E0 (ay (aw 2) (ay (aw 3) (ay (aw 6) (ay (aw 5) bj)))))))
 (eY (tC (.bl false)))
 fU)
def CV (K:aa) (C:af) (A:CA) (dt dr eE eF fe eT cA dB fW:Sp):TS :=
 xE (pZ K (Ky (tP K) (aw 0) (mB (tC (.int 2))) (mB (tC (.int 26))))) (bJ 7)
 (bZ (eO (dS fe [] E0 (ay (fh A.Keeper "ties" cA [] E0 (aw 2) bj) (ay (aw 1) (ay (aw 7) bj)))) (bJ 8))
 (jw (tB (MD (aw 8)))
 (bZ (eO (cV (eP K) (aw 8) (tC (.int 1))) (Ir K 2 (l7 (bJ 5) (l7 (bJ 6) Iq))))
 (bZ (jw (eL (cV (m7 K) (cV (rI (λ_ j=>0<j) λi j=>.int (i%j)) (cV (rI wj λi j=>.int (i/j)) (aw 7) (tC (.int 3))) (tC (.int 2))) (tC (.int 1))))
 (Vy 5 6 (ay (aw 6) (ay (aw 5) bj)))
 fU)
 (bZ (jw (eL (cV (m7 K) (cV (eP K) (aw 8) (tC (.int 0))) (tC (.str "out"))))
 (bZ (ir (fh A.Keeper "out" fW [] E0 (aw 2) (ay (aw 5) (ay (aw 6) bj))))
 (ir (FA K "dict" I0 (aw 3) (ay (cV (eP K) (aw 8) (tC (.int 1))) bj))))
 (jw (tZ (oJ K (dS eT [] E0 (ay (aw 2) (ay (aw 3) (ay (aw 5) (ay (aw 6) bj)))))))
 (eY (tC (.bl false)))
 fU))
 (jw (Sn (tZ (oJ K (dS dB [] E0 (ay (aw 2) (ay (aw 3) (ay (aw 5) (ay (aw 6) bj))))))) (tZ (oJ K (dS dB [] E0 (ay (aw 2) (ay (aw 3) (ay (cV (rI (λ_ j=>0<j) λi j=>.int (i%j)) (cV (rI wj λi j=>.int (i/j)) (aw 7) (tC (.int 11))) (aw 1)) (ay (aw 6) bj))))))))
 (eY (tC (.bl false)))
 fU))))
 fU))
def LB (K:aa) (C:af) (A:CA) (dt dr eE eF fe eT cA dB fW:Sp):TS :=
 bZ (eO (cV iu (tC (.int 1)) (cV (rI (λ_ j=>0<j) λi j=>.int (i%j)) (dS dr [] E0 (ay (aw 0) (ay (tC (.int 0)) bj))) (tC (.int 24)))) (bJ 1))
 (bZ (eO (Iz A.Keeper dt [] E0 (ay (aw 1) bj)) (bJ 2))
 (bZ (eO y6 (bJ 3))
 (bZ (eO (dS dr [] E0 (ay (aw 0) (ay (tC (.int 1)) bj))) (bJ 4))
 (bZ (CU K C A dt dr eE eF fe eT cA dB fW)
 (bZ (jw (Ip (eL (cV (m7 K) (fh A.Keeper "ties" cA [] E0 (aw 2) bj) (wo bj))) (tZ (oJ K (dS dB [] E0 (ay (aw 2) (ay (aw 3) (ay (tC (.int 0)) (ay (cV (tO λi j=>.int (i-j)) (aw 1) (tC (.int 1))) bj))))))))
 (eY (tC (.bl false)))
 fU)
 (bZ (CV K C A dt dr eE eF fe eT cA dB fW)
 (eY (cV (m7 K) (kx 1 [] (pZ K (fh A.Keeper "ties" cA [] E0 (aw 2) bj)) (bJ 0) xO (mn (ay (cV (eP K) (aw 0) (tC (.int 0))) (ay (cV (eP K) (aw 0) (tC (.int 1))) bj)))) (qT Jj (ay (aw 3) bj))))))))))
theorem WD (Fu:lZ K "law" "law" WB f fd) (T:oi K mg C A) {dt:Sp}(hW:TC P w K mg base eN 5 A.Keeper lH dt) {dr:Sp}(jr:rR P w K mg base eN 1 "_law_cell_at" CB dr) {eE:Sp}(mM:rR P w K mg base eN 1 "_law_mixed" Nc eE) {eF:Sp}(mO:rR P w K mg base eN 1 "_law_shape" Jo eF) {fe:Sp}(oo:rR P w K mg base eN 1 "_law_deed" M7 fe) {eT:Sp}(nG:rR P w K mg base eN 11 "_law_put" Jl eT) {cA:Sp}(gH:lG P w K mg base eN 2 A.Keeper "ties" xX cA) {dB:Sp}(jI:rR P w K mg base eN 7 "_law_sides" Jl dB) {fW:Sp}(ql:lG P w K mg base eN 10 A.Keeper "out" jH fW)
 (len:Ln sp 1) (run:Rn sp (LB K C A dt dr eE eF fe eT cA dB fW) Ww):dF P w K mg base eN 12 f fd Jp sp :=
 Fu.oj tF len run λ_ _ _ _ _ _ hr =>
 aE (eh tF.nd (cI d7 aU (cI jG (qE jr hr.m rfl b0 (ai (pv 0) (ai aU aH))) aU)))
 (aE (eh tF.nd (Gh hW.m hW.G hr.m rfl T.Ot hW.b .nil b0 (ai (pv 1) aH)))
 (aE (eh tF.nd xK)
 (aE (eh tF.nd (qE jr hr.m rfl b0 (ai (pv 0) (ai aU aH))))
 (aE (oH cZ rfl (i6 (qE mM hr.m rfl b0 (ai (qE mO hr.m rfl b0 (ai (pv 1) (ai (pv 4) aH))) (ai (cI ka (pv 4) aU) aH)))) (yY rfl (gb (eS tF.nd) (gb (eS tF.nd) u7)))
 (aS (f9 (lS (iI (qE nG hr.m rfl b0 (ai (pv 2) (ai (pv 3) (ai (pv 6) (ai (pv 5) aH))))) (λ_=>rfl)))
 (aS (cb n6))
 cX)))
 (aE (f9 (PW.pt (yX (cz (iH hr.units) (Qx gH T.iC hr.m (pv 2) b0) (oI aH) (dj _)) (u6 (lS (iI (qE jI hr.m rfl b0 (ai (pv 2) (ai (pv 3) (ai aU (ai (cI BP (pv 1) aU) aH))))) (λ_=>rfl))))))
 (aS (cb n6))
 cX)
 (aE (oH cZ rfl (i6 (iR kO (pv 0) (iQ aU) (iQ aU))) (eS tF.nd)
 (aE (eh tF.nd (qE oo hr.m rfl b0 (ai (Qx gH T.iC hr.m (pv 2) b0) (ai (pv 1) (ai (pv 7) aH)))))
 (aS (f9 (Pa (ME (pv 8)))
 (aE (t8 (c6 (fF hr.units) (pv 8) aU (λ_ _=>rfl)) (yY rfl (gb (eS tF.nd) (gb (eS tF.nd) u7))))
 (aE (f9 (cz (iH hr.units) (cI jG (cI ka (pv 7) aU) aU) aU (dj _))
 (aS (Vz (i:=5) (j:=6) rfl tF.nd rfl rfl (by decide) rfl rfl (ai (pv 6) (ai (pv 5) aH)) rfl))
 cX)
 (aE (f9 (cz (iH hr.units) (c6 (fF hr.units) (pv 8) aU (λ_ _=>rfl)) BH (dj _))
 (aE (dR (vR ql T.iC hr.m (pv 2) b0 (ai (pv 5) (ai (pv 6) aH))))
 (aS (dR (oU ig nZ n5 (Bu hr.units) (pv 3) (ai (c6 (fF hr.units) (pv 8) aU (λ_ _=>rfl)) aH)))))
 (aS (f9 (lS (iI (qE nG hr.m rfl b0 (ai (pv 2) (ai (pv 3) (ai (pv 5) (ai (pv 6) aH))))) (λ_=>rfl)))
 (aS (cb n6))
 cX)))
 (aS (f9 (PW.pt (Ag (lS (iI (qE jI hr.m rfl b0 (ai (pv 2) (ai (pv 3) (ai (pv 5) (ai (pv 6) aH))))) (λ_=>rfl))) (BI (lS (iI (qE jI hr.m rfl b0 (ai (pv 2) (ai (pv 3) (ai (cI jG (cI ka (pv 7) aU) (pv 1)) (ai (pv 6) aH))))) (λ_=>rfl))))))
 (aS (cb n6))
 cX)))))
 cX))))
 (aS (cb (sE (iH hr.units) (kb CG (ys:=[]) [] rfl (i6 (Qx gH T.iC hr.m (pv 2) b0)) trivial (λ_ _ _=>eS (show (CG:List bu).Nodup by decide +kernel)) (λ_ _ _=>mE) (λ_ _ _=>gF (ai (c6 (fF hr.units) (pv 0) aU (λ_ _=>rfl)) (ai (c6 (fF hr.units) (pv 0) aU (λ_ _=>rfl)) aH)))) (cg (Gz rfl) rfl T.mS BootT.sF (ai (pv 3) aH)) (dj _))))))))))
def nH (K:aa) (C:af):TS :=
 bZ (wm K (aw 0) (aw 1) "n")
 (wm K (aw 0) (kx 1 [] (Ah (ay (aw 1) bj)) (bJ 0) xO (wo (ay (aw 0) bj))) "rows")
theorem zx (Fu:lZ K "__init__" "Wood.__init__" qf f fd) (T:oi K mg C A)
 (len:Ln sp 2) (run:Rn sp (nH K C) lH):dF P w K mg base eN 1 f fd lH sp :=
 Fu.oj AI len run λ_ _ _ _ _ _ hr =>
 aE (nu (pv 0) (pv 1) rfl)
 (aS (nu (pv 0) (kb ["place"] (ys:=[]) [] rfl (pR rfl T.tu (ai (pv 1) aH)) trivial (λ_ _ _=>eS (show (["place"]:List bu).Nodup by decide +kernel)) (λ_ _ _=>mE) (λ_ _ _=>oI (ai (pv 0) aH))) rfl))
def ux (K:aa) (C:af):TS :=
 xE (pZ K (aw 1)) (bJ 2)
 (eO (aw 1) (Ge (fS K (aw 0) "rows") (aw 2) vP))
def sU (K:aa) (C:af):TS :=
 ux K C
theorem GL (Fu:lZ K "keep" "Wood.keep" wH f fd) (T:oi K mg C A)
 (len:Ln sp 2) (run:Rn sp (sU K C) Rc):dF P w K mg base eN 1 f fd Jq sp :=
 Fu.oj As len run λ_ _ _ _ _ _ hr =>
 aS (oH cZ rfl (i6 (pv 1)) (eS As.nd)
 (aS (t8 (pv 1) (wg (cq (pv 0) rfl) (pv 2) (Cb hr.units)))))
def sV (K:aa) (C:af) (bh cj dD lV:Sp):TS :=
 bZ (ir (dS bh [] E0 (ay (fS K (aw 0) "n") (ay (aw 1) (ay (aw 2) bj)))))
 (bZ (jw (oJ K (fh C "joined" cj [] E0 (aw 0) (ay (aw 1) (ay (aw 2) bj))))
 t7
 fU)
 (ir (fh C "keep" dD [] E0 (aw 0) (ay (dS lV [] E0 (ay (cV (eP K) (fS K (aw 0) "rows") (aw 1)) (ay (cV (eP K) (fS K (aw 0) "rows") (aw 2)) (ay (aw 1) (ay (aw 2) bj))))) bj))))
theorem GM (Fu:lZ K "link" "Wood.link" wI f fd) (T:oi K mg C A) {bh:Sp}(cE:rR P w K mg base eN 5 "refuse_no_pair" nj bh) {cj:Sp}(eZ:lG P w K mg base eN 5 C "joined" jH cj) {dD:Sp}(jB:lG P w K mg base eN 1 C "keep" Jq dD) {lV:Sp}(rT:rR P w K mg base eN 2 "spliced" Na lV)
 (len:Ln sp 3) (run:Rn sp (sV K C bh cj dD lV) jH):dF P w K mg base eN 6 f fd jH sp :=
 Fu.oj Jt len run λ_ _ _ _ _ _ hr =>
 aE (dR (qE cE hr.m rfl b0 (ai (cq (pv 0) rfl) (ai (pv 1) (ai (pv 2) aH)))))
 (aE (f9 (iI (vR eZ T.kR hr.m (pv 0) b0 (ai (pv 1) (ai (pv 2) aH))) (λ_=>rfl))
 (aS pV)
 cX)
 (aS (dR (vR jB T.kR hr.m (pv 0) b0 (ai (qE rT hr.m rfl b0 (ai (c6 (fF hr.units) (cq (pv 0) rfl) (pv 1) (λ_ _=>rfl)) (ai (c6 (fF hr.units) (cq (pv 0) rfl) (pv 2) (λ_ _=>rfl)) (ai (pv 1) (ai (pv 2) aH))))) aH)))))
def vS (K:aa) (C:af) (bh kQ cP dD:Sp):TS :=
 xE (pZ K (dS kQ [] E0 (ay (cV (eP K) (fS K (aw 0) "rows") (aw 1)) (ay (aw 1) (ay (aw 2) bj))))) (bJ 3)
 (ir (fh C "keep" dD [] E0 (aw 0) (ay (aw 3) bj)))
def uz (K:aa) (C:af) (bh kQ cP dD:Sp):TS :=
 bZ (ir (dS bh [] E0 (ay (fS K (aw 0) "n") (ay (aw 1) (ay (aw 2) bj)))))
 (bZ (jw (eL (cV (y8 K true) (mn (ay (aw 1) (ay (aw 2) bj))) (dS cP [] E0 (ay (cV (eP K) (fS K (aw 0) "rows") (aw 1)) bj))))
 t7
 fU)
 (vS K C bh kQ cP dD))
theorem JE (Fu:lZ K "cut" "Wood.cut" zl f fd) (T:oi K mg C A) {bh:Sp}(cE:rR P w K mg base eN 5 "refuse_no_pair" nj bh) {kQ:Sp}(uA:rR P w K mg base eN 2 "parted" Ng kQ) {cP:Sp}(iw:rR P w K mg base eN 1 "steps_along" ["row"] cP) {dD:Sp}(jB:lG P w K mg base eN 1 C "keep" Jq dD)
 (len:Ln sp 3) (run:Rn sp (uz K C bh kQ cP dD) Q9):dF P w K mg base eN 6 f fd jH sp :=
 Fu.oj CM len run λ_ _ _ _ _ _ hr =>
 aE (dR (qE cE hr.m rfl b0 (ai (cq (pv 0) rfl) (ai (pv 1) (ai (pv 2) aH)))))
 (aE (f9 (cz (vf hr.units) (gF (ai (pv 1) (ai (pv 2) aH))) (qE iw hr.m rfl b0 (ai (c6 (fF hr.units) (cq (pv 0) rfl) (pv 1) (λ_ _=>rfl)) aH)) (by with_unfolding_all rfl))
 (aS pV)
 cX)
 (aS (oH cZ rfl (i6 (qE uA hr.m rfl b0 (ai (c6 (fF hr.units) (cq (pv 0) rfl) (pv 1) (λ_ _=>rfl)) (ai (pv 1) (ai (pv 2) aH))))) (eS CM.nd)
 (aS (dR (vR jB T.kR hr.m (pv 0) b0 (ai (pv 3) aH)))))))
def qm (K:aa) (C:af) (ck:Sp):TS :=
 bZ (ir (dS ck [] E0 (ay (fS K (aw 0) "n") (ay (aw 1) (ay (aw 2) bj)))))
 (eY (cV (m7 K) (cV (eP K) (cV (eP K) (fS K (aw 0) "rows") (aw 1)) (tC (.int 0))) (cV (eP K) (cV (eP K) (fS K (aw 0) "rows") (aw 2)) (tC (.int 0)))))
theorem CW (Fu:lZ K "joined" "Wood.joined" sL f fd) (T:oi K mg C A) {ck:Sp}(eC:rR P w K mg base eN 4 "refuse_no_places" nj ck)
 (len:Ln sp 3) (run:Rn sp (qm K C ck) jH):dF P w K mg base eN 5 f fd jH sp :=
 Fu.oj Eh len run λ_ _ _ _ _ _ hr =>
 aE (dR (qE eC hr.m rfl b0 (ai (cq (pv 0) rfl) (ai (pv 1) (ai (pv 2) aH)))))
 (aS (cb (sE (iH hr.units) (c6 (fF hr.units) (c6 (fF hr.units) (cq (pv 0) rfl) (pv 1) (λ_ _=>rfl)) aU (λ_ _=>rfl)) (c6 (fF hr.units) (c6 (fF hr.units) (cq (pv 0) rfl) (pv 2) (λ_ _=>rfl)) aU (λ_ _=>rfl)) (dj _))))
def rB (K:aa) (C:af) (bG:Sp):TS :=
 bZ (ir (dS bG [] E0 (ay (fS K (aw 0) "n") (ay (aw 1) bj))))
 (eY (Cq K (ay (cV (eP K) (fS K (aw 0) "rows") (aw 1)) bj)))
theorem Ep (Fu:lZ K "group" "Wood.group" ui f fd) (T:oi K mg C A) {bG:Sp}(cL:rR P w K mg base eN 3 "refuse_no_place" oW bG)
 (len:Ln sp 2) (run:Rn sp (rB K C bG) kZ):dF P w K mg base eN 4 f fd kZ sp :=
 Fu.oj GH len run λ_ _ _ _ _ _ hr =>
 aE (dR (qE cL hr.m rfl b0 (ai (cq (pv 0) rfl) (ai (pv 1) aH))))
 (aS (cb (Lg rfl rfl T.mS rfl T.YJ (ai (c6 (fF hr.units) (cq (pv 0) rfl) (pv 1) (λ_ _=>rfl)) aH))))
def sW (K:aa) (C:af) (bG:Sp):TS :=
 bZ (ir (dS bG [] E0 (ay (fS K (aw 0) "n") (ay (aw 1) bj))))
 (eY (cV (rI wj λi j=>.int (i/j)) (cV iu (qT (vv K) (ay (cV (eP K) (fS K (aw 0) "rows") (aw 1)) bj)) (tC (.int 1))) (tC (.int 2))))
theorem GN (Fu:lZ K "size" "Wood.size" wJ f fd) (T:oi K mg C A) {bG:Sp}(cL:rR P w K mg base eN 3 "refuse_no_place" oW bG)
 (len:Ln sp 2) (run:Rn sp (sW K C bG) kZ):dF P w K mg base eN 4 f fd kZ sp :=
 Fu.oj Ju len run λ_ _ _ _ _ _ hr =>
 aE (dR (qE cL hr.m rfl b0 (ai (cq (pv 0) rfl) (ai (pv 1) aH))))
 (aS (cb (cI ka (cI d7 (cg jq rfl T.uV BootT.len (ai (c6 (fF hr.units) (cq (pv 0) rfl) (pv 1) (λ_ _=>rfl)) aH)) aU) aU)))
def lW (K:aa) (C:af) (A:CA) (gh nE:Sp):TS :=
 bZ (wm K (aw 0) y6 "level_of")
 (bZ (wm K (aw 0) y6 "wooden")
 (bZ (wm K (aw 0) y6 "weight_of")
 (wm K (aw 0) (kx 1 [1] (Ah (ay (cV iu (dS nE [] E0 (ay (aw 1) bj)) (tC (.int 1))) bj)) (bJ 0) xO (Iz C gh [] E0 (ay (aw 1) bj))) "woods")))
theorem wV (Fu:lZ K "__init__" "Levels.__init__" nB f fd) (T:oi K mg C A) {gh:Sp}(hZ:TC P w K mg base eN 1 C lH gh) {nE:Sp}(Au:rR P w K mg base eN 1 "top" ["n"] nE)
 (len:Ln sp 2) (run:Rn sp (lW K C A gh nE) lH):dF P w K mg base eN 3 f fd lH sp :=
 Fu.oj x3 len run λ_ _ _ _ _ _ hr =>
 aE (nu (pv 0) xK rfl)
 (aE (nu (pv 0) xK rfl)
 (aE (nu (pv 0) xK rfl)
 (aS (nu (pv 0) (kb ["level"] (ys:=["n"]) [1] rfl (pR rfl T.tu (ai (cI d7 (qE Au hr.m rfl b0 (ai (pv 1) aH)) aU) aH)) ⟨rfl,.inl rfl,rfl,trivial⟩ (λ_ _ _=>eS (show (["level","n"]:List bu).Nodup by decide +kernel)) (λ_ _ _=>mE) (λ_ _ _=>Gh hZ.m hZ.G hr.m rfl T.Ug hZ.b .nil b0 (ai (pv 1) aH))) rfl))))
def rC (K:aa) (C:af) (A:CA) (cj cn:Sp):TS :=
 bZ (eO (tC (.int 0)) (Ge (fS K (aw 0) "level_of") (aw 1) vP))
 (bZ (eO (tC (.bl false)) (Ge (fS K (aw 0) "wooden") (aw 1) vP))
 (bZ (eO (aw 2) (Ge (fS K (aw 0) "weight_of") (aw 1) vP))
 (bZ (jw (tZ (oJ K (fh C "joined" cj [] E0 (cV (eP K) (fS K (aw 0) "woods") (tC (.int 0))) (ay (cV (eP K) (aw 1) (tC (.int 0))) (ay (cV (eP K) (aw 1) (tC (.int 1))) bj)))))
 (ir (fh A.bB "adopt" cn [] E0 (aw 0) (ay (aw 1) bj)))
 fU)
 (eY (cV (eP K) (fS K (aw 0) "wooden") (aw 1))))))
theorem Er (Fu:lZ K "add" "Levels.add" uj f fd) (T:oi K mg C A) {cj:Sp}(eZ:lG P w K mg base eN 5 C "joined" jH cj) {cn:Sp}(gK:lG P w K mg base eN 7 A.bB "adopt" m8 cn)
 (len:Ln sp 3) (run:Rn sp (rC K C A cj cn) xW):dF P w K mg base eN 8 f fd xW sp :=
 Fu.oj GI len run λ_ _ _ _ _ _ hr =>
 aE (t8 aU (wg (cq (pv 0) rfl) (pv 1) (Cb hr.units)))
 (aE (t8 n6 (wg (cq (pv 0) rfl) (pv 1) (Cb hr.units)))
 (aE (t8 (pv 2) (wg (cq (pv 0) rfl) (pv 1) (Cb hr.units)))
 (aE (f9 (lS (iI (vR eZ T.kR hr.m (c6 (fF hr.units) (cq (pv 0) rfl) aU (λ_ _=>rfl)) b0 (ai (c6 (fF hr.units) (pv 1) aU (λ_ _=>rfl)) (ai (c6 (fF hr.units) (pv 1) aU (λ_ _=>rfl)) aH))) (λ_=>rfl)))
 (aS (dR (vR gK T.hJ hr.m (pv 0) b0 (ai (pv 1) aH))))
 cX)
 (aS (cb (c6 (fF hr.units) (cq (pv 0) rfl) (pv 1) (λ_ _=>rfl)))))))
def mP (K:aa) (C:af) (A:CA) (dE:Sp):TS :=
 xE (pZ K (Ky (tP K) (fS K (aw 0) "woods") kM (mB (cV iu (cV (eP K) (fS K (aw 0) "level_of") (aw 1)) (tC (.int 1)))))) (bJ 2)
 (ir (fh C "link" dE [] E0 (aw 2) (ay (cV (eP K) (aw 1) (tC (.int 0))) (ay (cV (eP K) (aw 1) (tC (.int 1))) bj))))
def oQ (K:aa) (C:af) (A:CA) (dE:Sp):TS :=
 bZ (eO (tC (.bl true)) (Ge (fS K (aw 0) "wooden") (aw 1) vP))
 (mP K C A dE)
theorem AO (Fu:lZ K "adopt" "Levels.adopt" qZ f fd) (T:oi K mg C A) {dE:Sp}(jC:lG P w K mg base eN 6 C "link" jH dE)
 (len:Ln sp 2) (run:Rn sp (oQ K C A dE) Re):dF P w K mg base eN 7 f fd m8 sp :=
 Fu.oj uo len run λ_ _ _ _ _ _ hr =>
 aE (t8 n6 (wg (cq (pv 0) rfl) (pv 1) (Cb hr.units)))
 (aS (oH cZ rfl (i6 (iR kO (cq (pv 0) rfl) mC (iQ (cI d7 (c6 (fF hr.units) (cq (pv 0) rfl) (pv 1) (λ_ _=>rfl)) aU)))) (eS uo.nd)
 (aS (dR (vR jC T.kR hr.m (pv 2) b0 (ai (c6 (fF hr.units) (pv 1) aU (λ_ _=>rfl)) (ai (c6 (fF hr.units) (pv 1) aU (λ_ _=>rfl)) aH)))))))
def qo (K:aa) (C:af) (A:CA) (dE:Sp):TS :=
 bZ (UG (fS K (aw 0) "level_of") (aw 1) (tC (.int 1)) NK)
 (jw (oJ K (cV (eP K) (fS K (aw 0) "wooden") (aw 1)))
 (ir (fh C "link" dE [] E0 (cV (eP K) (fS K (aw 0) "woods") (cV (eP K) (fS K (aw 0) "level_of") (aw 1))) (ay (cV (eP K) (aw 1) (tC (.int 0))) (ay (cV (eP K) (aw 1) (tC (.int 1))) bj))))
 fU)
theorem CY (Fu:lZ K "lift" "Levels.lift" sM f fd) (T:oi K mg C A) {dE:Sp}(jC:lG P w K mg base eN 6 C "link" jH dE)
 (len:Ln sp 2) (run:Rn sp (qo K C A dE) m8):dF P w K mg base eN 7 f fd m8 sp :=
 Fu.oj Ei len run λ_ _ _ _ _ _ hr =>
 aE (Th (bI (Ab (by decide) _) hr.units) (cq (pv 0) rfl) (pv 1) aU BV (λ_ _ _=>rfl))
 (aS (f9 (iI (c6 (fF hr.units) (cq (pv 0) rfl) (pv 1) (λ_ _=>rfl)) (λ_=>rfl))
 (aS (dR (vR jC T.kR hr.m (c6 (fF hr.units) (cq (pv 0) rfl) (c6 (fF hr.units) (cq (pv 0) rfl) (pv 1) (λ_ _=>rfl)) (λ_ _=>rfl)) b0 (ai (c6 (fF hr.units) (pv 1) aU (λ_ _=>rfl)) (ai (c6 (fF hr.units) (pv 1) aU (λ_ _=>rfl)) aH)))))
 cX))
def rV (K:aa) (C:af) (A:CA) (iV:Sp):TS :=
 xE (pZ K (Ky (tP K) (fS K (aw 0) "woods") kM (mB (cV iu (aw 2) (tC (.int 1)))))) (bJ 3)
 (ir (fh C "cut" iV [] E0 (aw 3) (ay (cV (eP K) (aw 1) (tC (.int 0))) (ay (cV (eP K) (aw 1) (tC (.int 1))) bj))))
def qp (K:aa) (C:af) (A:CA) (iV:Sp):TS :=
 bZ (ir (FA K "dict" I0 (fS K (aw 0) "weight_of") (ay (aw 1) bj)))
 (bZ (eO (FA K "dict" I0 (fS K (aw 0) "level_of") (ay (aw 1) bj)) (bJ 2))
 (jw (oJ K (FA K "dict" I0 (fS K (aw 0) "wooden") (ay (aw 1) bj)))
 (rV K C A iV)
 fU))
theorem CZ (Fu:lZ K "drop" "Levels.drop" sN f fd) (T:oi K mg C A) {iV:Sp}(qq:lG P w K mg base eN 6 C "cut" jH iV)
 (len:Ln sp 2) (run:Rn sp (qp K C A iV) Q6):dF P w K mg base eN 7 f fd m8 sp :=
 Fu.oj rh len run λ_ _ _ _ _ _ hr =>
 aE (dR (oU ig nZ n5 (Bu hr.units) (cq (pv 0) rfl) (ai (pv 1) aH)))
 (aE (eh rh.nd (oU ig nZ n5 (Bu hr.units) (cq (pv 0) rfl) (ai (pv 1) aH)))
 (aS (f9 (iI (oU ig nZ n5 (Bu hr.units) (cq (pv 0) rfl) (ai (pv 1) aH)) (λ_=>rfl))
 (aS (oH cZ rfl (i6 (iR kO (cq (pv 0) rfl) mC (iQ (cI d7 (pv 2) aU)))) (eS rh.nd)
 (aS (dR (vR qq T.kR hr.m (pv 3) b0 (ai (c6 (fF hr.units) (pv 1) aU (λ_ _=>rfl)) (ai (c6 (fF hr.units) (pv 1) aU (λ_ _=>rfl)) aH)))))))
 cX)))
def lX (K:aa) (C:af) (A:CA) (kD:Sp):TS :=
 bZ (eO (kx 1 [1,0] (X8 (fS K (aw 0) "level_of")) (bJ 0) (eL (cV (m7 K) (cV (eP K) (fS K (aw 2) "level_of") (aw 0)) (aw 1))) (aw 0)) (bJ 3))
 (eY (dS kD [] E0 (ay (kx 1 [2,0] (pZ K (aw 3)) (bJ 0) (eL (cV (m7 K) (cV (eP K) (fS K (aw 2) "wooden") (aw 0)) (aw 1))) (aw 0)) (ay (fS K (aw 0) "weight_of") bj))))
theorem wW (Fu:lZ K "at_level" "Levels.at_level" nC f fd) (T:oi K mg C A) {kD:Sp}(qr:rR P w K mg base eN 1 "in_order" CC kD)
 (len:Ln sp 3) (run:Rn sp (lX K C A kD) Q4):dF P w K mg base eN 2 f fd M9 sp :=
 Fu.oj qK len run λ_ _ _ _ _ _ hr =>
 aE (xQ (i:=3) ["tie"] (ys:=["level","self"]) [1,0] rfl qK.nd rfl rfl (Ql (cq (pv 0) rfl)) ⟨rfl,.inl rfl,rfl,⟨rfl,.inl rfl,rfl,trivial⟩⟩ (λ_ _ _=>eS (show (["tie","level","self"]:List bu).Nodup by decide +kernel)) (λ_ _ _=>lD (cz (iH hr.units) (c6 (fF hr.units) (cq (pv 2) rfl) (pv 0) (λ_ _=>rfl)) (pv 1) (dj _))) (λ_ _ _=>pv 0))
 (aS (cb (qE qr hr.m rfl b0 (ai (kb ["tie"] (ys:=["wooden","self"]) [2,0] rfl (i6 (pv 3)) ⟨rfl,.inl rfl,rfl,⟨rfl,.inl rfl,rfl,trivial⟩⟩ (λ_ _ _=>eS (show (["tie","wooden","self"]:List bu).Nodup by decide +kernel)) (λ_ _ _=>lD (cz (iH hr.units) (c6 (fF hr.units) (cq (pv 2) rfl) (pv 0) (λ_ _=>rfl)) (pv 1) (dj _))) (λ_ _ _=>pv 0)) (ai (cq (pv 0) rfl) aH)))))
def qt (K:aa) (C:af) (A:CA):TS :=
 eY (mn (ay (cV (eP K) (aw 1) (tC (.int 0))) (ay (cV (eP K) (aw 1) (tC (.int 1))) (ay (cV (eP K) (fS K (aw 0) "level_of") (aw 1)) (ay (cV (eP K) (fS K (aw 0) "wooden") (aw 1)) bj)))))
theorem C2 (Fu:lZ K "told" "Levels.told" sO f fd) (T:oi K mg C A)
 (len:Ln sp 2) (run:Rn sp (qt K C A) m8):dF P w K mg base eN 1 f fd m8 sp :=
 Fu.oj Ej len run λ_ _ _ _ _ _ hr =>
 aS (cb (gF (ai (c6 (fF hr.units) (pv 1) aU (λ_ _=>rfl)) (ai (c6 (fF hr.units) (pv 1) aU (λ_ _=>rfl)) (ai (c6 (fF hr.units) (cq (pv 0) rfl) (pv 1) (λ_ _=>rfl)) (ai (c6 (fF hr.units) (cq (pv 0) rfl) (pv 1) (λ_ _=>rfl)) aH))))))
def j6 (K:aa) (C:af) (A:CA) (dO iW:Sp):TS :=
 bZ (eO (cV (eP K) (fS K (aw 0) "woods") (aw 1)) (bJ 3))
 (eY (fh C "group" dO [] E0 (aw 3) (ay (Xm (eL (cV (tO λi j=>.bl (decide (i<=j))) (fh C "size" iW [] E0 (aw 3) (ay (cV (eP K) (aw 2) (tC (.int 0))) bj)) (fh C "size" iW [] E0 (aw 3) (ay (cV (eP K) (aw 2) (tC (.int 1))) bj)))) (cV (eP K) (aw 2) (tC (.int 0))) (cV (eP K) (aw 2) (tC (.int 1)))) bj)))
theorem tQ (Fu:lZ K "lesser_side" "Levels.lesser_side" lb f fd) (T:oi K mg C A) {dO:Sp}(iX:lG P w K mg base eN 4 C "group" kZ dO) {iW:Sp}(mf:lG P w K mg base eN 4 C "size" kZ iW)
 (len:Ln sp 3) (run:Rn sp (j6 K C A dO iW) Q7):dF P w K mg base eN 5 f fd Aq sp :=
 Fu.oj oh len run λ_ _ _ _ _ _ hr =>
 aE (eh oh.nd (c6 (fF hr.units) (cq (pv 0) rfl) (pv 1) (λ_ _=>rfl)))
 (aS (cb (vR iX T.kR hr.m (pv 3) b0 (ai (xD (cz Iw (vR mf T.kR hr.m (pv 3) b0 (ai (c6 (fF hr.units) (pv 2) aU (λ_ _=>rfl)) aH)) (vR mf T.kR hr.m (pv 3) b0 (ai (c6 (fF hr.units) (pv 2) aU (λ_ _=>rfl)) aH)) (dj _)) (c6 (fF hr.units) (pv 2) aU (λ_ _=>rfl)) (c6 (fF hr.units) (pv 2) aU (λ_ _=>rfl))) aH))))
def rW (K:aa) (C:af) (A:CA) (cu cG dI dJ cn:Sp):TS :=
 xE (pZ K (aw 4)) (bJ 5)
 (ir (fh A.bB "lift" dI [] E0 (aw 0) (ay (aw 5) bj)))
def rX (K:aa) (C:af) (A:CA) (cu cG dI dJ cn:Sp):TS :=
 xE (pZ K (fh A.bB "at_level" cG [] E0 (aw 0) (ay (aw 1) (ay (tC (.bl false)) bj)))) (bJ 5)
 (bZ (eO (dS dJ [] E0 (ay (aw 5) (ay (aw 3) bj))) (bJ 6))
 (bZ (jw (eL (cV (m7 K) (aw 6) (tC (.int 1))))
 (bZ (ir (fh A.bB "adopt" cn [] E0 (aw 0) (ay (aw 5) bj)))
 (eY (mn (ay (aw 1) (ay (aw 3) (ay (qT (oe K) (ay (aw 4) bj)) (ay (aw 5) bj)))))))
 fU)
 (jw (eL (cV (m7 K) (aw 6) (tC (.int 2))))
 (bZ (ir (fh A.bB "lift" dI [] E0 (aw 0) (ay (aw 5) bj)))
 (ir (FA K "list" o9 (aw 4) (ay (aw 5) bj))))
 fU)))
def qu (K:aa) (C:af) (A:CA) (cu cG dI dJ cn:Sp):TS :=
 bZ (eO (fh A.bB "lesser_side" cu [] E0 (aw 0) (ay (aw 1) (ay (aw 2) bj))) (bJ 3))
 (bZ (eO (kx 1 [3] (pZ K (fh A.bB "at_level" cG [] E0 (aw 0) (ay (aw 1) (ay (tC (.bl true)) bj)))) (bJ 0) (eL (cV (m7 K) (dS dJ [] E0 (ay (aw 0) (ay (aw 1) bj))) (tC (.int 2)))) (aw 0)) (bJ 4))
 (bZ (rW K C A cu cG dI dJ cn)
 (bZ (rX K C A cu cG dI dJ cn)
 (eY (mn (ay (aw 1) (ay (aw 3) (ay (qT (oe K) (ay (aw 4) bj)) (ay (tC .non) bj)))))))))
theorem C3 (Fu:lZ K "look" "Levels.look" sP f fd) (T:oi K mg C A) {cu:Sp}(gL:lG P w K mg base eN 5 A.bB "lesser_side" Aq cu) {cG:Sp}(gZ:lG P w K mg base eN 2 A.bB "at_level" M9 cG) {dI:Sp}(jX:lG P w K mg base eN 7 A.bB "lift" m8 dI) {dJ:Sp}(jY:rR P w K mg base eN 1 "ends_within" CD dJ) {cn:Sp}(gK:lG P w K mg base eN 7 A.bB "adopt" m8 cn)
 (len:Ln sp 3) (run:Rn sp (qu K C A cu cG dI dJ cn) Q0):dF P w K mg base eN 8 f fd Aq sp :=
 Fu.oj jU len run λ_ _ _ _ _ _ hr =>
 aE (KL (i:=3) jU.nd rfl (Or.inr rfl) (vR gL T.hJ hr.m (pv 0) b0 (ai (pv 1) (ai (pv 2) aH))))
 (aE (xQ (i:=4) ["other"] (ys:=["side"]) [3] rfl jU.nd rfl rfl (i6 (vR gZ T.hJ hr.m (pv 0) b0 (ai (pv 1) (ai n6 aH)))) ⟨rfl,.inl rfl,rfl,trivial⟩ (λ_ _ _=>eS (show (["other","side"]:List bu).Nodup by decide +kernel)) (λ_ _ _=>lD (cz (iH hr.units) (qE jY hr.m rfl b0 (ai (pv 0) (ai (pv 1) aH))) aU (dj _))) (λ_ _ _=>pv 0))
 (aE (oH cZ rfl (i6 (pv 4)) (eS jU.nd)
 (aS (dR (vR jX T.hJ hr.m (pv 0) b0 (ai (pv 5) aH)))))
 (aE (oH cZ rfl (i6 (vR gZ T.hJ hr.m (pv 0) b0 (ai (pv 1) (ai n6 aH)))) (eS jU.nd)
 (aE (eh jU.nd (qE jY hr.m rfl b0 (ai (pv 5) (ai (pv 3) aH))))
 (aE (f9 (cz (iH hr.units) (pv 6) aU (dj _))
 (aE (dR (vR gK T.hJ hr.m (pv 0) b0 (ai (pv 5) aH)))
 (aS (cb (gF (ai (pv 1) (ai (pv 3) (ai (cg mF rfl T.mS BootT.sF (ai (pv 4) aH)) (ai (pv 5) aH))))))))
 cX)
 (aS (f9 (cz (iH hr.units) (pv 6) aU (dj _))
 (aE (dR (vR jX T.hJ hr.m (pv 0) b0 (ai (pv 5) aH)))
 (aS (dR (oU cU gP gQ nz (pv 4) (ai (pv 5) aH)))))
 cX)))))
 (aS (cb (gF (ai (pv 1) (ai (pv 3) (ai (cg mF rfl T.mS BootT.sF (ai (pv 4) aH)) (ai O8 aH))))))))))
def rY (K:aa) (C:af) (A:CA) (fM fN:Sp):TS :=
 BM (Ip (oJ K (aw 3)) (eL (cV (tO λi j=>.bl (decide (j<=i))) (aw 2) (tC (.int 0)))))
 (bZ (ir (FA K "list" o9 (aw 4) (ay (fh A.bB "look" fN [] E0 (aw 0) (ay (aw 2) (ay (aw 1) bj))) bj)))
 (bZ (eO (Vv (cV (eP K) (cV (eP K) (aw 4) (Zd (rU λi=>.int (-i)) (tC (.int 1)))) (tC (.int 3)))) (bJ 3))
 (Pc 2 (tC (.int 1)) (tO λi j=>.int (i-j)))))
def qv (K:aa) (C:af) (A:CA) (fM fN:Sp):TS :=
 bZ (eO (cV (eP K) (fS K (aw 0) "level_of") (aw 1)) (bJ 2))
 (bZ (eO (cV (eP K) (fS K (aw 0) "wooden") (aw 1)) (bJ 3))
 (bZ (ir (fh A.bB "drop" fM [] E0 (aw 0) (ay (aw 1) bj)))
 (bZ (eO (wo bj) (bJ 4))
 (bZ (rY K C A fM fN)
 (eY (aw 4))))))
theorem C4 (Fu:lZ K "take" "Levels.take" sQ f fd) (T:oi K mg C A) {fM:Sp}(lI:lG P w K mg base eN 7 A.bB "drop" m8 fM) {fN:Sp}(lJ:lG P w K mg base eN 8 A.bB "look" Aq fN)
 (len:Ln sp 2) (run:Rn sp (qv K C A fM fN) Q2):dF P w K mg base eN 9 f fd m8 sp :=
 Fu.oj jV len run λ_ _ _ _ _ _ hr =>
 aE (eh jV.nd (c6 (fF hr.units) (cq (pv 0) rfl) (pv 1) (λ_ _=>rfl)))
 (aE (eh jV.nd (c6 (fF hr.units) (cq (pv 0) rfl) (pv 1) (λ_ _=>rfl)))
 (aE (dR (vR lI T.hJ hr.m (pv 0) b0 (ai (pv 1) aH)))
 (aE (eh jV.nd (oI aH))
 (aE (BN cZ (PW.pt (yX (iI (pv 3) (λ_=>rfl)) (u6 (cz XE (pv 2) aU (dj _)))))
 (aE (dR (oU cU gP gQ nz (pv 4) (ai (vR lJ T.hJ hr.m (pv 0) b0 (ai (pv 2) (ai (pv 1) aH))) aH)))
 (aE (eh jV.nd (O9 (Vw (c6 (fF hr.units) (c6 (fF hr.units) (pv 4) (UC Pe aU) (λ_ _=>rfl)) aU (λ_ _=>rfl)))))
 (aS (KM (i:=2) jV.nd rfl (Or.inl rfl) aU SR)))))
 (aS (cb (pv 4)))))))
def nI (K:aa) (C:af) (A:CA) (fi kE:Sp):TS :=
 bZ (jw (tZ (oJ K (dS kE [] E0 (ay (aw 1) bj))))
 t7
 fU)
 (bZ (wm K (aw 0) (aw 1) "n")
 (bZ (wm K (aw 0) (Iz A.bB fi [] E0 (ay (aw 1) bj)) "levels")
 (bZ (wm K (aw 0) (cV (eP K) (fS K (fS K (aw 0) "levels") "woods") (tC (.int 0))) "wood")
 (bZ (wm K (aw 0) (tC (.int 0)) "came")
 (bZ (wm K (aw 0) (tC (.int 0)) "looked")
 (bZ (wm K (aw 0) (tC (.int 0)) "risen")
 (wm K (aw 0) (tC (.int 0)) "lost")))))))
theorem zy (Fu:lZ K "__init__" "Kept.__init__" qg f fd) (T:oi K mg C A) {fi:Sp}(fO:TC P w K mg base eN 3 A.bB lH fi) {kE:Sp}(qw:rR P w K mg base eN 2 "is_count" qe kE)
 (len:Ln sp 2) (run:Rn sp (nI K C A fi kE) lH):dF P w K mg base eN 5 f fd lH sp :=
 Fu.oj AJ len run λ_ _ _ _ _ _ hr =>
 aE (f9 (lS (iI (qE qw hr.m rfl b0 (ai (pv 1) aH)) (λ_=>rfl)))
 (aS pV)
 cX)
 (aE (nu (pv 0) (pv 1) rfl)
 (aE (nu (pv 0) (Gh fO.m fO.G hr.m rfl T.Oy fO.b .nil b0 (ai (pv 1) aH)) rfl)
 (aE (nu (pv 0) (c6 (fF hr.units) (cq (cq (pv 0) rfl) rfl) aU (λ_ _=>rfl)) rfl)
 (aE (nu (pv 0) aU rfl)
 (aE (nu (pv 0) aU rfl)
 (aE (nu (pv 0) aU rfl)
 (aS (nu (pv 0) aU rfl))))))))
def oR (K:aa) (C:af) (A:CA) (ja:Sp):TS :=
 bZ (vc K (aw 0) (tC (.int 1)) NK "came")
 (eY (fh A.bB "add" ja [] E0 (fS K (aw 0) "levels") (ay (aw 1) (ay (aw 2) bj))))
theorem AQ (Fu:lZ K "receive" "Kept.receive" rg f fd) (T:oi K mg C A) {ja:Sp}(mQ:lG P w K mg base eN 8 A.bB "add" xW ja)
 (len:Ln sp 3) (run:Rn sp (oR K C A ja) xW):dF P w K mg base eN 9 f fd xW sp :=
 Fu.oj CN len run λ_ _ _ _ _ _ hr =>
 aE (vd (pv 0) aU BV)
 (aS (cb (vR mQ T.hJ hr.m (cq (pv 0) rfl) b0 (ai (pv 1) (ai (pv 2) aH)))))
def uB (K:aa) (C:af) (A:CA) (h8 nJ iJ qx iT du:Sp):TS :=
 bZ (eO (dS h8 [] E0 (ay (fS K (aw 0) "n") (ay (fS K (fS K (aw 0) "levels") "level_of") (ay (aw 1) (ay (aw 2) bj))))) (bJ 3))
 (bZ (vc K (aw 0) (dS nJ [] E0 (ay (fS K (aw 0) "n") (ay (wo (ay (fh A.bB "told" du [] E0 (fS K (aw 0) "levels") (ay (aw 3) bj)) bj)) bj))) NK "lost")
 (bZ (eO (fh A.bB "take" iJ [] E0 (fS K (aw 0) "levels") (ay (aw 3) bj)) (bJ 4))
 (bZ (vc K (aw 0) (dS qx [] E0 (ay (aw 4) bj)) NK "looked")
 (bZ (vc K (aw 0) (dS iT [] E0 (ay (aw 4) bj)) NK "risen")
 (eY (aw 4))))))
theorem JF (Fu:lZ K "out" "Kept.out" zm f fd) (T:oi K mg C A) {h8:Sp}(kF:rR P w K mg base eN 6 "standing_tie" Ap h8) {nJ:Sp}(uC:rR P w K mg base eN 2 "credit" CF nJ) {iJ:Sp}(lK:lG P w K mg base eN 9 A.bB "take" m8 iJ) {qx:Sp}(x5:rR P w K mg base eN 2 "looks" tE qx) {iT:Sp}(pq:rR P w K mg base eN 1 "rises" tE iT) {du:Sp}(iz:lG P w K mg base eN 1 A.bB "told" m8 du)
 (len:Ln sp 3) (run:Rn sp (uB K C A h8 nJ iJ qx iT du) Q5):dF P w K mg base eN 10 f fd jH sp :=
 Fu.oj wO len run λ_ _ _ _ _ _ hr =>
 aE (eh wO.nd (qE kF hr.m rfl b0 (ai (cq (pv 0) rfl) (ai (cq (cq (pv 0) rfl) rfl) (ai (pv 1) (ai (pv 2) aH))))))
 (aE (vd (pv 0) (qE uC hr.m rfl b0 (ai (cq (pv 0) rfl) (ai (oI (ai (vR iz T.hJ hr.m (cq (pv 0) rfl) b0 (ai (pv 3) aH)) aH)) aH))) BV)
 (aE (eh wO.nd (vR lK T.hJ hr.m (cq (pv 0) rfl) b0 (ai (pv 3) aH)))
 (aE (vd (pv 0) (qE x5 hr.m rfl b0 (ai (pv 4) aH)) BV)
 (aE (vd (pv 0) (qE pq hr.m rfl b0 (ai (pv 4) aH)) BV)
 (aS (cb (pv 4)))))))
def qy (K:aa) (C:af) (A:CA) (cj:Sp):TS :=
 eY (fh C "joined" cj [] E0 (fS K (aw 0) "wood") (ay (aw 1) (ay (aw 2) bj)))
theorem C5 (Fu:lZ K "joined" "Kept.joined" sR f fd) (T:oi K mg C A) {cj:Sp}(eZ:lG P w K mg base eN 5 C "joined" jH cj)
 (len:Ln sp 3) (run:Rn sp (qy K C A cj) jH):dF P w K mg base eN 6 f fd jH sp :=
 Fu.oj Ek len run λ_ _ _ _ _ _ hr =>
 aS (cb (vR eZ T.kR hr.m (cq (pv 0) rfl) b0 (ai (pv 1) (ai (pv 2) aH))))
def sX (K:aa) (C:af) (A:CA) (dO:Sp):TS :=
 eY (fh C "group" dO [] E0 (fS K (aw 0) "wood") (ay (aw 1) bj))
theorem GO (Fu:lZ K "side" "Kept.side" wK f fd) (T:oi K mg C A) {dO:Sp}(iX:lG P w K mg base eN 4 C "group" kZ dO)
 (len:Ln sp 2) (run:Rn sp (sX K C A dO) kZ):dF P w K mg base eN 5 f fd kZ sp :=
 Fu.oj Jw len run λ_ _ _ _ _ _ hr =>
 aS (cb (vR iX T.kR hr.m (cq (pv 0) rfl) b0 (ai (pv 1) aH)))
def sY (K:aa) (C:af) (A:CA) (du:Sp):TS :=
 eY (qT (oe K) (ay (kx 1 [0] (X8 (fS K (fS K (aw 0) "levels") "level_of")) (bJ 0) xO (fh A.bB "told" du [] E0 (fS K (aw 1) "levels") (ay (aw 0) bj))) bj))
theorem GP (Fu:lZ K "ties" "Kept.ties" wL f fd) (T:oi K mg C A) {du:Sp}(iz:lG P w K mg base eN 1 A.bB "told" m8 du)
 (len:Ln sp 1) (run:Rn sp (sY K C A du) xX):dF P w K mg base eN 2 f fd xX sp :=
 Fu.oj Jx len run λ_ _ _ _ _ _ hr =>
 aS (cb (cg mF rfl T.mS BootT.sF (ai (kb ["tie"] (ys:=xX) [0] rfl (Ql (cq (cq (pv 0) rfl) rfl)) ⟨rfl,.inl rfl,rfl,trivial⟩ (λ_ _ _=>eS (show (["tie","self"]:List bu).Nodup by decide +kernel)) (λ_ _ _=>mE) (λ_ _ _=>vR iz T.hJ hr.m (cq (pv 1) rfl) b0 (ai (pv 0) aH))) aH)))
def rD (K:aa) (C:af) (A:CA) (h9 lY:Sp):TS :=
 eY (fh A.Keeper "receive" h9 [] E0 (aw 0) (ay (dS lY [] E0 (ay (fS K (aw 0) "n") (ay (fS K (fS K (aw 0) "levels") "level_of") (ay (aw 1) (ay (aw 2) bj))))) (ay (tC (.int 0)) bj)))
theorem Es (Fu:lZ K "put" "Keeper.put" uk f fd) (T:oi K mg C A) {h9:Sp}(kH:lG P w K mg base eN 9 A.Keeper "receive" xW h9) {lY:Sp}(rZ:rR P w K mg base eN 6 "new_tie" Ap lY)
 (len:Ln sp 3) (run:Rn sp (rD K C A h9 lY) jH):dF P w K mg base eN 10 f fd jH sp :=
 Fu.oj GJ len run λ_ _ _ _ _ _ hr =>
 aS (cb (vR kH T.iC hr.m (pv 0) b0 (ai (qE rZ hr.m rfl b0 (ai (cq (pv 0) rfl) (ai (cq (cq (pv 0) rfl) rfl) (ai (pv 1) (ai (pv 2) aH))))) (ai aU aH))))
end K31
section
open PySem PySem.Spec PyProof.Rows L2
local macro_rules | `(tactic| walk_at "c")=>`(tactic| first|(show (0:Int)<_;lia)|exact ⟨by lia,by lia⟩|exact Or.inl ⟨by lia,by lia⟩|exact Or.inr ⟨by lia,by lia⟩|exact ⟨by lia,by lia,by lia⟩)
local macro_rules | `(tactic| walk_at "x1")=>`(tactic| first|(with_reducible first|refine PD ?_|refine XO ?_|refine Br ?_|refine VR ?_)|((with_reducible refine' rP ?hv ?_);(case hv=>exact rfl))|(with_reducible first|refine x_c ?_|refine ZR ?_|refine XQ ?_|refine PF ?_|refine VS ?_|refine XR ?_|refine ZU ?_|refine VT ?_|refine Z1 ?_|refine X2 ?_|refine V5 ?_|refine XS ?_|refine ZV ?_|refine XT ?_|refine VU ?_|refine x_orV ?_|refine VW ?_|refine X0 ?_|refine XU ?_|refine Cc ?_|refine wz ?_|refine XW ?_|refine PH ?_|refine VX ?_|refine ZW ?_|refine VY ?_|refine ZX ?_|refine PJ ?_|refine VZ ?_|refine XX ?_)|((with_reducible refine ZY ?hc ?_);(case hc=>walk_at "c"))|(with_reducible first|refine V0 ?_|refine x_addHI ?_|refine XY ?_|refine XZ ?_|refine V7 ?_|refine PN ?_|refine V8 ?_|refine V4 ?_|refine X4 ?_|refine X5 ?_|refine ZT ?_|refine Z0 ?_|refine Tq ?_|refine X1 ?_|refine x_rev ?_|refine x_dnew ?_|refine Gr ?_|refine PP ?_)|((with_reducible refine' X3 ?hv ?_);(case hv=>exact rfl))|with_reducible refine ⟨_,rfl,?_⟩)
local macro_rules | `(tactic| walk_at "x")=>`(tactic| (walk_at "x1";repeat walk_at "x1"))
namespace K31
open Rm
variable {K:aa}{C:af}{A:CA}{Pt:af}
def x6 (t:Int×Int):PyData:=.tuple [.int t.1,.int t.2]
theorem FT {K:aa}{H:Hp}:∀ {zs:List Zt},(∀ z∈zs,fH H z)->fj K H ((zs.map zP).map x6) (zs.map j5)
 | [],_=>.nil
 | z::zs,h=>.cons (.tup (.of (h z av)) (.cons (.int _) (.cons (.int _) .nil))) (FT λy hy=>h y (ak _ hy))
theorem GQ {K:aa}{H:Hp}{l:af}{zs:List Zt}(hl:H l=some (.lst (zs.map j5))) (h:∀ z∈zs,fH H z):Rep K H (.list ((zs.map zP).map x6)) (.ref l):=.lst (de.of hl) (FT h)
theorem uD:∀ L:List (Int×Int),kA (L.map x6)=true
 | []=>rfl
 | t::ts=>by simp only [bT,kA,gW];exact ⟨by simp [x6,oK,kA],uD ts⟩
theorem JG:∀ L:List (Int×Int),dz (L.map x6)<=2
 | []=>by simp [dz]
 | t::ts=>by
  have:=JG ts;simp only [bT,dz]
  have e:(x6 t).depth<=2:=by simp [x6,j4,dz]
  lia
theorem GR (L:List (Int×Int)):wy (.list (L.map x6)):=⟨za _ (by simp only [oK];exact uD L),by have:=JG L;simp only [j4];lia⟩
theorem WE {L M:List (Int×Int)}(e:L=M):dC (.list (L.map x6)) (.list (M.map x6))=true:=by rw [e];exact rH _ (GR M).lay
theorem sZ {H H':Hp}{zs:List Zt}(h:∀ z∈zs,fH H z) (S:b8 H H'):∀ z∈zs,fH H' z:=λz hz=>S _ _ (h z hz)
theorem C6 (t u:Int×Int):dC (x6 t) (x6 u)=decide (t=u):=by
 obtain ⟨a,b⟩:=t;obtain ⟨c,d⟩:=u;rw [ji];simp [x6,dC,PyData.eqvAll,xC]
theorem GS (t:Int×Int):wy (x6 t):=⟨za _ (by simp [x6,oK,kA]),by simp [x6,j4,dz]⟩
theorem GT {K:aa}{H:Hp}{p:af}{a b:Int}(h:H p=some (.tup [.int a,.int b])):Rep K H (x6 (a,b)) (.ref p):=.tup (.of h) (.cons (.int _) (.cons (.int _) .nil))
theorem WG {L:List (Int×Int)}{t u:Int×Int}:∀ {m:Nat},m<L.idxOf t->L[m]?=some u->u≠t:=by
 induction L with
 | nil=>intro m h e;simp at e
 | cons v L ih =>
  intro m h e
  by_cases q:v=t
  ·subst q;simp at h
  ·have hv:(v == t)=false:=by simpa using q
   rw [Xl,hv] at h
   cases m with
   | zero=>simp at e;subst e;exact q
   | succ m=>exact ih (m:=m) (by simpa using h) (by simpa using e)
theorem JH {K:aa}{H:Hp}{Q:VK}{l p:af}{zs:List Zt}{a b:Int}(hl:H l=some (.lst (zs.map j5))) (hz:∀ z∈zs,fH H z) (hlen:zs.length<=100000) (hp:H p=some (.tup [.int a,.int b])) (hm:(a,b)∈zs.map zP)
  (k:Q (.int ((zs.map zP).idxOf (a,b):Nat)) H):sG K (.ref l) [.ref p] H Q:=by
 have hi:(zs.map zP).idxOf (a,b)<(zs.map zP).length:=hU.mpr hm;refine .inr ⟨l,.ref p,(zs.map zP).map x6,x6 (a,b),(zs.map zP).idxOf (a,b),x6 (a,b),rfl,rfl,GQ hl hz,GT hp,GS _,gj _ (uD _),by rw [ag,ag];exact bD hlen,?_,by rw [C6];simp,λm e hm' em=>?_,k⟩
 ·rw [aD,aC hi,AC];rfl
 ·rw [aD] at em;obtain ⟨u,e1,e2⟩:=bx.mp em;subst e2;rw [C6,decide_eq_false (WG hm' e1)]
def cP (K:aa) (C:af):Sp:=λvs H Q _=>∃ (p:af) (r:List Int),vs=[.ref p]/\de K H p (r.map V.int)/\r.length<=1000/\∀ l H' (zs:List Zt),b8 H H'->H l=none->H' l=some (.lst (zs.map j5))->(∀ z∈zs,fH H' z)->zs.map zP=al r->Q (.ref l) H'
theorem AR:Rn (cP K C) (qi K C) ["row"]:=by
 rintro vs H Q E ⟨p,r,rfl,hp,hl,k⟩;unfold qi;walk_at "x";refine We ?_;walk_at "x";refine xS (j:=1) hp rfl λq hq=>?_;generalize eu_:upd H q (.lst ((r.drop 1).map V.int))=H1;obtain ⟨S1,g1⟩:=lF eu_ hq;walk_at "x";exact ⟨p,q,r,r.drop 1,rfl,S1.seq hp,de.of g1,by lia,λl zs H2 S2 hl2 gl hz e=>k l H2 zs (S1.trans S2) (S1.free hl2) gl hz (by rw [e,Lm])⟩
def kQ (K:aa) (C:af):Sp:=λvs H Q _=>∃ (p:af) (r:List Int) (a b:Int),vs=[.ref p,.int a,.int b]/\de K H p (r.map V.int)/\r.length<=1000/\(a,b)∈al r/\(b,a)∈al r /\
 ∀ (t x y:af) (H':Hp),b8 H H'->H t=none->H x=none->H y=none->x≠y->H' t=some (.tup [.ref x,.ref y])->H' x=some (.lst ((yS r a b).1.map V.int))->H' y=some (.lst ((yS r a b).2.map V.int))->Q (.ref t) H'
theorem LC:Rn (kQ K C) (zw K C (cP K C)) QY:=by
 rintro vs H Q E ⟨p,r,a,b,rfl,hp,hl,hab,hba,k⟩;have hi:(al r).idxOf (a,b)<(al r).length:=hU.mpr hab;have hj:(al r).idxOf (b,a)<(al r).length:=hU.mpr hba;rw [Lo] at hi hj;unfold zw;walk_at "x";refine ⟨p,r,rfl,hp,hl,λw H1 zs S1 hw gw hz ez=>?_⟩
 have hzl:zs.length<=1000:=by
  have:=congrArg df ez;rw [ag,Lo] at this;lia
 walk_at "x";refine ⟨.inl ⟨rfl,_,de.of gw⟩,?_⟩;walk_at "x";refine ⟨bD (m:=2) (au 2),λt1 ht1=>?_⟩;generalize eu_:upd H1 t1 (.tup [.int a,.int b])=H2;obtain ⟨S2,g2⟩:=lF eu_ ht1;walk_at "x";refine JH (S2 _ _ gw) (sZ hz S2) (by lia) g2 (by rw [ez];exact hab) ?_;rw [ez];walk_at "x";refine ⟨.inl ⟨rfl,_,de.of (S2 _ _ gw)⟩,?_⟩;walk_at "x";refine ⟨bD (m:=2) (au 2),λt2 ht2=>?_⟩;generalize eu_:upd H2 t2 (.tup [.int b,.int a])=H3;obtain ⟨S3,g3⟩:=lF eu_ ht2;have S13:=S2.trans S3;walk_at "x";refine JH (S13 _ _ gw) (sZ hz S13) (by lia) g3 (by rw [ez];exact hba) ?_;rw [ez]
 have hpr:yS r a b=if (al r).idxOf (a,b)<(al r).idxOf (b,a) then (ze r ((al r).idxOf (a,b)) ((al r).idxOf (b,a)),ud r ((al r).idxOf (a,b)) ((al r).idxOf (b,a))) else (ud r ((al r).idxOf (b,a)) ((al r).idxOf (a,b)),ze r ((al r).idxOf (b,a)) ((al r).idxOf (a,b))):=rfl
 generalize (al r).idxOf (a,b)=i at hi hpr;generalize (al r).idxOf (b,a)=j at hj hpr;walk_at "x"
 obtain ⟨u,v,eu,ev,huv⟩:∃ u v:Nat,(if (j:Int)<(i:Int) then (j:Int) else (i:Int))=(u:Int)/\(if (j:Int)>(i:Int) then (j:Int) else (i:Int))=(v:Int)/\((i<j/\u=i/\v=j)\/(¬ i<j/\u=j/\v=i)):=by
  by_cases c:i<j
  ·exact ⟨i,j,by rw [if_neg (by lia)],by rw [if_pos (by lia)],.inl ⟨c,rfl,rfl⟩⟩
  ·by_cases c2:j<i
   ·exact ⟨j,i,by rw [if_pos (by lia)],by rw [if_neg (by lia)],.inr ⟨c,rfl,rfl⟩⟩
   ·have:i=j:=by lia
    subst this;exact ⟨i,i,by rw [if_neg (by lia)],by rw [if_neg (by lia)],.inr ⟨c,rfl,rfl⟩⟩
 rw [eu,ev];have hS:=S1.trans S13;refine MU (j:=u+1) (j':=v+1) (hS.seq hp) (by lia) (by lia) λy hy=>?_
 have hin:(r.drop (u+1)).take (v+1-(u+1))=ud r u v:=by unfold ud;rw [show v+1-(u+1)=v-u by lia]
 rw [hin];generalize eu_:upd H3 y (.lst ((ud r u v).map V.int))=H4;obtain ⟨S4,g4⟩:=lF eu_ hy;walk_at "x";refine Qb (j:=u+1) ((hS.trans S4).seq hp) (by lia) λq1 hq1=>?_;generalize eu_:upd H4 q1 (.lst ((r.take (u+1)).map V.int))=H5;obtain ⟨S5,g5⟩:=lF eu_ hq1;walk_at "x";refine xS (j:=v+2) ((hS.trans (S4.trans S5)).seq hp) (by lia) λq2 hq2=>?_;generalize eu_:upd H5 q2 (.lst ((r.drop (v+2)).map V.int))=H6;obtain ⟨S6,g6⟩:=lF eu_ hq2;refine Gu (S6 _ _ g5) g6 (by rw [bO,cQ];lia) λx hx=>?_;have S7:=b8.cw (o:=.lst ((ze r u v).map V.int)) hx;have g7:(upd H6 x (.lst ((ze r u v).map V.int))) x=some (.lst ((ze r u v).map V.int)):=aG
 show bJ 9 (.ref x) _ (upd H6 x (.lst ((ze r u v).map V.int))) _
 generalize upd H6 x (.lst ((ze r u v).map V.int))=H7 at S7 g7;have S37:=S4.trans (S5.trans (S6.trans S7));have S47:=S5.trans (S6.trans S7);have nxy:x≠y:=Ne.symm (aR (S6 _ _ (S5 _ _ g4)) hx);have hHx:H x=none:=(hS.trans (S4.trans (S5.trans S6))).free hx;have hHy:H y=none:=hS.free hy;walk_at "x"
 rcases huv with ⟨c,rfl,rfl⟩|⟨c,rfl,rfl⟩
 ·rw [if_pos c] at hpr;refine tV (λ_=>?_) λz=>absurd (by lia) z;walk_at "x";refine ⟨bD (m:=2) (au 2),λt ht=>?_⟩;have S8:=b8.cw (o:=.tup [.ref x,.ref y]) ht;exact k t x y _ ((hS.trans S37).trans S8) ((hS.trans S37).free ht) hHx hHy nxy aG (by rw [hpr];exact S8 _ _ g7) (by rw [hpr];exact S8 _ _ (S47 _ _ g4))
 ·rw [if_neg c] at hpr;refine tV (λz=>absurd (by lia) c) λ_=>?_;walk_at "x";refine ⟨bD (m:=2) (au 2),λt ht=>?_⟩;have S8:=b8.cw (o:=.tup [.ref y,.ref x]) ht;exact k t y x _ ((hS.trans S37).trans S8) ((hS.trans S37).free ht) hHy hHx (Ne.symm nxy) aG (by rw [hpr];exact S8 _ _ (S47 _ _ g4)) (by rw [hpr];exact S8 _ _ g7)
def nF (K:aa) (C:af):Sp:=λvs H Q _=>∃ (p:af) (r:List Int) (a:Int),vs=[.ref p,.int a]/\de K H p (r.map V.int)/\a∈r/\r.length<=1000 /\
 ∀ l H',b8 H H'->H l=none->H' l=some (.lst ((tn r (r.idxOf a)).map V.int))->Q (.ref l) H'
theorem LD:Rn (nF K C) (zu K C) ["row","a","k"]:=by
 rintro vs H Q E ⟨p,r,a,rfl,hp,ha,hl,q⟩;unfold zu;walk_at "x";refine ⟨.inl ⟨rfl,_,hp⟩,?_⟩;walk_at "x";refine MS hp ha ?_;walk_at "x";refine xS hp rfl λp1 h1=>?_;have S1:=b8.cw (o:=.lst ((r.drop (r.idxOf a)).map V.int)) h1;walk_at "x";refine MU (j:=1) (j':=r.idxOf a+1) (S1.seq hp) rfl (by lia) λp2 h2=>?_;have S2:=b8.cw (o:=.lst (((r.drop 1).take (r.idxOf a+1-1)).map V.int)) h2;refine Gu (S2 _ _ aG) aG ?_ λp3 h3=>?_
 ·rw [cQ,bO,cQ];lia
 ·have S3:=b8.cw (o:=.lst (((r.drop (r.idxOf a))++((r.drop 1).take (r.idxOf a+1-1))).map V.int)) h3;have S:=(S1.trans S2).trans S3;exact q p3 _ S ((S1.trans S2).free h3) aG
def lV (K:aa) (C:af):Sp:=λvs H Q _=>∃ (p q:af) (r1 r2:List Int) (a b:Int),vs=[.ref p,.ref q,.int a,.int b]/\de K H p (r1.map V.int)/\de K H q (r2.map V.int)/\a∈r1/\b∈r2/\r1.length<=1000/\r2.length<=1000 /\
 ∀ l H',b8 H H'->H l=none->H' l=some (.lst ((Cy r1 r2 a b).map V.int))->Q (.ref l) H'
theorem JI:Rn (lV K C) (wQ K C (nF K C)) Q8:=by
 rintro vs H Q E ⟨p,q,r1,r2,a,b,rfl,hp,hq,ha,hb,hl1,hl2,k⟩;unfold wQ;walk_at "x";refine ⟨.inl ⟨rfl,_,hp⟩,?_⟩;walk_at "x";refine MS hp ha ?_;walk_at "x";refine Qb (j:=r1.idxOf a+1) hp (by lia) λp1 h1=>?_;generalize eu_:upd H p1 (.lst ((r1.take (r1.idxOf a+1)).map V.int))=H1;obtain ⟨S1,g1⟩:=lF eu_ h1;walk_at "x";refine ⟨q,r2,b,rfl,S1.seq hq,hb,hl2,λt H2 S2 ht gt=>?_⟩;have hlt:(tn r2 (r2.idxOf b)).length=r2.length:=QR (Ll hb);refine Gu (S2 _ _ g1) gt (by rw [bO];lia) λp3 h3=>?_;generalize eu_:upd H2 p3 (.lst ((r1.take (r1.idxOf a+1)++tn r2 (r2.idxOf b)).map V.int))=H3;obtain ⟨S3,g3⟩:=lF eu_ h3;walk_at "x";have S13:=S1.trans (S2.trans S3);refine xS (j:=r1.idxOf a) (S13.seq hp) rfl λp4 h4=>?_;generalize eu_:upd H3 p4 (.lst ((r1.drop (r1.idxOf a)).map V.int))=H4;obtain ⟨S4,g4⟩:=lF eu_ h4;refine Gu (S4 _ _ g3) g4 (by rw [bq,bO,cQ];lia) λp5 h5=>?_;have S5:=b8.cw (o:=.lst ((r1.take (r1.idxOf a+1)++tn r2 (r2.idxOf b)++r1.drop (r1.idxOf a)).map V.int)) h5;refine k p5 _ ((S13.trans S4).trans S5) ((S13.trans S4).free h5) ?_;unfold Cy;rw [← dg];exact aG
def ft (K:aa) (C:af):Sp:=λvs H Q _=>∃ i:Int,vs=[.int i]/\Q (.bl true) H
theorem GU:Rn (ft K C) (uq K C) qe:=by
 rintro vs H Q E ⟨i,rfl,k⟩;unfold uq;walk_at "x";refine vQ (.int i) PV ?_;walk_at "x";refine pX ?_;walk_at "x";refine vQ (.int i) PX ?_;walk_at "x";exact k
def kC (K:aa) (C:af):Sp:=λvs H Q _=>∃ (n i:Nat),vs=[.int n,.int i]/\i<n/\Q (.bl true) H
theorem GV:Rn (kC K C) (uu K C (ft K C)) oW:=by
 rintro vs H Q E ⟨n,i,rfl,hi,k⟩;unfold uu;walk_at "x";refine ⟨i,rfl,?_⟩;refine ⟨true,rfl,?_⟩;refine pX ?_;walk_at "x";refine tV (λ_=>?_) λz=>absurd (show (0:Int)<=i by lia) z;walk_at "x";rw [decide_eq_true (show (i:Int)<n by lia)];exact k
def bG (K:aa) (C:af):Sp:=λvs H Q _=>∃ (n i:Nat),vs=[.int n,.int i]/\i<n/\Q .non H
theorem vz:Rn (bG K C) (lU K C (kC K C)) oW:=by
 rintro vs H Q E ⟨n,i,rfl,hi,k⟩;unfold lU;walk_at "x";refine ⟨n,i,rfl,hi,?_⟩;refine ⟨true,rfl,?_⟩;refine kP ?_;walk_at "x";exact k
def ck (K:aa) (C:af):Sp:=λvs H Q _=>∃ (n i j:Nat),vs=[.int n,.int i,.int j]/\i<n/\j<n/\Q .non H
theorem uE:Rn (ck K C) (lg K C (bG K C)) nj:=by
 rintro vs H Q E ⟨n,i,j,rfl,hi,hj,k⟩;unfold lg;walk_at "x";refine ⟨n,i,rfl,hi,?_⟩;walk_at "x";refine ⟨n,j,rfl,hj,?_⟩;exact k
def bh (K:aa) (C:af):Sp:=λvs H Q _=>∃ (n i j:Nat),vs=[.int n,.int i,.int j]/\i<n/\j<n/\i≠j/\Q .non H
theorem wX:Rn (bh K C) (mJ K C (ck K C)) nj:=by
 rintro vs H Q E ⟨n,i,j,rfl,hi,hj,hij,k⟩;unfold mJ;walk_at "x";refine ⟨n,i,j,rfl,hi,hj,?_⟩;walk_at "x";refine tV (λz=>absurd (lT.mp z) (by lia)) λ_=>?_;walk_at "x";exact k
theorem nK {K:aa}{ta tv:TE}{f:bu}{D:tN}{Z:L2.St}{H:Hp}(h:tv Z H λy H1=>ta Z H1 λx H2=>∃ a C dx fs,x=.ref a/\H2 a=some (.ins C dx fs)/\DX K C/\dY K C f/\fs.length<1000/\D.nx Z (upd H2 a (.ins C dx (eI f y fs)))):wm K ta tv f D Z H:=h
theorem kn:¬ (("n":bu)="rows"):=by decide +kernel
def GW (n:Nat) (l:af):List (bu×V):=eI "rows" (.ref l) (eI "n" (.int n) [])
theorem jt (n:Nat) (l:af):(GW n l).lookup ("rows":bu)=some (.ref l):=by unfold GW;rw [fV,if_pos rfl]
theorem zA (n:Nat) (l:af):(GW n l).lookup ("n":bu)=some (.int n):=by unfold GW;rw [fV,if_neg kn,fV,if_pos rfl]
theorem lP (n:Nat) (l:af) {m:bu}(h1:¬ m="rows":=by decide +kernel) (h2:¬ m="n":=by decide +kernel):(GW n l).lookup m=none:=by
 unfold GW;rw [fV,if_neg h1,fV,if_neg h2];rfl
structure CT (K:aa) (C:af):Prop where
 cl:DX K C
 n:dY K C "n"
 rows:dY K C "rows"
structure WA (C:af) (H:Hp) (p dx l:af) (n:Nat) (as:List af) (R:Nat->List Int):Prop where
 ob:H p=some (.ins C dx (GW n l))
 rl:H l=some (.lst (as.map V.ref))
 len:as.length=n
 at_:∀ i a,as[i]?=some a->H a=some (.lst ((R i).map V.int))
 ne:∀ a∈as,a≠l
theorem WA.get {C:af}{H:Hp}{p dx l:af}{n:Nat}{as:List af}{R:Nat->List Int}(W:WA C H p dx l n as R) {i:Nat}(hi:i<n):∃ a,as[i]?=some a/\H a=some (.lst ((R i).map V.int))/\a≠l:=by
 have h:i<as.length:=by rw [W.len];exact hi
 exact ⟨as[i],aC h,W.at_ i _ (aC h),W.ne _ (lR h)⟩
theorem WA.same {C:af}{H H':Hp}{p dx l:af}{n:Nat}{as:List af}{R:Nat->List Int}(W:WA C H p dx l n as R) (S:b8 H H'):WA C H' p dx l n as R :=
 ⟨S _ _ W.ob,S _ _ W.rl,W.len,λi a h=>S _ _ (W.at_ i a h),W.ne⟩
def gh (K:aa) (C:af):Sp:=λvs H Q _=>∃ (p dx:af) (n:Nat),vs=[.ref p,.int n]/\H p=some (.ins C dx [])/\CT K C/\n<=1000/\∀ (l:af) (as:List af) (H':Hp),WA C H' p dx l n as (λi=>[(i:Int)])->H l=none->bH p H H'->Q .non H'
theorem x8:Rn (gh K C) (nH K C) lH:=by
 rintro vs H Q E ⟨p,dx,n,rfl,hp,ct,hn,k⟩;unfold nH;walk_at "x1";refine nK ?_;walk_at "x";refine ⟨p,C,dx,[],rfl,hp,ct.cl,ct.n,by decide,?_⟩;dsimp only;refine nK ?_;walk_at "x";refine ⟨by lia,by lia,λacc hacc=>?_⟩
 have e0:((n:Int)).toNat=n:=by lia
 rw [e0]
 have hap:acc≠p:=λe=>by rw [e,aG] at hacc;cases hacc
 have hacc0:H acc=none:=by rw [aI hap] at hacc;exact hacc
 have g0:(upd H p (.ins C dx (eI "n" (.int n) []))) p=some (.ins C dx (eI "n" (.int n) [])):=aG;have B0:bH p H (upd H p (.ins C dx (eI "n" (.int n) []))):=bH.upd;generalize upd H p (.ins C dx (eI "n" (.int n) []))=H0 at hacc g0 B0;refine nR (n:=n) (λt ys H1=>∃ as:List af,ys=as.map V.ref/\as.length=t/\H1 acc=some (.lst ys)/\b8 H0 H1/\∀ (i:Nat) a,as[i]?=some a->a≠acc/\H1 a=some (.lst ([(i:Int)].map V.int))) (λZ=>∃ o,Z=[o]) ⟨[],rfl,rfl,aG,b8.cw hacc,λi a h=>by simp at h⟩ ⟨_,rfl⟩ ?_ ?_ ?_ ?_
 ·rintro t ys H1 ⟨_,_,_,h,_⟩;exact h
 ·rintro ys H1 ⟨as,rfl,hl,g1,S1,hA⟩;refine ⟨au n,?_⟩;walk_at "x";refine ⟨p,C,dx,_,rfl,S1 _ _ g0,ct.cl,ct.rows,by show 1<1000;decide,?_⟩;have hb:bH p H1 (upd H1 p (.ins C dx (GW n acc))):=bH.upd
  have nl:∀ {b:af}{xs:List V},H1 b=some (.lst xs)->b≠p:=λe z=>by rw [z,S1 _ _ g0] at e;cases e
  refine k acc as _ ⟨aG,hb _ _ g1 hap,hl,λi a ha=>hb _ _ (hA i a ha).2 (nl (hA i a ha).2),λa ha=>?_⟩ hacc0 λb o e hne=>hb _ _ (S1 _ _ (B0 _ _ e hne)) hne;obtain ⟨i,hi⟩:=bF.mp ha;exact (hA i a hi).1
 ·rintro t ys H1 ht _;exact ht
 ·rintro t ys σ' H1 x H2 ht ⟨as,rfl,hl,g1,S1,hA⟩ ⟨o,rfl⟩ ⟨eH,ex⟩;subst eH ex;walk_at "x";refine pX ?_;walk_at "x";refine ⟨bD (m:=1) (au 1),λq hq=>?_⟩;have T:=b8.cw (o:=.lst [.int (0+(t:Int))]) hq
  have u:(upd H2 q (.lst [.int (0+(t:Int))])) q=some (.lst ([(t:Int)].map V.int)):=by rw [aG];simp
  generalize upd H2 q (.lst [.int (0+(t:Int))])=H3 at T u;have hqa:q≠acc:=Ne.symm (aR g1 hq);refine ⟨T _ _ g1,ee (m:=10000) (by rw [ag];lia),k9.mk' ht ⟨_,rfl⟩ ⟨as++[q],by simp,by simp [hl],aG,λb o e=>by rw [aI (aR e hacc)];exact T _ _ (S1 _ _ e),λi a ha=>?_⟩⟩
  by_cases hi:i<as.length
  ·rw [eX hi] at ha;obtain ⟨h1,h2⟩:=hA i a ha;exact ⟨h1,by rw [aI h1];exact T _ _ h2⟩
  ·rw [eK (by lia)] at ha
   have:i=as.length:=by
    have:=(aB.mp ha).1;simp at this;lia
   subst this;simp at ha;subst ha;rw [hl];exact ⟨hqa,by rw [aI hqa];exact u⟩
def dD (K:aa) (C:af):Sp:=λvs H Q _=>∃ (p dx l q:af) (n:Nat) (as:List af) (s:List Int),vs=[.ref p,.ref q]/\CT K C/\H p=some (.ins C dx (GW n l))/\H l=some (.lst (as.map V.ref))/\as.length=n/\H q=some (.lst (s.map V.int))/\q≠l/\(∀ x∈s,∃ j:Nat,j<n/\x=(j:Int)) /\
 ∀ (as':List af) H',as'.length=n->(∀ (i:Nat) (a:af),as[i]?=some a->as'[i]?=some (if (i:Int)∈s then q else a))->H' l=some (.lst (as'.map V.ref))->bH l H H'->Q .non H'
theorem Et:Rn (dD K C) (sU K C) Rc:=by
 rintro vs H Q E ⟨p,dx,l,q,n,as,s,rfl,ct,hp,hl,hn,hq,hql,hs,k⟩;have hpl:p≠l:=je hp hl;unfold sU ux;walk_at "x"
 refine .inl ⟨⟨_,de.of hq⟩,mx (K:=K) (a:=q) (xs:=s.map V.int) (λi Z H1=>∃ (as':List af) (o:Option V),Z=[some (.ref p),some (.ref q),o]/\as'.length=n/\(∀ (j:Nat) (a:af),as[j]?=some a->as'[j]?=some (if (j:Int)∈s.take i then q else a))/\H1 l=some (.lst (as'.map V.ref))/\bH l H H1)
  ⟨as,_,rfl,hn,λj a h=>by simpa using h,hl,bH.refl _ _⟩ ?_ ?_ ?_⟩
 ·rintro i Z H1 _ ⟨as',o,_,_,_,_,B⟩;exact de.of (B _ _ hq hql)
 ·rintro i x Z H1 hi ⟨as',o,rfl,hn',hA,g1,B⟩;rw [aD] at hi;obtain ⟨c,hc,ex⟩:=bx.mp hi;have ex:x=V.int c:=ex.symm;subst ex;obtain ⟨j,hj,rfl⟩:=hs c (aW hc);walk_at "f";refine ⟨p,C,dx,_,_,rfl,B _ _ hp hpl,ct.cl,ct.rows,jt _ _,?_⟩;walk_at "x";refine V2 g1 (Wa (j:=j) rfl (by rw [ag];lia)) ?_;refine ⟨as'.set j q,_,rfl,by simpa using hn',λk' a ha=>?_,?_,λb o' e hb=>by rw [aI hb];exact B _ _ e hb⟩
  ·have e1:s.take (i+1)=s.take i++[(j:Int)]:=by rw [Xx,hc];rfl
   rw [e1]
   by_cases hk:k'=j
   ·subst hk;rw [nT (by rw [hn',← hn];exact (aB.mp ha).1),if_pos (by simp)]
   ·rw [xt (Ne.symm hk),hA k' a ha]
    have:((k':Int)∈s.take i++[(j:Int)])↔(k':Int)∈s.take i:=by
     simp only [aQ,aA];exact ⟨λh=>h.elim id λe=>absurd (by lia) hk,.inl⟩
    by_cases c1:(k':Int)∈s.take i
    ·rw [if_pos c1,if_pos (this.mpr c1)]
    ·rw [if_neg c1,if_neg (λh=>c1 (this.mp h))]
  ·rw [aG,List.map_set]
 ·rintro Z H1 ⟨as',o,rfl,hn',hA,g1,B⟩;rw [ag,Vm] at hA;exact k as' H1 hn' hA g1 B
def cj (K:aa) (C:af):Sp:=λvs H Q _=>∃ (p dx l:af) (n a b:Nat) (as:List af) (R:Nat->List Int),vs=[.ref p,.int a,.int b]/\CT K C/\WA C H p dx l n as R/\Wd n R/\a<n/\b<n/\Q (.bl (decide ((b:Int)∈R a))) H
theorem AS:Rn (cj K C) (qm K C (ck K C)) jH:=by
 rintro vs H Q E ⟨p,dx,l,n,a,b,as,R,rfl,ct,W,D,ha,hb,k⟩;obtain ⟨ra,e1,e2,_⟩:=W.get ha;obtain ⟨rb,f1,f2,_⟩:=W.get hb
 have hd:∀ i,i<n->∃ x,(R i)[0]?=some x/\(R i).head?=some x:=λi hi=>by
  cases h:R i with
  | nil=>exact absurd h (D.r i hi).ne
  | cons x t=>exact ⟨x,rfl,rfl⟩
 obtain ⟨x,hx,hx'⟩:=hd a ha;obtain ⟨y,hy,hy'⟩:=hd b hb;have hj:=D.head ha hb;rw [hx',hy'] at hj;unfold qm;walk_at "f";refine ⟨p,C,dx,_,_,rfl,W.ob,ct.cl,ct.n,zA _ _,?_⟩;walk_at "x";refine ⟨n,a,b,rfl,ha,hb,?_⟩;walk_at "f";refine ⟨p,C,dx,_,_,rfl,W.ob,ct.cl,ct.rows,jt _ _,?_⟩;walk_at "x";refine pY (de.of W.rl) (fG (j:=a) rfl (by rw [aD,e1];rfl)) ?_;walk_at "x";refine MV (de.of e2) (j:=0) rfl hx ?_;walk_at "f";refine ⟨p,C,dx,_,_,rfl,W.ob,ct.cl,ct.rows,jt _ _,?_⟩;walk_at "x";refine pY (de.of W.rl) (fG (j:=b) rfl (by rw [aD,f1];rfl)) ?_;walk_at "x";refine MV (de.of f2) (j:=0) rfl hy ?_;walk_at "x"
 have e:decide (V.int x=V.int y)=decide ((b:Int)∈R a):=by
  rw [ji,decide_eq_true_iff,decide_eq_true_iff,lT,← hj];exact ⟨λh=>by rw [h],λh=>a7 h⟩
 rw [e];exact k
def dE (K:aa) (C:af):Sp:=λvs H Q _=>∃ (p dx l:af) (n a b:Nat) (as:List af) (R:Nat->List Int),vs=[.ref p,.int a,.int b]/\CT K C/\WA C H p dx l n as R/\Wd n R/\n<=200/\a<n/\b<n/\(b:Int)∉R a /\
 ∀ (as':List af) H',WA C H' p dx l n as' (lk R a b)->bH l H H'->Q .non H'
theorem Eu:Rn (dE K C) (sV K C (bh K C) (cj K C) (dD K C) (lV K C)) jH:=by
 rintro vs H Q E ⟨p,dx,l,n,a,b,as,R,rfl,ct,W,D,hn,ha,hb,hm,k⟩;obtain ⟨ra,e1,e2,_⟩:=W.get ha;obtain ⟨rb,f1,f2,_⟩:=W.get hb;have hla:=D.len ha;have hlb:=D.len hb;have hab:a≠b:=λe=>hm (e▸D.me a ha);obtain ⟨T2,D2,E2⟩:=D.link ha hb hm;unfold sV;walk_at "f";refine ⟨p,C,dx,_,_,rfl,W.ob,ct.cl,ct.n,zA _ _,?_⟩;walk_at "x";refine ⟨n,a,b,rfl,ha,hb,hab,?_⟩;walk_at "m";refine ⟨p,dx,_,rfl,W.ob,lP _ _,?_⟩;walk_at "x";refine ⟨p,dx,l,n,a,b,as,R,rfl,ct,W,D,ha,hb,?_⟩;refine ⟨_,rfl,?_⟩;refine tV (λz=>absurd z hm) λ_=>?_;walk_at "m";refine ⟨p,dx,_,rfl,W.ob,lP _ _,?_⟩;walk_at "f";refine ⟨p,C,dx,_,_,rfl,W.ob,ct.cl,ct.rows,jt _ _,?_⟩;walk_at "x";refine pY (de.of W.rl) (fG (j:=a) rfl (by rw [aD,e1];rfl)) ?_;walk_at "f";refine ⟨p,C,dx,_,_,rfl,W.ob,ct.cl,ct.rows,jt _ _,?_⟩;walk_at "x";refine pY (de.of W.rl) (fG (j:=b) rfl (by rw [aD,f1];rfl)) ?_;walk_at "x";refine ⟨ra,rb,R a,R b,a,b,rfl,de.of e2,de.of f2,D.me a ha,D.me b hb,by lia,by lia,λq H1 S1 hq gq=>?_⟩;walk_at "x";have W1:=W.same S1;have hql:q≠l:=Ne.symm (aR W.rl hq);refine ⟨p,dx,l,q,n,as,_,rfl,ct,W1.ob,W1.rl,W.len,gq,hql,λx hx=>?_,λas' H2 hl2 hA g2 B2=>?_⟩
 ·rcases (T2.mem x).mp hx with h|h
  ·obtain ⟨j,hj,e,_⟩:=D.HH a ha x h;exact ⟨j,hj,e⟩
  ·obtain ⟨j,hj,e,_⟩:=D.HH b hb x h;exact ⟨j,hj,e⟩
 ·have hpl:p≠l:=je W.ob W.rl
  have hAt:∀ (i:Nat) (c:af),as'[i]?=some c->∃ c0,as[i]?=some c0/\c=if (i:Int)∈Cy (R a) (R b) a b then q else c0:=λi c hc=>by
   have hi:i<as.length:=by rw [W.len,← hl2];exact (aB.mp hc).1
   have:=hA i _ (aC hi);rw [hc] at this;exact ⟨_,aC hi,a7 this⟩
  refine k as' H2 ⟨B2 _ _ W1.ob hpl,g2,hl2,λi c hc=>?_,λc hc=>?_⟩ (λb' o e hne=>B2 _ _ (S1 _ _ e) hne)
  ·obtain ⟨c0,h0,ec⟩:=hAt i c hc
   show H2 c=some (.lst ((if (i:Int)∈Cy (R a) (R b) a b then Cy (R a) (R b) a b else R i).map V.int))
   by_cases ci:(i:Int)∈Cy (R a) (R b) a b
   ·rw [if_pos ci] at ec ⊢;rw [ec];exact B2 _ _ gq hql
   ·rw [if_neg ci] at ec ⊢;rw [ec];exact B2 _ _ (W1.at_ i c0 h0) (W.ne _ (aW h0))
  ·obtain ⟨i,hi⟩:=bF.mp hc;obtain ⟨c0,h0,ec⟩:=hAt i c hi
   by_cases ci:(i:Int)∈Cy (R a) (R b) a b
   ·rw [if_pos ci] at ec;rw [ec];exact hql
   ·rw [if_neg ci] at ec;rw [ec];exact W.ne _ (aW h0)
def iV (K:aa) (C:af):Sp:=λvs H Q _=>∃ (p dx l:af) (n a b:Nat) (as:List af) (R:Nat->List Int),vs=[.ref p,.int a,.int b]/\CT K C/\WA C H p dx l n as R/\Wd n R/\n<=200/\a<n/\b<n/\a≠b/\Ed n R a b /\
 ∀ (as':List af) H',WA C H' p dx l n as' (Rm.ct R a b)->bH l H H'->Q .non H'
theorem GX:Rn (iV K C) (uz K C (bh K C) (kQ K C) (cP K C) (dD K C)) Q9:=by
 rintro vs H Q E ⟨p,dx,l,n,a,b,as,R,rfl,ct,W,D,hn,ha,hb,hab,hE,k⟩;obtain ⟨ra,e1,e2,_⟩:=W.get ha;have hla:=D.len ha;have hm:=Ed.at D hE ha (D.me a ha);have hm':=(D.r a ha).sym _ _ hm;have P:=(D.r a ha).parted hm (by lia:(a:Int)≠b);have PM:=P.mem (D.r a ha);have hpl:p≠l:=je W.ob W.rl;unfold uz;walk_at "f";refine ⟨p,C,dx,_,_,rfl,W.ob,ct.cl,ct.n,zA _ _,?_⟩;walk_at "x";refine ⟨n,a,b,rfl,ha,hb,hab,?_⟩;walk_at "x";refine ⟨bD (m:=2) (au 2),λt ht=>?_⟩;generalize eu_:upd H t (.tup [.int (a:Int),.int (b:Int)])=H1;obtain ⟨S1,g1⟩:=lF eu_ ht;have W1:=W.same S1;walk_at "f";refine ⟨p,C,dx,_,_,rfl,W1.ob,ct.cl,ct.rows,jt _ _,?_⟩;walk_at "x";refine pY (de.of W1.rl) (fG (j:=a) rfl (by rw [aD,e1];rfl)) ?_;walk_at "x";refine ⟨ra,R a,rfl,de.of (S1 _ _ e2),by lia,λz H2 zs S2 hz gz pz ez=>?_⟩;refine IR (GT (S2 _ _ g1)) (GQ gz pz) (GS _) (gj _ (uD _)) ?_
 have hin:(((zs.map zP).map x6).any λe=>dC e (x6 ((a:Int),(b:Int))))=true:=by
  rw [ez,Nz,D6];exact ⟨_,hm,by simp [C6]⟩
 rw [hin];walk_at "x";refine kP ?_;have S12:=S1.trans S2;have W2:=W.same S12;walk_at "x";unfold vS;walk_at "f";refine ⟨p,C,dx,_,_,rfl,W2.ob,ct.cl,ct.rows,jt _ _,?_⟩;walk_at "x";refine pY (de.of W2.rl) (fG (j:=a) rfl (by rw [aD,e1];rfl)) ?_;walk_at "x";refine ⟨ra,R a,a,b,rfl,de.of (S12 _ _ e2),by lia,hm,hm',λu x y H3 S3 hu hx hy hxy gu gx gy=>?_⟩;have S13:=S12.trans S3;have W3:=W.same S13;have hxl:x≠l:=Ne.symm (aR W2.rl hx);have hyl:y≠l:=Ne.symm (aR W2.rl hy);have hul:u≠l:=Ne.symm (aR W2.rl hu)
 have jin:∀ z,z∈R a->∃ j:Nat,j<n/\z=(j:Int):=λz hz=>let ⟨j,hj,e,_⟩:=D.HH a ha z hz;⟨j,hj,e⟩
 have ectR:∀ i:Nat,Rm.ct R a b i=if (i:Int)∈(yS (R a) a b).2 then (yS (R a) a b).2 else if (i:Int)∈(yS (R a) a b).1 then (yS (R a) a b).1 else R i:=λ_=>rfl
 generalize (yS (R a) a b).1=X at P PM gx ectR;generalize (yS (R a) a b).2=Y at P PM gy ectR;walk_at "x"
 refine .inr (.inl ⟨⟨_,mR.of gu⟩,MF (K:=K) (a:=u) (xs:=[.ref x,.ref y]) (λi Z H4=>∃ (as1:List af) (o:Option V),Z=[some (.ref p),some (.int (a:Int)),some (.int (b:Int)),o]/\as1.length=n/\H4 l=some (.lst (as1.map V.ref))/\bH l H3 H4 /\
  ∀ (j:Nat) (c:af),as[j]?=some c->as1[j]?=some (if 2<=i/\(j:Int)∈Y then y else if 1<=i/\(j:Int)∈X then x else c)) ⟨as,_,rfl,W.len,W3.rl,bH.refl _ _,λj c h=>by rw [if_neg (λz=>by lia),if_neg (λz=>by lia)];exact h⟩ ?_ ?_ ?_⟩)
 ·rintro i Z H4 _ ⟨_,_,_,_,_,B,_⟩;exact mR.of (B _ _ gu hul)
 ·rintro i v Z H4 hi ⟨as1,o,rfl,hl1,g4,B,hA⟩
  obtain ⟨q,s,hql,gq,hs,ev,hif⟩:∃ (q:af) (s:List Int),q≠l/\H3 q=some (.lst (s.map V.int))/\(∀ z∈s,∃ j:Nat,j<n/\z=(j:Int))/\v=.ref q/\(∀ (j:Nat) (c:af),(if (j:Int)∈s then q else if 2<=i/\(j:Int)∈Y then y else if 1<=i/\(j:Int)∈X then x else c)=if 2<=i+1/\(j:Int)∈Y then y else if 1<=i+1/\(j:Int)∈X then x else c):=by
   rcases (show i=0\/i=1 by have:=(aB.mp hi).1;simp at this;lia) with rfl|rfl
   ·refine ⟨x,X,hxl,gx,λz hz=>jin z ((PM z).mpr (.inl hz)),by simpa using hi.symm,λj c=>?_⟩
    by_cases c1:(j:Int)∈X<;>simp [c1]
   ·refine ⟨y,Y,hyl,gy,λz hz=>jin z ((PM z).mpr (.inr hz)),by simpa using hi.symm,λj c=>?_⟩
    by_cases c2:(j:Int)∈Y<;>by_cases c1:(j:Int)∈X<;>simp [c1,c2]
  subst ev;walk_at "m";refine ⟨p,dx,_,rfl,B _ _ W3.ob hpl,lP _ _,?_⟩;walk_at "x";refine ⟨p,dx,l,q,n,as1,s,rfl,ct,B _ _ W3.ob hpl,g4,hl1,B _ _ gq hql,hql,hs,λas2 H5 hl2 hA2 g5 B5=>?_⟩;refine ⟨as2,_,rfl,hl2,g5,λb' o' e hne=>B5 _ _ (B _ _ e hne) hne,λj c hc=>?_⟩;rw [hA2 j _ (hA j c hc),hif j c]
 ·rintro Z H4 ⟨as2,o,rfl,hl2,g4,B,hA⟩
  have hAt:∀ (i:Nat) (c:af),as2[i]?=some c->∃ c0,as[i]?=some c0/\c=if (i:Int)∈Y then y else if (i:Int)∈X then x else c0:=λi c hc=>by
   have hi:i<as.length:=by rw [W.len,← hl2];exact (aB.mp hc).1
   have:=hA i _ (aC hi);rw [hc] at this;refine ⟨_,aC hi,(a7 this).trans ?_⟩
   show (if 2<=2/\(i:Int)∈Y then y else if 1<=2/\(i:Int)∈X then x else as[i])=_
   simp
  refine k as2 H4 ⟨B _ _ W3.ob hpl,g4,hl2,λi c hc=>?_,λc hc=>?_⟩ (λb' o' e hne=>B _ _ (S13 _ _ e) hne)
  ·obtain ⟨c0,h0,ec⟩:=hAt i c hc;rw [ectR]
   by_cases c2:(i:Int)∈Y
   ·rw [if_pos c2] at ec ⊢;rw [ec];exact B _ _ gy hyl
   ·rw [if_neg c2] at ec ⊢
    by_cases c1:(i:Int)∈X
    ·rw [if_pos c1] at ec ⊢;rw [ec];exact B _ _ gx hxl
    ·rw [if_neg c1] at ec ⊢;rw [ec];exact B _ _ (W3.at_ i c0 h0) (W.ne _ (aW h0))
  ·obtain ⟨i,hi⟩:=bF.mp hc;obtain ⟨c0,h0,ec⟩:=hAt i c hi
   by_cases c2:(i:Int)∈Y
   ·rw [if_pos c2] at ec;rw [ec];exact hyl
   ·rw [if_neg c2] at ec
    by_cases c1:(i:Int)∈X
    ·rw [if_pos c1] at ec;rw [ec];exact hxl
    ·rw [if_neg c1] at ec;rw [ec];exact W.ne _ (aW h0)
def dO (K:aa) (C:af):Sp:=λvs H Q _=>∃ (p dx l:af) (n a:Nat) (as:List af) (R:Nat->List Int),vs=[.ref p,.int a]/\CT K C/\WA C H p dx l n as R/\Wd n R/\(R a).length<=125/\a<n /\
 ∀ q (ks:List Int),H q=none->ks.Pairwise (· < ·)->(∀ x,x∈ks↔x∈R a)->Q (.ref q) (upd H q (.lst (ks.map V.int)))
theorem C7:Rn (dO K C) (rB K C (bG K C)) kZ:=by
 rintro vs H Q E ⟨p,dx,l,n,a,as,R,rfl,ct,W,D,hn,ha,k⟩;obtain ⟨ra,e1,e2,_⟩:=W.get ha;unfold rB;walk_at "f";refine ⟨p,C,dx,_,_,rfl,W.ob,ct.cl,ct.n,zA _ _,?_⟩;walk_at "x";refine ⟨n,a,rfl,ha,?_⟩;walk_at "x";refine N2 ?_;walk_at "f";refine ⟨p,C,dx,_,_,rfl,W.ob,ct.cl,ct.rows,jt _ _,?_⟩;walk_at "x";refine pY (de.of W.rl) (fG (j:=a) rfl (by rw [aD,e1];rfl)) ?_;walk_at "x";refine ⟨ra,R a,rfl,de.of e2,by lia,?_,λq ks hq h1 h2=>k q ks hq h1 h2⟩;obtain ⟨ds,d1,d2,d3⟩:=(D.r a ha).cnt;exact ⟨ds,by lia,λx hx=>(d2 x).mpr hx⟩
def iW (K:aa) (C:af):Sp:=λvs H Q _=>∃ (p dx l:af) (n a:Nat) (as:List af) (R:Nat->List Int),vs=[.ref p,.int a]/\CT K C/\WA C H p dx l n as R/\Wd n R/\a<n/\Q (.int ((((R a).length:Int)+1)/2)) H
theorem Ew:Rn (iW K C) (sW K C (bG K C)) kZ:=by
 rintro vs H Q E ⟨p,dx,l,n,a,as,R,rfl,ct,W,D,ha,k⟩;obtain ⟨ra,e1,e2,_⟩:=W.get ha;unfold sW;walk_at "f";refine ⟨p,C,dx,_,_,rfl,W.ob,ct.cl,ct.n,zA _ _,?_⟩;walk_at "x";refine ⟨n,a,rfl,ha,?_⟩;walk_at "f";refine ⟨p,C,dx,_,_,rfl,W.ob,ct.cl,ct.rows,jt _ _,?_⟩;walk_at "x";refine pY (de.of W.rl) (fG (j:=a) rfl (by rw [aD,e1];rfl)) ?_;walk_at "x";refine K9 (de.of e2) ?_;walk_at "x";exact k
end K31
namespace K31
open Rm
variable {K:aa}{C:af}{A:CA}{Pt:af}
def kE (K:aa) (C:af):Sp:=λvs H Q _=>∃ n:Nat,vs=[.int n]/\1<=n/\n<=200/\Q (.bl true) H
theorem GY:Rn (kE K C) (ur K C (ft K C)) qe:=by
 rintro vs H Q E ⟨n,rfl,h1,h2,k⟩;unfold ur;walk_at "x";refine ⟨n,rfl,?_⟩;walk_at "x";refine pX ?_;walk_at "x";refine tV (λh=>?_) λh=>absurd (show (1:Int)<=n by lia) h;walk_at "x";rw [show decide ((n:Int)<=200)=true from decide_eq_true (by lia)];exact k
def Top (n:Int) (j:Nat):Prop:=(j=0\/2*(2:Int)^j<=n)/\n<4*(2:Int)^j
def nE (K:aa) (C:af):Sp:=λvs H Q _=>∃ n:Int,vs=[.int n]/\∀ j:Nat,Top n j->Q (.int j) H
theorem JJ (j:Nat):(0:Int)<2^j:=Int.pow_pos (by decide)
theorem TY:Rn (nE K C) (Ly K C) Rb:=by
 rintro vs H Q E ⟨n,rfl,k⟩;unfold Ly;walk_at "x";unfold JB;refine Cd (λZ H'=>H'=H/\∃ j:Nat,Z=[some (.int n),some (.int j),some (.int (4*2^j))]/\(j=0\/2*(2:Int)^j<=n)) (λZ _=>match Z with|[_,_,some (.int p)]=>(n+1-p).toNat|_=>0) ⟨rfl,0,rfl,.inl rfl⟩ ?_;rintro Z H' ⟨rfl,j,rfl,hj⟩;have hp:=JJ j;walk_at "x";refine tV (λh=>⟨_,PL,?_⟩) λh=>?_
 ·walk_at "x";refine ⟨⟨rfl,j+1,?_,.inr ?_⟩,?_⟩
  ·have e:(4*2^j*2:Int)=4*2^(j+1):=by rw [DW];lia
   show [some (V.int n),some (V.int ((j:Int)+1)),some (V.int (4*2^j*2))]=_
   rw [e];rfl
  ·rw [DW];lia
  ·show (n+1-4*2^j*2).toNat<(n+1-4*2^j).toNat
   lia
 ·walk_at "x";exact k j ⟨hj,by lia⟩
def iB (K:aa) (C:af):Sp:=λvs H Q _=>∃ a b:Nat,vs=[.int a,.int b]/\∀ p,H p=none->Q (.ref p) (upd H p (.tup [.int (min a b:Nat),.int (max a b:Nat)]))
theorem LF:Rn (iB K C) (zr K C) Ar:=by
 rintro vs H Q E ⟨a,b,rfl,k⟩;unfold zr;walk_at "x";refine tV (λh=>?_) λh=>?_
 ·rw [show min a b=a by lia,show max a b=b by lia] at k;walk_at "x";exact ⟨bD (m:=2) (au 2),k⟩
 ·rw [show min a b=b by lia,show max a b=a by lia] at k;walk_at "x";exact ⟨bD (m:=2) (au 2),k⟩
abbrev pk (x y:Nat):List dQ:=[aZ (x:Int),aZ (y:Int)]
def lY (K:aa) (C:af):Sp:=λvs H Q _=>∃ (n a b:Nat) (d:af) (kvs:List (List dQ×V)),vs=[.int n,.ref d,.int a,.int b]/\a<n/\b<n/\a≠b/\H d=some (.dT kvs)/\eV kvs (pk (min a b) (max a b))=none /\
 ∀ p,H p=none->Q (.ref p) (upd H p (.tup [.int (min a b:Nat),.int (max a b:Nat)]))
theorem JK:Rn (lY K C) (wU K C (bh K C) (iB K C)) FQ:=by
 rintro vs H Q E ⟨n,a,b,d,kvs,rfl,ha,hb,hab,hd,hk,k⟩;unfold wU;walk_at "x";refine ⟨n,a,b,rfl,ha,hb,hab,?_⟩;walk_at "x";refine ⟨a,b,rfl,λp hp=>?_⟩;walk_at "x"
 have gd:(upd H p (.tup [.int (min a b:Nat),.int (max a b:Nat)])) d=some (.dT kvs):=by rw [aI (aR hd hp)];exact hd
 refine .inr ⟨d,_,rfl,yD.t (k:=pk (min a b) (max a b)) gd aG,?_⟩;rw [hk];walk_at "x";rw [if_neg (by simp)];walk_at "x";exact k p hp
def h8 (K:aa) (C:af):Sp:=λvs H Q _=>∃ (n a b:Nat) (d:af) (kvs:List (List dQ×V)),vs=[.int n,.ref d,.int a,.int b]/\a<n/\b<n/\a≠b/\H d=some (.dT kvs)/\(eV kvs (pk (min a b) (max a b))).isSome=true /\
 ∀ p,H p=none->Q (.ref p) (upd H p (.tup [.int (min a b:Nat),.int (max a b:Nat)]))
theorem zB:Rn (h8 K C) (oN K C (bh K C) (iB K C)) FQ:=by
 rintro vs H Q E ⟨n,a,b,d,kvs,rfl,ha,hb,hab,hd,hk,k⟩;unfold oN;walk_at "x";refine ⟨n,a,b,rfl,ha,hb,hab,?_⟩;walk_at "x";refine ⟨a,b,rfl,λp hp=>?_⟩;walk_at "x"
 have gd:(upd H p (.tup [.int (min a b:Nat),.int (max a b:Nat)])) d=some (.dT kvs):=by rw [aI (aR hd hp)];exact hd
 refine .inr ⟨d,_,rfl,yD.t (k:=pk (min a b) (max a b)) gd aG,?_⟩;rw [hk];walk_at "x";refine kP ?_;walk_at "x";exact k p hp
def kf (f:Ti->V) (ts:List Ti):List (List dQ×V):=ts.map λt=>(pk t.x t.y,f t)
abbrev kl:List Ti->List (List dQ×V):=kf λt=>.int t.cT
abbrev kw:List Ti->List (List dQ×V):=kf λt=>.bl t.wd
abbrev kv:List Ti->List (List dQ×V):=kf λ_=>.int 0
theorem C8 {x y u v:Nat}:pk x y=pk u v↔((x:Int),(y:Int))=((u:Int),(v:Int)):=by
 constructor
 ·intro h;obtain ⟨h1,h2⟩:=gA h;rw [Mu h1,Mu (gA h2).1]
 ·intro h;obtain ⟨h1,h2⟩:=cC h
  show [aZ (x:Int),aZ (y:Int)]=_
  rw [h1,h2]
section
variable {f:Ti->V}{g:Ti->Ti}{ts:List Ti}{t:Ti}
theorem jb (hn:(ts.map Ti.key).Nodup) (ht:t∈ts):eV (kf f ts) (pk t.x t.y)=some (f t):=by
 induction ts with
 | nil=>nomatch ht
 | cons s ts ih =>
  rw [bT,bA] at hn
  by_cases e:pk s.x s.y=pk t.x t.y
  ·have:s=t:=by
    rcases ax.mp ht with q|q
    ·exact q.symm
    ·have e':t.key=s.key:=(C8.mp e).symm;exact absurd (e'▸bp q) hn.1
   subst this;exact jo (p:=(pk s.x s.y,f s)) rfl
  ·refine (iS (p:=(pk s.x s.y,f s)) e).trans (ih hn.2 ?_);exact (ax.mp ht).resolve_left λq=>e (q▸rfl)
theorem GZ {x y:Nat}(h:((x:Int),(y:Int))∉ts.map Ti.key):eV (kf f ts) (pk x y)=none:=by
 induction ts with
 | nil=>rfl
 | cons s ts ih =>
  rw [bT,ax] at h;exact (iS (p:=(pk s.x s.y,f s)) λe=>h (.inl (C8.mp e).symm)).trans (ih λq=>h (.inr q))
theorem Rk (hn:(ts.map Ti.key).Nodup) (ht:t∈ts) (hg:∀ t,(g t).key=t.key):lC (kf f ts) (pk t.x t.y) (f (g t))=kf f (i7 ts t.key g):=by
 unfold lC
 have hm:((kf f ts).any λkv=>decide (kv.1=pk t.x t.y))=true:=by rw [rO,jb hn ht];rfl
 rw [if_pos hm];unfold kf i7;rw [bN,bN];refine mi λu hu=>?_
 show (if pk u.x u.y=pk t.x t.y then (pk u.x u.y,f (g t)) else (pk u.x u.y,f u))=(pk (if u.key=t.key then g u else u).x (if u.key=t.key then g u else u).y,f (if u.key=t.key then g u else u))
 by_cases c:u.key=t.key
 ·rw [if_pos c,if_pos (C8.mpr c),qV hn hu ht c];obtain ⟨e1,e2⟩:=Ti.RQ (hg t);rw [e1,e2]
 ·rw [if_neg c,if_neg λe=>c (C8.mp e)]
theorem Bx (hg:∀ t,(g t).key=t.key) (hf:∀ t,f (g t)=f t) (k:Int×Int):kf f (i7 ts k g)=kf f ts:=by
 unfold kf i7;rw [bN];refine mi λu hu=>?_
 show (pk (if u.key=k then g u else u).x (if u.key=k then g u else u).y,f (if u.key=k then g u else u))=_
 by_cases c:u.key=k
 ·obtain ⟨e1,e2⟩:=Ti.RQ (hg u);rw [if_pos c,e1,e2,hf]
 ·rw [if_neg c]
theorem By:pW (kf f ts) (pk t.x t.y)=kf f (ts.filter λu=>decide (u.key≠t.key)):=by
 unfold pW kf;rw [vN]
 congr 1
 refine List.filter_congr λu _=>?_;exact decide_eq_decide.mpr (not_congr C8)
theorem qz:(kf f ts).length=ts.length:=ag _
end
abbrev vB (Pt:af) (H:Hp):Prop:=Mq Pt ⟨119,28,119,61⟩ ((("in_order":bu)++".<locals>.")++"<lambda>") H
def kD (K:aa) (C:af) (Pt:af):Sp:=λvs H Q _=>∃ (p d:af) (zs:List Zn) (OT:List (List dQ×V)),vs=[.ref p,.ref d]/\H p=some (.lst (zs.map qc))/\H d=some (.dT OT)/\(∀ z∈zs,∃ w x y:Int,z.1=[w,x,y]/\H z.2=some (.tup [.int x,.int y])/\eV OT [aZ x,aZ y]=some (.int w))/\zs.length<99/\vB Pt H /\
  ∀ (l:af) (zs':List Zn) (H2:Hp),H2 l=none->IS Pt H H2->vB Pt H2->zs'.Perm zs->Q (.ref l) (upd H2 l (.lst (zs'.map qc)))
theorem G0 {K:aa}{C Pt:af}:Rn (kD K C Pt) (qL K C Pt) CC:=by
 rintro vs H Q E ⟨p,d,zs,OT,rfl,hp,hd,hkv,hl,hT,k⟩;unfold qL;walk_at "x";unfold Lk;walk_at "x";exact ⟨p,d,zs,OT,rfl,hp,rfl,hd,hkv,by lia,hT,λl zs' H2 h1 h2 h3 h4 _=>k l zs' H2 h1 h2 h3 h4⟩
def ew (x y:Int) (S:List Int):Nat:=(if x∈S then 1 else 0)+(if y∈S then 1 else 0)
theorem any_ints (S:List Int) (x:Int):((S.map OY).any λe=>dC e (.int x))=decide (x∈S):=by
 rw [Nz,ji,D6,decide_eq_true_iff]
 constructor
 ·rintro ⟨y,hy,e⟩
  have:y=x:=by simpa [dC] using e
  exact this▸hy
 ·intro h;exact ⟨x,h,by simp [dC]⟩
def dJ (K:aa) (C:af):Sp:=λvs H Q _=>∃ (t s:af) (x y:Int) (S:List Int),vs=[.ref t,.ref s]/\H t=some (.tup [.int x,.int y])/\H s=some (.lst (S.map V.int))/\∀ H',b8 H H'->Q (.int (ew x y S)) H'
theorem AU:Rn (dJ K C) (qk K C) CD:=by
 rintro vs H Q E ⟨t,s,x,y,S,rfl,ht,hs,k⟩;unfold qk;walk_at "x";refine .inr (.inl ⟨⟨_,mR.of ht⟩,λacc hacc=>?_⟩);refine nR (n:=2) (λi ys H'=>ys=(([x,y].take i).filter λz=>decide (z∈S)).map V.int/\H' acc=some (.lst ys)/\b8 H H') (λZ=>∃ o,Z=[o,some (.ref s)]) ⟨by simp,aG,b8.cw hacc⟩ ⟨_,rfl⟩ ?_ ?_ ?_ ?_
 ·rintro i ys H' ⟨_,h,_⟩;exact h
 ·rintro ys H' ⟨rfl,h,S'⟩;refine ⟨⟨_,S'.WM (mR.of ht),au _⟩,?_⟩;walk_at "x";refine wA (de.of h) ?_
  have e:((([x,y].take 2).filter λz=>decide (z∈S)).map V.int).length=ew x y S:=by
   unfold ew
   by_cases c1:x∈S<;>by_cases c2:y∈S<;>simp [c1,c2]
  rw [e];exact k H' S'
 ·rintro i ys H' hi ⟨e,h,S'⟩;exact ⟨_,_,S'.WM (mR.of ht),aC hi⟩
 ·rintro i ys σ' H' v H2 hi ⟨rfl,h,S'⟩ ⟨o,rfl⟩ ⟨e2,hx⟩;subst e2;have hxi:=hx _ (S'.WM (mR.of ht))
  obtain ⟨a,ha⟩:∃ a,[x,y][i]?=some a:=⟨_,aC (by simpa using hi)⟩
  have et:[x,y].take (i+1)=[x,y].take i++[a]:=by rw [d9,ha];rfl
  have ev:v=.int a:=by
   have:([x,y].map V.int)[i]?=some v:=hxi;rw [aD,ha] at this;exact (a7 this).symm
  subst ev;walk_at "x";refine PQ (Rep.int a) (qb (de.of (S' _ _ hs))) ⟨rfl,by simp [j4]⟩ (gj _ (qa S)) ?_;rw [any_ints];walk_at "x";refine tV (λc=>?_) λc=>?_
  ·walk_at "x";refine ⟨h,ee (m:=10) (by rw [ag];exact bI (cJ _ _) (by rw [bO];lia)),k9.mk' hi ⟨_,rfl⟩ ⟨?_,aG,λb o q=>by rw [aI (aR q hacc)];exact S' _ _ q⟩⟩;rw [et,dk,aT];simp [c]
  ·refine k9.mk' hi ⟨_,rfl⟩ ⟨?_,h,S'⟩;rw [et,dk,aT];simp [c]
def nJ (K:aa) (C:af):Sp:=λvs H Q _=>∃ (n:Int) (p q:af) (x y l:Int) (b:Bool),vs=[.int n,.ref p]/\H p=some (.lst [.ref q])/\H q=some (.tup [.int x,.int y,.int l,.bl b])/\∀ (c:Int) H',b8 H H'->Q (.int c) H'
theorem LG:Rn (nJ K C) (zt K C (nE K C)) CF:=by
 rintro vs H Q E ⟨n,p,q,x,y,l,b,rfl,hp,hq,k⟩;unfold zt;walk_at "x";refine .inl ⟨⟨_,de.of hp⟩,λacc hacc=>?_⟩;refine Qd (λi y _=>∃ c:Int,y=.int c) (λZ=>∃ o o1 o2 o3,Z=[o,o1,o2,o3,some (.int n)]) (de.of hp) hacc ⟨_,_,_,_,rfl⟩ (by simp) (λi y H2 H3 ws _ _ e=>e) (λi v σ' H2 G hi hx S2 hS done=>?_) λys H2 hly gy S2 hE=>?_
 ·obtain ⟨o,o1,o2,o3,rfl⟩:=hS
  have ev:v=.ref q:=by
   match i,hx with
   | 0,hx=>exact (a7 hx).symm
  subst ev;refine y9 (.of (S2 _ _ hq)) rfl ?_;walk_at "x";refine ⟨n,rfl,λj hj=>?_⟩;walk_at "x";exact done _ _ _ ⟨_,_,_,_,rfl⟩ (λ_ _ e=>e) ⟨_,rfl⟩
 ·have ⟨cs,ec⟩:∃ cs:List Int,ys=cs.map V.int:=by
   match ys,hly with
   | [v],_ =>
    obtain ⟨c,rfl⟩:=hE 0 v rfl;exact ⟨[c],rfl⟩
  subst ec;walk_at "x";exact ⟨acc,cs,rfl,de.of gy,k _ H2 S2⟩
structure Tt where
 (p s q:af) (lv:Int) (xs:List V) (f:V)
def tR (t:Tt):V:=.ref t.p
def Fd (H:Hp) (t:Tt):Prop:=H t.p=some (.tup [.int t.lv,.ref t.s,.ref t.q,t.f])/\H t.q=some (.lst t.xs)
theorem Fd.same {H H':Hp}{t:Tt}(h:Fd H t) (S:b8 H H'):Fd H' t:=⟨S _ _ h.1,S _ _ h.2⟩
def iT (K:aa) (C:af):Sp:=λvs H Q _=>∃ (a:af) (ts:List Tt),vs=[.ref a]/\H a=some (.lst (ts.map tR))/\(∀ t∈ts,Fd H t)/\ts.length<=1000/\∀ (c:Int) H',b8 H H'->Q (.int c) H'
theorem Od:Rn (iT K C) (CO K C) tE:=by
 rintro vs H Q E ⟨a,ts,rfl,ha,hR,hl,q⟩;unfold CO;walk_at "x";refine .inl ⟨⟨_,de.of ha⟩,λacc hacc=>?_⟩;refine Bt (K:=K) (z:=a) (xs:=ts.map tR) ts (λ_=>true) (λt=>.int (t.xs.length:Int)) (λZ=>∃ o o1 o2 o3,Z=[o,o1,o2,o3]) (by simp) (de.of ha) hacc ⟨_,_,_,_,rfl⟩ (by rw [ag];lia) ?_ ?_
 ·rintro i t x σ' H' G G' ht hx S' ⟨o,o1,o2,o3,rfl⟩ g1 g2
  have ex:x=tR t:=by rw [aD,ht] at hx;exact (a7 hx).symm
  subst ex;have ok:=(hR t (aW ht)).same S';refine y9 (.of ok.1) rfl ?_;walk_at "x";refine pX ?_;walk_at "x";refine wA (de.of ok.2) ?_;exact g1 rfl _ ⟨_,_,_,_,rfl⟩
 ·rintro H' S' hH;walk_at "x"
  have e:(ts.filter λ_=>true).map (λt=>V.int (t.xs.length:Int))=(ts.map λt=>(t.xs.length:Int)).map V.int:=by rw [bN,ml.mpr (λ_ _=>rfl)];rfl
  rw [e] at hH;exact ⟨acc,_,rfl,de.of hH,q _ H' S'⟩
def qx (K:aa) (C:af):Sp:=λvs H Q _=>∃ (a:af) (ts:List Tt),vs=[.ref a]/\H a=some (.lst (ts.map tR))/\(∀ t∈ts,Fd H t)/\ts.length<=1000/\∀ (c:Int) H',b8 H H'->Q (.int c) H'
theorem Oe:Rn (qx K C) (CP K C (iT K C)) ["trail","finds"]:=by
 rintro vs H Q E ⟨a,ts,rfl,ha,hR,hl,q⟩;unfold CP;walk_at "x";refine .inl ⟨⟨_,de.of ha⟩,λacc hacc=>?_⟩;refine Bt (K:=K) (z:=a) (xs:=ts.map tR) ts (λt=>!decide (t.f=.non)) (λt=>t.f) (λZ=>∃ o o1 o2 o3,Z=[o,o1,o2,o3]) (by simp) (de.of ha) hacc ⟨_,_,_,_,rfl⟩ (by rw [ag];lia) ?_ ?_
 ·rintro i t x σ' H' G G' ht hx S' ⟨o,o1,o2,o3,rfl⟩ g1 g2
  have ex:x=tR t:=by rw [aD,ht] at hx;exact (a7 hx).symm
  subst ex;have ok:=(hR t (aW ht)).same S';refine y9 (.of ok.1) rfl ?_;walk_at "x"
  cases hf:(!decide (t.f=V.non)) with
  | true =>
   refine pX ?_;walk_at "x"
   exact g1 hf _ ⟨_,_,_,_,rfl⟩
  | false =>
   refine kP ?_;exact g2 hf _ ⟨_,_,_,_,rfl⟩
 ·rintro H' S' hH;walk_at "x";refine ⟨_,.inl ⟨_,de.of hH,rfl⟩,?_⟩;generalize (!((ts.filter λt=>!decide (t.f=V.non)).map λt=>t.f).isEmpty)=bb
  cases bb with
  | true =>
   refine pX ?_;walk_at "x";refine ⟨a,ts,rfl,S' _ _ ha,λt ht=>(hR t ht).same S',hl,λc H2 S2=>?_⟩;walk_at "x"
   exact q _ _ (S'.trans S2)
  | false =>
   refine kP ?_;walk_at "x";exact ⟨a,ts,rfl,S' _ _ ha,λt ht=>(hR t ht).same S',hl,λc H2 S2=>q _ _ (S'.trans S2)⟩
end K31
namespace K31
open Rm
variable {K:aa}{C:af}{A:CA}{Pt:af}
theorem eU {f g:bu}{v x:V}{r:List (bu×V)}(h:¬ g=f):eI f v ((g,x)::r)=(g,x)::eI f v r:=by show (if g=f then _ else _)=_;rw [if_neg h]
theorem x9 {f:bu}{v x:V}{r:List (bu×V)}:eI f v ((f,x)::r)=(f,v)::r:=by show (if f=f then _ else _)=_;rw [if_pos rfl]
theorem uF {f:bu}{x:V}{r:List (bu×V)}:ff f ((f,x)::r)=some x:=by rw [cR,beq_self_eq_true]
theorem fX {f g:bu}{x:V}{r:List (bu×V)}(h:¬ g=f):ff g ((f,x)::r)=ff g r:=by
 rw [cR]
 have:(g == f)=false:=by simpa using h
 rw [this]
structure AV (K:aa) (C:af) (A:CA):Prop where
 w:CT K C
 lc:DX K A.bB
 l1:dY K A.bB "level_of"
 l2:dY K A.bB "wooden"
 l3:dY K A.bB "weight_of"
 l4:dY K A.bB "woods"
 kc:DX K A.Keeper
 k1:dY K A.Keeper "n"
 k2:dY K A.Keeper "levels"
 k3:dY K A.Keeper "wood"
 k4:dY K A.Keeper "came"
 k5:dY K A.Keeper "looked"
 k6:dY K A.Keeper "risen"
 k7:dY K A.Keeper "lost"
def fL (d1 d2 d3 L:af):List (bu×V):=[("level_of",.ref d1),("wooden",.ref d2),("weight_of",.ref d3),("woods",.ref L)]
theorem OS {d1 d2 d3 L:af}:(fL d1 d2 d3 L).lookup ("level_of":bu)=some (.ref d1):=uF
theorem TZ {d1 d2 d3 L:af}:(fL d1 d2 d3 L).lookup ("wooden":bu)=some (.ref d2):=by unfold fL;rw [fX (by decide +kernel)];exact uF
theorem fL3 {d1 d2 d3 L:af}:(fL d1 d2 d3 L).lookup ("weight_of":bu)=some (.ref d3):=by unfold fL;rw [fX (by decide +kernel),fX (by decide +kernel)];exact uF
theorem UX {d1 d2 d3 L:af}:(fL d1 d2 d3 L).lookup ("woods":bu)=some (.ref L):=by unfold fL;rw [fX (by decide +kernel),fX (by decide +kernel),fX (by decide +kernel)];exact uF
theorem UY {d1 d2 d3 L:af}{m:bu}(h1:¬ m="level_of":=by decide +kernel) (h2:¬ m="wooden":=by decide +kernel) (h3:¬ m="weight_of":=by decide +kernel) (h4:¬ m="woods":=by decide +kernel):(fL d1 d2 d3 L).lookup m=none:=by unfold fL;rw [fX h1,fX h2,fX h3,fX h4];rfl
structure AL where
 (q dq d1 d2 d3 L:af) (ws:List (af×af×af))
def fp (a:AL):List af:=a.d1::a.d2::a.d3::a.ws.map (·.2.2)
def Fm (X:List af) (H H':Hp):Prop:=∀ b o,b∉X->H b=some o->H' b=some o
theorem Fm.refl {X:List af}{H:Hp}:Fm X H H:=λ_ _ _ e=>e
theorem Fm.trans {X:List af}{H H1 H2:Hp}(x:Fm X H H1) (y:Fm X H1 H2):Fm X H H2:=λb o h e=>y b o h (x b o h e)
theorem Fm.of {X:List af}{H H':Hp}(S:b8 H H'):Fm X H H':=λb o _ e=>S b o e
theorem Fm.but {X:List af}{c:af}{H H':Hp}(hc:c∈X) (S:bH c H H'):Fm X H H':=λb o h e=>S b o e λz=>h (z▸hc)
theorem Fm.upd {X:List af}{c:af}{o:HO}{H:Hp}(hc:c∈X):Fm X H (upd H c o):=Fm.but hc bH.upd
theorem Fm.mono {X Y:List af}{H H':Hp}(S:Fm X H H') (h:∀ b∈X,b∈Y):Fm Y H H':=λb o hb e=>S b o (λz=>hb (h b z)) e
theorem Fm.tail {X:List af}{c:af}{H H':Hp}(S:Fm X H H'):Fm (c::X) H H':=S.mono λ_=>ak _
theorem Fm.free {X:List af}{H H':Hp}(S:Fm X H H') {b:af}(h:b∉X) (e:H' b=none):H b=none:=by
 cases z:H b with
 | none=>rfl
 | some o=>rw [S b o h z] at e;cases e
structure LV (C:af) (A:CA) (H:Hp) (a:AL) (n T:Nat) (ts:List Ti) (as:Nat->List af) (R:Nat->Nat->List Int):Prop where
 ob:H a.q=some (.ins A.bB a.dq (fL a.d1 a.d2 a.d3 a.L))
 e1:H a.d1=some (.dT (kl ts))
 e2:H a.d2=some (.dT (kw ts))
 e3:H a.d3=some (.dT (kv ts))
 ls:H a.L=some (.lst (a.ws.map λw=>.ref w.1))
 len:a.ws.length=T+1
 wa:∀ (i:Nat) w,a.ws[i]?=some w->WA C H w.1 w.2.1 w.2.2 n (as i) (R i)
 wd:∀ i,i<=T->Wd n (R i)
 n1:1<=n
 Ow:a.d1≠a.d2
 RU:a.d1≠a.d3
 Sq:a.d2≠a.d3
 nl:(a.ws.map (·.2.2)).Nodup
 nL:∀ w∈a.ws,a.L≠w.2.2
section
variable {C:af}{A:CA}{H H':Hp}{a:AL}{n T:Nat}{ts ts':List Ti}{as:Nat->List af}{R:Nat->Nat->List Int}
theorem LV.at (h:LV C A H a n T ts as R) {w:af×af×af}(hw:w∈a.ws):∃ i,i<=T/\a.ws[i]?=some w:=by
 obtain ⟨i,hi⟩:=bF.mp hw;have:=(aB.mp hi).1;rw [h.len] at this;exact ⟨i,by lia,hi⟩
theorem LV.get (h:LV C A H a n T ts as R) {i:Nat}(hi:i<=T):∃ w,a.ws[i]?=some w/\w∈a.ws:=by
 have hl:i<a.ws.length:=by rw [h.len];lia
 exact ⟨_,aC hl,lR hl⟩
theorem LV.rows (h:LV C A H a n T ts as R) {w:af×af×af}(hw:w∈a.ws):∃ bs:List af,bs.length=n/\H w.2.2=some (.lst (bs.map V.ref)):=by
 obtain ⟨i,_,hi⟩:=h.at hw;exact ⟨_,(h.wa i w hi).len,(h.wa i w hi).rl⟩
theorem LV.kind (h:LV C A H a n T ts as R) {b:af}(hb:b∈fp a):(∃ ks,H b=some (.dT ks))\/∃ bs:List af,bs.length=n/\H b=some (.lst (bs.map V.ref)):=by
 unfold fp at hb;simp only [ax,bw] at hb
 rcases hb with rfl|rfl|rfl|⟨w,hw,rfl⟩
 ·exact .inl ⟨_,h.e1⟩
 ·exact .inl ⟨_,h.e2⟩
 ·exact .inl ⟨_,h.e3⟩
 ·exact .inr (h.rows hw)
theorem LV.out (h:LV C A H a n T ts as R) {b:af}{o:HO}(e:H b=some o) (h1:∀ ks,o≠.dT ks) (h2:∀ bs:List af,bs.length=n->o≠.lst (bs.map V.ref)):b∉fp a:=λhb=>by
 rcases h.kind hb with ⟨ks,q⟩|⟨bs,hl,q⟩
 ·rw [e] at q;exact h1 ks (a7 q)
 ·rw [e] at q;exact h2 bs hl (a7 q)
theorem LV.xh (h:LV C A H a n T ts as R) {b:af}{xs:List V}(e:H b=some (.tup xs)):b∉fp a:=h.out e (λ_ z=>nomatch z) (λ_ _ z=>nomatch z)
theorem LV.outI (h:LV C A H a n T ts as R) {b x y:af}{fs:List (bu×V)}(e:H b=some (.ins x y fs)):b∉fp a:=h.out e (λ_ z=>nomatch z) (λ_ _ z=>nomatch z)
theorem LV.Uc (h:LV C A H a n T ts as R) {b:af}{r:List Int}(e:H b=some (.lst (r.map V.int))):b∉fp a:=h.out e (λ_ z=>nomatch z) λbs hl z=>by
 have n1:=h.n1
 injection z with z
 match r,bs,hl with
 | [],c::bs,_=>cases z
 | x::r,c::bs,_=>cases (gA z).1
 | x::r,[],_=>cases z
 | [],[],hl=>rw [← hl] at n1;cases n1
theorem LV.DO (h:LV C A H a n T ts as R) {b:af}(e:H b=none):b∉fp a:=λhb=>by
 rcases h.kind hb with ⟨ks,q⟩|⟨bs,hl,q⟩<;>rw [e] at q<;>cases q
theorem LV.keep (h:LV C A H a n T ts as R) {X:List af}(S:Fm X H H') (hq:∀ x fs,H x=some fs->(∃ c d f,fs=.ins c d f/\f≠[])->(x=a.q\/∃ w∈a.ws,x=w.1)->x∉X) (hd:∀ b∈fp a,b∉X) (hL:a.L∉X) (hr:∀ (b:af) (r:List Int),r≠[]->H b=some (.lst (r.map V.int))->b∉X):LV C A H' a n T ts as R:=by
 have m1:a.d1∈fp a:=av;have m2:a.d2∈fp a:=ak _ av;have m3:a.d3∈fp a:=ak _ (ak _ av);refine ⟨S _ _ (hq _ _ h.ob ⟨_,_,_,rfl,by simp [fL]⟩ (.inl rfl)) h.ob,S _ _ (hd _ m1) h.e1,S _ _ (hd _ m2) h.e2,S _ _ (hd _ m3) h.e3,S _ _ hL h.ls,h.len,λi w hw=>?_,h.wd,h.n1,h.Ow,h.RU,h.Sq,h.nl,h.nL⟩;have hm:=aW hw;have W:=h.wa i w hw
 have hi:i<=T:=by have:=(aB.mp hw).1;rw [h.len] at this;lia
 refine ⟨S _ _ (hq _ _ W.ob ⟨_,_,_,rfl,?_⟩ (.inr ⟨w,hm,rfl⟩)) W.ob,S _ _ (hd _ ?_) W.rl,W.len,λj c hc=>?_,W.ne⟩
 ·intro z;have:=zA n w.2.2;rw [z] at this;cases this
 ·exact ak _ (ak _ (ak _ (bp hm)))
 ·have hj:j<n:=by rw [← W.len];exact (aB.mp hc).1
  exact S _ _ (hr _ _ ((h.wd i hi).r j hj).ne (W.at_ j c hc)) (W.at_ j c hc)
theorem LV.same (h:LV C A H a n T ts as R) (S:b8 H H'):LV C A H' a n T ts as R:=h.keep (X:=[]) (λb o _ e=>S b o e) (λ_ _ _ _ _=>dX) (λ_ _=>dX) dX λ_ _ _ _=>dX
theorem LV.sets (h:LV C A H a n T ts as R) (B:Fm [a.d1,a.d2,a.d3] H H') (e1:H' a.d1=some (.dT (kl ts'))) (e2:H' a.d2=some (.dT (kw ts'))) (e3:H' a.d3=some (.dT (kv ts'))):LV C A H' a n T ts' as R:=by
 have ne:∀ {b:af}{o:HO},H b=some o->(∀ ks,o≠.dT ks)->H' b=some o:=λ{b o} e q=>B _ _ (λhb=>by
  simp only [ax,dX,or_false] at hb
  rcases hb with rfl|rfl|rfl
  ·rw [h.e1] at e;cases e;exact q _ rfl
  ·rw [h.e2] at e;cases e;exact q _ rfl
  ·rw [h.e3] at e;cases e;exact q _ rfl) e
 exact ⟨ne h.ob (λ_ z=>nomatch z),e1,e2,e3,ne h.ls (λ_ z=>nomatch z),h.len,λi w hw=>⟨ne (h.wa i w hw).ob (λ_ z=>nomatch z),ne (h.wa i w hw).rl (λ_ z=>nomatch z),(h.wa i w hw).len,λj c hc=>ne ((h.wa i w hw).at_ j c hc) (λ_ z=>nomatch z),(h.wa i w hw).ne⟩,h.wd,h.n1,h.Ow,h.RU,h.Sq,h.nl,h.nL⟩
theorem LV.set1 (h:LV C A H a n T ts as R) (e2:kw ts'=kw ts) (e3:kv ts'=kv ts):LV C A (upd H a.d1 (.dT (kl ts'))) a n T ts' as R :=
 h.sets (Fm.upd av) aG (by rw [aI h.Ow.symm,e2];exact h.e2) (by rw [aI h.RU.symm,e3];exact h.e3)
theorem LV.set2 (h:LV C A H a n T ts as R) (e1:kl ts'=kl ts) (e3:kv ts'=kv ts):LV C A (upd H a.d2 (.dT (kw ts'))) a n T ts' as R :=
 h.sets (Fm.upd (ak _ av)) (by rw [aI h.Ow,e1];exact h.e1) aG (by rw [aI h.Sq.symm,e3];exact h.e3)
theorem LV.Ud (h:LV C A H a n T ts as R) {i:Nat}{w:af×af×af}{bs:List af}{R1:Nat->List Int}(hw:a.ws[i]?=some w) (W:WA C H' w.1 w.2.1 w.2.2 n bs R1) (D:Wd n R1) (B:bH w.2.2 H H') :
  LV C A H' a n T ts (λj=>if j=i then bs else as j) (λj=>if j=i then R1 else R j):=by
 have hm:=aW hw;obtain ⟨cs,hcl,hcs⟩:=h.rows hm
 have nt:∀ {b:af}{o:HO},H b=some o->(∀ xs,o≠.lst xs)->H' b=some o:=λ{b o} e q=>B _ _ e λz=>by rw [z,hcs] at e;cases e;exact q _ rfl
 refine ⟨nt h.ob (λ_ z=>nomatch z),nt h.e1 (λ_ z=>nomatch z),nt h.e2 (λ_ z=>nomatch z),nt h.e3 (λ_ z=>nomatch z),B _ _ h.ls (h.nL w hm),h.len,λj v hv=>?_,λj hj=>?_,h.n1,h.Ow,h.RU,h.Sq,h.nl,h.nL⟩
 ·by_cases c:j=i
  ·subst c;rw [hw] at hv;cases hv;simp only [if_pos];exact W
  ·simp only [if_neg c];have V:=h.wa j v hv
   have hjT:j<=T:=by have:=(aB.mp hv).1;rw [h.len] at this;lia
   have nvl:v.2.2≠w.2.2:=λe=>c ((List.getElem?_inj (by rw [ag];exact (aB.mp hv).1) h.nl).mp (by rw [aD,aD,hv,hw];simp [e]));refine ⟨nt V.ob (λ_ z=>nomatch z),B _ _ V.rl nvl,V.len,λx b hb=>B _ _ (V.at_ x b hb) λz=>?_,V.ne⟩
   have hx:x<n:=by rw [← V.len];exact (aB.mp hb).1
   have e:=V.at_ x b hb;rw [z] at e;exact h.Uc e (ak _ (ak _ (ak _ (bp hm))))
 ·by_cases c:j=i
  ·simp only [if_pos c];exact D
  ·simp only [if_neg c];exact h.wd j hj
end
def du (K:aa) (C:af) (A:CA):Sp:=λvs H Q _=>∃ (q dq d1 d2 d3 L t:af) (kl kw:List (List dQ×V)) (x y:Int) (v1 v2:V),vs=[.ref q,.ref t]/\AV K C A/\H q=some (.ins A.bB dq (fL d1 d2 d3 L))/\Rd H d1 (.dT kl)/\Rd H d2 (.dT kw)/\H t=some (.tup [.int x,.int y]) /\
 eV kl [aZ x,aZ y]=some v1/\eV kw [aZ x,aZ y]=some v2/\∀ p,H p=none->Q (.ref p) (upd H p (.tup [.int x,.int y,v1,v2]))
theorem AW:Rn (du K C A) (qt K C A) m8:=by
 rintro vs H Q E ⟨q,dq,d1,d2,d3,L,t,kl,kw,x,y,v1,v2,rfl,ct,hq,r1,r2,ht,h1,h2,k⟩;unfold qt;walk_at "x";refine jM (mR.of ht) (fG (j:=0) rfl rfl) ?_;walk_at "x";refine jM (mR.of ht) (fG (j:=1) rfl rfl) ?_;walk_at "f";refine ⟨q,A.bB,dq,_,_,rfl,hq,ct.lc,ct.l1,OS,?_⟩;walk_at "x";refine .inr ⟨d1,v1,rfl,.inr ⟨kl,[aZ x,aZ y],t,r1,rfl,ht,h1.symm⟩,?_⟩;walk_at "f";refine ⟨q,A.bB,dq,_,_,rfl,hq,ct.lc,ct.l2,TZ,?_⟩;walk_at "x";refine .inr ⟨d2,v2,rfl,.inr ⟨kw,[aZ x,aZ y],t,r2,rfl,ht,h2.symm⟩,?_⟩;walk_at "x";exact ⟨bD (m:=4) (au 4),k⟩
end K31
namespace K31
open Rm
variable {K:aa}{C:af}{A:CA}{Pt:af}
theorem fp1 {a:AL}:a.d1∈fp a:=av
theorem fp2 {a:AL}:a.d2∈fp a:=ak _ av
theorem fp3 {a:AL}:a.d3∈fp a:=ak _ (ak _ av)
theorem fpw {a:AL}{w:af×af×af}(h:w∈a.ws):w.2.2∈fp a:=ak _ (ak _ (ak _ (bp h)))
theorem Ro {ts:List Ti}{k:Int×Int}:kl (i7 ts k Ti.xr)=kl ts:=Bx (g:=Ti.xr) (λ_=>rfl) (λ_=>rfl) k
theorem WH {ts:List Ti}{k:Int×Int}:kv (i7 ts k Ti.xr)=kv ts:=Bx (g:=Ti.xr) (λ_=>rfl) (λ_=>rfl) k
theorem UZ {ts:List Ti}{k:Int×Int}:kw (i7 ts k Ti.up)=kw ts:=Bx (g:=Ti.up) (λ_=>rfl) (λ_=>rfl) k
theorem Yr {ts:List Ti}{k:Int×Int}:kv (i7 ts k Ti.up)=kv ts:=Bx (g:=Ti.up) (λ_=>rfl) (λ_=>rfl) k
theorem LV.cast {C:af}{A:CA}{H:Hp}{a:AL}{n T:Nat}{ts:List Ti}{as:Nat->List af}{R R':Nat->Nat->List Int}(h:LV C A H a n T ts as R) (e:∀ j,R j=R' j):LV C A H a n T ts as R':=(funext e:R=R')▸h
structure Up (C:af) (A:CA) (a:AL) (n T:Nat) (ts:List Ti) (R:Nat->Nat->List Int) (f:(Nat->List Int)->Nat->List Int) (H:Hp) (i:Nat) (H1:Hp):Prop where
 ex:∃ as R',LV C A H1 a n T ts as R'/\∀ j,R' j=if j<i then f (R j) else R j
 fm:Fm (fp a) H H1
theorem Up.step {C:af}{A:CA}{a:AL}{n T:Nat}{ts:List Ti}{R R':Nat->Nat->List Int}{f:(Nat->List Int)->Nat->List Int}{H H1 H2:Hp}{i:Nat}{w:af×af×af}{as:Nat->List af}{bs:List af}(L:LV C A H1 a n T ts as R') (e:∀ j,R' j=if j<i then f (R j) else R j) (F:Fm (fp a) H H1)
  (hw:a.ws[i]?=some w) (W:WA C H2 w.1 w.2.1 w.2.2 n bs (f (R' i))) (D:Wd n (f (R' i))) (B:bH w.2.2 H1 H2):Up C A a n T ts R f H (i+1) H2:=by
 refine ⟨⟨_,_,L.Ud hw W D B,λj=>?_⟩,F.trans (Fm.but (fpw (aW hw)) B)⟩
 have ei:R' i=R i:=by rw [e,if_neg (fu i)]
 by_cases c:j=i
 ·subst c;rw [if_pos rfl,if_pos (jR j),ei]
 ·rw [if_neg c,e]
  by_cases d:j<i
  ·rw [if_pos d,if_pos (by lia)]
  ·rw [if_neg d,if_neg (by lia)]
def cn (K:aa) (C:af) (A:CA):Sp:=λvs H Q _=>∃ (a:AL) (n T:Nat) (ts:List Ti) (as:Nat->List af) (R:Nat->Nat->List Int) (t:af) (u:Ti),vs=[.ref a.q,.ref t]/\AV K C A/\LV C A H a n T ts as R/\n<=200/\u∈ts/\(ts.map Ti.key).Nodup/\u.x<n/\u.y<n/\u.cT<=T/\(∀ i,i<=u.cT->(u.y:Int)∉R i u.x) /\
 H t=some (.tup [.int u.x,.int u.y])/\ts.length<100/\∀ as' H',LV C A H' a n T (i7 ts u.key Ti.xr) as' (Kz R u.cT u.x u.y)->Fm (fp a) H H'->Q .non H'
theorem zC:Rn (cn K C A) (oQ K C A (dE K C)) Re:=by
 rintro vs H Q E ⟨a,n,T,ts,as,R,t,u,rfl,ct,h,hn,hu,hnd,hx,hy,hl,hap,ht,hlen,k⟩;unfold oQ;walk_at "f";refine ⟨a.q,A.bB,a.dq,_,_,rfl,h.ob,ct.lc,ct.l2,TZ,?_⟩;walk_at "x";refine .inr ⟨a.d2,_,rfl,yE.t (k:=pk u.x u.y) h.e2 ht (ee (m:=100) (by rw [qz];exact hlen)),?_⟩;have e:=Rk (f:=λt=>V.bl t.wd) (g:=Ti.xr) hnd hu (λ_=>rfl);rw [show (V.bl true)=(λt:Ti=>V.bl t.wd) u.xr from rfl,e];have h1:=h.set2 (ts':=i7 ts u.key Ti.xr) Ro WH
 have ht1:(upd H a.d2 (.dT (kw (i7 ts u.key Ti.xr)))) t=some (.tup [.int u.x,.int u.y]):=by rw [aI (je ht h.e2)];exact ht
 have S1:Fm (fp a) H (upd H a.d2 (.dT (kw (i7 ts u.key Ti.xr)))):=Fm.upd fp2
 have hl1:eV (kl (i7 ts u.key Ti.xr)) (pk u.x u.y)=some (.int u.cT):=by rw [Ro];exact jb hnd hu
 change (mP K C A _) _ _ (upd H a.d2 (.dT (kw (i7 ts u.key Ti.xr))));generalize upd H a.d2 (.dT (kw (i7 ts u.key Ti.xr)))=H1 at h1 ht1 S1;generalize i7 ts u.key Ti.xr=ts1 at h1 hl1 k;unfold mP;walk_at "f";refine ⟨a.q,A.bB,a.dq,_,_,rfl,h1.ob,ct.lc,ct.l4,UX,?_⟩;walk_at "f";refine ⟨a.q,A.bB,a.dq,_,_,rfl,h1.ob,ct.lc,ct.l1,OS,?_⟩;walk_at "x";refine .inr ⟨a.d1,.int u.cT,rfl,.inr ⟨_,pk u.x u.y,t,.inl h1.e1,rfl,ht1,hl1.symm⟩,?_⟩;walk_at "x";refine Al (de.of h1.ls) λs hs=>?_;rw [Cg (j:=u.cT+1) (by lia),← pJ];have S2:=b8.cw (o:=.lst ((a.ws.take (u.cT+1)).map λw=>V.ref w.1)) hs;have gs:(upd H1 s (.lst ((a.ws.take (u.cT+1)).map λw=>V.ref w.1))) s=some (.lst ((a.ws.take (u.cT+1)).map λw=>V.ref w.1)):=aG;have nsf:=h1.DO hs;generalize upd H1 s (.lst ((a.ws.take (u.cT+1)).map λw=>V.ref w.1))=H2 at S2 gs;have h2:=h1.same S2;have ht2:=S2 _ _ ht1
 have hlt:(a.ws.take (u.cT+1)).length=u.cT+1:=by rw [bO,h.len];lia
 refine ⟨s,rfl,?_⟩
 refine .inl ⟨⟨_,de.of gs⟩,mx (K:=K) (a:=s) (xs:=(a.ws.take (u.cT+1)).map λw=>V.ref w.1)
  (λi Z H3=>Up C A a n T ts1 R (λr=>lk r u.x u.y) H2 i H3/\∃ o,Z=[some (.ref a.q),some (.ref t),o])
  ⟨⟨⟨as,R,h2,λj=>by rw [if_neg (by lia)]⟩,Fm.refl⟩,_,rfl⟩ ?_ ?_ ?_⟩
 ·rintro i Z H3 _ ⟨U,_⟩;exact de.of (U.fm _ _ nsf gs)
 ·rintro i z Z H3 hi ⟨U,o,rfl⟩;rw [aD] at hi;obtain ⟨w,hw,rfl⟩:=bx.mp hi
  have hi:i<u.cT+1:=by rw [← hlt];exact (aB.mp hw).1
  rw [mZ,if_pos hi] at hw;obtain ⟨as1,R1,L1,e1⟩:=U.ex;have W1:=L1.wa i w hw;have ht3:=U.fm _ _ (h2.xh ht2) ht2;walk_at "m";refine ⟨w.1,w.2.1,_,rfl,W1.ob,lP _ _,?_⟩;walk_at "x";refine jM (mR.of ht3) (fG (j:=0) rfl rfl) ?_;walk_at "x";refine jM (mR.of ht3) (fG (j:=1) rfl rfl) ?_;walk_at "x"
  have ei:R1 i=R i:=by rw [e1,if_neg (fu i)]
  have D1:=L1.wd i (by lia)
  have hap1:(u.y:Int)∉R1 i u.x:=by rw [ei];exact hap i (by lia)
  refine ⟨w.1,w.2.1,w.2.2,n,u.x,u.y,as1 i,R1 i,rfl,ct.w,W1,D1,hn,hx,hy,hap1,λbs H4 W' B'=>?_⟩;exact ⟨Up.step (f:=λr=>lk r u.x u.y) L1 e1 U.fm hw W' (D1.lk hx hy hap1) B',_,rfl⟩
 ·rintro Z H3 ⟨U,o,rfl⟩;rw [ag,hlt] at U;obtain ⟨as1,R1,L1,e1⟩:=U.ex;refine k as1 H3 (L1.cast λj=>?_) ((S1.trans (Fm.of S2)).trans U.fm);rw [e1]
  show _=if j<=u.cT then _ else _
  by_cases c:j<=u.cT
  ·rw [if_pos c,if_pos (by lia)]
  ·rw [if_neg c,if_neg (by lia)]
def dI (K:aa) (C:af) (A:CA):Sp:=λvs H Q _=>∃ (a:AL) (n T:Nat) (ts:List Ti) (as:Nat->List af) (R:Nat->Nat->List Int) (t:af) (u:Ti),vs=[.ref a.q,.ref t]/\AV K C A/\LV C A H a n T ts as R/\n<=200/\u∈ts/\(ts.map Ti.key).Nodup/\u.x<n/\u.y<n/\(u.wd=true->u.cT+1<=T/\(u.y:Int)∉R (u.cT+1) u.x) /\
 H t=some (.tup [.int u.x,.int u.y])/\ts.length<100/\∀ as' R' H',LV C A H' a n T (i7 ts u.key Ti.up) as' R'->(R'=if u.wd=true then Yq R (u.cT+1) u.x u.y else R)->Fm (fp a) H H'->Q .non H'
theorem AX:Rn (dI K C A) (qo K C A (dE K C)) m8:=by
 rintro vs H Q E ⟨a,n,T,ts,as,R,t,u,rfl,ct,h,hn,hu,hnd,hx,hy,hap,ht,hlen,k⟩;unfold qo;walk_at "f";refine ⟨a.q,A.bB,a.dq,_,_,rfl,h.ob,ct.lc,ct.l1,OS,?_⟩;walk_at "x";refine ⟨a.d1,.int u.cT,rfl,.inr ⟨_,pk u.x u.y,t,.inl h.e1,rfl,ht,(jb (f:=λt=>V.int t.cT) hnd hu).symm⟩,?_⟩;walk_at "x";refine ⟨u.cT,1,rfl,rfl,_,yE.t (k:=pk u.x u.y) h.e1 ht (ee (m:=100) (by rw [qz];exact hlen)),?_⟩;have e:=Rk (f:=λt=>V.int t.cT) (g:=Ti.up) hnd hu (λ_=>rfl);rw [show (V.int ((u.cT:Int)+1))=(λt:Ti=>V.int t.cT) u.up from rfl,e];have h1:=h.set1 (ts':=i7 ts u.key Ti.up) UZ Yr
 have ht1:(upd H a.d1 (.dT (kl (i7 ts u.key Ti.up)))) t=some (.tup [.int u.x,.int u.y]):=by rw [aI (je ht h.e1)];exact ht
 have S1:Fm (fp a) H (upd H a.d1 (.dT (kl (i7 ts u.key Ti.up)))):=Fm.upd fp1
 have hw1:eV (kw (i7 ts u.key Ti.up)) (pk u.x u.y)=some (.bl u.wd):=by rw [UZ];exact jb hnd hu
 have hl1:eV (kl (i7 ts u.key Ti.up)) (pk u.x u.y)=some (.int ((u.cT+1:Nat):Int)):=by
  have:=jb (f:=λt=>V.int t.cT) (by rw [ma (f:=Ti.up) (λ_=>rfl)];exact hnd) ((mH (f:=Ti.up) hnd hu u.up).mpr (.inl rfl));exact this
 dsimp only;change (jw _ _ _) _ _ (upd H a.d1 (.dT (kl (i7 ts u.key Ti.up))));generalize upd H a.d1 (.dT (kl (i7 ts u.key Ti.up)))=H1 at h1 ht1 S1;generalize i7 ts u.key Ti.up=ts1 at h1 hl1 hw1 k;walk_at "f";refine ⟨a.q,A.bB,a.dq,_,_,rfl,h1.ob,ct.lc,ct.l2,TZ,?_⟩;walk_at "x";refine .inr ⟨a.d2,.bl u.wd,rfl,.inr ⟨_,pk u.x u.y,t,.inl h1.e2,rfl,ht1,hw1.symm⟩,?_⟩;refine ⟨_,rfl,?_⟩
 cases hw:u.wd with
 | false =>
  rw [hw] at k;refine kP ?_;walk_at "x"
  exact k as R H1 h1 rfl S1
 | true =>
  rw [hw] at k;obtain ⟨hT,hap⟩:=hap hw;obtain ⟨w,hw1,hwm⟩:=h1.get hT;have W1:=h1.wa _ w hw1;have D1:=h1.wd _ hT;refine pX ?_;walk_at "m";refine ni ?_;walk_at "x";refine ⟨a.q,A.bB,a.dq,_,_,rfl,h1.ob,ct.lc,ct.l4,UX,?_⟩;walk_at "f";refine ⟨a.q,A.bB,a.dq,_,_,rfl,h1.ob,ct.lc,ct.l1,OS,?_⟩;walk_at "x";refine .inr ⟨a.d1,.int ((u.cT+1:Nat):Int),rfl,.inr ⟨_,pk u.x u.y,t,.inl h1.e1,rfl,ht1,hl1.symm⟩,?_⟩;refine pY (de.of h1.ls) (fG (j:=u.cT+1) rfl (by rw [aD,hw1];rfl)) ?_;refine ⟨w.1,w.2.1,_,rfl,W1.ob,lP _ _,?_⟩;walk_at "x";refine jM (mR.of ht1) (fG (j:=0) rfl rfl) ?_;walk_at "x";refine jM (mR.of ht1) (fG (j:=1) rfl rfl) ?_;walk_at "x";refine ⟨w.1,w.2.1,w.2.2,n,u.x,u.y,as (u.cT+1),R (u.cT+1),rfl,ct.w,W1,D1,hn,hx,hy,hap,λbs H4 W' B'=>?_⟩;exact k _ _ H4 (h1.Ud hw1 W' (D1.lk hx hy hap) B') rfl (S1.trans (Fm.but (fpw hwm) B'))
def fM (K:aa) (C:af) (A:CA):Sp:=λvs H Q _=>∃ (a:AL) (n T:Nat) (ts:List Ti) (as:Nat->List af) (R:Nat->Nat->List Int) (t:af) (u:Ti),vs=[.ref a.q,.ref t]/\AV K C A/\LV C A H a n T ts as R/\n<=200/\u∈ts/\(ts.map Ti.key).Nodup/\u.x<n/\u.y<n/\u.x≠u.y/\u.cT<=T/\(u.wd=true->∀ i,i<=u.cT->Ed n (R i) u.x u.y) /\
 H t=some (.tup [.int u.x,.int u.y])/\∀ as' R' H',LV C A H' a n T (ts.filter λv=>decide (v.key≠u.key)) as' R'->(R'=if u.wd=true then Zm R u.cT u.x u.y else R)->Fm (fp a) H H'->Q .non H'
theorem AY:Rn (fM K C A) (qp K C A (iV K C)) Q6:=by
 rintro vs H Q E ⟨a,n,T,ts,as,R,t,u,rfl,ct,h,hn,hu,hnd,hx,hy,hxy,hl,hed,ht,k⟩
 have td:∀ {H:Hp}{d:af}{ks ks':List (List dQ×V)},H t=some (.tup [.int u.x,.int u.y])->H d=some (.dT ks)->upd H d (.dT ks') t=some (.tup [.int u.x,.int u.y]):=λe1 e2=>by rw [aI (je e1 e2)];exact e1
 unfold qp;walk_at "f";refine ⟨a.q,A.bB,a.dq,_,_,rfl,h.ob,ct.lc,ct.l3,fL3,?_⟩;refine ⟨.inr (.inr (.inl ⟨rfl,.inr ⟨_,h.e3⟩⟩)),?_⟩;walk_at "x";refine ⟨a.d3,_,pk u.x u.y,t,.int 0,rfl,rfl,h.e3,ht,jb (f:=λ_=>V.int 0) hnd hu,?_⟩;rw [By];have ht1:=td (ks':=kv (ts.filter λv=>decide (v.key≠u.key))) ht h.e3
 have ne3:∀ {b:af}{o:HO},b≠a.d3->H b=some o->(upd H a.d3 (.dT (kv (ts.filter λv=>decide (v.key≠u.key))))) b=some o:=λhb e=>by rw [aI hb];exact e
 have q3:(upd H a.d3 (.dT (kv (ts.filter λv=>decide (v.key≠u.key))))) a.d3=_:=aG;have F1:Fm [a.d1,a.d2,a.d3] H (upd H a.d3 (.dT (kv (ts.filter λv=>decide (v.key≠u.key))))):=Fm.upd (ak _ (ak _ av));have o1:=ne3 (je h.ob h.e3) h.ob;have p1:=ne3 h.RU h.e1;have p2:=ne3 h.Sq h.e2;generalize upd H a.d3 (.dT (kv (ts.filter λv=>decide (v.key≠u.key))))=H1 at ht1 q3 F1 o1 p1 p2;dsimp only;walk_at "f";refine ⟨a.q,A.bB,a.dq,_,_,rfl,o1,ct.lc,ct.l1,OS,?_⟩;refine ⟨.inr (.inr (.inl ⟨rfl,.inr ⟨_,p1⟩⟩)),?_⟩;walk_at "x";refine ⟨a.d1,_,pk u.x u.y,t,.int u.cT,rfl,rfl,p1,ht1,jb (f:=λt=>V.int t.cT) hnd hu,?_⟩;rw [By];have ht2:=td (ks':=kl (ts.filter λv=>decide (v.key≠u.key))) ht1 p1;have o2:(upd H1 a.d1 (.dT (kl (ts.filter λv=>decide (v.key≠u.key))))) a.q=_:=(aI (je o1 p1)).trans o1;have r1:(upd H1 a.d1 (.dT (kl (ts.filter λv=>decide (v.key≠u.key))))) a.d1=_:=aG;have r2:(upd H1 a.d1 (.dT (kl (ts.filter λv=>decide (v.key≠u.key))))) a.d2=_:=(aI h.Ow.symm).trans p2;have r3:(upd H1 a.d1 (.dT (kl (ts.filter λv=>decide (v.key≠u.key))))) a.d3=_:=(aI h.RU.symm).trans q3;have F2:Fm [a.d1,a.d2,a.d3] H (upd H1 a.d1 (.dT (kl (ts.filter λv=>decide (v.key≠u.key))))):=F1.trans (Fm.upd av);generalize upd H1 a.d1 (.dT (kl (ts.filter λv=>decide (v.key≠u.key))))=H2 at ht2 o2 r1 r2 r3 F2;dsimp only;walk_at "f";refine ⟨a.q,A.bB,a.dq,_,_,rfl,o2,ct.lc,ct.l2,TZ,?_⟩;refine ⟨.inr (.inr (.inl ⟨rfl,.inr ⟨_,r2⟩⟩)),?_⟩;walk_at "x";refine ⟨a.d2,_,pk u.x u.y,t,.bl u.wd,rfl,rfl,r2,ht2,jb (f:=λt=>V.bl t.wd) hnd hu,?_⟩;rw [By];have ht3:=td (ks':=kw (ts.filter λv=>decide (v.key≠u.key))) ht2 r2;have F3:Fm [a.d1,a.d2,a.d3] H (upd H2 a.d2 (.dT (kw (ts.filter λv=>decide (v.key≠u.key))))):=F2.trans (Fm.upd (ak _ av));have h3:LV C A (upd H2 a.d2 (.dT (kw (ts.filter λv=>decide (v.key≠u.key))))) a n T (ts.filter λv=>decide (v.key≠u.key)) as R:=h.sets F3 ((aI h.Ow).trans r1) aG ((aI h.Sq.symm).trans r3)
 have G3:Fm (fp a) H (upd H2 a.d2 (.dT (kw (ts.filter λv=>decide (v.key≠u.key))))):=F3.mono λb hb=>by
  simp only [ax,dX,or_false] at hb
  rcases hb with rfl|rfl|rfl
  ·exact fp1
  ·exact fp2
  ·exact fp3
 generalize upd H2 a.d2 (.dT (kw (ts.filter λv=>decide (v.key≠u.key))))=H3 at ht3 h3 G3;refine ⟨_,rfl,?_⟩
 cases hw:u.wd with
 | false =>
  rw [hw] at k;refine kP ?_;walk_at "x"
  exact k as R H3 h3 rfl G3
 | true =>
  rw [hw] at k;have hed:=hed hw;refine pX ?_;unfold rV;walk_at "f";refine ⟨a.q,A.bB,a.dq,_,_,rfl,h3.ob,ct.lc,ct.l4,UX,?_⟩;walk_at "x";refine Al (de.of h3.ls) λs hs=>?_;rw [Cg (j:=u.cT+1) (by lia),← pJ];have S2:=b8.cw (o:=.lst ((a.ws.take (u.cT+1)).map λw=>V.ref w.1)) hs;have gs:(upd H3 s (.lst ((a.ws.take (u.cT+1)).map λw=>V.ref w.1))) s=some (.lst ((a.ws.take (u.cT+1)).map λw=>V.ref w.1)):=aG;have nsf:=h3.DO hs;generalize upd H3 s (.lst ((a.ws.take (u.cT+1)).map λw=>V.ref w.1))=H4 at S2 gs;have h4:=h3.same S2;have ht4:=S2 _ _ ht3
  have hlt:(a.ws.take (u.cT+1)).length=u.cT+1:=by rw [bO,h.len];lia
  refine ⟨s,rfl,?_⟩
  refine .inl ⟨⟨_,de.of gs⟩,mx (K:=K) (a:=s) (xs:=(a.ws.take (u.cT+1)).map λw=>V.ref w.1)
   (λi Z H5=>Up C A a n T (ts.filter λv=>decide (v.key≠u.key)) R (λr=>Rm.ct r u.x u.y) H4 i H5/\∃ o,Z=[some (.ref a.q),some (.ref t),some (.int u.cT),o])
   ⟨⟨⟨as,R,h4,λj=>by rw [if_neg (by lia)]⟩,Fm.refl⟩,_,rfl⟩ ?_ ?_ ?_⟩
  ·rintro i Z H5 _ ⟨U,_⟩;exact de.of (U.fm _ _ nsf gs)
  ·rintro i z Z H5 hi ⟨U,o,rfl⟩;rw [aD] at hi;obtain ⟨w,hw,rfl⟩:=bx.mp hi
   have hi:i<u.cT+1:=by rw [← hlt];exact (aB.mp hw).1
   rw [mZ,if_pos hi] at hw;obtain ⟨as1,R1,L1,e1⟩:=U.ex;have W1:=L1.wa i w hw;have ht5:=U.fm _ _ (h4.xh ht4) ht4;walk_at "m";refine ⟨w.1,w.2.1,_,rfl,W1.ob,lP _ _,?_⟩;walk_at "x";refine jM (mR.of ht5) (fG (j:=0) rfl rfl) ?_;walk_at "x";refine jM (mR.of ht5) (fG (j:=1) rfl rfl) ?_;walk_at "x"
   have ei:R1 i=R i:=by rw [e1,if_neg (fu i)]
   have D1:=L1.wd i (by lia)
   have hE:Ed n (R1 i) u.x u.y:=by rw [ei];exact hed i (by lia)
   refine ⟨w.1,w.2.1,w.2.2,n,u.x,u.y,as1 i,R1 i,rfl,ct.w,W1,D1,hn,hx,hy,hxy,hE,λbs H6 W' B'=>?_⟩;exact ⟨Up.step (f:=λr=>Rm.ct r u.x u.y) L1 e1 U.fm hw W' (D1.ct hx hy hxy hE) B',_,rfl⟩
  ·rintro Z H5 ⟨U,o,rfl⟩;rw [ag,hlt] at U;obtain ⟨as1,R1,L1,e1⟩:=U.ex;refine k as1 _ H5 (L1.cast λj=>?_) rfl ((G3.trans (Fm.of S2)).trans U.fm);rw [e1]
   show _=if j<=u.cT then _ else _
   by_cases c:j<=u.cT
   ·rw [if_pos c,if_pos (by lia)]
   ·rw [if_neg c,if_neg (by lia)]
end K31
namespace K31
open Rm
variable {K:aa}{C:af}{A:CA}{Pt:af}
def ja (K:aa) (C:af) (A:CA):Sp:=λvs H Q _=>∃ (a:AL) (n T:Nat) (ts:List Ti) (as:Nat->List af) (R:Nat->Nat->List Int) (t:af) (x y:Nat),vs=[.ref a.q,.ref t,.int 0]/\AV K C A/\LV C A H a n T ts as R/\n<=200/\x<n/\y<n/\H t=some (.tup [.int x,.int y])/\(ts.map Ti.key).Nodup/\((x:Int),(y:Int))∉ts.map Ti.key/\ts.length<99 /\
 ∀ b ts' as' R' H',LV C A H' a n T ts' as' R'->(((y:Int)∈R 0 x/\ts'=ts++[⟨x,y,0,false⟩]/\R'=R/\b=false)\/((y:Int)∉R 0 x/\ts'=i7 (ts++[⟨x,y,0,false⟩]) ((x:Int),(y:Int)) Ti.xr/\R'=Kz R 0 x y/\b=true))->Fm (fp a) H H'->Q (.bl b) H'
theorem C9:Rn (ja K C A) (rC K C A (cj K C) (cn K C A)) xW:=by
 rintro vs H Q E ⟨a,n,T,ts,as,R,t,x,y,rfl,ct,h,hn,hx,hy,ht,hnd,hk,hlen,k⟩
 have td:∀ {H:Hp}{d:af}{ks ks':List (List dQ×V)},H t=some (.tup [.int x,.int y])->H d=some (.dT ks)->upd H d (.dT ks') t=some (.tup [.int x,.int y]):=λe1 e2=>by rw [aI (je e1 e2)];exact e1
 have kn:∀ (f:Ti->V) (v:V),f ⟨x,y,0,false⟩=v->lC (kf f ts) (pk x y) v=kf f (ts++[⟨x,y,0,false⟩]):=λf v e=>by rw [IE _ (GZ hk),← e];unfold kf;rw [aT];rfl
 have hnd':((ts++[(⟨x,y,0,false⟩:Ti)]).map Ti.key).Nodup:=by
  rw [aT,fZ];exact ⟨hnd,by simp,λp hp q hq e=>hk (by rw [AF,aA] at hq;have e2:p=((x:Int),(y:Int)):=e.trans hq;rw [← e2];exact hp)⟩
 have hu:(⟨x,y,0,false⟩:Ti)∈ts++[⟨x,y,0,false⟩]:=bP _ av;unfold rC;walk_at "f";refine ⟨a.q,A.bB,a.dq,_,_,rfl,h.ob,ct.lc,ct.l1,OS,?_⟩;walk_at "x";refine .inr ⟨a.d1,_,rfl,yE.t (k:=pk x y) h.e1 ht (ee (m:=100) (by rw [qz];lia)),?_⟩;rw [kn (λt=>V.int t.cT) (.int 0) rfl];have ht1:=td (ks':=kl (ts++[⟨x,y,0,false⟩])) ht h.e1;have o1:(upd H a.d1 (.dT (kl (ts++[⟨x,y,0,false⟩])))) a.q=_:=(aI (je h.ob h.e1)).trans h.ob;have p1:(upd H a.d1 (.dT (kl (ts++[⟨x,y,0,false⟩])))) a.d1=_:=aG;have p2:(upd H a.d1 (.dT (kl (ts++[⟨x,y,0,false⟩])))) a.d2=_:=(aI h.Ow.symm).trans h.e2;have p3:(upd H a.d1 (.dT (kl (ts++[⟨x,y,0,false⟩])))) a.d3=_:=(aI h.RU.symm).trans h.e3;have F1:Fm [a.d1,a.d2,a.d3] H (upd H a.d1 (.dT (kl (ts++[⟨x,y,0,false⟩])))):=Fm.upd av;generalize upd H a.d1 (.dT (kl (ts++[⟨x,y,0,false⟩])))=H1 at ht1 o1 p1 p2 p3 F1;walk_at "f";refine ⟨a.q,A.bB,a.dq,_,_,rfl,o1,ct.lc,ct.l2,TZ,?_⟩;walk_at "x";refine .inr ⟨a.d2,_,rfl,yE.t (k:=pk x y) p2 ht1 (ee (m:=100) (by rw [qz];lia)),?_⟩;rw [kn (λt=>V.bl t.wd) (.bl false) rfl];have ht2:=td (ks':=kw (ts++[⟨x,y,0,false⟩])) ht1 p2;have o2:(upd H1 a.d2 (.dT (kw (ts++[⟨x,y,0,false⟩])))) a.q=_:=(aI (je o1 p2)).trans o1;have q1:(upd H1 a.d2 (.dT (kw (ts++[⟨x,y,0,false⟩])))) a.d1=_:=(aI h.Ow).trans p1;have q2:(upd H1 a.d2 (.dT (kw (ts++[⟨x,y,0,false⟩])))) a.d2=_:=aG;have q3:(upd H1 a.d2 (.dT (kw (ts++[⟨x,y,0,false⟩])))) a.d3=_:=(aI h.Sq.symm).trans p3;have F2:Fm [a.d1,a.d2,a.d3] H (upd H1 a.d2 (.dT (kw (ts++[⟨x,y,0,false⟩])))):=F1.trans (Fm.upd (ak _ av));generalize upd H1 a.d2 (.dT (kw (ts++[⟨x,y,0,false⟩])))=H2 at ht2 o2 q1 q2 q3 F2;walk_at "f";refine ⟨a.q,A.bB,a.dq,_,_,rfl,o2,ct.lc,ct.l3,fL3,?_⟩;walk_at "x";refine .inr ⟨a.d3,_,rfl,yE.t (k:=pk x y) q3 ht2 (ee (m:=100) (by rw [qz];lia)),?_⟩;rw [kn (λ_=>V.int 0) (.int 0) rfl];have ht3:=td (ks':=kv (ts++[⟨x,y,0,false⟩])) ht2 q3;have F3:Fm [a.d1,a.d2,a.d3] H (upd H2 a.d3 (.dT (kv (ts++[⟨x,y,0,false⟩])))):=F2.trans (Fm.upd (ak _ (ak _ av)));have h3:LV C A (upd H2 a.d3 (.dT (kv (ts++[⟨x,y,0,false⟩])))) a n T (ts++[⟨x,y,0,false⟩]) as R:=h.sets F3 ((aI h.RU).trans q1) ((aI h.Sq).trans q2) aG
 have S3:Fm (fp a) H (upd H2 a.d3 (.dT (kv (ts++[⟨x,y,0,false⟩])))):=F3.mono λb hb=>by
  simp only [ax,dX,or_false] at hb
  rcases hb with rfl|rfl|rfl
  ·exact fp1
  ·exact fp2
  ·exact fp3
 generalize upd H2 a.d3 (.dT (kv (ts++[⟨x,y,0,false⟩])))=H3 at ht3 h3 S3;obtain ⟨w,hw,hwm⟩:=h3.get (aJ _);have W3:=h3.wa 0 w hw;have D3:=h3.wd 0 (aJ _);walk_at "m";refine ni ?_;walk_at "x";refine ⟨a.q,A.bB,a.dq,_,_,rfl,h3.ob,ct.lc,ct.l4,UX,?_⟩;walk_at "x";refine pY (de.of h3.ls) (fG (j:=0) rfl (by rw [aD,hw];rfl)) ?_;refine ⟨w.1,w.2.1,_,rfl,W3.ob,lP _ _,?_⟩;walk_at "x";refine jM (mR.of ht3) (fG (j:=0) rfl rfl) ?_;walk_at "x";refine jM (mR.of ht3) (fG (j:=1) rfl rfl) ?_;walk_at "x";refine ⟨w.1,w.2.1,w.2.2,n,x,y,as 0,R 0,rfl,ct.w,W3,D3,hx,hy,?_⟩;refine ⟨_,rfl,?_⟩
 by_cases hj:(y:Int)∈R 0 x
 ·rw [decide_eq_true hj];rw [if_neg (by simp)];walk_at "f";refine ⟨a.q,A.bB,a.dq,_,_,rfl,h3.ob,ct.lc,ct.l2,TZ,?_⟩;walk_at "x";refine .inr ⟨a.d2,.bl false,rfl,.inr ⟨_,pk x y,t,.inl h3.e2,rfl,ht3,(jb (f:=λt=>V.bl t.wd) hnd' hu).symm⟩,?_⟩;exact k _ _ as R H3 h3 (.inl ⟨hj,rfl,rfl,rfl⟩) S3
 ·rw [decide_eq_false hj];rw [if_pos (by simp)];walk_at "m";refine ⟨a.q,a.dq,_,rfl,h3.ob,UY,?_⟩;walk_at "x";refine ⟨a,n,T,_,as,R,t,⟨x,y,0,false⟩,rfl,ct,h3,hn,hu,hnd',hx,hy,aJ _,λi hi=>by rw [Sl.mp hi];exact hj,ht3,by simp;lia,λas' H4 h4 S4=>?_⟩;have ht4:H4 t=some (.tup [.int x,.int y]):=S4 _ _ (h3.xh ht3) ht3;walk_at "f";refine ⟨a.q,A.bB,a.dq,_,_,rfl,h4.ob,ct.lc,ct.l2,TZ,?_⟩;walk_at "x";refine .inr ⟨a.d2,.bl true,rfl,.inr ⟨_,pk x y,t,.inl h4.e2,rfl,ht4,(jb (f:=λt=>V.bl t.wd) (t:=⟨x,y,0,true⟩) (by rw [ma (f:=Ti.xr) (λ_=>rfl)];exact hnd') ((mH (f:=Ti.xr) hnd' hu _).mpr (.inl rfl))).symm⟩,?_⟩;exact k _ _ as' _ H4 h4 (.inr ⟨hj,rfl,rfl,rfl⟩) (S3.trans S4)
def cu (K:aa) (C:af) (A:CA):Sp:=λvs H Q _=>∃ (a:AL) (n T:Nat) (ts:List Ti) (as:Nat->List af) (R:Nat->Nat->List Int) (lv:Nat) (t:af) (x y:Nat),vs=[.ref a.q,.int lv,.ref t]/\AV K C A/\LV C A H a n T ts as R/\n<=60/\lv<=T/\x<n/\y<n/\H t=some (.tup [.int x,.int y]) /\
 ∀ q (ks:List Int) (s o:Nat),(s=x/\o=y\/s=y/\o=x)->(R lv s).length<=(R lv o).length->H q=none->(∀ z,z∈ks↔z∈R lv s)->Q (.ref q) (upd H q (.lst (ks.map V.int)))
theorem tj:Rn (cu K C A) (j6 K C A (dO K C) (iW K C)) Q7:=by
 rintro vs H Q E ⟨a,n,T,ts,as,R,lv,t,x,y,rfl,ct,h,hn,hl,hx,hy,ht,k⟩;obtain ⟨w,hw,hwm⟩:=h.get hl;have W:=h.wa lv w hw;have D:=h.wd lv hl;have lx:=D.len hx;have ly:=D.len hy;obtain ⟨dx,_,_,cx⟩:=(D.r x hx).cnt;obtain ⟨dy,_,_,cy⟩:=(D.r y hy).cnt;unfold j6;walk_at "f";refine ⟨a.q,A.bB,a.dq,_,_,rfl,h.ob,ct.lc,ct.l4,UX,?_⟩;walk_at "x";refine pY (de.of h.ls) (fG (j:=lv) rfl (by rw [aD,hw];rfl)) ?_;walk_at "m";refine ⟨w.1,w.2.1,_,rfl,W.ob,lP _ _,?_⟩;walk_at "m";refine ⟨w.1,w.2.1,_,rfl,W.ob,lP _ _,?_⟩;walk_at "x";refine jM (mR.of ht) (fG (j:=0) rfl rfl) ?_;walk_at "x";refine ⟨w.1,w.2.1,w.2.2,n,x,as lv,R lv,rfl,ct.w,W,D,hx,?_⟩;refine qU ?_;walk_at "x";refine ⟨w.1,w.2.1,_,rfl,W.ob,lP _ _,?_⟩;walk_at "x";refine jM (mR.of ht) (fG (j:=1) rfl rfl) ?_;walk_at "x";refine ⟨w.1,w.2.1,w.2.2,n,y,as lv,R lv,rfl,ct.w,W,D,hy,?_⟩;walk_at "x";refine tV (λc=>?_) λc=>?_
 ·walk_at "x";refine jM (mR.of ht) (fG (j:=0) rfl rfl) ?_;walk_at "x";exact ⟨w.1,w.2.1,w.2.2,n,x,as lv,R lv,rfl,ct.w,W,D,by lia,hx,λq ks hq _ hm=>k q ks x y (.inl ⟨rfl,rfl⟩) (by lia) hq hm⟩
 ·walk_at "x";refine jM (mR.of ht) (fG (j:=1) rfl rfl) ?_;walk_at "x";exact ⟨w.1,w.2.1,w.2.2,n,y,as lv,R lv,rfl,ct.w,W,D,by lia,hy,λq ks hq _ hm=>k q ks y x (.inr ⟨rfl,rfl⟩) (by lia) hq hm⟩
end K31
namespace K31
open Rm
variable {K:aa}{C:af}{A:CA}{Pt:af}
theorem vB.keep {Pt:af}{H H':Hp}(h:vB Pt H) (S:∀ b o,(∀ ks,o≠.dT ks)->(∀ xs,o≠.lst xs)->(∀ x y z,o≠.ins x y z)->(∀ o' ks,o≠.frz o' (.dT ks))->H b=some o->H' b=some o):vB Pt H':=by
 rcases h with h|⟨c',oc,vs,t,h1,h2,h3⟩
 ·exact .inl (S _ _ (λ_ z=>nomatch z) (λ_ z=>nomatch z) (λ_ _ _ z=>nomatch z) (λ_ _ z=>nomatch z) h)
 ·exact .inr ⟨c',oc,vs,t,S _ _ (λ_ z=>nomatch z) (λ_ z=>nomatch z) (λ_ _ _ z=>nomatch z) (λ_ _ z=>nomatch z) h1,S _ _ (λ_ z=>nomatch z) (λ_ z=>nomatch z) (λ_ _ _ z=>nomatch z) (λ_ _ z=>nomatch z) h2,h3⟩
theorem vB.same {Pt:af}{H H':Hp}(h:vB Pt H) (S:b8 H H'):vB Pt H':=h.keep λb o _ _ _ _ e=>S b o e
theorem vB.fm {C:af}{A:CA}{Pt:af}{H H':Hp}{a:AL}{n T:Nat}{ts:List Ti}{as:Nat->List af}{R:Nat->Nat->List Int}(h:vB Pt H) (L:LV C A H a n T ts as R) (S:Fm (fp a) H H'):vB Pt H' :=
 h.keep λb o h1 h2 _ _ e=>S b o (L.out e h1 λ_ _=>h2 _) e
theorem vB.ne {Pt:af}{H:Hp}(h:vB Pt H) {b:af}{o:HO}(e:H b=some o) (hn:∀ ps,o≠.tbl ps):b≠Pt:=λz=>by
 obtain ⟨ps,q⟩:=h.tbl;rw [z,q] at e;exact hn ps (a7 e).symm
def AtL (ts:List Ti) (lv:Nat) (w:Bool) (zs:List Zt):Prop:=(zs.map zP).Nodup/\∀ k,k∈zs.map zP↔∃ t∈ts,t.cT=lv/\t.wd=w/\t.key=k
def oX (K:aa) (C:af) (A:CA) (Pt:af):Sp:=λvs H Q _=>∃ (a:AL) (n T:Nat) (ts:List Ti) (as:Nat->List af) (R:Nat->Nat->List Int) (lv:Nat) (w:Bool),vs=[.ref a.q,.int lv,.bl w]/\AV K C A/\LV C A H a n T ts as R/\(ts.map Ti.key).Nodup/\ts.length<99/\vB Pt H /\
 ∀ (q:af) (zs:List Zt) (o:gi) H',H q=none->H' q=some (.lst (zs.map j5))->(∀ z∈zs,fH H' z)->AtL ts lv w zs->H' a.d1=some (.frz o (.dT (kl ts)))->vB Pt H'->Fm [Pt,a.d1] H H'->Q (.ref q) H'
def cG (K:aa) (C:af) (A:CA) (Pt:af):Sp:=λvs H Q _=>∃ (a:AL) (n T:Nat) (ts:List Ti) (as:Nat->List af) (R:Nat->Nat->List Int) (lv:Nat) (w:Bool),vs=[.ref a.q,.int lv,.bl w]/\AV K C A/\LV C A H a n T ts as R/\(ts.map Ti.key).Nodup/\ts.length<99/\vB Pt H /\
 ∀ (q:af) (zs:List Zt) H',H q=none->H' q=some (.lst (zs.map j5))->(∀ z∈zs,fH H' z)->AtL ts lv w zs->vB Pt H'->IS Pt H H'->Q (.ref q) H'
theorem uG:∀ vs H Q E,cG K C A Pt vs H Q E->oX K C A Pt vs H (Qm H Q) E:=by
 rintro vs H Q E ⟨a,n,T,ts,as,R,lv,w,rfl,ct,h,hnd,hlen,hT,k⟩;refine ⟨a,n,T,ts,as,R,lv,w,rfl,ct,h,hnd,hlen,hT,λq zs o H' hq gq pz hz gd hT' B=>.inr ⟨a.d1,o,kl ts,(λo' u' e=>by rw [h.e1] at e;cases e),gd,?_⟩⟩;have hqd:q≠a.d1:=Ne.symm (aR h.e1 hq)
 have ne:∀ {b:af}{u:HO},H' b=some u->(∀ o' ks,u≠.frz o' (.dT ks))->(upd H' a.d1 (.dT (kl ts))) b=some u:=λ{b u} e q=>by rw [aI];exact e;rintro rfl;rw [gd] at e;cases e;exact q _ _ rfl
 refine k q zs _ hq (by rw [aI hqd];exact gq) (λz hz'=>ne (pz z hz') (λ_ _ z=>nomatch z)) hz (hT'.keep λb u _ _ _ h4 e=>ne e h4) λb u hb e=>?_
 by_cases c:b=a.d1
 ·subst c;rw [aG,← h.e1,e]
 ·rw [aI c];exact B _ _ (by simp [hb,c]) e
theorem uH:Rn (oX K C A Pt) (lX K C A (kD K C Pt)) Q4:=by
 rintro vs H Q E ⟨a,n,T,ts,as,R,lv,w,rfl,ct,h,hnd,hlen,hT,k⟩;unfold lX;walk_at "x";refine Qk ?_;refine ni ?_;walk_at "x";refine ⟨a.q,A.bB,a.dq,_,_,rfl,h.ob,ct.lc,ct.l1,OS,?_⟩;refine ⟨a.d1,kl ts,rfl,.inl ⟨h.e1,λo=>?_⟩⟩;have g1:(upd H a.d1 (.frz o (.dT (kl ts)))) a.d1=some (.frz o (.dT (kl ts))):=aG;have B1:bH a.d1 H (upd H a.d1 (.frz o (.dT (kl ts)))):=bH.upd;generalize upd H a.d1 (.frz o (.dT (kl ts)))=H1 at g1 B1;have q1:=B1 _ _ h.ob (je h.ob h.e1);have w1:=B1 _ _ h.e2 (Ne.symm h.Ow);have v1:=B1 _ _ h.e3 (Ne.symm h.RU)
 have T1:vB Pt H1:=hT.keep λb u h1 _ _ _ e=>B1 _ _ e λz=>by rw [z,h.e1] at e;cases e;exact h1 _ rfl
 intro acc hacc;refine nR (n:=ts.length) (λt ys H4=>H4 acc=some (.lst ys)/\b8 H1 H4/\∃ us:List (Ti×af),ys=us.map (λu=>V.ref u.2)/\us.map (·.1)=(ts.take t).filter (λu=>decide (u.cT=lv))/\∀ u∈us,H4 u.2=some (.tup [.int u.1.x,.int u.1.y])) (λZ=>∃ o,Z=[o,some (.int lv),some (.ref a.q)]) ⟨aG,b8.cw hacc,[],rfl,rfl,λz hz=>nomatch hz⟩ ⟨_,rfl⟩ ?_ ?_ ?_ ?_
 ·rintro t ys H4 ⟨e,_⟩;exact e
 ·rintro ys H4 ⟨g4,S4,us,rfl,hu,fl⟩;refine ⟨⟨by rw [qz];exact au _,S4 _ _ g1⟩,?_⟩;rw [bS (au _)] at hu
  have hul:us.length<=ts.length:=by have:=congrArg df hu;rw [ag] at this;rw [this];exact cJ _ _
  walk_at "x";refine .inl ⟨⟨_,de.of g4⟩,λacc2 hacc2=>?_⟩;refine Bt (K:=K) (z:=acc) (xs:=us.map λu=>V.ref u.2) us (λu=>decide (u.1.wd=w)) (λu=>V.ref u.2) (λZ=>∃ o,Z=[o,some (.bl w),some (.ref a.q)]) (by simp) (de.of g4) hacc2 ⟨_,rfl⟩ (by rw [ag];lia) ?_ ?_
  ·rintro i u x σ' H' G G' hi hx S' ⟨o',rfl⟩ k1 k2
   have ex:x=.ref u.2:=by rw [aD,hi] at hx;exact (a7 hx).symm
   subst ex;have hum:=aW hi
   have hut:u.1∈ts:=by
    have:u.1∈us.map (·.1):=bp hum;rw [hu] at this;exact (cK.mp this).1
   walk_at "f";refine ⟨a.q,A.bB,a.dq,_,_,rfl,S' _ _ (S4 _ _ q1),ct.lc,ct.l2,TZ,?_⟩;walk_at "x";refine .inr ⟨a.d2,.bl u.1.wd,rfl,.inr ⟨kw ts,pk u.1.x u.1.y,u.2,.inl (S' _ _ (S4 _ _ w1)),rfl,S' _ _ (fl u hum),(jb (f:=λt=>V.bl t.wd) hnd hut).symm⟩,?_⟩;walk_at "x";have e:decide (V.bl u.1.wd=V.bl w)=decide (u.1.wd=w):=decide_eq_decide.mpr ⟨λq=>by injection q,λq=>by rw [q]⟩;rw [e]
   cases c:decide (u.1.wd=w) with
   | true =>
    refine pX ?_;walk_at "x"
    exact k1 c _ ⟨_,rfl⟩
   | false=>exact kP (k2 c _ ⟨_,rfl⟩)
  ·intro H' S' hacc';have S5:=S4.trans S';generalize eu:us.filter (λu=>decide (u.1.wd=w))=us2 at hacc'
   have hu2:us2.map (·.1)=(ts.filter λu=>decide (u.cT=lv)).filter λu=>decide (u.wd=w):=by rw [← hu,← eu,vN];rfl
   have fl2:∀ u∈us2,H' u.2=some (.tup [.int u.1.x,.int u.1.y]):=λu hu=>S' _ _ (fl u (by rw [← eu] at hu;exact (cK.mp hu).1))
   have hm2:∀ u,u∈us2.map (·.1)↔u∈ts/\u.cT=lv/\u.wd=w:=λu=>by
    rw [hu2,cK,cK,decide_eq_true_iff,decide_eq_true_iff,and_assoc]
   have hl2:us2.length<=ts.length:=by rw [← eu];exact bz (cJ _ _) hul
   walk_at "f";refine ⟨a.q,A.bB,a.dq,_,_,rfl,S5 _ _ q1,ct.lc,ct.l3,fL3,?_⟩;walk_at "x";refine ⟨acc2,a.d3,us2.map (λu=>([0,(u.1.x:Int),(u.1.y:Int)],u.2)),kv ts,rfl,by rw [hacc',bN];rfl,S5 _ _ v1,λz hz=>?_,by rw [ag];lia,T1.same S5,λl zs' H2 hl S6 T6 hp=>?_⟩
   ·obtain ⟨u,hum,rfl⟩:=bw.mp hz;exact ⟨0,u.1.x,u.1.y,rfl,fl2 u hum,jb (f:=λ_=>V.int 0) hnd ((hm2 u.1).mp (bp hum)).1⟩
   ·have T5:=T1.same S5
    have hlP:l≠Pt:=λz=>by
     obtain ⟨ps,e⟩:=T6.tbl;rw [z,e] at hl;cases hl
    have F6:Fm [Pt,a.d1] H H2:=λb u hb e=>by
     simp only [ax,dX,or_false,not_or] at hb;exact S6 _ _ hb.1 (S5 _ _ (B1 _ _ e hb.2))
    have d6:H2 a.d1=some (.frz o (.dT (kl ts))):=S6 _ _ (T5.ne (S5 _ _ g1) (λ_ z=>nomatch z)) (S5 _ _ g1);have hld:a.d1≠l:=aR d6 hl
    have U:∀ {b:af}{u:HO},H2 b=some u->(upd H2 l (.lst (zs'.map qc))) b=some u:=λe=>by rw [aI (aR e hl)];exact e
    have hzP:(zs'.map λz=>(z.1.getD 1 0,z.1.getD 2 0,z.2)).map zP=zs'.map λz=>(z.1.getD 1 0,z.1.getD 2 0):=by rw [bN];rfl
    have hperm:(zs'.map λz=>((z.1.getD 1 0,z.1.getD 2 0):Int×Int)).Perm ((us2.map (·.1)).map Ti.key):=by
     have:=hp.map λz:Zn=>((z.1.getD 1 0,z.1.getD 2 0):Int×Int)
     rw [bN] at this;rw [bN];exact this
    refine k l (zs'.map λz=>(z.1.getD 1 0,z.1.getD 2 0,z.2)) o _ (F6.free (by simp [hlP,hld.symm]) hl) (by rw [aG,bN];rfl) (λz hz=>?_) ⟨?_,λkey=>?_⟩ (U d6) (T6.keep λb u _ _ _ _ e=>U e) (F6.trans λb u _ e=>U e)
    ·obtain ⟨z',hz',rfl⟩:=bw.mp hz;obtain ⟨u,hum,rfl⟩:=bw.mp (hp.mem_iff.mp hz');exact U (S6 _ _ (T5.ne (fl2 u hum) (λ_ z=>nomatch z)) (fl2 u hum))
    ·rw [hzP,hperm.nodup_iff,hu2];exact ((mj.trans mj).map _).nodup hnd
    ·rw [hzP,hperm.mem_iff,bw];exact ⟨λ⟨u,h1,h2⟩=>⟨u,((hm2 u).mp h1).1,((hm2 u).mp h1).2.1,((hm2 u).mp h1).2.2,h2⟩,λ⟨u,h1,h2,h3,h4⟩=>⟨u,(hm2 u).mpr ⟨h1,h2,h3⟩,h4⟩⟩
 ·rintro t ys H4 ht ⟨_,S4,_⟩;exact ⟨by rw [qz];exact ht,S4 _ _ g1⟩
 ·rintro t ys σ' H4 x H5 ht ⟨g4,S4,us,rfl,hu,fl⟩ ⟨o',rfl⟩ ⟨eH,key,v,b,hk,ex,hb⟩;subst eH ex
  obtain ⟨u,hu',eu⟩:∃ u,ts[t]?=some u/\(pk u.x u.y,V.int u.cT)=(key,v):=by
   have hk:(ts.map λt=>(pk t.x t.y,V.int t.cT))[t]?=some (key,v):=hk;rw [aD] at hk;exact bx.mp hk
  cases eu;have hum:=aW hu';have hb:H5 b=some (.tup [.int u.x,.int u.y]):=hb;walk_at "f";refine ⟨a.q,A.bB,a.dq,_,_,rfl,S4 _ _ q1,ct.lc,ct.l1,OS,?_⟩;walk_at "x";refine .inr ⟨a.d1,.int u.cT,rfl,.inr ⟨kl ts,pk u.x u.y,b,.inr ⟨o,S4 _ _ g1⟩,rfl,hb,(jb (f:=λt=>V.int t.cT) hnd hum).symm⟩,?_⟩
  have etk:ts.take (t+1)=ts.take t++[u]:=by rw [d9,hu'];rfl
  have hul:us.length<=ts.length:=by have:=congrArg df hu;rw [ag] at this;rw [this];exact bz (cJ _ _) (by rw [bO];lia)
  walk_at "x";refine tV (λc=>?_) λc=>?_
  ·have c:u.cT=lv:=by have:=lT.mp c;lia
   walk_at "x";refine ⟨g4,ee (m:=100) (by rw [ag];lia),k9.mk' ht ⟨_,rfl⟩ ⟨aG,λb' ob e=>by rw [aI (aR e hacc)];exact S4 _ _ e,us++[(u,b)],by simp,?_,λz hz=>?_⟩⟩
   ·rw [aT,hu,etk,dk];simp [c]
   ·rcases aQ.mp hz with hz|hz
    ·rw [aI (je (fl z hz) g4)];exact fl z hz
    ·rw [aA.mp hz,aI (je hb g4)];exact hb
  ·have c:¬ u.cT=lv:=λe=>c (by rw [e]);refine k9.mk' ht ⟨_,rfl⟩ ⟨g4,S4,us,rfl,?_,fl⟩;rw [hu,etk,dk];simp [c]
end K31
namespace K31
open Rm
variable {K:aa}{C:af}{A:CA}{Pt:af}
theorem Fm.skip {X:List af}{c:af}{H H1 H2:Hp}(S:Fm X H H1) (S2:Fm (c::X) H1 H2) (hc:H c=none):Fm X H H2:=λb o hb e=>S2 b o (λz=>by
 rcases ax.mp z with z|z
 ·rw [z,hc] at e;cases e
 ·exact hb z) (S b o hb e)
theorem ew2 {x y:Int}{S:List Int}:ew x y S=2↔x∈S/\y∈S:=by
 unfold ew;by_cases c1:x∈S<;>by_cases c2:y∈S<;>simp [c1,c2]
theorem ew1 {x y:Int}{S:List Int}:ew x y S=1↔(x∈S/\y∉S\/x∉S/\y∈S):=by
 unfold ew;by_cases c1:x∈S<;>by_cases c2:y∈S<;>simp [c1,c2]
section
variable {C:af}{A:CA}{H H':Hp}{a:AL}{n T:Nat}{ts:List Ti}{as:Nat->List af}{R:Nat->Nat->List Int}
theorem LV.U5 {Pt:af}(h:LV C A H a n T ts as R) (hP:vB Pt H) (S:IS Pt H H'):LV C A H' a n T ts as R :=
 h.keep (X:=[Pt]) (λb o hb e=>S b o (λz=>hb (aA.mpr z)) e) (λx fs e hf _ hx=>hP.ne e (by obtain ⟨c,d,f,rfl,_⟩:=hf;exact λ_ z=>nomatch z) (aA.mp hx)) (λb hb hx=>by
  rcases h.kind hb with ⟨ks,q⟩|⟨bs,_,q⟩
  ·exact hP.ne q (λ_ z=>nomatch z) (aA.mp hx)
  ·exact hP.ne q (λ_ z=>nomatch z) (aA.mp hx)) (λhx=>hP.ne h.ls (λ_ z=>nomatch z) (aA.mp hx)) λb r _ e hx=>hP.ne e (λ_ z=>nomatch z) (aA.mp hx)
theorem LV.app {c:af}{ys xs:List V}(h:LV C A H a n T ts as R) (hc:H c=some (.lst ys)) (hi:∀ i r,ys≠V.int i::r) (n1:c∉fp a) (n2:a.L≠c):LV C A (upd H c (.lst xs)) a n T ts as R :=
 h.keep (X:=[c]) (Fm.upd av) (λx fs e hf _ hx=>by
  rw [aA.mp hx,hc] at e;obtain ⟨c,d,f,rfl,_⟩:=hf
  cases e) (λb hb hx=>n1 (aA.mp hx▸hb)) (λhx=>n2 (aA.mp hx)) λb r hr e hx=>by
  rw [aA.mp hx,hc] at e
  injection e with e
  injection e with e
  match r,hr with
  | x::r,_=>exact hi _ _ e
end
def fN (K:aa) (C:af) (A:CA) (Pt:af):Sp:=λvs H Q _=>∃ (a:AL) (n T:Nat) (ts:List Ti) (as:Nat->List af) (R:Nat->Nat->List Int) (lv:Nat) (t:af) (x y:Nat),vs=[.ref a.q,.int lv,.ref t]/\AV K C A/\LV C A H a n T ts as R/\n<=60/\(∀ j,2^(j+1)<=n->j<=T)/\Dn n T ts R x y (lv+1)/\H t=some (.tup [.int x,.int y])/\ts.length<99/\vB Pt H /\
 ∀ ts' as' R' H' (u:Tt),H u.p=none->H u.q=none->Fd H' u->LV C A H' a n T ts' as' R'->vB Pt H'->Fm (Pt::fp a) H H'->ts'.map Ti.key=ts.map Ti.key->(u.f=.non/\Dn n T ts' R' x y lv\/u.f≠.non/\Lv n T ts' R'/\Jn ts' R')->Q (.ref u.p) H'
theorem AZ:Rn (fN K C A Pt) (qu K C A (cu K C A) (cG K C A Pt) (dI K C A) (dJ K C) (cn K C A)) Q0:=by
 rintro vs H Q E ⟨a,n,T,ts,as,R,lv,t,x,y,rfl,ct,h,hn,hT,D,ht,hlen,hP,k⟩
 have hlv:lv<=T:=by have:=D.hk;lia
 have hnd:=D.lv.nd;have f0:∀ {m:bu},¬ m="level_of"->¬ m="wooden"->¬ m="weight_of"->¬ m="woods"->(fL a.d1 a.d2 a.d3 a.L).lookup m=none:=λh1 h2 h3 h4=>UY h1 h2 h3 h4;unfold qu;walk_at "m";refine ⟨a.q,a.dq,_,rfl,h.ob,f0 (by decide +kernel) (by decide +kernel) (by decide +kernel) (by decide +kernel),?_⟩;walk_at "x";refine ⟨a,n,T,ts,as,R,lv,t,x,y,rfl,ct,h,hn,hlv,D.ha,D.hb,ht,λq ks s o hso hle hq hks=>?_⟩
 have D':Dn n T ts R s o (lv+1):=by
  rcases hso with ⟨rfl,rfl⟩|⟨rfl,rfl⟩
  ·exact D
  ·exact D.swap
 have back:∀ {ts' R'},Dn n T ts' R' s o lv->Dn n T ts' R' x y lv:=λd=>by
  rcases hso with ⟨rfl,rfl⟩|⟨rfl,rfl⟩
  ·exact d
  ·exact d.swap
 have hs:((R lv s).length+1)*2^(lv+1)<=2*n:=by
  refine bz ?_ (D'.s2 lv (jR _));rw [OQ,Nat.mul_comm (2^lv) 2,← Nat.mul_assoc];exact qD _ (by lia)
 generalize eu_:upd H q (.lst (ks.map V.int))=H1;obtain ⟨S1,g1⟩:=lF eu_ hq;have h1:=h.same S1;walk_at "m";refine ⟨a.q,a.dq,_,rfl,h1.ob,f0 (by decide +kernel) (by decide +kernel) (by decide +kernel) (by decide +kernel),?_⟩;walk_at "x";refine ⟨a,n,T,ts,as,R,lv,true,rfl,ct,h1,hnd,hlen,hP.same S1,λz0 zs H2 hz0 gz pz az P2 S2=>?_⟩;have h2:=h1.U5 (hP.same S1) S2;have g2:H2 q=some (.lst (ks.map V.int)):=S2 _ _ ((hP.same S1).ne g1 (λ_ z=>nomatch z)) g1
 have hzl:zs.length<=ts.length:=by
  have:=GC (l:=zs.map zP) (m:=ts.map Ti.key) az.1 λp hp=>by
   obtain ⟨t,t1,_,_,t4⟩:=(az.2 p).mp hp;exact t4▸bp t1
  simpa using this
 refine ⟨z0,rfl,.inl ⟨⟨_,de.of gz⟩,λacc hacc=>?_⟩⟩;have nacc:=h2.DO hacc;have nLacc:a.L≠acc:=aR h2.ls hacc;refine nR (n:=zs.length) (λi ys H4=>ys=((zs.take i).filter λz=>decide (ew z.1 z.2.1 ks=2)).map j5/\H4 acc=some (.lst ys)/\b8 H2 H4) (λZ=>∃ o,Z=[o,some (.ref q)]) ⟨by simp,aG,b8.cw hacc⟩ ⟨_,rfl⟩ ?_ ?_ ?_ ?_
 ·rintro i ys H' ⟨_,h,_⟩;exact h
 ·rintro ys H3 ⟨rfl,g3,S3⟩;refine ⟨⟨_,de.of (S3 _ _ gz),by rw [ag];exact au _⟩,?_⟩;rw [bS (au _)] at g3;generalize ew':zs.filter (λz=>decide (ew z.1 z.2.1 ks=2))=ws at g3
  have hws:∀ z,z∈ws↔z∈zs/\z.1∈ks/\z.2.1∈ks:=λz=>by rw [← ew',cK,decide_eq_true_iff,ew2]
  have wnd:(ws.map zP).Nodup:=by rw [← ew'];exact (mj.map _).nodup az.1
  have h3:=h2.same S3;have P3:=P2.same S3;have q3:=S3 _ _ g2;have pw:∀ z∈ws,fH H3 z:=λz hz=>S3 _ _ (pz z ((hws z).mp hz).1)
  have st:∀ z∈ws,∃ t∈ts,t.key=zP z/\t.wd=true/\t.cT=lv/\(t.x:Int)∈R lv s/\(t.y:Int)∈R lv s:=λz hz=>by
   obtain ⟨m1,m2,m3⟩:=(hws z).mp hz;obtain ⟨t,t1,t2,t3,t4⟩:=(az.2 (zP z)).mp (bp m1);obtain ⟨e1,e2⟩:=cC t4;exact ⟨t,t1,t4,t3,t2,by rw [e1];exact (hks _).mp m2,by rw [e2];exact (hks _).mp m3⟩
  walk_at "x";unfold rW;walk_at "x"
  refine .inl ⟨⟨_,de.of g3⟩,mx (K:=K) (a:=acc) (xs:=ws.map j5) (λi Z H4=>∃ ts1 as1 R1 o5 o6,Z=[some (.ref a.q),some (.int lv),some (.ref t),some (.ref q),some (.ref acc),o5,o6]/\LV C A H4 a n T ts1 as1 R1/\Zp n T lv s o ts R (ws.map zP) i ts1 R1/\Fm (fp a) H3 H4)
   ⟨ts,as,R,_,_,rfl,h3,⟨D',rfl,rfl,λt ht h1 h2 h3 h4=>?_,λp hp=>?_,λp hp=>?_⟩,Fm.refl⟩ ?_ ?_ ?_⟩
  ·obtain ⟨z,hz,e⟩:=bw.mp ((az.2 t.key).mpr ⟨t,ht,h2,h1,rfl⟩);obtain ⟨e1,e2⟩:=cC e;exact bw.mpr ⟨z,(hws z).mpr ⟨hz,by rw [e1];exact (hks _).mpr h3,by rw [e2];exact (hks _).mpr h4⟩,e⟩
  ·obtain ⟨z,hz,rfl⟩:=bw.mp hp;exact st z hz
  ·obtain ⟨z,hz,rfl⟩:=bw.mp hp;obtain ⟨t,h1,h2,h3,_⟩:=st z hz;exact ⟨t,h1,h2,h3⟩
  ·rintro i Z H4 _ ⟨_,_,_,_,_,_,_,_,F⟩;exact de.of (F _ _ nacc g3)
  ·rintro i v Z H4 hi ⟨ts1,as1,R1,o5,o6,rfl,L4,M,F⟩;rw [aD] at hi;obtain ⟨z,hz,rfl⟩:=bx.mp hi;obtain ⟨u,u1,u2,u3,u4,u5,M'⟩:=M.step hT hs wnd (p:=zP z) (by rw [aD,hz];rfl);have hpz:=pw z (aW hz)
   have hpz4:H4 z.2.2=some (.tup [.int u.x,.int u.y]):=by
    obtain ⟨e1,e2⟩:=cC u2;rw [e1,e2];exact F _ _ (h3.xh hpz) hpz
   obtain ⟨l1,l2,_⟩:=M.dn.lv.lt u u1
   have hl1:ts1.length=ts.length:=by have:=congrArg df M.ks;simpa using this
   walk_at "m";refine ⟨a.q,a.dq,_,rfl,L4.ob,f0 (by decide +kernel) (by decide +kernel) (by decide +kernel) (by decide +kernel),?_⟩;walk_at "x";refine ⟨a,n,T,ts1,as1,R1,z.2.2,u,rfl,ct,L4,by lia,u1,M.dn.lv.nd,by lia,l2,λ_=>⟨u4,u5⟩,hpz4,by lia,λas' R' H5 L5 eR F5=>?_⟩;rw [u3,if_pos rfl] at eR;subst eR;exact ⟨_,as',_,_,_,rfl,L5,M',F.trans F5⟩
  ·rintro Z H4 ⟨ts1,as1,R1,o5,o6,rfl,L4,M,F⟩;rw [ag] at M;have P4:=P3.fm h3 F;have a4:=F _ _ nacc g3;have q4:=F _ _ (h3.Uc q3) q3;have ed:(ws.map zP).drop ws.length=[]:=O5.mpr (by rw [ag];exact au _)
   have hno:∀ t∈ts1,t.wd=true->t.cT=lv->(t.x:Int)∈R1 lv s->(t.y:Int)∈R1 lv s->False:=λt h1 h2 h3 h4 h5=>by
    rw [M.rl] at h4 h5;have:=M.pend t h1 h2 h3 h4 h5;rw [ed] at this;cases this
   have hl1:ts1.length=ts.length:=by have:=congrArg df M.ks;simpa using this
   have hs1:((R1 lv s).length+1)*2^(lv+1)<=2*n:=by rw [M.rl];exact hs
   have hks1:∀ z,z∈ks↔z∈R1 lv s:=by rw [M.rl];exact hks
   walk_at "x";unfold rX;walk_at "m";refine ⟨a.q,a.dq,_,rfl,L4.ob,f0 (by decide +kernel) (by decide +kernel) (by decide +kernel) (by decide +kernel),?_⟩;walk_at "x";refine ⟨a,n,T,ts1,as1,R1,lv,false,rfl,ct,L4,M.dn.lv.nd,by lia,P4,λz5 zs3 H5 hz5 gz5 pz5 az5 P5 S5=>?_⟩;have L5:=L4.U5 P4 S5;have a5:H5 acc=some (.lst (ws.map j5)):=S5 _ _ (P4.ne a4 (λ_ z=>nomatch z)) a4;have q5:H5 q=some (.lst (ks.map V.int)):=S5 _ _ (P4.ne q4 (λ_ z=>nomatch z)) q4;have nqa:q≠acc:=aR g2 hacc;have n5a:z5≠acc:=Ne.symm (aR a4 hz5);have n5f:=L4.DO hz5;have n3:(zs3.map zP).Nodup:=az5.1
   have hcnt:ws.length+zs3.length<=ts.length:=by
    have:=GC (l:=ws.map zP++zs3.map zP) (m:=ts1.map Ti.key) (fZ.mpr ⟨wnd,n3,λp hp p' hp' e=>by
     subst e;obtain ⟨t,t1,t2,t3⟩:=M.all p hp;obtain ⟨t',s1,_,s3,s4⟩:=(az5.2 p).mp hp';rw [qV M.dn.lv.nd t1 s1 (t2.trans s4.symm),s3] at t3
     cases t3⟩) λp hp=>by
      rcases aQ.mp hp with hp|hp
      ·obtain ⟨t,t1,t2,_⟩:=M.all p hp;exact t2▸bp t1
      ·obtain ⟨t,t1,_,_,t4⟩:=(az5.2 p).mp hp;exact t4▸bp t1
    simp at this;lia
   -- from the beginning to here
   have F5:Fm (Pt::fp a) H H5:=λb o hb e=>by
    rw [ax,not_or] at hb;exact S5 _ _ hb.1 (F _ _ hb.2 (S3 _ _ (S2 _ _ hb.1 (S1 _ _ e))))
   have fr:∀ {b:af},H5 b=none->H b=none:=λ{b} e=>F5.free (λz=>by
    rcases ax.mp z with z|z
    ·obtain ⟨ps,q⟩:=P5.tbl;rw [z,q] at e;cases e
    ·exact L5.DO e z) e
   have hacc0:H acc=none:=by
    cases z:H acc with
    | none=>rfl
    | some u =>
     have:H1 acc=some u:=S1 _ _ z
     by_cases c:acc=Pt
     ·obtain ⟨ps,q⟩:=P2.tbl;rw [← c,hacc] at q;cases q
     ·rw [S2 _ _ c this] at hacc;cases hacc
   have Lf:∀ {H6},Fm (acc::fp a) H5 H6->H6 q=some (.lst (ks.map V.int)):=λF=>F _ _ (λz=>(ax.mp z).elim nqa (L5.Uc q5)) q5
   -- the step told
   have told:∀ {ts2 as2 R2 H6} {rs:List Zt}(f:V),LV C A H6 a n T ts2 as2 R2->vB Pt H6->Fm (acc::fp a) H5 H6->H6 acc=some (.lst (rs.map j5))->(∀ z∈rs,fH H6 z)->rs.length<99->ts2.map Ti.key=ts.map Ti.key->(f=.non/\Dn n T ts2 R2 x y lv\/f≠.non/\Lv n T ts2 R2/\Jn ts2 R2) ->
     ∀ G:VK,(∀ v H7,(∀ p,H7 p=none->Q (.ref p) (upd H7 p (.tup [.int lv,.ref q,v,f])))->G v H7)->oe K [.ref acc] H6 G:=λ{ts2 as2 R2 H6 rs} f L6 P6 F6 g6 p6 hl6 hk hf G kG=>by
    have fr6:∀ {b:af},H6 b=none->H b=none:=λ{b} e=>fr (F6.free (λz=>by
     rcases ax.mp z with z|z
     ·rw [z,g6] at e;cases e
     ·exact L6.DO e z) e)
    refine ⟨acc,rs.map (λz=>([z.1,z.2.1],z.2.2)),[false],rfl,by rw [bN];exact de.of g6,λz hz=>let ⟨u,hu,e⟩:=bw.mp hz;e▸⟨_,p6 u hu,.int _ (.int _ .nil)⟩,by rw [ag];lia,λl rs' hl _ _=>kG _ _ λp hp=>?_⟩;have S7:=b8.cw (o:=.lst (rs'.map qc)) hl;have g7:(upd H6 l (.lst (rs'.map qc))) l=some (.lst (rs'.map qc)):=aG;generalize upd H6 l (.lst (rs'.map qc))=H7 at S7 g7 hp;have S8:=b8.cw (o:=.tup [.int lv,.ref q,.ref l,f]) hp;have S78:=S7.trans S8;exact k ts2 as2 R2 _ ⟨p,q,l,lv,rs'.map qc,f⟩ (fr6 (S7.free hp)) (fr6 hl) ⟨aG,S8 _ _ g7⟩ (L6.same S78) (P6.same S78) (F5.skip ((F6.mono λb hb=>(ax.mp hb).elim (λz=>z▸av) λz=>ak _ (ak _ z)).trans (Fm.of S78)) hacc0) hk hf
   refine ⟨z5,rfl,.inl ⟨⟨_,de.of gz5⟩,mx (K:=K) (a:=z5) (xs:=zs3.map j5) (λi Z H6=>∃ ts2 as2 rs o5 o6,Z=[some (.ref a.q),some (.int lv),some (.ref t),some (.ref q),some (.ref acc),o5,o6]/\LV C A H6 a n T ts2 as2 R1/\vB Pt H6/\Ox n T lv s o ts R1 (zs3.map zP) i ts2/\H6 acc=some (.lst (rs.map j5))/\(∀ z∈rs,fH H6 z)/\rs.length<=ws.length+i/\Fm (acc::fp a) H5 H6)
    ⟨ts1,as1,ws,_,_,rfl,L5,P5,⟨M.dn,M.ks,λh x y hx hy h1 h2=>M.dn.full hno h hx hy h1 h2,λp hp=>?_,λt h1 h2 h3=>.inl ?_⟩,a5,λz hz=>S5 _ _ (P4.ne (F _ _ (h3.xh (pw z hz)) (pw z hz)) (λ_ z=>nomatch z)) (F _ _ (h3.xh (pw z hz)) (pw z hz)),au _,Fm.refl⟩ ?_ ?_ ?_⟩⟩
   ·obtain ⟨t,t1,t2,t3,t4⟩:=(az5.2 p).mp hp;exact ⟨t,t1,t4,t3,t2⟩
   ·exact (az5.2 t.key).mpr ⟨t,h1,h3,h2,rfl⟩
   ·rintro i Z H6 _ ⟨_,_,_,_,_,_,_,_,_,_,_,_,F6⟩;exact de.of (F6 _ _ (λz=>(ax.mp z).elim n5a n5f) gz5)
   ·rintro i v Z H6 hi ⟨ts2,as2,rs,o5,o6,rfl,L6,P6,N,g6,p6,hl6,F6⟩;rw [aD] at hi;obtain ⟨z,hz,rfl⟩:=bx.mp hi;have hilt:i<zs3.length:=(aB.mp hz).1
    have hpi:(zs3.map zP)[i]?=some (zP z):=by rw [aD,hz];rfl
    have hz5:=pz5 z (aW hz);have hz6:H6 z.2.2=some (.tup [.int z.1,.int z.2.1]):=F6 _ _ (λe=>(ax.mp e).elim (je hz5 a5) (L5.xh hz5)) hz5
    have hl2:ts2.length=ts.length:=by have:=congrArg df N.ks;simpa using this
    walk_at "x";refine ⟨z.2.2,q,z.1,z.2.1,ks,rfl,hz6,Lf F6,λH7 S7=>?_⟩;have L7:=L6.same S7;have P7:=P6.same S7;have F7:=F6.trans (Fm.of S7);have g7:=S7 _ _ g6;have hz7:=S7 _ _ hz6;have p7:∀ z∈rs,fH H7 z:=λz hz=>S7 _ _ (p6 z hz);walk_at "x";refine tV (λc=>?_) λc=>?_
    ·have c:ew z.1 z.2.1 ks=1:=by have:=lT.mp c;lia
     have c:=ew1.mp c;rw [hks1,hks1] at c;obtain ⟨u,u1,u2,u3,u4,u5⟩:=N.one n3 hpi c;obtain ⟨l1,l2,l3⟩:=N.dn.lv.lt u u1;obtain ⟨e1,e2⟩:=cC u2;walk_at "m";refine ⟨a.q,a.dq,_,rfl,L7.ob,f0 (by decide +kernel) (by decide +kernel) (by decide +kernel) (by decide +kernel),?_⟩;walk_at "x";refine ⟨a,n,T,ts2,as2,R1,z.2.2,u,rfl,ct,L7,by lia,u1,N.dn.lv.nd,by lia,l2,l3,u3,by rw [e1,e2];exact hz7,by lia,λas' H8 L8 F8=>?_⟩;walk_at "x";refine told (rs:=rs) (.ref z.2.2) L8 (P7.fm L7 F8) (F7.trans F8.tail) (F8 _ _ nacc g7) (λz hz=>F8 _ _ (L7.xh (p7 z hz)) (p7 z hz)) (by lia) (by rw [ma (f:=Ti.xr) (λ_=>rfl)];exact N.ks) (.inr ⟨(λz=>nomatch z),u4,u5⟩) _ λv H9 kk=>?_;walk_at "x";exact ⟨bD (m:=4) (au 4),kk⟩
    ·walk_at "x";have c1:¬ ew z.1 z.2.1 ks=1:=λe=>c (by rw [e];rfl);refine tV (λc=>?_) λc=>?_
     ·have c:ew z.1 z.2.1 ks=2:=by have:=lT.mp c;lia
      have c:=ew2.mp c;rw [hks1,hks1] at c;obtain ⟨u,u1,u2,u3,N'⟩:=N.two hT hs1 n3 hpi c.1 c.2;obtain ⟨l1,l2,l3⟩:=N.dn.lv.lt u u1;obtain ⟨e1,e2⟩:=cC u2;walk_at "m";refine ⟨a.q,a.dq,_,rfl,L7.ob,f0 (by decide +kernel) (by decide +kernel) (by decide +kernel) (by decide +kernel),?_⟩;walk_at "x";refine ⟨a,n,T,ts2,as2,R1,z.2.2,u,rfl,ct,L7,by lia,u1,N.dn.lv.nd,by lia,l2,(λe=>by rw [u3] at e;cases e),by rw [e1,e2];exact hz7,by lia,λas' R' H8 L8 eR F8=>?_⟩;rw [u3,if_neg (by decide)] at eR;subst eR;have g8:=F8 _ _ nacc g7;have hz8:=F8 _ _ (L7.xh hz7) hz7;walk_at "x";refine ⟨.inl ⟨rfl,_,de.of g8⟩,?_⟩;walk_at "x";refine rQ g8 (ee (m:=100) (by rw [ag];lia)) ?_
      have ne:∀ {b:af}{o:HO},H8 b=some o->(∀ xs,o≠.lst xs)->(upd H8 acc (.lst (rs.map j5++[.ref z.2.2]))) b=some o:=λ{b o} e hno=>by rw [aI];exact e;rintro rfl;rw [g8] at e;cases e;exact hno _ rfl
      refine ⟨_,as',rs++[z],_,_,rfl,L8.app g8 (by intro i r e;cases rs<;>cases e) nacc nLacc,(P7.fm L7 F8).keep λb o _ h2 _ _ e=>ne e h2,N',by rw [aG,aT];rfl,λz' hz'=>ne ?_ (λ_ z=>nomatch z),by rw [bq];simp;lia,(F7.trans F8.tail).trans (Fm.upd av)⟩
      rcases aQ.mp hz' with hz'|hz'
      ·exact F8 _ _ (L7.xh (p7 z' hz')) (p7 z' hz')
      ·rw [aA.mp hz'];exact hz8
     ·have c2:¬ ew z.1 z.2.1 ks=2:=λe=>c (by rw [e];rfl);walk_at "x"
      have c3:z.1∉R1 lv s/\z.2.1∉R1 lv s:=by
       rw [← hks1,← hks1];rw [ew1] at c1;rw [ew2] at c2
       by_cases d1:z.1∈ks<;>by_cases d2:z.2.1∈ks<;>simp_all
      exact ⟨ts2,as2,rs,_,_,rfl,L7,P7,N.zero n3 hpi c3.1 c3.2,g7,p7,by lia,F7⟩
   ·rintro Z H6 ⟨ts2,as2,rs,o5,o6,rfl,L6,P6,N,g6,p6,hl6,F6⟩;rw [ag] at N hl6;walk_at "x";refine told (rs:=rs) .non L6 P6 F6 g6 p6 (by lia) N.ks (.inl ⟨rfl,back (N.fin (by rw [ag];exact au _))⟩) _ λv H9 kk=>?_;walk_at "x";exact ⟨bD (m:=4) (au 4),kk⟩
 ·rintro i ys H' hi ⟨e,h,S'⟩;exact ⟨_,_,de.of (S' _ _ gz),by rw [aD,aC hi];rfl⟩
 ·rintro i ys σ' H' v H3 hi ⟨rfl,hl,S'⟩ ⟨o',rfl⟩ ⟨e2,hx⟩;subst e2;have hxi:=hx _ (de.of (S' _ _ gz));rw [aD,aC hi] at hxi;have hv:=(a7 hxi).symm;subst hv
  have et:zs.take (i+1)=zs.take i++[zs[i]]:=by rw [d9,aC hi];rfl
  walk_at "x";refine ⟨zs[i].2.2,q,zs[i].1,zs[i].2.1,ks,rfl,S' _ _ (pz _ (lR hi)),S' _ _ g2,λH4 S4=>?_⟩;walk_at "x";refine tV (λc=>?_) λc=>?_
  ·have c:ew zs[i].1 zs[i].2.1 ks=2:=by have:=lT.mp c;lia
   walk_at "x";refine ⟨S4 _ _ hl,ee (m:=1000) (by rw [ag];exact bI (cJ _ _) (by rw [bO];lia)),k9.mk' hi ⟨_,rfl⟩ ⟨?_,aG,λb o e=>by rw [aI (aR e hacc)];exact S4 _ _ (S' _ _ e)⟩⟩;rw [et,dk,aT];simp [c]
  ·have c:¬ ew zs[i].1 zs[i].2.1 ks=2:=λe=>c (by rw [e];rfl);refine k9.mk' hi ⟨_,rfl⟩ ⟨?_,S4 _ _ hl,S'.trans S4⟩;rw [et,dk,aT];simp [c]
end K31
namespace K31
open Rm
variable {K:aa}{C:af}{A:CA}{Pt:af}
def iJ (K:aa) (C:af) (A:CA) (Pt:af):Sp:=λvs H Q _=>∃ (a:AL) (n T:Nat) (ts:List Ti) (as:Nat->List af) (R:Nat->Nat->List Int) (t:af) (u:Ti),vs=[.ref a.q,.ref t]/\AV K C A/\LV C A H a n T ts as R/\n<=60/\T<=10/\(∀ j,2^(j+1)<=n->j<=T)/\Lv n T ts R/\Jn ts R/\u∈ts/\H t=some (.tup [.int u.x,.int u.y])/\ts.length<99/\vB Pt H /\
 ∀ (q:af) (us:List Tt) (ts':List Ti) (as':Nat->List af) (R':Nat->Nat->List Int) (H':Hp),H q=none->H' q=some (.lst (us.map tR))->(∀ v∈us,Fd H' v)->us.length<=1000->LV C A H' a n T ts' as' R'->Lv n T ts' R'->Jn ts' R'->ts'.map Ti.key=(ts.filter λv=>decide (v.key≠u.key)).map Ti.key->vB Pt H'->Fm (Pt::fp a) H H'->Q (.ref q) H'
theorem A1:Rn (iJ K C A Pt) (qv K C A (fM K C A) (fN K C A Pt)) Q2:=by
 rintro vs H Q E ⟨a,n,T,ts,as,R,t,u,rfl,ct,h,hn,hT10,hT,L,J,hu,ht,hlen,hP,k⟩;obtain ⟨l1,l2,l3⟩:=L.lt u hu;unfold qv;walk_at "f";refine ⟨a.q,A.bB,a.dq,_,_,rfl,h.ob,ct.lc,ct.l1,OS,?_⟩;walk_at "x";refine .inr ⟨a.d1,.int u.cT,rfl,.inr ⟨_,pk u.x u.y,t,.inl h.e1,rfl,ht,(jb (f:=λt=>V.int t.cT) L.nd hu).symm⟩,?_⟩;walk_at "f";refine ⟨a.q,A.bB,a.dq,_,_,rfl,h.ob,ct.lc,ct.l2,TZ,?_⟩;walk_at "x";refine .inr ⟨a.d2,.bl u.wd,rfl,.inr ⟨_,pk u.x u.y,t,.inl h.e2,rfl,ht,(jb (f:=λt=>V.bl t.wd) L.nd hu).symm⟩,?_⟩;walk_at "m";refine ⟨a.q,a.dq,_,rfl,h.ob,UY,?_⟩;walk_at "x";refine ⟨a,n,T,ts,as,R,t,u,rfl,ct,h,by lia,hu,L.nd,by lia,l2,by lia,l3,λhw i hi=>(L.ed i (by lia) _ _).mpr ⟨u,hu,hw,hi,.inl rfl⟩,ht,λas1 R1 H1 h1 eR F1=>?_⟩;have P1:=hP.fm h F1;have ht1:=F1 _ _ (h.xh ht) ht;walk_at "x";refine ⟨bD (m:=0) (au 0),λtr htr=>?_⟩;have S2:=b8.cw (o:=.lst []) htr;have g2:(upd H1 tr (.lst [])) tr=some (.lst []):=aG;have ntf:=h1.DO htr
 have ntP:tr≠Pt:=λz=>by
  obtain ⟨ps,q⟩:=P1.tbl;rw [z,q] at htr;cases htr
 have ntL:a.L≠tr:=aR h1.ls htr;have htr0:H tr=none:=F1.free ntf htr;generalize upd H1 tr (.lst [])=H2 at S2 g2;have h2:=h1.same S2;have P2:=P1.same S2;have ht2:=S2 _ _ ht1;have F2:Fm (Pt::fp a) H H2:=(F1.trans (Fm.of S2)).tail;generalize ef:(ts.filter λv=>decide (v.key≠u.key))=tf at h1 h2 k
 have hlf:tf.length<=ts.length:=by rw [← ef];exact cJ _ _
 walk_at "x";unfold rY
 refine Cd (λZ H3=>∃ (ts1:List Ti) (as1:Nat->List af) (R1:Nat->Nat->List Int) (us:List Tt) (lv:Int) (b:Bool),Z=[some (.ref a.q),some (.ref t),some (.int lv),some (.bl b),some (.ref tr)]/\LV C A H3 a n T ts1 as1 R1/\vB Pt H3/\H3 tr=some (.lst (us.map tR))/\(∀ v∈us,Fd H3 v/\v.q∉tr::Pt::fp a)/\Fm (tr::Pt::fp a) H2 H3/\ts1.map Ti.key=tf.map Ti.key /\
  ((b=true/\∃ kk:Nat,lv=(kk:Int)-1/\Dn n T ts1 R1 u.x u.y kk/\us.length+kk<=T+1)\/b=false/\Lv n T ts1 R1/\Jn ts1 R1/\us.length<=T+1)) (λZ _=>match Z with|[_,_,some (.int lv),_,_]=>(lv+1).toNat|_=>0) ?_ ?_
 ·refine ⟨tf,as1,R1,[],u.cT,u.wd,rfl,h2,P2,g2,(λv hv=>nomatch hv),Fm.refl,rfl,?_⟩
  cases hw:u.wd with
  | true =>
   rw [hw,if_pos rfl] at eR;subst eR
   exact .inl ⟨rfl,u.cT+1,by lia,ef▸L.drop J hu hw,by simp;lia⟩
  | false =>
   rw [hw,if_neg (by decide)] at eR;subst eR;obtain ⟨L',J'⟩:=L.YQ J hu hw;exact .inr ⟨rfl,ef▸L',ef▸J',by simp⟩
 ·rintro Z H3 ⟨ts1,as1,R1,us,lv,b,rfl,h3,P3,g3,u3,F3,hk,hc⟩;have fin:Lv n T ts1 R1->Jn ts1 R1->us.length<=T+1->Q (.ref tr) H3:=λL' J' hl=>k tr us ts1 as1 R1 H3 htr0 g3 (λv hv=>(u3 v hv).1) (by lia) h3 L' J' hk P3 (F2.skip F3 htr0);walk_at "x";refine ⟨_,rfl,?_⟩
  cases b with
  | false =>
   refine kP (kP ?_);walk_at "x"
   rcases hc with ⟨z,_⟩|⟨_,L',J',hl⟩
   ·cases z
   ·exact fin L' J' hl
  | true =>
   refine pX ?_;walk_at "x"
   obtain ⟨kk,rfl,D,hl⟩:∃ kk:Nat,lv=(kk:Int)-1/\Dn n T ts1 R1 u.x u.y kk/\us.length+kk<=T+1:=by
    rcases hc with ⟨_,h⟩|⟨z,_⟩
    ·exact h
    ·cases z
   refine tV (λc=>⟨_,PL,?_⟩) λc=>?_
   ·obtain ⟨m,rfl⟩:∃ m,kk=m+1:=⟨kk-1,by lia⟩
    rw [show ((m+1:Nat):Int)-1=(m:Int) by lia]
    have hl1:ts1.length=tf.length:=by have:=congrArg df hk;simpa using this
    walk_at "x";refine ⟨.inl ⟨rfl,_,de.of g3⟩,?_⟩;walk_at "m";refine ⟨a.q,a.dq,_,rfl,h3.ob,UY,?_⟩;walk_at "x"
    have nt3:t∉tr::Pt::fp a:=by
     simp only [ax,not_or];exact ⟨je ht2 g2,P2.ne ht2 (λ_ z=>nomatch z),h2.xh ht2⟩
    refine ⟨a,n,T,ts1,as1,R1,m,t,u.x,u.y,rfl,ct,h3,hn,hT,D,F3 _ _ nt3 ht2,by lia,P3,λts4 as4 R4 H4 v hp hq ok h4 P4 F4 hk4 hD=>?_⟩;have g4:H4 tr=some (.lst (us.map tR)):=F4 _ _ (by simp only [ax,not_or];exact ⟨ntP,ntf⟩) g3
    have nvq:v.q∉tr::Pt::fp a:=by
     simp only [ax,not_or];refine ⟨Ne.symm (aR g3 hq),λz=>?_,h3.DO hq⟩;obtain ⟨ps,q⟩:=P3.tbl;rw [z,q] at hq;cases hq
    walk_at "x";refine rQ g4 (ee (m:=100) (by rw [ag];lia)) ?_
    have ne:∀ {b:af}{o:HO},H4 b=some o->(∀ xs,o≠.lst xs)->(upd H4 tr (.lst (us.map tR++[.ref v.p]))) b=some o:=λ{b o} e hno=>by rw [aI];exact e;rintro rfl;rw [g4] at e;cases e;exact hno _ rfl
    have g5:(upd H4 tr (.lst (us.map tR++[.ref v.p]))) tr=some (.lst ((us++[v]).map tR)):=by rw [aG,aT];rfl
    have h5:LV C A (upd H4 tr (.lst (us.map tR++[.ref v.p]))) a n T ts4 as4 R4:=h4.app g4 (by intro i r e;cases us<;>cases e) ntf ntL;have P5:vB Pt (upd H4 tr (.lst (us.map tR++[.ref v.p]))):=P4.keep λb o _ h2 _ _ e=>ne e h2
    have ok5:Fd (upd H4 tr (.lst (us.map tR++[.ref v.p]))) v:=⟨ne ok.1 (λ_ z=>nomatch z),by rw [aI λz=>nvq (by rw [z];exact av)];exact ok.2⟩
    have u5:∀ w∈us,Fd (upd H4 tr (.lst (us.map tR++[.ref v.p]))) w:=λw hw=>by
     obtain ⟨⟨o1,o2⟩,o3⟩:=u3 w hw
     have n1:w.p∉Pt::fp a:=by simp only [ax,not_or];exact ⟨P3.ne o1 (λ_ z=>nomatch z),h3.xh o1⟩
     refine ⟨ne (F4 _ _ n1 o1) (λ_ z=>nomatch z),?_⟩;rw [aI λz=>o3 (by rw [z];exact av)];exact F4 _ _ (λz=>o3 (ak _ z)) o2
    have F5:Fm (tr::Pt::fp a) H2 (upd H4 tr (.lst (us.map tR++[.ref v.p]))):=(F3.trans F4.tail).trans (Fm.upd av);generalize upd H4 tr (.lst (us.map tR++[.ref v.p]))=H5 at g5 h5 P5 ok5 u5 F5 ne;walk_at "x";refine pY (de.of g5) (v:=.ref v.p) ?_ ?_
    ·rw [aT];exact Pr _ _
    refine jM (mR.of ok5.1) (fG (j:=3) rfl rfl) ?_;walk_at "x";refine ⟨⟨ts4,as4,R4,us++[v],(m:Int)-1,decide (v.f=.non),rfl,h5,P5,g5,λw hw=>?_,F5,hk4.trans hk,?_⟩,?_⟩
    ·rcases aQ.mp hw with hw|hw
     ·exact ⟨u5 w hw,(u3 w hw).2⟩
     ·rw [aA.mp hw];exact ⟨ok5,nvq⟩
    ·rcases hD with ⟨e,D4⟩|⟨e,L4,J4⟩
     ·exact .inl ⟨decide_eq_true e,m,rfl,D4,by simp;lia⟩
     ·exact .inr ⟨decide_eq_false e,L4,J4,by simp;lia⟩
    ·show ((m:Int)-1+1).toNat<((m:Int)+1).toNat
     lia
   ·walk_at "x"
    have:kk=0:=by lia
    subst this;exact fin D.lv D.done (by lia)
end K31
namespace K31
open Rm
variable {K:aa}{C:af}{A:CA}{Pt:af}
theorem LH {C:af}{sp:Sp}{dvs:List V}{E:XK}{t:TA}{Z:L2.St}{H:Hp}{Q:VK}(h:t Z H λvs H1=>∀ x dx,H1 x=none->H1 dx=none->dx≠x->sp (.ref x::(vs++dvs)) (upd (upd H1 dx (.own x)) x (.ins C dx [])) (λv H2=>v=.non/\Q (.ref x) H2) E):Iz C sp dvs E t Z H Q:=h
theorem G1 {Z:L2.St}{H:Hp}{Q:VK}(h:∀ p,H p=none->Q (.ref p) (upd H p (.dT []))):y6 Z H Q:=h
theorem Top.small {n:Int}{j:Nat}(h:Top n j) (hn:n<=200):j<8:=by
 rcases h.1 with z|z
 ·lia
 ·by_cases c:j<8
  ·exact c
  ·have:(2:Int)^8<=2^j:=by
    have e:(2:Int)^j=2^(j-8)*2^8:=by rw [← Int.pow_add];congr 1;lia
    have h1:(1:Int)<=2^(j-8):=JJ (j-8);rw [e];have:=Int.mul_le_mul_of_nonneg_right h1 (show (0:Int)<=2^8 by decide);lia
   have e8:(2:Int)^8=256:=by decide
   lia
theorem WA.out {C:af}{H:Hp}{p dx l c:af}{n:Nat}{as:List af}{R:Nat->List Int}{o:HO}(W:WA C H p dx l n as R) (h1:p≠c) (h2:l≠c) (h3:∀ a∈as,a≠c):WA C (upd H c o) p dx l n as R :=
 ⟨by rw [aI h1];exact W.ob,by rw [aI h2];exact W.rl,W.len,λi a h=>by rw [aI (h3 a (aW h))];exact W.at_ i a h,W.ne⟩
def fi (K:aa) (C:af) (A:CA):Sp:=λvs H Q _=>∃ (q dq:af) (n:Nat),vs=[.ref q,.int n]/\H q=some (.ins A.bB dq [])/\AV K C A/\1<=n/\n<=200 /\
 ∀ (a:AL) (T:Nat) (as:Nat->List af) (H':Hp),a.q=q->a.dq=dq->LV C A H' a n T [] as (λ_ i=>[(i:Int)])->Top n T->bH q H H'->(∀ b∈a.L::fp a,H b=none)->Q .non H'
theorem vA:Rn (fi K C A) (lW K C A (gh K C) (nE K C)) lH:=by
 rintro vs H Q E ⟨q,dq,n,rfl,hq,ct,hn1,hn2,k⟩;unfold lW;walk_at "x1";refine nK (G1 λd1 hd1=>?_);walk_at "x";have nq1:q≠d1:=aR hq hd1;refine ⟨q,A.bB,dq,[],rfl,by rw [aI nq1];exact hq,ct.lc,ct.l1,by decide,?_⟩;have g1:(upd (upd H d1 (.dT [])) q (.ins A.bB dq (eI "level_of" (.ref d1) []))) q=some (.ins A.bB dq [("level_of",.ref d1)]):=aG
 have e1:(upd (upd H d1 (.dT [])) q (.ins A.bB dq (eI "level_of" (.ref d1) []))) d1=some (.dT []):=by rw [aI (Ne.symm nq1)];exact aG
 have B1:bH q H (upd (upd H d1 (.dT [])) q (.ins A.bB dq (eI "level_of" (.ref d1) []))):=λb o e hb=>by rw [aI hb,aI (aR e hd1)];exact e
 generalize upd (upd H d1 (.dT [])) q (.ins A.bB dq (eI "level_of" (.ref d1) []))=H1 at g1 e1 B1;dsimp only;walk_at "x1";refine nK (G1 λd2 hd2=>?_);walk_at "x";have nq2:q≠d2:=aR g1 hd2;refine ⟨q,A.bB,dq,_,rfl,by rw [aI nq2];exact g1,ct.lc,ct.l2,by show 1<1000;decide,?_⟩;rw [eU (by decide +kernel)];have g2:(upd (upd H1 d2 (.dT [])) q (.ins A.bB dq (("level_of",.ref d1)::eI "wooden" (.ref d2) []))) q=some (.ins A.bB dq [("level_of",.ref d1),("wooden",.ref d2)]):=aG
 have e2:(upd (upd H1 d2 (.dT [])) q (.ins A.bB dq (("level_of",.ref d1)::eI "wooden" (.ref d2) []))) d2=some (.dT []):=by rw [aI (Ne.symm nq2)];exact aG
 have B2:bH q H1 (upd (upd H1 d2 (.dT [])) q (.ins A.bB dq (("level_of",.ref d1)::eI "wooden" (.ref d2) []))):=λb o e hb=>by rw [aI hb,aI (aR e hd2)];exact e
 have Ow:d1≠d2:=aR e1 hd2;generalize upd (upd H1 d2 (.dT [])) q (.ins A.bB dq (("level_of",.ref d1)::eI "wooden" (.ref d2) []))=H2 at g2 e2 B2;dsimp only;walk_at "x1";refine nK (G1 λd3 hd3=>?_);walk_at "x";have nq3:q≠d3:=aR g2 hd3;refine ⟨q,A.bB,dq,_,rfl,by rw [aI nq3];exact g2,ct.lc,ct.l3,by show 2<1000;decide,?_⟩;rw [eU (by decide +kernel),eU (by decide +kernel)];have g3:(upd (upd H2 d3 (.dT [])) q (.ins A.bB dq (("level_of",.ref d1)::("wooden",.ref d2)::eI "weight_of" (.ref d3) []))) q=some (.ins A.bB dq [("level_of",.ref d1),("wooden",.ref d2),("weight_of",.ref d3)]):=aG
 have e3:(upd (upd H2 d3 (.dT [])) q (.ins A.bB dq (("level_of",.ref d1)::("wooden",.ref d2)::eI "weight_of" (.ref d3) []))) d3=some (.dT []):=by rw [aI (Ne.symm nq3)];exact aG
 have B3:bH q H2 (upd (upd H2 d3 (.dT [])) q (.ins A.bB dq (("level_of",.ref d1)::("wooden",.ref d2)::eI "weight_of" (.ref d3) []))):=λb o e hb=>by rw [aI hb,aI (aR e hd3)];exact e
 have Sq:d2≠d3:=aR e2 hd3;have RU:d1≠d3:=aR (B2 _ _ e1 (Ne.symm nq1)) hd3;generalize upd (upd H2 d3 (.dT [])) q (.ins A.bB dq (("level_of",.ref d1)::("wooden",.ref d2)::eI "weight_of" (.ref d3) []))=H3 at g3 e3 B3;have B:=(B1.trans B2).trans B3;have f1:=B3 _ _ (B2 _ _ e1 (Ne.symm nq1)) (Ne.symm nq1);have f2:=B3 _ _ e2 (Ne.symm nq2)
 have fr:∀ {b:af},b≠q->H3 b=none->H b=none:=λ{b} hb e=>by
  cases z:H b with
  | none=>rfl
  | some o=>rw [B _ _ z hb] at e;cases e
 have fr2:∀ {b:af},b≠q->H2 b=none->H b=none:=λ{b} hb e=>by
  cases z:H b with
  | none=>rfl
  | some o=>rw [(B1.trans B2) _ _ z hb] at e;cases e
 have fr1:∀ {b:af},b≠q->H1 b=none->H b=none:=λ{b} hb e=>by
  cases z:H b with
  | none=>rfl
  | some o=>rw [B1 _ _ z hb] at e;cases e
 dsimp only;refine nK ?_;walk_at "x";refine ⟨n,rfl,λj hj=>?_⟩;have hj8:=hj.small (by lia);walk_at "x";refine ⟨by lia,by lia,λacc hacc=>?_⟩
 have e0:(((j:Int)+1)).toNat=j+1:=by lia
 rw [e0];refine nR (n:=j+1) (λt ys H4=>H4 acc=some (.lst ys)/\b8 H3 H4/\∃ (ws:List (af×af×af)) (as:Nat->List af),ys=ws.map (λw=>V.ref w.1)/\ws.length=t/\(ws.map (·.2.2)).Nodup/\∀ (i:Nat) w,ws[i]?=some w->WA C H4 w.1 w.2.1 w.2.2 n (as i) (λi=>[(i:Int)])/\H3 w.2.2=none/\w.1≠acc/\w.2.2≠acc/\∀ b∈as i,b≠acc) (λZ=>∃ o,Z=[o,some (.int n)]) ⟨aG,b8.cw hacc,[],λ_=>[],rfl,rfl,xv,λi w hw=>nomatch hw⟩ ⟨_,rfl⟩ ?_ ?_ ?_ ?_
 ·rintro t ys H4 ⟨h,_⟩;exact h
 ·rintro ys H4 ⟨g4,S4,ws,as,rfl,hl,nd,hw⟩;refine ⟨au _,?_⟩;walk_at "x";refine ⟨q,A.bB,dq,_,rfl,S4 _ _ g3,ct.lc,ct.l4,by show 3<1000;decide,?_⟩;rw [eU (by decide +kernel),eU (by decide +kernel),eU (by decide +kernel)]
  have naq:acc≠q:=λz=>by rw [z,g3] at hacc;cases hacc
  have hb:bH q H4 (upd H4 q (.ins A.bB dq (("level_of",.ref d1)::("wooden",.ref d2)::("weight_of",.ref d3)::eI "woods" (.ref acc) []))):=bH.upd
  have nl:∀ {b:af}{o:HO},H4 b=some o->(∀ x y z,o≠.ins x y z)->b≠q:=λ{b o} e hno z=>by rw [z,S4 _ _ g3] at e;cases e;exact hno _ _ _ rfl
  refine k ⟨q,dq,d1,d2,d3,acc,ws⟩ j as _ rfl rfl ⟨aG,hb _ _ (S4 _ _ f1) (Ne.symm nq1),hb _ _ (S4 _ _ f2) (Ne.symm nq2),hb _ _ (S4 _ _ e3) (Ne.symm nq3),hb _ _ g4 naq,hl,λi w hi=>?_,λ_ _=>Wd.start n,hn1,Ow,RU,Sq,nd,λw hm=>?_⟩ hj (λb o e hne=>hb _ _ (S4 _ _ (B _ _ e hne)) hne) λb hb=>?_
  ·obtain ⟨W,_⟩:=hw i w hi;refine W.out (λz=>?_) (nl W.rl (λ_ _ _ z=>nomatch z)) λa ha=>?_
   ·have:=W.ob;rw [z,S4 _ _ g3] at this;cases this
   ·obtain ⟨i,hi⟩:=bF.mp ha;exact nl (W.at_ i a hi) (λ_ _ _ z=>nomatch z)
  ·obtain ⟨i,hi⟩:=bF.mp hm;exact Ne.symm (hw i w hi).2.2.2.1
  ·simp only [fp,ax,bw] at hb
   rcases hb with rfl|rfl|rfl|rfl|⟨w,hm,rfl⟩
   ·exact fr naq hacc
   ·exact hd1
   ·exact fr1 (Ne.symm nq2) hd2
   ·exact fr2 (Ne.symm nq3) hd3
   ·obtain ⟨i,hi⟩:=bF.mp hm;obtain ⟨W,h3,_⟩:=hw i w hi;exact fr (nl W.rl (λ_ _ _ z=>nomatch z)) h3
 ·rintro t ys H4 ht _;exact ht
 ·rintro t ys σ' H4 x H5 ht ⟨g4,S4,ws,as,rfl,hl,nd,hw⟩ ⟨o,rfl⟩ ⟨eH,ex⟩;subst eH ex;walk_at "x";refine pX ?_;refine LH ?_;walk_at "x";intro xw dxw hx hdx hne
  have T0:b8 H5 (upd (upd H5 dxw (.own xw)) xw (.ins C dxw [])):=λb o e=>by rw [aI (aR e hx),aI (aR e hdx)];exact e
  refine ⟨xw,dxw,n,rfl,aG,ct.w,by lia,λl bs H6 W hl6 B6=>⟨rfl,?_⟩⟩;have T:b8 H5 H6:=λb o e=>B6 _ _ (T0 _ _ e) (aR e hx);have hl5:=T0.free hl6;have nxa:xw≠acc:=Ne.symm (aR g4 hx);have nla:l≠acc:=Ne.symm (aR g4 hl5)
  have naa:∀ a∈bs,a≠acc:=λa ha z=>by
   obtain ⟨i,hi⟩:=bF.mp ha;have h1:=W.at_ i a hi;rw [z,T _ _ g4] at h1;cases ws<;>cases h1
  have SA:b8 H3 (upd H6 acc (.lst (ws.map (λw=>V.ref w.1)++[.ref xw]))):=λb o e=>by rw [aI (aR e hacc)];exact T _ _ (S4 _ _ e)
  refine ⟨T _ _ g4,ee (m:=100) (by rw [ag];lia),k9.mk' ht ⟨_,rfl⟩ ⟨aG,SA,ws++[(xw,dxw,l)],(λi=>if i=t then bs else as i),by rw [aT];rfl,by rw [bq,hl];rfl,?_,λi w hi=>?_⟩⟩
  ·rw [aT,fZ];refine ⟨nd,by simp,λp hp q hq e=>?_⟩;obtain ⟨w,hm,rfl⟩:=bw.mp hp;obtain ⟨i,hi⟩:=bF.mp hm;have:=(hw i w hi).1.rl;rw [AF,aA] at hq;rw [e.trans hq,hl5] at this;cases this
  ·by_cases c:i=t
   ·subst c;rw [← hl,eK (au _),Nat.sub_self] at hi;cases hi;dsimp only;rw [if_pos rfl];exact ⟨W.out nxa nla naa,S4.free hl5,nxa,nla,naa⟩
   ·have hi':i<t:=by
     have:=(aB.mp hi).1;rw [bq,hl] at this;simp at this;lia
    rw [eX (by lia)] at hi;dsimp only;rw [if_neg c];obtain ⟨W',m1,m2,m3,m4⟩:=hw i w hi;exact ⟨(W'.same T).out m2 m3 m4,m1,m2,m3,m4⟩
end K31
namespace K31
open Rm
variable {K:aa}{C:af}{A:CA}{Pt:af}
theorem yb {K:aa}{ta tv:TE}{rd:V->V->Hp->VK->Prop}{f:bu}{D:tN}{Z:L2.St}{H:Hp}(h:ta Z H λx H1=>∃ a C dx fs v,x=.ref a/\H1 a=some (.ins C dx fs)/\DX K C/\dY K C f/\fs.lookup f=some v /\
 tv Z H1 λy H2=>rd v y H2 λz H3=>∃ dx' fs',H3 a=some (.ins C dx' fs')/\fs'.length<1000/\D.nx Z (upd H3 a (.ins C dx' (eI f z fs')))):vc K ta tv rd f D Z H:=h
def fK (n:Nat) (q w:af) (c1 c2 c3 c4:Int):List (bu×V):=eI "lost" (.int c4) (eI "risen" (.int c3) (eI "looked" (.int c2) (eI "came" (.int c1) (eI "wood" (.ref w) (eI "levels" (.ref q) (eI "n" (.int n) []))))))
section
variable {n:Nat}{q w:af}{c1 c2 c3 c4 c:Int}
theorem Rp {f:bu}{v:V}:eI f v []=[(f,v)]:=rfl
theorem oq:fK n q w c1 c2 c3 c4=([("n",.int n),("levels",.ref q),("wood",.ref w),("came",.int c1),("looked",.int c2),("risen",.int c3),("lost",.int c4)]:List (bu×V)):=by
 unfold fK
 repeat (first|rw [Rp]|rw [eU (by decide +kernel)])
theorem fK1:(fK n q w c1 c2 c3 c4).lookup ("n":bu)=some (.int n):=by rw [oq];exact uF
theorem WI:(fK n q w c1 c2 c3 c4).lookup ("levels":bu)=some (.ref q):=by rw [oq,fX (by decide +kernel)];exact uF
theorem fK3:(fK n q w c1 c2 c3 c4).lookup ("wood":bu)=some (.ref w):=by rw [oq,fX (by decide +kernel),fX (by decide +kernel)];exact uF
theorem fK4:(fK n q w c1 c2 c3 c4).lookup ("came":bu)=some (.int c1):=by rw [oq,fX (by decide +kernel),fX (by decide +kernel),fX (by decide +kernel)];exact uF
theorem fK5:(fK n q w c1 c2 c3 c4).lookup ("looked":bu)=some (.int c2):=by rw [oq,fX (by decide +kernel),fX (by decide +kernel),fX (by decide +kernel),fX (by decide +kernel)];exact uF
theorem fK6:(fK n q w c1 c2 c3 c4).lookup ("risen":bu)=some (.int c3):=by rw [oq,fX (by decide +kernel),fX (by decide +kernel),fX (by decide +kernel),fX (by decide +kernel),fX (by decide +kernel)];exact uF
theorem fK7:(fK n q w c1 c2 c3 c4).lookup ("lost":bu)=some (.int c4):=by rw [oq,fX (by decide +kernel),fX (by decide +kernel),fX (by decide +kernel),fX (by decide +kernel),fX (by decide +kernel),fX (by decide +kernel)];exact uF
theorem FU {m:bu}(h1:¬ m="n":=by decide +kernel) (h2:¬ m="levels":=by decide +kernel) (h3:¬ m="wood":=by decide +kernel) (h4:¬ m="came":=by decide +kernel) (h5:¬ m="looked":=by decide +kernel) (h6:¬ m="risen":=by decide +kernel) (h7:¬ m="lost":=by decide +kernel):(fK n q w c1 c2 c3 c4).lookup m=none:=by rw [oq,fX h1,fX h2,fX h3,fX h4,fX h5,fX h6,fX h7];rfl
theorem Zo:(fK n q w c1 c2 c3 c4).length<1000:=by rw [oq];show 7<1000;decide
theorem fKp4:eI "came" (.int c) (fK n q w c1 c2 c3 c4)=fK n q w c c2 c3 c4:=by rw [oq,oq,eU (by decide +kernel),eU (by decide +kernel),eU (by decide +kernel),x9]
theorem fKp5:eI "looked" (.int c) (fK n q w c1 c2 c3 c4)=fK n q w c1 c c3 c4:=by rw [oq,oq,eU (by decide +kernel),eU (by decide +kernel),eU (by decide +kernel),eU (by decide +kernel),x9]
theorem fKp6:eI "risen" (.int c) (fK n q w c1 c2 c3 c4)=fK n q w c1 c2 c c4:=by rw [oq,oq,eU (by decide +kernel),eU (by decide +kernel),eU (by decide +kernel),eU (by decide +kernel),eU (by decide +kernel),x9]
theorem fKp7:eI "lost" (.int c) (fK n q w c1 c2 c3 c4)=fK n q w c1 c2 c3 c:=by rw [oq,oq,eU (by decide +kernel),eU (by decide +kernel),eU (by decide +kernel),eU (by decide +kernel),eU (by decide +kernel),eU (by decide +kernel),x9]
end
theorem Top.lo {n T:Nat}(h:Top n T):2^(T+1)<=n\/T=0:=by
 rcases h.1 with z|z
 ·exact .inr z
 ·left
  have:((2^(T+1):Nat):Int)=2*(2:Int)^T:=by rw [OQ,Int.natCast_mul,Int.natCast_pow];exact Int.mul_comm _ _
  lia
theorem Top.hi {n T:Nat}(h:Top n T):∀ j,2^(j+1)<=n->j<=T:=λj hj=>by
 have h2:=h.2
 by_cases c:j<=T
 ·exact c
 ·have h3:2^(T+2)<=2^(j+1):=Sk (by decide) (by lia)
  have:((2^(T+2):Nat):Int)=4*(2:Int)^T:=by push_cast;rw [DW,DW];lia
  lia
section
variable {C:af}{A:CA}{H H':Hp}{a:AL}{n T:Nat}{ts:List Ti}{as:Nat->List af}{R:Nat->Nat->List Int}{p dx:af}
theorem LV.inst {c d:af}{fs:List (bu×V)}{o:HO}(h:LV C A H a n T ts as R) (hp:H p=some (.ins c d fs)) (h1:fs.lookup ("rows":bu)=none) (h2:fs.lookup ("woods":bu)=none):LV C A (upd H p o) a n T ts as R :=
 h.keep (X:=[p]) (Fm.upd av) (λx f e _ hx hm=>by
  rw [aA.mp hm] at e hx
  rcases hx with z|⟨w,hw,z⟩
  ·have:=h.ob;rw [← z,hp] at this;cases this;rw [UX] at h2;cases h2
  ·obtain ⟨i,_,hi⟩:=h.at hw;have:=(h.wa i w hi).ob;rw [← z,hp] at this;cases this
   rw [jt] at h1;cases h1) (λb hb hm=>h.outI hp (aA.mp hm▸hb)) (λhm=>by
   have:=h.ls
   rw [aA.mp hm,hp] at this;cases this) λb r _ e hm=>by rw [aA.mp hm,hp] at e;cases e
structure KP (C:af) (A:CA) (H:Hp) (p dx:af) (a:AL) (n T:Nat) (ts:List Ti) (as:Nat->List af) (R:Nat->Nat->List Int):Prop where
 ob:∃ (w:af×af×af) (c1 c2 c3 c4:Int),a.ws[0]?=some w/\H p=some (.ins A.Keeper dx (fK n a.q w.1 c1 c2 c3 c4))
 lv:LV C A H a n T ts as R
 iv:Lv n T ts R
 jn:Jn ts R
 tp:Top n T
theorem KP.same (h:KP C A H p dx a n T ts as R) (S:b8 H H'):KP C A H' p dx a n T ts as R:=by
 obtain ⟨w,c1,c2,c3,c4,hw,hp⟩:=h.ob;exact ⟨⟨w,c1,c2,c3,c4,hw,S _ _ hp⟩,h.lv.same S,h.iv,h.jn,h.tp⟩
structure KS (C:af) (A:CA) (a:AL) (n T:Nat) (as:Nat->List af) (p dx:af) (H0:Hp) (m:Nat) (fs:List (bu×V)) (H:Hp):Prop where
 g:H p=some (.ins A.Keeper dx fs)
 lv:LV C A H a n T [] as (λ_ i=>[(i:Int)])
 r:fs.lookup ("rows":bu)=none
 w:fs.lookup ("woods":bu)=none
 len:fs.length<=m
 b:bH p H0 H
theorem Da (f:bu) (v:V):∀ fs:List (bu×V),(eI f v fs).length<=fs.length+1
 | []=>au _
 | (g,x)::r=>by
  by_cases c:g=f
  ·subst c;rw [x9];exact fQ _
  ·rw [eU c];exact uY (Da f v r)
theorem KS.put {H0:Hp}{m:Nat}{fs:List (bu×V)}(s:KS C A a n T as p dx H0 m fs H) (f:bu) (v:V) (h1:¬ ("rows":bu)=f:=by decide +kernel) (h2:¬ ("woods":bu)=f:=by decide +kernel):KS C A a n T as p dx H0 (m+1) (eI f v fs) (upd H p (.ins A.Keeper dx (eI f v fs))) :=
 ⟨aG,s.lv.inst s.g s.r s.w,by rw [fV,if_neg h1];exact s.r,by rw [fV,if_neg h2];exact s.w,bz (Da f v fs) (uY s.len),s.b.trans bH.upd⟩
end
def dt (K:aa) (C:af) (A:CA):Sp:=λvs H Q _=>∃ (p dx:af) (n:Nat),vs=[.ref p,.int n]/\H p=some (.ins A.Keeper dx [])/\AV K C A/\1<=n/\n<=200 /\
 ∀ (a:AL) (T:Nat) (as:Nat->List af) (H':Hp),KP C A H' p dx a n T [] as (λ_ i=>[(i:Int)])->bH p H H'->(∀ b∈a.L::fp a,H b=none)->Q .non H'
theorem yc:Rn (dt K C A) (nI K C A (fi K C A) (kE K C)) lH:=by
 rintro vs H Q E ⟨p,dx,n,rfl,hp,ct,hn1,hn2,k⟩;unfold nI;walk_at "x";refine ⟨n,rfl,hn1,hn2,?_⟩;refine ⟨_,rfl,?_⟩;rw [if_neg (by simp)];walk_at "x";refine nK ?_;walk_at "x";refine ⟨p,A.Keeper,dx,[],rfl,hp,ct.kc,ct.k1,by decide,?_⟩;have g1:(upd H p (.ins A.Keeper dx (eI "n" (.int n) []))) p=some (.ins A.Keeper dx (eI "n" (.int n) [])):=aG;have B1:bH p H (upd H p (.ins A.Keeper dx (eI "n" (.int n) []))):=bH.upd;generalize upd H p (.ins A.Keeper dx (eI "n" (.int n) []))=H1 at g1 B1;dsimp only;walk_at "x1";refine nK (LH ?_);walk_at "x";intro q dq hq hdq hne
 have T0:b8 H1 (upd (upd H1 dq (.own q)) q (.ins A.bB dq [])):=λb o e=>by rw [aI (aR e hq),aI (aR e hdq)];exact e
 refine ⟨q,dq,n,rfl,aG,ct,hn1,hn2,λa T as H2 ea ed L tp B2 fr=>⟨rfl,?_⟩⟩;subst ea ed;have T1:b8 H1 H2:=λb o e=>B2 _ _ (T0 _ _ e) (aR e hq);have g2:=T1 _ _ g1
 have s2:KS C A a n T as p dx H 1 (eI "n" (.int n) []) H2:=⟨g2,L,by rw [fV,if_neg (by decide +kernel)];rfl,by rw [fV,if_neg (by decide +kernel)];rfl,Da _ _ _,λb o e hb=>T1 _ _ (B1 _ _ e hb)⟩
 have frH:∀ b∈a.L::fp a,H b=none:=λb hb=>by
  have:=fr b hb
  cases z:H b with
  | none=>rfl
  | some o =>
   by_cases c:b=p
   ·have e:=T0 _ _ g1;rw [← c,this] at e;cases e
   ·rw [T0 _ _ (B1 _ _ z c)] at this;cases this
 obtain ⟨w,hw,hwm⟩:=L.get (aJ _);walk_at "x";refine ⟨p,A.Keeper,dx,_,rfl,s2.g,ct.kc,ct.k2,bI s2.len (by decide),?_⟩;have s3:=s2.put "levels" (.ref a.q);generalize upd H2 p (.ins A.Keeper dx (eI "levels" (.ref a.q) (eI "n" (.int n) [])))=H3 at s3;dsimp only;walk_at "x1";refine nK ?_;walk_at "x";refine ni ?_;refine ni ?_;walk_at "x";refine ⟨p,A.Keeper,dx,_,_,rfl,s3.g,ct.kc,ct.k2,by rw [fV,if_pos rfl],?_⟩;refine ⟨a.q,A.bB,a.dq,_,_,rfl,s3.lv.ob,ct.lc,ct.l4,UX,?_⟩;walk_at "x";refine pY (de.of s3.lv.ls) (fG (j:=0) rfl (by rw [aD,hw];rfl)) ?_;walk_at "x";refine ⟨p,A.Keeper,dx,_,rfl,s3.g,ct.kc,ct.k3,bI s3.len (by decide),?_⟩;have s4:=s3.put "wood" (.ref w.1);generalize e4:eI ("wood":bu) (V.ref w.1) (eI "levels" (.ref a.q) (eI "n" (.int n) []))=f4 at s4;generalize upd H3 p (.ins A.Keeper dx f4)=H4 at s4;dsimp only;walk_at "x1";refine nK ?_;walk_at "x";refine ⟨p,A.Keeper,dx,_,rfl,s4.g,ct.kc,ct.k4,bI s4.len (by decide),?_⟩;have s5:=s4.put "came" (.int 0);generalize e5:eI ("came":bu) (V.int 0) f4=f5 at s5;generalize upd H4 p (.ins A.Keeper dx f5)=H5 at s5;dsimp only;walk_at "x1";refine nK ?_;walk_at "x";refine ⟨p,A.Keeper,dx,_,rfl,s5.g,ct.kc,ct.k5,bI s5.len (by decide),?_⟩;have s6:=s5.put "looked" (.int 0);generalize e6:eI ("looked":bu) (V.int 0) f5=f6 at s6;generalize upd H5 p (.ins A.Keeper dx f6)=H6 at s6;dsimp only;walk_at "x1";refine nK ?_;walk_at "x";refine ⟨p,A.Keeper,dx,_,rfl,s6.g,ct.kc,ct.k6,bI s6.len (by decide),?_⟩;have s7:=s6.put "risen" (.int 0);generalize e7:eI ("risen":bu) (V.int 0) f6=f7 at s7;generalize upd H6 p (.ins A.Keeper dx f7)=H7 at s7;dsimp only;refine nK ?_;walk_at "x";refine ⟨p,A.Keeper,dx,_,rfl,s7.g,ct.kc,ct.k7,bI s7.len (by decide),?_⟩;have s8:=s7.put "lost" (.int 0);subst e4 e5 e6 e7;exact k a T as _ ⟨⟨w,0,0,0,0,hw,s8.g⟩,s8.lv,Lv.start n T tp.lo,(λt ht=>nomatch ht),tp⟩ s8.b frH
end K31
namespace K31
open Rm
variable {K:aa}{C:af}{A:CA}{Pt:af}
theorem KP.p0 {C:af}{A:CA}{H:Hp}{p dx:af}{a:AL}{n T:Nat}{ts:List Ti}{as:Nat->List af}{R:Nat->Nat->List Int}(h:KP C A H p dx a n T ts as R):∃ fs,H p=some (.ins A.Keeper dx fs):=let ⟨w,c1,c2,c3,c4,_,hp⟩:=h.ob;⟨_,hp⟩
def h9 (K:aa) (C:af) (A:CA):Sp:=λvs H Q _=>∃ (p dx:af) (a:AL) (n T:Nat) (ts:List Ti) (as:Nat->List af) (R:Nat->Nat->List Int) (t:af) (x y:Nat),vs=[.ref p,.ref t,.int 0]/\AV K C A/\KP C A H p dx a n T ts as R/\n<=200/\x<y/\y<n/\H t=some (.tup [.int x,.int y])/\((x:Int),(y:Int))∉ts.map Ti.key/\ts.length<99 /\
 ∀ b as' R' H',b=!decide ((y:Int)∈R 0 x)->KP C A H' p dx a n T (ts++[⟨x,y,0,b⟩]) as' R'->Fm (p::fp a) H H'->Q (.bl b) H'
theorem zD:Rn (h9 K C A) (oR K C A (ja K C A)) xW:=by
 rintro vs H Q E ⟨p,dx,a,n,T,ts,as,R,t,x,y,rfl,ct,h,hn,hxy,hy,ht,hk,hl,k⟩;obtain ⟨w,c1,c2,c3,c4,hw,hp⟩:=h.ob;unfold oR;walk_at "x";refine yb ?_;walk_at "x";refine ⟨p,A.Keeper,dx,_,_,rfl,hp,ct.kc,ct.k4,fK4,?_⟩;walk_at "x";refine ⟨c1,1,rfl,rfl,dx,_,hp,Zo,?_⟩;rw [fKp4];have L1:=h.lv.inst (o:=.ins A.Keeper dx (fK n a.q w.1 (c1+1) c2 c3 c4)) hp FU FU;have p1:(upd H p (.ins A.Keeper dx (fK n a.q w.1 (c1+1) c2 c3 c4))) p=_:=aG;have ht1:(upd H p (.ins A.Keeper dx (fK n a.q w.1 (c1+1) c2 c3 c4))) t=_:=(aI (je ht hp)).trans ht;have F1:Fm (p::fp a) H (upd H p (.ins A.Keeper dx (fK n a.q w.1 (c1+1) c2 c3 c4))):=Fm.upd av;generalize upd H p (.ins A.Keeper dx (fK n a.q w.1 (c1+1) c2 c3 c4))=H1 at L1 p1 ht1 F1;dsimp only;walk_at "x";refine qU ?_;refine ni ?_;walk_at "x";refine ⟨p,A.Keeper,dx,_,_,rfl,p1,ct.kc,ct.k2,WI,?_⟩;refine ⟨a.q,a.dq,_,rfl,L1.ob,UY,?_⟩;walk_at "x";refine ⟨a,n,T,ts,as,R,t,x,y,rfl,ct,L1,hn,by lia,hy,ht1,h.iv.nd,hk,hl,λb ts' as' R' H2 L2 hc F2=>?_⟩
 have hkk:(ts++[(⟨x,y,0,false⟩:Ti)]).map Ti.key=ts.map Ti.key++[((x:Int),(y:Int))]:=by rw [aT];rfl
 have V:=h.iv.put hxy hy hk;have hu:(⟨x,y,0,false⟩:Ti)∈ts++[⟨x,y,0,false⟩]:=bP _ av
 have ob:∃ (w:af×af×af) (c1 c2 c3 c4:Int),a.ws[0]?=some w/\H2 p=some (.ins A.Keeper dx (fK n a.q w.1 c1 c2 c3 c4)):=⟨w,_,_,_,_,hw,F2 _ _ (L1.outI p1) p1⟩
 rcases hc with ⟨hj,rfl,rfl,rfl⟩|⟨hj,rfl,rfl,rfl⟩
 ·refine k _ as' _ H2 (by rw [decide_eq_true hj];rfl) ⟨ob,L2,V,λu hu=>?_,h.tp⟩ (F1.trans F2.tail)
  rcases aQ.mp hu with q|q
  ·exact h.jn u q
  ·rw [aA.mp q];exact hj
 ·have hap:∀ i,i<=(⟨x,y,0,false⟩:Ti).cT->(((⟨x,y,0,false⟩:Ti).y:Nat):Int)∉R i (⟨x,y,0,false⟩:Ti).x:=λi hi=>by rw [Sl.mp hi];exact hj
  have W0:=h.iv.wd 0 (aJ _)
  have V':=V.adopt hu rfl hap λi hi=>by
   have e:=Sl.mp hi;subst e
   have l:=((W0.lk (a:=x) (b:=y) (by lia) hy hj).len (i:=x) (by lia))
   rw [(W0.F0 (x:=x) (by lia) hy hj (.inl (W0.me x (by lia)))).2] at l
   show ((R 0 x).length+(R 0 y).length+2)*2^0<=2*n
   lia
  have es:i7 (ts++[(⟨x,y,0,false⟩:Ti)]) ((x:Int),(y:Int)) Ti.xr=ts++[⟨x,y,0,true⟩]:=by
   unfold i7;rw [aT]
   congr 1
   ·exact (mi λt ht=>if_neg λe=>hk (by rw [← e];exact bp ht)).trans (List.map_id _)
   ·show [if ((x:Int),(y:Int))=((x:Int),(y:Int)) then _ else _]=_
    rw [if_pos rfl];rfl
  refine k _ as' _ H2 (by rw [decide_eq_false hj];rfl) ⟨ob,es▸L2,es▸V',λu hu'=>?_,h.tp⟩ (F1.trans F2.tail);rw [← es] at hu'
  rcases (mH (f:=Ti.xr) V.nd hu u).mp hu' with rfl|⟨q,_⟩
  ·have e:Kz R 0 x y 0=lk (R 0) x y:=if_pos (au _)
   show (y:Int)∈Kz R 0 x y 0 x
   rw [e];exact ((W0.F0 (x:=x) (by lia) hy hj (.inl (W0.me x (by lia)))).1 _).mpr (.inr (W0.me y hy))
  ·rcases aQ.mp q with q|q
   ·obtain ⟨q1,q2,q3⟩:=h.iv.lt u q;exact V.Kh hu hap q3 (by lia) _ (h.jn u q)
   ·rename_i hne
    exact absurd (by rw [aA.mp q]) hne
def i8 (K:aa) (C:af) (A:CA):Sp:=λvs H Q _=>∃ (p dx:af) (a:AL) (n T:Nat) (ts:List Ti) (as:Nat->List af) (R:Nat->Nat->List Int) (x y:Nat),vs=[.ref p,.int x,.int y]/\AV K C A/\KP C A H p dx a n T ts as R/\n<=200/\x<n/\y<n/\x≠y/\(((min x y:Nat):Int),((max x y:Nat):Int))∉ts.map Ti.key/\ts.length<99 /\
 ∀ b as' R' H',b=!decide (((max x y:Nat):Int)∈R 0 (min x y))->KP C A H' p dx a n T (ts++[⟨min x y,max x y,0,b⟩]) as' R'->Fm (p::fp a) H H'->Q (.bl b) H'
theorem Dc:Rn (i8 K C A) (rD K C A (h9 K C A) (lY K C)) jH:=by
 rintro vs H Q E ⟨p,dx,a,n,T,ts,as,R,x,y,rfl,ct,h,hn,hx,hy,hxy,hk,hl,k⟩;obtain ⟨w,c1,c2,c3,c4,hw,hp⟩:=h.ob;unfold rD;walk_at "m";refine ⟨p,dx,_,rfl,hp,FU,?_⟩;walk_at "f";refine ⟨p,A.Keeper,dx,_,_,rfl,hp,ct.kc,ct.k1,fK1,?_⟩;walk_at "x";refine ni ?_;refine ni ?_;walk_at "x";refine ⟨p,A.Keeper,dx,_,_,rfl,hp,ct.kc,ct.k2,WI,?_⟩;refine ⟨a.q,A.bB,a.dq,_,_,rfl,h.lv.ob,ct.lc,ct.l1,OS,?_⟩;walk_at "x";refine ⟨n,x,y,a.d1,kl ts,rfl,hx,hy,hxy,h.lv.e1,GZ hk,λt ht=>?_⟩;generalize eu_:upd H t (.tup [.int (min x y:Nat),.int (max x y:Nat)])=H1;obtain ⟨S1,g1⟩:=lF eu_ ht;walk_at "x";exact ⟨p,dx,a,n,T,ts,as,R,t,min x y,max x y,rfl,ct,h.same S1,hn,by lia,by lia,g1,hk,hl,λb as' R' H' hb h' F'=>k b as' R' H' hb h' ((Fm.of S1).trans F')⟩
def gJ (K:aa) (C:af) (A:CA):Sp:=λvs H Q _=>∃ (p dx:af) (a:AL) (n T:Nat) (ts:List Ti) (as:Nat->List af) (R:Nat->Nat->List Int) (x y:Nat),vs=[.ref p,.int x,.int y]/\AV K C A/\KP C A H p dx a n T ts as R/\x<n/\y<n/\Q (.bl (decide ((y:Int)∈R 0 x))) H
theorem A2:Rn (gJ K C A) (qy K C A (cj K C)) jH:=by
 rintro vs H Q E ⟨p,dx,a,n,T,ts,as,R,x,y,rfl,ct,h,hx,hy,k⟩;obtain ⟨w,c1,c2,c3,c4,hw,hp⟩:=h.ob;have W:=h.lv.wa 0 w hw;unfold qy;walk_at "x";refine qU ?_;refine ni ?_;walk_at "x";refine ⟨p,A.Keeper,dx,_,_,rfl,hp,ct.kc,ct.k3,fK3,?_⟩;refine ⟨w.1,w.2.1,_,rfl,W.ob,lP _ _,?_⟩;walk_at "x";exact ⟨w.1,w.2.1,w.2.2,n,x,y,as 0,R 0,rfl,ct.w,W,h.iv.wd 0 (aJ _),hx,hy,k⟩
def iU (K:aa) (C:af) (A:CA):Sp:=λvs H Q _=>∃ (p dx:af) (a:AL) (n T:Nat) (ts:List Ti) (as:Nat->List af) (R:Nat->Nat->List Int) (x:Nat),vs=[.ref p,.int x]/\AV K C A/\KP C A H p dx a n T ts as R/\n<=60/\x<n /\
 ∀ q (ks:List Int),H q=none->ks.Pairwise (· < ·)->(∀ z,z∈ks↔z∈R 0 x)->Q (.ref q) (upd H q (.lst (ks.map V.int)))
theorem Ex:Rn (iU K C A) (sX K C A (dO K C)) kZ:=by
 rintro vs H Q E ⟨p,dx,a,n,T,ts,as,R,x,rfl,ct,h,hn,hx,k⟩;obtain ⟨w,c1,c2,c3,c4,hw,hp⟩:=h.ob;have W:=h.lv.wa 0 w hw;have D:=h.iv.wd 0 (aJ _);have hlen:=D.len hx;unfold sX;walk_at "x";refine qU ?_;refine ni ?_;walk_at "x";refine ⟨p,A.Keeper,dx,_,_,rfl,hp,ct.kc,ct.k3,fK3,?_⟩;refine ⟨w.1,w.2.1,_,rfl,W.ob,lP _ _,?_⟩;walk_at "x";exact ⟨w.1,w.2.1,w.2.2,n,x,as 0,R 0,rfl,ct.w,W,D,by lia,hx,k⟩
def fW (K:aa) (C:af) (A:CA) (Pt:af):Sp:=λvs H Q _=>∃ (p dx:af) (a:AL) (n T:Nat) (ts:List Ti) (as:Nat->List af) (R:Nat->Nat->List Int) (x y:Nat),vs=[.ref p,.int x,.int y]/\AV K C A/\KP C A H p dx a n T ts as R/\n<=60/\x<n/\y<n/\x≠y/\(((min x y:Nat):Int),((max x y:Nat):Int))∈ts.map Ti.key/\ts.length<99/\vB Pt H /\
 ∀ v ts' as' R' H',KP C A H' p dx a n T ts' as' R'->ts'.map Ti.key=(ts.map Ti.key).filter (λk=>decide (k≠(((min x y:Nat):Int),((max x y:Nat):Int))))->vB Pt H'->Fm (p::Pt::fp a) H H'->Q v H'
theorem G2:Rn (fW K C A Pt) (uB K C A (h8 K C) (nJ K C) (iJ K C A Pt) (qx K C) (iT K C) (du K C A)) Q5:=by
 rintro vs H Q E ⟨p,dx,a,n,T,ts,as,R,x,y,rfl,ct,h,hn,hx,hy,hxy,hk,hl,hP,k⟩;obtain ⟨w,c1,c2,c3,c4,hw,hp⟩:=h.ob;obtain ⟨u,hu,eu⟩:=bw.mp hk;obtain ⟨eu1,eu2⟩:=cC eu
 have eu1:u.x=min x y:=by lia
 have eu2:u.y=max x y:=by lia
 have nPp:p≠Pt:=hP.ne hp (λ_ z=>nomatch z);unfold uB;walk_at "f";refine ⟨p,A.Keeper,dx,_,_,rfl,hp,ct.kc,ct.k1,fK1,?_⟩;walk_at "x";refine ni ?_;refine ni ?_;walk_at "x";refine ⟨p,A.Keeper,dx,_,_,rfl,hp,ct.kc,ct.k2,WI,?_⟩;refine ⟨a.q,A.bB,a.dq,_,_,rfl,h.lv.ob,ct.lc,ct.l1,OS,?_⟩;walk_at "x";refine ⟨n,x,y,a.d1,kl ts,rfl,hx,hy,hxy,h.lv.e1,by rw [← eu1,← eu2,jb h.iv.nd hu];rfl,λt ht=>?_⟩;rw [← eu1,← eu2];generalize eu_:upd H t (.tup [.int (u.x:Nat),.int (u.y:Nat)])=H1;obtain ⟨S1,g1⟩:=lF eu_ ht;have L1:=h.lv.same S1;have p1:=S1 _ _ hp;walk_at "x";refine yb ?_;walk_at "x";refine ⟨p,A.Keeper,dx,_,_,rfl,p1,ct.kc,ct.k7,fK7,?_⟩;walk_at "f";refine ⟨p,A.Keeper,dx,_,_,rfl,p1,ct.kc,ct.k1,fK1,?_⟩;walk_at "x";refine qU ?_;refine ni ?_;walk_at "x";refine ⟨p,A.Keeper,dx,_,_,rfl,p1,ct.kc,ct.k2,WI,?_⟩;refine ⟨a.q,a.dq,_,rfl,L1.ob,UY,?_⟩;walk_at "x";refine ⟨a.q,a.dq,a.d1,a.d2,a.d3,a.L,t,kl ts,kw ts,u.x,u.y,_,_,rfl,ct,L1.ob,.inl L1.e1,.inl L1.e2,g1,jb (f:=λt=>V.int t.cT) h.iv.nd hu,jb (f:=λt=>V.bl t.wd) h.iv.nd hu,λr hr=>?_⟩;generalize eu_:upd H1 r (.tup [.int u.x,.int u.y,.int u.cT,.bl u.wd])=H2;obtain ⟨S2,g2⟩:=lF eu_ hr;walk_at "x";refine ⟨bD (m:=1) (au 1),λl hl3=>?_⟩;generalize eu_:upd H2 l (.lst [.ref r])=H3;obtain ⟨S3,g3⟩:=lF eu_ hl3;walk_at "x";refine ⟨n,l,r,u.x,u.y,u.cT,u.wd,rfl,g3,S3 _ _ g2,λc H4 S4=>?_⟩;have S14:b8 H H4:=((S1.trans S2).trans S3).trans S4;have p4:=S14 _ _ hp;have L4:=h.lv.same S14;have t4:=S4 _ _ (S3 _ _ (S2 _ _ g1));refine ⟨c4,c,rfl,rfl,dx,_,p4,Zo,?_⟩;rw [fKp7];have L5:=L4.inst (o:=.ins A.Keeper dx (fK n a.q w.1 c1 c2 c3 (c4+c))) p4 FU FU;have p5:(upd H4 p (.ins A.Keeper dx (fK n a.q w.1 c1 c2 c3 (c4+c)))) p=_:=aG;have t5:(upd H4 p (.ins A.Keeper dx (fK n a.q w.1 c1 c2 c3 (c4+c)))) t=_:=(aI (je t4 p4)).trans t4
 have P5:vB Pt (upd H4 p (.ins A.Keeper dx (fK n a.q w.1 c1 c2 c3 (c4+c)))):=(hP.same S14).keep λb o _ _ h3 _ e=>by rw [aI];exact e;rintro rfl;rw [p4] at e;cases e;exact h3 _ _ _ rfl
 have F5:Fm (p::Pt::fp a) H (upd H4 p (.ins A.Keeper dx (fK n a.q w.1 c1 c2 c3 (c4+c)))):=(Fm.of S14).trans (Fm.upd av);generalize upd H4 p (.ins A.Keeper dx (fK n a.q w.1 c1 c2 c3 (c4+c)))=H5 at L5 p5 t5 P5 F5;dsimp only;walk_at "x";refine qU ?_;refine ni ?_;walk_at "x";refine ⟨p,A.Keeper,dx,_,_,rfl,p5,ct.kc,ct.k2,WI,?_⟩;refine ⟨a.q,a.dq,_,rfl,L5.ob,UY,?_⟩;walk_at "x";have hT8:=h.tp.small (by lia);refine ⟨a,n,T,ts,as,R,t,u,rfl,ct,L5,hn,by lia,h.tp.hi,h.iv,h.jn,hu,t5,hl,P5,λq us ts' as' R' H6 hq gq oks hlu L6 V6 J6 hk6 P6 F6=>?_⟩;have p6:=F6 _ _ (λz=>(ax.mp z).elim nPp (L5.outI p5)) p5;walk_at "x";refine yb ?_;walk_at "x";refine ⟨p,A.Keeper,dx,_,_,rfl,p6,ct.kc,ct.k5,fK5,?_⟩;walk_at "x";refine ⟨q,us,rfl,gq,oks,hlu,λc' H7 S7=>?_⟩;have p7:=S7 _ _ p6;refine ⟨c2,c',rfl,rfl,dx,_,p7,Zo,?_⟩;rw [fKp5];have L8:=(L6.same S7).inst (o:=.ins A.Keeper dx (fK n a.q w.1 c1 (c2+c') c3 (c4+c))) p7 FU FU;have p8:(upd H7 p (.ins A.Keeper dx (fK n a.q w.1 c1 (c2+c') c3 (c4+c)))) p=_:=aG
 have n8:∀ {b:af}{o:HO},H7 b=some o->(∀ x y z,o≠.ins x y z)->(upd H7 p (.ins A.Keeper dx (fK n a.q w.1 c1 (c2+c') c3 (c4+c)))) b=some o:=λ{b o} e hno=>by rw [aI];exact e;rintro rfl;rw [p7] at e;cases e;exact hno _ _ _ rfl
 have F8:Fm (p::Pt::fp a) H (upd H7 p (.ins A.Keeper dx (fK n a.q w.1 c1 (c2+c') c3 (c4+c)))):=((F5.trans F6.tail).trans (Fm.of S7)).trans (Fm.upd av);generalize upd H7 p (.ins A.Keeper dx (fK n a.q w.1 c1 (c2+c') c3 (c4+c)))=H8 at L8 p8 n8 F8;dsimp only;walk_at "x";refine yb ?_;walk_at "x";refine ⟨p,A.Keeper,dx,_,_,rfl,p8,ct.kc,ct.k6,fK6,?_⟩;walk_at "x";refine ⟨q,us,rfl,n8 (S7 _ _ gq) (λ_ _ _ z=>nomatch z),λv hv=>⟨n8 (S7 _ _ (oks v hv).1) (λ_ _ _ z=>nomatch z),n8 (S7 _ _ (oks v hv).2) (λ_ _ _ z=>nomatch z)⟩,hlu,λc'' H9 S9=>?_⟩;have p9:=S9 _ _ p8;refine ⟨c3,c'',rfl,rfl,dx,_,p9,Zo,?_⟩;rw [fKp6];dsimp only;walk_at "x";refine k _ ts' as' R' _ ⟨⟨w,_,_,_,_,hw,aG⟩,(L8.same S9).inst p9 FU FU,V6,J6,h.tp⟩ ?_ ?_ ((F8.trans (Fm.of S9)).trans (Fm.upd av))
 ·rw [hk6,← eu1,← eu2,vN];rfl
 ·refine ((P6.same S7).keep λb o _ _ h3 _ e=>S9 _ _ (n8 e h3)).keep λb o _ _ h3 _ e=>?_;rw [aI];exact e;rintro rfl;rw [p9] at e;cases e;exact h3 _ _ _ rfl
end K31
namespace K31
open Rm
variable {K:aa}{C:af}{A:CA}{Pt:af}
def ou (H:Hp) (u:Ti×af):Prop:=H u.2=some (.tup [.int u.1.x,.int u.1.y,.int u.1.cT,.bl u.1.wd])
def wY (t:Ti):List Int:=[(t.x:Int),(t.y:Int),(t.cT:Int),b2i t.wd]
def ow (u:Ti×af):V:=.ref u.2
def vT (K:aa) (C:af) (A:CA):Sp:=λvs H Q _=>∃ (p dx:af) (a:AL) (n T:Nat) (ts:List Ti) (as:Nat->List af) (R:Nat->Nat->List Int),vs=[.ref p]/\AV K C A/\KP C A H p dx a n T ts as R/\ts.length<99 /\
 ∀ (q:af) (us:List (Ti×af)) (o:gi) (H':Hp),H q=none->H' q=some (.lst (us.map ow))->(∀ u∈us,ou H' u)->(us.map (·.1)).Perm ts->us.Pairwise (λu v=>gG (wY v.1) (wY u.1)=false)->H' a.d1=some (.frz o (.dT (kl ts)))->bH a.d1 H H'->Q (.ref q) H'
def cA (K:aa) (C:af) (A:CA):Sp:=λvs H Q _=>∃ (p dx:af) (a:AL) (n T:Nat) (ts:List Ti) (as:Nat->List af) (R:Nat->Nat->List Int),vs=[.ref p]/\AV K C A/\KP C A H p dx a n T ts as R/\ts.length<99 /\
 ∀ (q:af) (us:List (Ti×af)) (H':Hp),H q=none->H' q=some (.lst (us.map ow))->(∀ u∈us,ou H' u)->(us.map (·.1)).Perm ts->us.Pairwise (λu v=>gG (wY v.1) (wY u.1)=false)->b8 H H'->Q (.ref q) H'
theorem De:∀ vs H Q E,cA K C A vs H Q E->vT K C A vs H (Qm H Q) E:=by
 rintro vs H Q E ⟨p,dx,a,n,T,ts,as,R,rfl,ct,h,hl,k⟩;refine ⟨p,dx,a,n,T,ts,as,R,rfl,ct,h,hl,λq us o H' hq gq fl pm so gd B=>.inr ⟨a.d1,o,kl ts,(λo' u' e=>by rw [h.lv.e1] at e;cases e),gd,?_⟩⟩;have hqd:q≠a.d1:=Ne.symm (aR h.lv.e1 hq);refine k q us _ hq (by rw [aI hqd];exact gq) (λu hu=>(aI (je (fl u hu) gd)).trans (fl u hu)) pm so λb ob e=>?_
 by_cases hb:b=a.d1
 ·subst hb;rw [aG,← h.lv.e1,e]
 ·rw [aI hb];exact B _ _ e hb
theorem Dg:Rn (vT K C A) (sY K C A (du K C A)) xX:=by
 rintro vs H Q E ⟨p,dx,a,n,T,ts,as,R,rfl,ct,h,hl,k⟩;obtain ⟨w,c1,c2,c3,c4,hw,hp⟩:=h.ob;have hnd:=h.iv.nd;unfold sY;walk_at "x";refine Qk ?_;refine ni ?_;refine ni ?_;walk_at "x";refine ⟨p,A.Keeper,dx,_,_,rfl,hp,ct.kc,ct.k2,WI,?_⟩;refine ⟨a.q,A.bB,a.dq,_,_,rfl,h.lv.ob,ct.lc,ct.l1,OS,?_⟩;refine ⟨a.d1,kl ts,rfl,.inl ⟨h.lv.e1,λo=>?_⟩⟩;have g1:(upd H a.d1 (.frz o (.dT (kl ts)))) a.d1=some (.frz o (.dT (kl ts))):=aG;have B1:bH a.d1 H (upd H a.d1 (.frz o (.dT (kl ts)))):=bH.upd;generalize upd H a.d1 (.frz o (.dT (kl ts)))=H1 at g1 B1;have p1:=B1 _ _ hp (je hp h.lv.e1);have q1:=B1 _ _ h.lv.ob (je h.lv.ob h.lv.e1);have w1:=B1 _ _ h.lv.e2 (Ne.symm h.lv.Ow);intro acc hacc;refine nR (n:=ts.length) (λt ys H4=>H4 acc=some (.lst ys)/\b8 H1 H4/\∃ us:List (Ti×af),ys=us.map ow/\us.map (·.1)=ts.take t/\∀ u∈us,ou H4 u) (λZ=>∃ o,Z=[o,some (.ref p)]) ⟨aG,b8.cw hacc,[],rfl,rfl,λz hz=>nomatch hz⟩ ⟨_,rfl⟩ ?_ ?_ ?_ ?_
 ·rintro t ys H4 ⟨e,_⟩;exact e
 ·rintro ys H4 ⟨g4,S4,us,rfl,hu,fl⟩;refine ⟨⟨by rw [qz];exact au _,S4 _ _ g1⟩,?_⟩;rw [bS (au _)] at hu
  have hul:us.length=ts.length:=by have:=congrArg df hu;simpa using this
  walk_at "x";refine ⟨acc,us.map (λu=>([(u.1.x:Int),(u.1.y:Int),(u.1.cT:Int),b2i u.1.wd],u.2)),[false,false,true],rfl,by rw [bN];exact de.of g4,λz hz=>?_,by rw [ag];lia,λl zs' hl4 hperm hso=>?_⟩
  ·obtain ⟨u,hum,rfl⟩:=bw.mp hz;exact ⟨_,fl u hum,.int _ (.int _ (.int _ (.bl _ .nil)))⟩
  obtain ⟨us',hp',rfl⟩:=Sy.perm_map hperm.symm us rfl
  have hlf:H l=none:=by
   cases z:H l with
   | none=>rfl
   | some ob =>
    by_cases hb:l=a.d1
    ·rw [hb,S4 _ _ g1] at hl4;cases hl4
    ·rw [S4 _ _ (B1 _ _ z hb)] at hl4;cases hl4
  have U:∀ {b:af}{u:HO}{xs:List V},H4 b=some u->(upd H4 l (.lst xs)) b=some u:=λe=>by rw [aI (aR e hl4)];exact e
  refine k l us' o _ hlf (by rw [aG,bN];rfl) (λu hum=>U (fl u (hp'.mem_iff.mp hum))) (by rw [← hu];exact hp'.map _) (cS.mp hso) (U (S4 _ _ g1)) λb ob e hb=>U (S4 _ _ (B1 _ _ e hb))
 ·rintro t ys H4 ht ⟨_,S4,_⟩;exact ⟨by rw [qz];exact ht,S4 _ _ g1⟩
 ·rintro t ys σ' H4 x H5 ht ⟨g4,S4,us,rfl,hu,fl⟩ ⟨o',rfl⟩ ⟨eH,key,v,b,hk,ex,hb⟩;subst eH ex
  obtain ⟨u,hu',eu⟩:∃ u,ts[t]?=some u/\(pk u.x u.y,V.int u.cT)=(key,v):=by
   have hk:(ts.map λt=>(pk t.x t.y,V.int t.cT))[t]?=some (key,v):=hk;rw [aD] at hk;exact bx.mp hk
  cases eu;have hum:=aW hu';walk_at "x";refine pX ?_;refine qU ?_;refine ni ?_;walk_at "x";refine ⟨p,A.Keeper,dx,_,_,rfl,S4 _ _ p1,ct.kc,ct.k2,WI,?_⟩;refine ⟨a.q,a.dq,_,rfl,S4 _ _ q1,UY,?_⟩;walk_at "x";refine ⟨a.q,a.dq,a.d1,a.d2,a.d3,a.L,b,kl ts,kw ts,u.x,u.y,_,_,rfl,ct,S4 _ _ q1,.inr ⟨o,S4 _ _ g1⟩,.inl (S4 _ _ w1),hb,jb (f:=λt=>V.int t.cT) hnd hum,jb (f:=λt=>V.bl t.wd) hnd hum,λr hr=>?_⟩;generalize eu_:upd H5 r (.tup [.int u.x,.int u.y,.int u.cT,.bl u.wd])=H6;obtain ⟨T,gr⟩:=lF eu_ hr
  have hul:us.length=t:=by
   have:=congrArg df hu;rw [ag,bO] at this;lia
  refine ⟨T _ _ g4,ee (m:=100) (by rw [ag];lia),k9.mk' ht ⟨_,rfl⟩ ⟨aG,λb' ob e=>by rw [aI (aR e hacc)];exact T _ _ (S4 _ _ e),us++[(u,r)],by simp [ow],?_,λz hz'=>?_⟩⟩
  ·rw [aT,hu,d9,hu'];rfl
  ·have tn:∀ {z:Ti×af},ou H6 z->ou (upd H6 acc (.lst (us.map ow++[.ref r]))) z:=λ{z} e=>(aI (je e (T _ _ g4))).trans e
   rcases aQ.mp hz' with hz'|hz'
   ·exact tn (T _ _ (fl z hz'))
   ·rw [aA.mp hz'];exact tn gr
end K31
namespace K31
variable {K:aa}{C:af}{A:CA}{Pt:af}
def dr (K:aa) (C:af):Sp:=λvs H Q _=>∃ (a:af) (ns:List Int) (k:Nat),vs=[.ref a,.int k]/\de K H a (ns.map V.int)/\∀ z:Int,Q (.int z) H
theorem zE:Rn (dr K C) (oO K C) CB:=by
 rintro vs H Q E ⟨a,ns,k,rfl,hS,q⟩;unfold oO;walk_at "x";refine K9 hS ?_;walk_at "x";refine tV (λh=>?_) λh=>?_
 ·walk_at "x"
  have hk:k<ns.length:=by lia
  refine MV hS rfl (aC hk) ?_;exact q _
 ·walk_at "x";exact q _
end K31
namespace K31
open Rm
theorem em {n:Nat}(hn:0<n) (x:Int):∃ j:Nat,x%(n:Int)=(j:Int)/\j<n:=by
 have h1:=Int.emod_nonneg x (show (n:Int)≠0 by lia);have h2:=Int.emod_lt_of_pos x (show (0:Int)<n by lia);exact ⟨(x%(n:Int)).toNat,by lia,by lia⟩
end K31
namespace K31
theorem zF {t u:TS}{D:tN}{Z:L2.St}{H:Hp}(P:L2.St->Hp->Prop) (rest:∀ σ' H',P σ' H'->u D σ' H') (h:(∀ σ' H',P σ' H'->u D σ' H')->t { D with nx:=u D } Z H):bZ t u D Z H:=h rest
end K31
namespace K31
open Rm
variable {K:aa}{C:af}{A:CA}{Pt:af}
def kd (ps:List (Int×Int)):List (List dQ×V):=ps.map λp=>([aZ p.1,aZ p.2],.bl true)
theorem FV (ts:List Ti):kd (ts.map Ti.key)=kf (λ_=>V.bl true) ts:=by unfold kd kf;rw [bN];rfl
structure Nb (H0 H:Hp) (nd:af) (N:Int->List Int) (kvs:List (dQ×V)) (m:Nat):Prop where
 o:H nd=some (.dK kvs)
 f:H0 nd=none
 s:∀ b,H b=none->H0 b=none
 v:∀ k,(∃ g,eV kvs (aZ k:dQ)=some (.ref g)/\H0 g=none/\H g=some (.lst ((N k).map V.int)))\/(eV kvs (aZ k:dQ)=none/\N k=[])
 i:∀ k k' g,eV kvs (aZ k:dQ)=some (.ref g)->eV kvs (aZ k':dQ)=some (.ref g)->k=k'
 l:kvs.length<=m
 ll:∀ k,(N k).length<=m
def Rq (N:Int->List Int) (x y:Int):Int->List Int:=λk=>if k=x then N x++[y] else N k
theorem Nb.add {H0 H:Hp}{nd:af}{N:Int->List Int}{kvs:List (dQ×V)}{m:Nat}(B:Nb H0 H nd N kvs m) (hm:m<=900) {K:aa}{D:tN}{Z:L2.St}{i j:Nat}{x y:Int}(h2:Z[2]?=some (some (.ref nd))) (hi:Z[i]?=some (some (.int x))) (hj:Z[j]?=some (some (.int y)))
  (k:∀ H' kvs',Nb H0 H' nd (Rq N x y) kvs' (m+1)->(∀ z,((eV kvs (aZ z:dQ)).isSome=true\/z=x)->(eV kvs' (aZ z:dQ)).isSome=true)->(∀ b o,H0 b≠none->H b=some o->H' b=some o)->D.nx Z H') :
  ir (FA K "list" o9 (FA K "dict" xR (aw 2) (ay (aw i) (ay (wo bj) bj))) (ay (aw j) bj)) D Z H:=by
 refine PF (VY (VY (rP h2 ⟨.inr (.inr (.inl ⟨rfl,.inl ⟨_,B.o⟩⟩)),wz (rP hi (wz (PH (Cc ?_))))⟩)));refine ⟨bD (m:=0) (au 0),λnl hnl=>?_⟩;have S1:=b8.cw (o:=.lst []) hnl;have g1:(upd H nl (.lst [])) nl=some (.lst []):=aG
 have fr1:∀ b,(upd H nl (.lst [])) b=none->H b=none:=λb e=>by
  by_cases c:b=nl
  ·rw [c,g1] at e;cases e
  ·rwa [aI c] at e
 generalize upd H nl (.lst [])=H1 at S1 g1 fr1;have o1:=S1 _ _ B.o;have n0:H0 nl=none:=B.s _ hnl
 have nnd:nl≠nd:=λz=>by rw [z,B.o] at hnl;cases hnl
 refine Cc (PR o1 (ee (m:=1000) (by have:=B.l;lia)) ?_)
 have fin:∀ (H2:Hp) (g:af) (kvs':List (dQ×V)) ,H2 nd=some (.dK kvs')->H2 g=some (.lst ((N x).map V.int))->H0 g=none->(∀ b o,b≠nd->H1 b=some o->H2 b=some o)->(∀ b,H2 b=none->H1 b=none)->eV kvs' (aZ x:dQ)=some (.ref g)->(∀ z,z≠x->eV kvs' (aZ z:dQ)=eV kvs (aZ z:dQ))->kvs'.length<=kvs.length+1->(∀ z,z≠x->eV kvs (aZ z:dQ)≠some (.ref g)) ->
   D.nx Z (upd H2 g (.lst ((N x).map V.int++[V.int y]))):=by
  intro H2 g kvs' o2 g2 gn B2 F2 hx hz hl hg
  have gnd:g≠nd:=λz=>by rw [z,o2] at g2;cases g2
  refine k _ kvs' ⟨by rw [aI (Ne.symm gnd)];exact o2,B.f,λb e=>?_,λz=>?_,λz z' g' e1 e2=>?_,by have:=B.l;lia,λz=>?_⟩ (λz hz'=>?_) λb o h0 e=>?_
  ·by_cases c:b=g
   ·rw [c,aG] at e;cases e
   ·rw [aI c] at e;exact B.s _ (fr1 _ (F2 _ e))
  ·by_cases c:z=x
   ·subst c;exact .inl ⟨g,hx,gn,by rw [aG];unfold Rq;rw [if_pos rfl,aT];rfl⟩
   ·unfold Rq;rw [if_neg c,hz z c]
    rcases B.v z with ⟨g',q1,q2,q3⟩|q
    ·refine .inl ⟨g',q1,q2,?_⟩;rw [aI (λe=>hg z c (by rw [q1,e])),B2 _ _ (λe=>by rw [e,B.o] at q3;cases q3) (S1 _ _ q3)]
    ·exact .inr q
  ·by_cases c:z=x<;>by_cases c':z'=x
   ·rw [c,c']
   ·subst c;rw [hx] at e1;cases e1;rw [hz z' c'] at e2;exact absurd e2 (hg z' c')
   ·subst c';rw [hx] at e2;cases e2;rw [hz z c] at e1;exact absurd e1 (hg z c)
   ·rw [hz z c] at e1;rw [hz z' c'] at e2;exact B.i z z' g' e1 e2
  ·unfold Rq;have:=B.ll z;have:=B.ll x
   split
   ·rw [bq];simp;lia
   ·lia
  ·by_cases c:z=x
   ·subst c;rw [hx];rfl
   ·rw [hz z c];exact hz'.resolve_right c
  ·rw [aI (λz:b=g=>h0 (by rw [z];exact gn)),B2 _ _ (λz:b=nd=>h0 (by rw [z];exact B.f)) (S1 _ _ e)]
 rcases B.v x with ⟨g,q1,q2,q3⟩|⟨q1,q2⟩
 ·refine .inl ⟨.ref g,q1,⟨.inl ⟨rfl,_,de.of (S1 _ _ q3)⟩,wz (rP hj (Cc ?_))⟩⟩;refine rQ (S1 _ _ q3) (ee (m:=1000) (by rw [ag];have:=B.ll x;lia)) ?_;exact fin H1 g kvs o1 (S1 _ _ q3) q2 (λ_ _ _ e=>e) (λ_ e=>e) q1 (λ_ _=>rfl) (fQ _) (λz hz e=>hz (B.i z x g e q1))
 ·refine .inr ⟨q1,?_⟩
  have gl:(upd H1 nd (.dK (lC kvs (aZ x) (.ref nl)))) nl=some (.lst ((N x).map V.int)):=by rw [aI nnd,q2];exact g1
  refine ⟨.inl ⟨rfl,_,de.of gl⟩,wz (rP hj (Cc ?_))⟩;refine rQ gl (ee (m:=1000) (by rw [q2];show 0<1000;decide)) ?_;refine fin _ nl _ aG gl n0 (λb o hb e=>by rw [aI hb];exact e) (λb e=>?_) (by rw [B7,if_pos rfl]) (λz hz=>by rw [B7,if_neg (by simpa using hz)]) (l8 _ _ _) (λz hz e=>?_)
  ·by_cases c:b=nd
   ·rw [c,aG] at e;cases e
   ·rwa [aI c] at e
  ·rcases B.v z with ⟨g',p1,p2,p3⟩|⟨p1,_⟩
   ·rw [p1] at e;cases e;rw [p3] at hnl;cases hnl
   ·rw [p1] at e;cases e
theorem G4 {M M':List Int}{j:Nat}{c:Int}(h:M <+: M') (e:M[j]?=some c):M'[j]?=some c:=by
 obtain ⟨t,rfl⟩:=h;rw [eX (aB.mp e).1];exact e
structure Ms (Ra:List Int) (n:Nat) (M:List Int):Prop where
 nd:M.Nodup
 sub:∀ x∈M,x∈Ra
 HH:∀ x∈Ra,∃ j:Nat,j<n/\x=(j:Int)
theorem Ms.len {Ra M:List Int}{n:Nat}(h:Ms Ra n M):M.length<=n:=by
 have:=Jg (ks:=M) (ds:=(fz n).map λi:Nat=>(i:Int)) h.nd λx hx=>by
  obtain ⟨j,hj,rfl⟩:=h.HH x (h.sub x hx);exact bw.mpr ⟨j,jL.mpr hj,rfl⟩
 simpa using this
structure Kw (n:Nat) (R:Nat->List Int) (ps:List (Int×Int)):Prop where
 w:Wd n R
 j:∀ p∈ps,∃ i j:Nat,i<n/\j<n/\p=((i:Int),(j:Int))/\(j:Int)∈R i
 e:∀ u v,Ed n R u v->(u,v)∈ps\/(v,u)∈ps
theorem Kw.cl {n:Nat}{R:Nat->List Int}{ps:List (Int×Int)}(h:Kw n R ps) {a:Nat}(ha:a<n) {u v:Int}(hu:u∈R a) (hp:(u,v)∈ps\/(v,u)∈ps):v∈R a:=by
 rcases hp with hp|hp
 ·obtain ⟨i,j,hi,hj,e,hm⟩:=h.j _ hp;obtain ⟨rfl,rfl⟩:=cC e;rw [h.w.same ha hi hu (h.w.me i hi)];exact hm
 ·obtain ⟨i,j,hi,hj,e,hm⟩:=h.j _ hp;obtain ⟨rfl,rfl⟩:=cC e;rw [h.w.same ha hi hu hm];exact h.w.me i hi
def nbs (ps:List (Int×Int)) (N:Int->List Int):Prop:=∀ k z,z∈N k↔(k,z)∈ps\/(z,k)∈ps
def r9 (K:aa) (C:af):Sp:=λvs H Q _=>∃ (d:af) (a n:Nat) (R:Nat->List Int) (ps:List (Int×Int)),vs=[.ref d,.int a]/\H d=some (.dT (kd ps))/\Kw n R ps/\a<n/\n<=60/\ps.length<=100 /\
 ∀ (l:af) (M:List Int) (o:gi) H',H l=none->H' l=some (.lst (M.map V.int))->M.Pairwise (· < ·)->(∀ x,x∈M↔x∈R a)->H' d=some (.frz o (.dT (kd ps)))->bH d H H'->Q (.ref l) H'
def cY (K:aa) (C:af):Sp:=λvs H Q _=>∃ (d:af) (a n:Nat) (R:Nat->List Int) (ps:List (Int×Int)),vs=[.ref d,.int a]/\H d=some (.dT (kd ps))/\Kw n R ps/\a<n/\n<=60/\ps.length<=100 /\
 ∀ (l:af) (M:List Int) H',H l=none->H' l=some (.lst (M.map V.int))->M.Pairwise (· < ·)->(∀ x,x∈M↔x∈R a)->b8 H H'->Q (.ref l) H'
theorem yd:∀ vs H Q E,cY K C vs H Q E->r9 K C vs H (Qm H Q) E:=by
 rintro vs H Q E ⟨d,a,n,R,ps,rfl,hd,kw,ha,hn,hl,k⟩;refine ⟨d,a,n,R,ps,rfl,hd,kw,ha,hn,hl,λl M o H' hl gl hso hM gd B=>.inr ⟨d,o,kd ps,(λo' u' e=>by rw [hd] at e;cases e),gd,?_⟩⟩;have hld:l≠d:=Ne.symm (aR hd hl);refine k l M _ hl (by rw [aI hld];exact gl) hso hM λb ob e=>?_
 by_cases hb:b=d
 ·subst hb;rw [aG,← hd,e]
 ·rw [aI hb];exact B _ _ e hb
theorem ye:Rn (r9 K C) (oP K C) Wy:=by
 rintro vs H Q E ⟨d,a,n,R,ps,rfl,hd,kw,ha,hn,hl,k⟩;unfold oP;walk_at "x";intro nd hnd;refine rP rfl (PH (Cc ⟨bD (m:=0) (au 0),λnl hnl=>?_⟩))
 have nnl:nl≠nd:=λz=>by rw [z,aG] at hnl;cases hnl
 have hnl0:H nl=none:=by rwa [aI nnl] at hnl
 refine ⟨by rw [aI (Ne.symm nnl),aG],[(aZ (a:Int),.ref nl)],rfl,by simp,?_⟩;have em1:wq [] [((aZ (a:Int):dQ),V.ref nl)]=[((aZ (a:Int):dQ),V.ref nl)]:=rfl;rw [em1]
 have S1:b8 H (upd (upd (upd H nd (.dK [])) nl (.lst [])) nd (.dK [((aZ (a:Int):dQ),V.ref nl)])):=λb o e=>by rw [aI (aR e hnd),aI (aR e hnl0),aI (aR e hnd)];exact e
 have va:∀ z:Int,eV [((aZ (a:Int):dQ),V.ref nl)] (aZ z:dQ)=if z=a then some (.ref nl) else none:=λz=>by
  unfold eV
  by_cases c:z=a
  ·subst c;simp
  ·rw [if_neg c];simp [Ne.symm c]
 have B1:Nb H (upd (upd (upd H nd (.dK [])) nl (.lst [])) nd (.dK [((aZ (a:Int):dQ),V.ref nl)])) nd (λ_=>[]) [((aZ (a:Int):dQ),V.ref nl)] 1:=by
  refine ⟨aG,hnd,λb e=>?_,λz=>?_,λz z' g e1 e2=>?_,by simp,λ_=>by simp⟩
  ·cases q:H b with
   | none=>rfl
   | some o=>rw [S1 _ _ q] at e;cases e
  ·rw [va]
   by_cases c:z=a
   ·rw [if_pos c];exact .inl ⟨nl,rfl,hnl0,by rw [aI nnl,aG];rfl⟩
   ·rw [if_neg c];exact .inr ⟨rfl,rfl⟩
  ·rw [va] at e1 e2
   split at e1<;>split at e2
   ·rename_i c1 c2;rw [c1,c2]
   ·cases e2
   ·cases e1
   ·cases e1
 have ea1:(eV [((aZ (a:Int):dQ),V.ref nl)] (aZ (a:Int):dQ)).isSome=true:=by rw [va,if_pos rfl];rfl
 generalize upd (upd (upd H nd (.dK [])) nl (.lst [])) nd (.dK [((aZ (a:Int):dQ),V.ref nl)])=H1 at S1 B1;generalize [((aZ (a:Int):dQ),V.ref nl)]=kvs1 at B1 ea1;have d1:=S1 _ _ hd;walk_at "x1";walk_at "x1";unfold qM;refine PN (Qk (rP rfl ⟨d,kd ps,rfl,.inl ⟨d1,λo=>?_⟩⟩))
 have B2:Nb H (upd H1 d (.frz o (.dT (kd ps)))) nd (λ_=>[]) kvs1 1:=by
  have dn:d≠nd:=λz=>by rw [z,B1.f] at hd;cases hd
  refine ⟨by rw [aI (Ne.symm dn)];exact B1.o,B1.f,λb e=>?_,λz=>?_,B1.i,B1.l,B1.ll⟩
  ·by_cases c:b=d
   ·rw [c,aG] at e;cases e
   ·rw [aI c] at e;exact B1.s b e
  ·rcases B1.v z with ⟨g,q1,q2,q3⟩|q
   ·exact .inl ⟨g,q1,q2,by rw [aI (je q3 d1)];exact q3⟩
   ·exact .inr q
 have g2:(upd H1 d (.frz o (.dT (kd ps)))) d=some (.frz o (.dT (kd ps))):=aG
 have F2:bH d H (upd H1 d (.frz o (.dT (kd ps)))):=λb u e hb=>by rw [aI hb];exact S1 _ _ e
 generalize upd H1 d (.frz o (.dT (kd ps)))=H2 at B2 g2 F2
 refine Wg (λi Z H3=>∃ N kvs o3 o4,Z=[some (.ref d),some (.int a),some (.ref nd),o3,o4,none,none,none]/\Nb H H3 nd N kvs (1+2*i)/\nbs (ps.take i) N/\(eV kvs (aZ (a:Int):dQ)).isSome=true/\H3 d=some (.frz o (.dT (kd ps)))/\bH d H H3)
  ⟨_,kvs1,_,_,rfl,B2,λk z=>by simp,ea1,g2,F2⟩ ?_ ?_ ?_
 ·rintro i Z H3 _ ⟨N,kvs,o3,o4,_,_,_,_,g,_⟩;exact g
 ·rintro i key v b Z H3 hi hb ⟨N,kvs,o3,o4,rfl,B3,hN,ea,g3,F3⟩
  obtain ⟨p,hpi,ep⟩:∃ p,ps[i]?=some p/\(([aZ p.1,aZ p.2]:List dQ),V.bl true)=(key,v):=by
   unfold kd at hi;rw [aD] at hi;exact bx.mp hi
  cases ep;have hb:H3 b=some (.tup [.int p.1,.int p.2]):=hb;have hil:i<ps.length:=(aB.mp hpi).1
  have hdn:H d≠none:=by rw [hd];intro z;cases z
  refine y9 (.of hb) rfl (Gr (Br (Gr (Br (PP (PD ?_))))));refine B3.add (i:=3) (j:=4) (by lia) rfl rfl rfl λH4 kvs4 B4 e4 F4=>?_;refine B4.add (i:=4) (j:=3) (by lia) rfl rfl rfl λH5 kvs5 B5 e5 F5=>?_;refine ⟨_,kvs5,_,_,rfl,B5,λk z=>?_,e5 _ (.inl (e4 _ (.inl ea))),F5 _ _ hdn (F4 _ _ hdn g3),λb' o' e hb'=>?_⟩
  ·rw [d9,hpi];have h1:=hN k z;have h2:=hN p.1 z;have h3:=hN p.2 z;obtain ⟨p1,p2⟩:=p;simp only [Option.toList,aQ,aA,xC] at h1 h2 h3 ⊢;unfold Rq
   by_cases c1:k=p2<;>by_cases c2:k=p1<;>by_cases c3:p2=p1<;>simp_all<;>grind
  ·have h0:H b'≠none:=by rw [e];intro z;cases z
   exact F5 _ _ h0 (F4 _ _ h0 (F3 _ _ e hb'))
 rintro Z H3 ⟨N,kvs,o3,o4,rfl,B3,hN,ea,g3,F3⟩;have ekl:(kd ps).length=ps.length:=ag _;rw [ekl] at B3 hN;rw [bS (au _)] at hN;walk_at "x";intro sd hsd;refine rP rfl (x_c ?_);refine ⟨aG,[(aZ (a:Int),.bl true)],rfl,by simp,?_⟩;have em2:wq [] [((aZ (a:Int):dQ),V.bl true)]=[((aZ (a:Int):dQ),V.bl true)]:=rfl;rw [em2]
 have S4:b8 H3 (upd (upd H3 sd (.dK [])) sd (.dK [((aZ (a:Int):dQ),V.bl true)])):=λb o e=>by rw [aI (aR e hsd),aI (aR e hsd)];exact e
 have sv:∀ z:Int,(eV [((aZ (a:Int):dQ),V.bl true)] (aZ z:dQ)).isSome=true↔z∈[(a:Int)]:=λz=>by
  unfold eV
  by_cases c:z=a
  ·subst c;simp
  ·simp [c,Ne.symm c]
 have s4:(upd (upd H3 sd (.dK [])) sd (.dK [((aZ (a:Int):dQ),V.bl true)])) sd=some (.dK [((aZ (a:Int):dQ),V.bl true)]):=aG;generalize upd (upd H3 sd (.dK [])) sd (.dK [((aZ (a:Int):dQ),V.bl true)])=H4 at S4 s4
 have sl:([((aZ (a:Int):dQ),V.bl true)]).length<=1:=by simp
 generalize [((aZ (a:Int):dQ),V.bl true)]=svs at sv s4 sl;walk_at "x";refine ⟨bD (m:=1) (au 1),λrw hrw=>?_⟩;have S5:=b8.cw (o:=.lst [.int (a:Int)]) hrw;have r5:(upd H4 rw (.lst [.int (a:Int)])) rw=some (.lst ([(a:Int)].map V.int)):=aG;generalize upd H4 rw (.lst [.int (a:Int)])=H5 at S5 r5;have nsr:sd≠rw:=aR s4 hrw;have S35:b8 H3 H5:=S4.trans S5;have s5:=S5 _ _ s4
 have inn:∀ x∈R a,∃ j:Nat,j<n/\x=(j:Int):=λx hx=>let ⟨j,hj,e,_⟩:=kw.w.HH a ha x hx;⟨j,hj,e⟩
 walk_at "x";unfold qO
 refine Cd (λZ H6=>∃ (j:Nat) (M:List Int) (svs:List (dQ×V)) (o3 o4:Option V),Z=[some (.ref d),some (.int a),some (.ref nd),o3,o4,some (.ref sd),some (.ref rw),some (.int (j:Int))]/\j<=M.length/\Ms (R a) n M/\(∀ c∈M,c=(a:Int)\/N c≠[])/\(a:Int)∈M/\(∀ i c,i<j->M[i]?=some c->∀ y∈N c,y∈M)/\H6 rw=some (.lst (M.map V.int))/\H6 sd=some (.dK svs)/\svs.length<=M.length/\(∀ z:Int,(eV svs (aZ z:dQ)).isSome=true↔z∈M) /\
  ∀ b u,b≠rw->b≠sd->H5 b=some u->H6 b=some u) (λZ _=>match Z with|[_,_,_,_,_,_,_,some (.int j)]=>(n+1:Int).toNat-j.toNat|_=>0)
  ⟨0,[(a:Int)],svs,_,_,rfl,aJ _,⟨by simp,λx hx=>by rw [aA.mp hx];exact kw.w.me a ha,inn⟩,λc hc=>.inl (aA.mp hc),by simp,λi c hi=>absurd hi (by lia),r5,s5,sl,sv,λb u _ _ e=>e⟩ ?_
 rintro Z H6 ⟨j,M,svs,o3,o4,rfl,hj,ms,mN,haM,done,r6,s6,sl6,sv6,F6⟩;have hlen:=ms.len;walk_at "x";refine K9 (de.of r6) ?_;walk_at "x";refine tV (λh=>⟨_,PL,?_⟩) λh=>?_
 ·have hjl:j<M.length:=by lia
  obtain ⟨c,hc⟩:∃ c,M[j]?=some c:=⟨_,aC hjl⟩
  have hcm:=aW hc;have hcR:=ms.sub c hcm;have cN:∀ y∈N c,y∈R a:=λy hy=>kw.cl ha hcR ((hN c y).mp hy)
  -- its neighbours' list
  obtain ⟨g,gv,gg⟩:∃ g,eV kvs (aZ c:dQ)=some (.ref g)/\H3 g=some (.lst ((N c).map V.int)):=by
   rcases B3.v c with ⟨g,q1,_,q3⟩|⟨q1,q2⟩
   ·exact ⟨g,q1,q3⟩
   ·rcases mN c hcm with e|e
    ·rw [e] at q1;rw [q1] at ea;cases ea
    ·exact absurd q2 e
  have g5:=S35 _ _ gg
  have ngr:g≠rw:=λz=>by rw [z,S4.free hrw] at gg;cases gg
  have ngs:g≠sd:=λz=>by rw [z,hsd] at gg;cases gg
  have nd5:=S35 _ _ B3.o
  have nnr:nd≠rw:=λz=>by have:=B3.o;rw [z,S4.free hrw] at this;cases this
  have nns:nd≠sd:=λz=>by have:=B3.o;rw [z,hsd] at this;cases this
  refine PD ?_;unfold qN;refine PN ?_;walk_at "x1";walk_at "x1";walk_at "x1";walk_at "x1";walk_at "x1";walk_at "x1";refine MV (de.of r6) (j:=j) rfl hc ?_;refine X7 (.inl (F6 _ _ nnr nns nd5)) gv ?_
  refine ⟨g,rfl,.inl ⟨⟨_,de.of (F6 _ _ ngr ngs g5)⟩,mx (K:=K) (a:=g) (xs:=(N c).map V.int) (λi Z H7=>∃ (M':List Int) (svs:List (dQ×V)) (o4:Option V),Z=[some (.ref d),some (.int a),some (.ref nd),o3,o4,some (.ref sd),some (.ref rw),some (.int (j:Int))]/\M <+: M'/\Ms (R a) n M'/\(∀ c∈M',c=(a:Int)\/N c≠[])/\(∀ y∈(N c).take i,y∈M')/\H7 rw=some (.lst (M'.map V.int))/\H7 sd=some (.dK svs)/\svs.length<=M'.length/\(∀ z:Int,(eV svs (aZ z:dQ)).isSome=true↔z∈M') /\
   ∀ b u,b≠rw->b≠sd->H5 b=some u->H7 b=some u) ⟨M,svs,_,rfl,List.prefix_refl _,ms,mN,(λy hy=>by simp at hy),r6,s6,sl6,sv6,F6⟩ ?_ ?_ ?_⟩⟩
  ·rintro i Z H7 _ ⟨M',svs,o4,_,_,_,_,_,_,_,_,_,F7⟩;exact de.of (F7 _ _ ngr ngs g5)
  ·rintro i v Z H7 hi ⟨M',svs,o4,rfl,pre,ms7,mN7,dn7,r7,s7,sl7,sv7,F7⟩;rw [aD] at hi;obtain ⟨y,hyi,rfl⟩:=bx.mp hi;have hyN:=aW hyi
   have etk:∀ z∈(N c).take (i+1),z∈(N c).take i\/z=y:=λz hz=>by
    rw [d9,hyi] at hz
    simpa using hz
   have hl7:=ms7.len;walk_at "x";refine PZ s7 ?_;walk_at "x"
   by_cases hy:y∈M'
   ·rw [(sv7 y).mpr hy];refine kP ⟨M',svs,_,rfl,pre,ms7,mN7,λz hz=>(etk z hz).elim (dn7 z) λe=>e▸hy,r7,s7,sl7,sv7,F7⟩
   ·have e0:(eV svs (aZ y:dQ)).isSome=false:=by
     cases q:(eV svs (aZ y:dQ)).isSome with
     | false=>rfl
     | true=>exact absurd ((sv7 y).mp q) hy
    rw [e0];refine pX ?_;walk_at "x";refine Wb s7 (ee (m:=1000) (by lia)) ?_;have s8:(upd H7 sd (.dK (lC svs (aZ y) (.bl true)))) sd=_:=aG;have r8:(upd H7 sd (.dK (lC svs (aZ y) (.bl true)))) rw=some (.lst (M'.map V.int)):=(aI (Ne.symm nsr)).trans r7
    have F8:∀ b u,b≠rw->b≠sd->H5 b=some u->(upd H7 sd (.dK (lC svs (aZ y) (.bl true)))) b=some u:=λb u h1 h2 e=>by rw [aI h2];exact F7 b u h1 h2 e
    generalize upd H7 sd (.dK (lC svs (aZ y) (.bl true)))=H8 at s8 r8 F8;walk_at "x";refine ⟨.inl ⟨rfl,_,de.of r8⟩,?_⟩;walk_at "x";refine rQ r8 (ee (m:=1000) (by rw [ag];lia)) ?_;refine ⟨M'++[y],lC svs (aZ y) (.bl true),_,rfl,pre.trans (List.prefix_append _ _),⟨?_,λx hx=>?_,inn⟩,λx hx=>?_,λz hz=>?_,by rw [aG,aT];rfl,by rw [aI nsr];exact s8,?_,λz=>?_,λb u h1 h2 e=>by rw [aI h1];exact F8 b u h1 h2 e⟩
    ·rw [fZ];exact ⟨ms7.nd,by simp,λx hx z hz e=>hy (by rw [aA.mp hz] at e;exact e▸hx)⟩
    ·rcases aQ.mp hx with hx|hx
     ·exact ms7.sub x hx
     ·rw [aA.mp hx];exact cN y hyN
    ·rcases aQ.mp hx with hx|hx
     ·exact mN7 x hx
     ·rw [aA.mp hx];refine .inr λe=>?_;have:c∈N y:=(hN y c).mpr (((hN c y).mp hyN).symm);rw [e] at this;cases this
    ·exact aQ.mpr ((etk z hz).imp (dn7 z) λe=>by simp [e])
    ·have:=l8 svs (aZ y:dQ) (.bl true);rw [bq];simp;lia
    ·rw [B7]
     by_cases c1:z=y
     ·subst c1;simp
     ·rw [if_neg (by simpa using c1),sv7,aQ,aA];simp [c1]
  ·rintro Z H7 ⟨M',svs,o4,rfl,pre,ms7,mN7,dn7,r7,s7,sl7,sv7,F7⟩;rw [ag,bS (au _)] at dn7;walk_at "x";refine ⟨⟨j+1,M',svs,_,_,rfl,(aB.mp (G4 pre hc)).1,ms7,mN7,pre.subset haM,λi c' hi hc1 y hy=>?_,r7,s7,sl7,sv7,F7⟩,?_⟩
   ·by_cases hij:i=j
    ·subst hij;rw [G4 pre hc] at hc1;cases hc1;exact dn7 y hy
    ·obtain ⟨c2,hc2⟩:∃ c2,M[i]?=some c2:=⟨_,aC (by lia)⟩
     rw [G4 pre hc2] at hc1;cases hc1;exact pre.subset (done i _ (by lia) hc2 y hy)
   ·show (n+1:Int).toNat-((j:Int)+1).toNat<(n+1:Int).toNat-(j:Int).toNat
    lia
 ·have hjl:j=M.length:=by lia
  have hM:∀ x,x∈M↔x∈R a:=λx=>⟨ms.sub x,λhx=>by
   refine QX (M:=λx=>x∈M) (l:=R a) (λu v huv=>?_) ⟨_,kw.w.me a ha,haM⟩ x hx
   have cl:∀ {u v:Int},u∈M->(u,v)∈al (R a)->v∈M:=λ{u v} hu huv=>by
    obtain ⟨i,hi⟩:=bF.mp hu;exact done i u (by rw [hjl];exact (aB.mp hi).1) hi v ((hN u v).mpr (kw.e u v ⟨a,ha,huv⟩))
   exact ⟨λhu=>cl hu huv,λhv=>cl hv ((kw.w.r a ha).sym _ _ huv)⟩⟩
  walk_at "x";refine PU (de.of r6) (by lia) λs ls hs hperm hsort=>?_
  have nrd:d≠rw:=λz=>by rw [z,S4.free hrw] at g3;cases g3
  have nsd:d≠sd:=λz=>by rw [z,hsd] at g3;cases g3
  have hr0:∀ {b:af}{u:HO},H b=some u->b≠rw/\b≠sd:=λ{b u} e=>by
   by_cases c:b=d
   ·rw [c];exact ⟨nrd,nsd⟩
   ·have:=F3 _ _ e c;exact ⟨λz=>(by rw [z,S4.free hrw] at this;cases this),λz=>(by rw [z,hsd] at this;cases this)⟩
  have d6:H6 d=some (.frz o (.dT (kd ps))):=F6 _ _ nrd nsd (S35 _ _ g3);have F06:bH d H H6:=λb u e hb=>F6 _ _ (hr0 e).1 (hr0 e).2 (S35 _ _ (F3 _ _ e hb))
  have hs0:H s=none:=by
   cases e:H s with
   | none=>rfl
   | some u =>
    by_cases c:s=d
    ·rw [c,d6] at hs;cases hs
    ·rw [F06 _ _ e c] at hs;cases hs
  refine k s ls o _ hs0 aG ?_ (λx=>by rw [hperm.mem_iff];exact hM x) (by rw [aI (aR d6 hs)];exact d6) λb u e hb=>by rw [aI (aR e hs0)];exact F06 _ _ e hb
  exact (Ii hsort (hperm.nodup_iff.mpr ms.nd)).imp λ{x y} h=>by
   have h1:=h.1;have h2:x≠y:=h.2;lia
end K31
namespace K31
open Rm
variable {K:aa}{C:af}{A:CA}{Pt:af}
theorem WJ {ta:TA}{Z:L2.St}{H:Hp}{R:It->Hp->Prop}(h:ta Z H λvs H1=>∃ i j:Int,vs=[.int i,.int j]/\(-(2^62)<=i/\i<2^62/\-(2^62)<=j/\j<2^62)/\R (SK i (j-i).toNat) H1):Pd ta Z H R:=h
def ky (p:Int×Int):Int×Int:=(min p.1 p.2,max p.1 p.2)
structure Xo (n:Nat) (ps:List (Int×Int)):Prop where
 b:∀ p∈ps,0<=p.1/\p.1<n/\0<=p.2/\p.2<n/\p.1≠p.2
 nd:(ps.map ky).Nodup
 l:ps.length<=56
theorem Xo.perm {n:Nat}{ps qs:List (Int×Int)}(h:Xo n ps) (p:qs.Perm ps):Xo n qs:=⟨λq hq=>h.b q (p.mem_iff.mp hq),(p.map ky).nodup_iff.mpr h.nd,by rw [p.length_eq];exact h.l⟩
theorem U0 {p q:Int×Int}(h:ky p=ky q):(p.1=q.1/\p.2=q.2)\/(p.1=q.2/\p.2=q.1):=by
 unfold ky at h;obtain ⟨h1,h2⟩:=cC h;lia
theorem Dh {n m:Nat}{p:Nat->Bool}{f:Nat->Int×Int}(hm:m<=56) (hb:∀ i,i<m->p i=true->0<=(f i).1/\(f i).1<n/\0<=(f i).2/\(f i).2<n/\(f i).1≠(f i).2)
  (hi:∀ i j,i<m->j<m->p i=true->p j=true->(((f i).1=(f j).1/\(f i).2=(f j).2)\/((f i).1=(f j).2/\(f i).2=(f j).1))->i=j):Xo n (((fz m).filter p).map f):=by
 refine ⟨λq hq=>?_,?_,?_⟩
 ·obtain ⟨i,h,rfl⟩:=bw.mp hq;obtain ⟨h1,h2⟩:=cK.mp h;exact hb i (jL.mp h1) h2
 ·rw [bN];refine cS.mpr (List.Pairwise.imp_of_mem (λ{i j} a b c e=>?_) ((Vp (n:=m)).filter p));obtain ⟨a1,a2⟩:=cK.mp a;obtain ⟨b1,b2⟩:=cK.mp b;exact c (hi i j (jL.mp a1) (jL.mp b1) a2 b2 (U0 e))
 ·rw [ag];exact bz (cJ _ _) (by rw [jm];exact hm)
section
variable {H:Hp}
theorem uI {σ0:L2.St}{g:TG}{tt:TT}{te:TE}{acc:af}{R:Hp->Prop}{lo:Int}{m:Nat}(p:Nat->Bool) (f:Nat->Int×Int) (S:L2.St->Prop) (ha:H acc=none) (s0:S σ0) (hm:m<=1000)
  (turn:∀ (i:Nat) (σ':L2.St) (H':Hp) (G:V->L2.St->Hp->Prop) (G':L2.St->Hp->Prop),i<m->S σ'->(p i=true->∀ σ2 c,S σ2->H' c=none->G (.ref c) σ2 (upd H' c (.tup [.int (f i).1,.int (f i).2])))->(p i=false->∀ σ2,S σ2->G' σ2 H') ->
   g (.int (lo+i)) σ' H' λσ2 H3=>tt σ2 H3 λb H4=>if b=true then te σ2 H4 λy H5=>G y σ2 H5 else G' σ2 H4)
  (fin:∀ (zs:List Zt) H',b8 H H'->H' acc=some (.lst (zs.map j5))->(∀ z∈zs,fH H' z)->zs.map zP=((fz m).filter p).map f->R H') :
  ∃ W:Nat->Nat->List V->L2.St->Hp->Prop,(∃ m,W 0 m [] σ0 (upd H acc (.lst [])))/\∀ i m' ys σ' H',W i m' ys σ' H'->H' acc=some (.lst ys) /\
  (((SK lo m).stop i H'/\R H')\/((SK lo m).go i H'/\∀ x H2,(SK lo m).KA i H' x H2->g x σ' H2 λσ2 H3=>tt σ2 H3 λb H4 =>
   if b=true then te σ2 H4 λy H5=>H5 acc=some (.lst ys)/\ys.length<aY/\∃ m'',m''<m'/\W (i+1) m'' (ys++[y]) σ2 (upd H5 acc (.lst (ys++[y]))) else ∃ m'',m''<m'/\W (i+1) m'' ys σ2 H4)):=by
 refine nR (n:=m) (λi ys H'=>H' acc=some (.lst ys)/\b8 H H'/\∃ zs:List Zt,ys=zs.map j5/\zs.map zP=((fz i).filter p).map f/\∀ z∈zs,fH H' z) S ⟨aG,b8.cw ha,[],rfl,rfl,λz hz=>nomatch hz⟩ s0 ?_ ?_ ?_ ?_
 ·rintro i ys H' ⟨e,_⟩;exact e
 ·rintro ys H' ⟨e,S',zs,rfl,hz,pz⟩;exact ⟨au _,fin zs H' S' e pz hz⟩
 ·rintro i ys H' hi _;exact hi
 ·rintro i ys σ' H' x H2 hi ⟨e,S',zs,rfl,hz,pz⟩ hσ ⟨rfl,rfl⟩;have er:fz (i+1)=fz i++[i]:=List.range_succ
  have hzl:zs.length<=i:=by
   have:=congrArg df hz;rw [ag,ag] at this;rw [this];exact bz (cJ _ _) (by rw [jm];exact au _)
  refine turn i σ' H2 _ _ hi hσ (λhp σ2 c h2 hc=>?_) λhp σ2 h2=>?_
  ·have S6:=b8.cw (o:=.tup [.int (f i).1,.int (f i).2]) hc;have g6:(upd H2 c (.tup [.int (f i).1,.int (f i).2])) c=some (.tup [.int (f i).1,.int (f i).2]):=aG;generalize upd H2 c (.tup [.int (f i).1,.int (f i).2])=H6 at S6 g6 ⊢;have a6:=S6 _ _ e;have tn:∀ {z:Zt}{ys:List V},fH H6 z->fH (upd H6 acc (.lst ys)) z:=λ{z ys} e=>(aI (je e a6)).trans e;refine ⟨a6,ee (m:=1000) (by rw [ag];lia),k9.mk' hi h2 ⟨aG,λb' o' q=>by rw [aI (aR q ha)];exact S6 _ _ (S' _ _ q),zs++[((f i).1,(f i).2,c)],by rw [aT];rfl,?_,λz hz'=>?_⟩⟩
   ·rw [er,dk,aT,aT,hz];simp [hp];rfl
   ·rcases aQ.mp hz' with hz'|hz'
    ·exact tn (S6 _ _ (pz z hz'))
    ·rw [aA.mp hz'];exact tn (z:=((f i).1,(f i).2,c)) g6
  ·refine k9.mk' hi h2 ⟨e,S',zs,rfl,?_,pz⟩;rw [er,dk,aT,hz];simp [hp]
end
def eF (K:aa) (C:af):Sp:=λvs H Q _=>∃ (n:Nat) (c:Int),vs=[.int n,.int c]/\1<=n/\n<=24 /\
 ∀ (l:af) (zs:List Zt) (H':Hp),b8 H H'->H' l=some (.lst (zs.map j5))->(∀ z∈zs,fH H' z)->Xo n (zs.map zP)->Q (.ref l) H'
theorem Di:Rn (eF K C) (rj K C) Q3:=by
 rintro vs H Q E ⟨n,c,rfl,hn1,hn2,k⟩;unfold rj;walk_at "x";refine tV (λ_=>?_) λ_=>?_
 ·walk_at "x";refine ⟨by lia,by lia,λacc hacc=>?_⟩;refine uI (λ_=>true) (λi=>((i:Int),(i:Int)+1)) (λZ=>∃ o,Z=[o]) hacc ⟨_,rfl⟩ (by lia) ?_ ?_
  ·rintro i σ' H' G G' hi ⟨o,rfl⟩ g1 g2;walk_at "x";refine pX ?_;walk_at "x";refine ⟨bD (m:=2) (au 2),λq hq=>?_⟩;rw [show (0:Int)+(i:Int)=i by lia];exact g1 rfl _ q ⟨_,rfl⟩ hq
  ·intro zs H' S' gl pz ez;refine k acc zs H' S' gl pz ?_;rw [ez]
   exact Dh (by lia) (λi hi _=>by simp only;lia) λi j _ _ _ _ e=>by simp only at e;lia
 walk_at "x1"
 with_reducible refine zF (λZ H1=>H1=H/\Z=[some (.int n),some (.int c),some (.int (c%6))]) ?_ λgo=>?_
 rotate_left
 ·walk_at "x";refine tV (λ_=>?_) λ_=>kP (go _ _ ⟨rfl,rfl⟩);walk_at "x";refine tV (λhn=>?_) λ_=>go _ _ ⟨rfl,rfl⟩;walk_at "x";refine ⟨by lia,by lia,λacc hacc=>?_⟩;refine uI (λ_=>true) (λi=>((i:Int),(i:Int)+1)) (λZ=>∃ o,Z=[o]) hacc ⟨_,rfl⟩ (by lia) ?_ ?_
  ·rintro i σ' H' G G' hi ⟨o,rfl⟩ g1 g2;walk_at "x";refine pX ?_;walk_at "x";refine ⟨bD (m:=2) (au 2),λq hq=>?_⟩;rw [show (0:Int)+(i:Int)=i by lia];exact g1 rfl _ q ⟨_,rfl⟩ hq
  ·intro zs H' S' gl pz ez;walk_at "x";refine ⟨bD (m:=2) (au 2),λq hq=>?_⟩;generalize eu_:upd H' q (.tup [.int 0,.int ((n:Int)-1)])=H2;obtain ⟨S2,g2⟩:=lF eu_ hq;walk_at "x";refine ⟨bD (m:=1) (au 1),λr hr=>?_⟩;generalize eu_:upd H2 r (.lst [.ref q])=H3;obtain ⟨S3,g3⟩:=lF eu_ hr
   have hzl:zs.length=n-1:=by
    have:=congrArg df ez;rw [ag,ag,ml.mpr (λ_ _=>rfl),jm] at this;lia
   refine MQ (S3 _ _ (S2 _ _ gl)) g3 (bD (m:=100) (by rw [ag];simp;lia)) λs hs=>?_;have S4:=b8.cw (o:=.lst (zs.map j5++[.ref q])) hs;refine k s (zs++[(0,(n:Int)-1,q)]) _ (((S'.trans S2).trans S3).trans S4) (by rw [aG,aT];rfl) (λz hz=>?_) ?_
   ·rcases aQ.mp hz with hz|hz
    ·exact S4 _ _ (S3 _ _ (S2 _ _ (pz z hz)))
    ·rw [aA.mp hz];exact S4 _ _ (S3 _ _ g2)
   ·have h0:Xo n (((fz ((n:Int)-1).toNat).filter λ_=>true).map λi:Nat=>((i:Int),(i:Int)+1)):=Dh (by lia) (λi hi _=>by simp only;lia) λi j _ _ _ _ e=>by simp only at e;lia
    rw [aT,ez];refine ⟨λp hp=>?_,?_,?_⟩
    ·rcases aQ.mp hp with hp|hp
     ·exact h0.b p hp
     ·rw [aA.mp hp];show (0:Int)<=0/\(0:Int)<n/\0<=(n:Int)-1/\(n:Int)-1<n/\(0:Int)≠(n:Int)-1;lia
    ·rw [aT,fZ];refine ⟨h0.nd,by simp,λx hx y hy e=>?_⟩;subst e;rw [aA.mp hy] at hx;obtain ⟨p,hp,e⟩:=bw.mp hx;obtain ⟨i,hi,rfl⟩:=bw.mp hp;have e:=U0 e;have:i<((n:Int)-1).toNat:=jL.mp (cK.mp hi).1;simp only [zP] at e;lia
    ·rw [bq];have:=h0.l;rw [ag,ml.mpr (λ_ _=>rfl),jm] at this ⊢;simp;lia
 rintro Z H1 ⟨rfl,rfl⟩;walk_at "x";refine tV (λ_=>?_) λ_=>?_
 ·walk_at "x1";walk_at "x1";refine WJ ?_;walk_at "x";refine ⟨8,64,rfl,⟨by lia,by lia,by lia,by lia⟩,λacc hacc=>?_⟩;refine uI (m:=56) (λi=>decide ((8+(i:Int))%8+(8+(i:Int))/8<if (8:Int)<(n:Int) then (8:Int) else (n:Int))) (λi=>((8+(i:Int))%8,(8+(i:Int))%8+(8+(i:Int))/8)) (λZ=>∃ o,Z=[o,some (.int n)]) hacc ⟨_,rfl⟩ (by lia) ?_ ?_
  ·rintro i σ' H' G G' hi ⟨o,rfl⟩ g1 g2;walk_at "x";refine tV (λh=>?_) λh=>g2 (decide_eq_false h) _ ⟨_,rfl⟩;walk_at "x";exact ⟨bD (m:=2) (au 2),λq hq=>g1 (decide_eq_true h) _ q ⟨_,rfl⟩ hq⟩
  ·intro zs H' S' gl pz ez;refine k acc zs H' S' gl pz ?_;rw [ez];refine Dh (by lia) (λi hi h=>?_) λi j _ _ h1 h2 e=>?_
   ·have h:=of_decide_eq_true h;simp only
    split at h<;>lia
   ·simp only at e;lia
 walk_at "x";refine tV (λ_=>?_) λ_=>?_
 ·obtain ⟨d,ed,hd⟩:=em (n:=n) hn1 (c/6);walk_at "x";refine ⟨by lia,by lia,λacc hacc=>?_⟩;refine uI (λi=>!decide (V.int i=V.int d)) (λi=>((d:Int),(i:Int))) (λZ=>∃ o,Z=[o,some (.int n),some (.int c)]) hacc ⟨_,rfl⟩ (by lia) ?_ ?_
  ·rintro i σ' H' G G' hi ⟨o,rfl⟩ g1 g2;walk_at "x";rw [ed,show (0:Int)+(i:Int)=i by lia];refine Tp (λh=>?_) λh=>g2 (by rw [decide_eq_true h];rfl) _ ⟨_,rfl⟩;walk_at "x";rw [ed];exact ⟨bD (m:=2) (au 2),λq hq=>g1 (by rw [decide_eq_false h];rfl) _ q ⟨_,rfl⟩ hq⟩
  ·intro zs H' S' gl pz ez;refine k acc zs H' S' gl pz ?_;rw [ez];refine Dh (by lia) (λi hi h=>?_) λi j _ _ h1 h2 e=>?_
   ·have h:¬ (V.int i=V.int d):=by simpa using h
    have:(i:Int)≠d:=λz=>h (by rw [z]);simp only;lia
   ·simp only at e;lia
 walk_at "x";refine tV (λ_=>?_) λ_=>?_
 ·walk_at "x";refine ⟨by lia,by lia,λacc hacc=>?_⟩;refine uI (λi=>decide ((i:Int)/2+1+(i:Int)%2<n)) (λi=>((i:Int)/2,(i:Int)/2+1+(i:Int)%2)) (λZ=>∃ o,Z=[o,some (.int n)]) hacc ⟨_,rfl⟩ (by lia) ?_ ?_
  ·rintro i σ' H' G G' hi ⟨o,rfl⟩ g1 g2;walk_at "x";rw [show (0:Int)+(i:Int)=i by lia];refine tV (λh=>?_) λh=>g2 (decide_eq_false h) _ ⟨_,rfl⟩;walk_at "x";exact ⟨bD (m:=2) (au 2),λq hq=>g1 (decide_eq_true h) _ q ⟨_,rfl⟩ hq⟩
  ·intro zs H' S' gl pz ez;refine k acc zs H' S' gl pz ?_;rw [ez];refine Dh (by lia) (λi hi h=>?_) λi j _ _ h1 h2 e=>?_
   ·have h:=of_decide_eq_true h;simp only;lia
   ·simp only at e;lia
 walk_at "x";refine ⟨bD (m:=0) (au 0),λl hl=>?_⟩;exact k l [] _ (b8.cw hl) aG (λz hz=>nomatch hz) ⟨(λp hp=>nomatch hp),.nil,by decide⟩
def eE (K:aa) (C:af):Sp:=λvs H Q _=>∃ (l:af) (c:Int) (zs:List Zt),vs=[.ref l,.int c]/\H l=some (.lst (zs.map j5))/\zs.length<=100 /\
 ∀ (q:af) (zs':List Zt) (H':Hp),b8 H H'->H q=none->H' q=some (.lst (zs'.map j5))->zs'.Perm zs->Q (.ref q) H'
theorem Dj:Rn (eE K C) (rm K C) QZ:=by
 rintro vs H Q E ⟨l,c,zs,rfl,hl,hz,k⟩;unfold rm;walk_at "x";refine wA (de.of hl) ?_;rw [ag];walk_at "x";refine tV (λh=>?_) λh=>?_
 ·walk_at "x";refine ⟨bD (m:=0) (au 0),λq hq=>?_⟩;have e:zs=[]:=j9 (by have:=lT.mp h;lia);subst e;exact k q [] _ (b8.cw hq) hq aG (.refl _)
 have hz0:0<zs.length:=Uv λz=>h (by rw [z];rfl);obtain ⟨j,ej,hj⟩:=em hz0 c;walk_at "x";rw [ej];refine Al (de.of hl) λq hq=>?_;rw [IT rfl,← Ac];generalize eu_:upd H q (.lst ((zs.drop j).map j5))=H1;obtain ⟨S1,g1⟩:=lF eu_ hq;walk_at "x";refine Al (de.of (S1 _ _ hl)) λr hr=>?_;rw [Cg rfl,← pJ];generalize eu_:upd H1 r (.lst ((zs.take j).map j5))=H2;obtain ⟨S2,g2⟩:=lF eu_ hr;refine MQ (S2 _ _ g1) g2 (bD (m:=1000) (by rw [ag,ag,cQ,bO];lia)) λs hs=>?_;rw [← aT];have pm:(zs.drop j++zs.take j).Perm zs:=gB.trans (.of_eq (fq j zs));generalize eu_:upd H2 s (.lst ((zs.drop j++zs.take j).map j5))=H3;obtain ⟨S3,g3⟩:=lF eu_ hs;have S03:=(S1.trans S2).trans S3;walk_at "x";refine tV (λ_=>?_) λ_=>?_
 ·walk_at "x";refine Wh ?_;walk_at "x";refine ⟨s,_,rfl,de.of g3,λt ht=>?_⟩;rw [← List.map_reverse];exact k t _ _ (S03.trans (b8.cw ht)) (S03.free ht) aG ((tD _).trans pm)
 ·walk_at "x";exact k s _ _ S03 ((S1.trans S2).free hs) g3 pm
end K31
namespace K31
open Rm
variable {K:aa}{C:af}{A:CA}{Pt:af}
def LI (t:Ti):PyData:=.tuple [.int t.x,.int t.y,.int t.cT,.bool t.wd]
theorem tm {K:aa}{H:Hp}:∀ {us:List (Ti×af)},(∀ u∈us,ou H u)->fj K H ((us.map (·.1)).map LI) (us.map ow)
 | [],_=>.nil
 | u::us,h=>.cons (.tup (.of (h u av)) (.cons (.int _) (.cons (.int _) (.cons (.int _) (.cons (by simp only [Rep]) .nil))))) (tm λy hy=>h y (ak _ hy))
theorem FW:∀ L:List Ti,e9 (L.map LI)=true
 | []=>rfl
 | t::ts=>by simp only [bT,e9,gW];exact ⟨by simp [LI,nq,e9],FW ts⟩
theorem FX:∀ L:List Ti,dz (L.map LI)<=2
 | []=>by simp [dz]
 | t::ts=>by
  have:=FX ts;simp only [bT,dz]
  have e:(LI t).depth<=2:=by simp [LI,j4,dz]
  lia
theorem oz (L:List Ti):wy (.list (L.map LI)):=⟨by simp [nq,FW],by have:=FX L;simp only [j4];lia⟩
theorem zG {α:Type} {f:α->List Int}(inj:∀ x y,f x=f y->x=y) {xs ys:List α}(p:xs.Perm ys) (h1:xs.Pairwise λx y=>gG (f y) (f x)=false) (h2:ys.Pairwise λx y=>gG (f y) (f x)=false):xs=ys :=
 List.Perm.eq_of_pairwise (le:=λx y=>gG (f y) (f x)=false) (λa b _ _ h h'=>inj _ _ (by
  rcases wB h with q|q
  ·rw [h'] at q;cases q
  ·exact q.symm)) h1 h2 p
theorem JL (t u:Ti) (h:wY t=wY u):t=u:=by
 obtain ⟨x,y,l,b⟩:=t;obtain ⟨x',y',l',b'⟩:=u;unfold wY at h;obtain ⟨h1,h⟩:=gA h;obtain ⟨h2,h⟩:=gA h;obtain ⟨h3,h⟩:=gA h;obtain ⟨h4,_⟩:=gA h;have e1:x=x':=Ft h1;have e2:y=y':=Ft h2;have e3:l=l':=Ft h3
 have e4:b=b':=by
  change b2i b=b2i b' at h4
  revert h4;cases b<;>cases b'<;>decide
 rw [e1,e2,e3,e4]
theorem Ni {K:aa}{H:Hp}{q:af}{us:List (Ti×af)}{Q:VK}(hq:de K H q (us.map ow)) (fl:∀ u∈us,ou H u) (hl:us.length<128)
  (k:∀ (l:af) (us':List (Ti×af)),H l=none->us'.Perm us->us'.Pairwise (λu v=>gG (wY v.1) (wY u.1)=false)->Q (.ref l) (upd H l (.lst (us'.map ow)))):oe K [.ref q] H Q:=by
 refine ⟨q,us.map λu=>((wY u.1,u.2):Zn),[false,false,true],rfl,by rw [bN];exact hq,λz hz=>?_,by rw [ag];exact hl,λl zs' hn hp hs=>?_⟩
 ·obtain ⟨u,hu,rfl⟩:=bw.mp hz;exact ⟨_,fl u hu,.int _ (.int _ (.int _ (.bl _ .nil)))⟩
 ·obtain ⟨us',hu,rfl⟩:=Sy.perm_map hp.symm us rfl;rw [bN];exact k l us' hn hu (cS.mp hs)
def i9 (K:aa) (C:af):Sp:=λvs H Q _=>∃ (l:af) (us:List (Ti×af)),vs=[.ref l]/\H l=some (.lst (us.map ow))/\(∀ u∈us,ou H u)/\us.length<128/\us.Pairwise (λu v=>gG (wY v.1) (wY u.1)=false)/\∀ H',b8 H H'->Q (.bl true) H'
theorem Dk:Rn (i9 K C) (rn K C) Q1:=by
 rintro vs H Q E ⟨l,us,rfl,hl,fl,hn,hs,k⟩;unfold rn;walk_at "x";refine vQ (.lst hl) PY ?_;refine ⟨true,rfl,kP ?_⟩;walk_at "x";unfold tH;walk_at "x";refine .inl ⟨⟨_,de.of hl⟩,mx (K:=K) (a:=l) (xs:=us.map ow) (λi Z H4=>b8 H H4/\∃ o1 o2,Z=[some (.ref l),o1,o2]) ⟨λ_ _ e=>e,_,_,rfl⟩ ?_ ?_ ?_⟩
 ·rintro i Z H4 _ ⟨S4,_⟩;exact de.of (S4 _ _ hl)
 ·rintro i v Z H4 hi ⟨S4,o1,o2,rfl⟩;rw [aD] at hi;obtain ⟨u,hu,rfl⟩:=bx.mp hi;have hp:=S4 _ _ (fl u (aW hu));walk_at "x";refine vQ (.tup hp) V9 ?_;refine ⟨true,rfl,kP ?_⟩;walk_at "x";refine V1 (.of hp) ?_;walk_at "x";refine Tp (λc=>absurd rfl c) λ_=>?_;walk_at "x";refine jM (.of hp) (v:=.bl u.1.wd) rfl ?_;walk_at "x";refine vQ (.bl _) K8 ?_;refine ⟨true,rfl,kP ?_⟩;walk_at "x";unfold tG;walk_at "x";refine ⟨u.2,_,rfl,mR.of hp,(λz=>by have:=z.2;simp [HT.nv] at this),λq hq=>?_⟩;rw [Cg (show (3:Int)=((3:Nat):Int) from rfl)];have S5:=b8.cw (o:=.tup [.int u.1.x,.int u.1.y,.int u.1.cT]) hq;have g5:(upd H4 q (.tup [.int u.1.x,.int u.1.y,.int u.1.cT])) q=some (.tup [.int u.1.x,.int u.1.y,.int u.1.cT]):=aG;rw [show List.take 3 [V.int u.1.x,V.int u.1.y,V.int u.1.cT,V.bl u.1.wd]=[.int u.1.x,.int u.1.y,.int u.1.cT] from rfl];generalize upd H4 q (.tup [.int u.1.x,.int u.1.y,.int u.1.cT])=H5 at S5 g5 ⊢;refine ⟨q,rfl,.inr (.inl ⟨⟨_,mR.of g5⟩,MF (K:=K) (a:=q) (xs:=[.int u.1.x,.int u.1.y,.int u.1.cT]) (λi Z H6=>H6=H5/\∃ o1 o2,Z=[some (.ref l),o1,o2]) ⟨rfl,_,_,rfl⟩ ?_ ?_ ?_⟩)⟩
  ·rintro i Z H6 _ ⟨rfl,_⟩;exact mR.of g5
  ·rintro i v Z H6 hi ⟨rfl,o1,o2,rfl⟩
   obtain ⟨c,rfl⟩:∃ c:Int,v=.int c:=by
    have:=aW hi;simp at this
    rcases this with q|q|q<;>exact ⟨_,q⟩
   walk_at "x";refine vQ (.int _) PV ?_;refine ⟨true,rfl,kP ?_⟩;walk_at "x";refine vQ (.int _) PX ?_;refine ⟨false,rfl,kP ?_⟩;walk_at "x";exact ⟨rfl,_,_,rfl⟩
  ·rintro Z H6 ⟨rfl,o1,o2,rfl⟩;exact ⟨S4.trans S5,_,_,rfl⟩
 ·rintro Z H4 ⟨S4,o1,o2,rfl⟩;have fl4:∀ u∈us,ou H4 u:=λu hu=>S4 _ _ (fl u hu);walk_at "x";refine Ni (de.of (S4 _ _ hl)) fl4 hn λq us' hq hp hs'=>?_;have S5:=b8.cw (o:=.lst (us'.map ow)) hq;have g5:(upd H4 q (.lst (us'.map ow))) q=some (.lst (us'.map ow)):=aG;generalize upd H4 q (.lst (us'.map ow))=H5 at S5 g5 ⊢;have e:us'.map (·.1)=us.map (·.1):=zG JL (hp.map (·.1)) (cS.mpr hs') (cS.mpr hs);have r1:=tm (K:=K) λu hu=>S5 _ _ (fl4 u (hp.mem_iff.mp hu));rw [e] at r1;refine IQ (.lst (de.of (S5 _ _ (S4 _ _ hl))) (tm λu hu=>S5 _ _ (fl4 u hu))) (.lst (de.of g5) r1) (oz _) (oz _) ?_;rw [rH _ (oz _).lay];exact k _ (S4.trans S5)
end K31
namespace K31
open Rm
variable {K:aa}{C:af}{A:CA}{Pt:af}
theorem G5 {K:aa}{tt:TT}{o:Option V}{rest:L2.St}{H:Hp}{z acc:af}{us:List (Ti×af)}{R:Hp->Prop}(pf:Ti×af->Bool) (hz:H z=some (.lst (us.map ow))) (fl:∀ u∈us,ou H u) (hl:us.length<128) (ha:H acc=none)
   (turn:∀ (u:Ti×af) (H':Hp) (G:Bool->Hp->Prop),u∈us->ou H' u->G (pf u) H'->tt (some (ow u)::rest) H' G)
   (fin:∀ (zs:List Zt) (H':Hp),b8 H H'->H' acc=some (.lst (zs.map j5))->(∀ z∈zs,fH H' z)->zs.map zP=(us.filter pf).map (λu=>u.1.key)->R H') :
  ∃ W:Nat->Nat->List V->L2.St->Hp->Prop,(∃ m,W 0 m [] (o::rest) (upd H acc (.lst [])))/\∀ i m ys σ' H',W i m ys σ' H'->H' acc=some (.lst ys) /\
  (((KN K z).stop i H'/\R H')\/((KN K z).go i H'/\∀ x H2,(KN K z).KA i H' x H2->(bJ 0) x σ' H2 λσ2 H3=>tt σ2 H3 λb H4 =>
   if b=true then (mn (ay (cV (eP K) (aw 0) (tC (.int 0))) (ay (cV (eP K) (aw 0) (tC (.int 1))) bj))) σ2 H4 λy H5=>H5 acc=some (.lst ys)/\ys.length<aY/\∃ m',m'<m/\W (i+1) m' (ys++[y]) σ2 (upd H5 acc (.lst (ys++[y]))) else ∃ m',m'<m/\W (i+1) m' ys σ2 H4)):=by
 refine nR (n:=us.length) (λt ys H4=>H4 acc=some (.lst ys)/\b8 H H4/\∃ zs:List Zt,ys=zs.map j5/\zs.map zP=((us.take t).filter pf).map (λu=>u.1.key)/\∀ z∈zs,fH H4 z) (λZ=>∃ o,Z=o::rest) ⟨aG,b8.cw ha,[],rfl,rfl,λz hz=>nomatch hz⟩ ⟨_,rfl⟩ ?_ ?_ ?_ ?_
 ·rintro t ys H4 ⟨e,_⟩;exact e
 ·rintro ys H2 ⟨g2,S2,zs,rfl,hz',pz⟩;rw [bS (au _)] at hz';exact ⟨⟨_,de.of (S2 _ _ hz),by rw [ag];exact au _⟩,fin zs H2 S2 g2 pz hz'⟩
 ·rintro t ys H4 ht ⟨_,S4,_⟩;exact ⟨_,_,de.of (S4 _ _ hz),aC (by rw [ag];exact ht)⟩
 ·rintro t ys σ' H4 v H5 ht ⟨g4,S4,zs,rfl,hz',pz⟩ ⟨o,rfl⟩ ⟨e2,hv⟩;subst e2;have hv:=hv _ (de.of (S4 _ _ hz));rw [aD] at hv;obtain ⟨u,hu,rfl⟩:=bx.mp hv;have hum:=aW hu;have r4:=S4 _ _ (fl u hum)
  have et:us.take (t+1)=us.take t++[u]:=by rw [d9,hu];rfl
  have hzl:zs.length<=t:=by
   have:=congrArg df hz';rw [ag,ag] at this;rw [this];exact bz (cJ _ _) (by rw [bO];lia)
  refine Br ?_;refine turn u H5 _ hum r4 ?_
  cases hw:pf u with
  | false =>
   refine kP (k9.mk' ht ⟨_,rfl⟩ ⟨g4,S4,zs,rfl,?_,pz⟩)
   rw [et,dk,aT,hz'];simp [hw]
  | true =>
   refine pX ?_;walk_at "x";refine jM (mR.of r4) (v:=.int u.1.x) rfl ?_;walk_at "x";refine jM (mR.of r4) (v:=.int u.1.y) rfl ?_;walk_at "x";refine ⟨bD (m:=2) (au 2),λc hc=>?_⟩;have S6:=b8.cw (o:=.tup [.int u.1.x,.int u.1.y]) hc;have g6:(upd H5 c (.tup [.int u.1.x,.int u.1.y])) c=some (.tup [.int u.1.x,.int u.1.y]):=aG;generalize upd H5 c (.tup [.int u.1.x,.int u.1.y])=H6 at S6 g6 ⊢;have a6:=S6 _ _ g4;have tn:∀ {z:Zt}{ys:List V},fH H6 z->fH (upd H6 acc (.lst ys)) z:=λ{z ys} e=>(aI (je e a6)).trans e;refine ⟨a6,ee (m:=200) (by rw [ag];lia),k9.mk' ht ⟨_,rfl⟩ ⟨aG,λb' o' e=>by rw [aI (aR e ha)];exact S6 _ _ (S4 _ _ e),zs++[((u.1.x:Int),(u.1.y:Int),c)],by rw [aT];rfl,?_,λz hz''=>?_⟩⟩
   ·rw [et,dk,aT,aT,hz'];simp [hw];rfl
   ·rcases aQ.mp hz'' with q|q
    ·exact tn (S6 _ _ (pz z q))
    ·rw [aA.mp q];exact tn (z:=((u.1.x:Int),(u.1.y:Int),c)) g6
theorem WK (L:List (Int×Int)) (q:Int×Int):((L.map x6).any λe=>dC e (x6 q))=decide (q∈L):=by
 rw [Nz,ji,D6,decide_eq_true_iff]
 constructor
 ·rintro ⟨t,ht,e⟩;have e:dC (x6 t) (x6 q)=true:=e;rw [C6,decide_eq_true_iff] at e;exact e▸ht
 ·exact λh=>⟨q,h,by show dC (x6 q) (x6 q)=true;rw [C6];simp⟩
def fe (K:aa) (C:af):Sp:=λvs H Q _=>∃ (l:af) (us:List (Ti×af)) (n:Nat) (c:Int),vs=[.ref l,.int n,.int c]/\H l=some (.lst (us.map ow))/\(∀ u∈us,ou H u)/\us.length<128/\1<=n/\n<=24/\(us≠[]->∃ u∈us,u.1.wd=true)/\(∀ H',b8 H H'->Q .non H') /\
 ∀ (t r:af) (w:bu) (x y:Int) (H':Hp),b8 H H'->H' t=some (.tup [.str w,.ref r])->H' r=some (.tup [.int x,.int y])->(w="out"/\(x,y)∈us.map (λu=>u.1.key))\/(w="put"/\(∃ i j:Nat,x=i/\y=j/\i<j/\j<n)/\(x,y)∉us.map (λu=>u.1.key))->Q (.ref t) H'
theorem Ey:Rn (fe K C) (sT K C) Wv:=by
 rintro vs H Q E ⟨l,us,n,c,rfl,hl,fl,hlen,hn1,hn2,hw,kN,k⟩;unfold sT;walk_at "x";refine .inl ⟨⟨_,de.of hl⟩,λacc hacc=>G5 (o:=none) (rest:=[]) (λ_=>true) hl fl hlen hacc (λu H' G _ _ g=>g) λzs H1 S1 g1 pz1 e1=>?_⟩;rw [ml.mpr λ_ _=>rfl] at e1
 have hzl:zs.length=us.length:=by have:=congrArg df e1;simpa using this
 have out:∀ {H2:Hp}{q:af}{zs2:List Zt}{z:Int}{Z:L2.St}{i:Nat},b8 H1 H2->H2 q=some (.lst (zs2.map j5))->(∀ z∈zs2,fH H2 z)->(∀ z∈zs2,zP z∈us.map (λu=>u.1.key))->0<zs2.length->Z[4]?=some (some (.int z))->Z[i]?=some (some (.ref q)) ->
   (eY (mn (ay (tC (.str "out")) (ay (cV (eP K) (aw i) (cV (rI (λ_ j=>0<j) λi j=>.int (i%j)) (aw 4) (qT (vv K) (ay (aw i) bj)))) bj)))) { nx:=λ_ H'=>Q .non H',rt:=Q } Z H2:=by
  intro H2 q zs2 z Z i S2 g2 pz2 hz2 h0 h4 hi;obtain ⟨j,ej,hj⟩:=em h0 z;have gz:=aC hj;have hm:=lR hj;generalize zs2[j]=zz at gz hm;walk_at "x1";walk_at "x1";walk_at "x1";walk_at "x1";walk_at "x1";walk_at "x1";refine rP hi ?_;walk_at "x1";refine rP h4 ?_;walk_at "x1";walk_at "x1";refine rP hi ?_;walk_at "x";refine wA (de.of g2) ?_;rw [ag];walk_at "x";rw [ej];refine pY (de.of g2) (v:=j5 zz) (fG rfl (by rw [aD,gz];rfl)) ?_;walk_at "x";refine ⟨bD (m:=2) (au 2),λt ht=>?_⟩;have S3:=b8.cw (o:=.tup [.str "out",j5 zz]) ht;exact k t zz.2.2 "out" zz.1 zz.2.1 _ (S1.trans (S2.trans S3)) aG (S3 _ _ (pz2 zz hm)) (.inl ⟨rfl,hz2 zz hm⟩)
 have hz1:∀ z∈zs,zP z∈us.map (λu=>u.1.key):=λz hz=>by rw [← e1];exact bp hz
 iterate 8 (walk_at "x1")
 with_reducible refine zF (λZ H2=>H2=H1/\Z=[some (.ref l),some (.int n),some (.int c),some (.ref acc),some (.int (c/8)),none,none,none,none,none]) ?_ λgo=>?_
 ·rintro Z H2 ⟨rfl,rfl⟩
  with_reducible refine zF (λZ H3=>H3=H2/\Z=[some (.ref l),some (.int n),some (.int c),some (.ref acc),some (.int (c/8)),none,none,none,none,none]) ?_ λgo=>?_
  ·rintro Z H3 ⟨rfl,rfl⟩;obtain ⟨a,ea,ha⟩:=em (n:=n) (by lia) (c/8);obtain ⟨b,eb,hb⟩:=em (n:=n) (by lia) (c/8/(n:Int));walk_at "x";rw [ea,eb];rw [show (if (b:Int)<a then (b:Int) else a)=((min a b:Nat):Int) by split<;>lia,show (if (b:Int)>a then (b:Int) else a)=((max a b:Nat):Int) by split<;>lia];refine ⟨bD (m:=2) (au 2),λt ht=>?_⟩;have S4:=b8.cw (o:=.tup [.int (min a b:Nat),.int (max a b:Nat)]) ht;have g4:(upd H3 t (.tup [.int (min a b:Nat),.int (max a b:Nat)])) t=some (.tup [.int (min a b:Nat),.int (max a b:Nat)]):=aG;generalize upd H3 t (.tup [.int (min a b:Nat),.int (max a b:Nat)])=H4 at S4 g4 ⊢;walk_at "x";refine tV (λ_=>?_) λhab=>?_
   ·walk_at "x";exact kN _ (S1.trans S4)
   ·have hab:a≠b:=λe=>hab (by rw [e]);walk_at "x";refine PQ (GT g4) (GQ (S4 _ _ g1) (sZ pz1 S4)) (GS _) (gj _ (uD _)) ?_;rw [WK,e1]
    have fin:∀ w:bu,(w="out"/\(((min a b:Nat):Int),((max a b:Nat):Int))∈us.map (λu=>u.1.key))\/(w="put"/\(((min a b:Nat):Int),((max a b:Nat):Int))∉us.map (λu=>u.1.key))->∀ q,H4 q=none->Q (.ref q) (upd H4 q (.tup [.str w,.ref t])):=λw hw q hq =>
     have S5:=b8.cw (o:=.tup [.str w,.ref t]) hq
     k q t w _ _ _ (S1.trans (S4.trans S5)) aG (S5 _ _ g4) (hw.imp id λh=>⟨h.1,⟨min a b,max a b,rfl,rfl,by lia,by lia⟩,h.2⟩)
    walk_at "x";refine tV (λh=>?_) λh=>?_
    ·walk_at "x";exact ⟨bD (m:=2) (au 2),λq hq=>fin "out" (.inl ⟨rfl,h⟩) q hq⟩
    ·walk_at "x";exact ⟨bD (m:=2) (au 2),λq hq=>fin "put" (.inr ⟨rfl,h⟩) q hq⟩
  ·walk_at "x";refine tV (λ_=>?_) λ_=>?_
   ·walk_at "x";refine wA (de.of g1) ?_;rw [ag];walk_at "x";refine tV (λh0=>?_) λ_=>?_
    ·exact out (λ_ _ e=>e) g1 pz1 hz1 (by lia) rfl rfl
    ·exact go _ _ ⟨rfl,rfl⟩
   ·refine kP ?_;exact go _ _ ⟨rfl,rfl⟩
 ·walk_at "x";refine tV (λ_=>?_) λ_=>?_
  ·walk_at "x";refine wA (de.of g1) ?_;rw [ag];walk_at "x";refine tV (λh0=>?_) λ_=>?_
   ·obtain ⟨u0,hu0,hw0⟩:=hw (λe=>by rw [e] at hzl;have:zs.length=0:=hzl;lia);have fl1:∀ u∈us,ou H1 u:=λu hu=>S1 _ _ (fl u hu);walk_at "x";refine .inl ⟨⟨_,de.of (S1 _ _ hl)⟩,λacc2 hacc2=>Bt (K:=K) us (λu=>u.1.wd) (λu=>.int u.1.cT) (λZ=>∃ o,Z=[o]) (by rw [ag]) (de.of (S1 _ _ hl)) hacc2 ⟨_,rfl⟩ (by rw [ag];lia) ?_ λH2 S2 g2=>?_⟩
    ·rintro i u x σ' H' G G' hu hx S' ⟨o,rfl⟩ hG hG';rw [aD,hu] at hx;cases hx;have r4:=S' _ _ (fl1 u (aW hu));walk_at "x";refine jM (mR.of r4) (v:=.bl u.1.wd) rfl ?_;refine ⟨_,rfl,?_⟩
     cases hw:u.1.wd with
     | false=>exact kP (hG' hw _ ⟨_,rfl⟩)
     | true =>
      refine pX ?_;walk_at "x";refine jM (mR.of r4) (v:=.int u.1.cT) rfl ?_;exact hG hw _ ⟨_,rfl⟩
    ·walk_at "x";refine ⟨acc2,((us.filter λu=>u.1.wd).map λu=>(u.1.cT:Int)),rfl,by rw [bN];exact de.of g2,by rw [ag];exact nY (cK.mpr ⟨hu0,hw0⟩),λM hM _=>?_⟩;obtain ⟨u1,hu1,eM⟩:=bw.mp hM;obtain ⟨hu1,hw1⟩:=cK.mp hu1;have fl2:∀ u∈us,ou H2 u:=λu hu=>S2 _ _ (fl1 u hu);walk_at "x";refine .inl ⟨⟨_,de.of (S2 _ _ (S1 _ _ hl))⟩,λacc3 hacc3=>G5 (o:=none) (rest:=[some (.int M)]) (λu=>u.1.wd && decide ((u.1.cT:Int)=M)) (S2 _ _ (S1 _ _ hl)) fl2 hlen hacc3 (λu H' G hu r4 g=>?_) λzs3 H3 S3 g3 pz3 e3=>?_⟩
     ·walk_at "x";refine jM (mR.of r4) (v:=.bl u.1.wd) rfl ?_;refine ⟨_,rfl,?_⟩
      cases hw:u.1.wd with
      | false=>rw [hw] at g;exact kP g
      | true =>
       rw [hw] at g;refine pX ?_;walk_at "x";refine jM (mR.of r4) (v:=.int u.1.cT) rfl ?_;walk_at "x";rw [show decide (V.int u.1.cT=V.int M)=decide ((u.1.cT:Int)=M) from decide_eq_decide.mpr ⟨V.int.inj,congrArg V.int⟩];exact g
     ·walk_at "x1";refine out (S2.trans S3) g3 pz3 (λz hz=>?_) ?_ rfl rfl
      ·have:=bp (f:=zP) hz;rw [e3] at this;obtain ⟨u,hu,e⟩:=bw.mp this;rw [← e];exact bp (f:=λu:Ti×af=>u.1.key) (cK.mp hu).1
      ·have h3:=congrArg df e3;rw [ag,ag] at h3;rw [h3];exact nY (cK.mpr ⟨hu1,by rw [hw1,eM];simp⟩)
   ·exact go _ _ ⟨rfl,rfl⟩
  ·refine kP ?_;exact go _ _ ⟨rfl,rfl⟩
end K31
namespace K31
open Rm
variable {K:aa}{C:af}{A:CA}{Pt:af}
section
variable {C:af}{A:CA}{H H':Hp}{a:AL}{n T:Nat}{ts:List Ti}{as:Nat->List af}{R:Nat->Nat->List Int}{p dx Pt:af}
theorem KP.keep (h:KP C A H p dx a n T ts as R) {X:List af}(F:Fm X H H') (h1:∀ b∈X,b∉p::a.L::fp a) (h2:∀ b∈X,(∀ c e f,H b=some (.ins c e f)->f.lookup ("rows":bu)=none/\f.lookup ("woods":bu)=none)/\∀ r:List Int,r≠[]->H b≠some (.lst (r.map V.int))):KP C A H' p dx a n T ts as R:=by
 obtain ⟨w,c1,c2,c3,c4,hw,hp⟩:=h.ob;refine ⟨⟨w,c1,c2,c3,c4,hw,F _ _ (λz=>h1 _ z av) hp⟩,h.lv.keep F (λx f e _ hx hm=>?_) (λb hb z=>h1 b z (ak _ (ak _ hb))) (λz=>h1 _ z (ak _ av)) (λb r hr e z=>(h2 b z).2 r hr e),h.iv,h.jn,h.tp⟩
 rcases hx with z|⟨v,hv,z⟩
 ·have:=((h2 x hm).1 _ _ _ (by rw [z];exact h.lv.ob)).2;rw [UX] at this;cases this
 ·obtain ⟨i,_,hi⟩:=h.lv.at hv;have:=((h2 x hm).1 _ _ _ (by rw [z];exact (h.lv.wa i v hi).ob)).1;rw [jt] at this;cases this
theorem KP.set (h:KP C A H p dx a n T ts as R) {d:af}{u u':List (List dQ×V)}(hd:H d=some (.dT u)) (hn:d∉a.L::fp a):KP C A (upd H d (.dT u')) p dx a n T ts as R :=
 h.keep (X:=[d]) (Fm.upd av) (λb hb z=>by
  rw [aA.mp hb] at z
  rcases ax.mp z with rfl|z
  ·obtain ⟨fs,hp⟩:=h.p0;rw [hd] at hp;cases hp
  ·exact hn z) λb hb=>by
  rw [aA.mp hb,hd];exact ⟨(λ_ _ _ z=>nomatch z),(λ_ _ z=>nomatch z)⟩
theorem KP.j0 (h:KP C A H p dx a n T ts as R) {t:Ti}(ht:t∈ts):t.x<t.y/\t.y<n/\(t.y:Int)∈R 0 t.x :=
 have ⟨t1,t2,t3⟩:=h.iv.lt t ht
 ⟨t1,t2,h.iv.mono (aJ _) t3 (x:=t.x) (by lia) _ (h.jn t ht)⟩
theorem KP.kw (h:KP C A H p dx a n T ts as R):Kw n (R 0) (ts.map Ti.key):=by
 refine ⟨h.iv.wd 0 (aJ _),λq hq=>?_,λu v e=>?_⟩
 ·obtain ⟨t,ht,rfl⟩:=bw.mp hq;obtain ⟨t1,t2,t3⟩:=h.j0 ht;exact ⟨t.x,t.y,by lia,t2,rfl,t3⟩
 ·obtain ⟨t,ht,_,_,hI⟩:=(h.iv.ed 0 (aJ _) u v).mp e;have:=bp (f:=Ti.key) ht
  rcases hI with e|e<;>cases e
  ·exact .inl this
  ·exact .inr this
theorem KP.Ud (h:KP C A H p dx a n T ts as R) {t:Ti}(ht:t∈ts):∃ t∈ts,t.wd=true:=by
 obtain ⟨t1,t2,t3⟩:=h.j0 ht;refine D5 λhn=>?_
 have:=QX (M:=λx=>x=(t.x:Int)) (l:=R 0 t.x) (λu v huv=>by
  obtain ⟨s,hs,hw,_⟩:=(h.iv.ed 0 (aJ _) u v).mp ⟨t.x,by lia,huv⟩
  exact absurd ⟨s,hs,hw⟩ hn) ⟨_,(h.iv.wd 0 (aJ _)).me t.x (by lia),rfl⟩ _ t3
 lia
end
theorem Ys {b:Bool}{t:TE}{Z:L2.St}{H:Hp}{Q:VK}(h:t Z H λx H1=>∃ c,x=.bl c/\Q (.bl (c == b)) H1):Wj b t Z H Q:=h
theorem Rr (x:Int):wy (.int x):=⟨rfl,by simp [j4]⟩
theorem vi (S:List Int):wy (.list (S.map OY)):=⟨by simp only [nq];exact gj _ (qa S),by have:=Ce S;simp only [j4];lia⟩
def eT (K:aa) (C:af) (A:CA):Sp:=λvs H Q _=>∃ (p dx d:af) (a:AL) (n T:Nat) (ts:List Ti) (as:Nat->List af) (R:Nat->Nat->List Int) (x y:Nat),vs=[.ref p,.ref d,.int x,.int y]/\AV K C A/\KP C A H p dx a n T ts as R/\H d=some (.dT (kd (ts.map Ti.key)))/\d∉a.L::fp a/\n<=24/\x<n/\y<n/\x≠y/\(((min x y:Nat):Int),((max x y:Nat):Int))∉ts.map Ti.key/\ts.length<90 /\
 ∀ b as' R' H',KP C A H' p dx a n T (ts++[⟨min x y,max x y,0,b⟩]) as' R'->H' d=some (.dT (kd ((ts++[(⟨min x y,max x y,0,b⟩:Ti)]).map Ti.key)))->Fm (d::p::fp a) H H'->Q (.bl true) H'
theorem G6:Rn (eT K C A) (uw K C A (cA K C A) (i8 K C A) (cY K C) (i9 K C)) Wx:=by
 rintro vs H Q E ⟨p,dx,d,a,n,T,ts,as,R,x,y,rfl,ct,h,hd,dn,hn,hx,hy,hxy,hk,hl,k⟩;have W0:=h.iv.wd 0 (aJ _);obtain ⟨w,c1,c2,c3,c4,hw,hp⟩:=h.ob;unfold uw;walk_at "m";refine ⟨p,dx,_,rfl,hp,FU,?_⟩;walk_at "x";refine ⟨p,dx,a,n,T,ts,as,R,rfl,ct,h,by lia,λq us H1 hq gq fl pm so S1=>?_⟩
 have hul:us.length=ts.length:=by have:=pm.length_eq;rwa [ag] at this
 walk_at "x";refine ⟨d,x,n,R 0,ts.map Ti.key,rfl,S1 _ _ hd,h.kw,hx,by lia,by rw [ag];lia,λl M H2 hl2 g2 hM hMm S2=>?_⟩;have S12:=S1.trans S2;refine IR (Rep.int y) (qb (de.of g2)) (Rr _) (gj _ (qa _)) ?_;rw [any_ints,decide_eq_decide.mpr (hMm y)]
 have eb:decide (((max x y:Nat):Int)∈R 0 (min x y))=decide ((y:Int)∈R 0 x):=by
  by_cases c:x<y
  ·rw [show max x y=y by lia,show min x y=x by lia]
  ·rw [show max x y=x by lia,show min x y=y by lia];exact decide_eq_decide.mpr ⟨W0.sy hy hx,W0.sy hx hy⟩
 walk_at "m";refine ⟨p,dx,_,rfl,S12 _ _ hp,FU,?_⟩;walk_at "x";refine ⟨p,dx,a,n,T,ts,as,R,x,y,rfl,ct,h.same S12,by lia,hx,hy,hxy,hk,by lia,λb as' R' H3 hb h3 F3=>?_⟩;rw [eb] at hb;rw [← hb];have np:∀ {c e:af}{f:List (bu×V)},H c=some (.ins A.Keeper e f)->d≠c:=λe=>je hd e
 have d3:=F3 d _ (λz=>by
  rcases ax.mp z with z|z
  ·exact np hp z
  ·exact dn (ak _ z)) (S12 _ _ hd)
 walk_at "x";rw [show (if (y:Int)<x then (y:Int) else x)=((min x y:Nat):Int) by split<;>lia,show (if (y:Int)>x then (y:Int) else x)=((max x y:Nat):Int) by split<;>lia];refine ⟨bD (m:=2) (au 2),λt ht=>?_⟩;have S4:=b8.cw (o:=.tup [.int (min x y:Nat),.int (max x y:Nat)]) ht;have g4:(upd H3 t (.tup [.int (min x y:Nat),.int (max x y:Nat)])) t=some (.tup ((pk (min x y) (max x y)).map kV)):=aG;generalize upd H3 t (.tup [.int (min x y:Nat),.int (max x y:Nat)])=H4 at S4 g4
 have hv:eV (kd (ts.map Ti.key)) (pk (min x y) (max x y))=none:=by rw [FV];exact GZ hk
 have d4:=S4 _ _ d3;refine .inr ⟨d,_,rfl,yE.t (k:=pk (min x y) (max x y)) d4 g4 (ee (m:=100) (by rw [FV,qz];lia)),?_⟩;rw [IE _ hv];have h5:=(h3.same S4).set (u':=kd (ts.map Ti.key)++[(pk (min x y) (max x y),.bl true)]) d4 dn
 have d5:(upd H4 d (.dT (kd (ts.map Ti.key)++[(pk (min x y) (max x y),.bl true)]))) d=some (.dT (kd ((ts++[(⟨min x y,max x y,0,b⟩:Ti)]).map Ti.key))):=by
  rw [aG];unfold kd;rw [aT,aT];rfl
 have B5:bH d H4 (upd H4 d (.dT (kd (ts.map Ti.key)++[(pk (min x y) (max x y),.bl true)]))):=bH.upd;generalize upd H4 d (.dT (kd (ts.map Ti.key)++[(pk (min x y) (max x y),.bl true)]))=H5 at h5 d5 B5;have F25:Fm (d::p::fp a) H2 H5:=(F3.tail.trans (Fm.of S4)).trans (Fm.but av B5);have k5:∀ H',b8 H5 H'->Q (.bl true) H':=λH' S'=>k b as' R' H' (h5.same S') (S' _ _ d5) (((Fm.of S12).trans F25).trans (Fm.of S'))
 have tup:∀ {c:af}{xs:List V},H2 c=some (.tup xs)->H5 c=some (.tup xs):=λ{c xs} e=>F25 _ _ (λz=>by
  rcases ax.mp z with z|z
  ·rw [z,S12 _ _ hd] at e;cases e
  ·rcases ax.mp z with z|z
   ·rw [z,S12 _ _ hp] at e;cases e
   ·exact (h.same S12).lv.xh e z) e
 have q5:=F25 q _ (λz=>by
  rcases ax.mp z with z|z
  ·rw [z,hd] at hq;cases hq
  ·rcases ax.mp z with z|z
   ·rw [z,hp] at hq;cases hq
   ·exact h.lv.DO hq z) (S2 _ _ gq)
 have fl5:∀ u∈us,ou H5 u:=λu hu=>tup (S2 _ _ (fl u hu));dsimp only;walk_at "x";refine vQ (.bl _) K8 ?_;refine ⟨true,rfl,kP ?_⟩;walk_at "x";refine .inl ⟨rfl,?_⟩;refine ⟨_,rfl,Tp (λc=>absurd rfl c) λ_=>?_⟩;walk_at "x";obtain ⟨w,c1,c2,c3,c4,hw,hp⟩:=h5.ob;refine qU ?_;walk_at "x";refine ⟨p,dx,_,rfl,hp,FU,?_⟩;walk_at "x";refine ⟨p,dx,a,n,T,_,as',R',rfl,ct,h5,by rw [bq];simp;lia,λq' us' H6 hq' gq' fl' pm' so' S6=>?_⟩
 have hul':us'.length=ts.length+1:=by have:=pm'.length_eq;rwa [ag,bq] at this
 walk_at "x";refine ⟨q',us',rfl,gq',fl',by lia,so',λH7 S7=>⟨_,rfl,pX ?_⟩⟩;walk_at "x";rw [show (if (y:Int)<x then (y:Int) else x)=((min x y:Nat):Int) by split<;>lia,show (if (y:Int)>x then (y:Int) else x)=((max x y:Nat):Int) by split<;>lia];refine ⟨bD (m:=4) (au 4),λr hr=>?_⟩;have S8:=b8.cw (o:=.tup [.int (min x y:Nat),.int (max x y:Nat),.int 0,.bl b]) hr;have g8:ou (upd H7 r (.tup [.int (min x y:Nat),.int (max x y:Nat),.int 0,.bl b])) ((⟨min x y,max x y,0,b⟩:Ti),r):=aG;generalize upd H7 r (.tup [.int (min x y:Nat),.int (max x y:Nat),.int 0,.bl b])=H8 at S8 g8;walk_at "x";refine ⟨bD (m:=1) (au 1),λe he=>?_⟩;generalize eu_:upd H8 e (.lst [.ref r])=H9;obtain ⟨S9,g9⟩:=lF eu_ he;have S69:=(S7.trans S8).trans S9;have S59:=S6.trans S69;refine MQ (S59 _ _ q5) g9 (bD (m:=200) (by rw [ag];simp;lia)) λs hs=>?_;have S10:=b8.cw (o:=.lst (us.map ow++[.ref r])) hs
 have g10:(upd H9 s (.lst (us.map ow++[.ref r]))) s=some (.lst ((us++[((⟨min x y,max x y,0,b⟩:Ti),r)]).map ow)):=by rw [aG,aT];rfl
 generalize upd H9 s (.lst (us.map ow++[.ref r]))=H10 at S10 g10
 have fl10:∀ u∈us++[((⟨min x y,max x y,0,b⟩:Ti),r)],ou H10 u:=λu hu=>by
  rcases aQ.mp hu with q|q
  ·exact S10 _ _ (S59 _ _ (fl5 u q))
  ·rw [aA.mp q];exact S10 _ _ (S9 _ _ g8)
 walk_at "x";refine Ni (de.of g10) fl10 (by rw [bq];simp;lia) λl' vs' hl' hpv hsv=>?_;have S11:=b8.cw (o:=.lst (vs'.map ow)) hl';have g11:(upd H10 l' (.lst (vs'.map ow))) l'=some (.lst (vs'.map ow)):=aG;generalize upd H10 l' (.lst (vs'.map ow))=H11 at S11 g11 ⊢;have S611:=S69.trans (S10.trans S11)
 have e:vs'.map (·.1)=us'.map (·.1):=by
  refine zG JL ((hpv.map (·.1)).trans (O3 ?_ pm'.symm)) (cS.mpr hsv) (cS.mpr so');rw [aT];exact pm.append_right _
 have r1:=tm (K:=K) λu hu=>S11 _ _ (fl10 u (hpv.mem_iff.mp hu));rw [e] at r1;refine IQ (.lst (de.of (S611 _ _ gq')) (tm λu hu=>S611 _ _ (fl' u hu))) (.lst (de.of g11) r1) (oz _) (oz _) ?_;rw [rH _ (oz _).lay];exact k5 _ (S6.trans S611)
end K31
namespace K31
open Rm
variable {K:aa}{C:af}{A:CA}{Pt:af}
def dB (K:aa) (C:af) (A:CA):Sp:=λvs H Q _=>∃ (p dx d:af) (a:AL) (n T:Nat) (ts:List Ti) (as:Nat->List af) (R:Nat->Nat->List Int) (x y:Nat),vs=[.ref p,.ref d,.int x,.int y]/\AV K C A/\KP C A H p dx a n T ts as R/\H d=some (.dT (kd (ts.map Ti.key)))/\n<=24/\x<n/\y<n/\ts.length<99/\∀ H',b8 H H'->Q (.bl true) H'
theorem Dl:Rn (dB K C A) (rA K C A (cY K C) (iU K C A) (gJ K C A)) Wz:=by
 rintro vs H Q E ⟨p,dx,d,a,n,T,ts,as,R,x,y,rfl,ct,h,hd,hn,hx,hy,hl,k⟩;have W0:=h.iv.wd 0 (aJ _);obtain ⟨w,c1,c2,c3,c4,hw,hp⟩:=h.ob;unfold rA;walk_at "x";refine ⟨d,x,n,R 0,ts.map Ti.key,rfl,hd,h.kw,hx,by lia,by rw [ag];lia,λl M H1 hl1 g1 hM hMm S1=>?_⟩;walk_at "m";refine ⟨p,dx,_,rfl,S1 _ _ hp,FU,?_⟩;walk_at "x";refine ⟨p,dx,a,n,T,ts,as,R,x,rfl,ct,h.same S1,by lia,hx,λs ks hs hr hk=>?_⟩;have e:ks=M:=Cz hr hM λz=>(hk z).trans (hMm z).symm;subst e;generalize eu_:upd H1 s (.lst (ks.map V.int))=H2;obtain ⟨S2,g2⟩:=lF eu_ hs;have S02:=S1.trans S2
 have hkl:ks.length<64:=by
  have l1:=GC (hr.imp λq=>Int.ne_of_lt q) λz hz=>(hk z).mp hz;have l2:=W0.len hx;lia
 walk_at "m";refine ⟨p,dx,_,rfl,S02 _ _ hp,FU,?_⟩;walk_at "x";refine ⟨p,dx,a,n,T,ts,as,R,x,y,rfl,ct,h.same S02,hx,hy,?_⟩;walk_at "x";refine vQ (.lst g2) PY ?_;refine ⟨true,rfl,kP ?_⟩;walk_at "x";refine X6 (qb (de.of g2)) (qb (de.of (S2 _ _ g1))) (vi _) (vi _) ?_;rw [rH _ (vi ks).lay];refine ⟨_,rfl,kP ?_⟩;walk_at "x";refine vQ (.bl _) K8 ?_;refine ⟨true,rfl,kP ?_⟩;walk_at "x";refine PQ (Rep.int y) (qb (de.of (S2 _ _ g1))) (Rr _) (gj _ (qa _)) ?_;rw [any_ints,decide_eq_decide.mpr (hk y)];refine .inl ⟨rfl,?_⟩;refine ⟨_,rfl,Tp (λc=>absurd rfl c) λ_=>?_⟩;walk_at "x";refine ⟨.inl ⟨rfl,_,de.of g2⟩,?_⟩;walk_at "x";refine rQ g2 (ee (m:=100) (by rw [ag];lia)) ?_;have B3:bH s H2 (upd H2 s (.lst (ks.map V.int++[V.int (-1)]))):=bH.upd;generalize upd H2 s (.lst (ks.map V.int++[V.int (-1)]))=H3 at B3;have S13:b8 H1 H3:=λb o e=>B3 _ _ (S2 _ _ e) (aR e hs);have S03:=S1.trans S13;dsimp only;walk_at "m";refine ⟨p,dx,_,rfl,S03 _ _ hp,FU,?_⟩;walk_at "x";refine ⟨p,dx,a,n,T,ts,as,R,x,rfl,ct,h.same S03,by lia,hx,λs2 ks2 hs2 hr2 hk2=>?_⟩;have e:ks2=ks:=Cz hr2 hr λz=>(hk2 z).trans (hk z).symm;subst e;generalize eu_:upd H3 s2 (.lst (ks2.map V.int))=H4;obtain ⟨S4,g4⟩:=lF eu_ hs2;walk_at "x";refine IQ (qb (de.of g4)) (qb (de.of (S4 _ _ (S13 _ _ g1)))) (vi _) (vi _) ?_;rw [rH _ (vi ks2).lay];refine ⟨_,rfl,pX ?_⟩;refine Ys ?_;refine qU ?_;walk_at "x";refine ⟨p,dx,_,rfl,S4 _ _ (S03 _ _ hp),FU,?_⟩;walk_at "x";refine ⟨p,dx,a,n,T,ts,as,R,x,x,rfl,ct,h.same (S03.trans S4),hx,hx,?_⟩;refine ⟨_,rfl,?_⟩;rw [decide_eq_true (W0.me x hx)];exact k _ (S03.trans S4)
end K31
namespace K31
open Rm
structure Lw (C:af) (A:CA) (Pt p dx d:af) (a:AL) (n T:Nat) (ts:List Ti) (H:Hp):Prop where
 kp:∃ as R,KP C A H p dx a n T ts as R
 hP:vB Pt H
 hd:H d=some (.dT (kd (ts.map Ti.key)))
section
variable {K:aa}{C:af}{A:CA}{H H':Hp}{a:AL}{n T:Nat}{ts ts':List Ti}{as:Nat->List af}{R:Nat->Nat->List Int}{p dx d Pt:af}
theorem Lw.same (h:Lw C A Pt p dx d a n T ts H) (S:b8 H H'):Lw C A Pt p dx d a n T ts H' :=
 let ⟨s,r,k⟩:=h.kp;⟨⟨s,r,k.same S⟩,h.hP.same S,S _ _ h.hd⟩
theorem Lw.fm (h:Lw C A Pt p dx d a n T ts H) (F:Fm (d::p::Pt::fp a) H H') {b:af}{o:HO}(e:H b=some o) (h1:∀ ks,o≠.dT ks) (h2:∀ x y z,o≠.ins x y z) (h3:∀ ps,o≠.tbl ps) (h4:b∉fp a):H' b=some o:=F _ _ (λz=>by
 obtain ⟨_,_,k⟩:=h.kp;obtain ⟨_,hp⟩:=k.p0
 rcases ax.mp z with rfl|z
 ·rw [h.hd] at e;cases e;exact h1 _ rfl
 ·rcases ax.mp z with rfl|z
  ·rw [hp] at e;cases e;exact h2 _ _ _ rfl
  ·rcases ax.mp z with z|z
   ·exact h.hP.ne e h3 z
   ·exact h4 z) e
theorem Lw.tup (h:Lw C A Pt p dx d a n T ts H) (F:Fm (d::p::Pt::fp a) H H') {b:af}{xs:List V}(e:H b=some (.tup xs)):H' b=some (.tup xs) :=
 let ⟨_,_,k⟩:=h.kp;h.fm F e (λ_ z=>nomatch z) (λ_ _ _ z=>nomatch z) (λ_ z=>nomatch z) (k.lv.xh e)
theorem Lw.seq (h:Lw C A Pt p dx d a n T ts H) (F:Fm (d::p::Pt::fp a) H H') {s:af}{ns:List Int}(hS:de K H s (ns.map V.int)):de K H' s (ns.map V.int):=by
 obtain ⟨_,_,k⟩:=h.kp
 rcases hS with (e|⟨o,e⟩)|e
 ·exact .inl (.inl (h.fm F e (λ_ z=>nomatch z) (λ_ _ _ z=>nomatch z) (λ_ z=>nomatch z) (k.lv.Uc e)))
 ·exact .inl (.inr ⟨o,h.fm F e (λ_ z=>nomatch z) (λ_ _ _ z=>nomatch z) (λ_ z=>nomatch z) (k.lv.out e (λ_ z=>nomatch z) (λ_ _ z=>nomatch z))⟩)
 ·exact .inr e
theorem Lw.put (h:Lw C A Pt p dx d a n T ts H) (k':KP C A H' p dx a n T ts' as R) (hd:H' d=some (.dT (kd (ts'.map Ti.key)))) (F:Fm (d::p::fp a) H H'):Lw C A Pt p dx d a n T ts' H'/\Fm (d::p::Pt::fp a) H H':=by
 obtain ⟨_,_,k⟩:=h.kp;obtain ⟨_,hp⟩:=k.p0;refine ⟨⟨⟨_,_,k'⟩,h.hP.keep λb o h1 h2 h3 _ e=>F b o (λz=>?_) e,hd⟩,F.mono λb hb=>?_⟩
 ·rcases ax.mp z with rfl|z
  ·rw [h.hd] at e;cases e;exact h1 _ rfl
  ·rcases ax.mp z with rfl|z
   ·rw [hp] at e;cases e;exact h3 _ _ _ rfl
   ·exact k.lv.out e h1 (λ_ _=>h2 _) z
 ·rcases ax.mp hb with q|hb
  ·exact q▸av
  ·rcases ax.mp hb with q|q
   ·exact q▸ak _ av
   ·exact ak _ (ak _ (ak _ q))
theorem Lw.out {H1:Hp}{x y:Nat}(h:Lw C A Pt p dx d a n T ts H) (dn:d∉a.L::fp a) (k':KP C A H1 p dx a n T ts' as R) (e:ts'.map Ti.key=(ts.map Ti.key).filter (λk=>decide (k≠((x:Int),(y:Int))))) (P':vB Pt H1) (F:Fm (p::Pt::fp a) H H1) {t:Ti}(ex:t.x=x) (ey:t.y=y) :
  H1 d=some (.dT (kd (ts.map Ti.key)))/\Lw C A Pt p dx d a n T ts' (upd H1 d (.dT (pW (kd (ts.map Ti.key)) (pk x y))))/\Fm (d::p::Pt::fp a) H (upd H1 d (.dT (pW (kd (ts.map Ti.key)) (pk x y)))):=by
 obtain ⟨_,_,k⟩:=h.kp;obtain ⟨_,hp⟩:=k.p0
 have d1:=F d _ (λz=>by
  rcases ax.mp z with z|z
  ·rw [← z,h.hd] at hp;cases hp
  ·rcases ax.mp z with z|z
   ·exact h.hP.ne h.hd (λ_ z=>nomatch z) z
   ·exact dn (ak _ z)) h.hd
 refine ⟨d1,⟨⟨_,_,k'.set d1 dn⟩,P'.keep λb o h1 _ _ _ e=>?_,?_⟩,F.tail.trans (Fm.upd av)⟩
 ·rw [aI];exact e;rintro rfl;rw [d1] at e;cases e;exact h1 _ rfl
 ·rw [aG,e,FV,← ex,← ey,By,← FV,vN];rfl
end
section
variable {K:aa}{C:af}{A:CA}{Pt p dx d S:af}{a:AL}{n T:Nat}{z:Int}{s1 s2 s3 s4 s5 s6 s7 s8:Sp}{D:tN}{H:Hp}{ns:List Int}
theorem Yt (ct:AV K C A) (hn1:1<=n) (hn:n<=24) (dn:d∉a.L::fp a) (h:Lw C A Pt p dx d a n T [] H) (hS:de K H S (ns.map V.int))
  (fin:∀ ts o5 o6 H',Lw C A Pt p dx d a n T ts H'->ts.length<=56->de K H' S (ns.map V.int)->D.nx [some (.ref S),some (.int n),some (.ref p),some (.ref d),some (.int z),o5,o6,none,none] H') :
  CU K C A s1 s2 (eE K C) (eF K C) s3 (eT K C A) s4 s5 s6 D [some (.ref S),some (.int n),some (.ref p),some (.ref d),some (.int z),none,none,none,none] H:=by
 unfold CU;walk_at "x";refine ⟨n,z,rfl,hn1,hn,λl zs0 H1 S1 g1 pz0 sh0=>?_⟩;walk_at "x"
 have hl0:zs0.length<=56:=by have:=sh0.l;rwa [ag] at this
 refine ⟨l,_,zs0,rfl,g1,by lia,λq zs H2 S2 hq g2 pm=>?_⟩;have sh:=sh0.perm (pm.map zP)
 have hzl:zs.length<=56:=by have:=sh.l;rwa [ag] at this
 have pz:∀ z∈zs,fH H2 z:=λz hz=>S2 _ _ (pz0 z (pm.mem_iff.mp hz));have L2:=h.same (S1.trans S2)
 have qn:q∉fp a:=let ⟨_,_,k⟩:=(h.same S1).kp;k.lv.DO hq
 refine ⟨q,rfl,.inl ⟨⟨_,de.of g2⟩,mx (K:=K) (a:=q) (xs:=zs.map j5) (λi Z H4=>∃ ts o5 o6,Lw C A Pt p dx d a n T ts H4/\ts.map Ti.key=(zs.take i).map (λz=>ky (zP z))/\de K H4 S (ns.map V.int)/\H4 q=some (.lst (zs.map j5))/\(∀ z∈zs,fH H4 z)/\Z=[some (.ref S),some (.int n),some (.ref p),some (.ref d),some (.int z),o5,o6,none,none]) ⟨[],_,_,L2,rfl,(S1.trans S2).seq hS,g2,pz,rfl⟩ ?_ ?_ ?_⟩⟩
 ·rintro i Z H4 _ ⟨ts,o5,o6,_,_,_,g4,_⟩;exact de.of g4
 ·rintro i v Z H4 hi ⟨ts,o5,o6,L4,hk,hS4,g4,pz4,rfl⟩;rw [aD] at hi;obtain ⟨w,hw,rfl⟩:=bx.mp hi;have hwm:=aW hw;obtain ⟨b1,b2,b3,b4,b5⟩:=sh.b _ (bp (f:=zP) hwm)
  obtain ⟨x,ex⟩:∃ x:Nat,w.1=(x:Int):=⟨w.1.toNat,by have:0<=w.1:=b1;lia⟩
  obtain ⟨y,ey⟩:∃ y:Nat,w.2.1=(y:Int):=⟨w.2.1.toNat,by have:0<=w.2.1:=b3;lia⟩
  have hx:x<n:=by have:w.1<n:=b2;lia
  have hy:y<n:=by have:w.2.1<n:=b4;lia
  have hxy:y≠x:=by have:w.1≠w.2.1:=b5;lia
  have ek:ky (zP w)=(((min y x:Nat):Int),((max y x:Nat):Int)):=by
   unfold ky zP;rw [ex,ey];exact OX (show min (x:Int) y=_ by lia) (show max (x:Int) y=_ by lia)
  have et:zs.take (i+1)=zs.take i++[w]:=by rw [d9,hw];rfl
  have hnk:ky (zP w)∉(zs.take i).map (λz=>ky (zP z)):=λhm=>by
   have nd:=sh.nd;rw [bN,← fq (i+1) zs,et,dg,aT,fZ] at nd;exact nd.2.2 _ hm _ av rfl
  have hln:ts.length<=i:=by
   have:=congrArg df hk;rw [ag,ag,bO] at this;lia
  have hi2:=(aB.mp hw).1;have g:=pz4 w hwm;unfold fH at g;rw [ex,ey] at g;refine y9 (.of g) rfl ?_;walk_at "x";obtain ⟨as,R,k4⟩:=L4.kp;refine ⟨p,dx,d,a,n,T,ts,as,R,y,x,rfl,ct,k4,L4.hd,dn,hn,hy,hx,hxy,by rw [hk,← ek];exact hnk,by lia,λb as' R' H5 k5 d5 F5=>⟨true,rfl,kP ?_⟩⟩;obtain ⟨L5,F⟩:=L4.put k5 d5 F5;refine ⟨_,_,_,L5,?_,L4.seq F hS4,L4.fm F g4 (λ_ z=>nomatch z) (λ_ _ _ z=>nomatch z) (λ_ z=>nomatch z) qn,λz hz=>L4.tup F (pz4 z hz),rfl⟩;rw [et,aT,aT,hk]
  show _++[_]=_++[ky (zP w)]
  rw [ek];rfl
 ·rintro Z H4 ⟨ts,o5,o6,L4,hk,hS4,g4,pz4,rfl⟩;refine fin ts o5 o6 H4 L4 ?_ hS4;have:=congrArg df hk;rw [ag,ag,bO] at this;lia
end
end K31
namespace K31
open Rm
theorem Yu {K:aa}{H:Hp}{Q:VK}{i j:bu}(h:Q (.bl (decide (V.str i=V.str j))) H):m7 K (.str i) (.str j) H Q:=.inl ⟨rfl,h⟩
theorem Yv {i j:Nat}{ta:TA}{D:tN}{Z:L2.St}{H:Hp}(h:ta Z H λvs H1=>∃ v w,vs=[v,w]/\D.nx ((Z.set i (some v)).set j (some w)) H1):Vy i j ta D Z H:=h
section
variable {K:aa}{C:af}{A:CA}{Pt p dx d S:af}{a:AL}{n T:Nat}{z:Int}{s1 s2 s3 s4 s5 s6 s7 s8:Sp}{D:tN}{H:Hp}{ns:List Int}
theorem Yw {ts:List Ti}{o5 o6:Option V}(ct:AV K C A) (hn1:1<=n) (hn:n<=24) (dn:d∉a.L::fp a) (h:Lw C A Pt p dx d a n T ts H) (hl:ts.length<=56) (hS:de K H S (ns.map V.int))
  (fin:∀ ts o5 o6 o7 o8 H',Lw C A Pt p dx d a n T ts H'->ts.length<=80->D.nx [some (.ref S),some (.int n),some (.ref p),some (.ref d),some (.int z),o5,o6,o7,o8] H') :
  CV K C A s1 s2 s3 s4 (fe K C) (eT K C A) (cA K C A) (dB K C A) (fW K C A Pt) D [some (.ref S),some (.int n),some (.ref p),some (.ref d),some (.int z),o5,o6,none,none] H:=by
 unfold CV;walk_at "x";refine Al hS λq hq=>?_
 obtain ⟨ms,em',hml⟩:∃ ms:List Int,xI (ns.map V.int) (some 2) (some 26)=ms.map V.int/\ms.length<=24:=by
  refine ⟨(ns.drop 2).take 24,?_,by rw [bO];lia⟩;rw [MT (show (2:Int)=((2:Nat):Int) from rfl) (show (26:Int)=((26:Nat):Int) from rfl),← Ac,← pJ]
 rw [em'];have S1:=b8.cw (o:=.lst (ms.map V.int)) hq;have g1:(upd H q (.lst (ms.map V.int))) q=some (.lst (ms.map V.int)):=aG;generalize upd H q (.lst (ms.map V.int))=H1 at S1 g1 ⊢;refine ⟨q,rfl,.inl ⟨⟨_,de.of g1⟩,mx (K:=K) (a:=q) (xs:=ms.map V.int) (λi Z H4=>∃ ts o5 o6 o7 o8,Lw C A Pt p dx d a n T ts H4/\ts.length<=56+i/\de K H4 q (ms.map V.int)/\Z=[some (.ref S),some (.int n),some (.ref p),some (.ref d),some (.int z),o5,o6,o7,o8]) ⟨ts,_,_,_,_,h.same S1,hl,de.of g1,rfl⟩ ?_ ?_ ?_⟩⟩
 ·rintro i Z H4 _ ⟨ts,o5,o6,o7,o8,_,_,g4,_⟩;exact g4
 ·rintro i v Z H4 hi ⟨ts,o5,o6,o7,o8,L4,hl4,g4,rfl⟩;rw [aD] at hi;obtain ⟨c,hc,rfl⟩:=bx.mp hi
  have hi2:i<24:=by have:=(aB.mp hc).1;lia
  obtain ⟨as,R,k4⟩:=L4.kp;obtain ⟨w,c1,c2,c3,c4,hw,hp⟩:=k4.ob;walk_at "m";refine ⟨p,dx,_,rfl,hp,FU,?_⟩;walk_at "x";refine ⟨p,dx,a,n,T,ts,as,R,rfl,ct,k4,by lia,λr us H5 hr gr fl pm so S5=>?_⟩
  have hul:us.length=ts.length:=by have:=pm.length_eq;rwa [ag] at this
  have eu:(us.map λu=>u.1.key)=(us.map (·.1)).map Ti.key:=by rw [bN];rfl
  have km:∀ k,k∈(us.map λu=>u.1.key)↔k∈ts.map Ti.key:=λk=>by rw [eu];exact (pm.map Ti.key).mem_iff
  walk_at "x";refine ⟨r,us,n,c,rfl,gr,fl,by lia,hn1,hn,λhne=>?_,λH6 S6=>?_,λt e w x y H6 S6 gt ge hwd=>?_⟩
  ·obtain ⟨u,us',rfl⟩:=List.exists_cons_of_ne_nil hne;obtain ⟨t,ht,hwt⟩:=k4.Ud (pm.mem_iff.mp av);obtain ⟨v,hv,rfl⟩:=bw.mp (pm.mem_iff.mpr ht);exact ⟨v,hv,hwt⟩
  ·have S46:=S5.trans S6;walk_at "x";refine kP ?_;exact ⟨ts,_,_,_,_,L4.same S46,by lia,S46.seq g4,rfl⟩
  ·have S46:=S5.trans S6;have L6:=L4.same S46;have g6:=S46.seq g4
   obtain ⟨x,y,rfl,rfl,hxy,hyn⟩:∃ x' y':Nat,x=x'/\y=y'/\x'<y'/\y'<n:=by
    rcases hwd with ⟨_,hm⟩|⟨_,⟨i,j,e1,e2,h1,h2⟩,_⟩
    ·obtain ⟨t,ht,et⟩:=bw.mp ((km _).mp hm);obtain ⟨t1,t2,_⟩:=k4.iv.lt t ht;obtain ⟨e1,e2⟩:=cC et;exact ⟨t.x,t.y,e1.symm,e2.symm,t1,t2⟩
    ·exact ⟨i,j,e1,e2,h1,h2⟩
   walk_at "x";refine pX ?_;walk_at "x";refine jM (mR.of gt) (v:=.ref e) rfl ?_;refine y9 (.of ge) rfl ?_;iterate 5 (walk_at "x1")
   try dsimp only
   with_reducible refine zF (λZ H7=>H7=H6/\∃ i' j':Nat,i'<n/\j'<n/\i'≠j'/\min i' j'=x/\max i' j'=y/\Z=[some (.ref S),some (.int n),some (.ref p),some (.ref d),some (.int z),some (.int i'),some (.int j'),some (.int c),some (.ref t)]) ?_ λgo=>?_
   rotate_left
   ·walk_at "x";refine tV (λ_=>?_) λ_=>?_
    ·refine Yv (wz (rP rfl (wz (rP rfl (Cc ⟨_,_,rfl,?_⟩)))));exact go _ _ ⟨rfl,y,x,hyn,by lia,by lia,by lia,by lia,rfl⟩
    ·exact go _ _ ⟨rfl,x,y,by lia,hyn,by lia,by lia,by lia,rfl⟩
   rintro Z H7 ⟨rfl,i',j',hi',hj',hij,emn,emx,rfl⟩
   with_reducible refine zF (λZ H8=>∃ ts',Lw C A Pt p dx d a n T ts' H8/\ts'.length<=56+(i+1)/\de K H8 q (ms.map V.int)/\Z=[some (.ref S),some (.int n),some (.ref p),some (.ref d),some (.int z),some (.int i'),some (.int j'),some (.int c),some (.ref t)]) ?_ λgo=>?_
   rotate_left
   ·walk_at "x";refine jM (mR.of gt) (v:=.str w) rfl ?_;walk_at "x";refine Yu ⟨_,rfl,?_⟩;have k7:=k4.same S46;obtain ⟨w,c1,c2,c3,c4,hw,hp⟩:=k7.ob
    rcases hwd with ⟨rfl,hm⟩|⟨rfl,_,hm⟩
    ·refine tV (λ_=>?_) λc=>absurd rfl c;have hk:=(km _).mp hm;obtain ⟨t0,ht0,et0⟩:=bw.mp hk;obtain ⟨ex0,ey0⟩:=cC et0
     have ex0:t0.x=x:=by lia
     have ey0:t0.y=y:=by lia
     walk_at "m";refine ⟨p,dx,_,rfl,hp,FU,?_⟩;walk_at "x";refine ⟨p,dx,a,n,T,ts,as,R,i',j',rfl,ct,k7,by lia,hi',hj',hij,by rw [emn,emx];exact hk,by lia,L6.hP,λv ts' as' R' H8 k8 e8 P8 F8=>?_⟩;rw [emn,emx] at e8
     have hl8:ts'.length<=ts.length:=by
      have:=congrArg df e8;rw [ag] at this;rw [this];exact bz (cJ _ _) (by rw [ag];exact au _)
     obtain ⟨d8,L9,F9⟩:=L6.out dn k8 e8 P8 F8 ex0 ey0;have q9:=L6.seq F9 g6
     have hv:eV (kd (ts.map Ti.key)) (pk x y)=some (.bl true):=by rw [FV,← ex0,← ey0];exact jb (f:=λ_=>V.bl true) k7.iv.nd ht0
     walk_at "x";refine ⟨.inr (.inr (.inl ⟨rfl,.inr ⟨_,d8⟩⟩)),?_⟩;walk_at "x";refine jM (mR.of (L6.tup F8.tail gt)) (v:=.ref e) rfl ?_;walk_at "x";refine ⟨d,_,pk x y,e,.bl true,rfl,rfl,d8,L6.tup F8.tail ge,hv,?_⟩;exact go _ _ ⟨ts',L9,by lia,q9,rfl⟩
    ·refine tV (λc=>by injection c with c;exact absurd c (by decide)) λ_=>?_;walk_at "x";refine ⟨p,dx,d,a,n,T,ts,as,R,i',j',rfl,ct,k7,L6.hd,dn,hn,hi',hj',hij,by rw [emn,emx];exact λz=>hm ((km _).mpr z),by lia,λb as' R' H8 k8 d8 F8=>⟨true,rfl,kP ?_⟩⟩;obtain ⟨L8,F⟩:=L6.put k8 d8 F8;exact go _ _ ⟨_,L8,by rw [bq];simp;lia,L6.seq F g6,rfl⟩
   rintro Z H8 ⟨ts',L8,hl8,g8,rfl⟩;obtain ⟨as',R',k8⟩:=L8.kp;walk_at "x";refine ⟨p,dx,d,a,n,T,ts',as',R',i',j',rfl,ct,k8,L8.hd,hn,hi',hj',by lia,λH9 S9=>⟨true,rfl,kP ?_⟩⟩;walk_at "x";obtain ⟨x2,e2,hx2⟩:=em (n:=n) (by lia) (c/11);rw [e2];refine ⟨p,dx,d,a,n,T,ts',as',R',x2,j',rfl,ct,k8.same S9,S9 _ _ L8.hd,hn,hx2,hj',by lia,λH10 S10=>⟨true,rfl,kP ?_⟩⟩;exact ⟨ts',_,_,_,_,L8.same (S9.trans S10),hl8,(S9.trans S10).seq g8,rfl⟩
 ·rintro Z H4 ⟨ts,o5,o6,o7,o8,L4,hl4,g4,rfl⟩;rw [ag] at hl4;exact fin ts _ _ _ _ H4 L4 (by lia)
end
end K31
namespace K31
open Rm
theorem JM {K:aa}{H:Hp}:∀ {zs:List Zn}{ps:List (Int×Int)},(∀ z∈zs,Cr [false] H z)->zs.map (·.1)=ps.map (λp=>[p.1,p.2])->fj K H (ps.map x6) (zs.map qc)
 | [],[],_,_=>.nil
 | [],_::_,_,e=>nomatch e
 | _::_,[],_,e=>nomatch e
 | z::zs,p::ps,h,e=>by
  obtain ⟨e1,e2⟩:=gA e;obtain ⟨xs,h1,h2⟩:=h z av;have e1:z.1=[p.1,p.2]:=e1;rw [e1] at h2
  have:H z.2=some (.tup [.int p.1,.int p.2]):=by
   cases h2 with
   | int i h2 =>
    cases h2 with
    | int j h2=>cases h2;exact h1
  exact .cons (GT this) (JM (λy hy=>h y (ak _ hy)) e2)
theorem Rt {u v:Ti}(h:gG (wY v) (wY u)=false):gG [(v.x:Int),(v.y:Int)] [(u.x:Int),(u.y:Int)]=false:=by
 simp only [wY,gG] at h ⊢
 by_cases c:(v.x:Int)=u.x
 ·rw [if_pos c] at h ⊢
  by_cases c':(v.y:Int)=u.y
  ·rw [if_pos c']
  ·rw [if_neg c'] at h ⊢;exact h
 ·rw [if_neg c] at h ⊢;exact h
def G7 (K:aa) (Pt1:af):Sp:=λvs H Q _=>∃ (a:af) (ns:List Int),vs=[.ref a]/\de K H a (ns.map V.int)/\ns.length<=63/\vB Pt1 H/\∀ H',Q (.bl true) H'
theorem T3 {K:aa}{C:af}{A:CA}{Pt1:af}(ct:AV K C A):Rn (G7 K Pt1) (LB K C A (dt K C A) (dr K C) (eE K C) (eF K C) (fe K C) (eT K C A) (cA K C A) (dB K C A) (fW K C A Pt1)) Ww:=by
 rintro vs H Q E ⟨s,ns,rfl,hS,hlen,hP,k⟩;unfold LB;walk_at "x";refine ⟨s,ns,0,rfl,hS,λz=>?_⟩;walk_at "x";obtain ⟨m,em',hm⟩:=em (n:=24) (by decide) z
 obtain ⟨n,en,hn1,hn2⟩:∃ n:Nat,(1+z%24:Int)=(n:Int)/\1<=n/\n<=24:=⟨m+1,by lia,by lia,by lia⟩
 rw [en];refine LH ?_;walk_at "x";intro p dx hp hdx _
 have T0:b8 H (upd (upd H dx (.own p)) p (.ins A.Keeper dx [])):=λb o e=>by rw [aI (aR e hp),aI (aR e hdx)];exact e
 refine ⟨p,dx,n,rfl,aG,ct,hn1,by lia,λa T as H3 k3 B3 fr3=>⟨rfl,?_⟩⟩;have S3:b8 H H3:=λb o e=>B3 _ _ (T0 _ _ e) (aR e hp);walk_at "x";intro d hd;generalize eu_:upd H3 d (.dT [])=H5;obtain ⟨S5,g5⟩:=lF eu_ hd;have S05:=S3.trans S5
 have dn:d∉a.L::fp a:=λz=>by
  rcases ax.mp z with q|q
  ·have:=k3.lv.ls;rw [← q,hd] at this;cases this
  ·exact k3.lv.DO hd q
 walk_at "x";refine ⟨s,ns,1,rfl,S05.seq hS,λz1=>?_⟩;walk_at "x1";walk_at "x1";refine Yt ct hn1 hn2 dn ⟨⟨_,_,k3.same S5⟩,hP.same S05,g5⟩ (S05.seq hS) λts o5 o6 H6 L6 hl6 hS6=>?_;dsimp only
 with_reducible refine zF (λZ H7=>b8 H6 H7/\Z=[some (.ref s),some (.int n),some (.ref p),some (.ref d),some (.int z1),o5,o6,none,none]) ?_ λgo=>?_
 rotate_left
 ·obtain ⟨as6,R6,k6⟩:=L6.kp;obtain ⟨w,c1,c2,c3,c4,hw,hp⟩:=k6.ob;walk_at "m";refine ⟨p,dx,_,rfl,hp,FU,?_⟩;walk_at "x";refine ⟨p,dx,a,n,T,ts,as6,R6,rfl,ct,k6,by lia,λr us H7 hr gr fl pm so S7=>?_⟩;walk_at "x";refine ⟨bD (m:=0) (au 0),λe he=>?_⟩;have S8:=b8.cw (o:=.lst []) he;have g8:(upd H7 e (.lst [])) e=some (.lst (([]:List (Ti×af)).map ow)):=aG;generalize upd H7 e (.lst [])=H8 at S8 g8;refine IQ (.lst (de.of (S8 _ _ gr)) (tm λu hu=>S8 _ _ (fl u hu))) (.lst (de.of g8) (tm λu hu=>nomatch hu)) (oz _) (oz _) ?_;generalize dC _ _=b;refine ⟨_,rfl,?_⟩;have S68:=S7.trans S8
  cases b with
  | false=>exact kP (kP (go _ _ ⟨S68,rfl⟩))
  | true =>
   refine pX ?_;walk_at "x";refine ⟨p,dx,d,a,n,T,ts,as6,R6,0,n-1,by rw [show ((n:Int)-1)=((n-1:Nat):Int) by lia];rfl,ct,k6.same S68,S68 _ _ L6.hd,hn2,by lia,by lia,by lia,λH9 S9=>⟨true,rfl,kP ?_⟩⟩;exact go _ _ ⟨S68.trans S9,rfl⟩
 rintro Z H7 ⟨S7,rfl⟩;walk_at "x1";refine Yw ct hn1 hn2 dn (L6.same S7) hl6 (S7.seq hS6) λts' o5 o6 o7 o8 H8 L8 hl8=>?_;obtain ⟨as8,R8,k8⟩:=L8.kp;obtain ⟨w,c1,c2,c3,c4,hw,hp⟩:=k8.ob;dsimp only;walk_at "m";refine ⟨p,dx,_,rfl,hp,FU,?_⟩;walk_at "x";refine ⟨p,dx,a,n,T,ts',as8,R8,rfl,ct,k8,by lia,λr us H9 hr gr fl pm so S9=>?_⟩
 have hul:us.length=ts'.length:=by have:=pm.length_eq;rwa [ag] at this
 refine ⟨r,rfl,.inl ⟨⟨_,de.of gr⟩,λacc hacc=>G5 (o:=none) (rest:=[]) (λ_=>true) gr fl (by lia) hacc (λu H' G _ _ g=>g) λzs H10 S10 g10 pz10 e10=>?_⟩⟩;rw [ml.mpr λ_ _=>rfl] at e10;have S810:=S9.trans S10;walk_at "x";refine ⟨d,_,rfl,S810 _ _ L8.hd,λq hq=>?_,by rw [FV,qz];lia,λl zs' hl flat perm so'=>?_⟩
 ·unfold kd at hq;obtain ⟨c,_,rfl⟩:=bw.mp hq;exact ⟨_,_,rfl⟩
 ·have S11:=b8.cw (o:=.lst (zs'.map qc)) hl;have g11:(upd H10 l (.lst (zs'.map qc))) l=some (.lst (zs'.map qc)):=aG;generalize upd H10 l (.lst (zs'.map qc))=H11 at S11 g11 ⊢
  have e:zs'.map (·.1)=(us.map λu=>u.1.key).map (λp=>[p.1,p.2]):=by
   refine zG (f:=id) (λ_ _ e=>e) (perm.trans ?_) (cS.mpr so') ?_
   ·unfold kd;rw [bN,bN,bN];have:=(pm.map λt=>[(t.x:Int),(t.y:Int)]).symm;rw [bN] at this;exact this
   ·rw [bN,cS];exact so.imp λh=>Rt h
  refine IQ (GQ (S11 _ _ g10) (sZ pz10 S11)) (.lst (de.of g11) (JM (λz hz=>?_) e)) (GR _) (GR _) ?_
  ·obtain ⟨xs,h1,h2⟩:=flat z hz;exact ⟨xs,S11 _ _ h1,h2⟩
  ·rw [WE e10];exact k _
end K31
namespace K31
theorem WL {l:tL}{w:bQ}{K:aa}{h:cm}{mg:bu->Option aj}{fa:af}(X:K.In h) (G:h.Ns bW mg) (hfa:mg "law"=some (.ref fa)) {c1 Pt1:af}{C A_Levels A_Keeper:af}
  (G8:c9 K bW "Wood"=some (some (.ref C))) (G9:jy K C Nq=true) (Ha:kr K C=true) (Hb:m9 K C=true) (Hc:bK K (.ref C) "__setattr__"=some (some (.builtin "object.__setattr__"))) (Hd:mh K C=true) (He:fg K (.ref C)=true)
  (uU:bK K (.ref C) "n"=some none)
  (oB:bK K (.ref C) "rows"=some none)
  (zH:c9 K bW "Levels"=some (some (.ref A_Levels))) (zI:jy K A_Levels Nq=true) (zJ:kr K A_Levels=true) (zK:m9 K A_Levels=true) (zL:bK K (.ref A_Levels) "__setattr__"=some (some (.builtin "object.__setattr__"))) (zM:mh K A_Levels=true) (zN:fg K (.ref A_Levels)=true)
  (iY:bK K (.ref A_Levels) "level_of"=some none)
  (iK:bK K (.ref A_Levels) "weight_of"=some none)
  (jO:bK K (.ref A_Levels) "wooden"=some none)
  (kI:bK K (.ref A_Levels) "woods"=some none)
  (zO:c9 K bW "Keeper"=some (some (.ref A_Keeper))) (zQ:jy K A_Keeper Nq=true) (zS:kr K A_Keeper=true) (zT:m9 K A_Keeper=true) (zU:bK K (.ref A_Keeper) "__setattr__"=some (some (.builtin "object.__setattr__"))) (zV:mh K A_Keeper=true) (zW:fg K (.ref A_Keeper)=true)
  (lM:bK K (.ref A_Keeper) "came"=some none)
  (jP:bK K (.ref A_Keeper) "levels"=some none)
  (jN:bK K (.ref A_Keeper) "looked"=some none)
  (lN:bK K (.ref A_Keeper) "lost"=some none)
  (qB:bK K (.ref A_Keeper) "n"=some none)
  (kJ:bK K (.ref A_Keeper) "risen"=some none)
  (lL:bK K (.ref A_Keeper) "wood"=some none)
  (Dm:vC K mg "is_whole" zf qe)
  (Do:vC K mg "is_count" zg qe)
  (Dp:vC K mg "is_place" zh oW)
  (U3:vC K mg "top" stop ["n"])
  (JN:vC K mg "tie_of" GD Ar)
  (JO:vC K mg "credit" GE CF)
  (Nj:vC K mg "rises" Lp tE)
  (Nk:vC K mg "looks" Lq tE)
  (vU:vC K mg "steps_along" sI ["row"])
  (JP:vC K mg "turned" GF ["row","a"])
  (FY:vC K mg "spliced" CJ Na)
  (JQ:vC K mg "parted" GG Ng)
  (qP:vC K mg "refuse_no_place" nA oW)
  (qA:vC K mg "refuse_no_places" mI nj)
  (se:vC K mg "refuse_no_pair" oM nj)
  (wZ:vC K mg "in_order" zj CC)
  (vV:vC K mg "ends_within" sJ CD)
  (FZ:vC K mg "new_tie" CK Ap)
  (uJ:vC K mg "standing_tie" qW Ap)
  (uK:vC K mg "_law_cell_at" qX CB)
  (yf:vC K mg "_law_shape" ue Jo)
  (yg:vC K mg "_law_mixed" uf Nc)
  (Av:vC K mg "_law_deed" wG M7)
  (uL:vC K mg "_law_members" qY Jm)
  (yh:vC K mg "_law_table" ug Nd)
  (Dq:vC K mg "_law_put" zk Jl)
  (yi:vC K mg "_law_sides" uh Jl)
  (Nl:vC K mg "law" WB Jp)
  (tI:mT K C "__init__" "Wood.__init__" qf lH)
  (Aw:mT K C "keep" "Wood.keep" wH Jq)
  (Ax:mT K C "link" "Wood.link" wI jH)
  (Ds:mT K C "cut" "Wood.cut" zl jH)
  (vW:mT K C "joined" "Wood.joined" sL jH)
  (yj:mT K C "group" "Wood.group" ui kZ)
  (Ay:mT K C "size" "Wood.size" wJ kZ)
  (qQ:mT K A_Levels "__init__" "Levels.__init__" nB lH)
  (yk:mT K A_Levels "add" "Levels.add" uj xW)
  (uM:mT K A_Levels "adopt" "Levels.adopt" qZ m8)
  (vX:mT K A_Levels "lift" "Levels.lift" sM m8)
  (vY:mT K A_Levels "drop" "Levels.drop" sN m8)
  (qR:mT K A_Levels "at_level" "Levels.at_level" nC M9)
  (vZ:mT K A_Levels "told" "Levels.told" sO m8)
  (oA:mT K A_Levels "lesser_side" "Levels.lesser_side" lb Aq)
  (v5:mT K A_Levels "look" "Levels.look" sP Aq)
  (v7:mT K A_Levels "take" "Levels.take" sQ m8)
  (tJ:mT K A_Keeper "__init__" "Kept.__init__" qg lH)
  (uN:mT K A_Keeper "receive" "Kept.receive" rg xW)
  (Dt:mT K A_Keeper "out" "Kept.out" zm jH)
  (v8:mT K A_Keeper "joined" "Kept.joined" sR jH)
  (Az:mT K A_Keeper "side" "Kept.side" wK kZ)
  (AA:mT K A_Keeper "ties" "Kept.ties" wL xX)
  (ym:mT K A_Keeper "put" "Keeper.put" uk jH)
  (w6:wZ.d.code=.ref c1)
  (LJ:c9 K bW "bool"=some none)
  (Ru:c9 K bW "int"=some none)
  (tq:c9 K bW "isinstance"=some none)
  (Rw:c9 K bW "len"=some none)
  (LK:c9 K bW "list"=some none)
  (Ry:c9 K bW "max"=some none)
  (Rz:c9 K bW "min"=some none)
  (Hg:c9 K bW "range"=some none)
  (w8:c9 K bW "reversed"=some none)
  (RA:c9 K bW "set"=some none)
  (Du:c9 K bW "sorted"=some none)
  (RB:c9 K bW "sum"=some none)
  (Hh:c9 K bW "tuple"=some none)
  (RC:c9 K bW "zip"=some none)
  {Ez:Xr}(rE:c9 K bW "MOST_PLACES"=some (some (.int 200 Ez)))
  : ∃ fd:fB,(∀ (s:ar) (v:aj),HM s fd ⟨[v],[]⟩ [("_law_script",v)])/\∀ base:cm,K.In base->base.Ns bW mg->pI base c1 Pt1->base.BuiltinsAt mg Pt1->dF l.prog w K mg base eN 12 fa fd Jp (G7 K Pt1):=by
 have e:=Nl.law hfa;subst e
 have T:oi K mg C (⟨A_Levels,A_Keeper⟩:CA):=⟨⟨G9,Ha,Hb,Hc⟩,sj X G G8,uU,oB,⟨zI,zJ,zK,zL⟩,sj X G zH,iY,iK,jO,kI,⟨zQ,zS,zT,zU⟩,sj X G zO,lM,jP,jN,lN,qB,kJ,lL,cH X G LJ,cH X G Ru,cH X G tq,cH X G Rw,cH X G LK,cH X G Ry,cH X G Rz,cH X G Hg,cH X G w8,cH X G RA,cH X G Du,cH X G RB,cH X G Hh,cH X G RC,⟨_,sj X G rE⟩⟩
 have ct:AV K C (⟨A_Levels,A_Keeper⟩:CA):=⟨⟨T.kR,T.uU,T.oB⟩,T.hJ,T.iY,T.jO,T.iK,T.kI,T.iC,T.qB,T.jP,T.lL,T.lM,T.jN,T.kJ,T.lN⟩
 refine ⟨Nl.d,λs v=>Nl.bt s [v] rfl,λbase _ _ CH1 B1=>?_⟩;have kB:=Dm.pC l.prog w base (Jy Dm.F T (by walk_at "l") GU);have Au:=U3.pC l.prog w base (WC U3.F T (by walk_at "l") TY);have om:=JN.pC l.prog w base (N9 JN.F T (by walk_at "l") LF);have pq:=Nj.pC l.prog w base (Ri Nj.F T (by walk_at "l") Od);have iw:=vU.pC l.prog w base (CQ vU.F T (by walk_at "l") AR);have uv:=JP.pC l.prog w base (Ob JP.F T (by walk_at "l") LD);have qr:=wZ.pC l.prog w base (JC wZ.F T w6 CH1 B1 (by walk_at "l") G0);have jY:=vV.pC l.prog w base (CS vV.F T (by walk_at "l") AU);have jr:=uK.pC l.prog w base (AM uK.F T (by walk_at "l") zE);have mO:=yf.pC l.prog w base (El yf.F T (by walk_at "l") Di);have mM:=yg.pC l.prog w base (Em yg.F T (by walk_at "l") Dj);have oo:=Av.pC l.prog w base (GK Av.F T (by walk_at "l") Ey);have gI:=uL.pC l.prog w base (dF.Mn (AN uL.F T (by walk_at "l") ye) yd);have mL:=yh.pC l.prog w base (En yh.F T (by walk_at "l") Dk);have hZ:=tI.WS l.prog w base Hd He (zx tI.F T (by walk_at "l") x8);have jB:=Aw.pC l.prog w base (GL Aw.F T (by walk_at "l") Et);have iz:=vZ.pC l.prog w base (C2 vZ.F T (by walk_at "l") AW);have qw:=Do.pC l.prog w base (Jz Do.F T kB (by walk_at "l") GY);have qj:=Dp.pC l.prog w base (JA Dp.F T kB (by walk_at "l") GV);have uC:=JO.pC l.prog w base (Oa JO.F T Au (by walk_at "l") LG);have x5:=Nk.pC l.prog w base (Rj Nk.F T pq (by walk_at "l") Oe);have rT:=FY.pC l.prog w base (Lz FY.F T uv (by walk_at "l") JI);have uA:=JQ.pC l.prog w base (Oc JQ.F T iw (by walk_at "l") LC);have gZ:=qR.pC l.prog w base (dF.Mn (wW qR.F T qr (by walk_at "l") uH) uG);have gH:=AA.pC l.prog w base (dF.Mn (GP AA.F T iz (by walk_at "l") Dg) De);have cL:=qP.pC l.prog w base (wR qP.F T qj (by walk_at "l") vz);have fO:=qQ.WS l.prog w base zM zN (wV qQ.F T hZ Au (by walk_at "l") vA);have eC:=qA.pC l.prog w base (vw qA.F T cL (by walk_at "l") uE);have iX:=yj.pC l.prog w base (Ep yj.F T cL (by walk_at "l") C7);have mf:=Ay.pC l.prog w base (GN Ay.F T cL (by walk_at "l") Ew);have cE:=se.pC l.prog w base (x4 se.F T eC (by walk_at "l") wX);have eZ:=vW.pC l.prog w base (CW vW.F T eC (by walk_at "l") AS);have gL:=oA.pC l.prog w base (tQ oA.F T iX mf (by walk_at "l") tj);have hW:=tJ.WS l.prog w base zV zW (zy tJ.F T fO qw (by walk_at "l") yc);have md:=Az.pC l.prog w base (GO Az.F T iX (by walk_at "l") Ex);have rZ:=FZ.pC l.prog w base (LA FZ.F T cE om (by walk_at "l") JK);have kF:=uJ.pC l.prog w base (AK uJ.F T cE om (by walk_at "l") zB);have jC:=Ax.pC l.prog w base (GM Ax.F T cE eZ jB rT (by walk_at "l") Eu);have qq:=Ds.pC l.prog w base (JE Ds.F T cE uA iw jB (by walk_at "l") GX);have jW:=v8.pC l.prog w base (C5 v8.F T eZ (by walk_at "l") A2);have jI:=yi.pC l.prog w base (Eo yi.F T gI md jW (by walk_at "l") Dl);have gK:=uM.pC l.prog w base (AO uM.F T jC (by walk_at "l") zC);have jX:=vX.pC l.prog w base (CY vX.F T jC (by walk_at "l") AX);have lI:=vY.pC l.prog w base (CZ vY.F T qq (by walk_at "l") AY);have mQ:=yk.pC l.prog w base (Er yk.F T eZ gK (by walk_at "l") C9);have lJ:=v5.pC l.prog w base (C3 v5.F T gL gZ jX jY gK (by walk_at "l") AZ);have lK:=v7.pC l.prog w base (C4 v7.F T lI lJ (by walk_at "l") A1);have kH:=uN.pC l.prog w base (AQ uN.F T mQ (by walk_at "l") zD);have ql:=Dt.pC l.prog w base (JF Dt.F T kF uC lK x5 pq iz (by walk_at "l") G2);have mK:=ym.pC l.prog w base (Es ym.F T kH rZ (by walk_at "l") Dc);have nG:=Dq.pC l.prog w base (JD Dq.F T gH mK gI mL (by walk_at "l") G6);exact WD Nl.F T hW jr mM mO oo nG gH jI ql (by walk_at "l") (T3 ct)
theorem walk {l:tL}{q:a9}{loose:List bu}{XP:(bu->Option aj)->cm->Prop}{YP:bQ->cm->Prop}{d dy1:DefRec}{K:Params->aa}{c1 Pt1:af}(hn:l.most=some 63) (hdf:d.params.defaults=[])
  (hY:∀ (w:bQ) (h:cm),YP w h->(K w.params).In h)
  (hrec1:(recsOf q).find? (λe=>e.name == ("in_order":bu))=some dy1) (htab1:∀ w:bQ,PySem.W.tabIn (K w.params) "in_order"=some (c1,Pt1))
  (hnt:∀ w:bQ,PySem.W.noTabs (K w.params)=true)
  (F:∀ (w:bQ) (mg:bu->Option aj) (fa:af) (h:cm),(K w.params).In h->h.Ns bW mg->mg d.name=some (.ref fa) ->
   ∃ fd:fB,(∀ (s:ar) (u:aj),HM s fd ⟨[u],[]⟩ [("_law_script",u)])/\∀ base:cm,(K w.params).In base->base.Ns bW mg->pI base c1 Pt1->base.BuiltinsAt mg Pt1->dF l.prog w (K w.params) mg base eN 12 fa fd Jp (G7 (K w.params) Pt1)) :
  Sa q loose XP YP l.row.toRowW d [] (λf vs=>Sb f vs):=by
 have m1:(c1,Pt1)∈[(c1,Pt1)]:=av;refine L2.QB (n:=63) (k:=12) (x:="_law_script") (Ps:=[(c1,Pt1)]) (sp:=λw=>G7 (K w.params) Pt1) hn (by decide) hdf ⟨rfl,by decide,by decide⟩ hY (λp hp=>?_) hnt (λw mg fa h a b c=>?_) (λ_ _ a ns hl hT hS=>⟨a,ns,rfl,hS,hl,.inl (hT _ m1),λ_=>rfl⟩) λ_ _ _ _ z=>z
 ·rw [aA.mp hp];exact ⟨_,dy1,hrec1,htab1⟩
 ·obtain ⟨fd,q1,q2⟩:=F w mg fa h a b c;exact ⟨fd,q1,λbase i1 i2 hP=>q2 base i1 i2 (hP _ m1).1 (hP _ m1).2⟩
end K31
end
end
local macro_rules | `(tactic| walk_at "b1")=>`(tactic| exact λ_ _ _ _ _ _ us hl=>match us,hl with|[_],_=>rfl)
local macro_rules | `(tactic| walk_at "b2")=>`(tactic| exact λ_ _ _ _ _ _ us hl=>match us,hl with|[_,_],_=>rfl)
local macro_rules | `(tactic| walk_at "b3")=>`(tactic| exact λ_ _ _ _ _ _ us hl=>match us,hl with|[_,_,_],_=>rfl)
local macro_rules | `(tactic| walk_at "b4")=>`(tactic| exact λ_ _ _ _ _ _ us hl=>match us,hl with|[_,_,_,_],_=>rfl)
local macro_rules | `(tactic| walk_at "b5")=>`(tactic| exact λ_ _ _ _ _ _ us hl=>match us,hl with|[_,_,_,_,_],_=>rfl)
structure PySem.W.Fast:Prop where(tw2217222774932286610 tw14069633650801410826 tw16112772384400893521 tw213736689639832434 tw6302627399986346907 tw8436381387618907059 tw18352991552078342080 tw11023066842991807545 tw14872572865558730363 tw14907604631161489066 tw13047836512744975093 tw14768025282722304176 tw15613956036396182810 tw5358340609397199380 tw12174379802116618805 tw6101749041615891375 tw9469120570576746925 tw16804035043034976751 tw9404084581506053377 tw9455989737871654277 tw3233709982357932519 tw15338835189125178777 tw1001777318606595302 tw5140543776285211059 tw11928659979062664145 tw17039900353003027423 tw13998474204393099802 tw13614856821504868521 tw12834896445708548119 tw6695947741307817184 tw15173426171584460131 tw7797255293821170403 tw12799953102330637329 tw3533580853596918531 tw18180202597055095718 tw616335466449777093 tw10109561555044579836 tw15421772780299935969 tw4407563042524363662 tw1637730641509844452 tw37130427253917136 tw15841169121428279557 tw13050165394535693121 tw6706764335826368987 tw5433342475453838013 tw12968807908833914611 tw4908558722434187552 tw1848506209265183616 tw14052758485316953773 tw9939830434982735891 tw5615023443284410567 tw3004124687635321888 tw13485655566917183074 tw13556197836685651372 tw9776151085473314127 tw13459317595587946330 tw13595937215243237059 tw15779758896557808354 tw10511925242698350240 tw3598219753784757754 tw13003341753409074417 tw1815924809666728215 tw10305775466234816633 tw16807514790357543723 tw1203275781630375647 tw15039929472370904438 tw8340756512624910669 tw9131309167807196979 tw509683886000188274 tw14262649957554511779 tw10483669492217440220 tw8715706427713319675 tw5774400476072764684 tw6196548284786020483 tw17189126190267357800 tw5724128921223033285 tw10145492640433095850 tw14253020120095852349 tw738282596705230541 tw15381520938253554493 tw3590151001412890044 tw5627059360659204278 tw1187449490592940582 tw15757897213637945588 tw16235971103896651168 tw8653480602527621669 tw10852572661611814182 tw16169576430493426990 tw63087157528760781 tw1777233648984853116 tw7144366890493930168 tw8680525980797868856 tw1897428973087828051 tw11861309542474490379 tw9839979764342593387 tw9983841296211001263 tw9059807956537939412 tw6470506336728880502 tw14617609468021040418 tw12704947271072157240 tw12781647973237332442 tw8393966947525177434 tw13691422132735744460 tw18391912027468803168 tw12682167705772662386 tw2822752228178374960 tw567148233382249844 tw3832732902679897413 tw13609910733567819901 tw10010553098565588718 tw5093752916049354915 tw4956419128996148323 tw17926452080076829270 tw15044213785565166613 tw3150713758212183032 tw18065619434253436065 tw11602132708749817647 tw4870154517285276485 tw943292079472640391 tw14424592770432441470 tw9765392461697580780 tw6238998103243200639 tw15581180653039510775 tw2524162073597686051 tw2254075182780842732 tw2880244332514352886 tw6490564602930479055 tw4578184480852049203 tw18050755613711432512 tw18317947241868029535 tw16220730911570900474 tw13583552304076152551 tw16775174381556944954 tw3738345502992221802 tw3289867475550834183 tw7194400232624979490 tw14483283882190690107 tw17269163754706925238 tw16402374937084738227 tw12676930039507737015 tw14389946892761234513 tw18064857973413702241 tw5834293130767125308 tw4946271306578956959 tw17929357056511360642 tw14341986433947736144 tw11427662180293856994 tw11540016950985735272 tw10024208480351475382 tw69547338578580033 tw18020374844213478209 tw11763816744055197281 tw2666546892560842266 tw9960646555494771005 tw8364948392442980704 tw14911949079993572290 tw3092487396849947959 tw11250470768516448875 tw16806461875869308203 tw12350770896065039239 tw5638953606878079069 tw5654142689583773034 tw14193709650478545236 tw14181403046272530122 tw4224392815641761825 tw4403100333106931076 tw13353532417915346233 tw12703225067937408037 tw8238216007419081355 tw8223824511426984482 tw18279690454628400009 tw14233755612601152922 tw15282590720846943820 tw2663808275794395970 tw13246108065059295018 tw14263685508371753849 tw16932069580196608042 tw804168056851191386 tw1233338837440376159 tw8451585322362655003 tw13843147229399029867 tw1194337730888605342 tw6479708583818655027 tw13906136963673560415 tw13683375379886247620 tw6464856239709709906 tw9306574173305744829 tw8849898161421981773 tw16884266257800892307 tw3421301134944760263 tw18396077078764833847 tw3150372219867815669 tw9831768353172080530 tw5337478446221393193 tw14378491228842410991 tw10291222680802846623 tw12649604892191986219 tw4203378559988841707 tw8089235860684295796 tw7180148437809110651 tw3704997674820028983 tw3873473551643540533 tw2098624102246505432 tw1383589495708883073 tw11559866665798390747 tw6714748362522039257 tw16415992201605145511 tw9384141893815651025 tw12149292200496964074 tw3019615510320547483 tw1832225759027355085 tw2920309797270345922 tw13099947165220652519 tw4717652574202331756 tw12403713204917954708 tw9938109678808412625 tw868530608008303051 tw4836153531774069143 tw10457610818724428044 tw3611688890635791145 tw13879552960008691972 tw12241641024635880028 tw17191090334049911744 tw13359199849936163714 tw2315993410423229802 tw18081742598995301124 tw4827769012247263390 tw406629429390171018 tw10498138850627750337 tw13367388515289105839 tw5214602362368829411 tw2262888564144677329 tw2501918434712390843 tw4172190316119028196 tw16266096197414251478 tw6500349219613187878 tw14971171201024455562 tw8517883027143552673 tw3168857475632921092 tw16314382894854854612 tw2854247950828805105 tw16007402378327107979 tw7752930515675244213 tw9757289285308655991 tw14617571350203074144 tw14166769507958466233 tw2865528419145133961 tw3803213019596304259 tw8899296380850257764 tw6630221601178654370 tw1155873377453884333 tw11387590822401791427 tw12583585036093988635 tw3317331995305160284 tw412211464261953077 tw1517229229712272279 tw17841756886937790362 tw9531077321135918882 tw15670536352189771068 tw2421551542216099138 tw12973826023960118355 tw10455747246841149602 tw14449003278837022204 tw7084545583697493777 tw3056698371086501822 tw2043615549584775924 tw8781011497894796684 tw8272224588981509759 tw10896590466953439030 tw4082555789222563548 tw4250515052398633872 tw17315302945422796552 tw10644040451856556546 tw14746832764674018107 tw16981403416214323121 tw16921034493241509684 tw12870514511447029295 tw11914612021987770071 tw10110204715713464292 tw8485190746201561288 tw15167904520403508946 tw13062875458622699511 tw12945208895301839813 tw1019654783249551374 tw10611236074047766587 tw3130621595607910694 tw7646551383467087050 tw751272793900354196 tw4875906382221717441 tw6701569384645410873 tw9508709527146928191 tw6549668297716497010 tw1472259719553312474 tw3214772637409880423 tw17712547446533749885 tw6089262392796963861 tw11743263344618414889 tw557293917035402485 tw2064193103242205816 tw11798728073596392855 tw6549541709960088929 tw4962926888676277685 tw335106424538334976 tw15282906798731668717 tw15898831209844779176 tw817161716478825636 tw7391844496727461317 tw1583941238743646643 tw12719648836292990252 tw1638723658004896884 tw7869175773540772354 tw8353771053891236419 tw13187819015132653004 tw9753437980429362095 tw16849281444930306300 tw2536963413592569585 tw3324470427696872294 tw9600534082497599607 tw13427940956631325623 tw13485786920581490012 tw13402608218142170174 tw14565470171040366088 tw2889999917426976510 tw9737895130711500267 tw16252903688556951648 tw15069750671267513476 tw13336630792182580990 tw2019026882028094807 tw348804218050085950 tw15606848100589867073 tw15009073012085754432 tw10345590022701415652 tw9874901112613669605 tw2590647627008122093 tw2701944870345157002 tw12927047032078791973 tw697502253930097852 tw2983388577397338492 tw2052398446824433488 tw8357167626756792344 tw14532125498331799659 tw11195763541923466940 tw6708442213246869341 tw4735954532523914900 tw8655290361490345241 tw184601009111317027 tw15635643632551699704 tw2615567112109417295 tw17645141344821045650 tw12016056779757624892 tw16556064663281030355 tw6200414263957961679 tw18096566491148726485 tw16160420341510444869 tw405956397592180244 tw10845815125959454365 tw392627290454799789 tw2195152531227220428 tw1906420986287925131 tw11972134299892082380 tw7194523598540994999 tw12679903613305939375 tw11396804957824704964 tw2516349490026543591 tw544796094291320124 tw13422769843201547049 tw13971715964327750248 tw15923648108713209195 tw2396266615899306 tw6099949893182331450 tw18583679318229127 tw9857952485538583717 tw16919507749378472470 tw8102235481098571046 tw15808730774723811647 tw3007752124422368831 tw3368016507381335793 tw2842643800411132727 tw1705422303740504256 tw8794997358365298710 tw17220619281609385226 tw5253175225573111606 tw17059616619257586100 tw1612906866732717570 tw2723329884145559162 tw12571655613238229911 tw11386836328235077589 tw9497801153914057181 tw10569973051483037142 tw15928587653173317259 tw10503580027369371465 tw8803364739878183094 tw12050048418496470941 tw13069112235720558519 tw6462372996521390343 tw16071724106810487988 tw2799734627633120873 tw12891647753874619529 tw3354796266220315942 tw5676271541274399706 tw8754893214524490799 tw2681466263801057671 tw6318875507594006489 tw4437735900161145685 tw4539718300505966122 tw1116491211659950692 tw12751669741398083370 tw6978359039993641938 tw13357850805423225599 tw17188737302429406163 tw5478870861569295751 tw996384423007670991 tw1271211487335737594 tw602669581305754948 tw4621711753080067837 tw10629843984051082038 tw14493579855249502591 tw2028997268350035140 tw15222584206139426817 tw10320708253060467346 tw10849619944191691584 tw17294646819519985313 tw521483721068963145 tw10216732000127702121 tw2547921186736661099 tw1107034332157056622 tw2860833960789514627 tw9871877137392085332 tw4168373058859102985 tw7037660392789606703 tw18359515813288515628 tw10482913427141307589 tw14111629153472652129 tw7882136640142103490 tw11204285665630836518 tw3254214620654939681 tw15017682304914021484 tw18031204707861656154 tw2428423566058876765 tw9937300395497927884 tw10982092178618925908 tw12250213284195444739 tw9688626886725151896 tw14181658206441773180 tw2151941068538288865 tw930737160141989799 tw7847877684549112005 tw7874123777081742131 tw8497537869534049162 tw10128930780336942024 tw3296183570168899404 tw10169533510567411744 tw8356428712797827618 tw8279166012298204955 tw9211805446417547938 tw7895974128376666230 tw9881993310233073488 tw12846715748046706977 tw3611349422173704912 tw8118042565693179126 tw5321110257552361564 tw7686717315242595509 tw18259124201299191033 tw861065785610485744 tw17122573406043476260 tw952083476729324719 tw3461001420464755130 tw15036245764854623577 tw9605059159125840039 tw4329416189011162699 tw17549637261479468270 tw8389185091318631550 tw12588355667531153085 tw1387243739589457699 tw15031589812294578630 tw7413109829762507666 tw991834546040433356 tw4279352835632289077 tw13540183807716910091 tw17163886921019549646 tw2343218418958910875 tw15113014793766420290 tw5641096909187288240 tw9620148838713343339 tw4920809730408449558 tw4899704144968203696 tw8419078961030560694 tw7668967599095349326 tw17213692011946182536 tw13710254332543576549 tw11874759986720422626 tw4232415029468248809 tw9636595860610102239 tw8852655851417575384 tw13881631725098866934 tw2903129263550346942 tw16247199980441600674 tw10152601935041655632 tw15820671932838399228 tw11623282045112729009 tw1926425508491893629 tw10688044383921852137 tw2669220781989266803 tw14072964750731283136 tw6281649640899154543 tw2504673812792035566:True)
open PySem PySem.W PyProof.Rows
set_option maxRecDepth 100000 in
set_option maxHeartbeats 0 in
theorem PySem.Challenge.cw_tiewood_k31_ties_put_holds : PySem.Challenge.rw_tiewood_k31_ties_put.Holds := by
  w_on;o_law;k_head;(case hw=>w_witness2)
  k_fill
  refine' K31.walk (l:=PySem.Challenge.rw_tiewood_k31_ties_put) rfl rfl (λw h Y=>PySem.W.km_in_of Y) ?hrec1 ?htab1 ?hnt ?F
  case hrec1=>exact rfl
  case htab1=>intro w;exact rfl
  case hnt=>intro w;exact rfl
  case F =>
    intro w mg fa h KX G hmg;refine' K31.WL KX G hmg ?G8 ?G9 ?Ha ?Hb ?Hc ?Hd ?He ?uU ?oB ?zH ?zI ?zJ ?zK ?zL ?zM ?zN ?iY ?iK ?jO ?kI ?zO ?zQ ?zS ?zT ?zU ?zV ?zW ?lM ?jP ?jN ?lN ?qB ?kJ ?lL (L2.yR KX G ?LL ?LM ?kB ?LN (by walk_at "b1")) (L2.yR KX G ?LO ?LP ?qw ?LQ (by walk_at "b1")) (L2.yR KX G ?LR ?LS ?qj ?LU (by walk_at "b2")) (L2.yR KX G ?Yx ?Yy ?Au ?Yz (by walk_at "b1")) (L2.yR KX G ?RD ?RE ?om ?RF (by walk_at "b2")) (L2.yR KX G ?RG ?RH ?uC ?RI (by walk_at "b2")) (L2.yR KX G ?T4 ?T7 ?pq ?T8 (by walk_at "b1")) (L2.yR KX G ?T9 ?Ua ?x5 ?Ub (by walk_at "b1")) (L2.yR KX G ?EA ?EB ?iw ?EC (by walk_at "b1")) (L2.yR KX G ?RJ ?RK ?uv ?RL (by walk_at "b2")) (L2.yR KX G ?Og ?Oh ?rT ?Oi (by walk_at "b4")) (L2.yR KX G ?RM ?RN ?uA ?RO (by walk_at "b3")) (L2.yR KX G ?yn ?yo ?cL ?yp (by walk_at "b2")) (L2.yR KX G ?xa ?xc ?eC ?xf (by walk_at "b3")) (L2.yR KX G ?zX ?zY ?cE ?zZ (by walk_at "b3")) (L2.yR KX G ?LW ?LX ?qr ?LY (by walk_at "b2")) (L2.yR KX G ?ED ?EE ?jY ?EF (by walk_at "b2")) (L2.yR KX G ?Oj ?Ol ?rZ ?Om (by walk_at "b4")) (L2.yR KX G ?Dv ?Dw ?kF ?Dx (by walk_at "b4")) (L2.yR KX G ?Dy ?Dz ?jr ?DA (by walk_at "b2")) (L2.yR KX G ?Hi ?Hj ?mO ?Hk (by walk_at "b2")) (L2.yR KX G ?Hl ?Hm ?mM ?Hn (by walk_at "b2")) (L2.yR KX G ?JR ?JS ?oo ?JT (by walk_at "b3")) (L2.yR KX G ?DB ?DC ?gI ?DD (by walk_at "b2")) (L2.yR KX G ?Ho ?Hq ?mL ?Hr (by walk_at "b1")) (L2.yR KX G ?LZ ?L0 ?nG ?L3 (by walk_at "b4")) (L2.yR KX G ?Hs ?Ht ?jI ?Hu (by walk_at "b4")) (L2.yR KX G ?YA ?YB ?YC ?YD (by walk_at "b1")) (L2.Bw ?A3 ?A4 ?A5 ?hZ ?A6 (by walk_at "b2")) (L2.Bw ?JU ?JV ?JW ?jB ?JX (by walk_at "b2")) (L2.Bw ?JY ?JZ ?J0 ?jC ?J1 (by walk_at "b3")) (L2.Bw ?Ma ?Mb ?Mc ?qq ?Md (by walk_at "b3")) (L2.Bw ?EG ?EH ?EI ?eZ ?EJ (by walk_at "b3")) (L2.Bw ?Hv ?Hw ?Hx ?iX ?Hy (by walk_at "b2")) (L2.Bw ?J2 ?J3 ?J5 ?mf ?J7 (by walk_at "b2")) (L2.Bw ?yq ?yr ?yt ?fO ?yu (by walk_at "b2")) (L2.Bw ?Hz ?HA ?HB ?mQ ?HC (by walk_at "b3")) (L2.Bw ?DE ?DF ?DG ?gK ?DH (by walk_at "b2")) (L2.Bw ?EK ?EL ?EM ?jX ?EN (by walk_at "b2")) (L2.Bw ?EO ?ER ?ES ?lI ?ET (by walk_at "b2")) (L2.Bw ?yw ?yz ?yA ?gZ ?yB (by walk_at "b3")) (L2.Bw ?EU ?EV ?EW ?iz ?EX (by walk_at "b2")) (L2.Bw ?uO ?uP ?uQ ?gL ?uR (by walk_at "b3")) (L2.Bw ?EY ?EZ ?E1 ?lJ ?E3 (by walk_at "b3")) (L2.Bw ?E4 ?E5 ?E6 ?lK ?E7 (by walk_at "b2")) (L2.Bw ?A7 ?A8 ?A9 ?hW ?Ba (by walk_at "b2")) (L2.Bw ?DI ?DJ ?DK ?kH ?DL (by walk_at "b3")) (L2.Bw ?Me ?Mg ?Mh ?ql ?Mi (by walk_at "b3")) (L2.Bw ?E8 ?E9 ?Fb ?jW ?Fc (by walk_at "b3")) (L2.Bw ?J8 ?J9 ?Ka ?md ?Kb (by walk_at "b2")) (L2.Bw ?Kc ?Kd ?Ke ?gH ?Kg (by walk_at "b1")) (L2.Bw ?HD ?HE ?HF ?mK ?HG (by walk_at "b3")) ?w6 ?LJ ?Ru ?tq ?Rw ?LK ?Ry ?Rz ?Hg ?w8 ?RA ?Du ?RB ?Hh ?RC ?rE
    case G8|G9|Ha|Hb|Hc|Hd|He|uU|oB|zH|zI|zJ|zK|zL|zM|zN|iY|iK|jO|kI|zO|zQ|zS|zT|zU|zV|zW|lM|jP|jN|lN|qB|kJ|lL|LL|LM|kB|LN|LO|LP|qw|LQ|LR|LS|qj|LU|Yx|Yy|Au|Yz|RD|RE|om|RF|RG|RH|uC|RI|T4|T7|pq|T8|T9|Ua|x5|Ub|EA|EB|iw|EC|RJ|RK|uv|RL|Og|Oh|rT|Oi|RM|RN|uA|RO|yn|yo|cL|yp|xa|xc|eC|xf|zX|zY|cE|zZ|LW|LX|qr|LY|ED|EE|jY|EF|Oj|Ol|rZ|Om|Dv|Dw|kF|Dx|Dy|Dz|jr|DA|Hi|Hj|mO|Hk|Hl|Hm|mM|Hn|JR|JS|oo|JT|DB|DC|gI|DD|Ho|Hq|mL|Hr|LZ|L0|nG|L3|Hs|Ht|jI|Hu|YA|YB|YC|YD|A3|A4|A5|hZ|A6|JU|JV|JW|jB|JX|JY|JZ|J0|jC|J1|Ma|Mb|Mc|qq|Md|EG|EH|EI|eZ|EJ|Hv|Hw|Hx|iX|Hy|J2|J3|J5|mf|J7|yq|yr|yt|fO|yu|Hz|HA|HB|mQ|HC|DE|DF|DG|gK|DH|EK|EL|EM|jX|EN|EO|ER|ES|lI|ET|yw|yz|yA|gZ|yB|EU|EV|EW|iz|EX|uO|uP|uQ|gL|uR|EY|EZ|E1|lJ|E3|E4|E5|E6|lK|E7|A7|A8|A9|hW|Ba|DI|DJ|DK|kH|DL|Me|Mg|Mh|ql|Mi|E8|E9|Fb|jW|Fc|J8|J9|Ka|md|Kb|Kc|Kd|Ke|gH|Kg|HD|HE|HF|mK|HG=>k_is
    case w6=>exact rfl
    case LJ|Ru|tq|Rw|LK|Ry|Rz|Hg|w8|RA|Du|RB|Hh|RC|rE=>k_is
