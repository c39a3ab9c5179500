import PyProof.Rows.All
import Wide.All
import OpenK.AllK
import Wide.FinOn
import Lean
import PyProof.EqAt
import PyProof.EqKinds
import PyProof.TupleCall
import KE.KMinKey
import KE.KLam
import PyProof.Rows.CallKwBuiltin
import PyProof.Rows.Range3
import PyProof.Rows.SeqMore2
import PyProof.SeqI3
import KE.KSortTup
import PyProof.ZipIter
import KE.KItemsList
import KE.KDictList
import KE.KRevIter
import PyProof.Rows.SetFrom
import PyProof.EnumMake
import PyProof.EnumStmt
import PyProof.EnumFor
import KE.KTryMore
import KE.KTryOn
import KE.KSortKey
import PyProof.ListRange
import PyProof.Rows.SumAny
import PySem.Challenge.RW_tiewood_k55_what_a_lightest_refuses
set_option Elab.async false
set_option linter.all false
set_option maxRecDepth 100000
set_option maxHeartbeats 0
open PySem.W renaming Frag->aa,findIn->bh,nsIn->bJ,kitOne->bZ,mg_none_of->cQ,keepIn->dD,kia_one->d0,mg_of->eh,emptyDict->fS,fnOf->gU,instObj->iX,plainGet->jc,hasDictIn->jZ,specialIn->j0,hideAll_get->ll,makesIn->lO,callWith_K->lT,plainOver->mQ,codeIn->mR,CodeHd->oX,OpenLaw->tK,isFn->tZ,cellsFrom_some->t8,hideAll->ue,takesIn->uf,methodCall_KW->vT,lookIn->wW,InstAt->wX,looks_findIn->wY,exmOne->xg,plainGet_of->yI,kat_cons->yL,kla_obj->AH,kat_yes->AI,methodObj->BP,takerIn->Gw,kitCls->Iv,mroIn->Lg,nsMap_none_of_in->Ls,tabObj->NQ,kas_rev->Rv,kas_ask->Ry,of_hideAll->Ts,codeRec_of->Tx,kat_no->TJ,isNs_of_in->TY,katRev->TZ,kitx_list->Uh,kitx_dict->Ui,handedIn->W6,WalkO->W8,findObj->Xv,readsIn->Xx,findCls->Xy,nsOkIn->Y9,notCls->Za,clsIn->aak
open PySem renaming wpAny_bind->ae,Addr->ah,Value->ai,wpAny_pure->au,Shared->ay,wpAny->aL,model->aU,sizeLine->aX,Str->bq,mainGlobals->bw,starEach->bK,Program->bQ,wpAny_holding->bY,rawInt->cF,Heap->cJ,World->cU,wpAny_call_entry->cV,Stmt->dz,compareOp->dG,Around->dM,bootBuiltins->dO,wpAny_newObj_type->dX,wpAny_mono->eJ,wpAny_callSpecial?_slot->e9,FuncData->fM,eval->fQ,wpAny_Call_Name_kw->fT,codeAny_builtin->gY,wpAny_attempt->iq,backTo->iJ,cLine->iM,Obj->iW,wpAny_askSetting->i3,wpAny_setState_of->jm,sysModules->jB,pyNext->jC,plainId_quiet->jF,holding->jU,Builtin->jV,wpAny_setField->jY,wpAny_typeNameOfWhole_keyiter->kh,codeAny->kD,codeAny_mono->kE,tupleKind_room_in1->kF,wpAny_passesOwn->kO,wpAny_ite_split->kQ,behindInMarks->kT,wpAny_newList->kU,wpAny_truthy_bool->lz,mem_of_lookup->lH,sliceBounds->lU,tupleKind->mF,wpAny_setEntries_of->mU,wpAny_typeNameOf_keyiter->nA,SetTable->nB,NameKind->oS,intKind->oU,recursionLimit->oV,wpAny_dictEntries->oY,wpAny_fieldsOf->oZ,firstArgMember->pb,builtinLookup_eq_fast->pZ,assignEach->qb,wpAny_isInstance->qc,attributeBase->qy,wpAny_loadName_local->qP,keywordEach->qQ,wpAny_execs_nil->rR,wpAny_updateSeq->rT,Arguments->tJ,Scope->tX,binaryOp->tY,wpAny_call->t7,wpAny_newTuple->ub,wpAny_rule->uc,standAt->v8,foldedSetIterable->v9,sizeLine_eq->wb,slot_list_getitem->we,wpAny_field->wg,Pos->wV,wpAny_getItem_list_slice->w6,IsPair->xb,Env->xZ,getMethod->yJ,slicePick->yK,relayAll->yM,scanBound->yN,wpAny_Name->AG,wpAny_nextOf_list_item->AM,letOwnedTupleGo->AU,typeLookup_type->AV,backToKw->DA,wpAny_pyIter_keyiter->DB,ZipApart->DF,isSubtype_stop->DG,layNew->DI,swapsWith->DR,inplaceOp->DS,BindsTo->DT,pickOrder->DV,seqItems?->DW,wpAny_standAt->GD,evalPart_none->GE,wpAny_load->Ik,typeLookup->Il,call_meets->Io,checkCount->Iq,setsByText->Iu,Operator->Le,bindArgs->Lh,valueAt->Li,atKey->Lj,callerA->Lk,wpAny_pyIter_slot->Lp,fits_of_scanBound->Lq,assign->NP,updateSeq->NS,frameOf->NX,onTheHeap->NY,Sem->N8,wpAny_of_eq->Ob,Within->PZ,wpAny_specialOf->Qb,wpAny_dictEpoch->Qc,collect->Rw,setNext->RC,pyIter->Tu,Result->Tv,callWith->Tw,wpAny_newFunctionEnv_cells->Tz,setField->TL,wpAny_runValue->TM,isSubtype_type->TQ,slotArgs->TR,setEntries->TU,quietNames->TX,evalPart_some->W7,call->W9,wpAny_handled->Xd,bindL->Xm,bindC->Xn,cellsFrom->Xo,Keyword->YX,wpAny_typeOf->Y0,newExc->Y1,ItemsOf->Y2,entryPlaceOf->Y8,Tok->Z9,wpAny_isTrue_Compare1->aaa,codeAny_call_function->aac,wpAny_nextOf_list_end->aaf,wpAny_notOrdered_dict->aag,wpAny_isOneOf_keyiter->aah
open List renaming length_map->af,mem_cons_of_mem->ag,mem_cons->aq,mem_cons_self->ar,getElem?_eq_some_iff->av,getElem?_eq_getElem->aw,mem_singleton->aC,getElem?_map->aG,mem_of_getElem?->aM,size_toArray->aN,map_append->aP,mem_append->aT,mem_map_of_mem->aW,nodup_cons->bg,mem_map->bo,length_append->br,mem_append_right->bx,map_map->bz,mem_iff_getElem?->bN,length_take->bO,length_cons->b8,take_of_length_le->cg,map_cons->cn,not_mem_nil->cq,mem_append_left->cz,getElem?_eq_none->cS,getLast?_append->cX,lookup_cons->c6,getElem_mem->di,lookup->dk,length_filter_le->dE,length_drop->dJ,append_assoc->eK,length->eW,getElem?_append_right->eX,filter_append->eY,take_add_one->ft,nodup_append->fu,eq_nil_or_concat->fw,concat_eq_append->fz,count_eq_zero->fJ,mem_filter->gG,getElem?_append_left->gO,drop_eq_getElem_cons->gQ,idxOf_lt_length_iff->hJ,count_append->ir,range->iS,map_congr_left->jl,nodup_nil->jr,eq_nil_of_length_eq_zero->jN,mem_filterMap->jS,getElem?_set_self->jT,zip_cons_cons->jW,take_append_drop->ki,mem_of_mem_head?->kj,ext_getElem?->kH,pairwise_map->kJ,count_cons_self->kW,filter_sublist->lP,append_nil->mH,find?_cons->mI,getElem?_take->mL,append_of_mem->mM,getLast?_cons->mO,getElem?_cons_zero->mS,pairwise_singleton->mT,replicate->nK,drop_of_length_le->nM,perm_append_comm->oB,any_eq_true->oK,getElem?_set_ne->pe,length_nil->pX,getElem?_drop->qR,map_singleton->qS,pairwise_iff_getElem->r0,length_range->sV,eraseIdx_cons_succ->uh,filter_cons->ui,append_eq_nil_iff->wo,append_inj_right'->wu,of_mem_zip->wZ,forIn_cons->xa,length_zip->xc,count_cons->xh,filter_map->xj,length_replicate->ya,length_singleton->yb,countP_mono_left->yd,getElem?_zipWith->ye,forIn_nil->yT,pairwise_append->yU,filterMap_cons->AS,length_pos_iff->AX,map_take->BR,sum_cons->BS,getElem_idxOf->CS,count_pos_iff->CV,take_sublist->DU,map_snd_zip->GH,take_length->GI,perm_middle->GJ,mem_range->Lz,take_succ->LD,nodup_iff_pairwise_ne->LF,getElem?_zip_eq_some->NT,getElem?_eq_none_iff->NU,any_cons->Oa,length_erase_of_mem->Oc,getElem?_replicate->P0,getElem?_cons_succ->Qd,map_nil->Ru,pairwise_lt_range->Rz,length_pos_of_mem->RE,length_eq_one_iff->RF,getElem?_toArray->TV,singleton_append->T3,length_eraseIdx->Um,nodup_iff_count->Uo,drop_eq_nil_iff->Uq,length_reverse->Xa,getElem?_range->Xb,filter_eq_self->Xh,forIn_toArray->Xw,reverse_cons->YZ,drop_sublist->Zb,filter_congr->Zc,all_eq_true->aad,countP_cons->aae,getElem_map->aai,cons_append->aal,take_append->aam,drop_length->aan,map_reverse->aao
open PySem.Heap renaming get?_push_of_some->ao,lt_size->aF,get?_push_size->aI,get?_update_self->bT,get?_update_other->bW,SameBut->iH,size_push->jq,get?_none_of_le->kR,size_update->oM,ExtBut->Uk
open PySem.Value renaming ref->ax,none->cu,type->dI,int->fc,builtin->j3,str->qx,bool->vS,float->To
open Nat renaming le_refl->aB,ne_of_lt->aO,lt_of_le_of_lt->aY,lt_of_lt_of_le->bc,zero_le->bA,le_trans->bF,ne_of_gt->df,lt_irrefl->h8,le_succ->ij,le_of_lt->i8,le_add_right->jD,succ_le_succ->jH,lt_succ_self->lG,le_of_not_lt->oW,mul_le_mul_right->pW,lt_succ_of_lt->tL,le_succ_of_le->tM,min_eq_left->yc,pow_le_pow_right->AO,add_le_add_left->BQ,le_of_eq->Gx,min_eq_right->Ip,lt_trans->TF,add_comm->T7,pow_succ->T8,le_zero->Xi
open Option.some renaming inj->aV,injEq->gX
open Array renaming length_toList->aZ,getElem?_eq_getElem->cm,getElem?_toList->dB,getElem?_eq_some_iff->iN,getElem?_eq_none->jM,getD->oA,toList_push->DH,toList_inj->Gy,perm_iff_toList_perm->Lm,toArray_toList->TK,append_assoc->W4,forIn_toList->Xc
open PyProof.Rows renaming seqObj->a9,IntsAre->gP,callWith_type1->ib,get?_update_seq->kP,envOfC->lp,IsTup->nv,listUpdate_at->nz,News->rQ,entry_list_sort->rS,listItems_at->sU,slot_list_sort->ua,AllBare->v7,callWith_builtin1->yS,plain_sorted->AJ,entry_sorted->AK,kind_sorted->DC,args_list_sort->DD,seqEpoch_at->DE,subscriptTail->GF,Subscript_->Im,args_sorted1->Lo,lt_int->Rp,tail_any->TB,Constant_none->W5,subscriptTail_builtinR->YY,iadd_int->aab
open Sum renaming inl->bp,inr->Gv
open PySem.Obj renaming mapSeq->bB,data_mapFields->dA,mapFields->jd,isFreed_of_fields->kI,cls_mapFields->tN,putSet->xf,data_mapDictKeys->AN,isFreed_of_dict->Xr
open PySem.F renaming plainAttrs_list->bD,slot_list_append->cG,type_list_append->cH,plain_extend_loop->fe,slot_list_index->fG,type_list_index->je,plainAttrs_dict->lW,slot_dict_pop->nN,type_dict_pop->nO,slot_dict_getitem->Js,args_list_index_2->Jt,entry_extend_loop->Ju,entry_list_index->Ll
open Bool renaming false_ne_true->bI,false_eq_true->ck,and_eq_true->eG,eq_iff_iff->eZ,false_and->yR,true_and->BU,and_false->LA,and_eq_false_iff->T9
open PySem.NameKind renaming free->bP,cell->iA
open PySem.Heap.SameBut renaming update->cP
open Prod.mk renaming inj->cW,injEq->Lu
open False renaming elim->c9
open PySem.PassesOwn renaming never->dS
open PySem.SetTable renaming below->dY,grown->ja,has->LC,orStandIn->RB,relaid->Xe,fresh->Xs,slot->Y4,laid->Y5,fits->Y7
open PySem.Around renaming under_plainId->eQ,under->N9,frames_deeper->Rt
open PySem.PyData renaming eqv->fi,canLayAll0->f9,depthAll->ik,canLay0->iK,depth->i5
open PySem.Str renaming ofString->fH,empty->Rq
open Option renaming map_eq_some_iff->fZ,isSome_iff_exists->rZ,map->AW,isSome_map->CQ,bind_eq_some_iff->NV,bind_eq_bind->TN,isNone_some->Uj,getD_none->Xp,getD_some->Xq,map_some->YW,pure_def->Y6
open PySem.SeqAt.EqAt renaming int_int->gC
open PySem.Builtin.SmallTypes renaming ownedTupleIsFree->gW,nextOf->jE
open PySem.Builtin.List renaming listExtendWith->ic,listLengthHint->jG,listSameRef->kK,listTooLong->pY
open Int renaming toNat_natCast->iz,pow_succ->xi,le_of_lt->TH
open List.cons renaming inj->i4
open True renaming intro->i9
open ForInStep renaming yield->lA
open PySem.Calls renaming call_function_entry->lB,spliced_cons->mG,spliced_nil->rY,Name_function_global->Ld,callWith_builtin->Qa,evalArgs_plain->TC
open List.Perm renaming refl->mJ,cons->mK,append_left->ud,swap->Xg
open PySem.SetTable.below renaming go->pd
open PySem.Heap.IsSliceOf renaming new->ug
open PySem.W.UpdF renaming head->uj
open PySem.Builtin.Dict_items renaming ownsTuple->wj
open PySem.SetTable.probe renaming go->wk
open PySem.EntryCells renaming newEntry->wm
open PySem.Builtin.ObjectAttr renaming bindTo->yO
open PySem.SeqAt renaming eqv_refl->yP
open List.Sublist renaming map->yV
open PySem.Paired renaming length->AF
open PySem.W.KasFin renaming intro->CU
open StateT renaming run_pure->GG
open PySem.Builtin.Dict renaming showsAll->Ir
open PySem.pickOrder renaming go->Lr
open List.Pairwise renaming nil->LB
open PySem.W.KatTups renaming cons->NR
open PySem.readyFrames renaming eq_def->NW
open Sum.inl renaming inj->PY
open PySem.Code renaming isFrame->Rr
open PySem.Builtin.ObjectAttr.Found renaming bind->RD
open Prod renaming ext->Ul
open PyProof.Rows.IntsAre renaming int_at->Xt
open PySem.Heap.Ns renaming of_isNs->Xu
open PySem.W.Looks renaming now->Y3
open PySem.SetTable.Met.empty renaming injEq->aaj
open PySem.Builtin.Frozenset renaming newClass->abR,updateFrom->abT,slot0->abU,addrOf->abV,sizeOf->abW
section
open PySem PySem.Spec PyProof.Rows
namespace L2
variable {s s':ay}{pos p pos' apos:wV}{x m qual name:bq}{A:dM}{pins:List (ah×iW)}{u v:ai}{a C b dx f L it:ah}{h h' g base:cJ}{K:aa}{w:cU}{E Q:ai->ay->Prop}{e tg c:Expr}{P prog:bQ}{us:List ai}{k t' i n:Nat}{es:List Expr}{o:iW}{op:CmpOp}{M:Model}{pl:N8 Bool}{ps N:List bq}{kindOf:bq->Option oS}{ch fp:List ah}{body:List dz}{mA mg:bq->Option ai}{kw:List (bq×ai)}{fd:fM}{g':Array GenState}{d':Drawn}{lo j:Int}{outer:List xZ}{scope:tX}
abbrev gn:=Sum Int bq
def DX:gn->ai->Bool
 | .inl k,v=>Value.isInt k v
 | .inr x,v=>Value.isStrOf x v
def keyH (w:cU):gn->Int
 | .inl k=>hashInt k
 | .inr x=>hashStr w x
theorem iu:∀ {k:gn}{v:ai},DX k v=true->(∃ i t,k=bp i/\v=fc i t)\/(∃ x t,k=Gv x/\v=qx x t)
 | .inl i,v,h=>by
  obtain ⟨t,e⟩:=Value.isInt_shape (k:=i) (v:=v) h
  exact .inl ⟨i,t,rfl,e⟩
 | .inr x,v,h=>by
  obtain ⟨t,e⟩:=Value.isStrOf_shape (x:=x) (v:=v) h;exact .inr ⟨x,t,rfl,e⟩
def RG (i:Int) (t:Z9):DX (.inl i) (.int i t)=true:=by simp [DX,Value.isInt]
def RH (x:bq) (t:Z9):DX (.inr x) (.str x t)=true:=by simp [DX,Value.isStrOf]
def aap (a b:Int):decide ((bp a:gn)=bp b)=(a == b):=by
 by_cases e:a=b
 .subst e;simp
 .have h:¬ (bp a:gn)=bp b:=λq=>e (PY q);rw [decide_eq_false h];exact (beq_eq_false_iff_ne.mpr e).symm
def aaq (a b:bq):decide ((Gv a:gn)=Gv b)=decide (a=b):=by
 by_cases e:a=b
 .subst e;simp
 .have h:¬ (Gv a:gn)=Gv b:=λq=>e (Sum.inr.inj q);rw [decide_eq_false h,decide_eq_false e]
def aar (a:Int) (b:bq):decide ((bp a:gn)=Gv b)=false:=decide_eq_false nofun
def aas (a:bq) (b:Int):decide ((Gv a:gn)=bp b)=false:=decide_eq_false nofun
def gj (prog:bQ) (w:cU):PySem.KeyKind prog w gn where
 is:=DX
 hash:=keyH w
 inj:=λv a b ha hb=>by
  rcases iu ha with ⟨i,t,rfl,rfl⟩|⟨x,t,rfl,rfl⟩
  .rcases iu hb with ⟨j,u,rfl,e⟩|⟨y,u,rfl,e⟩
   .injection e with e1 _;rw [e1]
   .exact nomatch e
  .rcases iu hb with ⟨j,u,rfl,e⟩|⟨y,u,rfl,e⟩
   .exact nomatch e
   .injection e with e1 _;rw [e1]
 byValue:=λk v h=>by
  rcases iu h with ⟨i,t,rfl,rfl⟩|⟨x,t,rfl,rfl⟩<;>rfl
 pyHash:=λhv h=>by
  rcases iu hv with ⟨i,t,rfl,rfl⟩|⟨x,t,rfl,rfl⟩
  .exact wpAny_pyHash_int h
  .exact wpAny_pyHash_str h
 eqBool:=λhu hv h=>by
  rcases iu hu with ⟨i,t,rfl,rfl⟩|⟨x,t,rfl,rfl⟩
  .rcases iu hv with ⟨j,u,rfl,rfl⟩|⟨y,u,rfl,rfl⟩
   .rw [aap] at h;exact wpAny_eqBool_int h
   .rw [aar] at h;exact SeqAt.EqAt.int_str i t y u _ _ _ _ h
  .rcases iu hv with ⟨j,u,rfl,rfl⟩|⟨y,u,rfl,rfl⟩
   .rw [aas] at h;exact SeqAt.EqAt.str_int x t j u _ _ _ _ h
   .rw [aaq] at h;exact wpAny_eqBool_str h
 «strs»:=λk x t v h=>by
  rcases iu h with ⟨i,u,rfl,e⟩|⟨y,u,rfl,e⟩
  .exact nomatch e
  .injection e with e1 _
   subst e1;cases v<;>rfl
def LG (prog:bQ) (w:cU) (i:Int) (t:Z9):(gj prog w).is (.inl i) (.int i t)=true:=RG i t
def LH (prog:bQ) (w:cU) (x:bq) (t:Z9):(gj prog w).is (.inr x) (.str x t)=true:=RH x t
inductive V where
 | non|bl (b:Bool)|int (i:Int)|str (x:bq)|byt (b:Array UInt8)|flt (b:UInt64)|ref (a:ah)|ty (n:String)
 deriving DecidableEq
def RelV:V->ai->Prop
 | .non,u=>u=cu
 | .bl b,u=>u=vS b
 | .int i,u=>∃ t,u=fc i t
 | .str x,u=>∃ t,u=qx x t
 | .byt b,u=>∃ t,u=Value.bytes b t
 | .flt b,u=>∃ t,u=To b t
 | .ref a,u=>u=ax a
 | .ty n,u=>u=dI n
abbrev Vals:List V->List ai->Prop:=Paired RelV
def Vals.length {xs:List V}(r:Vals xs us):xs.length=us.length:=AF r
theorem Vals.get:∀ {xs:List V}{us:List ai}{i:Nat}{x:V},Vals xs us->xs[i]?=some x->∃ u,us[i]?=some u/\RelV x u
 | _,_,_,_,.nil,e=>by simp at e
 | _,_,0,_,.cons r _,e=>by simp at e;subst e;exact ⟨_,rfl,r⟩
 | _,_,i+1,x,.cons _ t,e=>by
  obtain ⟨u,h1,h2⟩:=Vals.get (i:=i) (x:=x) t (by simpa using e);exact ⟨u,by simpa using h1,h2⟩
theorem Vals.set {x:V}(r:RelV x u):∀ {xs:List V}{us:List ai}(i:Nat),Vals xs us->Vals (xs.set i x) (us.set i u)
 | _,_,_,.nil=>.nil
 | _,_,0,.cons _ t=>.cons r t
 | _,_,i+1,.cons q t=>.cons q (Vals.set r i t)
theorem Vals.append:∀ {xs ys:List V}{us ws:List ai},Vals xs us->Vals ys ws->Vals (xs++ys) (us++ws)
 | _,_,_,_,.nil,s=>s
 | _,_,_,_,.cons r t,s=>.cons r (Vals.append t s)
theorem Vals.take:∀ {xs:List V}{us:List ai}(n:Nat),Vals xs us->Vals (xs.take n) (us.take n)
 | _,_,0,_=>.nil
 | _,_,_+1,.nil=>.nil
 | _,_,n+1,.cons r t=>.cons r (Vals.take n t)
theorem Vals.drop:∀ {xs:List V}{us:List ai}(n:Nat),Vals xs us->Vals (xs.drop n) (us.drop n)
 | _,_,0,r=>r
 | _,_,_+1,.nil=>.nil
 | _,_,n+1,.cons _ t=>Vals.drop n t
def vM:Option V->Option ai->Prop
 | some v,some u=>RelV v u
 | none,none=>True
 | _,_=>False
def KV {κ:Type}:List (κ×V)->List (κ×ai)->Prop:=Paired λ(p:κ×V) (q:κ×ai)=>p.1=q.1/\RelV p.2 q.2
def kV:gn->V
 | .inl i=>.int i
 | .inr x=>.str x
inductive HO where
  | lst (xs:List V)
  | tup (xs:List V)
  | dK (kvs:List (gn×V))|dT (kvs:List (List gn×V))
  | set (S:Int->Bool) (n:Nat)
  | ins (C dx:ah) (fs:List (bq×V))
  | own (x:ah)
  | xd (fs:List (bq×V))
  | met (f x:ah)
  | rng (lo hi:Int)
  | frz (o:iW) (u:HO)
  | tbl (ps:Array ai)
  | ext (φ:cJ->Prop)
abbrev Hp:=ah->Option HO
def upd (H:Hp) (a:ah) (o:HO):Hp:=λb=>if b=a then some o else H b
def aD {H:Hp}{o:HO}:upd H a o a=some o:=by unfold upd;rw [if_pos rfl]
def aE {H:Hp}{o:HO}(h:b≠a):upd H a o b=H b:=by unfold upd;rw [if_neg h]
def fA {H:Hp}{o u:HO}(h:H a=some o) (h':H b=some u) (d:o≠u:=by intro z;cases z):a≠b:=by
 intro e;subst e;rw [h] at h';exact d (aV h')
def aJ {H:Hp}{o:HO}(h:H a=some o) (h':H b=none):a≠b:=by
 intro e;subst e;rw [h] at h';cases h'
section
variable (P:bQ) (w:cU)
def fv (H:Hp) (h:cJ) (a:ah):HO->Prop
 | .lst xs=>xs.length<=aX/\∃ (its:List ai) (n:Nat),Vals xs its/\h.get? a=some { cls:=.type "list",data:=.seq its.toArray n }
 | .tup xs=>xs.length<=aX/\∃ its:List ai,Vals xs its/\nv h a its.toArray
 | .dK kvs=>kvs.length<=aX/\(a == jB)=false/\∃ vs,KV kvs vs/\h.DictOf (gj P w) a vs
 | .dT kvs=>kvs.length<=aX/\(a == jB)=false/\∃ xs:List (List gn×ah×ai),
   Paired (λ(p:List gn×V) (q:List gn×ah×ai)=>p.1=q.1/\H q.2.1=some (.tup (p.1.map kV))/\RelV p.2 q.2.2) kvs xs /\
   ∃ o es ep,h.get? a=some o/\o.ExactDict/\o.data=.dict es ep/\es.toList=xs.map (entryOfKey (mF (gj P w)))/\(xs.map (·.1)).Nodup
 | .set S n=>h.SetOf (oU P w) a S n
 | .ins C dx fs=>H dx=some (.own a)/\fs.length<=1000/\dx≠a/\h.get? a=some (iX C dx) /\
   ∃ mA,h.Ns1 dx mA/\(∀ f,vM (fs.lookup f) (mA f))/\PZ mA (fs.map (·.1))
 | .own _=>∃ o,h.get? a=some o
 | .xd fs=>∃ mA,h.Ns1 a mA/\∀ f,vM (fs.lookup f) (mA f)
 | .rng lo hi=>∃ t u v,h.get? a=some { cls:=.type "range",data:=.fields #[.int lo t,.int hi u,.int 1 v] }
 | .frz o u=>h.get? a=some o/\fv H h a u
 | .tbl ps=>h.get? a=some { cls:=.none,data:=.fields ps }
 | .met f x=>h.get? a=some (BP (.ref f) (.ref x))
 | .ext φ=>φ h/\(∃ o,h.get? a=some o)/\∀ h1 h2:cJ,φ h1->(∀ o,h1.get? a=some o->h2.get? a=some o)->φ h2
def tI (H:Hp) (h:cJ):Prop:=∀ a o,H a=some o->fv P w H h a o
end
section
variable {H H':Hp}{o:HO}
theorem fv.lt (x:fv P w H h a o):a<h.objs.size:=by
 cases o with
 | lst xs=>obtain ⟨_,_,_,_,e⟩:=x;exact aF e
 | tup xs=>obtain ⟨_,_,_,p⟩:=x;exact p.lt
 | dK kvs=>obtain ⟨_,_,_,_,o,_,_,e,_⟩:=x;exact aF e
 | dT kvs=>obtain ⟨_,_,_,_,o,_,_,e,_⟩:=x;exact aF e
 | set S n=>obtain ⟨o,_,_,_,e,_⟩:=x;exact aF e
 | ins C dx fs=>obtain ⟨_,_,_,e,_⟩:=x;exact aF e
 | own y=>obtain ⟨_,e⟩:=x;exact aF e
 | xd fs=>obtain ⟨_,⟨_,_,_,e,_⟩,_⟩:=x;exact aF e
 | rng lo hi=>obtain ⟨_,_,_,e⟩:=x;exact aF e
 | frz ob u=>obtain ⟨e,_⟩:=x;exact aF e
 | tbl ps=>exact aF (show h.get? a=some _ from x)
 | met f y=>exact aF (show h.get? a=some _ from x)
 | ext φ=>obtain ⟨_,⟨_,e⟩,_⟩:=x;exact aF e
theorem Paired.Te {α β:Type} {F G:α->β->Prop}:∀ {l₁:List α} {l₂:List β},Paired F l₁ l₂->(∀ a b,F a b->G a b)->Paired G l₁ l₂
 | _,_,.nil,_=>.nil
 | _,_,.cons r t,f=>.cons (f _ _ r) (Paired.Te t f)
theorem fv.vO (x:fv P w H h a o) (k:∀ b u,(b=a\/H b=some (.own a))->h.get? b=some u->h'.get? b=some u)
  (ho:∀ b,H b=some (.own a)->H' b=some (.own a)) (ht:∀ b xs,H b=some (.tup xs)->H' b=some (.tup xs)):fv P w H' h' a o:=by
 induction o with
 | lst xs=>obtain ⟨z,its,n,r,e⟩:=x;exact ⟨z,its,n,r,k _ _ (.inl rfl) e⟩
 | tup xs=>obtain ⟨z,its,r,ob,e,c⟩:=x;exact ⟨z,its,r,ob,k _ _ (.inl rfl) e,c⟩
 | dK kvs=>obtain ⟨z,y,vs,r,ob,es,ep,e,c⟩:=x;exact ⟨z,y,vs,r,ob,es,ep,k _ _ (.inl rfl) e,c⟩
 | dT kvs =>
  obtain ⟨z,y,xs,r,ob,es,ep,e,c⟩:=x
  exact ⟨z,y,xs,Paired.Te r λp q z=>⟨z.1,ht _ _ z.2.1,z.2.2⟩,ob,es,ep,k _ _ (.inl rfl) e,c⟩
 | set S n=>obtain ⟨ob,es,ep,t,e,c⟩:=x;exact ⟨ob,es,ep,t,k _ _ (.inl rfl) e,c⟩
 | ins C dx fs =>
  obtain ⟨d,z,ne,e,mA,⟨od,es,ep,e2,c⟩,r⟩:=x
  exact ⟨ho _ d,z,ne,k _ _ (.inl rfl) e,mA,⟨od,es,ep,k _ _ (.inr d) e2,c⟩,r⟩
 | own y=>obtain ⟨ob,e⟩:=x;exact ⟨ob,k _ _ (.inl rfl) e⟩
 | xd fs=>obtain ⟨mA,⟨od,es,ep,e,c⟩,r⟩:=x;exact ⟨mA,⟨od,es,ep,k _ _ (.inl rfl) e,c⟩,r⟩
 | rng lo hi=>obtain ⟨t,u,v,e⟩:=x;exact ⟨t,u,v,k _ _ (.inl rfl) e⟩
 | frz ob u ih=>obtain ⟨e,q⟩:=x;exact ⟨k _ _ (.inl rfl) e,ih q⟩
 | tbl ps =>
  have e:h.get? a=some { cls:=.none,data:=.fields ps }:=x
  show h'.get? a=some { cls:=.none,data:=.fields ps }
  exact k a _ (.inl rfl) e
 | met f y =>
  have e:h.get? a=some (BP (.ref f) (.ref y)):=x
  show h'.get? a=some (BP (.ref f) (.ref y))
  exact k a _ (.inl rfl) e
 | ext φ=>obtain ⟨p,⟨o,e⟩,st⟩:=x;exact ⟨st _ _ p λo q=>k _ _ (.inl rfl) q,⟨o,k _ _ (.inl rfl) e⟩,st⟩
def tI.lt (x:tI P w H h) (e:H a=some o):a<h.objs.size:=(x a o e).lt
def tI.fresh (x:tI P w H h) (e:h.objs.size<=a):H a=none:=by
 cases q:H a with
 | none=>rfl
 | some u=>exact absurd (bc (x.lt q) e) (h8 _)
def tI.kept (x:tI P w H h) (k:∀ b u,h.get? b=some u->h'.get? b=some u):tI P w H h':=λa o e =>
 (x a o e).vO (λb u _ q=>k b u q) (λ_ q=>q) λ_ _ q=>q
theorem tI.laid (x:tI P w H h) (k:∀ b u,h.get? b=some u->h'.get? b=some u) (hp:h.objs.size<=a) (new:fv P w (upd H a o) h' a o):tI P w (upd H a o) h':=λb u e=>by
 have hn:=x.fresh hp
 by_cases hb:b=a
 .subst hb;rw [aD] at e;cases e;exact new
 .rw [aE hb] at e
  exact (x b u e).vO (λc v _ q=>k c v q) (λc q=>by rw [aE (aJ q hn)];exact q) λc xs q=>by rw [aE (aJ q hn)];exact q
end
def Rd (H:Hp) (a:ah) (u:HO):Prop:=H a=some u\/∃ o,H a=some (.frz o u)
def Rd.ok {H:Hp}{u:HO}(r:Rd H a u) (x:tI P w H h):fv P w H h a u:=by
 rcases r with r|⟨o,r⟩
 .exact x a u r
 .obtain ⟨_,q⟩:=x a _ r;exact q
def Mut:Option HO->Prop
 | some (.lst _)=>True
 | some (.dK _)=>True
 | some (.dT _)=>True
 | some (.set _ _)=>True
 | some (.ins _ _ _)=>True
 | some (.ext _)=>True
 | _=>False
section
variable {H:Hp}{x e:ah}{o':HO}
theorem tI.write (ok:tI P w H h) (mu:Mut (H x)) (he:e=x\/H e=some (.own x)) (k:∀ b u,b≠e->h.get? b=some u->h'.get? b=some u) (heo:∃ u,h'.get? e=some u)
  (new:fv P w (upd H x o') h' x o'):tI P w (upd H x o') h':=λb u q=>by
 have nown:∀ c y,H c=some (.own y)->c≠x:=λc y r z=>by subst z;rw [r] at mu;exact mu
 have ntup:∀ c xs,H c=some (.tup xs)->c≠x:=λc xs r z=>by subst z;rw [r] at mu;exact mu
 by_cases hb:b=x
 .subst hb;rw [aD] at q;cases q;exact new
 .rw [aE hb] at q
  by_cases hbe:b=e
  .have q':H b=some (.own x):=by
    rcases he with z|z
    .exact absurd (hbe.trans z) hb
    .rw [hbe];exact z
   rw [q] at q';cases q';obtain ⟨v,hv⟩:=heo;exact ⟨v,by rw [hbe];exact hv⟩
  .refine (ok b u q).vO (λc v hc r=>k c v ?_ r) (λc r=>by rw [aE (nown c b r)];exact r) λc xs r=>by rw [aE (ntup c xs r)];exact r
   rcases hc with rfl|hc
   .exact hbe
   .rintro rfl
    rcases he with z|z
    .exact nown c b hc z
    .rw [hc] at z;cases z;exact hb rfl
end
structure Un (fs ex:List ah) (H H':Hp) (h h':cJ):Prop where
 keep:∀ b o,h.get? b=some o->H b=none->b∉fs->b∉ex->h'.get? b=some o
 slot:∀ b o,h.get? b=some o->H b=none->b∈fs->b∉ex->∃ sl,h'.get? b=some { o with slots:=sl }
 free:∀ b o,h.get? b=some o->H b=none->b∉ex->H' b=none
 there:∀ b o,h.get? b=some o->b∉ex->∃ o',h'.get? b=some o'
 wQ:∀ b xs,H b=some (.tup xs)->H' b=some (.tup xs)
 vQ:∀ b o u,H b=some (.frz o u)->H' b=some (.frz o u)
 vP:∀ b ps,H b=some (.tbl ps)->∃ more,H' b=some (.tbl (ps++more))
section
variable {fs fs' ex ex':List ah}{H H1 H2:Hp}{h1 h2:cJ}{x e:ah}{o:HO}
theorem Un.any (u:Un fs ex H H1 h h1) {b:ah}{ob:iW}(q:h.get? b=some ob) (n:H b=none) (hx:b∉ex):∃ sl,h1.get? b=some { ob with slots:=sl }:=by
 by_cases hb:b∈fs
 .exact u.slot b ob q n hb hx
 .exact ⟨ob.slots,u.keep b ob q n hb hx⟩
theorem Un.kept (k:∀ b u,h.get? b=some u->h'.get? b=some u):Un fs ex H H h h' :=
 ⟨λb ob q _ _ _=>k b ob q,λb ob q _ _ _=>⟨ob.slots,k b ob q⟩,λ_ _ _ n _=>n,λb ob q _=>⟨ob,k b ob q⟩,λ_ _ q=>q,λ_ _ _ q=>q,λ_ ps q=>⟨#[],by rw [q];simp⟩⟩
def Un.refl:Un fs ex H H h h:=Un.kept λ_ _ q=>q
theorem Un.laid (k:∀ b u,h.get? b=some u->h'.get? b=some u) (hp:h.objs.size<=a) (hn:H a=none):Un fs ex H (upd H a o) h h' where
 keep:=λb u q _ _ _=>k b u q
 slot:=λb u q _ _ _=>⟨u.slots,k b u q⟩
 free:=λb u q n _=>by rw [aE (aO (bc (aF q) hp))];exact n
 there:=λb u q _=>⟨u,k b u q⟩
 wQ:=λb xs q=>by rw [aE (aJ q hn)];exact q
 vQ:=λb u xs q=>by rw [aE (aJ q hn)];exact q
 vP:=λb ps q=>⟨#[],by rw [aE (aJ q hn),q];simp⟩
theorem Un.write (mu:Mut (H x)) (he:e=x\/H e=some (.own x)) (k:∀ b u,b≠e->h.get? b=some u->h'.get? b=some u) (heo:∃ u,h'.get? e=some u):Un fs ex H (upd H x o) h h':=by
 have hx:∀ b,H b=none->b≠x:=λb n z=>by subst z;rw [n] at mu;exact mu
 have hb:∀ b,H b=none->b≠e:=λb n z=>by
  subst z
  rcases he with r|r
  .exact hx b n r
  .rw [n] at r;cases r
 have hm:∀ b u,H b=some u->¬ Mut (some u)->b≠x:=λb u q nm z=>by subst z;rw [q] at mu;exact nm mu
 refine ⟨λb u q n _ _=>k b u (hb b n) q,λb u q n _ _=>⟨u.slots,k b u (hb b n) q⟩,λb u q n _=>by rw [aE (hx b n)];exact n,λb u q _=>?_,
  λb xs q=>by rw [aE (hm b _ q λz=>z)];exact q,λb u xs q=>by rw [aE (hm b _ q λz=>z)];exact q,λb ps q=>⟨#[],by rw [aE (hm b _ q λz=>z),q];simp⟩⟩
 by_cases hbe:b=e
 .subst hbe;exact heo
 .exact ⟨u,k b u hbe q⟩
end
def Zd (h:cJ) (H:Hp):List ah:=(iS h.objs.size).filter λa=>(H a).isSome
def DY (h:cJ) (H:Hp):cJ:=ue h (Zd h H)
def RI (h:cJ) (H:Hp):(DY h H).objs.size=h.objs.size:=PySem.W.hideAll_size _ _
def Ur {H:Hp}(e:h.get? b=some o) (n:H b=none):(DY h H).get? b=some o :=
 ll _ e λhm=>by
  have q:(H b).isSome=true:=(gG.mp hm).2;rw [n] at q;simp at q
theorem Xz {H:Hp}(e:(DY h H).get? b=some o):h.get? b=some o/\H b=none:=by
 have e':h.get? b=some o:=Ts (Zd h H) e;refine ⟨e',?_⟩
 cases q:H b with
 | none=>rfl
 | some x =>
  have hm:b∈Zd h H:=gG.mpr ⟨Lz.mpr (aF e'),by simp [q]⟩;have z:(DY h H).get? b=none:=PySem.W.hideAll_none (Zd h H) hm;rw [z] at e;cases e
def lX (g h:cJ) (L:ah):List (ah×iW):=(iS h.objs.size).filterMap λa=>if a=L\/(g.get? a).isSome=true then none else (h.get? a).map λo=>(a,o)
def lI (h1:a≠L) (h2:g.get? a=none) (h3:h.get? a=some o):(a,o)∈lX g h L :=
 jS.mpr ⟨a,Lz.mpr (aF h3),by simp [h1,h2,h3]⟩
theorem DZ {p:ah×iW}(hp:p∈lX g h L):p.1≠L/\g.get? p.1=none/\h.get? p.1=some p.2:=by
 obtain ⟨b,_,e⟩:=jS.mp hp
 split at e
 .cases e
 .rename_i hn
  cases q:h.get? b with
  | none=>rw [q] at e;simp at e
  | some u =>
   rw [q] at e;simp only [YW,gX] at e;subst e;refine ⟨λz=>hn (.inl z),?_,q⟩
   show g.get? b=none
   cases r:g.get? b with
   | none=>rfl
   | some v=>exact (hn (.inr (by simp [r]))).elim
def Us:rQ g L h (lX g h L):=λp hp=>let ⟨a,b,c⟩:=DZ hp;⟨c,a,b⟩
structure Mod (K:aa) (mg:bq->Option ai) (base:cJ):Prop where
 YS:K.In base
 glob:base.Ns bw mg
 blt:∃ mb,base.Ns builtinsNs mb/\∀ x:bq,x≠"__name__"->mb x=dO x
 nolimit:base.NoLimit
structure Cx where
 prog:bQ
 w:cU
 K:aa
 mg:bq->Option ai
 base:cJ
 A:dM
 N:List bq
 s₀:ay
 H₀:Hp
 env:xZ
 outer:List xZ
 stack:List xZ
 ex:List ah
 fn:bq->Bool
 calm:Bool
 pn:List (ah×iW)
 xe:ai->ay->Prop
def vK (l:List xZ):List ah:=l.filterMap (·.frame)
abbrev Cx.fs (X:Cx):List ah:=vK X.outer
def Vis (sc:tX) (x:bq):Prop:=sc.names.lookup x=some .local\/sc.names.lookup x=some .cell\/sc.names.lookup x=some .free
def Loc (sc:tX) (x:bq):Prop:=sc.names.lookup x=some .local\/sc.names.lookup x=some .cell
def Look (env:xZ) (h:cJ) (m:bq->Option ai) (x:bq) (u:ai):Prop :=
 (env.kindOf x=some .local/\m x=some u)\/((env.kindOf x=some .cell\/env.kindOf x=some .free)/\∃ c,env.cells.lookup x=some c/\h.IsCell c (some u))
structure Cx.Ok (X:Cx):Prop where
 mod:Mod X.K X.mg X.base
 kind:X.env.scope.kind=.function
 glob:X.env.globals=bw
 blt:X.env.builtins=builtinsNs
 above:X.s₀.heap.objs.size<=X.env.locals
 inj:∀ x y c,X.env.cells.lookup x=some c->X.env.cells.lookup y=some c->x=y
 has:∀ x,(X.env.kindOf x=some .cell\/X.env.kindOf x=some .free)->∃ c,X.env.cells.lookup x=some c
 Xl:∀ x c,X.fn x=true->X.env.cells.lookup x=some c->X.s₀.heap.objs.size<=c
 hd:X.calm=true->X.A.handled=none
 frames:X.A.frames=some X.stack
 YN:X.stack=X.outer\/(X.stack=X.env::X.outer/\X.env.frame=some X.env.locals)
 Z7:∀ b∈X.ex,b≠X.env.locals/\∀ x c,X.env.cells.lookup x=some c->c≠b
 bs:∀ b o,X.base.get? b=some o->X.s₀.heap.get? b=some o/\X.H₀ b=none
 N0:X.base.objs.size<=X.s₀.heap.objs.size
 Ie:∀ b o,X.base.get? b=some o->b∉X.ex
 Ij:∀ b∈X.ex,b∉X.fs
 sT:X.s₀.heap.FunFrames X.base X.outer
 Re:∀ b∈X.fs,X.H₀ b=none
structure Inv (X:Cx) (pins:List (ah×iW)) (Z:List (Option V)) (H:Hp) (s:ay):Prop where
 ok:X.Ok
 os:s.os=X.s₀.os
 bare:v7 s.gens
 base:Un X.fs X.ex X.H₀ H X.s₀.heap s.heap
 loc:∃ m,s.heap.Ns X.env.locals m/\∀ (i:Nat) (x:bq) (v:V),X.N[i]?=some x->Z[i]?=some (some v)->Vis X.env.scope x->∃ u,RelV v u/\Look X.env s.heap m x u
 cell:∀ x c,X.env.cells.lookup x=some c->∃ v,s.heap.IsCell c v
 free:H X.env.locals=none
 mY:∀ x c,X.env.cells.lookup x=some c->H c=none
 pin:∀ p∈X.pn++pins,s.heap.get? p.1=some p.2/\H p.1=none/\p.1≠X.env.locals/\p.1∉X.fs/\∀ v,p.2.data≠.cell v
 eV:tI X.prog X.w H s.heap
 len:Z.length=X.N.length
section
variable {X:Cx}{Z:List (Option V)}{H H':Hp}
def Cx.Ok.nofr (ok:X.Ok) {b:ah}{o:iW}(e:X.base.get? b=some o):b∉X.fs:=λhb=>by
 have:=(ok.sT.mem hb).1;rw [e] at this;cases this
theorem Inv.bs (I:Inv X pins Z H s):∀ b o,X.base.get? b=some o->s.heap.get? b=some o/\H b=none:=λb o e =>
 ⟨I.base.keep b o (I.ok.bs b o e).1 (I.ok.bs b o e).2 (I.ok.nofr e) (I.ok.Ie b o e),I.base.free b o (I.ok.bs b o e).1 (I.ok.bs b o e).2 (I.ok.Ie b o e)⟩
def Inv.bk (I:Inv X pins Z H s):∀ b o,X.base.get? b=some o->s.heap.get? b=some o:=λb o e=>(I.bs b o e).1
def Inv.mod (I:Inv X pins Z H s):Mod X.K X.mg X.base:=I.ok.mod
def Inv.wO (I:Inv X pins Z H s):X.K.In s.heap:=I.ok.mod.YS.keeps I.bk
def Inv.fr (I:Inv X pins Z H s):∃ m,Fr X.base X.env.locals s.heap m :=
 let ⟨m,hn,_⟩:=I.loc
 ⟨m,hn,I.bk,bF I.ok.N0 I.ok.above⟩
def Inv.lt (I:Inv X pins Z H s):X.env.locals<s.heap.objs.size:=let ⟨_,hn,_⟩:=I.loc;hn.lt
def Inv.sz (I:Inv X pins Z H s):X.s₀.heap.objs.size<=s.heap.objs.size:=bF I.ok.above (i8 I.lt)
def Inv.nofs (I:Inv X pins Z H s) {a:ah}(h:s.heap.objs.size<=a):a∉X.fs:=λhb=>by
 obtain ⟨_,o,ho,_⟩:=I.ok.sT.mem hb;exact absurd (bc (aF ho) (bF I.sz h)) (h8 _)
def Inv.Ug (I:Inv X pins Z H s):∀ x c,X.env.cells.lookup x=some c->c≠X.env.locals:=λx c e z=>by
 obtain ⟨v,o,ho,hd⟩:=I.cell x c e;obtain ⟨m,⟨o',es,ep,ho',hd',_⟩,_⟩:=I.loc;rw [z,ho'] at ho;cases ho;rw [hd'] at hd;cases hd
theorem Inv.sT (I:Inv X pins Z H s):s.heap.FunFrames X.base X.outer:=by
 have all:∀ (l:List xZ),(∀ b∈vK l,b∈X.fs)->X.s₀.heap.FunFrames X.base l->s.heap.FunFrames X.base l:=by
  intro l
  induction l with
  | nil=>intro _ _;trivial
  | cons env r ih =>
   intro hs hl;obtain ⟨hk,⟨L,o,hf,hn,ho,hd⟩,hr⟩:=hl;have hL:L∈X.fs:=hs L (by unfold vK;rw [AS,hf];exact ar);obtain ⟨sl,e⟩:=I.base.slot L o ho (I.ok.Re L hL) hL λz=>I.ok.Ij L z hL;exact ⟨hk,⟨L,_,hf,hn,e,hd⟩,ih (λb hb=>hs b (by unfold vK;rw [AS,hf];exact ag _ hb)) hr⟩
 exact all X.outer (λ_ hb=>hb) I.ok.sT
theorem Inv.stack (I:Inv X pins Z H s):s.heap.FunFrames X.base X.stack:=by
 rcases I.ok.YN with e|⟨e,hf⟩
 .rw [e];exact I.sT
 .rw [e];obtain ⟨m,hn,_⟩:=I.loc;refine .cons (by rw [I.ok.kind];decide) hf hn ?_ I.sT;exact kR (bF I.ok.N0 I.ok.above)
def Inv.PP (I:Inv X pins Z H s):∀ b∈vK X.stack,b∈X.env.locals::X.fs:=λb hb=>by
 rcases I.ok.YN with e|⟨e,hf⟩
 .rw [e] at hb;exact ag _ hb
 .rw [e] at hb;unfold vK at hb;rw [AS,hf] at hb;exact hb
def Inv.DQ (I:Inv X pins Z H s):∀ b∈vK X.stack,H b=none:=λb hb=>by
 rcases aq.mp (I.PP b hb) with e|hb
 .rw [e];exact I.free
 .obtain ⟨_,o,ho,_⟩:=I.ok.sT.mem hb;exact I.base.free b o ho (I.ok.Re b hb) λz=>I.ok.Ij b z hb
theorem Inv.step (I:Inv X pins Z H s)
  (hch:∀ b∈ch,(b∈X.ex\/X.s₀.heap.objs.size<=b)/\b≠X.env.locals/\(∀ x c,X.env.cells.lookup x=some c->c≠b)/\∀ p∈X.pn++pins,p.1≠b)
  (keep:∀ b o,b≠X.env.locals->b∉X.fs->b∉ch->s.heap.get? b=some o->H b=none->h'.get? b=some o)
  (slot:∀ b o,b≠X.env.locals->b∈X.fs->b∉ch->s.heap.get? b=some o->H b=none->∃ sl,h'.get? b=some { o with slots:=sl }) (free:∀ b o,b∉ch->s.heap.get? b=some o->H b=none->H' b=none)
  (there:∀ b o,b∉ch->s.heap.get? b=some o->∃ o',h'.get? b=some o')
  (wQ:∀ b xs,H b=some (.tup xs)->H' b=some (.tup xs)) (vQ:∀ b o u,H b=some (.frz o u)->H' b=some (.frz o u)) (vP:∀ b ps,H b=some (.tbl ps)->∃ more,H' b=some (.tbl (ps++more)))
  (ns:∀ m,s.heap.Ns X.env.locals m->h'.Ns X.env.locals m) (eV:tI X.prog X.w H' h') (hg:v7 g') :
  Inv X pins Z H' { s with heap:=h',gens:=g',drawn:=d',toks:=t' }:=by
 have neL:∀ b o,X.s₀.heap.get? b=some o->b≠X.env.locals:=λb o e=>aO (bc (aF e) I.ok.above)
 have neC:∀ b o,X.s₀.heap.get? b=some o->b∉X.ex->b∉ch:=λb o e hx hb=>by
  rcases (hch b hb).1 with z|z
  .exact hx z
  .exact absurd (bc (aF e) z) (h8 _)
 have cellK:∀ x c,X.env.cells.lookup x=some c->∀ v,s.heap.IsCell c v->h'.IsCell c v:=λx c e v ⟨o,ho,hd⟩=>by
  have nch:c∉ch:=λz=>(hch c z).2.2.1 x c e rfl
  by_cases hc:c∈X.fs
  .obtain ⟨sl,q⟩:=slot c o (I.Ug x c e) hc nch ho (I.mY x c e);exact ⟨_,q,hd⟩
  .exact ⟨o,keep c o (I.Ug x c e) hc nch ho (I.mY x c e),hd⟩
 refine ⟨I.ok,I.os,hg,⟨λb o e n hb hx=>?_,λb o e n hb hx=>?_,λb o e n hx=>?_,λb o e hx=>?_,λb xs e=>wQ b xs (I.base.wQ b xs e),λb o xs e=>vQ b o xs (I.base.vQ b o xs e),λb ps e=>?_⟩,?_,λx c e=>?_,?_,λx c e=>?_,λp hp=>?_,eV,I.len⟩
 .exact keep b o (neL b o e) hb (neC b o e hx) (I.base.keep b o e n hb hx) (I.base.free b o e n hx)
 .obtain ⟨sl,e1⟩:=I.base.slot b o e n hb hx;obtain ⟨sl',e2⟩:=slot b _ (neL b o e) hb (neC b o e hx) e1 (I.base.free b o e n hx);exact ⟨sl',e2⟩
 .obtain ⟨o',e1⟩:=I.base.there b o e hx;exact free b o' (neC b o e hx) e1 (I.base.free b o e n hx)
 .obtain ⟨o',e1⟩:=I.base.there b o e hx;exact there b o' (neC b o e hx) e1
 .obtain ⟨m1,e1⟩:=I.base.vP b ps e;obtain ⟨m2,e2⟩:=vP b _ e1;exact ⟨m1++m2,by rw [e2,W4]⟩
 .obtain ⟨m,hn,hl⟩:=I.loc;refine ⟨m,ns m hn,λi x v e1 e2 e3=>?_⟩;obtain ⟨u,r,l⟩:=hl i x v e1 e2 e3;refine ⟨u,r,?_⟩
  rcases l with l|⟨k,c,e,z⟩
  .exact .inl l
  .exact .inr ⟨k,c,e,cellK x c e _ z⟩
 .obtain ⟨v,z⟩:=I.cell x c e;exact ⟨v,cellK x c e v z⟩
 .obtain ⟨m,⟨o,_,_,ho,_⟩,_⟩:=I.loc;exact free _ o (λz=>(hch _ z).2.1 rfl) ho I.free
 .obtain ⟨v,o,ho,hd⟩:=I.cell x c e;exact free c o (λz=>(hch c z).2.2.1 x c e rfl) ho (I.mY x c e)
 .obtain ⟨e,n,ne,nf,d⟩:=I.pin p hp;have nch:p.1∉ch:=λz=>(hch p.1 z).2.2.2 p hp rfl;exact ⟨keep p.1 p.2 ne nf nch e n,free p.1 p.2 nch e n,ne,nf,d⟩
theorem Inv.un (I:Inv X pins Z H s) (u:Un X.fs [] H H' s.heap h') (eV:tI X.prog X.w H' h'):Inv X pins Z H' { s with heap:=h',toks:=t' }:=by
 obtain ⟨m,⟨o,es,ep,ho,r⟩,_⟩:=id I.loc;obtain ⟨sl,hL⟩:=u.any ho I.free (by simp)
 exact I.step (g':=s.gens) (d':=s.drawn) (ch:=[]) (λ_ z=>nomatch z) (λb o _ hb _ e n=>u.keep b o e n hb (by simp)) (λb o _ hb _ e n=>u.slot b o e n hb (by simp)) (λb o _ e n=>u.free b o e n (by simp)) (λb o _ e=>u.there b o e (by simp)) u.wQ u.vQ u.vP (λm' hm=>by
  obtain ⟨o',es',ep',ho',r'⟩:=hm;rw [ho] at ho';cases ho'
  exact ⟨_,es',ep',hL,r'⟩) eV I.bare
theorem Inv.call (I:Inv X pins Z H s) (u:Un (vK X.stack) ch H H' s.heap h') (eV:tI X.prog X.w H' h') (hg:v7 g')
  (hch:∀ b∈ch,(b∈X.ex\/X.s₀.heap.objs.size<=b)/\b≠X.env.locals/\(∀ x c,X.env.cells.lookup x=some c->c≠b)/\∀ p∈X.pn++pins,p.1≠b) :
  Inv X pins Z H' { s with heap:=h',gens:=g',drawn:=d',toks:=t' }:=by
 obtain ⟨m,⟨o,es,ep,ho,r⟩,_⟩:=id I.loc;obtain ⟨sl,hL⟩:=u.any ho I.free λz=>(hch _ z).2.1 rfl
 exact I.step (ch:=ch) hch (λb o hL hb hc e n=>u.keep b o e n (λz=>(aq.mp (I.PP b z)).elim hL hb) hc) (λb o _ _ hc e n=>u.any e n hc) (λb o hc e n=>u.free b o e n hc) (λb o hc e=>u.there b o e hc) u.wQ u.vQ u.vP (λm' hm=>by
  obtain ⟨o',es',ep',ho',r'⟩:=hm;rw [ho] at ho';cases ho'
  exact ⟨_,es',ep',hL,r'⟩) eV hg
theorem Inv.turned (I:Inv X pins Z H s) (k:∀ b o,b≠it->s.heap.get? b=some o->h'.get? b=some o) (hn:H it=none) (hL:it≠X.env.locals)
  (h1:it∈X.ex\/X.s₀.heap.objs.size<=it) (h2:∀ x c,X.env.cells.lookup x=some c->c≠it) (h3:∀ p∈X.pn++pins,p.1≠it):Inv X pins Z H { s with heap:=h',toks:=t' }:=by
 have nit:∀ b u,H b=some u->b≠it:=λb u e z=>by rw [z,hn] at e;cases e
 refine I.step (g':=s.gens) (d':=s.drawn) (ch:=[it]) (λb hb=>?_) (λb o _ _ hc e _=>k b o (λz=>hc (by simp [z])) e) (λb o _ _ hc e _=>⟨o.slots,k b o (λz=>hc (by simp [z])) e⟩) (λ_ _ _ _ n=>n)
  (λb o hc e=>⟨o,k b o (λz=>hc (by simp [z])) e⟩) (λ_ _ e=>e) (λ_ _ _ e=>e) (λb ps e=>⟨#[],by rw [e];simp⟩) (λm hm=>?_) (λb u e=>?_) I.bare
 .have e:b=it:=by simpa using hb
  subst e;exact ⟨h1,hL,h2,h3⟩
 .obtain ⟨o,es,ep,ho,r⟩:=hm;exact ⟨o,es,ep,k _ o (Ne.symm hL) ho,r⟩
 .refine (I.eV b u e).vO (λc v hc q=>k c v ?_ q) (λ_ q=>q) λ_ _ q=>q
  rcases hc with z|z
  .rw [z];exact nit b u e
  .exact nit c _ z
def Inv.tok (I:Inv X pins Z H s) (t:Nat):Inv X pins Z H { s with toks:=t }:=I.un (h':=s.heap) (t':=t) Un.refl I.eV
def Inv.kept (I:Inv X pins Z H s) (k:∀ b u,s.heap.get? b=some u->h'.get? b=some u):Inv X pins Z H { s with heap:=h',toks:=t' }:=I.un (Un.kept k) (I.eV.kept k)
theorem Inv.laid {o:HO}(I:Inv X pins Z H s) (k:∀ b u,s.heap.get? b=some u->h'.get? b=some u) (hp:s.heap.objs.size<=a) (new:fv X.prog X.w (upd H a o) h' a o) :
  Inv X pins Z (upd H a o) { s with heap:=h',toks:=t' }:=I.un (Un.laid k hp (I.eV.fresh hp)) (I.eV.laid k hp new)
theorem Inv.write {x e:ah}{o:HO}(I:Inv X pins Z H s) (mu:Mut (H x)) (he:e=x\/H e=some (.own x)) (k:∀ b u,b≠e->s.heap.get? b=some u->h'.get? b=some u) (heo:∃ u,h'.get? e=some u)
  (new:fv X.prog X.w (upd H x o) h' x o):Inv X pins Z (upd H x o) { s with heap:=h',toks:=t' }:=I.un (Un.write mu he k heo) (I.eV.write mu he k heo new)
theorem Inv.Rb {pins':List (ah×iW)}(I:Inv X pins Z H s) (h:∀ p∈pins',s.heap.get? p.1=some p.2/\H p.1=none/\p.1≠X.env.locals/\p.1∉X.fs/\∀ v,p.2.data≠.cell v):Inv X pins' Z H s :=
 ⟨I.ok,I.os,I.bare,I.base,I.loc,I.cell,I.free,I.mY,λp hp=>(aT.mp hp).elim (λz=>I.pin p (cz _ z)) (h p),I.eV,I.len⟩
def D0 (hN:N.Nodup) {i j:Nat}{x:bq}(a:N[i]?=some x) (b:N[j]?=some x):i=j:=by
 obtain ⟨h1,e1⟩:=av.mp a;obtain ⟨h2,e2⟩:=av.mp b;exact (List.getElem_inj hN).mp (e1.trans e2.symm)
theorem Iw {v:V}{Q:Unit->ay->Prop}(I:Inv X pins Z H s) (hN:X.N.Nodup) (hi:X.N[i]?=some x) (hx:Loc X.env.scope x) (r:RelV v u)
  (h:∀ s',Inv X pins (Z.set i (some v)) H s'->(∃ a,iH a s.heap s'.heap/\(a=X.env.locals\/X.env.cells.lookup x=some a))->Q () s') (hf:X.fn x=true\/X.env.scope.names.lookup x=some .local:=by first|exact .inl rfl|exact .inr rfl|assumption):aL M A (storeName X.env x u) Q E s:=by
 obtain ⟨m,hn,hl⟩:=id I.loc
 have hcls:(X.env.scope.kind == .class || (X.env.scope.kind == .module && X.env.locals != X.env.globals))=false:=by rw [I.ok.kind];rfl
 have hiσ:i<Z.length:=by rw [I.len];exact (av.mp hi).1
 have Ug:=I.Ug
 have tracked:∀ {a:ah}{h':cJ},(∃ o,s.heap.get? a=some o/\H a=none)->iH a s.heap h'->tI X.prog X.w H h':=λ{a h'} ha hs b ob e=>by
  obtain ⟨_,_,hfree⟩:=ha;refine (I.eV b ob e).vO (λc w' hc q=>(hs.2 c ?_).trans q) (λ_ q=>q) λ_ _ q=>q;rintro rfl
  rcases hc with rfl|hc
  .rw [hfree] at e;cases e
  .rw [hfree] at hc;cases hc
 rcases hx with hk|hk
 .refine wpAny_storeName_local hk hn (λh' hn' hs=>?_) hcls;obtain ⟨oL,_,_,hoL,_⟩:=id hn;refine h _ ⟨I.ok,I.os,I.bare,⟨λb o e n hb hx=>?_,λb o e n hb hx=>?_,I.base.free,λb o e hx=>?_,I.base.wQ,I.base.vQ,I.base.vP⟩,⟨_,hn',λj y v' e1 e2 e3=>?_⟩,λy c e=>?_,I.free,I.mY,λp hp=>?_,tracked ⟨oL,hoL,I.free⟩ hs,by simpa using I.len⟩ ⟨_,hs,.inl rfl⟩
  .exact (hs.2 b (aO (bc (aF e) I.ok.above))).trans (I.base.keep b o e n hb hx)
  .obtain ⟨sl,e1⟩:=I.base.slot b o e n hb hx;exact ⟨sl,(hs.2 b (aO (bc (aF e) I.ok.above))).trans e1⟩
  .obtain ⟨o',e1⟩:=I.base.there b o e hx;exact ⟨o',(hs.2 b (aO (bc (aF e) I.ok.above))).trans e1⟩
  .by_cases hj:j=i
   .subst hj;rw [hi] at e1;cases e1;rw [jT hiσ] at e2;cases e2;exact ⟨u,r,.inl ⟨hk,by simp⟩⟩
   .rw [pe (Ne.symm hj)] at e2;obtain ⟨u',r',q⟩:=hl j y v' e1 e2 e3;refine ⟨u',r',?_⟩
    rcases q with ⟨k,e⟩|⟨k,c,e,z⟩
    .refine .inl ⟨k,?_⟩;have:y≠x:=λe=>hj (D0 hN e1 (e▸hi));simp [this,e]
    .exact .inr ⟨k,c,e,z.sameBut hs (Ug y c e)⟩
  .obtain ⟨w',z⟩:=I.cell y c e;exact ⟨w',z.sameBut hs (Ug y c e)⟩
  .obtain ⟨e,n,ne,nf,d⟩:=I.pin p hp;exact ⟨(hs.2 p.1 ne).trans e,n,ne,nf,d⟩
 .have hfn:X.fn x=true:=by
   rcases hf with z|z
   .exact z
   .rw [z] at hk;cases hk
  obtain ⟨c,hc⟩:=I.ok.has x (.inl hk);obtain ⟨w',z⟩:=I.cell x c hc;refine wpAny_storeName_cell I.ok.kind hk hc z (λh' hc' hs=>?_);obtain ⟨oc,hoc,hocd⟩:=id z;refine h { s with heap:=h' } ⟨I.ok,I.os,I.bare,⟨λb o e n hb hx=>?_,λb o e n hb hx=>?_,I.base.free,λb o e hx=>?_,I.base.wQ,I.base.vQ,I.base.vP⟩,⟨m,hn.sameBut hs (Ne.symm (Ug x c hc)),λj y v' e1 e2 e3=>?_⟩,λy c' e=>?_,I.free,I.mY,λp hp=>?_,tracked ⟨oc,hoc,I.mY x c hc⟩ hs,by simpa using I.len⟩ ⟨c,hs,.inr hc⟩
  .exact (hs.2 b (aO (bc (aF e) (I.ok.Xl x c hfn hc)))).trans (I.base.keep b o e n hb hx)
  .obtain ⟨sl,e1⟩:=I.base.slot b o e n hb hx;exact ⟨sl,(hs.2 b (aO (bc (aF e) (I.ok.Xl x c hfn hc)))).trans e1⟩
  .obtain ⟨o',e1⟩:=I.base.there b o e hx;exact ⟨o',(hs.2 b (aO (bc (aF e) (I.ok.Xl x c hfn hc)))).trans e1⟩
  .by_cases hj:j=i
   .subst hj;rw [hi] at e1;cases e1;rw [jT hiσ] at e2;cases e2;exact ⟨u,r,.inr ⟨.inl hk,c,hc,hc'⟩⟩
   .rw [pe (Ne.symm hj)] at e2;obtain ⟨u',r',q⟩:=hl j y v' e1 e2 e3;refine ⟨u',r',?_⟩
    rcases q with q|⟨k,c',e,z'⟩
    .exact .inl q
    .refine .inr ⟨k,c',e,z'.sameBut hs ?_⟩;rintro rfl;exact hj (D0 hN e1 (I.ok.inj _ _ _ e hc▸hi))
  .by_cases hcc:c'=c
   .subst hcc;exact ⟨_,hc'⟩
   .obtain ⟨w2,z2⟩:=I.cell y c' e;exact ⟨w2,z2.sameBut hs hcc⟩
  .obtain ⟨e,n,ne,nf,d⟩:=I.pin p hp;refine ⟨(hs.2 p.1 ?_).trans e,n,ne,nf,d⟩;intro q;rw [q,hoc] at e;have q':oc=p.2:=aV e;exact d w' (by rw [← q'];exact hocd)
theorem uk {v:V}{Q:Unit->ay->Prop}(I:Inv X pins Z H s) (hN:X.N.Nodup) (hi:X.N[i]?=some x) (hx:Loc X.env.scope x) (r:RelV v u)
  (h:∀ s',Inv X pins (Z.set i (some v)) H s'->Q () s') (hf:X.fn x=true\/X.env.scope.names.lookup x=some .local:=by first|exact .inl rfl|exact .inr rfl|assumption):aL M A (storeName X.env x u) Q E s :=
 Iw I hN hi hx r (λs' I' _=>h s' I') hf
theorem Inv.WR (I:Inv X pins Z H s) (ho:s'.os=s.os) (u:Un (vK X.stack) ch H H' s.heap s'.heap) (eV:tI X.prog X.w H' s'.heap) (hg:v7 s'.gens)
  (hch:∀ b∈ch,(b∈X.ex\/X.s₀.heap.objs.size<=b)/\b≠X.env.locals/\(∀ x c,X.env.cells.lookup x=some c->c≠b)/\∀ p∈X.pn++pins,p.1≠b):Inv X pins Z H' s':=by
 obtain ⟨h',g',d',t',o'⟩:=s';have e:o'=s.os:=ho;subst e;exact I.call (g':=g') (t':=t') (d':=d') u eV hg hch
end
abbrev XK:=ai->Option ah->Hp->Prop
abbrev St:=List (Option V)
abbrev VK:=V->Hp->Prop
abbrev TE:=St->Hp->VK->Prop
abbrev TT:=St->Hp->(Bool->Hp->Prop)->Prop
abbrev TA:=St->Hp->(List V->Hp->Prop)->Prop
structure r9 where
 nx:St->Hp->Prop
 rt:VK
 bk:St->Hp->Prop:=λ_ _=>False
 ct:St->Hp->Prop:=λ_ _=>False
abbrev TS:=r9->St->Hp->Prop
def EP (X:Cx) (pins:List (ah×iW)) (Z:St) (Q:VK) (u:ai) (s':ay):Prop:=∃ v H',Inv X pins Z H' s'/\RelV v u/\Q v H'
def TP (X:Cx) (pins:List (ah×iW)) (Z:St) (Q:Bool->Hp->Prop) (b:Bool) (s':ay):Prop:=∃ H',Inv X pins Z H' s'/\Q b H'
def AP (X:Cx) (pins:List (ah×iW)) (Z:St) (Q:List V->Hp->Prop) (us:List ai) (s':ay):Prop:=∃ vs H',Inv X pins Z H' s'/\Vals vs us/\Q vs H'
def SP (X:Cx) (pins:List (ah×iW)) (D:r9) (f:Flow) (s':ay):Prop :=
 match f with
 | .next=>∃ σ' H',Inv X pins σ' H' s'/\D.nx σ' H'
 | .brk=>∃ σ' H',Inv X pins σ' H' s'/\D.bk σ' H'
 | .cont=>∃ σ' H',Inv X pins σ' H' s'/\D.ct σ' H'
 | .ret u=>∃ v σ' H',Inv X pins σ' H' s'/\RelV v u/\D.rt v H'
def PE (X:Cx) (e:Expr) (t:TE):Prop :=
 ∀ (pins:List (ah×iW)) (s:ay) (Z:St) (H:Hp) (Q:VK),Inv X pins Z H s->t Z H Q->aL (aU X.prog X.w) X.A (fQ e X.env) (EP X pins Z Q) X.xe s
def PT (X:Cx) (e:Expr) (t:TT):Prop :=
 ∀ (pins:List (ah×iW)) (s:ay) (Z:St) (H:Hp) (Q:Bool->Hp->Prop),Inv X pins Z H s->t Z H Q->aL (aU X.prog X.w) X.A (isTrue e X.env (fQ e X.env)) (TP X pins Z Q) X.xe s
def PW (X:Cx) (e:Expr) (t:TT):Prop :=
 ∀ (whole:N8 ai) (pins:List (ah×iW)) (s:ay) (Z:St) (H:Hp) (Q:Bool->Hp->Prop),Inv X pins Z H s->t Z H Q->aL (aU X.prog X.w) X.A (isTrue e X.env whole) (TP X pins Z Q) X.xe s
def PW.pt {X:Cx}{t:TT}(h:PW X e t):PT X e t:=h _
def PA (X:Cx) (es:List Expr) (t:TA):Prop :=
 ∀ (pos:wV) (pins:List (ah×iW)) (s:ay) (Z:St) (H:Hp) (Q:List V->Hp->Prop),Inv X pins Z H s->t Z H Q->aL (aU X.prog X.w) X.A (spliced (iJ pos (bK es X.env))) (AP X pins Z Q) X.xe s
def PS (X:Cx) (st:dz) (t:TS):Prop :=
 ∀ (pins:List (ah×iW)) (s:ay) (Z:St) (H:Hp) (D:r9),Inv X pins Z H s->t D Z H->aL (aU X.prog X.w) X.A (exec st X.env) (SP X pins D) X.xe s
def Ih (X:Cx) (st:List dz) (t:TS):Prop :=
 ∀ (pins:List (ah×iW)) (s:ay) (Z:St) (H:Hp) (D:r9),Inv X pins Z H s->t D Z H->aL (aU X.prog X.w) X.A (execs st X.env) (SP X pins D) X.xe s
def ia {α:Type} {t:N8 α}{Q Q':α->ay->Prop}(h:aL M A t Q E s) (hQ:∀ a s,Q a s->Q' a s):aL M A t Q' E s:=eJ h hQ λ_ _ x=>x
section
variable {X:Cx}
def ak (i:Nat):TE:=λZ H Q=>∃ v,Z[i]?=some (some v)/\Q v H
def tC (v:V):TE:=λ_ H Q=>Q v H
theorem aat (hN:X.N[i]?=some x) (hv:Vis X.env.scope x) (hd:(x == ("__debug__":bq))=false:=by decide) (hcd:(x == ("__classdict__":bq))=false:=by decide):PE X (.Name x pos) (ak i):=by
 intro pins s Z H Q I h;obtain ⟨v,e,h⟩:=h;obtain ⟨m,hn,hl⟩:=I.loc;obtain ⟨u,r,l⟩:=hl i x v hN e hv
 have fin:EP X pins Z Q u s:=⟨v,H,I,r,h⟩
 rcases l with ⟨hk,hm⟩|⟨hk,c,hc,hcell⟩
 .exact AG (qP I.ok.kind hk hn hm fin) hd
 .rcases hk with hk|hk
  .exact AG (wpAny_loadName_cell I.ok.kind hk hc hcell fin) hd
  .exact AG (wpAny_loadName_free I.ok.kind hk hc hcell fin hcd) hd
def eS {i j pos}:PE X (.Constant (.int i) j pos) (tC (.int i)):=λ_ _ _ H _ I h=>wpAny_Constant_int ⟨.int i,H,I.tok _,⟨_,rfl⟩,h⟩
def Ut {b j pos}:PE X (.Constant (.bool b) j pos) (tC (.bl b)):=λ_ _ _ H _ I h=>Constant_bool ⟨.bl b,H,I,rfl,h⟩
def D5 {j pos}:PE X (.Constant .none j pos) (tC .non):=λ_ _ _ H _ I h=>W5 ⟨.non,H,I,rfl,h⟩
def iB {x j pos}:PE X (.Constant (.str x) j pos) (tC (.str x)):=λ_ _ _ H _ I h=>Calls.Constant_str ⟨.str x,H,I.tok _,⟨_,rfl⟩,h⟩
def Gl (X:Cx) (x:bq):Prop:=X.env.kindOf x=some .globalImplicit
theorem vU {Z:St}{H:Hp}(I:Inv X pins Z H s) (hg:Gl X x) (hm:X.mg x=some u) (h:Q u s)
  (hd:(x == ("__debug__":bq))=false:=by decide):aL (aU X.prog X.w) X.A (fQ (.Name x pos) X.env) Q E s :=
 Ld I.ok.kind hg (Calls.loadGlobal_global (by rw [I.ok.glob];exact I.mod.glob.keeps I.bk) hm h) hd
theorem sd {Z:St}{H:Hp}(I:Inv X pins Z H s) (hg:Gl X x) (hm:X.mg x=none) (hv:dO x=some u) (h:Q u s)
  (hn:x≠"__name__":=by decide) (hd:(x == ("__debug__":bq))=false:=by decide):aL (aU X.prog X.w) X.A (fQ (.Name x pos) X.env) Q E s:=by
 obtain ⟨mb,h1,h2⟩:=I.mod.blt;exact Ld I.ok.kind hg (Calls.loadGlobal_builtin (by rw [I.ok.glob];exact I.mod.glob.keeps I.bk) hm (by rw [I.ok.blt];exact h1.keeps I.bk) ((h2 x hn).trans hv) h) hd
def lY {v:V}(hg:Gl X x) (hm:X.mg x=some u) (r:RelV v u) (hd:(x == ("__debug__":bq))=false:=by decide):PE X (.Name x pos) (tC v) :=
 λ_ _ _ H _ I h=>vU I hg hm ⟨v,H,I,r,h⟩ hd
theorem DJ {v:V}(hg:Gl X x) (hm:X.mg x=none) (hv:dO x=some u) (r:RelV v u) (hn:x≠"__name__":=by decide) (hd:(x == ("__debug__":bq))=false:=by decide):PE X (.Name x pos) (tC v) :=
 λ_ _ _ H _ I h=>sd I hg hm hv ⟨v,H,I,r,h⟩ hn hd
variable {a b:Expr}{ta tb:TE}
def PC (X:Cx) (op:CmpOp) (a b:Expr) (t:TE):Prop :=
 ∀ (pins:List (ah×iW)) (s:ay) (Z:St) (H:Hp) (Q:VK),Inv X pins Z H s->t Z H Q ->
  aL (aU X.prog X.w) X.A (fQ a X.env) (λv s₁=>aL (aU X.prog X.w) X.A (fQ b X.env) (λu s₂=>aL (aU X.prog X.w) X.A (dG op v u) (EP X pins Z Q) X.xe s₂) X.xe s₁) X.xe s
theorem LI (b:Expr) {op:CmpOp}(h:op≠.In) (h2:op≠.NotIn):kT op b=false:=by
 have e1:(op == CmpOp.In)=false:=by cases op<;>first|rfl|exact absurd rfl h
 have e2:(op == CmpOp.NotIn)=false:=by cases op<;>first|rfl|exact absurd rfl h2
 cases b<;>simp [kT,e1,e2]
def aau (ta:TE):TE:=λZ H Q=>ta Z H λx H1=>Q (.bl (decide (x=.non))) H1
def Uu (ta:TE):TE:=λZ H Q=>ta Z H λx H1=>Q (.bl (!decide (x=.non))) H1
theorem RelV.NJ {x:V}(r:RelV x v):(v == cu)=decide (x=.non):=by
 cases x with
 | non=>cases r;rfl
 | bl _=>cases r;rfl
 | int _=>obtain ⟨t,rfl⟩:=r;rfl
 | str _=>obtain ⟨t,rfl⟩:=r;rfl
 | byt _=>obtain ⟨t,rfl⟩:=r;rfl
 | flt _=>obtain ⟨t,rfl⟩:=r;rfl
 | ref _=>cases r;rfl
 | ty _=>cases r;rfl
def aav {j pos'} (ha:PE X a ta):PC X .Is a (.Constant .none j pos') (aau ta):=by
 intro pins s Z H Q I h;refine ia (ha pins s Z H _ I h) λv s1 ⟨x,H1,I1,r1,q1⟩=>?_;exact W5 (is_none_gen ⟨.bl _,H1,I1,by rw [r1.NJ];rfl,q1⟩)
theorem XA {j pos'} (ha:PE X a ta):PC X .IsNot a (.Constant .none j pos') (Uu ta):=by
 intro pins s Z H Q I h;refine ia (ha pins s Z H _ I h) λv s1 ⟨x,H1,I1,r1,q1⟩=>?_;exact W5 (isnot_none_gen ⟨.bl _,H1,I1,by rw [r1.NJ];rfl,q1⟩)
def tB (t:TE):TT:=λZ H Q=>t Z H λx H1=>∃ c,x=.bl c/\Q c H1
def aaw {t:TE}(h:PC X op a b t) (h1:kT op b=false:=by first|exact LI _ (by decide) (by decide)|rfl):PE X (.Compare a [op] [b] pos) t:=λpins s Z H Q I hw=>wpAny_Compare1 (h pins s Z H Q I hw) h1
theorem aax {t:TE}(h:PC X op a b t) (h1:kT op b=false:=by first|exact LI _ (by decide) (by decide)|rfl):PT X (.Compare a [op] [b] pos) (tB t):=by
 intro pins s Z H Q I hw;refine aaa (ia (h pins s Z H _ I hw) λv s1 h1=>ia h1 λu s2 h2=>ia h2 λc s3 ⟨x,H1,I1,r1,q1⟩=>?_) h1;obtain ⟨d,rfl,q⟩:=q1;cases r1;exact lz ⟨H1,I1,q⟩
variable {tA tB':TT}{rest:List Expr}
def Od (t u:TT):TT:=λZ H Q=>t Z H λc H1=>if c=true then u Z H1 Q else Q false H1
def tOr (t u:TT):TT:=λZ H Q=>t Z H λc H1=>if c=true then Q true H1 else u Z H1 Q
def AY (t:TT):TT:=λZ H Q=>t Z H λc H1=>Q (!c) H1
def Qe (ha:PT X a tA):PW X (.BoolOp .And [a] pos) tA:=by
 intro wh pins s Z H Q I h;refine isTrue_and (ia (ha pins s Z H Q I h) λc s1 e=>?_)
 cases c with
 | true=>exact isTrue_and_nil e
 | false=>exact e
def Uv (ha:PT X a tA):PW X (.BoolOp .Or [a] pos) tA:=by
 intro wh pins s Z H Q I h;refine isTrue_or (ia (ha pins s Z H Q I h) λc s1 e=>?_)
 cases c with
 | false=>exact isTrue_or_nil e
 | true=>exact e
theorem Oe (ha:PT X a tA) (hb:PW X (.BoolOp .And (b::rest) pos) tB'):PW X (.BoolOp .And (a::b::rest) pos) (Od tA tB'):=by
 intro wh pins s Z H Q I h;refine isTrue_and (ia (ha pins s Z H _ I h) λc s1 ⟨H1,I1,q1⟩=>?_)
 cases c with
 | true=>exact hb wh pins s1 Z H1 Q I1 q1
 | false=>exact ⟨H1,I1,q1⟩
theorem Ze (ha:PT X a tA) (hb:PW X (.BoolOp .Or (b::rest) pos) tB'):PW X (.BoolOp .Or (a::b::rest) pos) (tOr tA tB'):=by
 intro wh pins s Z H Q I h;refine isTrue_or (ia (ha pins s Z H _ I h) λc s1 ⟨H1,I1,q1⟩=>?_)
 cases c with
 | true=>exact ⟨H1,I1,q1⟩
 | false=>exact hb wh pins s1 Z H1 Q I1 q1
def Jv (ha:PT X a tA):PT X (.UnaryOp .Not a pos) (AY tA):=by
 intro pins s Z H Q I h;exact isTrue_not (ha pins s Z H (λc H1=>Q (!c) H1) I h)
def BV (ta tb:TE):TE:=λZ H Q=>ta Z H λx H1=>∃ c,x=.bl c/\if c=true then tb Z H1 Q else Q (.bl false) H1
def Qg (ta:TE):TE:=λZ H Q=>ta Z H λx H1=>∃ c,x=.bl c/\Q (.bl (!c)) H1
def D6 {op} {t:TE}(h:PE X a t):PE X (.BoolOp op [a] pos) t:=λpins s Z H Q I hw=>BoolOp_one (h pins s Z H Q I hw)
theorem AZ (ha:PE X a ta) (hb:PE X (.BoolOp .And (b::rest) pos) tb):PE X (.BoolOp .And (a::b::rest) pos) (BV ta tb):=by
 intro pins s Z H Q I h;refine BoolOp_and (ia (ha pins s Z H _ I h) λv s1 ⟨x,H1,I1,r1,q1⟩=>?_);obtain ⟨c,rfl,q1⟩:=q1;cases r1;refine lz ?_
 cases c with
 | true=>exact hb pins s1 Z H1 Q I1 q1
 | false=>exact ⟨.bl false,H1,I1,rfl,q1⟩
theorem Uw (ha:PE X a ta):PE X (.UnaryOp .Not a pos) (Qg ta):=by
 intro pins s Z H Q I h;refine UnaryOp_ (ia (ha pins s Z H _ I h) λv s1 ⟨x,H1,I1,r1,q1⟩=>?_);obtain ⟨c,rfl,q1⟩:=q1;cases r1;exact not_of (lz ⟨.bl (!c),H1,I1,rfl,q1⟩)
def Zg (t:TT) (ta tb:TE):TE:=λZ H Q=>t Z H λc H1=>if c=true then ta Z H1 Q else tb Z H1 Q
theorem qT (hc:PT X c tA) (ha:PE X a ta) (hb:PE X b tb):PE X (.IfExp c a b pos) (Zg tA ta tb):=by
 intro pins s Z H Q I h;refine wpAny_IfExp (ia (hc pins s Z H _ I h) λd s1 ⟨H1,I1,q1⟩=>?_)
 cases d with
 | true=>exact ha pins s1 Z H1 Q I1 q1
 | false=>exact hb pins s1 Z H1 Q I1 q1
end
def dh (K:aa) (H:Hp) (a:ah) (xs:List V):Prop :=
 Rd H a (.lst xs) \/
  ∃ (o:iW) (its:Array ai) (n:Nat),K.lookup a=some o/\o.cls=.type "list"/\o.dict=none/\o.data=.seq its n/\its.size<=aX/\Vals xs its.toList
def mX (K:aa) (H:Hp) (a:ah) (xs:List V):Prop :=
 Rd H a (.tup xs) \/
  ∃ (o:iW) (its:Array ai) (n:Nat),K.lookup a=some o/\o.cls=.type "tuple"/\o.data=.seq its n/\its.size<=aX/\Vals xs its.toList
def absV:ai->Option V
 | .none=>some .non
 | .bool b=>some (.bl b)
 | .int i _=>some (.int i)
 | .str x _=>some (.str x)
 | .bytes b _=>some (.byt b)
 | .float b _=>some (.flt b)
 | .ref a=>some (.ref a)
 | .type n=>some (.ty n)
 | _=>none
theorem RelV.abs {x:V}(r:RelV x u):absV u=some x:=by
 cases x with
 | non=>cases r;rfl
 | bl _=>cases r;rfl
 | int _=>obtain ⟨t,rfl⟩:=r;rfl
 | str _=>obtain ⟨t,rfl⟩:=r;rfl
 | byt _=>obtain ⟨t,rfl⟩:=r;rfl
 | flt _=>obtain ⟨t,rfl⟩:=r;rfl
 | ref _=>cases r;rfl
 | ty _=>cases r;rfl
def RelV.inj {x y:V}(r:RelV x u) (q:RelV y u):x=y:=aV (r.abs.symm.trans q.abs)
def Vals.inj {xs ys:List V}(h:Vals xs us):Vals ys us->xs=ys:=by
 induction h generalizing ys with
 | nil=>intro q;cases q;rfl
 | cons r _ ih =>
  intro q
  cases q with
  | cons r' t'=>rw [r.inj r',ih t']
section
variable {X:Cx}{Z:St}{H:Hp}{xs ys:List V}
def dh.of (h:H a=some (.lst xs)):dh K H a xs:=.inl (.inl h)
def mX.of (h:H a=some (.tup xs)):mX K H a xs:=.inl (.inl h)
theorem Inv.list (I:Inv X pins Z H s) (h:dh X.K H a xs):∃ its:List ai,Vals xs its/\PlainL s.heap a its.toArray/\xs.length<=aX:=by
 rcases h with h|⟨o,its,n,hk,hc,hd,hs,hz,r⟩
 .obtain ⟨z,its,n,r,e⟩:=h.ok I.eV;exact ⟨its,r,⟨_,n,e,rfl,rfl,rfl⟩,z⟩
 .refine ⟨its.toList,r,⟨o,n,I.wO a o hk,hc,hd,by simpa using hs⟩,?_⟩;have e:=r.length;simp only [aZ] at e;lia
theorem Inv.tuple (I:Inv X pins Z H s) (h:mX X.K H a xs):∃ its:List ai,Vals xs its/\nv s.heap a its.toArray/\xs.length<=aX:=by
 rcases h with h|⟨o,its,n,hk,hc,hs,hz,r⟩
 .obtain ⟨z,its,r,p⟩:=h.ok I.eV;exact ⟨its,r,p,z⟩
 .refine ⟨its.toList,r,⟨o,I.wO a o hk,hc,n,by simpa using hs⟩,?_⟩;have e:=r.length;simp only [aZ] at e;lia
theorem Inv.NK (I:Inv X pins Z H s) (h:dh X.K H a xs) (h':dh X.K H a ys):xs=ys:=by
 obtain ⟨its,r,⟨o,n,e,_,_,d⟩,_⟩:=I.list h;obtain ⟨its',r',⟨o',n',e',_,_,d'⟩,_⟩:=I.list h';rw [e] at e';cases e';rw [d] at d'
 injection d' with d1 _
 have:its=its':=by simpa using congrArg Array.toList d1
 subst this;exact r.inj r'
theorem Inv.Ta (I:Inv X pins Z H s) (h:mX X.K H a xs) (h':mX X.K H a ys):xs=ys:=by
 obtain ⟨its,r,⟨o,e,_,n,d⟩,_⟩:=I.tuple h;obtain ⟨its',r',⟨o',e',_,n',d'⟩,_⟩:=I.tuple h';rw [e] at e';cases e';rw [d] at d'
 injection d' with d1 _
 have:its=its':=by simpa using congrArg Array.toList d1
 subst this;exact r.inj r'
end
abbrev Cx.Gs (X:Cx) (E:ai->ay->Prop):Cx:={ X with xe:=E }
abbrev Cx.WJ (X:Cx):Cx:=X.Gs λ_ _=>False
def Cx.Ok.Gs {X:Cx}(ok:X.Ok) (E:ai->ay->Prop):(X.Gs E).Ok :=
 ⟨ok.mod,ok.kind,ok.glob,ok.blt,ok.above,ok.inj,ok.has,ok.Xl,ok.hd,ok.frames,ok.YN,ok.Z7,ok.bs,ok.N0,ok.Ie,ok.Ij,ok.sT,ok.Re⟩
def Cx.Ok.sS {X:Cx}(ok:(X.Gs E).Ok):X.Ok :=
 ⟨ok.mod,ok.kind,ok.glob,ok.blt,ok.above,ok.inj,ok.has,ok.Xl,ok.hd,ok.frames,ok.YN,ok.Z7,ok.bs,ok.N0,ok.Ie,ok.Ij,ok.sT,ok.Re⟩
section
variable {X:Cx}{Z:St}{H:Hp}
def Inv.Gs (I:Inv X pins Z H s) (E:ai->ay->Prop):Inv (X.Gs E) pins Z H s:=⟨I.ok.Gs E,I.os,I.bare,I.base,I.loc,I.cell,I.free,I.mY,I.pin,I.eV,I.len⟩
def Inv.sS (I:Inv (X.Gs E) pins Z H s):Inv X pins Z H s:=⟨I.ok.sS,I.os,I.bare,I.base,I.loc,I.cell,I.free,I.mY,I.pin,I.eV,I.len⟩
theorem SP.sS {D:r9}{f:Flow}(h:SP (X.Gs E) pins D f s'):SP X pins D f s':=by
 cases f with
 | next=>obtain ⟨σ',H',I,q⟩:=h;exact ⟨σ',H',I.sS,q⟩
 | brk=>obtain ⟨σ',H',I,q⟩:=h;exact ⟨σ',H',I.sS,q⟩
 | cont=>obtain ⟨σ',H',I,q⟩:=h;exact ⟨σ',H',I.sS,q⟩
 | ret u=>obtain ⟨v,σ',H',I,r,q⟩:=h;exact ⟨v,σ',H',I.sS,r,q⟩
def Ih.WJ {st:List dz}{t:TS}(h:Ih X.WJ st t):Ih X st t:=λpins s Z H D I hw =>
 eJ (h pins s Z H D (I.Gs _) hw) (λ_ _ q=>q.sS) λ_ _ z=>c9 z
end
section
variable {X:Cx}{st:dz}{rest:List dz}{t u:TS}{te:TE}
def eC:TS:=λD Z H=>D.nx Z H
def bH (t u:TS):TS:=λD Z H=>t { D with nx:=u D } Z H
def c8:Ih X [] eC:=λ_ _ Z H _ I h=>rR ⟨Z,H,I,h⟩
theorem aA (h1:PS X st t) (h2:Ih X rest u):Ih X (st::rest) (bH t u):=by
 intro pins s Z H D I h;refine wpAny_execs_cons (ia (h1 pins s Z H { D with nx:=u D } I h) λf s1 q=>?_)
 cases f with
 | next =>
  obtain ⟨σ',H',I',q⟩:=q
  exact h2 pins s1 σ' H' D I' q
 | ret v=>exact q
 | brk=>exact q
 | cont=>exact q
def aS (h1:PS X st t):Ih X [st] t:=by
 intro pins s Z H D I h;refine wpAny_execs_cons (ia (h1 pins s Z H D I h) λf s1 q=>?_)
 cases f with
 | next=>exact rR q
 | ret v=>exact q
 | brk=>exact q
 | cont=>exact q
def Inv.quiet {Z:St}{H:Hp}(I:Inv X pins Z H s):interactive X.env=false:=by simp [interactive,I.ok.kind]
def dr (te:TE):TS:=λD Z H=>te Z H λ_ H1=>D.nx Z H1
def dU (he:PE X e te) (hs:DR e none pos.line X.env=pure false:=by rfl):PS X (.Expr e pos) (dr te):=by
 intro pins s Z H D I h;exact wpAny_Expr_any (ia (he pins s Z H _ I h) λv s1 ⟨x,H1,I1,r1,q1⟩=>⟨Z,H1,I1,q1⟩) I.quiet hs
def ee (te:TE):TS:=λD Z H=>te Z H D.rt
def dH (he:PE X e te):PS X (.Return (some e) pos) (ee te):=by
 intro pins s Z H D I h;exact wpAny_Return_some (ia (he pins s Z H _ I h) λv s1 ⟨x,H1,I1,r1,q1⟩=>⟨x,Z,H1,I1,r1,q1⟩)
def gR (c:TT) (t u:TS):TS:=λD Z H=>c Z H λb H1=>if b=true then t D Z H1 else u D Z H1
theorem fI {a b:List dz}{tc:TT}(hc:PT X c tc) (ha:Ih X a t) (hb:Ih X b u):PS X (.If c a b pos) (gR tc t u):=by
 intro pins s Z H D I h;refine wpAny_If (ia (hc pins s Z H _ I h) λd s1 ⟨H1,I1,q1⟩=>?_)
 cases d with
 | true=>exact ha pins s1 Z H1 D I1 q1
 | false=>exact hb pins s1 Z H1 D I1 q1
def um:TS:=λ_ _ _=>False
def pf:PS X st um:=λ_ _ _ _ _ _ h=>h.elim
end
abbrev TG:=V->St->Hp->(St->Hp->Prop)->Prop
abbrev Xj:=List V->St->Hp->(St->Hp->Prop)->Prop
def PG (X:Cx) (target:Expr) (t:TG):Prop :=
 ∀ (pins:List (ah×iW)) (s:ay) (Z:St) (H:Hp) (v:V) (u:ai) (Q:St->Hp->Prop),Inv X pins Z H s->RelV v u->t v Z H Q ->
  aL (aU X.prog X.w) X.A (NP target X.env u) (λ_ s'=>∃ σ' H',Inv X pins σ' H' s'/\Q σ' H') X.xe s
def PGs (X:Cx) (ts:List Expr) (t:Xj):Prop :=
 ∀ (pins:List (ah×iW)) (s:ay) (Z:St) (H:Hp) (vs:List V) (us:List ai) (Q:St->Hp->Prop),Inv X pins Z H s->Vals vs us->t vs Z H Q ->
  aL (aU X.prog X.w) X.A (assignInOrder ((qb ts X.env).map (·.2)) us) (λ_ s'=>∃ σ' H',Inv X pins σ' H' s'/\Q σ' H') X.xe s
abbrev XB:=V->V->V->Hp->(Hp->Prop)->Prop
def XC (X:Cx) (t:XB):Prop :=
 ∀ (pins:List (ah×iW)) (s:ay) (Z:St) (H:Hp) (o i v:V) (ov iv u:ai) (Q:Hp->Prop),Inv X pins Z H s->RelV o ov->RelV i iv->RelV v u->t o i v H Q ->
  aL (aU X.prog X.w) X.A (setItem ov iv u) (λ_ s'=>∃ H',Inv X pins Z H' s'/\Q H') X.xe s
abbrev TIp:=V->V->Hp->VK->Prop
def PIp (X:Cx) (op:Le) (t:TIp):Prop :=
 ∀ (pins:List (ah×iW)) (s:ay) (Z:St) (H:Hp) (x y:V) (v u:ai) (Q:VK),Inv X pins Z H s->RelV x v->RelV y u->t x y H Q ->
  aL (aU X.prog X.w) X.A (DS op v u) (EP X pins Z Q) X.xe s
section
variable {X:Cx}
def bj (i:Nat):TG:=λv Z H Q=>Q (Z.set i (some v)) H
theorem XD (hN:X.N.Nodup) (hi:X.N[i]?=some x) (hx:Loc X.env.scope x) (hf:X.fn x=true\/X.env.scope.names.lookup x=some .local:=by first|exact .inl rfl|exact .inr rfl|assumption):PG X (.Name x pos) (bj i):=by
 intro pins s Z H v u Q I r h;exact wpAny_assign_Name (uk I hN hi hx r (λs' I'=>⟨_,H,I',h⟩) hf)
def A1:Xj:=λvs Z H Q=>vs=[]/\Q Z H
def gZ (t:TG) (u:Xj):Xj:=λvs Z H Q=>∃ v r,vs=v::r/\t v Z H λσ' H'=>u r σ' H' Q
def vV:PGs X [] A1:=by
 intro pins s Z H vs us Q I r h;obtain ⟨e,h⟩:=h;subst e;cases r;exact assignInOrder_nil ⟨Z,H,I,h⟩
theorem gp {t:TG}{u:Xj}(h1:PG X e t) (h2:PGs X es u)
  (hs:(qb (e::es) X.env).map (·.2)=NP e X.env::(qb es X.env).map (·.2):=by rfl):PGs X (e::es) (gZ t u):=by
 intro pins s Z H vs us Q I r h;obtain ⟨v,vr,e1,h⟩:=h;subst e1
 cases r with
 | cons r rr =>
  rw [hs];refine assignInOrder_cons (ia (h1 pins s Z H _ _ _ I r h) λ_ s1 ⟨σ1,H1,I1,q1⟩=>?_);exact h2 pins s1 σ1 H1 _ _ Q I1 rr q1
def yW (K:aa) (n:Nat) (t:Xj):TG:=λv Z H Q=>∃ a xs,v=.ref a/\mX K H a xs/\xs.length=n/\t xs Z H Q
theorem A2 {t:Xj}(hc:X.calm=true) (h:PGs X es t)
  (hn:(qb es X.env).length=n:=by rfl) (hst:(qb es X.env).findIdx? (·.1)=none:=by rfl):PG X (.Tuple es k pos) (yW X.K n t):=by
 intro pins s Z H v u Q I r hw;obtain ⟨a,xs,e1,hq,hl,hw⟩:=hw;subst e1;cases r;obtain ⟨its,rv,ht,hz⟩:=I.tuple hq;refine assign_Tuple_tuple (I.ok.hd hc) ht (by simp [hn,← hl,rv.length]) hst λh' hx=>?_;have I1:Inv X pins Z H { s with heap:=h' }:=I.kept (t':=s.toks) λb o e=>hx b o (aO (aF e)) e;exact h pins _ Z H xs _ Q I1 (by simpa using rv) hw
def D7 (to ti:TE) (t:XB):TG:=λv Z H Q=>to Z H λo H1=>ti Z H1 λi H2=>t o i v H2 λH3=>Q Z H3
theorem Ux {o i:Expr}{to ti:TE}{t:XB}(ho:PE X o to) (hi:PE X i ti) (hs:XC X t)
  (ha:∀ v,NP (.Subscript o i pos) X.env v=(do
   let ov ← jU [v] (fQ o X.env)
   let iv ← jU [v,ov] (fQ i X.env)
   v8 pos
   jU [v,ov,iv] (setItem ov iv v)
   release [v,ov,iv] []):=by intro _;rfl):PG X (.Subscript o i pos) (D7 to ti t):=by
 intro pins s Z H v u Q I r h;rw [ha];refine ae (bY (ia (ho pins s Z H _ I h) λov s1 ⟨x,H1,I1,r1,q1⟩=>?_));refine ae (bY (ia (hi pins s1 Z H1 _ I1 q1) λiv s2 ⟨y,H2,I2,r2,q2⟩=>?_));refine ae (GD (ae (bY (ia (hs pins s2 Z H2 x y v ov iv u _ I2 r1 r2 r q2) λ_ s3 ⟨H3,I3,q3⟩=>?_))));exact wpAny_release ⟨Z,H3,I3,q3⟩
def dC (te:TE) (g:TG):TS:=λD Z H=>te Z H λx H1=>g x Z H1 D.nx
theorem Uy {te:TE}{g:TG}(he:PE X e te) (hg:PG X tg g) (hs:swapsWithSole [tg] e pos.line X.env=pure false:=by rfl) (hw:swappedStores [tg] e X.env=pure none:=by rfl)
  (h1:(qb [tg] X.env).map (·.2)=[NP tg X.env]:=by rfl):PS X (.Assign [tg] e pos) (dC te g):=by
 intro pins s Z H D I h;refine wpAny_Assign_stores (ia (he pins s Z H _ I h) λv s1 ⟨x,H1,I1,r1,q1⟩=>?_) hs hw;rw [h1];exact ia (hg pins s1 Z H1 x v _ I1 r1 q1) λ_ s2 q=>q
theorem Uz {te:TE}(hN:X.N.Nodup) (hi:X.N[i]?=some x) (hx:Loc X.env.scope x) (he:PE X e te) (hs:DR e (some (.Name x pos')) pos.line X.env=pure false:=by rfl) (hf:X.fn x=true\/X.env.scope.names.lookup x=some .local:=by first|exact .inl rfl|exact .inr rfl|assumption) :
  PS X (.Assign [.Name x pos'] e pos) (dC te (bj i)):=by
 intro pins s Z H D I h;refine wpAny_Assign_Name (ia (he pins s Z H _ I h) λv s1 ⟨y,H1,I1,r1,q1⟩=>?_) hs;exact uk I1 hN hi hx r1 (λs2 I2=>⟨_,H1,I2,q1⟩) hf
def UA (i:Nat) (te:TE) (ti:TIp):TS:=λD Z H=>∃ x,Z[i]?=some (some x)/\te Z H λy H1=>ti x y H1 λz H2=>D.nx (Z.set i (some z)) H2
theorem Og {te:TE}{op:Le}{ti:TIp}(hN:X.N.Nodup) (hi:X.N[i]?=some x) (hx:Loc X.env.scope x) (he:PE X e te) (ho:PIp X op ti) (hf:X.fn x=true\/X.env.scope.names.lookup x=some .local:=by first|exact .inl rfl|exact .inr rfl|assumption) :
  PS X (.AugAssign (.Name x pos') op e pos) (UA i te ti):=by
 intro pins s Z H D I h;obtain ⟨v,e1,h⟩:=h;obtain ⟨m,hn,hl⟩:=I.loc
 have vis:Vis X.env.scope x:=by rcases hx with k|k;exact .inl k;exact .inr (.inl k)
 obtain ⟨u,r,l⟩:=hl i x v hi e1 vis;refine wpAny_AugAssign_Name ?_
 have go:aL (aU X.prog X.w) X.A (fQ e X.env) (λw s₂=>aL (aU X.prog X.w) X.A (DS op u w) (λr s₃=>aL (aU X.prog X.w) X.A (storeName X.env x r) (λ_=>SP X pins D .next) X.xe s₃) X.xe s₂) X.xe s:=by
  refine ia (he pins s Z H _ I h) λw s1 ⟨y,H1,I1,r1,q1⟩=>?_;refine ia (ho pins s1 Z H1 v y u w _ I1 r r1 q1) λz s2 ⟨zv,H2,I2,r2,q2⟩=>?_;exact uk I2 hN hi hx r2 (λs3 I3=>⟨_,H2,I3,q2⟩) hf
 rcases l with ⟨hk,hm⟩|⟨hk,c,hc,hcell⟩
 .exact qP I.ok.kind hk hn hm go
 .rcases hk with hk|hk
  .exact wpAny_loadName_cell I.ok.kind hk hc hcell go
  .rcases hx with k|k
   .have:X.env.scope.names.lookup x=some .free:=hk;rw [k] at this;cases this
   .have:X.env.scope.names.lookup x=some .free:=hk;rw [k] at this;cases this
end
section
variable {X:Cx}
def Jw (c:TT) (tb:TS):TS:=λD Z H=>∃ W:Nat->St->Hp->Prop,(∃ m,W m Z H)/\∀ m Z H,W m Z H ->
 c Z H λb H1=>if b=true then ∃ N:St->Hp->Prop,(∀ σ' H',N σ' H'->∃ m',m'<m/\W m' σ' H')/\tb { D with nx:=N,ct:=N,bk:=D.nx } Z H1 else D.nx Z H1
theorem D8 {tc:TT}{tb:TS}(hp:PassesOwn (aU X.prog X.w) X.A X.env X.xe) (hc:PT X c tc) (hb:Ih X body tb):PS X (.While c body [] pos) (Jw tc tb):=by
 intro pins s Z H D I h;obtain ⟨W,⟨m0,w0⟩,turn⟩:=h;refine wpAny_While (codeAny_whileLoop (λn s'=>∃ σ' H',Inv X pins σ' H' s'/\W n σ' H') ?_ m0 ⟨Z,H,I,w0⟩);rintro n s1 ⟨σ1,H1,I1,w1⟩;refine kO hp (ia (hc pins s1 σ1 H1 _ I1 (turn n σ1 H1 w1)) λb s2 ⟨H2,I2,q2⟩=>?_)
 cases b with
 | true =>
  obtain ⟨N,hN,q2⟩:=q2;rw [if_pos rfl];refine kO hp (ia (hb pins s2 σ1 H2 _ I2 q2) λf s3 q3=>?_)
  cases f with
  | next =>
   obtain ⟨σ3,H3,I3,n3⟩:=q3;obtain ⟨m',hm,w3⟩:=hN σ3 H3 n3
   exact ⟨m',hm,σ3,H3,I3,w3⟩
  | cont =>
   obtain ⟨σ3,H3,I3,n3⟩:=q3;obtain ⟨m',hm,w3⟩:=hN σ3 H3 n3
   exact ⟨m',hm,σ3,H3,I3,w3⟩
  | brk=>exact q3
  | ret v=>exact q3
 | false =>
  rw [if_neg bI];exact rR ⟨σ1,H2,I2,q2⟩
end
structure It where
 go:Nat->Hp->Prop
 PX:Nat->Hp->V->Hp->Prop
 stop:Nat->Hp->Prop
def A3 (X:Cx) (pins:List (ah×iW)) (H:Hp) (b:ah):Prop :=
 H b=none/\b≠X.env.locals/\b∉X.fs/\(b∈X.ex\/X.s₀.heap.objs.size<=b)/\(∀ x c,X.env.cells.lookup x=some c->c≠b)/\∀ p∈X.pn++pins,p.1≠b
theorem Inv.NN {X:Cx}{Z:St}{H H':Hp}(I:Inv X pins Z H s) (hb:s.heap.objs.size<=b) (hn:H' b=none):A3 X pins H' b:=by
 refine ⟨hn,df (bc I.lt hb),I.nofs hb,.inr (bF I.sz hb),λx c e z=>?_,λp hp z=>?_⟩
 .obtain ⟨v,q⟩:=I.cell x c e;exact absurd (bc q.lt (by rw [z];exact hb)) (h8 _)
 .exact absurd (bc (aF (I.pin p hp).1) (by rw [z];exact hb)) (h8 _)
structure Oh (P:bQ) (w:cU) (K:aa) (tg:Expr) (J:It) (fp:List ah) (it:ah) (tn:Nat->cJ->Prop):Prop where
 mem:it∈fp
 obj:∀ i h,tn i h->∀ b∈fp,∃ o,h.get? b=some o/\∀ v,o.data≠.cell v
 keep:∀ i h h',tn i h->(∀ b∈fp,∀ o,h.get? b=some o->h'.get? b=some o)->tn i h'
 item:∀ (X:Cx),X.prog=P->X.w=w->X.K=K->X.calm=true->∀ (i:Nat) (pins:List (ah×iW)) (s:ay) (Z:St) (H:Hp) (E:ai->ay->Prop),Inv X pins Z H s->(∀ b∈fp,A3 X pins H b)->tn i s.heap->J.go i H ->
  aL (aU P w) X.A (jC (.ref it)) (λr s1=>∃ u,r=some u /\
   aL (aU P w) X.A (AU tg (.ref it) u) (λ_ s2=>∃ x H',Inv X pins Z H' s2/\RelV x u/\J.PX i H x H'/\tn (i+1) s2.heap/\∀ b∈fp,H' b=none) E s1) E s
 done:∀ (X:Cx),X.prog=P->X.w=w->X.K=K->X.calm=true->∀ (i:Nat) (pins:List (ah×iW)) (s:ay) (Z:St) (H:Hp) (E:ai->ay->Prop),Inv X pins Z H s->(∀ b∈fp,A3 X pins H b)->tn i s.heap->J.stop i H ->
  aL (aU P w) X.A (jC (.ref it)) (λr s1=>r=none/\Inv X pins Z H s1) E s
 self:∀ (A:dM) (i:Nat) (s:ay) (Q:ai->ay->Prop) (E:ai->ay->Prop),tn i s.heap->Q (.ref it) s->aL (aU P w) A (Tu (.ref it)) Q E s
abbrev TI:=St->Hp->(It->Hp->Prop)->Prop
def PIE (X:Cx) (pins:List (ah×iW)) (Z:St) (tg:Expr) (R:It->Hp->Prop) (itv:ai) (s2:ay):Prop :=
 ∃ (it:ah) (fp:List ah) (tn:Nat->cJ->Prop) (J:It) (H':Hp),itv=.ref it/\Inv X pins Z H' s2/\Oh X.prog X.w X.K tg J fp it tn/\tn 0 s2.heap/\(∀ b∈fp,A3 X pins H' b)/\R J H'
def PI (X:Cx) (tg iter:Expr) (wi:TI):Prop :=
 ∀ (pins:List (ah×iW)) (s:ay) (Z:St) (H:Hp) (R:It->Hp->Prop),Inv X pins Z H s->wi Z H R ->
  aL (aU X.prog X.w) X.A (fQ iter X.env) (λv s1=>aL (aU X.prog X.w) X.A (Tu v) (PIE X pins Z tg R) X.xe s1) X.xe s
theorem LJ {n:String}{vs:Array ai}{Q:Unit->ay->Prop}(ho:s.heap.get? it=some o) (hc:o.cls=.type n) (hd:o.data=.fields vs)
    (hn:["enumerate","zip","dict_itemiterator","dict_reverseitemiterator","odict_iterator","itertools.zip_longest","itertools.pairwise"].contains n=false) (hQ:Q () s):aL M A (AU tg (.ref it) u) Q E s:=by
  unfold AU
  cases tg<;>first
    | exact au hQ
    | (cases u<;>first
        | exact au hQ
        | (refine ae (Ik ho ?_)
           rw [hc,hd]
           show aL M A (if (["enumerate","zip","dict_itemiterator","dict_reverseitemiterator","odict_iterator","itertools.zip_longest","itertools.pairwise"].contains n && vs[0]? == some (cF _))=true then _ else _) Q E s
           rw [if_neg (by intro h;rw [hn,yR] at h;cases h)]
           exact au hQ))
def Ua (K:aa) (a:ah):It :=
 ⟨λi H=>∃ xs x,dh K H a xs/\xs[i]?=some x,λi H x H'=>H'=H/\∀ xs,dh K H a xs->xs[i]?=some x,λi H=>∃ xs,dh K H a xs/\xs.length<=i⟩
def Itt (K:aa) (a:ah):It :=
 ⟨λi H=>∃ xs x,mX K H a xs/\xs[i]?=some x,λi H x H'=>H'=H/\∀ xs,mX K H a xs->xs[i]?=some x,λi H=>∃ xs,mX K H a xs/\xs.length<=i⟩
def Itr (lo:Int) (n:Nat):It:=⟨λi _=>i<n,λi H x H'=>H'=H/\x=.int (lo+i),λi _=>n<=i⟩
theorem RJ (a it:ah):Oh P w K tg (Ua K a) [it] it (λi h=>h.IsListIter it a i) where
 mem:=by simp
 obj:=λi h st b hb=>by
  have e:b=it:=by simpa using hb
  subst e;obtain ⟨o,e,c,d⟩:=st;exact ⟨o,e,λv z=>by rw [d] at z;cases z⟩
 keep:=λi h h' st k=>st.at λo e=>k it (by simp) o e
 item:=by
  intro X hP hw hK hc i pins s Z H E I hf st hg;subst hP hw hK;obtain ⟨xs,x,hq,hx⟩:=hg;obtain ⟨its,rv,p,hz⟩:=I.list hq;obtain ⟨u,hu,ru⟩:=rv.get hx;obtain ⟨f0,f1,f2,f3,f4,f5⟩:=hf it (by simp);refine wpAny_pyNext_list_item st p.isList (x:=u) (by simpa using hu) λh' st' sb=>?_;have I1:Inv X pins Z H { s with heap:=h' }:=I.turned (t':=s.toks) (λb o hb e=>(sb.2 b hb).trans e) f0 f1 f3 f4 f5;obtain ⟨o,e,c,d⟩:=id st';exact ⟨u,rfl,LJ (s:={ s with heap:=h' }) e c d (by decide) ⟨x,H,I1,ru,⟨rfl,λys hy=>by rw [I.NK hy hq];exact hx⟩,st',λb hb=>(hf b hb).1⟩⟩
 done:=by
  intro X hP hw hK hc i pins s Z H E I hf st hg;subst hP hw hK;obtain ⟨xs,hq,hx⟩:=hg;obtain ⟨its,rv,p,hz⟩:=I.list hq;obtain ⟨f0,f1,f2,f3,f4,f5⟩:=hf it (by simp);have hl:=rv.length
  exact wpAny_pyNext_list_end (I.ok.hd hc) st p.isList (by simp;lia) λh' eb=>⟨rfl,I.turned (t':=s.toks) (λb o hb e=>eb b o hb e) f0 f1 f3 f4 f5⟩
 self:=λ_ _ _ _ _ st h=>wpAny_pyIter_listiter st h
theorem Oi (a it:ah):Oh P w K tg (Itt K a) [it] it (λi h=>h.IsTupleIter it a i) where
 mem:=by simp
 obj:=λi h st b hb=>by
  have e:b=it:=by simpa using hb
  subst e;obtain ⟨o,e,c,d⟩:=st;exact ⟨o,e,λv z=>by rw [d] at z;cases z⟩
 keep:=λi h h' st k=>st.at λo e=>k it (by simp) o e
 item:=by
  intro X hP hw hK hc i pins s Z H E I hf st hg;subst hP hw hK;obtain ⟨xs,x,hq,hx⟩:=hg;obtain ⟨its,rv,p,hz⟩:=I.tuple hq;obtain ⟨u,hu,ru⟩:=rv.get hx;obtain ⟨f0,f1,f2,f3,f4,f5⟩:=hf it (by simp);refine wpAny_pyNext_tuple_item st (show s.heap.IsTuple a its.toArray from p) (x:=u) (by simpa using hu) λh' st' sb=>?_;have I1:Inv X pins Z H { s with heap:=h' }:=I.turned (t':=s.toks) (λb o hb e=>(sb.2 b hb).trans e) f0 f1 f3 f4 f5;obtain ⟨o,e,c,d⟩:=id st';exact ⟨u,rfl,LJ (s:={ s with heap:=h' }) e c d (by decide) ⟨x,H,I1,ru,⟨rfl,λys hy=>by rw [I.Ta hy hq];exact hx⟩,st',λb hb=>(hf b hb).1⟩⟩
 done:=by
  intro X hP hw hK hc i pins s Z H E I hf st hg;subst hP hw hK;obtain ⟨xs,hq,hx⟩:=hg;obtain ⟨its,rv,p,hz⟩:=I.tuple hq;obtain ⟨f0,f1,f2,f3,f4,f5⟩:=hf it (by simp);have hl:=rv.length
  exact wpAny_pyNext_tuple_end (I.ok.hd hc) st (show s.heap.IsTuple a its.toArray from p) (by simp;lia) λh' eb=>⟨rfl,I.turned (t':=s.toks) (λb o hb e=>eb b o hb e) f0 f1 f3 f4 f5⟩
 self:=λ_ _ _ _ _ st h=>wpAny_pyIter_tupleiter st h
theorem Oj (it:ah) (lo:Int) (n:Nat):Oh P w K tg (Itr lo n) [it] it (λi h=>IsRangeIter h it (lo+(i:Nat)*1) ((n:Int)-(i:Nat)) 1) where
 mem:=by simp
 obj:=λi h st b hb=>by
  have e:b=it:=by simpa using hb
  subst e
  exact ⟨_,st,λv z=>by
   have z':Data.fields _=Data.cell v:=z
   cases z'⟩
 keep:=λi h h' st k=>k it (by simp) _ st
 item:=by
  intro X hP hw hK hc i pins s Z H E I hf st hg;subst hP hw hK;obtain ⟨f0,f1,f2,f3,f4,f5⟩:=hf it (by simp);have W:=Walks.range (prog:=X.prog) (w:=X.w) (I.ok.hd hc) it lo 1 n;refine W.item i s _ _ hg st λv h' tk hv st' kk=>?_;obtain ⟨t,rfl⟩:=hv;have I1:Inv X pins Z H { s with heap:=h',toks:=tk }:=I.turned (λb o hb e=>kk b o (by simpa using hb) e) f0 f1 f3 f4 f5;refine ⟨_,rfl,LJ (s:={ s with heap:=h',toks:=tk }) (n:="range_iterator") st' rfl rfl (by decide) ⟨.int (lo+i),H,I1,⟨t,?_⟩,⟨rfl,rfl⟩,st',λb hb=>(hf b hb).1⟩⟩;rw [Int.mul_one]
 done:=by
  intro X hP hw hK hc i pins s Z H E I hf st hg;subst hP hw hK;obtain ⟨f0,f1,f2,f3,f4,f5⟩:=hf it (by simp)
  exact wpAny_pyNext_range_end (I.ok.hd hc) st (by have:n<=i:=hg;lia) λh' eb=>⟨rfl,I.turned (t':=s.toks) (λb o hb e=>eb b o hb e) f0 f1 f3 f4 f5⟩
 self:=λ_ _ _ _ _ st h=>wpAny_pyIter_rangeiter st h
section
variable {X:Cx}
theorem UB {Z:St}{H:Hp}{R:It->Hp->Prop}{hi:Int}{t u v:Z9}{tk:Nat}(I:Inv X pins Z H s) (h1:-(2^62)<=lo) (h2:lo<2^62) (h3:-(2^62)<=hi) (h4:hi<2^62)
  (q:R (Itr lo (hi-lo).toNat) H):aL (aU X.prog X.w) X.A (Tu (.ref s.heap.objs.size)) (PIE X pins Z tg R) E { s with heap:=s.heap.push { cls:=.type "range",data:=.fields #[.int lo t,.int hi u,.int 1 v] },toks:=tk }:=by
 refine wpAny_pyIter_range (IsRange.new ..) (small_one h1 h2 h3 h4) ?_;have I1:Inv X pins Z H { s with heap:=s.heap.push { cls:=.type "range",data:=.fields #[.int lo t,.int hi u,.int 1 v] },toks:=tk }:=I.kept λb o e=>ao _ e
 refine ⟨(s.heap.push { cls:=.type "range",data:=.fields #[.int lo t,.int hi u,.int 1 v] }).objs.size,[(s.heap.push { cls:=.type "range",data:=.fields #[.int lo t,.int hi u,.int 1 v] }).objs.size],_,_,H,rfl,
  I1.kept (t':=tk) λb o e=>ao _ e,Oj _ lo (hi-lo).toNat,?_,λb hb=>?_,q⟩
 .have e1:lo+((0:Nat):Int)*1=lo:=by simp
  have e2:(((hi-lo).toNat:Nat):Int)-((0:Nat):Int)=Builtin.Range.rangeSize lo hi 1:=by rw [rangeSize_one];split<;>lia
  show IsRangeIter _ _ (lo+((0:Nat):Int)*1) ((((hi-lo).toNat:Nat):Int)-((0:Nat):Int)) 1
  rw [e1,e2];exact aI _ rfl
 .have e:b=(s.heap.push { cls:=.type "range",data:=.fields #[.int lo t,.int hi u,.int 1 v] }).objs.size:=by simpa using hb
  subst e;exact I1.NN (aB _) (I1.eV.fresh (aB _))
def LK (ta:TA):TI:=λZ H R=>ta Z H λvs H1=>∃ j:Int,vs=[.int j]/\-(2^62)<=j/\j<2^62/\R (Itr 0 j.toNat) H1
theorem RK {a:Expr}{ta:TA}(hg:Gl X "range") (hm:X.mg "range"=none) (ha:PA X [a] ta) (hs:bK [a] X.env=[(false,fQ a X.env)]:=by rfl):PI X tg (.Call (.Name "range" p) [a] [] pos) (LK ta):=by
 intro pins s Z H R I h;refine Call_ (sd I hg hm boot_range (ib (ia (ha pos pins s Z H _ I h) λus s1 ⟨vs,H1,I1,r1,q1⟩=>?_) hs rfl));obtain ⟨j,e,q1,q2,q⟩:=q1;subst e
 cases r1 with
 | cons r rr =>
  cases rr;obtain ⟨t,rfl⟩:=r;exact call_range_1 (UB I1 (by lia) (by lia) q1 q2 (by simpa using q))
def tO (wi:TI) (g:TG) (tb:TS):TS:=λD Z H=>wi Z H λJ H1=>∃ W:Nat->Nat->St->Hp->Prop,(∃ m,W 0 m Z H1)/\∀ i m Z H,W i m Z H ->
 (J.stop i H/\D.nx Z H)\/(J.go i H/\∃ N:St->Hp->Prop,(∀ σ' H',N σ' H'->∃ m',m'<m/\W (i+1) m' σ' H')/\∀ x H',J.PX i H x H'->g x Z H' λσ2 H2=>tb { D with nx:=N,ct:=N,bk:=D.nx } σ2 H2)
def D9 (fp:List ah) (h:cJ):List (ah×iW):=fp.filterMap λb=>(h.get? b).map λo=>(b,o)
def se (hb:b∈fp) (e:h.get? b=some o):(b,o)∈D9 fp h:=jS.mpr ⟨b,hb,by rw [e];rfl⟩
def RL {p:ah×iW}(hp:p∈D9 fp h):p.1∈fp/\h.get? p.1=some p.2:=by
 obtain ⟨b,hb,e⟩:=jS.mp hp
 cases q:h.get? b with
 | none=>rw [q] at e;cases e
 | some o =>
  rw [q] at e;have e':(b,o)=p:=aV e;subst e';exact ⟨hb,q⟩
theorem Inv.pinned {Z:St}{H:Hp}(I:Inv X pins Z H s) (hf:∀ b∈fp,A3 X pins H b) (ho:∀ b∈fp,∃ o,s.heap.get? b=some o/\∀ v,o.data≠.cell v):Inv X (pins++D9 fp s.heap) Z H s :=
 I.Rb λp hp=>(aT.mp hp).elim (λz=>I.pin p (bx _ z)) λz=>by
  obtain ⟨hb,e⟩:=RL z;obtain ⟨f0,f1,f2,_⟩:=hf p.1 hb;obtain ⟨o,e',d⟩:=ho p.1 hb;rw [e] at e';cases e';exact ⟨e,f0,f1,f2,d⟩
def Inv.AD {pl:List (ah×iW)}{Z:St}{H:Hp}(I:Inv X (pins++pl) Z H s):Inv X pins Z H s:=I.Rb λp hp=>I.pin p (bx _ (cz _ hp))
theorem qz {iter:Expr}{wi:TI}{g:TG}{tb:TS}(hp:PassesOwn (aU X.prog X.w) X.A X.env X.xe) (hc:X.calm=true) (hi:PI X tg iter wi) (hg:PG X tg g) (hb:Ih X body tb)
  (hs:∀ x,v9 iter X.env x=pure x:=by intro _;rfl):PS X (.For tg iter body [] pos) (tO wi g tb):=by
 intro pins s Z H D I h;refine wpAny_For (ia (hi pins s Z H _ I h) λv s1 h1=>ia h1 λitv s2 h2=>?_) hs;obtain ⟨it,fp,tn,J,H2,e,I2,T,st2,f2,W,⟨m0,w0⟩,turn⟩:=h2;subst e
 -- what stays true of the iterator's objects through the UC
 have stat:∀ {H':Hp},(∀ b∈fp,H' b=none)->∀ b∈fp,A3 X pins H' b:=λhn b hb=>⟨hn b hb,(f2 b hb).2⟩
 refine codeAny_forLoop_any (λn s'=>∃ i σ' H',Inv X pins σ' H' s'/\tn i s'.heap/\(∀ b∈fp,H' b=none)/\W i n σ' H') ?_ m0 ⟨0,Z,H2,I2,st2,λb hb=>(f2 b hb).1,w0⟩;rintro n s3 ⟨i,σ3,H3,I3,st3,fr3,w3⟩
 rcases turn i n σ3 H3 w3 with ⟨stop,qn⟩|⟨go,N,hN,step⟩
 .refine kO hp (ia (T.done X rfl rfl rfl hc i pins s3 σ3 H3 X.xe I3 (stat fr3) st3 stop) λr s4 ⟨hr,I4⟩=>?_);subst hr;exact rR ⟨σ3,H3,I4,qn⟩
 .refine kO hp (ia (T.item X rfl rfl rfl hc i pins s3 σ3 H3 X.xe I3 (stat fr3) st3 go) λr s4 ⟨u,hr,h4⟩=>?_);subst hr;refine kO hp (ia h4 λ_ s5 ⟨x,H5,I5,r5,y5,st5,fr5⟩=>?_);have I5':=I5.pinned (stat fr5) (T.obj _ _ st5);refine kO hp (ia (hg _ s5 σ3 H5 x u _ I5' r5 (step x H5 y5)) λ_ s6 ⟨σ6,H6,I6,q6⟩=>?_);refine kO hp (ia (hb _ s6 σ6 H6 _ I6 q6) λf s7 q7=>?_)
  have again:∀ {σ7:St}{H7:Hp},Inv X (pins++D9 fp s5.heap) σ7 H7 s7->N σ7 H7->∃ m,m<n/\∃ i σ' H',Inv X pins σ' H' s7/\tn i s7.heap/\(∀ b∈fp,H' b=none)/\W i m σ' H':=λ{σ7 H7} I7 n7=>by
   obtain ⟨m',hm,w7⟩:=hN σ7 H7 n7;refine ⟨m',hm,i+1,σ7,H7,I7.AD,T.keep _ _ _ st5 λb hb o e=>(I7.pin (b,o) (bx _ (bx _ (se hb e)))).1,λb hb=>?_,w7⟩;obtain ⟨o,e,d⟩:=T.obj _ _ st5 b hb;exact (I7.pin (b,o) (bx _ (bx _ (se hb e)))).2.1
  cases f with
  | next=>obtain ⟨σ7,H7,I7,n7⟩:=q7;exact again I7 n7
  | cont=>obtain ⟨σ7,H7,I7,n7⟩:=q7;exact again I7 n7
  | brk=>obtain ⟨σ7,H7,I7,q7⟩:=q7;exact ⟨σ7,H7,I7.AD,q7⟩
  | ret v=>obtain ⟨x7,σ7,H7,I7,r7,q7⟩:=q7;exact ⟨x7,σ7,H7,I7.AD,r7,q7⟩
end
theorem jt {xs:List V}{g:TG}{tb:TS}{D:r9}{Z:St}{H:Hp}(Pv:Nat->St->Hp->Prop) (h0:Pv 0 Z H) (hl:∀ i Z H,i<=xs.length->Pv i Z H->dh K H a xs)
  (hs:∀ i x Z H,xs[i]?=some x->Pv i Z H->g x Z H λσ2 H2=>tb { D with nx:=Pv (i+1),ct:=Pv (i+1),bk:=D.nx } σ2 H2) (hd:∀ Z H,Pv xs.length Z H->D.nx Z H) :
  ∃ W:Nat->Nat->St->Hp->Prop,(∃ m,W 0 m Z H)/\∀ i m Z H,W i m Z H ->
   ((Ua K a).stop i H/\D.nx Z H)\/((Ua K a).go i H/\∃ N:St->Hp->Prop,(∀ σ' H',N σ' H'->∃ m',m'<m/\W (i+1) m' σ' H')/\∀ x H',(Ua K a).PX i H x H'->g x Z H' λσ2 H2=>tb { D with nx:=N,ct:=N,bk:=D.nx } σ2 H2):=by
 refine ⟨λi m Z H=>m=xs.length-i/\i<=xs.length/\Pv i Z H,⟨xs.length,by simp,bA _,h0⟩,?_⟩;rintro i m Z H ⟨rfl,hi,p⟩;have q:=hl i Z H hi p
 by_cases hlt:i<xs.length
 .refine .inr ⟨⟨xs,xs[i],q,by simp [hlt]⟩,Pv (i+1),λσ' H' p'=>⟨xs.length-(i+1),by lia,rfl,hlt,p'⟩,λx H' y=>?_⟩;obtain ⟨e,y⟩:=y;subst e;exact hs i x Z _ (y xs q) p
 .have e:i=xs.length:=by lia
  subst e;exact .inl ⟨⟨xs,q,aB _⟩,hd Z H p⟩
theorem XE {xs:List V}{g:TG}{tb:TS}{D:r9}{Z:St}{H:Hp}(Pv:Nat->St->Hp->Prop) (h0:Pv 0 Z H) (hl:∀ i Z H,i<=xs.length->Pv i Z H->mX K H a xs)
  (hs:∀ i x Z H,xs[i]?=some x->Pv i Z H->g x Z H λσ2 H2=>tb { D with nx:=Pv (i+1),ct:=Pv (i+1),bk:=D.nx } σ2 H2) (hd:∀ Z H,Pv xs.length Z H->D.nx Z H) :
  ∃ W:Nat->Nat->St->Hp->Prop,(∃ m,W 0 m Z H)/\∀ i m Z H,W i m Z H ->
   ((Itt K a).stop i H/\D.nx Z H)\/((Itt K a).go i H/\∃ N:St->Hp->Prop,(∀ σ' H',N σ' H'->∃ m',m'<m/\W (i+1) m' σ' H')/\∀ x H',(Itt K a).PX i H x H'->g x Z H' λσ2 H2=>tb { D with nx:=N,ct:=N,bk:=D.nx } σ2 H2):=by
 refine ⟨λi m Z H=>m=xs.length-i/\i<=xs.length/\Pv i Z H,⟨xs.length,by simp,bA _,h0⟩,?_⟩;rintro i m Z H ⟨rfl,hi,p⟩;have q:=hl i Z H hi p
 by_cases hlt:i<xs.length
 .refine .inr ⟨⟨xs,xs[i],q,by simp [hlt]⟩,Pv (i+1),λσ' H' p'=>⟨xs.length-(i+1),by lia,rfl,hlt,p'⟩,λx H' y=>?_⟩;obtain ⟨e,y⟩:=y;subst e;exact hs i x Z _ (y xs q) p
 .have e:i=xs.length:=by lia
  subst e;exact .inl ⟨⟨xs,q,aB _⟩,hd Z H p⟩
theorem RM {g:TG}{tb:TS}{D:r9}{Z:St}{H:Hp}(Pv:Nat->St->Hp->Prop) (h0:Pv 0 Z H)
  (hs:∀ i Z H,i<n->Pv i Z H->g (.int (lo+i)) Z H λσ2 H2=>tb { D with nx:=Pv (i+1),ct:=Pv (i+1),bk:=D.nx } σ2 H2) (hd:∀ Z H,Pv n Z H->D.nx Z H) :
  ∃ W:Nat->Nat->St->Hp->Prop,(∃ m,W 0 m Z H)/\∀ i m Z H,W i m Z H ->
   ((Itr lo n).stop i H/\D.nx Z H)\/((Itr lo n).go i H/\∃ N:St->Hp->Prop,(∀ σ' H',N σ' H'->∃ m',m'<m/\W (i+1) m' σ' H')/\∀ x H',(Itr lo n).PX i H x H'->g x Z H' λσ2 H2=>tb { D with nx:=N,ct:=N,bk:=D.nx } σ2 H2):=by
 refine ⟨λi m Z H=>m=n-i/\i<=n/\Pv i Z H,⟨n,by simp,bA _,h0⟩,?_⟩;rintro i m Z H ⟨rfl,hi,p⟩
 by_cases hlt:i<n
 .refine .inr ⟨hlt,Pv (i+1),λσ' H' p'=>⟨n-(i+1),by lia,rfl,hlt,p'⟩,λx H' y=>?_⟩;obtain ⟨e,y⟩:=y;subst e y;exact hs i Z _ hlt p
 .have e:i=n:=by lia
  subst e;exact .inl ⟨aB _,hd Z H p⟩
abbrev R2:=V->V->Hp->VK->Prop
def rX (X:Cx) (f:ai->ai->N8 ai) (r:R2):Prop :=
 ∀ (pins:List (ah×iW)) (s:ay) (Z:St) (H:Hp) (x y:V) (v u:ai) (Q:VK),Inv X pins Z H s->RelV x v->RelV y u->r x y H Q ->
  aL (aU X.prog X.w) X.A (f v u) (EP X pins Z Q) X.xe s
def UnR (X:Cx) (f:ai->N8 ai) (r:V->Hp->VK->Prop):Prop :=
 ∀ (pins:List (ah×iW)) (s:ay) (Z:St) (H:Hp) (x:V) (v:ai) (Q:VK),Inv X pins Z H s->RelV x v->r x H Q ->
  aL (aU X.prog X.w) X.A (f v) (EP X pins Z Q) X.xe s
def oI (X:Cx) (f:ai) (r:List V->Hp->VK->Prop):Prop :=
 ∀ (pins:List (ah×iW)) (s:ay) (Z:St) (H:Hp) (xs:List V) (us:List ai) (Q:VK),Inv X pins Z H s->Vals xs us->r xs H Q ->
  aL (aU X.prog X.w) X.A (call f us) (EP X pins Z Q) X.xe s
def TruR (X:Cx) (r:V->Hp->(Bool->Hp->Prop)->Prop):Prop :=
 ∀ (pins:List (ah×iW)) (s:ay) (Z:St) (H:Hp) (x:V) (v:ai) (Q:Bool->Hp->Prop),Inv X pins Z H s->RelV x v->r x H Q ->
  aL (aU X.prog X.w) X.A (truthy v) (TP X pins Z Q) X.xe s
def dt (r:R2) (ta tb:TE):TE:=λZ H Q=>ta Z H λx H1=>tb Z H1 λy H2=>r x y H2 Q
def tUn (r:V->Hp->VK->Prop) (ta:TE):TE:=λZ H Q=>ta Z H λx H1=>r x H1 Q
def rI (C:Int->Int->Prop) (g:Int->Int->V):R2:=λx y H Q=>∃ i j,x=.int i/\y=.int j/\C i j/\Q (g i j) H
def xk (g:Int->Int->V):R2:=λx y H Q=>∃ i j,x=.int i/\y=.int j/\Q (g i j) H
def rU (g:Int->V):V->Hp->VK->Prop:=λx H Q=>∃ i,x=.int i/\Q (g i) H
section
variable {X:Cx}{a b:Expr}{ta tb tc:TE}
theorem aaz (ha:PE X a ta) (hb:PE X b tb) {pins:List (ah×iW)}{s:ay}{Z:St}{H:Hp}{R:V->V->Hp->Prop}(I:Inv X pins Z H s)
  (h:ta Z H λx H1=>tb Z H1 λy H2=>R x y H2) {Q:ai->ay->Prop}{f:ai->ai->N8 ai}
  (hf:∀ v u s2 x y H2,Inv X pins Z H2 s2->RelV x v->RelV y u->R x y H2->aL (aU X.prog X.w) X.A (f v u) Q X.xe s2) :
  aL (aU X.prog X.w) X.A (fQ a X.env) (λv s₁=>aL (aU X.prog X.w) X.A (fQ b X.env) (λu s₂=>aL (aU X.prog X.w) X.A (f v u) Q X.xe s₂) X.xe s₁) X.xe s:=by
 refine ia (ha pins s Z H _ I h) λv s1 ⟨x,H1,I1,r1,q1⟩=>?_;refine ia (hb pins s1 Z H1 _ I1 q1) λu s2 ⟨y,H2,I2,r2,q2⟩=>?_;exact hf v u s2 x y H2 I2 r1 r2 q2
theorem oC {op:Le}{r:R2}(ho:rX X (tY op) r) (ha:PE X a ta) (hb:PE X b tb):PE X (.BinOp a op b pos) (dt r ta tb):=by
 intro pins s Z H Q I h;exact wpAny_BinOp (aaz ha hb I h λv u s2 x y H2 I2 rx ry q=>ho pins s2 Z H2 x y v u Q I2 rx ry q)
theorem LL {op:UnaryOp}{r:V->Hp->VK->Prop}(ho:UnR X (unaryOp op) r) (ha:PE X a ta):PE X (.UnaryOp op a pos) (tUn r ta):=by
 intro pins s Z H Q I h;exact UnaryOp_ (ia (ha pins s Z H _ I h) λv s1 ⟨x,H1,I1,r1,q1⟩=>ho pins s1 Z H1 x v Q I1 r1 q1)
theorem opI {f:ai->ai->N8 ai}{C:Int->Int->Prop}{g:Int->Int->Int}
  (rule:∀ (i j:Int) (t u:Z9) (s:ay) (Q:ai->ay->Prop) (E:ai->ay->Prop),C i j->Q (.int (g i j) s.toks) { s with toks:=s.toks+1 }->aL (aU X.prog X.w) X.A (f (.int i t) (.int j u)) Q E s) :
  rX X f (rI C λi j=>.int (g i j)):=by
 intro pins s Z H x y v u Q I rx ry h;obtain ⟨i,j,rfl,rfl,hc,q⟩:=h;obtain ⟨t,rfl⟩:=rx;obtain ⟨t',rfl⟩:=ry;exact rule i j t t' s _ _ hc ⟨.int (g i j),H,I.tok _,⟨_,rfl⟩,q⟩
theorem XG {f:ai->ai->N8 ai}{g:Int->Int->Int}
  (rule:∀ (i j:Int) (t u:Z9) (s:ay) (Q:ai->ay->Prop) (E:ai->ay->Prop),Q (.int (g i j) s.toks) { s with toks:=s.toks+1 }->aL (aU X.prog X.w) X.A (f (.int i t) (.int j u)) Q E s) :
  rX X f (xk λi j=>.int (g i j)):=by
 intro pins s Z H x y v u Q I rx ry h;obtain ⟨i,j,rfl,rfl,q⟩:=h;obtain ⟨t,rfl⟩:=rx;obtain ⟨t',rfl⟩:=ry;exact rule i j t t' s _ _ ⟨.int (g i j),H,I.tok _,⟨_,rfl⟩,q⟩
theorem XH {f:ai->ai->N8 ai}{g:Int->Int->Bool}
  (rule:∀ (i j:Int) (t u:Z9) (s:ay) (Q:ai->ay->Prop) (E:ai->ay->Prop),Q (.bool (g i j)) s->aL (aU X.prog X.w) X.A (f (.int i t) (.int j u)) Q E s) :
  rX X f (xk λi j=>.bl (g i j)):=by
 intro pins s Z H x y v u Q I rx ry h;obtain ⟨i,j,rfl,rfl,q⟩:=h;obtain ⟨t,rfl⟩:=rx;obtain ⟨t',rfl⟩:=ry;exact rule i j t t' s _ _ ⟨.bl (g i j),H,I,rfl,q⟩
def Ea (i j:Int):Prop:=0<j/\j<1073741824
def LM (i j:Int):Prop:=0<=j/\j<=1000000/\i.natAbs<2^64
def Tj (i j:Int):Prop:=(-(2^64)<i/\i<2^64)\/(-(2^64)<j/\j<2^64)
def Tj.ok {i:Int}(h:Tj i j):IntMulOk i j:=by
 rcases h with ⟨h1,h2⟩|⟨h1,h2⟩
 .exact .of_left (intBits_le_64 h1 h2)
 .exact .of_right (intBits_le_64 h1 h2)
def aaA:rX X (tY .Add) (xk λi j=>.int (i+j)):=XG λ_ _ _ _ _ _ _ q=>add_int q
def UD:rX X (tY .Sub) (xk λi j=>.int (i-j)):=XG λ_ _ _ _ _ _ _ q=>sub_int q
def aaB:rX X (tY .Mult) (rI Tj λi j=>.int (i*j)):=opI λ_ _ _ _ _ _ _ hc q=>mul_int q hc.ok
theorem XI:rX X (tY .FloorDiv) (rI Ea λi j=>.int (i/j)):=opI λi j _ _ _ _ _ hc q=>by
 have h1:(0:Int)<j:=hc.1;have h2:j<1073741824:=hc.2;exact floordiv_int (by lia) (by rw [Int.fdiv_eq_ediv_of_nonneg i (by lia)];exact q) (.inl (PyProof.noPylong_small (by lia)))
def A4:rX X (tY .Mod) (rI (λ_ j=>0<j) λi j=>.int (i%j)):=opI λi j _ _ _ _ _ hc q=>by
 have h1:(0:Int)<j:=hc;exact mod_int' (by lia) (by rw [Int.fmod_eq_emod_of_nonneg i (by lia)];exact q)
def Eb:rX X (tY .Pow) (rI LM λi j=>.int (i^j.toNat)):=opI λ_ _ _ _ _ _ _ hc q=>pow_int_small hc.1 hc.2.1 hc.2.2 q
def XJ:rX X (DS .Add) (xk λi j=>.int (i+j)):=XG λ_ _ _ _ _ _ _ q=>aab q
def XM:rX X (DS .Sub) (xk λi j=>.int (i-j)):=XG λ_ _ _ _ _ _ _ q=>isub_int q
def XN:rX X (DS .Mult) (rI Tj λi j=>.int (i*j)):=opI λ_ _ _ _ _ _ _ hc q=>imul_int q hc.ok
theorem unI {f:ai->N8 ai}{g:Int->Int}
  (rule:∀ (i:Int) (t:Z9) (s:ay) (Q:ai->ay->Prop) (E:ai->ay->Prop),Q (.int (g i) s.toks) { s with toks:=s.toks+1 }->aL (aU X.prog X.w) X.A (f (.int i t)) Q E s) :
  UnR X f (rU λi=>.int (g i)):=by
 intro pins s Z H x v Q I rx h;obtain ⟨i,rfl,q⟩:=h;obtain ⟨t,rfl⟩:=rx;exact rule i t s _ _ ⟨.int (g i),H,I.tok _,⟨_,rfl⟩,q⟩
def Ec:UnR X (unaryOp .USub) (rU λi=>.int (-i)):=unI λ_ _ _ _ _ q=>neg_int q
end
def scal:V->V->Bool
 | .non,.non=>true | .non,.int _=>true | .int _,.non=>true | .non,.bl _=>true | .bl _,.non=>true | .non,.str _=>true | .str _,.non=>true
 | .int _,.int _=>true | .bl _,.bl _=>true | .str _,.str _=>true | .byt _,.byt _=>true
 | .int _,.str _=>true | .str _,.int _=>true | .bl _,.str _=>true | .str _,.bl _=>true
 | _,_=>false
def rEq:R2:=λx y H Q=>scal x y=true/\Q (.bl (decide (x=y))) H
def rNe:R2:=λx y H Q=>scal x y=true/\Q (.bl (!decide (x=y))) H
def Qh {i:Int}:decide (V.int i=V.int j)=(i == j):=by
 rw [eZ];simp
def UE {i j:Bool}:decide (V.bl i=V.bl j)=(i == j):=by
 rw [eZ];simp
def Qi {i j:bq}:decide (V.str i=V.str j)=(i == j):=by
 rw [eZ];simp
def Qj {i j:Array UInt8}:decide (V.byt i=V.byt j)=(i.toList == j.toList):=by
 rw [eZ];cases i;cases j;simp
section
variable {X:Cx}{a b:Expr}{ta tb tc:TE}
def fD {Z:St}{H:Hp}{Q:VK}{k k':Bool}(I:Inv X pins Z H s) (q:Q (.bl k) H) (e:k=k'):EP X pins Z Q (.bool k') s:=by
 subst e;exact ⟨.bl k,H,I,rfl,q⟩
theorem acm:rX X (dG .Eq) rEq:=by
 intro pins s Z H x y v u Q I rx ry h;obtain ⟨hs,q⟩:=h
 cases x with
 | non =>
  cases rx
  cases y with
  | non=>cases ry;exact PySem.EqNone.eq_none_none (fD I q (by simp))
  | bl j=>cases ry;exact PySem.EqNone.eq_none_bool (fD I q (by simp))
  | int j=>obtain ⟨t',rfl⟩:=ry;exact PySem.EqNone.eq_none_int (fD I q (by simp))
  | str j=>obtain ⟨t',rfl⟩:=ry;exact PySem.EqNone.eq_none_str (fD I q (by simp))
  | _=>exact absurd (show false=true from hs) bI
 | bl i =>
  cases rx
  cases y with
  | non=>cases ry;exact PySem.EqNone.eq_bool_none (fD I q (by simp))
  | bl j=>cases ry;exact eq_bool (fD I q UE)
  | str j=>obtain ⟨t',rfl⟩:=ry;exact PySem.EqMixed.eq_bool_str (fD I q (by simp))
  | _=>exact absurd (show false=true from hs) bI
 | int i =>
  obtain ⟨t,rfl⟩:=rx
  cases y with
  | non=>cases ry;exact PySem.EqNone.eq_int_none (fD I q (by simp))
  | int j=>obtain ⟨t',rfl⟩:=ry;exact eq_int (fD I q Qh)
  | str j=>obtain ⟨t',rfl⟩:=ry;exact PySem.EqMixed.eq_int_str (fD I q (by simp))
  | _=>exact absurd (show false=true from hs) bI
 | str i =>
  obtain ⟨t,rfl⟩:=rx
  cases y with
  | non=>cases ry;exact PySem.EqNone.eq_str_none (fD I q (by simp))
  | bl j=>cases ry;exact PySem.EqMixed.eq_str_bool (fD I q (by simp))
  | int j=>obtain ⟨t',rfl⟩:=ry;exact PySem.EqMixed.eq_str_int (fD I q (by simp))
  | str j=>obtain ⟨t',rfl⟩:=ry;exact eq_str (fD I q Qi)
  | _=>exact absurd (show false=true from hs) bI
 | byt i =>
  obtain ⟨t,rfl⟩:=rx
  cases y with
  | byt j=>obtain ⟨t',rfl⟩:=ry;exact PySem.W.eq_bytes (fD I q Qj)
  | _=>exact absurd (show false=true from hs) bI
 | _=>cases y<;>exact absurd (show false=true from hs) bI
theorem acn:rX X (dG .NotEq) rNe:=by
 intro pins s Z H x y v u Q I rx ry h;obtain ⟨hs,q⟩:=h
 cases x with
 | non =>
  cases rx
  cases y with
  | non=>cases ry;exact PySem.EqNone.ne_none_none (fD I q (by simp))
  | bl j=>cases ry;exact PySem.EqNone.ne_none_bool (fD I q (by simp))
  | int j=>obtain ⟨t',rfl⟩:=ry;exact PySem.EqNone.ne_none_int (fD I q (by simp))
  | str j=>obtain ⟨t',rfl⟩:=ry;exact PySem.EqNone.ne_none_str (fD I q (by simp))
  | _=>exact absurd (show false=true from hs) bI
 | bl i =>
  cases rx
  cases y with
  | non=>cases ry;exact PySem.EqNone.ne_bool_none (fD I q (by simp))
  | bl j=>cases ry;exact ne_bool (fD I q (congrArg not UE))
  | str j=>obtain ⟨t',rfl⟩:=ry;exact PySem.EqMixed.ne_bool_str (fD I q (by simp))
  | _=>exact absurd (show false=true from hs) bI
 | int i =>
  obtain ⟨t,rfl⟩:=rx
  cases y with
  | non=>cases ry;exact PySem.EqNone.ne_int_none (fD I q (by simp))
  | int j=>obtain ⟨t',rfl⟩:=ry;exact ne_int (fD I q (congrArg not Qh))
  | str j=>obtain ⟨t',rfl⟩:=ry;exact PySem.EqMixed.ne_int_str (fD I q (by simp))
  | _=>exact absurd (show false=true from hs) bI
 | str i =>
  obtain ⟨t,rfl⟩:=rx
  cases y with
  | non=>cases ry;exact PySem.EqNone.ne_str_none (fD I q (by simp))
  | bl j=>cases ry;exact PySem.EqMixed.ne_str_bool (fD I q (by simp))
  | int j=>obtain ⟨t',rfl⟩:=ry;exact PySem.EqMixed.ne_str_int (fD I q (by simp))
  | str j=>obtain ⟨t',rfl⟩:=ry;exact ne_str (fD I q (congrArg not Qi))
  | _=>exact absurd (show false=true from hs) bI
 | byt i =>
  obtain ⟨t,rfl⟩:=rx
  cases y with
  | byt j=>obtain ⟨t',rfl⟩:=ry;exact PySem.W.ne_bytes (fD I q (congrArg not Qj))
  | _=>exact absurd (show false=true from hs) bI
 | _=>cases y<;>exact absurd (show false=true from hs) bI
def UF:rX X (dG .Lt) (xk λi j=>.bl (decide (i<j))):=XH λ_ _ _ _ _ _ _ q=>Rp q
def LN:rX X (dG .LtE) (xk λi j=>.bl (decide (i<=j))):=XH λ_ _ _ _ _ _ _ q=>le_int q
def aco:rX X (dG .Gt) (xk λi j=>.bl (decide (j<i))):=XH λ_ _ _ _ _ _ _ q=>gt_int q
def acp:rX X (dG .GtE) (xk λi j=>.bl (decide (j<=i))):=XH λ_ _ _ _ _ _ _ q=>ge_int q
theorem rX.or {f:ai->ai->N8 ai}{r r':R2}(h:rX X f r) (h':rX X f r'):rX X f (λx y H Q=>r x y H Q\/r' x y H Q):=by
 intro pins s Z H x y v u Q I rx ry q
 rcases q with q|q
 .exact h pins s Z H x y v u Q I rx ry q
 .exact h' pins s Z H x y v u Q I rx ry q
theorem qA (b:Expr) {op:CmpOp}(h:op≠.In:=by decide) (h2:op≠.NotIn:=by decide):kT op b=false:=by
 have e1:(op == CmpOp.In)=false:=by cases op<;>first|rfl|exact absurd rfl h
 have e2:(op == CmpOp.NotIn)=false:=by cases op<;>first|rfl|exact absurd rfl h2
 cases b<;>simp [kT,e1,e2]
theorem Jx {r:R2}(ho:rX X (dG op) r) (ha:PE X a ta) (hb:PE X b tb) (hm:kT op b=false):PE X (.Compare a [op] [b] pos) (dt r ta tb):=by
 intro pins s Z H Q I h;exact wpAny_Compare1 (aaz ha hb I h λv u s2 x y H2 I2 rx ry q=>ho pins s2 Z H2 x y v u Q I2 rx ry q) hm
def eP (t:TE):TT:=λZ H Q=>t Z H λx H'=>∃ k,x=.bl k/\Q k H'
theorem nC {r:R2}(ho:rX X (dG op) r) (ha:PE X a ta) (hb:PE X b tb) (hm:kT op b=false):PT X (.Compare a [op] [b] pos) (eP (dt r ta tb)):=by
 intro pins s Z H Q I h
 refine aaa (ia (ha pins s Z H _ I h) λv s1 ⟨x,H1,I1,r1,q1⟩=>ia (hb pins s1 Z H1 _ I1 q1) λu s2 ⟨y,H2,I2,r2,q2⟩ =>
  ia (ho pins s2 Z H2 x y v u _ I2 r1 r2 q2) λc s3 ⟨z,H3,I3,r3,k,e,q3⟩=>?_) hm
 subst e;cases r3;exact lz ⟨H3,I3,q3⟩
def Ee (r r':R2) (ta tb tc:TE):TE:=λZ H Q=>ta Z H λx H1=>tb Z H1 λy H2=>r x y H2 λz H3=>∃ k,z=.bl k /\
 (if k=true then tc Z H3 λw' H4=>r' y w' H4 Q else Q (.bl false) H3)
theorem Eg {op':CmpOp}{r r':R2}(ho:rX X (dG op) r) (ho':rX X (dG op') r') (ha:PE X a ta) (hb:PE X b tb) (hc:PE X c tc)
  (hm:lastMarks [op,op'] [b,c]=false:=by with_unfolding_all rfl):PE X (.Compare a [op,op'] [b,c] pos) (Ee r r' ta tb tc):=by
 intro pins s Z H Q I h
 refine Compare_chain (ia (ha pins s Z H _ I h) λv s1 ⟨x,H1,I1,r1,q1⟩=>chain_link (ia (hb pins s1 Z H1 _ I1 q1) λu s2 ⟨y,H2,I2,r2,q2⟩ =>
  ia (ho pins s2 Z H2 x y v u _ I2 r1 r2 q2) λd s3 ⟨z,H3,I3,r3,k,e,q3⟩=>?_)) hm
 subst e;cases r3;refine lz ?_
 cases k with
 | false=>exact ite_ff ⟨.bl false,H3,I3,rfl,q3⟩
 | true=>exact ite_tt (chain_last (ia (hc pins s3 Z H3 _ I3 q3) λw' s4 ⟨z',H4,I4,r4,q4⟩=>ho' pins s4 Z H4 y z' u w' Q I4 r2 r4 q4))
def XO (K:aa) (x:V) (H:Hp) (k:Bool):Prop :=
 match x with
 | .non=>k=false
 | .bl b=>k=b
 | .int i=>k=(i != 0)
 | .str y=>y.length<=aX/\k=((y.length:Int) != 0)
 | .byt y=>y.size<=aX/\k=((y.size:Int) != 0)
 | .ref p=>(∃ xs,dh K H p xs/\k=!xs.isEmpty)\/(∃ xs,mX K H p xs/\k=!xs.isEmpty)\/∃ kvs,H p=some (.dK kvs)/\k=!kvs.isEmpty
 | _=>False
def Ol {κ:Type} {kvs:List (κ×V)}{vs:List (κ×ai)}(r:KV kvs vs):(!vs.isEmpty)=!kvs.isEmpty:=by
 cases r<;>rfl
def Eh {xs:List V}{its:List ai}(r:Vals xs its):(!its.toArray.isEmpty)=!xs.isEmpty:=by
 cases r<;>simp
def yf:(aX:Nat)<2^63:=by rw [wb];decide
theorem aaC:TruR X (λx H Q=>∃ k,XO X.K x H k/\Q k H):=by
 intro pins s Z H x v Q I rx h;obtain ⟨k,e,q⟩:=h;have hl:=yf;have hs:aX=16777216:=wb
 cases x with
 | non =>
  cases rx;have e':k=false:=e;subst e'
  exact truthy_none ⟨H,I,q⟩
 | bl b =>
  cases rx;have e':k=b:=e;subst e'
  exact lz ⟨H,I,q⟩
 | int i =>
  obtain ⟨t,rfl⟩:=rx;have e':k=(i != 0):=e;subst e'
  exact PySem.P.truthy_int ⟨H,I,q⟩
 | str y =>
  obtain ⟨t,rfl⟩:=rx;obtain ⟨hy,e'⟩:y.length<=aX/\k=((y.length:Int) != 0):=e;subst e'
  exact PySem.P.truthy_str (by lia) ⟨H,I.tok _,q⟩
 | byt y =>
  obtain ⟨t,rfl⟩:=rx;obtain ⟨hy,e'⟩:y.size<=aX/\k=((y.size:Int) != 0):=e;subst e'
  exact PySem.W.truthy_bytes (by lia) ⟨H,I.tok _,q⟩
 | ref p =>
  cases rx;have e':(∃ xs,dh X.K H p xs/\k=!xs.isEmpty)\/(∃ xs,mX X.K H p xs/\k=!xs.isEmpty)\/∃ kvs,H p=some (.dK kvs)/\k=!kvs.isEmpty:=e
  rcases e' with ⟨xs,hx,e'⟩|⟨xs,hx,e'⟩|⟨kvs,hx,e'⟩
  .subst e';obtain ⟨its,r,pl,hz⟩:=I.list hx;have hlen:=r.length;exact wpAny_truthy_list pl.isList (by simp only [aN];lia) ⟨H,I.tok _,by rw [Eh r];exact q⟩
  .subst e';obtain ⟨its,r,pl,hz⟩:=I.tuple hx;have hlen:=r.length;exact truthy_tuple pl (by simp only [aN];lia) ⟨H,I.tok _,by rw [Eh r];exact q⟩
  .subst e';obtain ⟨hz,hS,vs,r,m⟩:kvs.length<=aX/\(p == jB)=false/\∃ vs,KV kvs vs/\s.heap.DictOf (gj X.prog X.w) p vs:=I.eV p _ hx;have hlen:kvs.length=vs.length:=AF r
   exact wpAny_truthy_dict hS m (by lia) ⟨H,I.tok _,by rw [Ol r];exact q⟩
 | _=>exact (show False from e).elim
theorem UG (ha:PE X a ta) (he:∀ whole,isTrue a X.env whole=(do let v ← whole;v8 a.pos;jU [v] (truthy v))) :
  PT X a (λZ H Q=>ta Z H λx H'=>∃ k,XO X.K x H' k/\Q k H'):=by
 intro pins s Z H Q I h;exact isTrue_plain (ia (ha pins s Z H _ I h) λv s1 ⟨x,H1,I1,r1,q1⟩=>aaC pins s1 Z H1 x v Q I1 r1 q1) (he _)
def vals1 {x:V}(r:Vals [x] us):∃ u,us=[u]/\RelV x u:=by
 cases r with
 | cons r1 r2=>cases r2;exact ⟨_,rfl,r1⟩
def vals2 {x y:V}(r:Vals [x,y] us):∃ u w',us=[u,w']/\RelV x u/\RelV y w':=by
 cases r with
 | cons r1 r2 =>
  cases r2 with
  | cons r3 r4=>cases r4;exact ⟨_,_,rfl,r1,r3⟩
theorem RN (hc:X.calm=true):oI X (.builtin "max") (λxs H Q=>∃ i j,xs=[.int i,.int j]/\Q (.int (if j>i then j else i)) H):=by
 intro pins s Z H xs us Q I r h;obtain ⟨i,j,rfl,q⟩:=h;obtain ⟨u,w',rfl,⟨t,rfl⟩,⟨t',rfl⟩⟩:=vals2 r
 refine max_two_ints (I.ok.hd hc) λh' tk k=>⟨_,H,I.kept k,?_,q⟩
 by_cases hj:j>i
 .rw [if_pos hj,if_pos hj];exact ⟨_,rfl⟩
 .rw [if_neg hj,if_neg hj];exact ⟨_,rfl⟩
theorem RO (hc:X.calm=true):oI X (.builtin "min") (λxs H Q=>∃ i j,xs=[.int i,.int j]/\Q (.int (if j<i then j else i)) H):=by
 intro pins s Z H xs us Q I r h;obtain ⟨i,j,rfl,q⟩:=h;obtain ⟨u,w',rfl,⟨t,rfl⟩,⟨t',rfl⟩⟩:=vals2 r
 refine min_two_ints (I.ok.hd hc) λh' tk k=>⟨_,H,I.kept k,?_,q⟩
 by_cases hj:j<i
 .rw [if_pos hj,if_pos hj];exact ⟨_,rfl⟩
 .rw [if_neg hj,if_neg hj];exact ⟨_,rfl⟩
end
structure PR (h:cJ) (x dx C:ah) (mA:bq->Option ai):Prop where
 obj:h.get? x=some (iX C dx)
 ns:h.Ns1 dx mA
 ne:dx≠x
theorem RP (n:h.Ns1 dx mA):∃ od,h.get? dx=some od/\∀ name,wW name od=some (mA name):=by
 obtain ⟨o,es,ep,ho,hd,hk,_,hm⟩:=n;refine ⟨o,ho,λname=>?_⟩;have e:=hm name;unfold nsFind findBy at e;rw [← Array.find?_toList] at e;unfold wW;rw [hd];dsimp only
 split
 .rename_i y q
  rw [q] at e;exact congrArg some e
 .rename_i q
  rw [q] at e
  have a:es.toList.any (·.refKey)=false:=by
   rw [List.any_eq_false];intro y hy;obtain ⟨z,t,hkey⟩:=hk y (Array.mem_toList_iff.mp hy);simp [DictEntry.refKey,hkey]
  have a':¬ es.toList.any (·.refKey)=true:=by rw [a];exact bI
  rw [if_neg a'];exact congrArg some e
def PR.look {x:ah}(I:PR h x dx C mA):∃ od,wX h x (iX C dx) C (some od)/\∀ name,wW name od=some (mA name) :=
 let ⟨od,ho,hl⟩:=RP I.ns
 ⟨od,⟨I.obj,rfl,rfl,ho⟩,hl⟩
section
variable {x:ah}
theorem XQ {expr:Bool}(X:K.In s.heap) (I:PR s.heap x dx C mA) (hg:jc K C name=true) (hh:jZ K C=true)
  (ha:bh K (.ref C) name=some none) (hv:mA name=some v) (hv':W6 v=true) (h:Q v { s with toks:=s.toks+1 }) :
  aL (aU prog w) A (getAttr (.ref x) name expr) Q E s:=by
 obtain ⟨od,J,hl⟩:=I.look;exact PySem.W.get_value X J (yI hg).1 (PySem.W.findObj_own hh ha rfl (by rw [hl,hv])) hv' h
theorem UH {Q:ai×List ai->ay->Prop}(X:K.In s.heap) (I:PR s.heap x dx C mA) (hg:jc K C name=true)
  (hf:bh K (.ref C) name=some (some (.ref f))) (ht:tZ K (.ref f)=true) (hv:mA name=none) (h:Q (.ref f,[.ref x]) s) :
  aL (aU prog w) A (yJ (.ref x) name pl) Q E s:=by
 obtain ⟨od,J,hl⟩:=I.look;exact PySem.W.method_fn X J (yI hg).1 (yI hg).2 hf (beq_iff_eq.mp ht) (by show (wW name od).map (·.isSome)=some false;rw [hl,hv];rfl) h
theorem XR {ns:List bq}{Q:Unit->ay->Prop}(X:K.In s.heap) (I:PR s.heap x dx C mA)
  (hs:bh K (.ref C) "__setattr__"=some (some (.builtin "object.__setattr__"))) (hp:mQ K C=true) (ht:Gw K C name=some none) (hh:jZ K C=true)
  (hw:PZ mA ns) (hsz:ns.length<=aX)
  (h:∀ h',PR h' x dx C (λy=>if y=name then some v else mA y)->iH dx s.heap h'->Q () { s with heap:=h',toks:=s.toks+2 }) :
  aL (aU prog w) A (setAttr (.ref x) name v) Q E s:=by
 obtain ⟨od,J,hl⟩:=I.look;refine PySem.W.set_plain X J hs (PySem.W.osa_open (s:={ s with toks:=s.toks+1 }) (r:=none) X J hp ht λb=>?_);obtain ⟨cd,hc,hd'⟩:=PySem.W.any_some hh;have hx:s.heap.get? x=some ⟨.ref C,some dx,.plain,#[]⟩:=I.obj;refine ae (au (ae (ae (wpAny_loadPart hx (ae (PySem.W.Looks.here (s:={ s with toks:=s.toks+1 }) (PySem.W.looks_clsIn X hc) ?_))))));rw [hd'];refine au (a:=some dx) (ae (au (ae ?_)));refine wpAny_nsSet1 (s:={ s with toks:=s.toks+1 }) I.ns λh' hn2 hs2=>?_;obtain ⟨oD,esD,epD,hoD,hdD,hcD⟩:=hn2.count (PySem.Within.cons name v hw);refine ae (wpAny_lookBehind hoD (by rw [hdD];exact pastItsLine_dict (bF hcD (by rw [b8];lia))) ?_);exact au (h _ ⟨(hs2.2 _ (Ne.symm I.ne)).trans I.obj,hn2,I.ne⟩ hs2)
theorem UI {R:Tv->ay->Prop}{vs:List ai}(X:K.In s.heap) (hm:lO K C=true)
  (hi:bh K (.ref C) "__init__"=some (some (.ref f))) (hf:PySem.W.typeIn K (.ref f)=some (.type "function"))
  (h:kD (aU prog w) (A.under (.builtin "type.__call__" ⟨.ref C::vs,kw⟩)) (.call (.ref f) ⟨.ref (s.heap.objs.size+1)::vs,kw⟩) (PySem.W.InitBack (s.heap.objs.size+1) R)
   { s with heap:=(s.heap.push fS).push (iX C s.heap.objs.size) }) :
  kD (aU prog w) A (.call (.ref C) ⟨vs,kw⟩) R s:=by
 obtain ⟨hh,g,d,t,os⟩:=s;exact PySem.W.make_core (PySem.W.makes_of X hm) (wY X hi) (λself=>PySem.W.bind_fn X self hf) (.inl rfl) h
end
def eT (f:bq) (v:V):List (bq×V)->List (bq×V)
 | []=>[(f,v)]
 | (g,x)::r=>if g=f then (g,v)::r else (g,x)::eT f v r
theorem fU (f g:bq) (v:V):∀ fs:List (bq×V),(eT f v fs).lookup g=if g=f then some v else fs.lookup g
 | []=>by
  show dk g [(f,v)]=_
  by_cases h:g=f
  .have hb:(g == f)=true:=beq_iff_eq.mpr h;simp only [dk,hb,if_pos h]
  .have hb:(g == f)=false:=beq_eq_false_iff_ne.mpr h
   simp only [dk,hb,if_neg h]
 | (k,x)::r=>by
  have ih:=fU f g v r;rw [show eT f v ((k,x)::r)=(if k=f then (k,v)::r else (k,x)::eT f v r) from rfl]
  by_cases hk:k=f
  .rw [if_pos hk]
   by_cases h:g=k
   .have hb:(g == k)=true:=beq_iff_eq.mpr h;simp only [dk,hb,if_pos (h.trans hk)]
   .have hb:(g == k)=false:=beq_eq_false_iff_ne.mpr h;simp only [dk,hb,if_neg (λe:g=f=>h (e.trans hk.symm))]
  .rw [if_neg hk]
   by_cases h:g=k
   .have hb:(g == k)=true:=beq_iff_eq.mpr h;simp only [dk,hb,if_neg (λe:g=f=>hk (h.symm.trans e))]
   .have hb:(g == k)=false:=beq_eq_false_iff_ne.mpr h;simp only [dk,hb];exact ih
theorem A5 (f:bq) (v:V):∀ fs:List (bq×V),f∈(eT f v fs).map (·.1)/\∀ g,g∈fs.map (·.1)->g∈(eT f v fs).map (·.1)
 | []=>⟨by simp [eT],λg h=>by simp at h⟩
 | (k,x)::r=>by
  obtain ⟨i1,i2⟩:=A5 f v r;rw [show eT f v ((k,x)::r)=(if k=f then (k,v)::r else (k,x)::eT f v r) from rfl]
  by_cases hk:k=f
  .rw [if_pos hk];subst hk;exact ⟨by simp,λg h=>by simpa using h⟩
  .rw [if_neg hk];refine ⟨?_,λg h=>?_⟩
   .rw [cn];exact ag _ i1
   .rw [cn] at h ⊢
    rcases aq.mp h with e|e
    .exact aq.mpr (.inl e)
    .exact ag _ (i2 g e)
theorem BW (f:bq) (v:V):∀ fs:List (bq×V),(eT f v fs).length<=fs.length+1
 | []=>by simp [eT]
 | (k,x)::r=>by
  have ih:=BW f v r;rw [show eT f v ((k,x)::r)=(if k=f then (k,v)::r else (k,x)::eT f v r) from rfl]
  by_cases hk:k=f
  .rw [if_pos hk,b8,b8];lia
  .rw [if_neg hk,b8,b8];lia
def vM.some_of {v:V}{o:Option ai}(r:vM (some v) o):∃ u,o=some u/\RelV v u:=by
 cases o with
 | none=>exact (show False from r).elim
 | some u=>exact ⟨u,rfl,r⟩
def vM.none_of {o:Option ai}(r:vM none o):o=none:=by
 cases o with
 | none=>rfl
 | some u=>exact (show False from r).elim
theorem RQ {v:V}(r:RelV v u):W6 u=true:=by
 cases v with
 | non=>cases (show u=cu from r);rfl
 | bl b=>cases (show u=vS b from r);rfl
 | int i=>obtain ⟨t,e⟩:=(show ∃ t,u=fc i t from r);cases e;rfl
 | str x=>obtain ⟨t,e⟩:=(show ∃ t,u=qx x t from r);cases e;rfl
 | byt b=>obtain ⟨t,e⟩:=(show ∃ t,u=Value.bytes b t from r);cases e;rfl
 | flt b=>obtain ⟨t,e⟩:=(show ∃ t,u=To b t from r);cases e;rfl
 | ref a=>cases (show u=ax a from r);rfl
 | ty n=>cases (show u=dI n from r);rfl
section
variable {H H':Hp}{fs fs':List (bq×V)}
theorem DK (eV:tI P w H h) (e:H a=some (.ins C dx fs)):∃ mA,PR h a dx C mA/\(∀ f,vM (fs.lookup f) (mA f))/\PZ mA (fs.map (·.1))/\fs.length<=1000/\H dx=some (.own a):=by
 obtain ⟨d,z,ne,ob,mA,n,r,q⟩:=(show fv P w H h a (.ins C dx fs) from eV a _ e)
 exact ⟨mA,⟨ob,n,ne⟩,r,q,z,d⟩
end
structure GC (K:aa) (C:ah):Prop where
 pg:jc K C Rq=true
 hd:jZ K C=true
 po:mQ K C=true
 sa:bh K (.ref C) "__setattr__"=some (some (.builtin "object.__setattr__"))
def GC.get (c:GC K C) (f:bq):jc K C f=true:=c.pg
def eI (K:aa) (C:ah) (f:bq):Prop:=bh K (.ref C) f=some none
def eI.ady {f:bq}(n:eI K C f):Gw K C f=some none:=by
 unfold Gw;rw [show bh K (.ref C) f=some none from n]
 rfl
structure XS (K:aa) (C:ah) (m:bq) (f:ah):Prop where
 at_:bh K (.ref C) m=some (some (.ref f))
 fn:tZ K (.ref f)=true
 kp:dD K (.ref f)=true
section
variable {X:Cx}{Z:St}{H:Hp}{fs:List (bq×V)}{f:bq}{v:V}
theorem Ei {b:Bool}(I:Inv X pins Z H s) (e:H a=some (.ins C dx fs)) (c:GC X.K C) (n:eI X.K C f) (l:fs.lookup f=some v)
  (h:∀ u s',Inv X pins Z H s'->RelV v u->Q u s'):aL (aU X.prog X.w) A (getAttr (.ref a) f b) Q E s:=by
 obtain ⟨mA,O,r,_,_,_⟩:=DK I.eV e;obtain ⟨u,hu,ru⟩:=vM.some_of (v:=v) (o:=mA f) (by rw [← l];exact r f);exact XQ I.wO O (c.get f) c.hd n hu (RQ ru) (h u _ (I.tok _) ru)
theorem Ej {g:ah}{Q:ai×List ai->ay->Prop}(I:Inv X pins Z H s) (e:H a=some (.ins C dx fs)) (c:GC X.K C) (k:XS X.K C m g) (l:fs.lookup m=none)
  (h:Q (.ref g,[.ref a]) s):aL (aU X.prog X.w) A (yJ (.ref a) m pl) Q E s:=by
 obtain ⟨mA,O,r,_,_,_⟩:=DK I.eV e;have hn:mA m=none:=vM.none_of (by rw [← l];exact r m);exact UH I.wO O (c.get m) k.at_ k.fn hn h
theorem Ek {y:V}{Q:Unit->ay->Prop}(I:Inv X pins Z H s) (e:H a=some (.ins C dx fs)) (c:GC X.K C) (n:eI X.K C f) (hl:fs.length<1000) (ry:RelV y u)
  (h:∀ s',Inv X pins Z (upd H a (.ins C dx (eT f y fs))) s'->Q () s'):aL (aU X.prog X.w) A (setAttr (.ref a) f u) Q E s:=by
 obtain ⟨mA,O,r,wi,_,ho⟩:=DK I.eV e
 have hz:(fs.map (·.1)).length<=aX:=by rw [af,wb];lia
 refine XR I.wO O c.sa c.po n.ady c.hd wi hz λh' O' sb=>h _ ?_
 have hd:∃ o,h'.get? dx=some o:=let ⟨o,_,_,e',_⟩:=O'.ns;⟨o,e'⟩
 refine I.write (x:=a) (e:=dx) (by rw [e];exact i9) (.inr ho) (λb q hb z=>(sb.2 b hb).trans z) hd ?_;refine ⟨by rw [aE O.ne];exact ho,?_,O.ne,O'.obj,_,O'.ns,λg=>?_,λg hg=>?_⟩
 .have:=BW f y fs;lia
 .show vM ((eT f y fs).lookup g) (if g=f then some u else mA g)
  rw [fU]
  by_cases q:g=f
  .rw [if_pos q,if_pos q];exact ry
  .rw [if_neg q,if_neg q];exact r g
 .by_cases q:g=f
  .rw [q];exact (A5 f y fs).1
  .refine (A5 f y fs).2 g (wi g λz=>hg ?_)
   show (if g=f then some u else mA g)=none
   rw [if_neg q];exact z
theorem Inv.made (I:Inv X pins Z H s):Inv X pins Z (upd (upd H s.heap.objs.size (.own (s.heap.objs.size+1))) (s.heap.objs.size+1) (.ins C s.heap.objs.size []))
  { s with heap:=(s.heap.push fS).push (iX C s.heap.objs.size) }:=by
 have e1:(s.heap.push fS).get? s.heap.objs.size=some fS:=aI s.heap rfl
 have e2:((s.heap.push fS).push (iX C s.heap.objs.size)).get? (s.heap.objs.size+1)=some (iX C s.heap.objs.size):=by
  have:=aI (s.heap.push fS) (o:=iX C s.heap.objs.size) rfl
  rwa [jq] at this
 have e3:(s.heap.push fS).Ns s.heap.objs.size (λ_=>none):=⟨fS,#[],_,e1,rfl,(λe he=>absurd he (by simp)),λ_=>rfl⟩
 have I1:=I.laid (a:=s.heap.objs.size) (o:=.own (s.heap.objs.size+1)) (h':=s.heap.push fS) (t':=s.toks) (λb u q=>ao _ q) (aB _) ⟨_,e1⟩;refine I1.laid (a:=s.heap.objs.size+1) (o:=.ins C s.heap.objs.size []) (t':=s.toks) (λb u q=>ao _ q) (Gx (jq _ _)) ?_;have ne:s.heap.objs.size≠s.heap.objs.size+1:=aO (lG _);refine ⟨by rw [aE ne,aD],bA _,ne,e2,λ_=>none,(Heap.Ns1.of_empty e3).at λo q=>ao _ q,λ_=>i9,λy hy=>absurd rfl hy⟩
theorem XT {env:xZ}{f:bq}(hb:qy e f env (fQ e env)=fQ e env)
  (h:aL (aU prog w) A (fQ e env) (λo s₁=>aL (aU prog w) A (getAttr o f true) Q E s₁) E s):aL (aU prog w) A (fQ (.Attribute e f pos) env) Q E s :=
 Attribute_any_ h (by rw [arm_eval_Attribute,hb])
end
def dw (K:aa) (ta:TE) (f:bq):TE:=λZ H Q=>ta Z H λx H1=>∃ a C dx fs v,x=.ref a/\H1 a=some (.ins C dx fs)/\GC K C/\eI K C f/\fs.lookup f=some v/\Q v H1
def ph (K:aa) (ta tv:TE) (f:bq):TS:=λD Z H=>tv Z H λy H1=>ta Z H1 λx H2=>∃ a C dx fs,x=.ref a/\H2 a=some (.ins C dx fs)/\GC K C/\eI K C f/\fs.length<1000 /\
 D.nx Z (upd H2 a (.ins C dx (eT f y fs)))
def aaD (X:Cx) (op:Le) (rd:V->V->Hp->VK->Prop):Prop :=
 ∀ (pins:List (ah×iW)) (s:ay) (Z:St) (H:Hp) (x y:V) (u v:ai) (Q:VK),Inv X pins Z H s->RelV x u->RelV y v->rd x y H Q->aL (aU X.prog X.w) X.A (DS op u v) (EP X pins Z Q) X.xe s
def oN (K:aa) (ta tv:TE) (rd:V->V->Hp->VK->Prop) (f:bq):TS:=λD Z H=>ta Z H λx H1=>∃ a C dx fs v,x=.ref a/\H1 a=some (.ins C dx fs)/\GC K C/\eI K C f/\fs.lookup f=some v /\
 tv Z H1 λy H2=>rd v y H2 λz H3=>∃ dx' fs',H3 a=some (.ins C dx' fs')/\fs'.length<1000/\D.nx Z (upd H3 a (.ins C dx' (eT f z fs')))
section
variable {X:Cx}{o value:Expr}{f:bq}{tpos:wV}{ta tv:TE}
theorem jK (he:PE X e ta) (hb:qy e f X.env (fQ e X.env)=fQ e X.env):PE X (.Attribute e f pos) (dw X.K ta f):=by
 intro pins s Z H Q I h;refine XT hb (ia (he pins s Z H _ I h) λu s1 ⟨x,H1,I1,rx,a,C,dx,fs,v,ex,ea,c,n,l,q⟩=>?_);subst ex;obtain rfl:u=ax a:=rx
 exact Ei I1 ea c n l λu' s2 I2 ru=>⟨v,H1,I2,ru,q⟩
theorem pj (ha:PE X o ta) (hv:PE X value tv) (hs:DR value (some (.Attribute o f pos')) pos.line X.env=pure false):PS X (.Assign [.Attribute o f pos'] value pos) (ph X.K ta tv f):=by
 intro pins s Z H D I h;refine plainObj_wpAny_Assign_Attribute (ia (hv pins s Z H _ I h) λu s1 ⟨y,H1,I1,ry,q⟩=>ia (ha pins s1 Z H1 _ I1 q) λov s2 ⟨x,H2,I2,rx,a,C,dx,fs,ex,ea,c,n,l,q2⟩=>?_) hs;subst ex;obtain rfl:ov=ax a:=rx
 exact Ek I2 ea c n l ry λs3 I3=>⟨Z,_,I3,q2⟩
theorem mZ {op:Le}{rd:V->V->Hp->VK->Prop}(ha:PE X o ta) (hv:PE X value tv) (hop:aaD X op rd):PS X (.AugAssign (.Attribute o f tpos) op value pos) (oN X.K ta tv rd f):=by
 intro pins s Z H D I h;refine wpAny_AugAssign_AttributeAny (ia (ha pins s Z H _ I h) λov s1 ⟨x,H1,I1,rx,a,C,dx,fs,v,ex,ea,c,n,l,q⟩=>?_);subst ex;obtain rfl:ov=ax a:=rx;refine Ei I1 ea c n l λu s2 I2 ru=>ia (hv pins s2 Z H1 _ I2 q) λw3 s3 ⟨y,H2,I3,ry,q3⟩=>ia (hop pins s3 Z H2 v y u w3 _ I3 ru ry q3) λw4 s4 ⟨z,H3,I4,rz,dx',fs',ea',l',q4⟩=>?_
 exact Ek I4 ea' c n l' rz λs5 I5=>⟨Z,_,I5,q4⟩
def Jy:V->V->Hp->VK->Prop:=λx y H Q=>∃ i j,x=.int i/\y=.int j/\Q (.int (i+j)) H
def uo:aaD X .Add Jy:=by
 rintro pins s Z H x y u v Q I rx ry ⟨i,j,rfl,rfl,q⟩
 obtain ⟨t,rfl⟩:=(show ∃ t,u=fc i t from rx)
 obtain ⟨t',rfl⟩:=(show ∃ t',v=fc j t' from ry)
 exact aab ⟨.int (i+j),H,I.tok _,⟨_,rfl⟩,q⟩
end
section
variable {X:Cx}{Z:St}{H:Hp}{c:ai}{b:Bool}
inductive yX (K:aa) (H:Hp):V->ai->Prop where
 | non:yX K H .non (.type "NoneType")
 | bl (x:Bool):yX K H (.bl x) (.type "bool")
 | int (i:Int):yX K H (.int i) (.type "int")
 | str (x:bq):yX K H (.str x) (.type "str")
 | flt (x:UInt64):yX K H (.flt x) (.type "float")
 | lst {a:ah}{xs:List V}(e:H a=some (.lst xs)):yX K H (.ref a) (.type "list")
 | frz {a:ah}{o:iW}{xs:List V}(e:H a=some (.frz o (.lst xs))):yX K H (.ref a) (.type "list")
 | tup {a:ah}{xs:List V}(e:H a=some (.tup xs)):yX K H (.ref a) (.type "tuple")
 | dK {a:ah}{kvs:List (gn×V)}(e:H a=some (.dK kvs)):yX K H (.ref a) (.type "dict")
 | dT {a:ah}{kvs:List (List gn×V)}(e:H a=some (.dT kvs)):yX K H (.ref a) (.type "dict")
 | ins {a C dx:ah}{fs:List (bq×V)}(e:H a=some (.ins C dx fs)) (cl:GC K C) (ha:bh K (.ref C) "__class__"=some (some (.builtin "object.__class__")))
   (hn:j0 K (.builtin "object.__class__") "__get__"=some (some (.builtin "getset_descriptor.__get__"))) (htk:uf K (.builtin "object.__class__")=some true)
   (hm:Lg K C (.type "object")=some true):yX K H (.ref a) (.ref C)
theorem RR {x:V}{t:ai}(I:Inv X pins Z H s) (rx:RelV x u) (ty:yX X.K H x t) (e:bZ X.K t c=some b) (h:∀ tk,Q (.bool b) { s with toks:=tk }) :
  aL (aU X.prog X.w) A (call (.builtin "isinstance") [u,c]) Q E s:=by
 cases ty with
 | non=>cases (show u=cu from rx);exact d0 PySem.W.kitx_none I.wO i9 e nofun h
 | bl y=>cases (show u=vS y from rx);exact d0 PySem.W.kitx_bool I.wO i9 e nofun h
 | int i=>obtain ⟨t,q⟩:=(show ∃ t,u=fc i t from rx);cases q;exact d0 PySem.W.kitx_int I.wO i9 e nofun h
 | str y=>obtain ⟨t,q⟩:=(show ∃ t,u=qx y t from rx);cases q;exact d0 PySem.W.kitx_str I.wO i9 e nofun h
 | flt y=>obtain ⟨t,q⟩:=(show ∃ t,u=To y t from rx);cases q;exact d0 PySem.W.kitx_float I.wO i9 e nofun h
 | @lst a xs ea =>
  cases (show u=ax a from rx)
  obtain ⟨_,_,n,_,h1⟩:=(show fv X.prog X.w H s.heap a (.lst xs) from I.eV a _ ea)
  exact d0 Uh I.wO ⟨_,h1,rfl⟩ e nofun h
 | @frz a ob xs ea =>
  cases (show u=ax a from rx)
  obtain ⟨_,_,_,n,_,h1⟩:=(show fv X.prog X.w H s.heap a (.frz ob (.lst xs)) from I.eV a _ ea)
  exact d0 Uh I.wO ⟨_,h1,rfl⟩ e nofun h
 | @tup a xs ea =>
  cases (show u=ax a from rx)
  obtain ⟨_,_,_,p⟩:=(show fv X.prog X.w H s.heap a (.tup xs) from I.eV a _ ea)
  obtain ⟨o,h1,h2,_⟩:=p
  exact d0 PySem.W.kitx_tuple I.wO ⟨o,h1,h2⟩ e nofun h
 | @dK a kvs ea =>
  cases (show u=ax a from rx)
  obtain ⟨_,_,vs,_,p⟩:=(show fv X.prog X.w H s.heap a (.dK kvs) from I.eV a _ ea)
  obtain ⟨o,es,ep,h1,h2,_⟩:=p
  exact d0 Ui I.wO ⟨o,h1,h2.1⟩ e nofun h
 | @dT a kvs ea =>
  cases (show u=ax a from rx)
  obtain ⟨_,_,xs,_,o,es,ep,h1,h2,_⟩:=(show fv X.prog X.w H s.heap a (.dT kvs) from I.eV a _ ea)
  exact d0 Ui I.wO ⟨o,h1,h2.1⟩ e nofun h
 | @ins a C dx fs ea cl ha hn htk hm =>
  cases (show u=ax a from rx);obtain ⟨mA,O,_⟩:=DK I.eV ea;obtain ⟨od,J,_⟩:=O.look;exact d0 (PySem.W.kitx_own (cl.get _) cl.hd ha hn htk hm) I.wO J e nofun h
end
structure hZ (k:Nat) (A:dM):Prop where
 hd:A.handled=none
 dp:A.depth+3*k+5<oV
 un:A.units+16*k+200<iM
def hZ.mono {j:Nat}(r:hZ k A) (h:j<=k):hZ j A:=⟨r.hd,by have:=r.dp;lia,by have:=r.un;lia⟩
def hZ.deeper (r:hZ (k+1) A) (env:xZ):hZ k (A.deeper env) :=
 ⟨r.hd,by have:=r.dp;show A.depth+1+3*k+5<_;lia,by have:=r.un;show A.units+3+16*k+200<_;lia⟩
def Om:(A.under (.builtin "type.__call__" ⟨.ref C::us,kw⟩)).depth=A.depth+1:=by
 first|rfl|simp [N9,Code.weight,Code.isCreation,Code.isGuard,Code.isCaller,Code.frames,Rr,guardIds]
def On:(A.under (.builtin "type.__call__" ⟨.ref C::us,kw⟩)).units=A.units+1:=by
 first|rfl|simp [N9,Code.cUnits,Code.frames,Rr]
def hZ.make (r:hZ (k+1) A) (C:ah) (us:List ai) (kw:List (bq×ai)):hZ k (A.under (.builtin "type.__call__" ⟨.ref C::us,kw⟩)) :=
 ⟨r.hd,by have:=r.dp;rw [Om];lia,by have:=r.un;rw [On];lia⟩
def hZ.depth (r:hZ k A):A.depth<oV:=by have:=r.dp;lia
def hZ.units (r:hZ k A):A.units+64<iM:=by have:=r.un;lia
def aQ:TA:=λ_ H Q=>Q [] H
def aj (ta:TE) (tr:TA):TA:=λZ H Q=>ta Z H λx H1=>tr Z H1 λxs H2=>Q (x::xs) H2
section
variable {X:Cx}{te:TE}{t:TA}
def bU:PA X [] aQ:=λ_ _ _ _ H Q I h=>rY ⟨[],H,I,.nil,h⟩
theorem aK (ha:PE X e te) (hr:PA X es t) (hs:bK (e::es) X.env=(false,fQ e X.env)::bK es X.env:=by rfl):PA X (e::es) (aj te t):=by
 intro pos pins s Z H Q I h;rw [hs]
 show aL _ _ (spliced ((false,fQ e X.env)::iJ pos (bK es X.env))) _ _ s
 refine mG (ia (ha pins s Z H _ I h) λu s1 ⟨x,H1,I1,r1,q1⟩=>?_)
 exact ia (hr pos pins s1 Z H1 _ I1 q1) λus s2 ⟨xs,H2,I2,r2,q2⟩=>⟨x::xs,H2,I2,.cons r1 r2,q2⟩
def lZ (t:TA):TE:=λZ H Q=>t Z H λxs H1=>xs.length<=aX/\∀ p,H1 p=none->Q (.ref p) (upd H1 p (.tup xs))
def l8 (t:TA):TE:=λZ H Q=>t Z H λxs H1=>xs.length<=aX/\∀ p,H1 p=none->Q (.ref p) (upd H1 p (.lst xs))
theorem UJ {x1} (h:PA X es t):PE X (.Tuple es x1 pos) (lZ t):=by
 intro pins s Z H Q I hq;refine wpAny_Tuple_spliced (ia (h pos pins s Z H _ I hq) λus s1 ⟨xs,H1,I1,r,z,q⟩=>⟨by rw [← r.length];exact z,?_⟩);have hf:H1 s1.heap.objs.size=none:=I1.eV.fresh (aB _);refine ⟨.ref s1.heap.objs.size,upd H1 s1.heap.objs.size (.tup xs),I1.laid (t':=s1.toks) (λb u e=>ao _ e) (aB _) ?_,rfl,q _ hf⟩;exact ⟨z,us,r,⟨_,aI _ rfl,rfl,_,rfl⟩⟩
theorem qB (h:PA X es t):PE X (.List es pos) (l8 t):=by
 intro pins s Z H Q I hq;refine wpAny_List_spliced (ia (h pos pins s Z H _ I hq) λus s1 ⟨xs,H1,I1,r,z,q⟩=>⟨by rw [← r.length];exact z,?_⟩);have hf:H1 s1.heap.objs.size=none:=I1.eV.fresh (aB _);refine ⟨.ref s1.heap.objs.size,upd H1 s1.heap.objs.size (.lst xs),I1.laid (t':=s1.toks) (λb u e=>ao _ e) (aB _) ?_,rfl,q _ hf⟩;exact ⟨z,us,0,r,aI _ rfl⟩
end
abbrev Sp:=List V->Hp->VK->XK->Prop
abbrev Jz:=List xZ->Hp->ay->XK->ai->ay->Prop
structure NH (P:bQ) (w:cU) (K:aa) (mg:bq->Option ai) (base:cJ) (A:dM) (outer:List xZ) (s:ay) (H:Hp):Prop where
 frames:A.frames=some outer
 mod:Mod K mg base
 bs:∀ b o,base.get? b=some o->s.heap.get? b=some o/\H b=none
 N0:base.objs.size<=s.heap.objs.size
 sT:s.heap.FunFrames base outer
 Re:∀ b∈vK outer,H b=none
 eV:tI P w H s.heap
 bare:v7 s.gens
def CE (outer:List xZ) (P:bQ) (w:cU) (H:Hp) (s:ay) (Q:VK) (u:ai) (s':ay):Prop :=
 ∃ v H',s'.os=s.os/\v7 s'.gens/\Un (vK outer) [] H H' s.heap s'.heap/\tI P w H' s'.heap/\RelV v u/\Q v H'
def CR (CX:Jz) (outer:List xZ) (P:bQ) (w:cU) (H:Hp) (s:ay) (Q:VK) (E:XK) (r:Tv) (s':ay):Prop :=
 match r with
 | .ok (.ret u)=>CE outer P w H s Q u s'
 | .ok _=>False
 | .error e=>CX outer H s E e s'
structure gN (P:bQ) (w:cU) (K:aa) (mg:bq->Option ai) (base:cJ) (CX:Jz) (k:Nat) (f:ah) (fd:fM) (ps:List bq) (sp:Sp):Prop where
 len:∀ vs H Q E,sp vs H Q E->vs.length=ps.length
 run:∀ (A:dM) (outer:List xZ) (s:ay) (H:Hp) (args:Args) (us:List ai) (vs:List V) (Q:VK) (E:XK),hZ k A->NH P w K mg base A outer s H->DT s fd args (ps.zip us)->Vals vs us->sp vs H Q E ->
  kD (aU P w) A (.call (.ref f) args) (CR CX outer P w H s Q E) s
theorem NH.make {H:Hp}(e:NH P w K mg base A outer s H) (C:ah) (us:List ai) (kw:List (bq×ai)) :
  NH P w K mg base (A.under (.builtin "type.__call__" ⟨.ref C::us,kw⟩)) outer s H:=⟨by first|exact e.frames|(simpa [N9,Code.envs,Rr,pushEnvs] using e.frames),e.mod,e.bs,e.N0,e.sT,e.Re,e.eV,e.bare⟩
section
variable {X:Cx}{Z:St}{H:Hp}
def Inv.abL (I:Inv X pins Z H s):NH X.prog X.w X.K X.mg X.base X.A X.stack s H :=
 ⟨I.ok.frames,I.ok.mod,I.bs,bF I.ok.N0 I.sz,I.stack,I.DQ,I.eV,I.bare⟩
theorem Inv.after {Q:VK}(I:Inv X pins Z H s) (h:CE X.stack X.prog X.w H s Q u s'):EP X pins Z Q u s':=by
 obtain ⟨v,H',os,bare,un,eV,r,q⟩:=h;obtain ⟨hh,g,d,t,os'⟩:=s';obtain rfl:os'=s.os:=os;exact ⟨v,H',I.call (h':=hh) (g':=g) (d':=d) (t':=t) (ch:=[]) un eV bare (λb z=>absurd z (by simp)),r,q⟩
end
def bX (sp:Sp) (dvs:List V) (E:XK) (t:TA):TE:=λZ H Q=>t Z H λvs H1=>sp (vs++dvs) H1 Q E
def dP (C:ah) (m:bq) (sp:Sp) (dvs:List V) (E:XK) (ta:TE) (t:TA):TE:=λZ H Q=>ta Z H λx H1=>∃ a dx fs,x=.ref a/\H1 a=some (.ins C dx fs)/\fs.lookup m=none /\
 t Z H1 λvs H2=>sp (x::(vs++dvs)) H2 Q E
def El (C:ah) (sp:Sp) (dvs:List V) (E:XK) (t:TA):TE:=λZ H Q=>t Z H λvs H1=>∀ x dx,H1 x=none->H1 dx=none->dx≠x ->
 sp (.ref x::(vs++dvs)) (upd (upd H1 dx (.own x)) x (.ins C dx [])) (λv H2=>v=.non/\Q (.ref x) H2) E
def Binds (K:aa) (fd:fM) (ps:List bq) (ds:List ai):Prop :=
 ∀ (s:ay) (us:List ai),K.In s.heap->(us++ds).length=ps.length->DT s fd ⟨us,[]⟩ (ps.zip (us++ds))
def Binds.all (h:∀ us:List ai,us.length=ps.length->Lh fd ⟨us,[]⟩=pure (ps.zip us)):Binds K fd ps []:=λs us _ hl=>by
 rw [mH] at hl ⊢;exact .of_eq (h us hl)
def ma (CX:Jz) (X:Cx) (E:XK):Prop:=∀ (pins:List (ah×iW)) (Z:St) (H:Hp) (s:ay) (e:ai) (s':ay),Inv X pins Z H s->CX X.stack H s E e s'->X.xe e s'
section
variable {X:Cx}{CX:Jz}{sp:Sp}{dvs:List V}{ds:List ai}{E:XK}{o:Expr}{ta:TE}{t:TA}
theorem JA {Z:St}{H:Hp}{Q:VK}{vs:List V}(F:gN X.prog X.w X.K X.mg X.base CX k f fd ps sp) (hr:hZ k X.A) (hb:Binds X.K fd ps ds) (hd:Vals dvs ds) (hx:ma CX X E)
  (I:Inv X pins Z H s) (r:Vals vs us) (h:sp (vs++dvs) H Q E):aL (aU X.prog X.w) X.A (call (.ref f) us) (EP X pins Z Q) X.xe s:=by
 have r2:Vals (vs++dvs) (us++ds):=r.append hd
 have hl:(us++ds).length=ps.length:=by rw [← r2.length];exact F.len _ _ _ _ h
 refine t7 (kE (F.run X.A X.stack s H ⟨us,[]⟩ (us++ds) (vs++dvs) Q E hr I.abL (hb s us I.wO hl) r2 h) λr s' hq=>?_)
 cases r with
 | error e=>exact hx pins Z H s e s' I hq
 | ok fl =>
  cases fl with
  | ret u=>exact I.after hq
  | next=>exact c9 hq
  | brk=>exact c9 hq
  | cont=>exact c9 hq
theorem XU (F:gN X.prog X.w X.K X.mg X.base CX k f fd ps sp) (hr:hZ k X.A) (hg:Gl X x) (hm:X.mg x=some (.ref f)) (hk:dD X.K (.ref f)=true) (hb:Binds X.K fd ps ds) (hd:Vals dvs ds) (hx:ma CX X E)
  (ha:PA X (e::es) t) (hdb:(x == ("__debug__":bq))=false:=by decide) (he:bK (e::es) X.env=(false,fQ e X.env)::bK es X.env:=by rfl) (hpl:(iJ pos (bK es X.env)).any (·.1)=false:=by rfl) :
  PE X (.Call (.Name x p) (e::es) [] pos) (bX sp dvs E t):=by
 intro pins s Z H Q I h;refine fT (vU I hg hm ?_ hdb);refine lT (h₀:=X.base) I.ok.mod.YS hk (ia (ha pos pins s Z H _ I h) λus s1 ⟨vs,H1,I1,r,q⟩=>⟨I1.wO,?_⟩) he hpl;exact JA F hr hb hd hx I1 r q
theorem XX (he:PE X o ta) (c:GC X.K C) (hm:XS X.K C m f) (F:gN X.prog X.w X.K X.mg X.base CX k f fd ps sp) (hr:hZ k X.A) (hb:Binds X.K fd ps ds) (hd:Vals dvs ds) (hx:ma CX X E) (ha:PA X (e::es) t)
  (hst:bK (e::es) X.env=(false,fQ e X.env)::bK es X.env:=by rfl) (hpl:(iJ pos (bK es X.env)).any (·.1)=false:=by rfl)
  (ht:fQ (.Call (.Attribute o m apos) (e::es) [] pos) X.env=(do
   let ov ← fQ o X.env
   v8 apos.atName
   let (f,first) ← jU [ov] (yJ ov m pl)
   Tw pos f first (iJ pos (bK (e::es) X.env)) (DA pos (qQ [] X.env))):=by rfl) :
  PE X (.Call (.Attribute o m apos) (e::es) [] pos) (dP C m sp dvs E ta t):=by
 intro pins s Z H Q I h;refine vT (pl:=pl) (ia (he pins s Z H _ I h) λu s1 ⟨x,H1,I1,rx,a,dx,fs,ex,ea,l,q⟩=>?_) ht;subst ex;obtain rfl:u=ax a:=rx;refine Ej I1 ea c hm l ?_;refine lT (first:=[.ref a]) (h₀:=X.base) I.ok.mod.YS hm.kp (ia (ha pos pins s1 Z H1 _ I1 q) λus s2 ⟨vs,H2,I2,r,q2⟩=>⟨I2.wO,?_⟩) hst hpl;exact JA (us:=.ref a::us) (vs:=.ref a::vs) F hr hb hd hx I2 (.cons rfl r) q2
theorem UK (he:PE X o ta) (c:GC X.K C) (hm:XS X.K C m f) (F:gN X.prog X.w X.K X.mg X.base CX k f fd ps sp) (hr:hZ k X.A) (hb:Binds X.K fd ps ds) (hd:Vals dvs ds) (hx:ma CX X E)
  (ht:fQ (.Call (.Attribute o m apos) [] [] pos) X.env=(do
   let ov ← fQ o X.env
   v8 apos.atName
   let (f,first) ← jU [ov] (yJ ov m pl)
   Tw pos f first (iJ pos (bK [] X.env)) (DA pos (qQ [] X.env))):=by rfl) :
  PE X (.Call (.Attribute o m apos) [] [] pos) (dP C m sp dvs E ta aQ):=by
 intro pins s Z H Q I h;refine vT (pl:=pl) (ia (he pins s Z H _ I h) λu s1 ⟨x,H1,I1,rx,a,dx,fs,ex,ea,l,q⟩=>?_) ht;subst ex;obtain rfl:u=ax a:=rx;refine Ej I1 ea c hm l ?_;exact PySem.W.callWith_K0 (first:=[.ref a]) I1.wO hm.kp (JA (us:=[.ref a]) (vs:=[.ref a]) F hr hb hd hx I1 (.cons rfl .nil) q)
structure Mk (K:aa) (C f:ah):Prop where
 makes:lO K C=true
 init:bh K (.ref C) "__init__"=some (some (.ref f))
 fn:tZ K (.ref f)=true
 kp:dD K (.ref C)=true
theorem UL {Z:St}{H:Hp}{Q:VK}{vs:List V}(M:Mk X.K C f) (F:gN X.prog X.w X.K X.mg X.base CX k f fd ps sp) (hr:hZ (k+1) X.A) (hb:Binds X.K fd ps ds) (hd:Vals dvs ds)
  (hx:ma CX X E) (I:Inv X pins Z H s) (r:Vals vs us)
  (h:∀ x dx,H x=none->H dx=none->dx≠x->sp (.ref x::(vs++dvs)) (upd (upd H dx (.own x)) x (.ins C dx [])) (λv H2=>v=.non/\Q (.ref x) H2) E) :
  aL (aU X.prog X.w) X.A (call (.ref C) us) (EP X pins Z Q) X.xe s:=by
 have hq:=h (s.heap.objs.size+1) s.heap.objs.size (I.eV.fresh (ij _)) (I.eV.fresh (aB _)) (aO (lG _));have I2:=Inv.made (C:=C) I;have r2:Vals (V.ref (s.heap.objs.size+1)::(vs++dvs)) (ax (s.heap.objs.size+1)::(us++ds)):=.cons rfl (r.append hd)
 have hl:(ax (s.heap.objs.size+1)::us++ds).length=ps.length:=by
  have e:=r2.length;rw [F.len _ _ _ _ hq] at e;exact e.symm
 refine t7 (UI (f:=f) I.wO M.makes M.init (beq_iff_eq.mp M.fn) (kE (F.run _ X.stack _ _ ⟨ax (s.heap.objs.size+1)::us,[]⟩ (ax (s.heap.objs.size+1)::(us++ds)) _ _ E (hr.make C us [])
  (I2.abL.make C us []) (hb _ (ax (s.heap.objs.size+1)::us) I2.wO hl) r2 hq) λr s' hq'=>?_))
 cases r with
 | error e=>exact hx pins Z _ _ e s' I2 hq'
 | ok fl =>
  cases fl with
  | ret u =>
   obtain ⟨v,H',I3,rv,ev,q3⟩:=I2.after hq';subst ev
   exact ⟨rv,⟨V.ref (s.heap.objs.size+1),H',I3,rfl,q3⟩⟩
  | next=>exact c9 hq'
  | brk=>exact c9 hq'
  | cont=>exact c9 hq'
theorem yY (M:Mk X.K C f) (F:gN X.prog X.w X.K X.mg X.base CX k f fd ps sp) (hr:hZ (k+1) X.A) (hg:Gl X x) (hm:X.mg x=some (.ref C)) (hb:Binds X.K fd ps ds) (hd:Vals dvs ds) (hx:ma CX X E)
  (ha:PA X (e::es) t) (hdb:(x == ("__debug__":bq))=false:=by decide) (he:bK (e::es) X.env=(false,fQ e X.env)::bK es X.env:=by rfl) (hpl:(iJ pos (bK es X.env)).any (·.1)=false:=by rfl) :
  PE X (.Call (.Name x p) (e::es) [] pos) (El C sp dvs E t):=by
 intro pins s Z H Q I h;refine fT (vU I hg hm ?_ hdb);refine lT (h₀:=X.base) I.ok.mod.YS M.kp (ia (ha pos pins s Z H _ I h) λus s1 ⟨vs,H1,I1,r,q⟩=>⟨I1.wO,?_⟩) he hpl;exact UL M F hr hb hd hx I1 r q
end
section
variable {X:Cx}{CX:Jz}{ks:List bq}{sp:Sp}{E:XK}{kpos:wV}{o:Expr}{kws:List YX}{te ta:TE}{t tk:TA}{nm:Option bq}
variable {g:List ai->List ai->List ai}{gV:List V->List V->List V}
end
structure bC (N P:List bq) (sc:tX):Prop where
 kind:sc.kind=.function
 co:sc.isCoroutine=false
 gen:sc.isGenerator=false
 nd:N.Nodup
 pre:N.take P.length=P
 par:∀ x∈P,sc.names.lookup x=some .local\/sc.names.lookup x=some .cell
 abE:∀ y∈sc.names,y.2≠.free
theorem Iy:∀ {binds:List (bq×ai)}{m:bq->Option ai},(∀ v,(x,v)∉binds)->Xm kindOf binds m x=m x
 | [],_,_=>rfl
 | (n,v)::r,m,h=>by
  unfold Xm;rw [Iy λw hw=>h w (ag _ hw)]
  split
  .have:x≠n:=by rintro rfl;exact h v ar
   simp [this]
  .rfl
theorem Iz:∀ {binds:List (bq×ai)}{m:bq->Option ai},(∀ v,(x,v)∉binds)->Xn kindOf binds m x=m x
 | [],_,_=>rfl
 | (n,v)::r,m,h=>by
  unfold Xn;rw [Iz λw hw=>h w (ag _ hw)]
  split
  .rfl
  .have:x≠n:=by rintro rfl;exact h v ar
   simp [this]
theorem IA:∀ {P:List bq}{vs:List ai}{i:Nat}{m:bq->Option ai},P.Nodup->P[i]?=some x->vs[i]?=some v->kindOf x=some .local ->
  Xm kindOf (P.zip vs) m x=some v
 | [],_,_,_,_,h,_,_=>by simp at h
 | _::_,[],_,_,_,_,h,_=>by simp at h
 | p::P,w::vs,0,m,nd,h1,h2,hk=>by
  simp at h1 h2;subst h1;subst h2
  show Xm kindOf ((p,w)::P.zip vs) m p=_
  unfold Xm;rw [Iy λv hv=>(bg.mp nd).1 (wZ hv).1,if_pos hk]
  simp
 | p::P,w::vs,i+1,m,nd,h1,h2,hk=>by
  show Xm kindOf ((p,w)::P.zip vs) m x=_
  unfold Xm;exact IA (i:=i) (bg.mp nd).2 (by simpa using h1) (by simpa using h2) hk
theorem IB:∀ {P:List bq}{vs:List ai}{i:Nat}{m:bq->Option ai},P.Nodup->P[i]?=some x->vs[i]?=some v->kindOf x≠some .local ->
  Xn kindOf (P.zip vs) m x=some v
 | [],_,_,_,_,h,_,_=>by simp at h
 | _::_,[],_,_,_,_,h,_=>by simp at h
 | p::P,w::vs,0,m,nd,h1,h2,hk=>by
  simp at h1 h2;subst h1;subst h2
  show Xn kindOf ((p,w)::P.zip vs) m p=_
  unfold Xn;rw [Iz λv hv=>(bg.mp nd).1 (wZ hv).1,if_neg hk]
  simp
 | p::P,w::vs,i+1,m,nd,h1,h2,hk=>by
  show Xn kindOf ((p,w)::P.zip vs) m x=_
  unfold Xn;exact IB (i:=i) (bg.mp nd).2 (by simpa using h1) (by simpa using h2) hk
def start (N:List bq) (vs:List V):St:=vs.map some++nK (N.length-vs.length) none
def lQ (CX:Jz) (P:bQ) (w:cU) (K:aa) (mg:bq->Option ai) (base:cJ) (N:List bq) (qual:bq) (scope:tX) (f:ah) (cd:ai) (A:dM) (outer:List xZ) (s:ay) (H:Hp) (E:XK):Cx where
 prog:=P
 w:=w
 K:=K
 mg:=mg
 base:=base
 A:=A.deeper (lp qual scope s.heap.objs.size f cd)
 N:=N
 s₀:=s
 H₀:=H
 env:=lp qual scope s.heap.objs.size f cd
 outer:=outer
 stack:=lp qual scope s.heap.objs.size f cd::outer
 ex:=[]
 calm:=true
 fn:=λ_=>true
 pn:=[]
 xe:=λe s'=>aL (aU P w) (A.deeper (lp qual scope s.heap.objs.size f cd)) (leaving (lp qual scope s.heap.objs.size f cd) e) (λ_ s''=>CX outer H s E e s'') (λe' s''=>CX outer H s E e' s'') s'
def LO {sc:tX}(h:sc.names.lookup x=some .cell):∃ c,(Xo n sc.names []).lookup x=some c:=by
 have q:=t8 sc.names n [] (.inl h);exact rZ.mp q
theorem IC {CX:Jz}{cd:ai}{s1:ay}{H:Hp}{E:XK}{vs:List V}
  (S:bC N ps scope) (hd:A.handled=none) (e0:NH P w K mg base A outer s H) (hl:vs.length=ps.length) (r:Vals vs us)
  (x:InCallC s s.heap.objs.size (Xm (lp qual scope s.heap.objs.size f cd).kindOf (ps.zip us) λ_=>none) (Xo (s.heap.objs.size+1) scope.names []) (Xn (lp qual scope s.heap.objs.size f cd).kindOf (ps.zip us) λ_=>none) s1) :
  Inv (lQ CX P w K mg base N qual scope f cd A outer s H E) [] (start N vs) H s1:=by
 have hpl:ps.length<=N.length:=by have:=congrArg eW S.pre;rw [bO] at this;lia
 obtain ⟨h1,tk,rfl,hk⟩:=x.done;have noA:∀ b:ah,b∉(lQ CX P w K mg base N qual scope f cd A outer s H E).ex:=λb z=>absurd (show b∈([]:List ah) from z) (by simp)
 refine ⟨⟨e0.mod,S.kind,rfl,rfl,aB _,λy z c h1 h2=>?_,λy hy=>?_,λy c _ h=>?_,λ_=>hd,Rt e0.frames,.inr ⟨rfl,rfl⟩,λb z=>absurd z (noA b),e0.bs,e0.N0,λb _ _=>noA b,λb z=>absurd z (noA b),e0.sT,e0.Re⟩,
  rfl,e0.bare,Un.kept hk,⟨_,x.toInCall.ns,λi y v h1 h2 h3=>?_⟩,λy c h=>⟨_,x.cell y c h⟩,e0.eV.fresh (aB _),λy c h=>?_,λp hp=>absurd (show p∈([]:List (ah×iW)) from hp) (by simp),e0.eV.kept hk,?_⟩
 .exact name_of_addr x.apart (lH h1) (lH h2)
 .have hy:scope.names.lookup y=some .cell\/scope.names.lookup y=some .free:=hy
  rcases hy with hy|hy
  .exact LO hy
  .exact absurd rfl (S.abE _ (lH hy))
 .exact i8 (x.above y c (lH h))
 .have hi:i<vs.length:=by
   unfold start at h2
   by_cases hi:i<vs.length
   .exact hi
   .rw [eX (by simpa using hi)] at h2;rw [P0] at h2
    split at h2<;>cases h2
  have ha:vs[i]?=some v:=by
   unfold start at h2;rw [gO (by simpa using hi),aG] at h2
   cases e:vs[i]? with
   | none=>rw [e] at h2;cases h2
   | some a=>rw [e] at h2;cases h2;rfl
  obtain ⟨u,hu,rv⟩:=r.get ha
  have hp:ps[i]?=some y:=by
   rw [← S.pre,List.getElem?_take_of_lt (by lia)];exact h1
  have ndP:ps.Nodup:=by rw [← S.pre];exact S.nd.sublist (DU _ _)
  refine ⟨u,rv,?_⟩
  rcases S.par y (aM hp) with k|k
  .exact .inl ⟨k,IA ndP hp hu k⟩
  .obtain ⟨c,e⟩:=LO (n:=s.heap.objs.size+1) k;refine .inr ⟨.inl k,c,e,?_⟩;have q:=x.cell y c e;rw [IB ndP hp hu (by show scope.names.lookup y≠_;rw [k];decide)] at q;exact q
 .exact e0.eV.fresh (i8 (x.above y c (lH h)))
 .unfold start
  show _=N.length
  rw [br,af,ya];lia
theorem UM {CX:Jz}{params:tJ}{dV kV doc pm jo ct oc:ai}{an od:Option ah}
  {osl:Array (Option ai)}{N ps:List bq}{sp:Sp}(lk:K.lookup f=some ⟨oc,od,.func (gU name qual params body scope dV kV doc pm an jo ct),osl⟩) (hcd:mR K jo qual=true) (S:bC N ps scope)
  (len:∀ vs H Q E,sp vs H Q E->vs.length=ps.length)
  (hbody:∀ (A:dM) (outer:List xZ) (s:ay) (H:Hp) (vs:List V) (Q:VK) (E:XK),hZ k (A.deeper (lp qual scope s.heap.objs.size f jo))->sp vs H Q E ->
   ∃ t,Ih (lQ CX P w K mg base N qual scope f jo A outer s H E) body t/\t { nx:=λ_ H'=>Q .non H',rt:=Q } (start N vs) H) :
  gN P w K mg base CX (k+1) f (gU name qual params body scope dV kV doc pm an jo ct) ps sp:=by
 refine ⟨len,λA outer s H args us vs Q E hr e0 hb r hsp=>?_⟩;have hl:=len _ _ _ _ hsp;have KX:K.In s.heap:=e0.mod.YS.keeps λb o e=>(e0.bs b o e).1;have lim:s.heap.NoLimit:=e0.mod.nolimit.keeps λb o e=>(e0.bs b o e).1
 have hkind:∀ y∈ps.zip us,scope.names.lookup y.1=some .local\/(scope.names.lookup y.1=some .cell/\((Xo (s.heap.objs.size+1) scope.names []).lookup y.1).isSome=true):=λ⟨n,v⟩ hy=>by
  rcases S.par n (wZ hy).1 with q|q
  .exact .inl q
  .exact .inr ⟨q,t8 _ _ _ (.inl q)⟩
 refine aac hr.depth (KX _ _ lk) rfl S.co S.gen rfl (Tx KX hcd) (hb _ _ _ _ ?_);refine Tz S.kind hkind λenv he s1 x=>?_;subst he;refine ⟨lim.keeps x.toInCall.keep,codeAny_func ?_⟩;obtain ⟨t,ht,hq⟩:=hbody A outer s H vs Q E (hr.deeper _) hsp;have I:Inv (lQ CX P w K mg base N qual scope f jo A outer s H E) [] (start N vs) H s1:=IC S hr.hd e0 hl r x;refine eJ (ht [] s1 (start N vs) H _ I hq) (λfl s' hs=>?_) λe s' hs=>hs
 have fin:∀ {σ':St}{H':Hp}{v:V}{u:ai},Inv (lQ CX P w K mg base N qual scope f jo A outer s H E) [] σ' H' s'->RelV v u->Q v H'->CE outer P w H s Q u s' :=
  λ{σ' H' v u} J rv q=>⟨v,H',J.os,J.bare,J.base,J.eV,rv,q⟩
 cases fl with
 | ret u =>
  obtain ⟨v,σ',H',J,rv,q⟩:=hs
  exact fin J rv q
 | next =>
  obtain ⟨σ',H',J,q⟩:=hs
  exact fin (v:=V.non) (u:=cu) J rfl q
 | brk =>
  obtain ⟨_,_,_,q⟩:=hs
  exact c9 q
 | cont =>
  obtain ⟨_,_,_,q⟩:=hs;exact c9 q
section
variable {X:Cx}{t:TA}{id T:String}{r:List V->Hp->VK->Prop}
def qC (r:List V->Hp->VK->Prop) (t:TA):TE:=λZ H Q=>t Z H λvs H1=>r vs H1 Q
theorem gA (hc:oI X (.builtin id) r) (hg:Gl X x) (hm:X.mg x=none) (hv:dO x=some (.builtin id)) (ha:PA X (e::es) t) (hn:x≠"__name__":=by decide) (hdb:(x == ("__debug__":bq))=false:=by decide)
  (he:bK (e::es) X.env=(false,fQ e X.env)::bK es X.env:=by rfl) (hpl:(iJ pos (bK es X.env)).any (·.1)=false:=by rfl):PE X (.Call (.Name x p) (e::es) [] pos) (qC r t):=by
 intro pins s Z H Q I h;refine fT (sd I hg hm hv ?_ hn hdb);exact yS (ia (ha pos pins s Z H _ I h) λus s1 ⟨vs,H1,I1,r1,q1⟩=>hc pins s1 Z H1 vs us Q I1 r1 q1) he hpl
end
end L2
namespace HT
open PySem PyProof.Rows
def lexLt:List Int->List Int->Bool
 | [],[]=>false
 | [],_::_=>true
 | _::_,[]=>false
 | x::xs,y::ys=>if x=y then lexLt xs ys else decide (x<y)
def Em (x y:Int) (xs ys:List Int):lexLt (x::xs) (y::ys)=if x=y then lexLt xs ys else decide (x<y):=rfl
def GK:lexLt [] []=false:=rfl
def En (y:Int) (ys:List Int):lexLt [] (y::ys)=true:=rfl
def Eo (x:Int) (xs:List Int):lexLt (x::xs) []=false:=rfl
def UN (A:dM) (s:ay) (a:Int) (t:Z9) (c:Int) (u:Z9):∃ e,SeqAt.EqAt A s (.int a t) (.int c u) e/\(e=true↔a=c) :=
 ⟨(a == c),gC a t c u,by simp⟩
theorem UO (A:dM) (s:ay) (a:Int) (t:Z9) (c:Int) (u:Z9) (prog:bQ) (w:cU) (E:ai->ay->Prop) (Q:ai->ay->Prop) (h:Q (.bool (decide (a<c))) s) :
  aL (aU prog w) A (richCompare .Lt (.int a t) (.int c u)) Q E s :=
 (Rp h:aL (aU prog w) A (dG .Lt (.int a t) (.int c u)) Q E s)
section
open PySem.SeqAt
open PySem.AutoSeq1 (wpAny_loadPart')
open PySem.MeetsSeq PySem.MeetsSeq2 PySem.MeetsSeq3
theorem GL (l b:ah) (items items2:Array ai) (n n2:Nat) (dd dd2:Option ah) (sl sl2:Array (Option ai)) (ns ms:List Int) (hi:gP items.toList ns) (hj:gP items2.toList ms) :
  Meets (jV.«tuple.__lt__» ⟨[.ref l,.ref b],[]⟩)
   (λ_ R s=>s.heap.get? l=some { cls:=.type "tuple",dict:=dd,data:=.seq items n,slots:=sl }/\s.heap.get? b=some { cls:=.type "tuple",dict:=dd2,data:=.seq items2 n2,slots:=sl2 } /\
    R (.ok (.ret (.bool (lexLt ns ms)))) s) :=
 .of_wp λprog w A R s h=>by
  obtain ⟨hp,g,d,tk,os⟩:=s;obtain ⟨hl,hb,h⟩:=h;have f2:=AutoSeq1.sub_tuple_tuple
  have z1:items.size=ns.length:=by rw [← hi.length];simp
  have z2:items2.size=ms.length:=by rw [← hj.length];simp
  wp_walk using wpAny_loadPart' hl,wpAny_loadPart' hb,wpAny_forIn_list _ (λrest b s'=>b.1=none/\s'=⟨hp,g,d,tk,os⟩/\∃ (vs ws:List ai) (ns' ms':List Int),rest=vs.zip ws /\
   gP vs ns'/\gP ws ms'/\ns'.length+items2.size=ms'.length+items.size/\R (.ok (.ret (.bool (lexLt ns' ms')))) ⟨hp,g,d,tk,os⟩) _
  case turn =>
   rintro ⟨y,x⟩ rest b s' ⟨hb',rfl,vs,ws,ns',ms',hz,hvi,hwi,hlen,hR⟩
   cases hvi with
   | nil=>rw [List.zip_nil_left] at hz;cases hz
   | cons a t hvi' =>
    cases hwi with
    | nil=>rw [List.zip_nil_right] at hz;cases hz
    | cons c u hwi' =>
     rw [jW] at hz
     injection hz with hyx hrest
     injection hyx with hy hx
     subst hy hx;rw [Em] at hR;simp only [b8] at hlen;obtain ⟨e,he,hiff⟩:=UN A.in1 ⟨hp,g,d,tk,os⟩ a t c u;refine ae (he prog w _ _ ?_)
     cases e with
     | true =>
      rw [if_pos (hiff.mp rfl)] at hR
      wp_walk
      exact ⟨rfl,rfl,_,_,_,_,hrest,hvi',hwi',by lia,hR⟩
     | false =>
      rw [if_neg (λq=>absurd (hiff.mpr q) bI)] at hR;have hri:=UO A.in1 ⟨hp,g,d,tk,os⟩ a t c u prog w
      wp_walk using hri
      exact ⟨_,rfl,by simpa using hR⟩
  case fin =>
   rintro ⟨b1,b2⟩ s' ⟨hb',rfl,vs,ws,ns',ms',hz,hvi,hwi,hlen,hR⟩;simp only at hb';subst hb'
   have hv:lexLt ns' ms'=decide (items.size<items2.size):=by
    cases hvi with
    | nil =>
     cases hwi with
     | nil =>
      simp only [pX] at hlen;rw [GK]
      exact (decide_eq_false (by lia)).symm
     | cons c u hw =>
      simp only [pX,b8] at hlen;rw [En]
      exact (decide_eq_true (by lia)).symm
    | cons a t hv =>
     cases hwi with
     | nil =>
      simp only [pX,b8] at hlen;rw [Eo]
      exact (decide_eq_false (by lia)).symm
     | cons c u hw =>
      rw [jW] at hz;cases hz
   rw [hv] at hR
   wp_walk
   exact ⟨_,rfl,by simpa [Builtin.Tuple.tupleCompareSizes] using hR⟩
  case h =>
   exact ⟨rfl,rfl,items.toList,items2.toList,ns,ms,rfl,hi,hj,by lia,h⟩
end
section
variable {prog:bQ}{w:cU}{A:dM}{E:ai->ay->Prop}{s:ay}
theorem Oo {l b:ah}{items items2:Array ai}{ns ms:List Int}{Q:ai->ay->Prop}(hl:nv s.heap l items) (hb:nv s.heap b items2) (hi:gP items.toList ns) (hj:gP items2.toList ms)
  (hu:A.units<iM) (h:Q (.bool (lexLt ns ms)) s):aL (aU prog w) A (dG .Lt (.ref l) (.ref b)) Q E s:=by
 obtain ⟨⟨cls,dd,data,sl⟩,ho,hc,n,hd⟩:=id hl;obtain ⟨⟨cls2,dd2,data2,sl2⟩,ho2,hc2,n2,hd2⟩:=id hb;simp only at hc hd hc2 hd2;subst hc hd hc2 hd2
 exact richCompare_meets_room (op:=.Lt) ⟨_,ho,rfl⟩ ⟨_,ho2,rfl⟩ PySem.F.slot_tuple_lt PySem.F.entry_tuple_lt (PySem.F.args_tuple_lt_2 _ _) (GL l b items items2 n n2 dd dd2 sl sl2 ns ms hi hj)
  ⟨ho,ho2,show vS (lexLt ns ms)≠Value.notImplemented/\Q (.bool (lexLt ns ms)) s from ⟨nofun,h⟩⟩ hu
def Lw (n d:Nat):Option Int->Nat
 | none=>d
 | some v=>if v<0 then (v+(n:Int)).toNat else min v.toNat n
def LP (n d:Nat):Lw n d none=d:=rfl
def XY (n d k:Nat):Lw n d (some (k:Int))=min k n:=by
 show (if (k:Int)<0 then ((k:Int)+(n:Int)).toNat else min (k:Int).toNat n)=min k n
 rw [if_neg (by lia),iz]
end
end HT
namespace L2
variable {H H':Hp}{X:Cx}{s:ay}{pins:List (ah×iW)}{Z:St}{a b p:ah}{w:cU}{A:dM}{E Q:ai->ay->Prop}{xs ys:List V}{P:bQ}{u:ai}{n t' j:Nat}{o:Option V}{y x v:V}{e:Expr}{pos apos cpos:wV}{its us its':List ai}{i:Int}{r:R2}{T:String}{h':cJ}
abbrev TO:=St->Hp->(Option Int->Hp->Prop)->Prop
def PO (X:Cx) (e:Option Expr) (t:TO):Prop :=
 ∀ (pins:List (ah×iW)) (s:ay) (Z:St) (H:Hp) (Q:Option Int->Hp->Prop),Inv X pins Z H s->t Z H Q ->
  aL (aU X.prog X.w) X.A (evalPart e X.env) (λu s'=>∃ o H',Inv X pins Z H' s'/\IsPart u o/\Q o H') X.xe s
def md:TO:=λ_ H Q=>Q none H
def nQ (t:TE):TO:=λZ H Q=>t Z H λx H1=>∃ i,x=.int i/\Q (some i) H1
theorem intsAre_of {ns:List Int}:∀ {us:List ai},Vals (ns.map V.int) us->gP us ns:=by
 induction ns with
 | nil=>intro us r;rw [Ru] at r;cases r;exact .nil
 | cons n ns ih =>
  intro us r;rw [cn] at r
  cases r with
  | cons r1 r2 =>
   obtain ⟨t,e⟩:=r1;subst e;exact .cons n t (ih r2)
section
variable {te:TE}{lo hi:Option Expr}{tl th:TO}{p2:wV}
def Qk:PO X none md:=by
 intro pins s Z H Q I h;rw [GE];exact au ⟨none,H,I,.none,h⟩
def Ql (h:PE X e te):PO X (some e) (nQ te):=by
 intro pins s Z H Q I hw;rw [W7];refine ia (h pins s Z H _ I hw) λu s1 ⟨x,H1,I1,r1,q1⟩=>?_;obtain ⟨i,rfl,q⟩:=q1;obtain ⟨t,rfl⟩:=r1;exact ⟨some i,H1,I1,.int i t,q⟩
def SlR (X:Cx) (r:V->Option Int->Option Int->Hp->VK->Prop):Prop :=
 ∀ (pins:List (ah×iW)) (s:ay) (Z:St) (H:Hp) (x:V) (v vl vu:ai) (lo hi:Option Int) (sl:ah) (Q:VK),Inv X pins Z H s->RelV x v->s.heap.IsSliceOf sl vl vu .none->IsPart vl lo->IsPart vu hi->r x lo hi H Q ->
  ∃ T id,Il (.type T) "__getitem__"=pure (some (.builtin id))/\s.TypeIs v T/\aL (aU X.prog X.w) X.A (getItem v (.ref sl)) (EP X pins Z Q) X.xe s
def Qm (r:V->Option Int->Option Int->Hp->VK->Prop) (te:TE) (tl th:TO):TE:=λZ H Q=>te Z H λx H1=>tl Z H1 λl H2=>th Z H2 λu H3=>r x l u H3 Q
theorem LQ {r:V->Option Int->Option Int->Hp->VK->Prop}(hr:SlR X r) (he:PE X e te) (hl:PO X lo tl) (hu:PO X hi th):PE X (.Subscript e (.Slice lo hi none p2) pos) (Qm r te tl th):=by
 intro pins s Z H Q I h;refine Im (ia (he pins s Z H _ I h) λv s1 ⟨x,H1,I1,r1,q1⟩=>?_);refine wpAny_Slice (ia (hl pins s1 Z H1 _ I1 q1) λvl s2 ⟨l,H2,I2,pl,q2⟩=>ia (hu pins s2 Z H2 _ I2 q2) λvu s3 ⟨u,H3,I3,pu,q3⟩=>?_);rw [GE];refine au ?_;have I4:Inv X pins Z H3 { s3 with heap:=s3.heap.push { cls:=.type "slice",data:=.fields #[vl,vu,.none] } }:=I3.kept (t':=s3.toks) λb ob q=>ao _ q;obtain ⟨T,id,hT,ht,hg⟩:=hr pins { s3 with heap:=s3.heap.push { cls:=.type "slice",data:=.fields #[vl,vu,.none] } } Z H3 x v vl vu l u s3.heap.objs.size Q I4 r1 (ug ..) pl pu q3
 show aL (aU X.prog X.w) X.A (GF e (.Slice lo hi none p2) v (.ref s3.heap.objs.size)) (EP X pins Z Q) X.xe { s3 with heap:=s3.heap.push { cls:=.type "slice",data:=.fields #[vl,vu,.none] } }
 exact TB (ops:=[.ref s3.heap.objs.size,v]) ht hT hg (by with_unfolding_all rfl)
def Ep (xs:List V) (lo hi:Option Int):List V:=(xs.drop (HT.Lw xs.length 0 lo)).take (HT.Lw xs.length xs.length hi-HT.Lw xs.length 0 lo)
def LR (xs:List V) (lo hi:Option Int):(Ep xs lo hi).length<=xs.length:=by
 unfold Ep;rw [bO,dJ];lia
end
def RT (n:Nat) (i:Int):Option Nat:=if 0<=i then (if i<n then some i.toNat else none) else if -(n:Int)<=i then some (i+n).toNat else none
def RU {α:Type} (xs:List α) (i:Int):Option α:=(RT xs.length i).bind λj=>xs[j]?
theorem Qn (h:RT n i=some j):seqIndex? i n=some j/\j<n/\-(n:Int)<=i/\i<n:=by
 unfold RT at h
 by_cases h0:0<=i
 .rw [if_pos h0] at h
  by_cases h1:i<n
  .rw [if_pos h1] at h;have e:i.toNat=j:=aV h;exact ⟨by rw [seqIndex_of h0 h1,e],by lia,by lia,h1⟩
  .rw [if_neg h1] at h;cases h
 .rw [if_neg h0] at h
  by_cases h1:-(n:Int)<=i
  .rw [if_pos h1] at h;have e:(i+n).toNat=j:=aV h;exact ⟨by rw [seqIndex_neg (by lia) h1,e],by lia,h1,by lia⟩
  .rw [if_neg h1] at h;cases h
theorem Qo {α:Type} {xs:List α}{v:α}(h:RU xs i=some v):∃ j,seqIndex? i xs.length=some j/\xs[j]?=some v/\j<xs.length/\-(xs.length:Int)<=i/\i<xs.length:=by
 unfold RU at h
 cases e:RT xs.length i with
 | none=>rw [e] at h;cases h
 | some j =>
  rw [e] at h;obtain ⟨h1,h2,h3,h4⟩:=Qn e;exact ⟨j,h1,h,h2,h3,h4⟩
theorem XZ {α:Type} {xs:List α}{v:α}(h:xs[j]?=some v):RU xs (j:Int)=some v:=by
 have hj:j<xs.length:=(av.mp h).1
 have e:RT xs.length (j:Int)=some j:=by
  unfold RT;rw [if_pos (by lia),if_pos (by lia)];simp
 unfold RU;rw [e];exact h
theorem UP {α:Type} (xs:List α) (v:α):RU (xs++[v]) (-1)=some v:=by
 have hl:(xs++[v]).length=xs.length+1:=by simp
 have e:RT (xs++[v]).length (-1)=some xs.length:=by
  unfold RT;rw [hl,if_neg (by decide),if_pos (by lia)]
  congr 1
  lia
 unfold RU;rw [e]
 show (xs++[v])[xs.length]?=some v
 simp
def X0 (b:Expr):Prop:=∀ o i,subscripted b false o i=operate [o,i] (getItem o i)
def YM (X:Cx) (r:R2):Prop :=
 ∀ (value slice:Expr) (pins:List (ah×iW)) (s:ay) (Z:St) (H:Hp) (x y:V) (v u:ai) (Q:VK),Inv X pins Z H s->RelV x v->RelV y u->r x y H Q ->
  subscripted slice false v u=operate [v,u] (getItem v u)->aL (aU X.prog X.w) X.A (GF value slice v u) (EP X pins Z Q) X.xe s
def MtR (X:Cx) (id:String) (r:V->List V->Hp->VK->Prop):Prop :=
 ∀ (pins:List (ah×iW)) (s:ay) (Z:St) (H:Hp) (x:V) (xs:List V) (v:ai) (us:List ai) (Q:VK),Inv X pins Z H s->RelV x v->Vals xs us->r x xs H Q ->
  aL (aU X.prog X.w) X.A (call (.builtin id) (v::us)) (EP X pins Z Q) X.xe s
section
variable {a b:Expr}{ta tb:TE}
theorem YM.or {r':R2}(h:YM X r) (h':YM X r'):YM X (λx y H Q=>r x y H Q\/r' x y H Q):=by
 intro value slice pins s Z H x y v u Q I rx ry q hs
 rcases q with q|q
 .exact h value slice pins s Z H x y v u Q I rx ry q hs
 .exact h' value slice pins s Z H x y v u Q I rx ry q hs
theorem qU (hr:YM X r) (ha:PE X a ta) (hb:PE X b tb) (hs:X0 b):PE X (.Subscript a b pos) (dt r ta tb):=by
 intro pins s Z H Q I h;exact Im (aaz ha hb I h λv u s2 x y H2 I2 rx ry q=>hr a b pins s2 Z H2 x y v u Q I2 rx ry q (hs _ _))
def rIxL (K:aa):R2:=λx y H Q=>∃ p xs i v,x=.ref p/\y=.int i/\dh K H p xs/\RU xs i=some v/\Q v H
def rIxT (K:aa):R2:=λx y H Q=>∃ p xs i v,x=.ref p/\y=.int i/\mX K H p xs/\RU xs i=some v/\Q v H
theorem X1:YM X (rIxL X.K):=by
 intro value slice pins s Z H x y v u Q I rx ry h hs;obtain ⟨p,xs,i,z,rfl,rfl,hq,he,q⟩:=h;cases rx;obtain ⟨t,rfl⟩:=ry;obtain ⟨its,r,pl,hz⟩:=I.list hq;obtain ⟨j,h1,h2,h3,h4,h5⟩:=Qo he;obtain ⟨w,ew,rw'⟩:=r.get h2;have hl:=r.length;have hn:=yf
 have fin:EP X pins Z Q w s:=⟨z,H,I,rw',q⟩
 by_cases h0:0<=i
 .have hj:i.toNat=j:=by
   rw [seqIndex_of h0 h5] at h1;exact aV h1
  exact item_listR pl.isList h0 (by lia) (by rw [hj];simpa using ew) fin hs
 .have hj:(i+(its.toArray.size:Int)).toNat=j:=by
   rw [seqIndex_neg (by lia) h4] at h1;rw [aN,← hl];exact aV h1
  exact YY (x:=w) pl.isList.typeIs we.lookup
   (wpAny_getItem_list_neg (Q:=λr s'=>r=w/\EP X pins Z Q r s') pl.isList (by lia) (by rw [aN]<;>lia) (by lia) (by rw [hj];simpa using ew) ⟨rfl,fin⟩) hs
theorem aaE:YM X (rIxT X.K):=by
 intro value slice pins s Z H x y v u Q I rx ry h hs;obtain ⟨p,xs,i,z,rfl,rfl,hq,he,q⟩:=h;cases rx;obtain ⟨t,rfl⟩:=ry;obtain ⟨its,r,pl,hz⟩:=I.tuple hq;obtain ⟨j,h1,h2,h3,h4,h5⟩:=Qo he;obtain ⟨w,ew,rw'⟩:=r.get h2;have hl:=r.length;have hn:=yf
 have fin:EP X pins Z Q w s:=⟨z,H,I,rw',q⟩
 exact YY (x:=w) pl.typeIs slot_tuple_getitem.lookup
  (getItem_tuple (j:=j) (Q:=λr s'=>r=w/\EP X pins Z Q r s') pl (by lia) (by lia) (by rw [aN,← hl];exact h1) (by simpa using ew) ⟨rfl,fin⟩) hs
def Oq (its:List ai) (n j:Nat) (u:ai):bB (·.setIfInBounds j u) { cls:=.type "list",data:=.seq its.toArray n }={ cls:=.type "list",data:=.seq (its.set j u).toArray n }:=by
 simp [bB]
theorem Inv.lst (I:Inv X pins Z H s) (h:H p=some (.lst xs)) :
  ∃ (its:List ai) (n:Nat),Vals xs its/\s.heap.get? p=some { cls:=.type "list",data:=.seq its.toArray n }/\xs.length<=aX:=by
 obtain ⟨z,its,n,r,e⟩:=I.eV p _ h;exact ⟨its,n,r,e,z⟩
theorem Inv.abA {n':Nat}{f:iW->iW}(I:Inv X pins Z H s) (h:H p=some (.lst xs))
  (ho:s.heap.get? p=some { cls:=.type "list",data:=.seq its.toArray n }) (hf:f { cls:=.type "list",data:=.seq its.toArray n }={ cls:=.type "list",data:=.seq its'.toArray n' }) (r:Vals ys its') (hz:ys.length<=aX) (t:Nat) :
  Inv X pins Z (upd H p (.lst ys)) { s with heap:=s.heap.update p f,toks:=t }:=by
 have e:(s.heap.update p f).get? p=some { cls:=.type "list",data:=.seq its'.toArray n' }:=by
  rw [bT f ho (by rw [hf]<;>rfl),hf]
 refine I.write (x:=p) (e:=p) (by rw [h];trivial) (.inl rfl) (λb u hb q=>(bW _ _ (Ne.symm hb)).trans q) ⟨_,e⟩ ?_;exact ⟨hz,its',n',r,e⟩
def Zh:V->V->V->Hp->(Hp->Prop)->Prop:=λo i v H Q=>∃ p xs k j,o=.ref p/\i=.int k/\H p=some (.lst xs)/\RT xs.length k=some j/\Q (upd H p (.lst (xs.set j v)))
theorem UQ:XC X Zh:=by
 intro pins s Z H o i v ov iv u Q I ro ri rv h;obtain ⟨p,xs,k,j,rfl,rfl,hp,hj,q⟩:=h;cases ro;obtain ⟨t,rfl⟩:=ri;obtain ⟨its,n,r,ho,hz⟩:=I.lst hp;obtain ⟨h1,h2,h3,h4⟩:=Qn hj;have hl:=r.length;have hn:=yf
 have I':Inv X pins Z (upd H p (.lst (xs.set j v))) { s with heap:=s.heap.update p (bB (·.setIfInBounds j u)) } :=
  I.abA hp ho (Oq its n j u) (r.set rv j) (by rw [List.length_set];exact hz) s.toks
 by_cases h0:0<=k
 .have hk:k.toNat=j:=by
   rw [seqIndex_of h0 h4] at h1;exact aV h1
  exact PySem.W.ki_setAt ho h0 (by lia) (by rw [aN,← hl];exact h4) (by rw [hk];exact ⟨_,I',q⟩)
 .have hk:(k+(its.toArray.size:Int)).toNat=j:=by
   rw [seqIndex_neg (by lia) h3] at h1;rw [aN,← hl];exact aV h1
  exact PySem.W.ki_setBack ho (by lia) (by rw [aN,← hl];exact h3) (by lia) (by rw [hk];exact ⟨_,I',q⟩)
theorem JB (lo hi:Option Int) (n:Nat):(lU lo hi none n).1=((HT.Lw n 0 lo:Nat):Int)/\(lU lo hi none n).2.1=((HT.Lw n n hi:Nat):Int)/\(lU lo hi none n).2.2=1:=by
 refine ⟨?_,?_,rfl⟩
 .cases lo with
  | none=>simp [lU,HT.Lw]
  | some i =>
   simp only [lU,HT.Lw,Xp,show (1:Int)>0 by decide,if_true]
   by_cases h:i<0
   .simp only [h,if_true]<;>lia
   .simp only [h,if_false]<;>lia
 .cases hi with
  | none=>simp [lU,HT.Lw]
  | some i =>
   simp only [lU,HT.Lw,Xp,show (1:Int)>0 by decide,if_true]
   by_cases h:i<0
   .simp only [h,if_true]<;>lia
   .simp only [h,if_false]<;>lia
theorem GM (its:List ai) (lo hi:Option Int):yK its.toArray lo hi none=((its.drop (HT.Lw its.length 0 lo)).take (HT.Lw its.length its.length hi-HT.Lw its.length 0 lo)).toArray:=by
 obtain ⟨h1,h2,h3⟩:=JB lo hi its.toArray.size;unfold yK;rw [h1,h2,h3];simp only [sliceRange_one,pick_run,aN]<;>rfl
def uq (K:aa):V->Option Int->Option Int->Hp->VK->Prop:=λx lo hi H Q=>∃ a xs,x=.ref a/\dh K H a xs/\∀ p,H p=none->Q (.ref p) (upd H p (.lst (Ep xs lo hi)))
theorem Qp:SlR X (uq X.K):=by
 intro pins s Z H x v vl vu lo hi sl Q I rx hs pl pu h;obtain ⟨a,xs,rfl,hx,q⟩:=h;cases rx;obtain ⟨its,r,ht,hz⟩:=I.list hx;have hlen:=r.length;refine ⟨"list",_,we.lookup,ht.isList.typeIs,?_⟩;refine w6 ht.isList hs pl pu .none (by simp) ?_ (by rw [aN]<;>lia);rw [GM,← hlen];refine ⟨.ref s.heap.objs.size,_,I.laid (t':=s.toks) (o:=.lst (Ep xs lo hi)) (λb ob q=>ao _ q) (aB _) ?_,rfl,q _ (I.eV.fresh (aB _))⟩;exact ⟨bF (LR xs lo hi) hz,_,0,(r.drop (HT.Lw xs.length 0 lo)).take (HT.Lw xs.length xs.length hi-HT.Lw xs.length 0 lo),aI _ rfl⟩
theorem JC:oI X (.builtin "len") (λxs H Q=>∃ p ys,xs=[.ref p]/\(dh X.K H p ys\/mX X.K H p ys)/\Q (.int ys.length) H):=by
 intro pins s Z H xs us Q I r h;obtain ⟨p,ys,rfl,hq,q⟩:=h;obtain ⟨u,rfl,rx⟩:=vals1 r;cases rx;have hn:=yf
 rcases hq with hq|hq
 .obtain ⟨its,r',pl,hz⟩:=I.list hq;have hlen:=r'.length;exact Calls.call_len_list pl.isList (by simp only [aN]<;>lia) ⟨.int ys.length,H,I.tok _,⟨s.toks+1,by rw [aN,hlen]⟩,q⟩
 .obtain ⟨its,r',pl,hz⟩:=I.tuple hq;have hlen:=r'.length;exact len_tuple pl (by simp only [aN]<;>lia) ⟨.int ys.length,H,I.tok _,⟨s.toks+1,by rw [aN,hlen]⟩,q⟩
theorem oI.or {f:ai}{r r':List V->Hp->VK->Prop}(h:oI X f r) (h':oI X f r'):oI X f (λxs H Q=>r xs H Q\/r' xs H Q):=by
 intro pins s Z H xs us Q I rs q
 rcases q with q|q
 .exact h pins s Z H xs us Q I rs q
 .exact h' pins s Z H xs us Q I rs q
def tyV (K:aa) (T:String) (x:V) (H:Hp):Prop:=match x with
 | .str _=>T="str"
 | .int _=>T="int"
 | .ref p=>(T="list"/\∃ xs,dh K H p xs)\/(T="tuple"/\∃ o,K.lookup p=some o/\o.cls=.type "tuple"/\o.dict=none) \/
   (T="dict"/\((∃ kvs,H p=some (.dK kvs))\/∃ kvs,H p=some (.dT kvs)))\/(T="set"/\∃ S n,H p=some (.set S n))
 | _=>False
theorem UR {v:ai}(I:Inv X pins Z H s) (r:RelV x v) (ty:tyV X.K T x H) :
  s.TypeIs v T/\∀ a,v=.ref a->∃ ob,s.heap.get? a=some ob/\ob.dict=none:=by
 cases x with
 | str z =>
  obtain ⟨t,rfl⟩:=r;cases (show T="str" from ty)
  exact ⟨typeIs_str s z t,λ_ e=>nomatch e⟩
 | int i =>
  obtain ⟨t,rfl⟩:=r;cases (show T="int" from ty)
  exact ⟨typeIs_int s i t,λ_ e=>nomatch e⟩
 | ref p =>
  cases r
  rcases ty with ⟨rfl,xs,hq⟩|⟨rfl,o,hk,hc,hd⟩|⟨rfl,hk⟩|⟨rfl,S,n,hk⟩
  .obtain ⟨its,_,pl,_⟩:=I.list hq;refine ⟨pl.isList.typeIs,λa e=>?_⟩;cases e;obtain ⟨o,n,e,c,hd,_⟩:=pl;exact ⟨o,e,hd⟩
  .refine ⟨⟨o,I.wO p o hk,hc⟩,λa e=>?_⟩;cases e;exact ⟨o,I.wO _ o hk,hd⟩
  .have z:∃ o,s.heap.get? p=some o/\o.ExactDict:=by
    rcases hk with ⟨kvs,hk⟩|⟨kvs,hk⟩
    .obtain ⟨_,_,_,_,o,_,_,e,ex,_⟩:=I.eV p _ hk;exact ⟨o,e,ex⟩
    .obtain ⟨_,_,_,_,o,_,_,e,ex,_⟩:=I.eV p _ hk;exact ⟨o,e,ex⟩
   obtain ⟨o,e,ex⟩:=z;refine ⟨⟨o,e,ex.1⟩,λa e2=>?_⟩;cases e2;exact ⟨o,e,ex.2.1⟩
  .obtain ⟨o,_,_,_,e,ex,_⟩:=I.eV p _ hk;refine ⟨⟨o,e,ex.1⟩,λa e2=>?_⟩;cases e2
   exact ⟨o,e,ex.2.1⟩
 | _=>exact c9 ty
def aaF (K:aa) (T:String) (r:V->List V->Hp->VK->Prop) (to:TE):TE:=λZ H Q=>to Z H λx H1=>tyV K T x H1/\r x [] H1 Q
def AQ (K:aa) (T:String) (r:V->List V->Hp->VK->Prop) (to:TE) (t:TA):TE:=λZ H Q=>to Z H λx H1=>tyV K T x H1/\t Z H1 λxs H2=>r x xs H2 Q
variable {o:Expr}{es:List Expr}{to:TE}{t:TA}{name:bq}{id:String}{r:V->List V->Hp->VK->Prop}
theorem aaG (pa:PlainAttrs T) (slot:Slot T name id) (hty:typeOf (.builtin id)=pure (.type "method_descriptor")) (hm:MtR X id r) (ho:PE X o to)
  (hbase:qy o name X.env (fQ o X.env)=fQ o X.env:=by rfl) (hline:(apos.endLine == cpos.line)=true:=by rfl):PE X (.Call (.Attribute o name apos) [] [] cpos) (aaF X.K T r to):=by
 intro pins s Z H Q I h;refine wpAny_Call_method0_late hbase hline (ia (ho pins s Z H _ I h) λv s1 ⟨x,H1,I1,r1,ty,q1⟩=>?_);obtain ⟨h1,h2⟩:=UR I1 r1 ty;exact ⟨T,id,pa,slot,hty,h1,h2,Qa rfl (PySem.evalArgs_none (hm pins s1 Z H1 x [] v [] Q I1 r1 .nil q1))⟩
theorem kX (pa:PlainAttrs T) (slot:Slot T name id) (hty:typeOf (.builtin id)=pure (.type "method_descriptor")) (hm:MtR X id r) (ho:PE X o to) (ha:PA X (e::es) t)
  (hbase:qy o name X.env (fQ o X.env)=fQ o X.env:=by rfl)
  (hfew:((iJ cpos (bK (e::es) X.env)).all (λx=>!x.1) && (DA cpos (qQ [] X.env)).all (λx=>x.1.isSome)
   && decide ((e::es).length+([]:List YX).length+(if ([]:List YX).isEmpty then 0 else 1)<30))=true:=by rfl)
  (hline:(apos.endLine == cpos.line)=true:=by rfl) (hs:bK (e::es) X.env=(false,fQ e X.env)::bK es X.env:=by rfl) (hplain:(iJ cpos (bK es X.env)).any (·.1)=false:=by rfl) :
  PE X (.Call (.Attribute o name apos) (e::es) [] cpos) (AQ X.K T r to t):=by
 intro pins s Z H Q I h;refine wpAny_Call_method_late hbase hfew hline rfl (ia (ho pins s Z H _ I h) λv s1 ⟨x,H1,I1,r1,ty,q1⟩=>?_);obtain ⟨h1,h2⟩:=UR I1 r1 ty;refine ⟨T,id,pa,slot,hty,h1,h2,?_⟩;have hA:=ha cpos pins s1 Z H1 _ I1 q1;rw [hs] at hA ⊢;refine Qa (by show (false || (iJ cpos (bK es X.env)).any (·.1))=false;rw [hplain]<;>rfl) (TC ?_);exact ia hA λus s2 ⟨vs,H2,I2,r2,q2⟩=>hm pins s2 Z H2 x vs v us Q I2 r1 r2 q2
end
def WS (X:Cx) (id:String) (r:V->List V->Hp->VK->Prop):Prop :=
 ∀ (pins:List (ah×iW)) (s:ay) (Z:St) (H:Hp) (x:V) (xs:List V) (v:ai) (us:List ai) (Q:VK),Inv X pins Z H s->RelV x v->Vals xs us->r x xs H Q ->
  aL (aU X.prog X.w) X.A (call (.builtin id) (v::us)) (EP X pins Z Q) X.xe s
def Vals.one (h:Vals [x] us):∃ u,us=[u]/\RelV x u:=by
 cases h with
 | cons r t=>cases t;exact ⟨_,rfl,r⟩
theorem Vals.zero:∀ {us:List ai},Vals [] us->us=[]
 | _,.nil=>rfl
def Vals.dropLast (h:Vals xs us):Vals xs.dropLast us.dropLast:=by
 induction h with
 | nil=>exact .nil
 | cons r t ih =>
  cases t with
  | nil=>exact .nil
  | cons q t'=>exact .cons r ih
def Vals.reverse (h:Vals xs us):Vals xs.reverse us.reverse:=by
 induction h with
 | nil=>exact .nil
 | cons r t ih=>rw [YZ,YZ];exact Vals.append ih (.cons r .nil)
theorem Os {α:Type} (l:List α):l.eraseIdx (l.length-1)=l.dropLast:=by
 induction l with
 | nil=>rfl
 | cons a r ih =>
  cases r with
  | nil=>rfl
  | cons b r =>
   have e:(a::b::r).length-1=((b::r).length-1)+1:=by
    have h1:(a::b::r).length=r.length+2:=rfl;have h2:(b::r).length=r.length+1:=rfl;lia
   rw [e,uh,ih]
   all_goals rfl
section
variable {l:ah}{zs:List V}
theorem Inv.abF {f:Array ai->Array ai}(I:Inv X pins Z H s) (hH:H l=some (.lst xs))
  (e:s.heap.get? l=some { cls:=.type "list",data:=.seq its.toArray n }) (hf:f its.toArray=its'.toArray) (hv:Vals ys its') (hz:ys.length<=aX) :
  Inv X pins Z (upd H l (.lst ys)) { s with heap:=s.heap.update l (bB f),toks:=t' }:=by
 have q:=PySem.IsL.update e f;rw [hf] at q;refine I.write (x:=l) (e:=l) (by rw [hH];exact trivial) (.inl rfl) (λb' u hb hu=>(bW s.heap (bB f) (Ne.symm hb)).trans hu) ⟨_,q⟩ ?_;exact ⟨hz,its',_,hv,q⟩
theorem Inv.lnew (I:Inv X pins Z H s) (hv:Vals ys its) (hz:ys.length<=aX) :
  Inv X pins Z (upd H s.heap.objs.size (.lst ys)) { s with heap:=s.heap.push { cls:=.type "list",data:=.seq its.toArray },toks:=t' } :=
 I.laid (λ_ _ q=>ao _ q) (aB _) ⟨hz,its,0,hv,aI _ rfl⟩
def Inv.fresh (I:Inv X pins Z H s):H s.heap.objs.size=none:=I.eV.fresh (aB _)
theorem Inv.Tb (I:Inv X pins Z H s) (hH:H l=some (.lst xs)):xs.length<=aX/\∃ (its:List ai) (n:Nat),Vals xs its/\xs.length=its.length/\s.heap.get? l=some { cls:=.type "list",data:=.seq its.toArray n }:=by
 obtain ⟨z,its,n,r,e⟩:=I.eV l _ hH;exact ⟨z,its,n,r,r.length,e⟩
def US (h:n<=aX):pY n=false:=by
 unfold pY;exact decide_eq_false (by lia)
end
def iG:V->List V->Hp->VK->Prop:=λx vs H Q=>∃ l xs y,x=.ref l/\vs=[y]/\H l=some (.lst xs)/\xs.length<aX/\Q .non (upd H l (.lst (xs++[y])))
theorem iO:WS X "list.append" iG:=by
 intro pins s Z H x vs v us Q I rx rv h;obtain ⟨l,xs,y,rfl,rfl,hH,hz,q⟩:=h;cases rx;obtain ⟨u,rfl,ru⟩:=rv.one;obtain ⟨z,its,n,r,hl,e⟩:=I.Tb hH;refine Io F.slot_list_append ⟨_,e,rfl⟩ F.entry_list_append (F.args_list_append_2 _ _) (PySem.list_append l its.toArray n u (by rw [aN];lia)) ⟨e,?_⟩;refine ⟨.non,_,I.abF (its':=its++[u]) hH e (by simp) (r.append (.cons ru .nil)) ?_,rfl,q⟩;rw [br,yb];lia
def JD:V->List V->Hp->VK->Prop:=λx vs H Q=>∃ l b xs zs,x=.ref l/\vs=[.ref b]/\H l=some (.lst xs)/\H b=some (.lst zs)/\xs.length+zs.length<=aX/\Q .non (upd H l (.lst (xs++zs)))
theorem RV:WS X "list.extend" JD:=by
 intro pins s Z H x vs v us Q I rx rv h;obtain ⟨l,b,xs,zs,rfl,rfl,hH,hB,hz,q⟩:=h;cases rx;obtain ⟨u,rfl,ru⟩:=rv.one;cases ru;obtain ⟨z,its,n,r,hl,e⟩:=I.Tb hH;obtain ⟨z2,its2,n2,r2,hl2,e2⟩:=I.Tb hB
 have hsz:its.toArray.size+its2.toArray.size<=aX:=by rw [aN,aN];lia
 have hlong:¬ (!its.toArray.isEmpty && pY (its.toArray.size+its2.toArray.size))=true:=by
  rw [US hsz,LA];exact bI
 refine Io F.slot_list_extend ⟨_,e,rfl⟩ F.entry_list_extend (F.args_list_extend_2 _ _)
  (AutoSeq1.list_extend_list_list_0 l its.toArray n b its2.toArray n2 hlong (by rw [aN];lia) (by lia)) ⟨e,e2,?_⟩
 refine ⟨.non,_,I.abF (its':=its++its2) hH e (by simp) (r.append r2) ?_,rfl,q⟩;rw [br];lia
def aaH:V->List V->Hp->VK->Prop:=λx vs H Q=>∃ l xs y,x=.ref l/\vs=[]/\H l=some (.lst xs)/\xs[xs.length-1]?=some y/\Q y (upd H l (.lst xs.dropLast))
theorem aaI:WS X "list.pop" aaH:=by
 intro pins s Z H x vs v us Q I rx rv h;obtain ⟨l,xs,y,rfl,rfl,hH,hy,q⟩:=h;cases rx;have hus:=rv.zero;subst hus;obtain ⟨z,its,n,r,hl,e⟩:=I.Tb hH;obtain ⟨u,hu,ru⟩:=r.get hy
 have hy':its.toArray[its.toArray.size-1]?=some u:=by
  show its.toArray[its.length-1]?=some u
  rw [← dB,← hl];exact hu
 refine Io F.slot_list_pop ⟨_,e,rfl⟩ F.entry_list_pop (F.args_list_pop_1 _) (MeetsSeq.list_pop_last l its.toArray n u hy' (by rw [aN];lia)) ⟨e,?_⟩;refine ⟨y,_,I.abF (its':=its.dropLast) hH e ?_ r.dropLast ?_,ru,q⟩
 .show its.toArray.eraseIdxIfInBounds (its.toArray.size-1)=its.dropLast.toArray
  rw [aN,List.eraseIdxIfInBounds_toArray,Os]
 .rw [List.length_dropLast];lia
def rCat:R2:=λx y H Q=>∃ l b xs zs,x=.ref l/\y=.ref b/\H l=some (.lst xs)/\H b=some (.lst zs)/\xs.length+zs.length<=aX/\∀ p,H p=none->Q (.ref p) (upd H p (.lst (xs++zs)))
theorem aaJ:rX X (tY .Add) rCat:=by
 intro pins s Z H x y v u Q I rx ry h;obtain ⟨l,b,xs,zs,rfl,rfl,hH,hB,hz,q⟩:=h;cases rx;cases ry;obtain ⟨z,its,n,r,hl,e⟩:=I.Tb hH;obtain ⟨z2,its2,n2,r2,hl2,e2⟩:=I.Tb hB;refine PySem.P.add_list e e2 ?_ (by rw [aN,aN];lia)
 have ea:its.toArray++its2.toArray=(its++its2).toArray:=by simp
 rw [ea];exact ⟨.ref _,_,I.lnew (t':=s.toks) (r.append r2) (by rw [br];lia),rfl,q _ I.fresh⟩
section
variable {prog:bQ}
end
section
variable {κ:Type} [DecidableEq κ]
def gH (kvs:List (κ×V)) (k:κ):Option V:=(kvs.find? λkv=>decide (kv.1=k)).map (·.2)
def qV (kvs:List (κ×V)) (k:κ) (v:V):List (κ×V) :=
 if (kvs.any λkv=>decide (kv.1=k))=true then kvs.map (λkv=>if kv.1=k then (kv.1,v) else kv) else kvs++[(k,v)]
def pq (kvs:List (κ×V)) (k:κ):List (κ×V):=kvs.filter λkv=>decide (kv.1≠k)
def ur {p:κ×V}{r:List (κ×V)}{k:κ}(e:p.1=k):gH (p::r) k=some p.2:=by simp [gH,mI,e]
def qW {p:κ×V}{r:List (κ×V)}{k:κ}(e:¬ p.1=k):gH (p::r) k=gH r k:=by simp [gH,mI,e]
theorem pB (k:κ):∀ kvs:List (κ×V),(kvs.any λkv=>decide (kv.1=k))=(gH kvs k).isSome
 | []=>rfl
 | p::r=>by
  rw [Oa]
  by_cases e:p.1=k
  .simp only [ur e,decide_eq_true e,Bool.true_or,Option.isSome_some]
  .rw [qW e,decide_eq_false e,Bool.false_or];exact pB k r
def BX (kvs:List (κ×V)) (k:κ) (v:V):(qV kvs k v).length<=kvs.length+1:=by
 unfold qV
 split
 .rw [af];lia
 .rw [br,b8,pX];lia
def uu {kvs:List (κ×V)}{k:κ}(v:V) (h:gH kvs k=none):qV kvs k v=kvs++[(k,v)]:=by
 unfold qV;rw [pB,h];exact if_neg (by decide)
theorem vM.rO {u:Option ai}(r:vM o u):o.isSome=u.isSome:=by
 cases o with
 | none=>cases u with
  | none=>rfl
  | some _=>exact (show False from r).elim
 | some _=>cases u with
  | none=>exact (show False from r).elim
  | some _=>rfl
theorem KV.val {kvs:List (κ×V)}{vs:List (κ×ai)}(r:KV kvs vs) (k:κ):vM (gH kvs k) (Li vs k):=by
 unfold KV at r
 induction r with
 | nil=>exact i9
 | @cons p q ps qs h t ih =>
  obtain ⟨h1,h2⟩:=h
  by_cases e:p.1=k
  .have e':q.1=k:=h1.symm.trans e
   have b:Li (q::qs) k=some q.2:=by simp [Li,mI,e']
   rw [ur e,b];exact h2
  .have e':¬ q.1=k:=λz=>e (h1.trans z)
   have b:Li (q::qs) k=Li qs k:=by simp [Li,mI,e']
   rw [qW e,b];exact ih
def KV.any {kvs:List (κ×V)}{vs:List (κ×ai)}(r:KV kvs vs) (k:κ):(kvs.any λkv=>decide (kv.1=k))=vs.any λkv=>decide (kv.1=k):=by
 unfold KV at r
 induction r with
 | nil=>rfl
 | cons h t ih=>rw [Oa,Oa,ih,h.1]
theorem KV.abD {kvs:List (κ×V)}{vs:List (κ×ai)}(r:KV kvs vs) (k:κ) {y:V}{u:ai}(ry:RelV y u) :
  KV (kvs.map λkv=>if kv.1=k then (kv.1,y) else kv) (vs.map λkv=>if kv.1=k then (kv.1,u) else kv):=by
 unfold KV at r ⊢
 induction r with
 | nil=>exact .nil
 | @cons p q ps qs h t ih =>
  rw [cn,cn];refine .cons ?_ ih;obtain ⟨h1,h2⟩:=h
  by_cases e:p.1=k
  .rw [if_pos e,if_pos (h1.symm.trans e)];exact ⟨h1,ry⟩
  .rw [if_neg e,if_neg (λz=>e (h1.trans z))];exact ⟨h1,h2⟩
theorem KV.put {kvs:List (κ×V)}{vs:List (κ×ai)}(r:KV kvs vs) (k:κ) {y:V}{u:ai}(ry:RelV y u):KV (qV kvs k y) (stored vs k u):=by
 unfold qV stored;rw [r.any k]
 by_cases e:(vs.any λkv=>decide (kv.1=k))=true
 .rw [if_pos e,if_pos e];exact r.abD k ry
 .rw [if_neg e,if_neg e];exact Paired.snoc r ⟨rfl,ry⟩
def KV.length {kvs:List (κ×V)}{vs:List (κ×ai)}(r:KV kvs vs):kvs.length=vs.length:=AF r
end
def LS {k:gn}(r:RelV (kV k) u):(gj P w).is k u=true:=by
 cases k with
 | inl i=>obtain ⟨t,e⟩:=(show ∃ t,u=fc i t from r);subst e;exact LG P w i t
 | inr x=>obtain ⟨t,e⟩:=(show ∃ t,u=qx x t from r);subst e;exact LH P w x t
theorem ID:∀ {ks:List gn}{us:List ai},Vals (ks.map kV) us->ItemsAre (gj P w) ks us
 | [],_,r=>by rw [Ru] at r;cases r;exact .nil
 | k::ks,_,r=>by
  rw [cn] at r
  cases r with
  | cons h t=>exact .cons (LS h) (ID t)
abbrev KT (H:Hp):List (List gn×V)->List (List gn×ah×ai)->Prop:=Paired λp q=>p.1=q.1/\H q.2.1=some (.tup (p.1.map kV))/\RelV p.2 q.2.2
theorem KT.val {kvs:List (List gn×V)}{xs:List (List gn×ah×ai)}(r:KT H kvs xs) (k:List gn):vM (gH kvs k) ((Lj xs k).map (·.2)):=by
 induction r with
 | nil=>exact i9
 | @cons p q ps qs h t ih =>
  obtain ⟨h1,_,h2⟩:=h
  by_cases e:p.1=k
  .have e':q.1=k:=h1.symm.trans e
   have b:Lj (q::qs) k=some q.2:=by simp [Lj,mI,e']
   rw [ur e,b];exact h2
  .have e':¬ q.1=k:=λz=>e (h1.trans z)
   have b:Lj (q::qs) k=Lj qs k:=by simp [Lj,mI,e']
   rw [qW e,b];exact ih
theorem KT.abD {kvs:List (List gn×V)}{xs:List (List gn×ah×ai)}(r:KT H kvs xs) (k:List gn) {y:V}{u:ai}(ry:RelV y u) :
  KT H (kvs.map λkv=>if kv.1=k then (kv.1,y) else kv) (xs.map (putAt k u)):=by
 induction r with
 | nil=>exact .nil
 | @cons p q ps qs h t ih =>
  rw [cn,cn];refine .cons ?_ ih;obtain ⟨h1,h2,h3⟩:=h;unfold putAt
  by_cases e:p.1=k
  .rw [if_pos e,if_pos (h1.symm.trans e)];exact ⟨h1,h2,ry⟩
  .rw [if_neg e,if_neg (λz=>e (h1.trans z))];exact ⟨h1,h2,h3⟩
theorem KT.put {kvs:List (List gn×V)}{xs:List (List gn×ah×ai)}(r:KT H kvs xs) (k:List gn) {b:ah}{y:V}{u:ai}(hb:H b=some (.tup (k.map kV))) (ry:RelV y u) :
  KT H (qV kvs k y) (storedH xs k b u):=by
 have e:(kvs.any λkv=>decide (kv.1=k))=(Lj xs k).isSome:=by
  rw [pB,(r.val k).rO,CQ]
 unfold qV storedH;rw [e]
 by_cases q:(Lj xs k).isSome=true
 .rw [if_pos q,if_pos q];exact r.abD k ry
 .rw [if_neg q,if_neg q];exact Paired.snoc r ⟨rfl,hb,ry⟩
def KT.keeps {kvs:List (List gn×V)}{xs:List (List gn×ah×ai)}(r:KT H kvs xs) (ht:∀ b ys,H b=some (.tup ys)->H' b=some (.tup ys)):KT H' kvs xs :=
 Paired.Te r λ_ _ z=>⟨z.1,ht _ _ z.2.1,z.2.2⟩
section
variable {h:cJ}
def Zi {u:HO}(ok:tI P w H h) (e:Rd H a u):fv P w H h a u:=e.ok ok
def IE {kvs:List (gn×V)}(ok:tI P w H h) (e:Rd H a (.dK kvs)):kvs.length<=aX/\(a == jB)=false/\∃ vs,KV kvs vs/\h.DictOf (gj P w) a vs :=
 show fv P w H h a (.dK kvs) from Zi ok e
def Zj {kvs:List (gn×V)}(ok:tI P w H h) (e:H a=some (.dK kvs)):kvs.length<=aX/\(a == jB)=false/\∃ vs,KV kvs vs/\h.DictOf (gj P w) a vs:=IE ok (.inl e)
theorem uv {ks:List gn}(ok:tI P w H h) (e:H a=some (.tup (ks.map kV))):(mF (gj P w)).is h ks a:=by
 obtain ⟨_,its,r,o,h1,h2,n,h3⟩:=(show fv P w H h a (.tup (ks.map kV)) from ok a _ e)
 exact ⟨o,its.toArray,n,h1,h2,h3,by simpa using ID r⟩
theorem IF {kvs:List (List gn×V)}(ok:tI P w H h) (e:Rd H a (.dT kvs)):kvs.length<=aX/\(a == jB)=false /\
  ∃ xs,KT H kvs xs/\h.DictOfH (mF (gj P w)) a xs:=by
 obtain ⟨z,y,xs,r,o,es,ep,h1,h2,h3,h4,h5⟩:=(show fv P w H h a (.dT kvs) from Zi ok e)
 refine ⟨z,y,xs,r,o,es,ep,h1,h2,h3,h4,λx hx=>?_,h5⟩
 have all:∀ {l:List (List gn×V)}{m:List (List gn×ah×ai)},KT H l m->∀ x∈m,(mF (gj P w)).is h x.1 x.2.1:=by
  intro l m q
  induction q with
  | nil=>intro x hx;exact nomatch hx
  | @cons p q ps qs hq t ih =>
   intro x hx
   rcases aq.mp hx with e|hx
   .subst e;exact uv ok (by rw [← hq.1];exact hq.2.1)
   .exact ih x hx
 exact all r x hx
def acv {kvs:List (List gn×V)}(ok:tI P w H h) (e:H a=some (.dT kvs)):kvs.length<=aX/\(a == jB)=false /\
  ∃ xs,KT H kvs xs/\h.DictOfH (mF (gj P w)) a xs:=IF ok (.inl e)
end
def wU (H:Hp) (a:ah) (y:V) (r:Option V):Prop :=
 (∃ kvs k,Rd H a (.dK kvs)/\y=kV k/\r=gH kvs k)\/∃ kvs k b,Rd H a (.dT kvs)/\y=.ref b/\H b=some (.tup (k.map kV))/\r=gH kvs k
def AC (H:Hp) (a:ah) (y v:V) (H':Hp):Prop :=
 (∃ kvs k,H a=some (.dK kvs)/\y=kV k/\kvs.length<aX/\H'=upd H a (.dK (qV kvs k v))) \/
 ∃ kvs k b,H a=some (.dT kvs)/\y=.ref b/\H b=some (.tup (k.map kV))/\kvs.length<aX/\H'=upd H a (.dT (qV kvs k v))
def wU.t {kvs:List (List gn×V)}{k:List gn}(e:H a=some (.dT kvs)) (eb:H b=some (.tup (k.map kV))):wU H a (.ref b) (gH kvs k):=.inr ⟨kvs,k,b,.inl e,rfl,eb,rfl⟩
def AC.t {kvs:List (List gn×V)}{k:List gn}(e:H a=some (.dT kvs)) (eb:H b=some (.tup (k.map kV))) (hl:kvs.length<aX) :
  AC H a (.ref b) v (upd H a (.dT (qV kvs k v))):=.inr ⟨kvs,k,b,e,rfl,eb,hl,rfl⟩
section
variable {r:ai}
def Inv.big (I:Inv X pins Z H s):jB<s.heap.objs.size:=by
 have h:bw<s.heap.objs.size:=(I.mod.glob.keeps I.bk).lt;exact TF (by decide) h
theorem IG (hu:A.units+1<iM) (I:Inv X pins Z H s) (g:wU H a y (some v)) (ry:RelV y u) (h:∀ w' s',Inv X pins Z H s'->RelV v w'->Q w' s') :
  aL (aU X.prog X.w) A (getItem (.ref a) u) Q E s:=by
 rcases g with ⟨kvs,k,e,ey,l⟩|⟨kvs,k,b,e,ey,eb,l⟩
 .subst ey;obtain ⟨z,hd,vs,rel,dd⟩:=IE I.eV e;obtain ⟨w',hw,rw'⟩:=vM.some_of (v:=v) (o:=Li vs k) (by rw [l];exact rel.val k);exact wpAny_getItem_of (LS ry) dd.mapOf hw (h w' _ (I.tok _) rw')
 .subst ey;cases (show u=ax b from ry);obtain ⟨z,hd,xs,rel,dd⟩:=IF I.eV e;obtain ⟨w',hw,rw'⟩:=vM.some_of (v:=v) (o:=(Lj xs k).map (·.2)) (by rw [l];exact rel.val k);obtain ⟨p,hp,hp2⟩:=fZ.mp hw;refine wpAny_getItem_heap (kF hu) (uv I.eV eb) dd hp ?_;rw [hp2];exact h w' _ (I.tok _) rw'
theorem d_in (hu:A.units+1<iM) (I:Inv X pins Z H s) (g:wU H a y o) (ry:RelV y u) (h:∀ s',Inv X pins Z H s'->Q (.bool o.isSome) s') :
  aL (aU X.prog X.w) A (dG .In u (.ref a)) Q E s:=by
 rcases g with ⟨kvs,k,e,ey,l⟩|⟨kvs,k,b,e,ey,eb,l⟩
 .subst ey;obtain ⟨z,hd,vs,rel,dd⟩:=IE I.eV e;refine wpAny_in_of (LS ry) hd dd.mapOf ?_;rw [← (rel.val k).rO,← l];exact h _ (I.tok _)
 .subst ey;cases (show u=ax b from ry);obtain ⟨z,hd,xs,rel,dd⟩:=IF I.eV e;refine wpAny_in_heap (kF hu) (uv I.eV eb) hd dd ?_;have q:=(rel.val k).rO;rw [CQ] at q;rw [← q,← l];exact h _ (I.tok _)
theorem X2 (hu:A.units+1<iM) (I:Inv X pins Z H s) (g:wU H a y o) (ry:RelV y u) (h:∀ s',Inv X pins Z H s'->Q (.bool (!o.isSome)) s') :
  aL (aU X.prog X.w) A (dG .NotIn u (.ref a)) Q E s:=by
 rcases g with ⟨kvs,k,e,ey,l⟩|⟨kvs,k,b,e,ey,eb,l⟩
 .subst ey;obtain ⟨z,hd,vs,rel,dd⟩:=IE I.eV e;refine wpAny_notIn_of (LS ry) hd dd.mapOf ?_;rw [← (rel.val k).rO,← l];exact h _ (I.tok _)
 .subst ey;cases (show u=ax b from ry);obtain ⟨z,hd,xs,rel,dd⟩:=IF I.eV e;refine wpAny_notIn_heap (kF hu) (uv I.eV eb) hd dd ?_;have q:=(rel.val k).rO;rw [CQ] at q;rw [← q,← l];exact h _ (I.tok _)
theorem JE {ob:HO}(I:Inv X pins Z H s) (mu:Mut (H a)) (hs:iH a s.heap h') (he:∃ q,h'.get? a=some q) (new:fv X.prog X.w (upd H a ob) h' a ob) :
  Inv X pins Z (upd H a ob) { s with heap:=h',toks:=t' } :=
 I.write (x:=a) (e:=a) mu (.inl rfl) (λb q hb z=>(hs.2 b hb).trans z) he new
def aaK {kvs:List (gn×V)}{vs:List (gn×ai)}(z:kvs.length<=aX) (hd:(a == jB)=false) (rel:KV kvs vs) (dd:h'.DictOf (gj P w) a vs) :
  fv P w H' h' a (.dK kvs):=⟨z,hd,vs,rel,dd⟩
theorem IH {Q:Unit->ay->Prop}(hu:A.units+1<iM) (I:Inv X pins Z H s) (g:AC H a y v H') (ry:RelV y u) (rv:RelV v r) (h:∀ s',Inv X pins Z H' s'->Q () s') :
  aL (aU X.prog X.w) A (setItem (.ref a) u r) Q E s:=by
 rcases g with ⟨kvs,k,e,ey,l,eH⟩|⟨kvs,k,b,e,ey,eb,l,eH⟩
 .subst ey eH;obtain ⟨z,hd,vs,rel,dd⟩:=Zj I.eV e
  have hz:vs.length<=aX:=by rw [← rel.length];exact z
  have hl:(qV kvs k v).length<=aX:=by have:=BX kvs k v;lia
  refine wpAny_setItem_pairs (hsz:=hz) (LS ry) dd λh' dd' hs=>h _ ?_
  have he:∃ q,h'.get? a=some q:=let ⟨q,_,_,hq,_⟩:=dd';⟨q,hq⟩
  exact JE I (by rw [e];exact i9) hs he (aaK hl hd (rel.put k rv) dd')
 .subst ey eH;cases (show u=ax b from ry);obtain ⟨z,hd,xs,rel,dd⟩:=acv I.eV e
  have hz:xs.length<=aX:=by rw [← AF rel];exact z
  have hl:(qV kvs k v).length<=aX:=by have:=BX kvs k v;lia
  refine wpAny_setItem_heap (hsz:=hz) (kF hu) (uv I.eV eb) dd λh' dd' hs=>h _ ?_;obtain ⟨q,es,ep,hq,h2,h3,h4,_,h5⟩:=dd';refine JE I (by rw [e];exact i9) hs ⟨q,hq⟩ ⟨hl,hd,_,(rel.put k eb rv).keeps λc ys ec=>?_,q,es,ep,hq,h2,h3,h4,h5⟩;rw [aE (fA ec e nofun)];exact ec
end
section
variable {kvs:List (gn×V)}{k:gn}
theorem acw (I:Inv X pins Z H s) (e:Rd H a (.dK kvs)) (h:∀ t s',Inv X pins Z H s'->Q (.int kvs.length t) s'):aL (aU X.prog X.w) A (call (.builtin "len") [.ref a]) Q E s:=by
 obtain ⟨z,hd,vs,rel,dd⟩:=IE I.eV e;refine call_len_dict hd dd (by rw [← rel.length];rw [wb] at z;lia) ?_;rw [← rel.length];exact h _ _ (I.tok _)
end
def LU (I:Inv X pins Z H s) (g:wU H a y o):s.TypeIs (.ref a) "dict":=by
 rcases g with ⟨kvs,k,e,_,_⟩|⟨kvs,k,b,e,_,_,_⟩
 .obtain ⟨_,_,vs,_,dd⟩:=IE I.eV e;exact dd.typeIs
 .obtain ⟨_,_,xs,_,dd⟩:=IF I.eV e;exact dd.typeIs
def Zk (td ty tv:TE) (rd:V->V->Hp->VK->Prop):TS:=λD Z H=>td Z H λx H1=>ty Z H1 λy H2=>∃ a v,x=.ref a/\wU H2 a y (some v) /\
 tv Z H2 λy2 H3=>rd v y2 H3 λz H4=>∃ H5,AC H4 a y z H5/\D.nx Z H5
section
variable {o i value:Expr}{pos' tpos:wV}{td ty tv:TE}
theorem X3 {op:Le}{rd:V->V->Hp->VK->Prop}(hu:X.A.units+1<iM) (ho:PE X o td) (hi:PE X i ty) (hv:PE X value tv) (hop:aaD X op rd)
  (ha:∀ ov iv new,augStore i ov iv new=(do jU [new,ov,iv] (setItem ov iv new);release [new,ov,iv] [];pure .next)):PS X (.AugAssign (.Subscript o i tpos) op value pos) (Zk td ty tv rd):=by
 intro pins s Z H D I h;refine wpAny_AugAssign_SubscriptAny (ia (ho pins s Z H _ I h) λu s1 ⟨x,H1,I1,rx,q1⟩=>ia (hi pins s1 Z H1 _ I1 q1) λiv s2 ⟨y,H2,I2,ry,a,v,ex,g,q2⟩=>?_) ha;subst ex;obtain rfl:u=ax a:=rx;refine IG hu I2 g ry λw' s3 I3 rw'=>ia (hv pins s3 Z H2 _ I3 q2) λw2 s4 ⟨y2,H3,I4,ry2,q3⟩=>ia (hop pins s4 Z H3 v y2 w' w2 _ I4 rw' ry2 q3) λw3 s5 ⟨z,H4,I5,rz,H5,g5,q4⟩=>?_
 exact IH hu I5 g5 ry rz λs6 I6=>⟨Z,H5,I6,q4⟩
end
def UT (h:cJ) (hb:jB<h.objs.size):fv P w H (h.push { cls:=.type "dict",data:=.dict #[] }) h.objs.size (.dT []) :=
 ⟨bA _,beq_eq_false_iff_ne.mpr (Ne.symm (aO hb)),[],.nil,_,#[],0,aI _ rfl,⟨rfl,rfl,rfl⟩,rfl,rfl,jr⟩
def sf:TE:=λ_ H Q=>∀ p,H p=none->Q (.ref p) (upd H p (.dT []))
theorem LW:PE X (.Dict [] [] pos) sf:=λpins s Z H Q I h =>
 wpAny_Dict_empty ⟨.ref s.heap.objs.size,_,I.laid (a:=s.heap.objs.size) (o:=.dT []) (t':=s.toks) (λ_ _ q=>ao _ q) (aB _) (UT s.heap I.big),rfl,h _ (I.eV.fresh (aB _))⟩
section
variable {d:V}{r:ai}
end
section
variable {o f:Expr}{td ty tx:TE}
end
section
variable {kvs:List (gn×V)}
end
end L2
namespace Att
open PySem PySem.W PySem.Calls PyProof.Rows
theorem CW {P:Params}{h:cJ}:∀ (ns:List Int) (vs:List ai),WellAll P h vs (ns.map WData.int)->gP vs ns:=by
 intro ns
 induction ns with
 | nil =>
  intro vs w;rw [Ru] at w;cases w
  exact .nil
 | cons n ns ih =>
  intro vs w;rw [cn] at w
  cases w with
  | cons a b =>
   cases a;exact .cons _ _ (ih _ b)
theorem RW {l:tK}{n:Nat}(hn:l.most=some n) {P:Params}{h:cJ}{args:List WData}{vals:List ai}
  (hpre:l.row.toRowW.claim.pre args=true) (hwl:WellAll P h vals args) :
  ∃ a vs ns,vals=[ax a]/\args=[WData.list (ns.map WData.int)]/\h.get? a=some { cls:=.type "list",data:=.seq vs.toArray }/\gP vs ns/\ns.length<=n:=by
 have hsh:WShape.hasAll [] args [.list .int]=true:=(pre_splitW hpre).1;have hc:l.pre.holds [] { args:=args }=true:=(pre_splitW hpre).2;obtain ⟨d,r,rfl,h1,h2⟩:=hasAllW_cons hsh;obtain rfl:=hasAllW_nil h2;obtain ⟨xs,rfl,h3⟩:=hasW_list h1;obtain ⟨ns,rfl⟩:=items_int h3
 have hlen:ns.length<=n:=by
  unfold OpenLaw.pre at hc
  have h4:(WTm.not (.lt (.lit (.int (n:Int))) (.len (.arg 0)))).holds [] { args:=[.list (ns.map .int)] }=true:=by
   have h4:=(holds_andW hc).1;rw [hn] at h4;exact h4
  have h5:=condW_of h4 (w_not (w_lt w_lit (w_len_list (w_arg rfl))));rw [af] at h5;refine oW λq=>?_
  have q':(n:Int)<((ns.length:Nat):Int):=by lia
  first
   | (rw [decide_eq_true q'] at h5;exact absurd h5 (by decide))
   | (simp at h5;lia)
 cases hwl with
 | cons w1 w2 =>
  cases w2
  cases w1 with
  | list ho hall=>exact ⟨_,_,ns,rfl,rfl,ho,CW ns _ hall,hlen⟩
theorem RX (l:tK) (args:List WData):l.row.toRowW.claim.post args (.bool true) args=true :=
 postW_of (r:=l.row.toRowW) (X:=(true == true))
  (show WShape.has [] (.bool true) .bool=true by first|rfl|decide|simp [WShape.has,WShape.arms,WShape.armsAll])
  (show (WTm.eq .res (.lit (.bool true))).value [] { args:=args,res:=some (.bool true),after:=args }=some (.bool (true == true)) from w_eq_bool (w_res rfl) w_lit) rfl
theorem LX {l:tK}{n:Nat}{q:bQ}{loose:List bq}{XP:(bq->Option ai)->cJ->Prop}{YP:cU->cJ->Prop}{d:DefRec}
  (hn:l.most=some n) (hdf:d.params.defaults=[])
  (call:∀ (w:cU) (s₀ s₁:ay) (mg mb:bq->Option ai) (fa:ah) (o:iW) (pm cd doc:ai) (a:ah) (vs:List ai) (ns:List Int),
   Ground q loose [] XP w s₀ mg mb s₁.heap->YP w s₁.heap ->
   s₁.heap.get? fa=some o->o.data=.func (docDef d.name d.params d.body d.scope pm cd doc)->s₁.heap.CodeRec cd d.name->mg d.name=some (.ref fa) ->
   s₁.heap.get? a=some { cls:=.type "list",data:=.seq vs.toArray }->gP vs ns->ns.length<=n->s₁.gens=#[] ->
   kD (aU l.prog w) Lk (.call (.ref fa) ⟨[.ref a],[]⟩) (λr s'=>r=.ok (.ret (.bool true))/\OldK s₁.heap s'.heap/\s'.os=s₁.os/\v7 s'.gens) s₁) :
  W8 q loose XP YP l.row.toRowW d [] (λf vs=>W9 f vs):=by
 intro w s₀ s₁ mg mb G Y fa o pm cd doc dV kV ho hd hcd hD hmg hg args vals as hpre hlay hrd hwl hlo;obtain rfl:dV=.none:=Dflts.none hD hdf;obtain rfl:kV=.none:=Dflts.noKw hD;obtain ⟨a,vs,ns,rfl,rfl,hobj,hints,hlen⟩:=RW hn hpre hwl;refine enter_call (kE (call w s₀ s₁ mg mb fa o pm cd doc a vs ns G Y ho (fd_plain hd) hcd hmg hobj hints hlen hg) λr s' hq=>?_);obtain ⟨rfl,h2,h3,h4⟩:=hq;exact ⟨.inl ⟨.bool true,.bool true,[],rfl,λ_=>rfl,.bool true,RX l _,λ_=>⟨LB,λ_ hm=>(nomatch hm)⟩⟩,h2,h3,h4⟩
section
variable {prog:bQ}{w:cU}{A:dM}{E:ai->ay->Prop}{s:ay}{K:aa}
end
end Att
namespace L2
variable {H H':Hp}{K:aa}{X:Cx}{v:V}{xs:List V}{scope:tX}{Z:St}{i j:Int}{x qual y:bq}{s:ay}{pins:List (ah×iW)}{a p f:ah}{elt iter tg:Expr}{ifs:List Expr}{pos:wV}{st:dz}{N ps own ys:List bq}{env:xZ}{ds:List PyData}{fd:fM}{sp:Sp}{cells:List (bq×ah)}{js:List Nat}{g:TG}{te to:TE}{Q:VK}{R:St->Hp->Prop}{w:cU}
theorem A6:∀ {vs:List ai}{ns:List Int},gP vs ns->Vals (ns.map V.int) vs
 | _,_,.nil=>.nil
 | _,_,.cons n t h=>.cons ⟨t,rfl⟩ (A6 h)
def eD (s:dz) (j:Nat):dz:=match s with
 | .ClassDef _ _ _ body _ _ _ _ _ _ _=>body.getD j (.Pass ⟨0,0,0,0⟩)
 | _=>.Pass ⟨0,0,0,0⟩
def qd (s:dz):tJ:=match s with
 | .FunctionDef _ a _ _ _ _ _ _ _ _=>a
 | _=>{ posonlyargs:=[],args:=[],vararg:=none,kwonlyargs:=[],kw_defaults:=[],kwarg:=none,defaults:=[] }
def jO (s:dz):List dz:=match s with
 | .FunctionDef _ _ b _ _ _ _ _ _ _=>b
 | _=>[]
def aR (s:dz):tX:=match s with
 | .FunctionDef _ _ _ _ _ _ sc _ _ _=>sc
 | _=>{ kind:=.function,names:=[],isGenerator:=false,isCoroutine:=false }
abbrev vW:Jz:=λ_ _ _ _ _ _=>False
abbrev E0:XK:=λ_ _ _=>False
def ju:ma vW X E0:=λ_ _ _ _ _ _ _ h=>h.elim
structure wR (K:aa) (x qual:bq) (st:dz) (f:ah) (fd:fM):Prop where
 ex:∃ (oc:ai) (od:Option ah) (kV doc pm:ai) (an:Option ah) (jo ct:ai) (osl:Array (Option ai)),
  fd=gU x qual (qd st) (jO st) (aR st) .none kV doc pm an jo ct/\K.lookup f=some ⟨oc,od,.func fd,osl⟩/\mR K jo qual=true
 kp:dD K (.ref f)=true
section
variable {P:bQ}{mg:bq->Option ai}{base:cJ}
theorem wR.ok {k:Nat}(F:wR K x qual st f fd) (S:bC N ps (aR st)) (len:∀ vs H Q E,sp vs H Q E->vs.length=ps.length)
  (hbody:∀ (jo:ai) (A:dM) (outer:List xZ) (s:ay) (H:Hp) (vs:List V) (Q:VK) (E:XK),hZ k (A.deeper (lp qual (aR st) s.heap.objs.size f jo))->sp vs H Q E ->
   ∃ t,Ih (lQ vW P w K mg base N qual (aR st) f jo A outer s H E).WJ (jO st) t/\t { nx:=λ_ H'=>Q .non H',rt:=Q } (start N vs) H):gN P w K mg base vW (k+1) f fd ps sp:=by
 obtain ⟨oc,od,kV,doc,pm,an,jo,ct,osl,rfl,lk,hcd⟩:=F.ex;refine UM lk hcd S len λA outer s H vs Q E hr hsp=>?_;obtain ⟨t,h,q⟩:=hbody jo A outer s H vs Q E hr hsp;exact ⟨t,h.WJ,q⟩
theorem wR.binds (F:wR K x qual st f fd)
  (h:∀ (kV doc pm:ai) (an:Option ah) (jo ct:ai) (us:List ai),us.length=ps.length->Lh (gU x qual (qd st) (jO st) (aR st) .none kV doc pm an jo ct) ⟨us,[]⟩=pure (ps.zip us)):Binds K fd ps []:=by
 obtain ⟨oc,od,kV,doc,pm,an,jo,ct,osl,rfl,lk,hcd⟩:=F.ex;exact .all (h kV doc pm an jo ct)
theorem JF {oc:ai}{od an:Option ah}{osl:Array (Option ai)}{kV doc pm jo ct:ai}(l:K.lookup f=some ⟨oc,od,.func (gU x qual (qd st) (jO st) (aR st) .none kV doc pm an jo ct),osl⟩)
  (c:mR K jo qual=true) (k:dD K (.ref f)=true):wR K x qual st f (gU x qual (qd st) (jO st) (aR st) .none kV doc pm an jo ct):=⟨⟨oc,od,kV,doc,pm,an,jo,ct,osl,rfl,l,c⟩,k⟩
end
theorem pv (i:Nat) {x:bq}{pos:wV}(hN:X.N[i]?=some x:=by rfl) (hv:Vis X.env.scope x:=by first|exact Or.inl rfl|exact Or.inr (Or.inl rfl)|exact Or.inr (Or.inr rfl)) (hd:(x == ("__debug__":bq))=false:=by decide)
  (hcd:(x == ("__classdict__":bq))=false:=by decide):PE X (.Name x pos) (ak i):=aat hN hv hd hcd
def gI {A B:Prop}(h:B):if false=true then A else B:=by
 rw [if_neg bI];exact h
def jX {A B:Prop}(h:A):if true=true then A else B:=by
 rw [if_pos rfl];exact h
def bS (H H':Hp):Prop:=∀ b o,H b=some o->H' b=some o
def bS.refl (H:Hp):bS H H:=λ_ _ h=>h
def bS.trans {H1 H2:Hp}(a:bS H H1) (b:bS H1 H2):bS H H2:=λc o h=>b c o (a c o h)
def bS.free (e:bS H H') {l:ah}(h:H' l=Option.none):H l=Option.none:=by
 cases q:H l with
 | none=>rfl
 | some o =>
  rw [e l o q] at h;cases h
def bS.seq (e:bS H H') (h:dh K H a xs):dh K H' a xs:=by
 rcases h with (h|⟨o,h⟩)|h
 .exact .inl (.inl (e _ _ h))
 .exact .inl (.inr ⟨o,e _ _ h⟩)
 .exact .inr h
theorem RY:oI X (.builtin "len") (λxs H Q=>∃ a kvs,xs=[V.ref a]/\H a=some (.dK kvs)/\Q (.int kvs.length) H):=by
 intro pins s Z H xs us Q I r h;obtain ⟨a,kvs,rfl,ha,q⟩:=h;obtain ⟨u,rfl,ru⟩:=vals1 r;cases ru
 exact acw I (.inl ha) λt s' I'=>⟨.int kvs.length,H,I',⟨t,rfl⟩,q⟩
section
variable {κ:Type} [DecidableEq κ]
def X4 {kvs:List (κ×V)}{k:κ}(h:gH kvs k=some v):k∈kvs.map (·.1):=by
 have q:(kvs.any λkv=>decide (kv.1=k))=true:=by
  rw [pB,h]
  all_goals rfl
 obtain ⟨p,hp,e⟩:=oK.mp q;exact bo.mpr ⟨p,hp,of_decide_eq_true e⟩
theorem Qq:∀ {l:List κ}{k:κ},l.Nodup->¬ k∈l->(l++[k]).Nodup
 | [],k,_,_=>by simp
 | a::r,k,h,hk=>by
  obtain ⟨h1,h2⟩:=bg.mp h
  show (a::(r++[k])).Nodup
  refine bg.mpr ⟨λm=>?_,Qq h2 λm=>hk (aq.mpr (Or.inr m))⟩
  rcases aT.mp m with q|q
  .exact h1 q
  .exact hk (aq.mpr (Or.inl (aC.mp q).symm))
def RZ {p:κ×V}{r:List (κ×V)}{k:κ}(e:p.1=k):pq (p::r) k=pq r k:=by
 unfold pq;rw [ui,if_neg (by simp [e])]
def II {p:κ×V}{r:List (κ×V)}{k:κ}(e:¬ p.1=k):pq (p::r) k=p::pq r k:=by
 unfold pq;rw [ui,if_pos (by simp [e])]
theorem LY:∀ {kvs:List (κ×V)}{k:κ},¬ k∈kvs.map (·.1)->pq kvs k=kvs
 | [],_,_=>rfl
 | p::r,k,h=>by
  have h':¬ k∈r.map (·.1):=λm=>by
   obtain ⟨q,hq,e⟩:=bo.mp m;exact h (bo.mpr ⟨q,aq.mpr (Or.inr hq),e⟩)
  rw [II λe=>h (bo.mpr ⟨p,aq.mpr (Or.inl rfl),e⟩),LY h']
end
def qa (cells:List (bq×ah)):List (bq×oS)->List (bq×ah)->List (bq×ah)
 | [],acc=>acc
 | (n,k)::r,acc=>qa cells r (if k == .free then (n,(cells.lookup n).getD 0)::acc else acc)
theorem yg:∀ (names:List (bq×oS)) (acc:List (bq×ah)),(∀ n,(n,bP)∈names->∃ c,env.cells.lookup n=some c) ->
  (forIn names acc λ(x:bq×oS) (r:List (bq×ah))=>(if x.2 == .free then (cellOf env x.1 >>= λc=>pure (lA ((x.1,c)::r))) else pure (lA r):N8 (ForInStep (List (bq×ah)))))=pure (qa env.cells names acc)
 | [],acc,_=>rfl
 | (n,k)::r,acc,h=>by
  rw [xa];have hr:∀ n,(n,bP)∈r->∃ c,env.cells.lookup n=some c:=λn hn=>h n (ag _ hn)
  cases hk:k == bP with
  | false =>
   simp only [hk,ck,if_false,pure_bind];rw [yg r acc hr]
   show _=pure (qa env.cells r (if k == bP then _ else acc))
   rw [hk];rfl
  | true =>
   have e:k=.free:=by simpa using hk
   subst e;obtain ⟨c,hc⟩:=h n ar
   have e2:cellOf env n=pure c:=by unfold cellOf;rw [hc]
   simp only [hk,if_true,e2,pure_bind];rw [yg r _ hr]
   show _=pure (qa env.cells r (if bP == bP then (n,(env.cells.lookup n).getD 0)::acc else acc))
   rw [hc];rfl
theorem yh (h:∀ n,(n,bP)∈scope.names->∃ c,env.cells.lookup n=some c):closureFor scope env=pure (qa env.cells scope.names []):=by
 have e:=yg (env:=env) scope.names [] h;unfold closureFor;rw [← bind_pure (pure (qa env.cells scope.names []):N8 _),← e]
theorem lJ {c:ah}:∀ (names:List (bq×oS)) (acc:List (bq×ah)),(∀ n,(n,bP)∈names->∃ c,cells.lookup n=some c) ->
  (qa cells names acc).lookup x=some c->cells.lookup x=some c\/acc.lookup x=some c
 | [],acc,_,h=>.inr h
 | (n,k)::r,acc,hf,h=>by
  have hr:∀ n,(n,bP)∈r->∃ c,cells.lookup n=some c:=λn hn=>hf n (ag _ hn);unfold qa at h
  rcases lJ r _ hr h with z|z
  .exact .inl z
  .cases hk:k == bP with
   | false=>rw [hk] at z;exact .inr z
   | true =>
    have e:k=.free:=by simpa using hk
    subst e;obtain ⟨d,hd⟩:=hf n ar;rw [hk,if_pos rfl,hd] at z
    by_cases hx:x=n
    .subst hx;rw [c6,beq_self_eq_true] at z;exact .inl (by rw [hd];exact z)
    .rw [c6,beq_false_of_ne hx] at z;exact .inr z
theorem yZ:∀ (names:List (bq×oS)) (acc:List (bq×ah)),((x,bP)∈names\/∃ c,acc.lookup x=some c)->∃ c,(qa cells names acc).lookup x=some c
 | [],acc,h=>h.elim nofun λz=>z
 | (n,k)::r,acc,h=>by
  unfold qa;refine yZ r _ ?_
  rcases h with z|⟨c,z⟩
  .rcases aq.mp z with e|z
   .have e1:n=x:=(cW e).1.symm;have e2:k=.free:=(cW e).2.symm;subst e1 e2;exact .inr ⟨_,by rw [if_pos (by rfl),c6,beq_self_eq_true]⟩
   .exact .inl z
  .refine .inr ?_
   split
   .rw [c6];cases x == n
    .exact ⟨c,z⟩
    .exact ⟨_,rfl⟩
   .exact ⟨c,z⟩
theorem y0 {env:xZ}{x:bq}{k:oS}:∀ {names:List (bq×oS)},
  (names.map λ(n,k)=>if (k == bP && env.scope.kind == .function && env.kindOf n == some .cell) then (n,iA) else (n,k)).lookup x=some k ->
   ∃ k0,names.lookup x=some k0/\(k=k0\/(k0=.free/\k=.cell))
 | [],h=>by simp at h
 | (n,k1)::r,h=>by
  have ih:=@y0 env x k r;have h:dk x ((if (k1 == bP && env.scope.kind == .function && env.kindOf n == some .cell)=true then (n,iA) else (n,k1))::r.map λ(n,k)=>if (k == bP && env.scope.kind == .function && env.kindOf n == some .cell) then (n,iA) else (n,k))=some k:=h
  by_cases hc:(k1 == bP && env.scope.kind == .function && env.kindOf n == some .cell)=true
  .rw [if_pos hc,c6] at h;rw [c6]
   have e:k1=.free:=by
    rw [eG,eG] at hc
    simpa using hc.1.1
   cases hx:x == n with
   | true=>rw [hx] at h;exact ⟨k1,rfl,.inr ⟨e,(aV h).symm⟩⟩
   | false=>rw [hx] at h;exact ih h
  .rw [if_neg hc,c6] at h;rw [c6]
   cases hx:x == n with
   | true=>rw [hx] at h;exact ⟨k1,rfl,.inl (aV h).symm⟩
   | false=>rw [hx] at h;exact ih h
theorem BY {env:xZ}{x:bq}:∀ {names:List (bq×oS)},names.lookup x=some .free ->
  (names.map λ(n,k)=>if (k == bP && env.scope.kind == .function && env.kindOf n == some .cell) then (n,iA) else (n,k)).lookup x=some .free \/
  (names.map λ(n,k)=>if (k == bP && env.scope.kind == .function && env.kindOf n == some .cell) then (n,iA) else (n,k)).lookup x=some .cell
 | [],h=>by simp at h
 | (n,k1)::r,h=>by
  have ih:=@BY env x r
  show dk x ((if (k1 == bP && env.scope.kind == .function && env.kindOf n == some .cell)=true then (n,iA) else (n,k1))::r.map λ(n,k)=>if (k == bP && env.scope.kind == .function && env.kindOf n == some .cell) then (n,iA) else (n,k))=some .free \/
   dk x ((if (k1 == bP && env.scope.kind == .function && env.kindOf n == some .cell)=true then (n,iA) else (n,k1))::r.map λ(n,k)=>if (k == bP && env.scope.kind == .function && env.kindOf n == some .cell) then (n,iA) else (n,k))=some .cell
  rw [c6] at h
  by_cases hc:(k1 == bP && env.scope.kind == .function && env.kindOf n == some .cell)=true
  .rw [if_pos hc,c6]
   cases hx:x == n with
   | true=>exact .inr rfl
   | false=>rw [hx] at h;exact ih h
  .rw [if_neg hc,c6]
   cases hx:x == n with
   | true=>rw [hx] at h;exact .inl h
   | false=>rw [hx] at h;exact ih h
theorem mem_of_lookup {k:oS}:∀ {names:List (bq×oS)},names.lookup x=some k->(x,k)∈names
 | [],h=>by simp at h
 | (n,k1)::r,h=>by
  rw [c6] at h
  cases hx:x == n with
  | true =>
   rw [hx] at h
   have e:x=n:=by simpa using hx
   rw [e,aV h];exact ar
  | false=>rw [hx] at h;exact ag _ (mem_of_lookup h)
def JG (X:Cx) (N:List bq) (scope:tX) (s:ay) (H:Hp) (fp:List ah):Cx where
 prog:=X.prog
 w:=X.w
 K:=X.K
 mg:=X.mg
 base:=X.base
 A:=X.A
 N:=N
 s₀:=s
 H₀:=H
 env:=compEnvC scope (qa X.env.cells scope.names []) s.heap.objs.size X.env
 outer:=X.stack
 stack:=X.stack
 ex:=fp
 fn:=λ_=>false
 calm:=X.calm
 pn:=[]
 xe:=λ_ _=>False
def Gu (X:Cx) (scope:tX):List Nat->List bq->Prop
 | [],[]=>True
 | j::js,y::ys=>X.N[j]?=some y/\(X.env.kindOf y=some .cell\/X.env.kindOf y=some .free)/\scope.names.lookup y=some .free/\Gu X scope js ys
 | _,_=>False
def LZ (Z:St) (js:List Nat):St:=js.map λj=>(Z[j]?).join
theorem Gu.len:∀ {js:List Nat}{ys:List bq},Gu X scope js ys->js.length=ys.length
 | [],[],_=>rfl
 | _::_,_::_,h=>by rw [b8,b8,Gu.len h.2.2.2]
 | [],_::_,h=>h.elim
 | _::_,[],h=>h.elim
theorem Gu.get:∀ {js:List Nat}{ys:List bq}{i:Nat},Gu X scope js ys->ys[i]?=some y->(LZ Z js)[i]?=some (some v) ->
  ∃ j:Nat,X.N[j]?=some y/\Z[j]?=some (some v)/\(X.env.kindOf y=some .cell\/X.env.kindOf y=some .free)/\scope.names.lookup y=some .free
 | [],[],i,_,e,_=>by simp at e
 | j::js,z::ys,0,h,e,q=>by
  simp only [mS,gX] at e;subst e;refine ⟨j,h.1,?_,h.2.1,h.2.2.1⟩
  have q':(Z[j]?).join=some v:=by simpa [LZ] using q
  cases hj:Z[j]? with
  | none=>rw [hj] at q';simp at q'
  | some o=>rw [hj] at q';rw [← q'];rfl
 | j::js,z::ys,i+1,h,e,q=>Gu.get (i:=i) h.2.2.2 (by simpa using e) (by simpa [LZ] using q)
 | [],_::_,_,h,_,_=>h.elim
 | _::_,[],_,h,_,_=>h.elim
section
variable {s':ay}{fp:List ah}
theorem Ot (I:Inv X pins Z H s) (hf:∀ b∈fp,A3 X pins H b) (hlt:∀ b∈fp,b<s.heap.objs.size) (hkind:scope.kind=.function) (hcell:∀ y∈scope.names,y.2≠.cell)
  (hfr:∀ n,(n,bP)∈scope.names->∃ c,X.env.cells.lookup n=some c):(JG X N scope s H fp).Ok where
 mod:=I.mod
 kind:=hkind
 glob:=I.ok.glob
 blt:=I.ok.blt
 above:=aB _
 inj:=λx y c h1 h2=>I.ok.inj x y c ((lJ _ _ hfr h1).resolve_right (by simp)) ((lJ _ _ hfr h2).resolve_right (by simp))
 has:=λx hx=>by
  refine yZ _ _ (.inl ?_)
  have key:∀ k,(k=iA\/k=bP)->(relabel scope X.env).names.lookup x=some k->(x,bP)∈scope.names:=λk hk e=>by
   obtain ⟨k0,e0,z⟩:=y0 e
   rcases z with z|⟨z,_⟩
   .subst z
    rcases hk with hk|hk
    .subst hk;exact absurd rfl (hcell _ (mem_of_lookup e0))
    .subst hk;exact mem_of_lookup e0
   .subst z;exact mem_of_lookup e0
  rcases hx with hx|hx
  .exact key _ (.inl rfl) hx
  .exact key _ (.inr rfl) hx
 Xl:=λx c h=>by cases h
 hd:=I.ok.hd
 frames:=I.ok.frames
 YN:=.inl rfl
 Z7:=λb hb=>⟨aO (hlt b hb),λx c e=>(hf b hb).2.2.2.2.1 x c ((lJ _ _ hfr e).resolve_right (by simp))⟩
 bs:=I.bs
 N0:=bF I.ok.N0 I.sz
 Ie:=λb o e hb=>by
  rcases (hf b hb).2.2.2.1 with z|z
  .exact I.ok.Ie b o e z
  .exact absurd (bc (aF e) (bF I.ok.N0 z)) (h8 _)
 Ij:=λb hb hs=>by
  rcases aq.mp (I.PP b hs) with z|z
  .exact (hf b hb).2.1 z
  .exact (hf b hb).2.2.1 z
 sT:=I.stack
 Re:=I.DQ
theorem X5 {h1:cJ}{tk:Nat}{m:bq->Option ai}(I:Inv X pins Z H s) (hf:∀ b∈fp,A3 X pins H b) (hlt:∀ b∈fp,b<s.heap.objs.size) (hkind:scope.kind=.function)
  (hcell:∀ y∈scope.names,y.2≠.cell) (hfr:∀ n,(n,bP)∈scope.names->∃ c,X.env.cells.lookup n=some c) (hc:Gu X scope js ys)
  (hn:h1.Ns s.heap.objs.size m) (hk:∀ b o,s.heap.get? b=some o->h1.get? b=some o) :
  Inv (JG X (own++ys) scope s H fp) [] (nK own.length none++LZ Z js) H { s with heap:=h1,toks:=tk }:=by
 have hcl:∀ x c,(qa X.env.cells scope.names []).lookup x=some c->X.env.cells.lookup x=some c:=λx c e=>(lJ _ _ hfr e).resolve_right (by simp);refine ⟨Ot I hf hlt hkind hcell hfr,rfl,I.bare,Un.kept hk,⟨m,hn,λi x v e1 e2 e3=>?_⟩,λx c e=>?_,I.fresh,λx c e=>I.mY x c (hcl x c e),(λp hp=>nomatch hp),I.eV.kept hk,?_⟩
 .have e1':(own++ys)[i]?=some x:=e1
  by_cases hi:i<own.length
  .rw [gO (by simpa using hi)] at e2;rw [P0] at e2
   split at e2
   .cases aV e2
   .cases e2
  .have hi':own.length<=i:=oW hi;rw [eX hi'] at e1';rw [eX (by simpa using hi'),ya] at e2;obtain ⟨j,q1,q2,q3,q4⟩:=hc.get e1' e2;obtain ⟨m0,_,hl⟩:=I.loc
   obtain ⟨u,r,l⟩:=hl j x v q1 q2 (by
    rcases q3 with q3|q3
    .exact .inr (.inl q3)
    .exact .inr (.inr q3))
   refine ⟨u,r,.inr ⟨?_,?_⟩⟩
   .rcases BY (env:=X.env) q4 with z|z
    .exact .inr z
    .exact .inl z
   .rcases l with ⟨k,_⟩|⟨_,c,hc1,hc2⟩
    .rcases q3 with q3|q3<;>rw [k] at q3<;>cases aV q3
    .obtain ⟨d,hd⟩:=yZ (cells:=X.env.cells) (x:=x) scope.names [] (.inl (mem_of_lookup q4));have hd':=hcl x d hd;rw [hc1] at hd';cases aV hd';obtain ⟨o,ho,hod⟩:=hc2;exact ⟨c,hd,o,hk c o ho,hod⟩
 .obtain ⟨v,o,ho,hod⟩:=I.cell x c (hcl x c e);exact ⟨v,o,hk c o ho,hod⟩
 .show (nK own.length none++LZ Z js).length=(own++ys).length
  rw [br,br,ya,LZ,af,hc.len]
theorem UU {σ':St}(I:Inv X pins Z H s) (hf:∀ b∈fp,A3 X pins H b) (J:Inv (JG X N scope s H fp) [] σ' H' s'):Inv X pins Z H' s' :=
 I.WR (ch:=fp) J.os J.base J.eV J.bare λb hb=>⟨(hf b hb).2.2.2.1,(hf b hb).2.1,(hf b hb).2.2.2.2.1,(hf b hb).2.2.2.2.2⟩
end
section
variable {prog:bQ}{A:dM}{R:Tv->ay->Prop}
theorem JH {target:Expr}{it acc:ai}(I:Nat->ay->Prop)
  (turn:∀ n s,I n s->aL (aU prog w) A (jC it) (λr s₁=>match r with
   | none=>R (.ok .next) s₁
   | some v=>aL (aU prog w) A (AU target it v) (λ_ s₁'=>aL (aU prog w) A (NP target env v) (λ_ s₂ =>
     aL (aU prog w) A (forIn ifs true λc r=>if r=true then do let ok ← isTrue c env (fQ c env);pure (lA ok) else pure (lA r)) (λok s₃ =>
      if ok=true then aL (aU prog w) A (fQ elt env) (λx s₄ =>
       aL (aU prog w) A (call (.builtin "list.append") [acc,x]) (λ_ s₅=>∃ m,m<n/\I m s₅) (λ_ _=>False) s₄) (λ_ _=>False) s₃
      else ∃ m,m<n/\I m s₃) (λ_ _=>False) s₂) (λ_ _=>False) s₁') (λ_ _=>False) s₁) (λ_ _=>False) s)
  (n:Nat) (h:I n s) :
  kD (aU prog w) A (.compLoop (.ListComp elt [⟨target,iter,ifs,0⟩] scope pos) 0 it acc env) R s:=by
 refine codeAny_loop rfl I (λn s hI=>?_) n h
 show aL _ A ((compTurn (.ListComp elt [⟨target,iter,ifs,0⟩] scope pos) 0 it acc env).onRaise (λx=>do noteFrame x env;theTreesLotGoes x)) _ _ s
 refine wpAny_noted ?_;rw [compTurn_list];refine ae (GD (ae (eJ (turn n s hI) (λr s₁ h₁=>?_) λ_ _ h'=>h'.elim)))
 cases r with
 | none=>exact au h₁
 | some v =>
  refine ae (eJ h₁ (λ_ s₁' h₁'=>?_) λ_ _ h'=>h'.elim);refine ae (eJ h₁' (λ_ s₂ h₂=>ae (eJ h₂ (λok s₃ h₃=>?_) λ_ _ h'=>h'.elim)) λ_ _ h'=>h'.elim)
  cases ok with
  | false=>exact au ⟨rfl,h₃⟩
  | true =>
   exact ae (ae (eJ h₃ (λx s₄ h₄=>ae (eJ h₄ (λ_ s₅ h₅=>au (au ⟨rfl,h₅⟩)) λ_ _ h'=>h'.elim)) λ_ _ h'=>h'.elim))
end
def UV (X:Cx) (ifs:List Expr) (t:TT):Prop :=
 ∀ (pins:List (ah×iW)) (s:ay) (Z:St) (H:Hp) (Q:Bool->Hp->Prop),Inv X pins Z H s->t Z H Q ->
  aL (aU X.prog X.w) X.A (forIn ifs true λc r=>if r=true then do let ok ← isTrue c X.env (fQ c X.env);pure (lA ok) else pure (lA r)) (TP X pins Z Q) X.xe s
def y3:TT:=λ_ H Q=>Q true H
def mf:UV X [] y3:=λ_ _ _ H _ I h=>wpAny_tests_nil ⟨H,I,h⟩
def qX {c:Expr}{t:TT}(h:PT X c t):UV X [c] t:=λpins s Z H Q I q=>wpAny_tests_one (h pins s Z H Q I q)
def mh (own:Nat) (js:List Nat) (wi:TI) (g:TG) (tt:TT) (te:TE):TE:=λZ H Q=>wi Z H λJ H1=>∀ acc,H1 acc=none ->
 ∃ W:Nat->Nat->List V->St->Hp->Prop,(∃ m,W 0 m [] (nK own none++LZ Z js) (upd H1 acc (.lst [])))/\∀ i m ys σ' H',W i m ys σ' H'->H' acc=some (.lst ys) /\
  ((J.stop i H'/\Q (.ref acc) H')\/(J.go i H'/\∀ x H2,J.PX i H' x H2->g x σ' H2 λσ2 H3=>tt σ2 H3 λb H4 =>
   if b=true then te σ2 H4 λy H5=>H5 acc=some (.lst ys)/\ys.length<aX/\∃ m',m'<m/\W (i+1) m' (ys++[y]) σ2 (upd H5 acc (.lst (ys++[y]))) else ∃ m',m'<m/\W (i+1) m' ys σ2 H4))
theorem L0 {wi:TI}{tt:TT}
  {use:Option (ai->N8 Unit)}{Q':ai->ay->Prop}{p:wV}(hcalm:X.calm=true)
  (hi:PI X tg iter wi) (hkind:scope.kind=.function) (hcell:∀ y∈scope.names,y.2≠.cell) (hnames:∀ y∈scope.names,y.2=.local->scope.names.lookup y.1=some .local)
  (hfr:∀ n,(n,bP)∈scope.names->∃ c,X.env.cells.lookup n=some c) (hc:Gu X scope js ys)
  (hg:∀ s0 H0 fp,PG (JG X (own++ys) scope s0 H0 fp) tg g) (ht:∀ s0 H0 fp,UV (JG X (own++ys) scope s0 H0 fp) ifs tt) (he:∀ s0 H0 fp,PE (JG X (own++ys) scope s0 H0 fp) elt te)
  (I:Inv X pins Z H s) (h:mh own.length js wi g tt te Z H Q)
  (hu:∀ (D C:ah) (H':Hp) (s':ay),Inv X pins Z H' s'->Q (.ref D) H'->A3 X pins H' C->(∃ m,s'.heap.Ns C m)->compPost (aU X.prog X.w) X.A X.xe use Q' (.ref D) C (.ok .next) s')
  (hs:∀ x,v9 iter X.env x=pure x) :
  aL (aU X.prog X.w) X.A (comprehension (.ListComp elt [⟨tg,iter,ifs,0⟩] scope pos) scope X.env p (newList []) false (fQ iter X.env) use) Q' X.xe s:=by
 refine wpAny_comprehension_free (g:=⟨tg,iter,ifs,0⟩) (gs:=[]) rfl hs (yh hfr) hkind hnames (ia (hi pins s Z H _ I h) λv s1 h1=>ia h1 λitv s2 h2=>?_);obtain ⟨it,fp,tn,J,H2,e,I2,T,st2,f2,q⟩:=h2;subst e;refine dX (wpAny_newFunctionEnv hcell (by intro y hy;simp at hy) (λh₁ hns₁ hsb₁=>?_) hkind);dsimp only at hns₁ hsb₁ ⊢;have nD:H2 s2.heap.objs.size=none:=I2.fresh;have I3:Inv X pins Z (upd H2 s2.heap.objs.size (.lst [])) { s2 with heap:=s2.heap.push { cls:=.type "list",data:=.seq ([]:List ai).toArray },toks:=s2.toks }:=I2.lnew (its:=[]) .nil (bA _)
 have hlt2:∀ b∈fp,b<s2.heap.objs.size:=λb hb=>let ⟨o,e,_⟩:=T.obj _ _ st2 b hb;aF e
 obtain ⟨W,⟨m0,w0⟩,turn⟩:=q _ nD;generalize hs3:({ s2 with heap:=s2.heap.push { cls:=.type "list",data:=.seq ([]:List ai).toArray },toks:=s2.toks }:ay)=s3 at I3
 have hh3:s2.heap.push { cls:=.type "list",dict:=none,data:=.seq ([]:List ai).toArray }=s3.heap:=by rw [← hs3]
 have hsz3:s3.heap.objs.size=s2.heap.objs.size+1:=by rw [← hh3,jq]
 have hlt3:∀ b∈fp,b<s3.heap.objs.size:=λb hb=>by rw [hsz3];exact tL (hlt2 b hb)
 have f3:∀ b∈fp,A3 X pins (upd H2 s2.heap.objs.size (.lst [])) b:=λb hb=>⟨by rw [aE (aO (hlt2 b hb))];exact (f2 b hb).1,(f2 b hb).2⟩
 have fC:A3 X pins (upd H2 s2.heap.objs.size (.lst [])) s3.heap.objs.size:=I3.NN (aB _) I3.fresh;rw [hh3] at hns₁ hsb₁ ⊢;have hk3:∀ b o,s3.heap.get? b=some o->h₁.get? b=some o:=λb o e=>hsb₁.extBut b o (aO (aF e)) (ao _ e)
 have es4:({ s2 with heap:=h₁,toks:=s2.toks+([]:List (bq×ai)).length }:ay)={ s3 with heap:=h₁,toks:=s2.toks+([]:List (bq×ai)).length }:=by rw [← hs3]
 have I4:=X5 (own:=own) (h1:=h₁) (tk:=s2.toks+([]:List (bq×ai)).length) I3 f3 hlt3 hkind hcell hfr hc hns₁ hk3;have st4:tn 0 h₁:=T.keep _ _ _ st2 λb hb o e=>hk3 b o (by rw [← hh3];exact ao _ e)
 have stat:∀ {H':Hp},(∀ b∈fp,H' b=none)->∀ b∈fp,A3 (JG X (own++ys) scope s3 (upd H2 s2.heap.objs.size (.lst [])) fp) [] H' b:=λhn b hb =>
  ⟨hn b hb,aO (hlt3 b hb),(Ot (N:=own++ys) I3 f3 hlt3 hkind hcell hfr).Ij b hb,.inl hb,λx c e=>((Ot (N:=own++ys) I3 f3 hlt3 hkind hcell hfr).Z7 b hb).2 x c e,λp hp=>nomatch hp⟩
 have UC:∀ s4:ay,s4={ s3 with heap:=h₁,toks:=s2.toks+([]:List (bq×ai)).length } ->
   kD (aU X.prog X.w) X.A (.compLoop (.ListComp elt [⟨tg,iter,ifs,0⟩] scope pos) 0 (.ref it) (.ref s2.heap.objs.size) (compEnvC scope (qa X.env.cells scope.names []) s3.heap.objs.size X.env))
    (compPost (aU X.prog X.w) X.A X.xe use Q' (.ref s2.heap.objs.size) s3.heap.objs.size) s4:=by
  rintro s4 rfl
  refine JH (λn s'=>∃ i ys' σ' H',Inv (JG X (own++ys) scope s3 (upd H2 s2.heap.objs.size (.lst [])) fp) [] σ' H' s'/\tn i s'.heap/\(∀ b∈fp,H' b=none)/\W i n ys' σ' H') ?_ m0
   ⟨0,[],_,_,I4,st4,λb hb=>(f3 b hb).1,w0⟩
  rintro n s5 ⟨i,ys',σ5,H5,I5,st5,fr5,w5⟩;obtain ⟨hacc,rest⟩:=turn i n ys' σ5 H5 w5
  rcases rest with ⟨stop,qn⟩|⟨go,step⟩
  .refine ia (T.done (JG X (own++ys) scope s3 (upd H2 s2.heap.objs.size (.lst [])) fp) rfl rfl rfl hcalm i [] s5 σ5 H5 _ I5 (stat fr5) st5 stop) λr s6 ⟨hr,I6⟩=>?_;subst hr;exact hu _ _ H5 s6 (UU I3 f3 I6) qn ⟨I6.free,fC.2⟩ (let ⟨m,hn,_⟩:=I6.loc;⟨m,hn⟩)
  .refine ia (T.item (JG X (own++ys) scope s3 (upd H2 s2.heap.objs.size (.lst [])) fp) rfl rfl rfl hcalm i [] s5 σ5 H5 _ I5 (stat fr5) st5 go) λr s6 ⟨u,hr,h6⟩=>?_;subst hr;refine ia h6 λ_ s7 ⟨x,H7,I7,r7,y7,st7,fr7⟩=>?_;have I7':=I7.pinned (stat fr7) (T.obj _ _ st7);refine ia (hg _ _ _ _ s7 σ5 H7 x u _ I7' r7 (step x H7 y7)) λ_ s8 ⟨σ8,H8,I8,q8⟩=>?_;refine ia (ht _ _ _ _ s8 σ8 H8 _ I8 q8) λok s9 ⟨H9,I9,q9⟩=>?_
   have kept:∀ {s10:ay}{σ10:St}{H10:Hp},Inv (JG X (own++ys) scope s3 (upd H2 s2.heap.objs.size (.lst [])) fp) ([]++D9 fp s7.heap) σ10 H10 s10 ->
     Inv (JG X (own++ys) scope s3 (upd H2 s2.heap.objs.size (.lst [])) fp) [] σ10 H10 s10/\tn (i+1) s10.heap/\∀ b∈fp,H10 b=none:=λ{s10 σ10 H10} I10=>by
    refine ⟨I10.AD,T.keep _ _ _ st7 λb hb o e=>(I10.pin (b,o) (bx _ (bx _ (se hb e)))).1,λb hb=>?_⟩;obtain ⟨o,e,d⟩:=T.obj _ _ st7 b hb;exact (I10.pin (b,o) (bx _ (bx _ (se hb e)))).2.1
   cases ok with
   | false =>
    simp only [ck,if_false] at q9 ⊢;obtain ⟨m',hm,w9⟩:=q9;obtain ⟨k1,k2,k3⟩:=kept I9
    exact ⟨m',hm,i+1,ys',σ8,H9,k1,k2,k3,w9⟩
   | true =>
    simp only [if_true] at q9 ⊢;refine ia (he _ _ _ _ s9 σ8 H9 _ I9 q9) λyv s10 ⟨y,H10,I10,r10,a10,l10,m',hm,w10⟩=>?_;refine ia (iO (X:=JG X (own++ys) scope s3 (upd H2 s2.heap.objs.size (.lst [])) fp) _ s10 σ8 H10 (.ref s2.heap.objs.size) [y] (.ref s2.heap.objs.size) [yv] (λv H'=>v=.non/\H'=upd H10 s2.heap.objs.size (.lst (ys'++[y]))) I10 rfl (.cons r10 .nil) ⟨_,_,_,rfl,rfl,a10,l10,rfl,rfl⟩) λ_ s11 ⟨_,H11,I11,_,_,e11⟩=>?_;subst e11;obtain ⟨k1,k2,k3⟩:=kept I11;exact ⟨m',hm,i+1,_,σ8,_,k1,k2,k3,w10⟩
 have fin:=codeAny_compStart_list (R:=compPost (aU X.prog X.w) X.A X.xe use Q' (.ref s2.heap.objs.size) s3.heap.objs.size) (UC _ rfl) (T.self X.A 0 { s3 with heap:=h₁,toks:=s2.toks+([]:List (bq×ai)).length } _ _ st4 (UC _ rfl));rw [← hs3] at fin ⊢;exact fin
theorem y4 (I:Inv X pins Z H s) (h:(scope.names.all λy=>y.2 != .free || X.env.kindOf y.1 == some .cell || X.env.kindOf y.1 == some .free)=true) :
  ∀ n,(n,bP)∈scope.names->∃ c,X.env.cells.lookup n=some c:=λn hn=>by
 have q:=aad.mp h _ hn;simp only [bne_self_eq_false,Bool.false_or,Bool.or_eq_true,beq_iff_eq] at q;exact I.ok.has n q
theorem lq (own:List bq) {ys:List bq}(js:List Nat) {wi:TI}{g:TG}{tt:TT}{te:TE}(hcalm:X.calm=true)
  (hi:PI X tg iter wi) (hc:Gu X scope js ys)
  (hg:∀ s0 H0 fp,PG (JG X (own++ys) scope s0 H0 fp) tg g) (ht:∀ s0 H0 fp,UV (JG X (own++ys) scope s0 H0 fp) ifs tt) (he:∀ s0 H0 fp,PE (JG X (own++ys) scope s0 H0 fp) elt te)
  (hfr:(scope.names.all λy=>y.2 != .free || X.env.kindOf y.1 == some .cell || X.env.kindOf y.1 == some .free)=true:=by rfl)
  (hkind:scope.kind=.function:=by rfl) (hcell:∀ y∈scope.names,y.2≠.cell:=by decide +kernel) (hnames:∀ y∈scope.names,y.2=.local->scope.names.lookup y.1=some .local:=by decide +kernel)
  (hs:∀ x,v9 iter X.env x=pure x:=by intro _;rfl):PE X (.ListComp elt [⟨tg,iter,ifs,0⟩] scope pos) (mh own.length js wi g tt te):=by
 intro pins s Z H Q I h;rw [eval_ListComp];refine L0 (use:=none) hcalm hi hkind hcell hnames (y4 I hfr) hc hg ht he I h (λD C H' s' I' q fC ⟨m,hn⟩=>⟨m,hn,λh' hs'=>⟨.ref D,H',?_,rfl,q⟩⟩) hs;exact I'.turned (t':=s'.toks) (λb o hb e=>(hs'.2 b hb).trans e) fC.1 fC.2.1 fC.2.2.2.1 fC.2.2.2.2.1 fC.2.2.2.2.2
theorem JI {spos py:wV}{i:Nat}(own:List bq) {ys:List bq}(js:List Nat) {wi:TI}{g:TG}{tt:TT}{te:TE}(hcalm:X.calm=true)
  (hN:X.N.Nodup) (hy:X.N[i]?=some y) (hl:X.env.scope.names.lookup y=some .local)
  (hi:PI X tg iter wi) (hc:Gu X scope js ys)
  (hg:∀ s0 H0 fp,PG (JG X (own++ys) scope s0 H0 fp) tg g) (ht:∀ s0 H0 fp,UV (JG X (own++ys) scope s0 H0 fp) ifs tt) (he:∀ s0 H0 fp,PE (JG X (own++ys) scope s0 H0 fp) elt te)
  (hfr:(scope.names.all λy=>y.2 != .free || X.env.kindOf y.1 == some .cell || X.env.kindOf y.1 == some .free)=true:=by rfl)
  (hsw:DR (.ListComp elt [⟨tg,iter,ifs,0⟩] scope pos) (some (.Name y py)) spos.line X.env=pure true:=by rfl)
  (hkind:scope.kind=.function:=by rfl) (hcell:∀ y∈scope.names,y.2≠.cell:=by decide +kernel) (hnames:∀ y∈scope.names,y.2=.local->scope.names.lookup y.1=some .local:=by decide +kernel)
  (hs:∀ x,v9 iter X.env x=pure x:=by intro _;rfl) :
  PS X (.Assign [.Name y py] (.ListComp elt [⟨tg,iter,ifs,0⟩] scope pos) spos) (dC (mh own.length js wi g tt te) (bj i)):=by
 intro pins s Z H D I h;rw [exec_Assign_Name_used _ _ _ _ hsw];refine ae (GD (ae ?_))
 show aL _ X.A (do let _ ← comprehension (.ListComp elt [⟨tg,iter,ifs,0⟩] scope pos) scope X.env _ (newList []) false (fQ iter X.env) (some (NP (.Name y py) X.env))) _ _ s
 refine ae (eJ (L0 (Q:=λx H1=>bj i x Z H1 D.nx) (Q':=λ_ s'=>SP X pins D .next s') (use:=some (NP (.Name y py) X.env)) hcalm hi hkind hcell hnames (y4 I hfr) hc hg ht he I h (λDd C H' s' I' q fC ⟨m,hn⟩=>?_) hs) (λ_ s' hq=>au (au hq)) λ_ _ e=>e)
 show aL _ X.A (NP (.Name y py) X.env (.ref Dd)) _ _ _
 refine wpAny_assign_Name (Iw (v:=.ref Dd) I' hN hy (.inl hl) rfl (λs'' I'' ⟨a,sb,ha⟩=>?_) (.inr hl))
 have hCa:C≠a:=by
  rcases ha with z|z
  .rw [z];exact fC.2.1
  .exact Ne.symm (fC.2.2.2.2.1 _ _ z)
 refine ⟨m,hn.sameBut sb hCa,λh' hs'=>?_⟩;exact ⟨_,H',I''.turned (t':=s''.toks) (λb o hb e=>(hs'.2 b hb).trans e) fC.1 fC.2.1 fC.2.2.2.1 fC.2.2.2.2.1 fC.2.2.2.2.2,q⟩
mutual
def Rep (K:aa) (H:Hp):PyData->V->Prop
 | .none,v=>v=.non
 | .bool b,v=>v=.bl b
 | .int i,v=>v=.int i
 | .str x,v=>v=.str x
 | .list ds,v=>∃ a xs,v=.ref a/\dh K H a xs/\fF K H ds xs
 | .tuple ds,v=>∃ a xs,v=.ref a/\mX K H a xs/\fF K H ds xs
 | .dict _,_=>False
def fF (K:aa) (H:Hp):List PyData->List V->Prop
 | [],vs=>vs=[]
 | d::ds,vs=>∃ v r,vs=v::r/\Rep K H d v/\fF K H ds r
end
mutual
theorem Rep.reads (I:Inv X pins Z H s):∀ (d:PyData) (v:V) (u:ai),Rep X.K H d v->RelV v u->∃ as,Reads s.heap u d as
 | .none,v,u,h,r=>by
  cases (show v=.non by simpa only [Rep] using h)
  cases (show u=cu from r);exact ⟨_,.none⟩
 | .bool b,v,u,h,r=>by
  cases (show v=.bl b by simpa only [Rep] using h)
  cases (show u=vS b from r);exact ⟨_,.bool b⟩
 | .int i,v,u,h,r=>by
  cases (show v=.int i by simpa only [Rep] using h)
  obtain ⟨t,rfl⟩:=(show ∃ t,u=fc i t from r);exact ⟨_,.int i t⟩
 | .str x,v,u,h,r=>by
  cases (show v=.str x by simpa only [Rep] using h)
  obtain ⟨t,rfl⟩:=(show ∃ t,u=qx x t from r);exact ⟨_,.str x t⟩
 | .list ds,v,u,h,r=>by
  obtain ⟨a,xs,rfl,hq,ha⟩:=(show ∃ a xs,v=.ref a/\dh X.K H a xs/\fF X.K H ds xs by simpa only [Rep] using h)
  cases (show u=ax a from r);obtain ⟨its,rv,⟨o,n,e1,e2,_,e3⟩,_⟩:=I.list hq;obtain ⟨as,ra⟩:=fF.reads I ds xs its ha rv
  exact ⟨_,.list e1 e2 e3 (by simpa using ra)⟩
 | .tuple ds,v,u,h,r=>by
  obtain ⟨a,xs,rfl,hq,ha⟩:=(show ∃ a xs,v=.ref a/\mX X.K H a xs/\fF X.K H ds xs by simpa only [Rep] using h)
  cases (show u=ax a from r);obtain ⟨its,rv,⟨o,e1,e2,n,e3⟩,_⟩:=I.tuple hq;obtain ⟨as,ra⟩:=fF.reads I ds xs its ha rv
  exact ⟨_,.tuple e1 e2 e3 (by simpa using ra)⟩
 | .dict _,v,u,h,r=>absurd h (by simp only [Rep];exact λz=>z)
theorem fF.reads (I:Inv X pins Z H s):∀ (ds:List PyData) (vs:List V) (us:List ai),fF X.K H ds vs->Vals vs us->∃ as,ReadsAll s.heap us ds as
 | [],vs,us,h,r=>by
  cases (show vs=[] by simpa only [fF] using h)
  cases r;exact ⟨_,.nil⟩
 | d::ds,vs,us,h,r=>by
  obtain ⟨v,rr,rfl,h1,h2⟩:=(show ∃ v r,vs=v::r/\Rep X.K H d v/\fF X.K H ds r by simpa only [fF] using h)
  cases r with
  | cons ru rs =>
   obtain ⟨as,r1⟩:=Rep.reads I d v _ h1 ru;obtain ⟨bs,r2⟩:=fF.reads I ds rr _ h2 rs;exact ⟨_,.cons r1 r2⟩
end
def bS.abI (e:bS H H') (h:mX K H a xs):mX K H' a xs:=by
 rcases h with (h|⟨o,h⟩)|h
 .exact .inl (.inl (e _ _ h))
 .exact .inl (.inr ⟨o,e _ _ h⟩)
 .exact .inr h
def fF.cons {d:PyData}{vs:List V}(h1:Rep K H d v) (h2:fF K H ds vs):fF K H (d::ds) (v::vs):=by
 simp only [fF];exact ⟨v,vs,rfl,h1,h2⟩
def fF.nil:fF K H [] []:=by simp only [fF]
def Rep.int (i:Int):Rep K H (.int i) (.int i):=by simp only [Rep]
def Rep.lst (h:dh K H a xs) (r:fF K H ds xs):Rep K H (.list ds) (.ref a):=by
 simp only [Rep];exact ⟨a,xs,rfl,h,r⟩
def Rep.tup (h:mX K H a xs) (r:fF K H ds xs):Rep K H (.tuple ds) (.ref a):=by
 simp only [Rep];exact ⟨a,xs,rfl,h,r⟩
theorem fF.ints:∀ (ns:List Int),fF K H (ns.map .int) (ns.map V.int)
 | []=>fF.nil
 | n::ns=>fF.cons (Rep.int n) (fF.ints ns)
structure yi (d:PyData):Prop where
 lay:d.canLay0=true
 dep:d.depth<=60
def X6 (K:aa) (neg:Bool):R2:=λx y H Q=>∃ dx dy,Rep K H dx x/\Rep K H dy y/\yi dx/\yi dy/\Q (.bl (if neg then !PyData.eqv dx dy else fi dx dy)) H
theorem aaL (hu:X.A.units+64<iM):rX X (dG .Eq) (X6 X.K false):=by
 intro pins s Z H x y v u Q I rx ry h;obtain ⟨dx,dy,h1,h2,f1,f2,q⟩:=h;obtain ⟨as,r1⟩:=Rep.reads I dx x v h1 rx;obtain ⟨bs,r2⟩:=Rep.reads I dy y u h2 ry;have:=f1.dep;exact SeqAt.compareEq_reads r1 r2 f1.lay f2.lay (aY (BQ (bF (Nat.min_le_left _ _) (bF f1.dep (by decide))) _) hu) ⟨.bl _,H,I,rfl,q⟩
theorem aaM (hu:X.A.units+64<iM):rX X (dG .NotEq) (X6 X.K true):=by
 intro pins s Z H x y v u Q I rx ry h;obtain ⟨dx,dy,h1,h2,f1,f2,q⟩:=h;obtain ⟨as,r1⟩:=Rep.reads I dx x v h1 rx;obtain ⟨bs,r2⟩:=Rep.reads I dy y u h2 ry;exact SeqAt.compareNe_reads r1 r2 f1.lay f2.lay (aY (BQ (bF (Nat.min_le_left _ _) (bF f1.dep (by decide))) _) hu) ⟨.bl _,H,I,rfl,q⟩
def lR (K:aa):R2:=λx y H Q=>rEq x y H Q\/X6 K false x y H Q
def CY (K:aa):R2:=λx y H Q=>rNe x y H Q\/X6 K true x y H Q
def yj (hu:X.A.units+64<iM):rX X (dG .Eq) (lR X.K):=acm.or (aaL hu)
def Er (hu:X.A.units+64<iM):rX X (dG .NotEq) (CY X.K):=acn.or (aaM hu)
def aaN (K:aa) (neg:Bool):R2:=λx y H Q=>∃ d ds,Rep K H d x/\(Rep K H (.list ds) y\/Rep K H (.tuple ds) y)/\yi d/\f9 ds=true/\Q (.bl (if neg then !(ds.any λe=>fi e d) else ds.any λe=>fi e d)) H
theorem aaO (hu:X.A.units+64<iM):rX X (dG .In) (aaN X.K false):=by
 intro pins s Z H x y v u Q I rx ry h;obtain ⟨d,ds,h1,h2,f1,f2,q⟩:=h;obtain ⟨as,r1⟩:=Rep.reads I d x v h1 rx;have hb:X.A.units+1+min (ik ds) d.depth<iM:=aY (by have:=f1.dep;lia) hu
 rcases h2 with h2|h2
 .obtain ⟨bs,r2⟩:=Rep.reads I _ y u h2 ry;exact SeqAt.in_list_reads r2 r1 f2 f1.lay hb ⟨.bl _,H,I,rfl,q⟩
 .obtain ⟨bs,r2⟩:=Rep.reads I _ y u h2 ry;exact SeqAt.in_tuple_reads r2 r1 f2 f1.lay hb ⟨.bl _,H,I,rfl,q⟩
theorem R0 (hu:X.A.units+64<iM):rX X (dG .NotIn) (aaN X.K true):=by
 intro pins s Z H x y v u Q I rx ry h;obtain ⟨d,ds,h1,h2,f1,f2,q⟩:=h;obtain ⟨as,r1⟩:=Rep.reads I d x v h1 rx;have hb:X.A.units+1+min (ik ds) d.depth<iM:=aY (by have:=f1.dep;lia) hu
 rcases h2 with h2|h2
 .obtain ⟨bs,r2⟩:=Rep.reads I _ y u h2 ry;exact SeqAt.notIn_list_reads r2 r1 f2 f1.lay hb ⟨.bl _,H,I,rfl,q⟩
 .obtain ⟨bs,r2⟩:=Rep.reads I _ y u h2 ry;exact SeqAt.notIn_tuple_reads r2 r1 f2 f1.lay hb ⟨.bl _,H,I,rfl,q⟩
def aaP (neg:Bool):R2:=λy x H Q=>∃ a o,x=.ref a/\wU H a y o/\Q (.bl (if neg then !o.isSome else o.isSome)) H
def aaQ (hu:X.A.units+64<iM):rX X (dG .In) (aaP false):=by
 intro pins s Z H y x iv u Q I ry rx h;obtain ⟨a,o,rfl,g,q⟩:=h;cases rx
 exact d_in (aY (by lia) hu) I g ry λs' I'=>⟨.bl _,H,I',rfl,q⟩
def R3 (hu:X.A.units+64<iM):rX X (dG .NotIn) (aaP true):=by
 intro pins s Z H y x iv u Q I ry rx h;obtain ⟨a,o,rfl,g,q⟩:=h;cases rx
 exact X2 (aY (by lia) hu) I g ry λs' I'=>⟨.bl _,H,I',rfl,q⟩
def A7 (K:aa) (neg:Bool):R2:=λx y H Q=>aaN K neg x y H Q\/aaP neg x y H Q
def UW (hu:X.A.units+64<iM):rX X (dG .In) (A7 X.K false):=(aaO hu).or (aaQ hu)
def IJ (hu:X.A.units+64<iM):rX X (dG .NotIn) (A7 X.K true):=(R0 hu).or (R3 hu)
def jf:R2:=λx y H Q=>xk (λi j=>.int (i+j)) x y H Q\/rCat x y H Q
def y6:rX X (tY .Add) jf:=aaA.or aaJ
def rIxD:R2:=λx y H Q=>∃ a v,x=.ref a/\wU H a y (some v)/\Q v H
def X7 (hu:X.A.units+64<iM):YM X rIxD:=by
 intro value slice pins s Z H x y v u Q I rx ry h hs;obtain ⟨a,z,rfl,g,q⟩:=h;cases rx;exact TB (LU I g) Js.lookup (IG (aY (by lia) hu) I g ry λw' s' I' r'=>⟨z,H,I',r',q⟩) hs
def eU (K:aa):R2:=λx y H Q=>(rIxL K x y H Q\/rIxT K x y H Q)\/rIxD x y H Q
def A8 (hu:X.A.units+64<iM):YM X (eU X.K):=(X1.or aaE).or (X7 hu)
def Zm:V->V->V->Hp->(Hp->Prop)->Prop:=λo i v H Q=>∃ a H',o=.ref a/\AC H a i v H'/\Q H'
def set_dict (hu:X.A.units+64<iM):XC X Zm:=by
 intro pins s Z H o i v ov iv u Q I ro ri rv h;obtain ⟨a,H',rfl,g,q⟩:=h;cases ro
 exact IH (aY (by lia) hu) I g ri rv λs' I'=>⟨H',I',q⟩
def uw:V->V->V->Hp->(Hp->Prop)->Prop:=λo i v H Q=>Zh o i v H Q\/Zm o i v H Q
def Zo (hu:X.A.units+64<iM):XC X uw:=by
 intro pins s Z H o i v ov iv u Q I ro ri rv h
 rcases h with h|h
 .exact UQ pins s Z H o i v ov iv u Q I ro ri rv h
 .exact set_dict hu pins s Z H o i v ov iv u Q I ro ri rv h
def JJ (K:aa):List V->Hp->VK->Prop:=λxs H Q=>(∃ p ys,xs=[.ref p]/\(dh K H p ys\/mX K H p ys)/\Q (.int ys.length) H)\/(∃ a kvs,xs=[V.ref a]/\H a=some (.dK kvs)/\Q (.int kvs.length) H)
def IK:oI X (.builtin "len") (JJ X.K):=JC.or RY
def R8 (K:aa):List V->Hp->VK->Prop:=λxs H Q=>∃ x T t b,xs=[x,.ty T]/\yX K H x t/\bZ K t (.type T)=some b/\Q (.bl b) H
theorem Es:oI X (.builtin "isinstance") (R8 X.K):=by
 intro pins s Z H xs us Q I r h;obtain ⟨x,T,t,b,rfl,ty,e,q⟩:=h;obtain ⟨u,w',rfl,ru,rw'⟩:=vals2 r;cases (show w'=dI T from rw')
 exact RR I ru ty e λtk=>⟨.bl b,H,I.tok tk,rfl,q⟩
def Inv.vK (I:Inv X pins Z H s):∃ m,Fr X.base X.env.locals s.heap m/\rQ X.base X.env.locals s.heap (lX X.base s.heap X.env.locals) :=
 let ⟨m,F⟩:=I.fr
 ⟨m,F,Us⟩
section
variable {D:r9}{ta tb:TE}{t u:TS}{c c':TT}{tA:TA}{QT:Bool->Hp->Prop}{QA:List V->Hp->Prop}
def pC (h:t { D with nx:=u D } Z H):bH t u D Z H:=h
def acy (h:te Z H λx H1=>g x Z H1 D.nx):dC te g D Z H:=h
def X8 {i:Nat}(h:R (Z.set i (some v)) H):bj i v Z H R:=h
def aaR {ti:TE}{ts:XB}(h:to Z H λo H1=>ti Z H1 λi H2=>ts o i v H2 λH3=>R Z H3):D7 to ti ts v Z H R:=h
def Zp {i:Nat}(h:Z[i]?=some (some v)) (k:Q v H):ak i Z H Q:=⟨v,h,k⟩
def x_c (k:Q v H):tC v Z H Q:=k
def x_op {r:R2}(h:ta Z H λx H1=>tb Z H1 λy H2=>r x y H2 Q):dt r ta tb Z H Q:=h
def x_un {r:V->Hp->VK->Prop}(h:ta Z H λx H1=>r x H1 Q):tUn r ta Z H Q:=h
def acz (h:te Z H D.rt):ee te D Z H:=h
def aaS (h:te Z H λ_ H1=>D.nx Z H1):dr te D Z H:=h
def aaT (h:D.nx Z H):eC D Z H:=h
def Zq (h:c Z H λb H1=>if b=true then t D Z H1 else u D Z H1):gR c t u D Z H:=h
def x_if (h:c Z H λb H1=>if b=true then ta Z H1 Q else tb Z H1 Q):Zg c ta tb Z H Q:=h
def aaU (h:te Z H λx H'=>∃ k,x=.bl k/\QT k H'):eP te Z H QT:=h
def acA (h:c Z H λb H1=>if b=true then c' Z H1 QT else QT false H1):Od c c' Z H QT:=h
def x_or (h:c Z H λb H1=>if b=true then QT true H1 else c' Z H1 QT):tOr c c' Z H QT:=h
def acB (h:c Z H λb H1=>QT (!b) H1):AY c Z H QT:=h
def aaV (h:ta Z H λx H1=>∃ c,x=.bl c/\if c=true then tb Z H1 Q else Q (.bl false) H1):BV ta tb Z H Q:=h
def aaW (h:ta Z H λx H1=>∃ c,x=.bl c/\Q (.bl (!c)) H1):Qg ta Z H Q:=h
def acC (h:QT true H):y3 Z H QT:=h
def Zr (h:QA [] H):aQ Z H QA:=h
def Ou (h:te Z H λx H1=>tA Z H1 λxs H2=>QA (x::xs) H2):aj te tA Z H QA:=h
def acD (h:tA Z H λxs H1=>xs.length<=aX/\∀ p,H1 p=none->Q (.ref p) (upd H1 p (.tup xs))):lZ tA Z H Q:=h
def acE (h:tA Z H λxs H1=>xs.length<=aX/\∀ p,H1 p=none->Q (.ref p) (upd H1 p (.lst xs))):l8 tA Z H Q:=h
def aaX {dvs:List V}{E:XK}(h:tA Z H λvs H1=>sp (vs++dvs) H1 Q E):bX sp dvs E tA Z H Q:=h
def x_cb {r:List V->Hp->VK->Prop}(h:tA Z H λvs H1=>r vs H1 Q):qC r tA Z H Q:=h
def x_bm {T:String}{r:V->List V->Hp->VK->Prop}(h:to Z H λx H1=>tyV K T x H1/\tA Z H1 λxs H2=>r x xs H2 Q):AQ K T r to tA Z H Q:=h
def x_sl {r:V->Option Int->Option Int->Hp->VK->Prop}{tl th:TO}(h:te Z H λx H1=>tl Z H1 λl H2=>th Z H2 λu H3=>r x l u H3 Q):Qm r te tl th Z H Q:=h
def UX {R:Option Int->Hp->Prop}(h:R none H):md Z H R:=h
def aaY {R:Option Int->Hp->Prop}(h:te Z H λx H1=>∃ i,x=.int i/\R (some i) H1):nQ te Z H R:=h
def acG {g:Int->Int->V}(h:Q (g i j) H):xk g (.int i) (.int j) H Q:=⟨i,j,rfl,rfl,h⟩
def x_rI {C:Int->Int->Prop}{g:Int->Int->V}(hc:C i j) (h:Q (g i j) H):rI C g (.int i) (.int j) H Q:=⟨i,j,rfl,rfl,hc,h⟩
def aaZ (h:Q (.int (i+j)) H):jf (.int i) (.int j) H Q:=.inl ⟨i,j,rfl,rfl,h⟩
def acH (h:Q (.bl (decide (V.int i=V.int j))) H):lR K (.int i) (.int j) H Q:=.inl ⟨rfl,h⟩
def nR (h:dh K H p xs) (e:RU xs i=some v) (k:Q v H):eU K (.ref p) (.int i) H Q:=.inl (.inl ⟨p,xs,i,v,rfl,rfl,h,e,k⟩)
def kY (h:mX K H p xs) (e:RU xs i=some v) (k:Q v H):eU K (.ref p) (.int i) H Q:=.inl (.inr ⟨p,xs,i,v,rfl,rfl,h,e,k⟩)
def JK (h:dh K H p xs) (k:Q (.int xs.length) H):JJ K [.ref p] H Q:=.inl ⟨p,xs,rfl,.inl h,k⟩
def qY {l:ah}{y:V}(h:H l=some (.lst xs)) (hl:xs.length<aX) (k:Q .non (upd H l (.lst (xs++[y])))):iG (.ref l) [y] H Q:=⟨l,xs,y,rfl,rfl,h,hl,k⟩
def aa0 {k:Int}{j:Nat}{R:Hp->Prop}(h:H p=some (.lst xs)) (e:RT xs.length k=some j) (q:R (upd H p (.lst (xs.set j v)))):uw (.ref p) (.int k) v H R:=.inl ⟨p,xs,k,j,rfl,rfl,h,e,q⟩
def wx {p A B:Prop} [Decidable p] (h1:p->A) (h2:¬ p->B):if decide p=true then A else B:=by
 by_cases h:p
 .rw [if_pos (decide_eq_true h)];exact h1 h
 .rw [if_neg (by rw [decide_eq_false h];decide)];exact h2 h
def j4:(V.int i=V.int j)↔i=j:=⟨λh=>by injection h,λh=>by rw [h]⟩
end
end L2
namespace BootT
open PySem
def len:dO "len"=some (.builtin "len"):=by decide +kernel
def hU:dO "isinstance"=some (.builtin "isinstance"):=by decide +kernel
def Et:dO "sorted"=some (.builtin "sorted"):=by decide +kernel
def min:dO "min"=some (.builtin "min"):=by decide +kernel
def max:dO "max"=some (.builtin "max"):=by decide +kernel
def int:dO "int"=some (.type "int"):=by decide +kernel
def bool:dO "bool"=some (.type "bool"):=by decide +kernel
def list:dO "list"=some (.type "list"):=by decide +kernel
end BootT
namespace L2
variable {H:Hp}{K:aa}{Z:St}{n j m:Nat}{x y:V}{i:Int}{te ta tl:TE}{g:TG}{xs zs:List V}{R:St->Hp->Prop}{l c a b:ah}{Q:VK}{tg:Expr}{tt:TT}{D:r9}{wi:TI}{d:PyData}{ds:List PyData}{o:HO}{X:Cx}
def Eu:List V->Hp->VK->Prop:=λxs H Q=>∃ i j,xs=[.int i,.int j]/\Q (.int (if j<i then j else i)) H
def Ew:List V->Hp->VK->Prop:=λxs H Q=>∃ i j,xs=[.int i,.int j]/\Q (.int (if j>i then j else i)) H
def lS (K:aa) (ta:TE):TT:=λZ H Q=>ta Z H λx H'=>∃ k,XO K x H' k/\Q k H'
def Zs {Q:Bool->Hp->Prop}(h:ta Z H λx H'=>∃ k,XO K x H' k/\Q k H'):lS K ta Z H Q:=h
section
variable {a:Expr}
def mi (ha:PE X a ta) (he:∀ whole,isTrue a X.env whole=(do let v ← whole;v8 a.pos;jU [v] (truthy v))):PT X a (lS X.K ta):=UG ha he
end
def Itd (a:ah) (kvs:List (gn×V)) (o:iW):It :=
 ⟨λi H=>i<kvs.length/\H a=some (.frz o (.dK kvs)),λi H x H'=>H'=H/\∃ k v,kvs[i]?=some (k,v)/\x=kV k,λi H=>kvs.length<=i/\H a=some (.frz o (.dK kvs))⟩
def aa1 {k:gn}{u:ai}(h:DX k u=true):RelV (kV k) u:=by
 rcases iu h with ⟨i,t,rfl,rfl⟩|⟨x,t,rfl,rfl⟩
 .exact ⟨t,rfl⟩
 .exact ⟨t,rfl⟩
theorem KV.get {kvs:List (gn×V)}{vs:List (gn×ai)}(r:KV kvs vs) {i:Nat}{k:gn}{v:V}(e:kvs[i]?=some (k,v)):∃ u,vs[i]?=some (k,u)/\RelV v u:=by
 unfold KV at r
 induction r generalizing i with
 | nil=>simp at e
 | @cons p q ps qs h t ih =>
  cases i with
  | zero =>
   simp at e;subst e;obtain ⟨q1,q2⟩:=q;obtain ⟨h1,h2⟩:=h;simp only at h1 h2;subst h1
   exact ⟨q2,rfl,h2⟩
  | succ i =>
   obtain ⟨u,e1,e2⟩:=ih (by simpa using e);exact ⟨u,by simpa using e1,e2⟩
theorem R9 {P:bQ}{w:cU}(a it:ah) (o:iW) (kvs:List (gn×V)) (vs:List (gn×ai)) (ep:Nat) (rel:KV kvs vs)
  (od:∀ h:cJ,h.get? a=some o->h.DictAt (gj P w) a vs ep):Oh P w K tg (Itd a kvs o) [it] it (λi h=>h.IsKeyIter it a i vs.length ep) where
 mem:=by simp
 obj:=λi h st b hb=>by
  have e:b=it:=by simpa using hb
  subst e;obtain ⟨o,e,c,d⟩:=st;exact ⟨o,e,λv z=>by rw [d] at z;cases z⟩
 keep:=λi h h' st k=>st.at λo e=>k it (by simp) o e
 item:=by
  intro X hP hw hK hc i pins s Z H E I hf st hg;subst hP hw hK;obtain ⟨hlt,hq⟩:=hg
  obtain ⟨e0,_⟩:=(show fv X.prog X.w H s.heap a (.frz o (.dK kvs)) from I.eV a _ hq)
  obtain ⟨⟨k,v⟩,hx⟩:∃ p,kvs[i]?=some p:=⟨kvs[i],by simp [hlt]⟩
  obtain ⟨u,hu,ru⟩:=rel.get hx;obtain ⟨f0,f1,f2,f3,f4,f5⟩:=hf it (by simp);refine wpAny_pyNext_dict_item st (od _ e0) hu λkey h' hkey st' sb=>?_;have I1:Inv X pins Z H { s with heap:=h' }:=I.turned (t':=s.toks) (λb o hb e=>(sb.2 b hb).trans e) f0 f1 f3 f4 f5;obtain ⟨o',e,c,d⟩:=id st';exact ⟨key,rfl,LJ (s:={ s with heap:=h' }) e c d (by decide) ⟨kV k,H,I1,aa1 hkey,⟨rfl,k,v,hx,rfl⟩,st',λb hb=>(hf b hb).1⟩⟩
 done:=by
  intro X hP hw hK hc i pins s Z H E I hf st hg;subst hP hw hK;obtain ⟨hle,hq⟩:=hg
  obtain ⟨e0,_⟩:=(show fv X.prog X.w H s.heap a (.frz o (.dK kvs)) from I.eV a _ hq)
  obtain ⟨f0,f1,f2,f3,f4,f5⟩:=hf it (by simp);have hl:=rel.length
  exact wpAny_pyNext_dict_end (I.ok.hd hc) st (od _ e0) (by simp;lia) λh' eb=>⟨rfl,I.turned (t':=s.toks) (λb o hb e=>eb b o hb e) f0 f1 f3 f4 f5⟩
 self:=λ_ _ _ _ _ st h=>DB st h
def mP (K:aa) (tl:TE):TI:=λZ H R=>tl Z H λx H1=>∃ a,x=.ref a/\(((∃ xs,dh K H1 a xs)/\R (Ua K a) H1)\/((∃ xs,mX K H1 a xs)/\R (Itt K a) H1) \/
 ∃ kvs,H1 a=some (.dK kvs)/\∀ o,R (Itd a kvs o) (upd H1 a (.frz o (.dK kvs))))
theorem aa2 {R:It->Hp->Prop}(h:tl Z H λx H1=>∃ a,x=.ref a/\(((∃ xs,dh K H1 a xs)/\R (Ua K a) H1)\/((∃ xs,mX K H1 a xs)/\R (Itt K a) H1) \/
 ∃ kvs,H1 a=some (.dK kvs)/\∀ o,R (Itd a kvs o) (upd H1 a (.frz o (.dK kvs))))):mP K tl Z H R:=h
theorem lC {l:Expr}(hl:PE X l tl):PI X tg l (mP X.K tl):=by
 intro pins s Z H R I h;refine ia (hl pins s Z H _ I h) λv s1 ⟨x,H1,I1,r1,q1⟩=>?_;obtain ⟨a,e,q1⟩:=q1;subst e;cases r1
 rcases q1 with ⟨⟨xs,hq⟩,q⟩|⟨⟨xs,hq⟩,q⟩|⟨kvs,hq,q⟩
 .obtain ⟨its,rv,p,hz⟩:=I1.list hq;refine wpAny_pyIter_list p.isList ?_;refine ⟨s1.heap.objs.size,[s1.heap.objs.size],_,_,H1,rfl,I1.kept (t':=s1.toks) λb o e=>ao _ e,RJ a _,⟨_,aI _ rfl,rfl,rfl⟩,λb hb=>?_,q⟩
  have e:b=s1.heap.objs.size:=by simpa using hb
  subst e;exact I1.NN (aB _) (I1.eV.fresh (aB _))
 .obtain ⟨its,rv,p,hz⟩:=I1.tuple hq;refine wpAny_pyIter_tuple (show s1.heap.IsTuple a its.toArray from p) ?_;refine ⟨s1.heap.objs.size,[s1.heap.objs.size],_,_,H1,rfl,I1.kept (t':=s1.toks) λb o e=>ao _ e,Oi a _,⟨_,aI _ rfl,rfl,rfl⟩,λb hb=>?_,q⟩
  have e:b=s1.heap.objs.size:=by simpa using hb
  subst e;exact I1.NN (aB _) (I1.eV.fresh (aB _))
 .obtain ⟨hz,hsys,vs,rel,dd⟩:=Zj I1.eV hq;obtain ⟨ep,da⟩:=dd.dictAt;obtain ⟨ob,es,ho,rr⟩:=id da
  have od:∀ h:cJ,h.get? a=some ob->h.DictAt (gj X.prog X.w) a vs ep:=λh e=>⟨ob,es,e,rr⟩
  have un:Un X.fs [] H1 (upd H1 a (.frz ob (.dK kvs))) s1.heap s1.heap:=by
   have hne:∀ b u,H1 b=some u->u≠.dK kvs->b≠a:=λb u e n z=>by subst z;rw [hq] at e;exact n (aV e).symm
   refine ⟨λb o e _ _ _=>e,λb o e _ _ _=>⟨o.slots,e⟩,λb o e n _=>?_,λb o e _=>⟨o,e⟩,λb ys e=>?_,λb o u e=>?_,λb ps e=>?_⟩
   .rw [aE (λz=>by subst z;rw [hq] at n;cases n)];exact n
   .rw [aE (hne b _ e (by intro z;cases z))];exact e
   .rw [aE (hne b _ e (by intro z;cases z))];exact e
   .exact ⟨#[],by rw [aE (hne b _ e (by intro z;cases z)),e];simp⟩
  have eV:tI X.prog X.w (upd H1 a (.frz ob (.dK kvs))) s1.heap:=λb u e=>by
   by_cases hb:b=a
   .subst hb;rw [aD] at e;cases e;exact ⟨ho,hz,hsys,vs,rel,dd⟩
   .rw [aE hb] at e;refine (I1.eV b u e).vO (λc v _ q=>q) (λc q0=>?_) λc ys q0=>?_
    .rw [aE (λz=>by rw [z,hq] at q0;cases q0)];exact q0
    .rw [aE (λz=>by rw [z,hq] at q0;cases q0)];exact q0
  have I2:Inv X pins Z (upd H1 a (.frz ob (.dK kvs))) { s1 with heap:=s1.heap,toks:=s1.toks }:=I1.un un eV;refine wpAny_pyIter_dict hsys da ?_;refine ⟨s1.heap.objs.size,[s1.heap.objs.size],_,_,_,rfl,I2.kept (t':=s1.toks) λb o e=>ao _ e,R9 a _ ob kvs vs ep rel od,⟨_,aI _ rfl,rfl,rfl⟩,λb hb=>?_,q ob⟩
  have e:b=s1.heap.objs.size:=by simpa using hb
  subst e;exact I2.NN (aB _) (I2.eV.fresh (aB _))
def X9 (K:aa) (te:TE):TE:=λZ H Q=>te Z H λx H1=>∃ a xs,x=.ref a/\dh K H1 a xs/\∀ p,H1 p=none->Q (.ref p) (upd H1 p (.lst xs.reverse))
theorem UY {e:Expr}{p1 p2 p3 pos:wV}(he:PE X e te):PE X (.Subscript e (.Slice none none (some (.UnaryOp .USub (.Constant (.int 1) j p1) p2)) p3) pos) (X9 X.K te):=by
 intro pins s Z H Q I h;refine Im (ia (he pins s Z H _ I h) λv s1 ⟨x,H1,I1,r1,q1⟩=>?_);obtain ⟨a,xs,rfl,hq,q⟩:=q1;cases r1;refine wpAny_Slice ?_;rw [GE];refine au (au ?_);rw [W7];refine ia (LL Ec eS pins s1 Z H1 (λz H2=>z=.int (-1)/\H2=H1) I1 ⟨1,rfl,rfl,rfl⟩) λvk s3 ⟨z,H3,I3,r3,e3,e3'⟩=>?_;subst e3 e3';obtain ⟨t,rfl⟩:=r3;have I4:Inv X pins Z H3 { s3 with heap:=s3.heap.push { cls:=.type "slice",data:=.fields #[.none,.none,.int (-1) t] } }:=I3.kept (t':=s3.toks) λb ob q=>ao _ q;obtain ⟨its,r,ht,hz⟩:=I4.list hq;have hlen:=r.length
 show aL (aU X.prog X.w) X.A (GF e (.Slice none none (some (.UnaryOp .USub (.Constant (.int 1) j p1) p2)) p3) (.ref a) (.ref s3.heap.objs.size)) (EP X pins Z Q) X.xe { s3 with heap:=s3.heap.push { cls:=.type "slice",data:=.fields #[.none,.none,.int (-1) t] } }
 refine TB ht.isList.typeIs we.lookup ?_ (by with_unfolding_all rfl);refine w6 ht.isList (ug ..) .none .none (.int (-1) t) (by decide) ?_ (by rw [aN]<;>lia);rw [PySem.W.krv_pick];refine ⟨.ref _,_,I4.laid (t':=s3.toks) (o:=.lst xs.reverse) (λb ob q=>ao _ q) (aB _) ?_,rfl,q _ (I4.eV.fresh (aB _))⟩;exact ⟨by rw [Xa];exact hz,its.reverse,0,r.reverse,aI _ rfl⟩
structure lN (n i:Nat) (S:St->Prop) (Pv:List V->Hp->Prop) (m:Nat) (ys:List V) (Z:St) (H:Hp):Prop where
 m:m=n-i
 le:i<=n
 s:S Z
 p:Pv ys H
def lN.mk' {i:Nat}{S:St->Prop}{Pv:List V->Hp->Prop}{ys:List V}(hi:i<n) (s:S Z) (p:Pv ys H):∃ m',m'<n-i/\lN n (i+1) S Pv m' ys Z H:=⟨n-(i+1),by lia,rfl,hi,s,p⟩
theorem oO {σ0:St}{J:It}{acc:ah}{R:Hp->Prop}(Pv:Nat->List V->Hp->Prop) (S:St->Prop) (h0:Pv 0 [] (upd H acc (.lst []))) (s0:S σ0)
  (ha:∀ i ys H,Pv i ys H->H acc=some (.lst ys)) (hst:∀ ys H,Pv n ys H->J.stop n H/\R H) (hgo:∀ i ys H,i<n->Pv i ys H->J.go i H)
  (hs:∀ i ys σ' H x H2,i<n->Pv i ys H->S σ'->J.PX i H x H2->g x σ' H2 λσ2 H3=>tt σ2 H3 λb H4=>if b=true then te σ2 H4 λy H5=>H5 acc=some (.lst ys)/\ys.length<aX/\∃ m',m'<n-i/\lN n (i+1) S (Pv (i+1)) m' (ys++[y]) σ2 (upd H5 acc (.lst (ys++[y]))) else ∃ m',m'<n-i/\lN n (i+1) S (Pv (i+1)) m' ys σ2 H4) :
  ∃ W:Nat->Nat->List V->St->Hp->Prop,(∃ m,W 0 m [] σ0 (upd H acc (.lst [])))/\∀ i m ys σ' H',W i m ys σ' H'->H' acc=some (.lst ys) /\
  ((J.stop i H'/\R H')\/(J.go i H'/\∀ x H2,J.PX i H' x H2->g x σ' H2 λσ2 H3=>tt σ2 H3 λb H4 =>
   if b=true then te σ2 H4 λy H5=>H5 acc=some (.lst ys)/\ys.length<aX/\∃ m',m'<m/\W (i+1) m' (ys++[y]) σ2 (upd H5 acc (.lst (ys++[y]))) else ∃ m',m'<m/\W (i+1) m' ys σ2 H4)):=by
 refine ⟨λi m ys σ' H'=>lN n i S (Pv i) m ys σ' H',⟨n,by simp,bA _,s0,h0⟩,?_⟩;rintro i m ys σ' H' ⟨rfl,hi,hS,p⟩;refine ⟨ha i ys H' p,?_⟩
 by_cases hlt:i<n
 .exact .inr ⟨hgo i ys H' hlt p,λx H2 y=>hs i ys σ' H' x H2 hlt p hS y⟩
 .have e:i=n:=by lia
  subst e;exact .inl (hst ys H' p)
structure UZ (Pv:St->Hp->Prop) (μ:St->Hp->Nat) (m:Nat) (Z:St) (H:Hp):Prop where
 m:m=μ Z H
 p:Pv Z H
theorem L3 {c:TT}{tb:TS}(Pv:St->Hp->Prop) (μ:St->Hp->Nat) (h0:Pv Z H)
  (hs:∀ Z H,Pv Z H->c Z H λb H1=>if b=true then ∃ N:St->Hp->Prop,(∀ σ' H',N σ' H'->∃ m',m' < μ Z H/\UZ Pv μ m' σ' H')/\tb { D with nx:=N,ct:=N,bk:=D.nx } Z H1 else D.nx Z H1):Jw c tb D Z H:=by
 refine ⟨UZ Pv μ,⟨_,rfl,h0⟩,?_⟩;rintro m Z H ⟨rfl,p⟩;exact hs Z H p
def wN (Pv:St->Hp->Prop) (μ:St->Hp->Nat) (b:Nat):St->Hp->Prop:=λZ H=>Pv Z H/\μ Z H<b
def Zu {Pv:St->Hp->Prop}{μ:St->Hp->Nat} {b:Nat}:∀ σ' H',wN Pv μ b σ' H'->∃ m',m'<b/\UZ Pv μ m' σ' H':=λσ' H' ⟨p,l⟩=>⟨_,l,rfl,p⟩
section
variable {tb:TE}{t u:TS}{tA:TA}{QT:Bool->Hp->Prop}{QA:List V->Hp->Prop}
def Ya {r r':R2}{tc:TE}(h:ta Z H λx H1=>tb Z H1 λy H2=>r x y H2 λz H3=>∃ k,z=.bl k/\(if k=true then tc Z H3 λw' H4=>r' y w' H4 Q else Q (.bl false) H3)):Ee r r' ta tb tc Z H Q:=h
def x_rU {g:Int->V}(h:Q (g i) H):rU g (.int i) H Q:=⟨i,rfl,h⟩
def acI {i j:Bool}(h:Q (.bl (decide (V.bl i=V.bl j))) H):lR K (.bl i) (.bl j) H Q:=.inl ⟨rfl,h⟩
def x_tB (h:te Z H λx H1=>∃ c,x=.bl c/\QT c H1):tB te Z H QT:=h
def acJ (h:ta Z H λx H1=>Q (.bl (decide (x=.non))) H1):aau ta Z H Q:=h
def aa3 (h:ta Z H λx H1=>Q (.bl (!decide (x=.non))) H1):Uu ta Z H Q:=h
def aa4 {R:It->Hp->Prop}(h:tA Z H λvs H1=>∃ j:Int,vs=[.int j]/\-(2^62)<=j/\j<2^62/\R (Itr 0 j.toNat) H1):LK tA Z H R:=h
theorem acK {tb:TS}(h:wi Z H λJ H1=>∃ W:Nat->Nat->St->Hp->Prop,(∃ m,W 0 m Z H1)/\∀ i m Z H,W i m Z H ->
 (J.stop i H/\D.nx Z H)\/(J.go i H/\∃ N:St->Hp->Prop,(∀ σ' H',N σ' H'->∃ m',m'<m/\W (i+1) m' σ' H')/\∀ x H',J.PX i H x H'->g x Z H' λσ2 H2=>tb { D with nx:=N,ct:=N,bk:=D.nx } σ2 H2)):tO wi g tb D Z H:=h
theorem aa5 {own:Nat}{js:List Nat}(h:wi Z H λJ H1=>∀ acc,H1 acc=none ->
 ∃ W:Nat->Nat->List V->St->Hp->Prop,(∃ m,W 0 m [] (nK own none++LZ Z js) (upd H1 acc (.lst [])))/\∀ i m ys σ' H',W i m ys σ' H'->H' acc=some (.lst ys) /\
  ((J.stop i H'/\Q (.ref acc) H')\/(J.go i H'/\∀ x H2,J.PX i H' x H2->g x σ' H2 λσ2 H3=>tt σ2 H3 λb H4 =>
   if b=true then te σ2 H4 λy H5=>H5 acc=some (.lst ys)/\ys.length<aX/\∃ m',m'<m/\W (i+1) m' (ys++[y]) σ2 (upd H5 acc (.lst (ys++[y]))) else ∃ m',m'<m/\W (i+1) m' ys σ2 H4))):mh own js wi g tt te Z H Q:=h
def acL {i:Nat}{ti:TIp}(hx:Z[i]?=some (some x)) (h:te Z H λy H1=>ti x y H1 λz H2=>D.nx (Z.set i (some z)) H2):UA i te ti D Z H:=⟨x,hx,h⟩
def A9 {ts:Xj}(h:mX K H a xs) (hn:xs.length=n) (k:ts xs Z H R):yW K n ts (.ref a) Z H R:=⟨a,xs,rfl,h,hn,k⟩
def Yb {gs:Xj}{v:V}{r:List V}(h:g v Z H λσ' H'=>gs r σ' H' R):gZ g gs (v::r) Z H R:=⟨v,r,rfl,h⟩
def aa6 (h:R Z H):A1 [] Z H R:=⟨rfl,h⟩
def acM (h:H l=some (.lst xs)) (h':H b=some (.lst zs)) (hl:xs.length+zs.length<=aX) (k:Q .non (upd H l (.lst (xs++zs)))):JD (.ref l) [.ref b] H Q:=⟨l,b,xs,zs,rfl,rfl,h,h',hl,k⟩
def Zv (h:H l=some (.lst xs)) (h':H b=some (.lst zs)) (hl:xs.length+zs.length<=aX) (k:∀ p,H p=none->Q (.ref p) (upd H p (.lst (xs++zs)))):jf (.ref l) (.ref b) H Q:=.inr ⟨l,b,xs,zs,rfl,rfl,h,h',hl,k⟩
def acN {j:Int}(k:Q (.int (if j<i then j else i)) H):Eu [.int i,.int j] H Q:=⟨i,j,rfl,k⟩
def acO {j:Int}(k:Q (.int (if j>i then j else i)) H):Ew [.int i,.int j] H Q:=⟨i,j,rfl,k⟩
def qZ {T:String}{t:ai}{b:Bool}(ty:yX K H x t) (e:bZ K t (.type T)=some b) (k:Q (.bl b) H):R8 K [x,.ty T] H Q:=⟨x,T,t,b,rfl,ty,e,k⟩
def L9 {lo hi:Option Int}(h:dh K H a xs) (k:∀ p,H p=none->Q (.ref p) (upd H p (.lst (Ep xs lo hi)))):uq K (.ref a) lo hi H Q:=⟨a,xs,rfl,h,k⟩
def Zw {dx dy:PyData}(h1:Rep K H dx x) (h2:Rep K H dy y) (f1:yi dx) (f2:yi dy) (k:Q (.bl (fi dx dy)) H):lR K x y H Q:=.inr ⟨dx,dy,h1,h2,f1,f2,k⟩
def Qr {dx dy:PyData}(h1:Rep K H dx x) (h2:Rep K H dy y) (f1:yi dx) (f2:yi dy) (k:Q (.bl (!PyData.eqv dx dy)) H):CY K x y H Q:=.inr ⟨dx,dy,h1,h2,f1,f2,k⟩
def U0 (h1:Rep K H d x) (h2:Rep K H (.list ds) y) (f1:yi d) (f2:f9 ds=true) (k:Q (.bl (!(ds.any λe=>fi e d))) H):A7 K true x y H Q:=.inl ⟨d,ds,h1,.inl h2,f1,f2,k⟩
def acP (h1:Rep K H d x) (h2:Rep K H (.list ds) y) (f1:yi d) (f2:f9 ds=true) (k:Q (.bl (ds.any λe=>fi e d)) H):A7 K false x y H Q:=.inl ⟨d,ds,h1,.inl h2,f1,f2,k⟩
def acQ (h:te Z H λx H1=>∃ a xs,x=.ref a/\dh K H1 a xs/\∀ p,H1 p=none->Q (.ref p) (upd H1 p (.lst xs.reverse))):X9 K te Z H Q:=h
end
def U1:bZ K (.type "int") (.type "int")=some true:=by rfl
def U2:bZ K (.type "int") (.type "bool")=some false:=by rfl
def U3:bZ K (.type "bool") (.type "int")=some true:=by rfl
def U4:bZ K (.type "bool") (.type "bool")=some true:=by rfl
def U5:bZ K (.type "NoneType") (.type "int")=some false:=by rfl
def U6:bZ K (.type "str") (.type "int")=some false:=by rfl
def aa7:bZ K (.type "list") (.type "int")=some false:=by rfl
def bS.cc (h:H l=none):bS H (upd H l o):=λb u e=>by rw [aE (aJ e h)];exact e
def bf (c:ah) (H H':Hp):Prop:=∀ b o,H b=some o->b≠c->H' b=some o
def bf.refl (c:ah) (H:Hp):bf c H H:=λ_ _ h _=>h
def bf.trans {H1 H2:Hp}(a:bf c H H1) (b:bf c H1 H2):bf c H H2:=λx o h n=>b x o (a x o h n) n
def bf.same {H':Hp}(e:bS H H'):bf c H H':=λb o h _=>e b o h
def bf.upd:bf c H (upd H c o):=λb u e n=>by rw [aE n];exact e
def fE {α:Type} {xs:List α}{v:α}(hi:i=(j:Int)) (h:xs[j]?=some v):RU xs i=some v:=by subst hi;exact XZ h
def aa8 (hi:i=(j:Int)) (h:j<n):RT n i=some j:=by
 subst hi;unfold RT;rw [if_pos (by lia),if_pos (by lia)]
 rfl
def du (h:n<=m) (hm:m<=100000:=by decide):n<=aX:=bF h (bF hm (by rw [wb];decide))
def eL (h:n<m) (hm:m<=100000:=by decide):n<aX:=bc h (bF hm (by rw [wb];decide))
mutual
def ou:PyData->Bool
 | .int _=>true
 | .list xs=>j5 xs
 | .tuple xs=>j5 xs
 | _=>false
def j5:List PyData->Bool
 | []=>true
 | x::xs=>ou x && j5 xs
end
mutual
theorem Ba:∀ d:PyData,ou d=true->d.canLay0=true
 | .int _,_=>by simp [iK]
 | .list xs,h=>by simp only [ou] at h;simp only [iK];exact km xs h
 | .tuple xs,h=>by simp only [ou] at h;simp only [iK];exact km xs h
 | .none,h=>by simp [ou] at h
 | .bool _,h=>by simp [ou] at h
 | .str _,h=>by simp [ou] at h
 | .dict _,h=>by simp [ou] at h
theorem km:∀ ds:List PyData,j5 ds=true->f9 ds=true
 | [],_=>by simp [f9]
 | d::ds,h=>by
  simp only [j5,eG] at h;simp only [f9,eG];exact ⟨Ba d h.1,km ds h.2⟩
end
end L2
namespace L2
open PySem.Calls
open PySem.W (kla_fn kla_obj tabObj CodeHd)
variable {X:Cx}{H:Hp}{Pt c:ah}{pos:wV}{m:bq->Option ai}{pins:List (ah×iW)}{Z:St}{s:ay}{params:tJ}{scope:tX}
def acR {h:cJ}{a:ah}{m':bq->Option ai}(x:h.Ns a m) (y:h.Ns a m'):m=m':=by
 obtain ⟨o,es,ep,e,d,_,r⟩:=x;obtain ⟨o',es',ep',e',d',_,r'⟩:=y;rw [e] at e';cases e';rw [d] at d';cases d'
 funext n
 rw [← r n,← r' n]
theorem Inv.news {h':cJ}{t':Nat}(I:Inv X pins Z H s) (hm:s.heap.Ns X.env.locals m) (F:Fr X.base X.env.locals h' m)
  (N:rQ X.base X.env.locals h' (lX X.base s.heap X.env.locals)):Inv X pins Z H { s with heap:=h',toks:=t' }:=by
 have k:∀ b o,b≠X.env.locals->s.heap.get? b=some o->h'.get? b=some o:=λb o h1 e=>by
  cases q:X.base.get? b with
  | some u =>
   have:=I.bk b u q;rw [e] at this;cases this
   exact F.keep b _ q
  | none=>exact (N (b,o) (lI h1 q e)).1
 refine I.step (g':=s.gens) (d':=s.drawn) (ch:=[]) (λ_ z=>nomatch z) (λb o h1 _ _ e _=>k b o h1 e) (λb o h1 _ _ e _=>⟨o.slots,k b o h1 e⟩) (λ_ _ _ _ n=>n) (λb o _ e=>?_) (λ_ _ e=>e) (λ_ _ _ e=>e)
  (λb ps e=>⟨#[],by rw [e];simp⟩) (λm' hm'=>by rw [← acR hm hm'];exact F.ns) (λb u e=>?_) I.bare
 .by_cases hb:b=X.env.locals
  .subst hb;obtain ⟨o',_,_,e',_⟩:=F.ns;exact ⟨o',e'⟩
  .exact ⟨o,k b o hb e⟩
 .refine (I.eV b u e).vO (λc v hc q=>k c v ?_ q) (λ_ q=>q) λ_ _ q=>q;rintro rfl
  rcases hc with hc|hc
  .rw [← hc,I.free] at e;cases e
  .rw [I.free] at hc;cases hc
def Ex (Pt:ah) (H H':Hp):Prop:=∀ b o,b≠Pt->H b=some o->H' b=some o
def NI (Pt:ah) (pos:wV) (qual:bq) (H:Hp):Prop :=
 H Pt=some (.tbl #[])\/∃ c' oc vs t,H Pt=some (.tbl #[cF pos.line,cF pos.col,.ref c'])/\H c'=some (.frz oc (.ext λ_=>True))/\oc.data=.fields vs/\vs[1]?=some (qx qual t)
def NI.tbl {qual:bq}(h:NI Pt pos qual H):∃ ps,H Pt=some (.tbl ps):=by
 rcases h with h|⟨_,_,_,_,h,_⟩
 .exact ⟨_,h⟩
 .exact ⟨_,h⟩
theorem U7 {E:ai->ay->Prop}{Q:ai->ay->Prop}{body:Expr}(I:Inv X pins Z H s) (hcode:X.env.code=.ref c) (C:oX X.base c Pt) (B:X.base.BuiltinsAt X.mg Pt)
  (hdef:defaultsOf params X.env=([],[])) (hfr:∀ n,(n,bP)∈scope.names->∃ c,X.env.cells.lookup n=some c) (hT:NI Pt pos (X.env.qual++"<lambda>") H)
  (h:∀ f c' ctv h' tk H2,Inv X pins Z H2 { s with heap:=h',toks:=tk }->h'.get? f=some (AH "<lambda>" (X.env.qual++"<lambda>") params body scope (qa X.env.cells scope.names []) ((X.mg "__name__").getD .none) c' ctv)->h'.CodeRec (.ref c') (X.env.qual++"<lambda>") ->
   Ex Pt H H2->NI Pt pos (X.env.qual++"<lambda>") H2->(∀ b o,b≠Pt->s.heap.get? b=some o->h'.get? b=some o)->Q (.ref f) { s with heap:=h',toks:=tk }) :
  aL (aU X.prog X.w) X.A (fQ (.Lambda params body scope pos) X.env) Q E s:=by
 have hg:s.heap.Ns bw X.mg:=I.mod.glob.keeps I.bk;have C1:=C.keeps I.bk
 have B1:s.heap.BuiltinsAt X.mg Pt:=let ⟨bm,o,b1,b2,b3,b4,b5,b6⟩:=B;⟨bm,o,b1,b2,b3,b4,I.bk _ _ b5,b6⟩
 refine PySem.W.kla_eval hdef ?_
 rcases hT with hT|⟨c',oc,vs,t,hT,hc',hd,hv⟩
 .have hP:s.heap.get? Pt=some (NQ #[]):=I.eV Pt _ hT
  have hgP:bw≠Pt:=λq=>by
   obtain ⟨o,es,ep,e,hd,_⟩:=hg;rw [q,hP] at e;cases e;cases hd
  refine PySem.W.kla_makeFunction (mg:=X.mg) (yh hfr) I.ok.glob hg hcode C1 hP trivial rfl hgP B1 λc' ctv h' tk hx hge hlt hrec htb=>?_;obtain ⟨c₂,oc,vs,t,e2,hoc,hd,hv⟩:=id hrec;cases e2;have hn:H c'=none:=I.eV.fresh hge
  have ncP:c'≠Pt:=λq=>by rw [q,hT] at hn;cases hn
  have hL:X.env.locals≠Pt:=λq=>by have:=I.free;rw [q,hT] at this;cases this
  have k:∀ b o,b≠Pt->s.heap.get? b=some o->(h'.push (AH "<lambda>" (X.env.qual++"<lambda>") params body scope (qa X.env.cells scope.names []) ((X.mg "__name__").getD .none) c' ctv)).get? b=some o:=λb o hb e=>ao _ (hx b o hb e);have hP':(h'.push (AH "<lambda>" (X.env.qual++"<lambda>") params body scope (qa X.env.cells scope.names []) ((X.mg "__name__").getD .none) c' ctv)).get? Pt=some (NQ #[cF pos.line,cF pos.col,.ref c']):=ao _ htb;have hoc':(h'.push (AH "<lambda>" (X.env.qual++"<lambda>") params body scope (qa X.env.cells scope.names []) ((X.mg "__name__").getD .none) c' ctv)).get? c'=some oc:=ao _ hoc;have hf:(h'.push (AH "<lambda>" (X.env.qual++"<lambda>") params body scope (qa X.env.cells scope.names []) ((X.mg "__name__").getD .none) c' ctv)).get? h'.objs.size=some (AH "<lambda>" (X.env.qual++"<lambda>") params body scope (qa X.env.cells scope.names []) ((X.mg "__name__").getD .none) c' ctv):=aI _ rfl;generalize h'.push (AH "<lambda>" (X.env.qual++"<lambda>") params body scope (qa X.env.cells scope.names []) ((X.mg "__name__").getD .none) c' ctv)=h2 at k hP' hoc' hf
  have st:∀ b o,b≠Pt->H b=some o->upd (upd H Pt (.tbl #[cF pos.line,cF pos.col,.ref c'])) c' (.frz oc (.ext λ_=>True)) b=some o:=λb o hb e=>by
   rw [aE (aJ e hn),aE hb];exact e
  refine h _ c' ctv h2 tk (upd (upd H Pt (.tbl #[cF pos.line,cF pos.col,.ref c'])) c' (.frz oc (.ext λ_=>True))) ?_ hf ⟨c',oc,vs,t,rfl,hoc',hd,hv⟩ st (.inr ⟨c',oc,vs,t,by rw [aE (Ne.symm ncP)];exact aD,aD,hd,hv⟩) k
  have nP:∀ b,H b=none->b≠Pt:=λb e q=>by rw [q,hT] at e;cases e
  refine I.step (g':=s.gens) (d':=s.drawn) (ch:=[]) (λ_ z=>nomatch z) (λb o _ _ _ e n=>k b o (nP b n) e) (λb o _ _ _ e n=>⟨o.slots,k b o (nP b n) e⟩) (λb o _ e n=>?_) (λb o _ e=>?_) (λb xs e=>?_) (λb o u e=>?_)
   (λb ps e=>?_) (λm' hm'=>?_) (λb u e=>?_) I.bare
  .rw [aE (aO (bc (aF e) hge)),aE (nP b n)];exact n
  .by_cases hb:b=Pt
   .exact ⟨_,hb▸hP'⟩
   .exact ⟨o,k b o hb e⟩
  .exact st b _ (λq=>by rw [q,hT] at e;cases e) e
  .exact st b _ (λq=>by rw [q,hT] at e;cases e) e
  .by_cases hb:b=Pt
   .subst hb;rw [hT] at e;cases e;exact ⟨#[cF pos.line,cF pos.col,.ref c'],by rw [aE (Ne.symm ncP),aD];simp⟩
   .exact ⟨#[],by rw [st b _ hb e];simp⟩
  .obtain ⟨o,es,ep,e,r⟩:=hm';exact ⟨o,es,ep,k _ o hL e,r⟩
  .by_cases hb:b=c'
   .subst hb;rw [aD] at e;cases e;exact ⟨hoc',trivial,⟨oc,hoc'⟩,λ_ _ _ _=>trivial⟩
   .rw [aE hb] at e
    by_cases hb2:b=Pt
    .subst hb2;rw [aD] at e;cases e;exact hP'
    .rw [aE hb2] at e;refine (I.eV b u e).vO (λd v hc q=>k d v ?_ q) (λd q=>st d _ (λz=>by rw [z,hT] at q;cases q) q) λd xs q=>st d _ (λz=>by rw [z,hT] at q;cases q) q;rintro rfl
     rcases hc with hc|hc
     .exact hb2 hc.symm
     .rw [hT] at hc;cases hc
 .have hP:s.heap.get? Pt=some (NQ #[cF pos.line,cF pos.col,.ref c']):=I.eV Pt _ hT;refine PySem.W.kla_makeFunctionHit (mg:=X.mg) (cv:=.ref c') (yh hfr) I.ok.glob hg hcode C1 hP (by simp [TriplesOk,cF]) (by simp [codeAmong,cF]) B1 λctv h' tk hk hsz=>?_;have k:∀ b o,s.heap.get? b=some o->(h'.push (AH "<lambda>" (X.env.qual++"<lambda>") params body scope (qa X.env.cells scope.names []) ((X.mg "__name__").getD .none) c' ctv)).get? b=some o:=λb o e=>ao _ (hk b o e);refine h h'.objs.size c' ctv _ tk H (I.kept k) (aI _ rfl) ⟨c',oc,vs,t,rfl,k _ _ (I.eV c' _ hc').1,hd,hv⟩ (λ_ _ _ e=>e) (.inr ⟨c',oc,vs,t,hT,hc',hd,hv⟩) λb o _ e=>k b o e
section
variable {e:Expr}{tx:TA}{x y:bq}{j:Nat}{p0 p1 p2 p3 lpos kpos:wV}
end
end L2
namespace L2
open PySem.Calls
open PySem.W (tabObj CodeHd noTabs tabIn)
end L2
namespace L2
theorem wR.okC {P:bQ}{w:cU}{K:aa}{mg:bq->Option ai}{base:cJ}{x qual:bq}{st:dz}{f:ah}{fd:fM}{N ps:List bq}{k:Nat}{sp:Sp}{jo:ai}(F:wR K x qual st f fd) (hc:fd.code=jo) (S:bC N ps (aR st)) (len:∀ vs H Q E,sp vs H Q E->vs.length=ps.length)
  (hbody:∀ (A:dM) (outer:List xZ) (s:ay) (H:Hp) (vs:List V) (Q:VK) (E:XK),hZ k (A.deeper (lp qual (aR st) s.heap.objs.size f jo))->sp vs H Q E ->
   ∃ t,Ih (lQ vW P w K mg base N qual (aR st) f jo A outer s H E).WJ (jO st) t/\t { nx:=λ_ H'=>Q .non H',rt:=Q } (start N vs) H):gN P w K mg base vW (k+1) f fd ps sp:=by
 obtain ⟨oc,od,kV,doc,pm,an,cdv',ct,osl,rfl,lk,hcd⟩:=F.ex;have e:cdv'=jo:=hc;subst e;refine UM lk hcd S len λA outer s H vs Q E hr hsp=>?_;obtain ⟨t,h,q⟩:=hbody A outer s H vs Q E hr hsp;exact ⟨t,h.WJ,q⟩
section
variable {K:aa}{Z:St}{H:Hp}{Q:VK}
theorem DL {σ0:St}{g:TG}{tt:TT}{te:TE}{z acc:ah}{xs:List V}{R:Hp->Prop}{α:Type} (items:List α) (p:α->Bool) (f:α->V) (S:St->Prop) (hlen:items.length=xs.length) (hz:dh K H z xs) (ha:H acc=none) (s0:S σ0) (hs:xs.length<=100000)
  (turn:∀ (i:Nat) (a:α) (x:V) (σ':St) (H':Hp) (G:V->St->Hp->Prop) (G':St->Hp->Prop),items[i]?=some a->xs[i]?=some x->bS H H'->S σ'->(p a=true->∀ σ2,S σ2->G (f a) σ2 H')->(p a=false->∀ σ2,S σ2->G' σ2 H') ->
   g x σ' H' λσ2 H3=>tt σ2 H3 λb H4=>if b=true then te σ2 H4 λy H5=>G y σ2 H5 else G' σ2 H4)
  (fin:∀ H',bS H H'->H' acc=some (.lst ((items.filter p).map f))->R H') :
  ∃ W:Nat->Nat->List V->St->Hp->Prop,(∃ m,W 0 m [] σ0 (upd H acc (.lst [])))/\∀ i m ys σ' H',W i m ys σ' H'->H' acc=some (.lst ys) /\
  (((Ua K z).stop i H'/\R H')\/((Ua K z).go i H'/\∀ x H2,(Ua K z).PX i H' x H2->g x σ' H2 λσ2 H3=>tt σ2 H3 λb H4 =>
   if b=true then te σ2 H4 λy H5=>H5 acc=some (.lst ys)/\ys.length<aX/\∃ m',m'<m/\W (i+1) m' (ys++[y]) σ2 (upd H5 acc (.lst (ys++[y]))) else ∃ m',m'<m/\W (i+1) m' ys σ2 H4)):=by
 refine oO (n:=xs.length) (λi ys H'=>ys=((items.take i).filter p).map f/\H' acc=some (.lst ys)/\bS H H') S ⟨by simp,aD,bS.cc ha⟩ s0 ?_ ?_ ?_ ?_
 .rintro i ys H' ⟨_,h,_⟩;exact h
 .rintro ys H' ⟨e,h,S'⟩;refine ⟨⟨_,S'.seq hz,aB _⟩,fin H' S' ?_⟩;rw [h,e,cg (by lia)]
 .rintro i ys H' hi ⟨e,h,S'⟩;exact ⟨_,_,S'.seq hz,aw hi⟩
 .rintro i ys σ' H' x H2 hi ⟨e,h,S'⟩ hσ ⟨e2,hx⟩;subst e2;have hxi:=hx _ (S'.seq hz)
  obtain ⟨a,hai⟩:∃ a,items[i]?=some a:=⟨_,aw (by lia)⟩
  have et:items.take (i+1)=items.take i++[a]:=by rw [ft,hai];rfl
  refine turn i a x σ' H2 _ _ hai hxi S' hσ (λhp σ2 h2=>?_) λhp σ2 h2=>?_
  .refine ⟨h,aY (m:=i) ?_ (bc hi (du hs)),lN.mk' hi h2 ⟨?_,aD,λb o q=>by rw [aE (aJ q ha)];exact S' _ _ q⟩⟩
   .rw [e,af];exact bF (dE _ _) (by rw [bO];lia)
   .rw [et,e,eY,aP];simp [hp]
  .refine lN.mk' hi h2 ⟨?_,h,S'⟩;rw [et,e,eY,aP];simp [hp]
theorem Ey:∀ ns:List Int,j5 (ns.map .int)=true
 | []=>rfl
 | n::ns=>by simp only [cn,j5,eG];exact ⟨by simp [ou],Ey ns⟩
def U8 {H:Hp}{a:ah}{ns:List Int}(h:dh K H a (ns.map V.int)):Rep K H (.list (ns.map .int)) (.ref a):=.lst h (fF.ints ns)
end
end L2
namespace BootT
open PySem
def sum:dO "sum"=some (.builtin "sum"):=by decide +kernel
def zip:dO "zip"=some (.type "zip"):=by decide +kernel
def set:dO "set"=some (.type "set"):=by decide +kernel
def Sd:dO "enumerate"=some (.type "enumerate"):=by decide +kernel
end BootT
namespace L2
open PySem PySem.Spec PyProof.Rows PySem.SeqAt
variable {K:aa}{H:Hp}{Q:VK}
section
variable {X:Cx}
def U9 (K:aa):V->List V->Hp->VK->Prop:=λx vs H Q=>∃ (l:ah) (ns:List Int) (k:Int),x=.ref l/\vs=[.int k]/\dh K H l (ns.map V.int)/\k∈ns/\Q (.int (ns.idxOf k:Nat)) H
theorem Va:WS X "list.index" (U9 X.K):=by
 intro pins s Z H x vs v us Q I rx rv h;obtain ⟨l,ns,k,rfl,rfl,hq,hk,q⟩:=h;cases rx;obtain ⟨u,rfl,t,rfl⟩:=rv.one;obtain ⟨its,r,pl,hz⟩:=I.list hq;have hi:gP its ns:=intsAre_of r;have hlen:=hi.length;have hl2:=r.length;have hj:ns.idxOf k<ns.length:=hJ.mpr hk;have h63:=yf;rw [af] at hz hl2;obtain ⟨⟨cls,dd,data,sl⟩,ho,hc,n,hd⟩:=pl.isList;simp only at hc hd;subst hc hd
 refine Io fG ⟨_,ho,rfl⟩ Ll (Jt _ _)
  (list_indexAt l its.toArray n dd sl (.int k t) (isInt k) (ns.idxOf k) (by rw [aN];lia) (by lia) ?_ ?_) ⟨ho,λy hy=>(eq_isInt k t hi y (by simpa using hy)).at _ _,⟨.int _,H,I.tok _,⟨_,rfl⟩,q⟩⟩
 .show isInt k its[ns.idxOf k]=true
  rw [isInt_at k hi _ (by lia) hj]
  simpa using CS hj
 .intro j hjs hlt
  show isInt k its[j]=false
  rw [isInt_at k hi j (by simpa using hjs) (by lia)];exact ne_of_lt_idxOf hlt _
def Qs (K:aa):V->List V->Hp->VK->Prop:=λx vs H Q=>∃ (l:ah) (y:V) (ds:List PyData) (d:PyData) (j:Nat) (ej:PyData),x=.ref l/\vs=[y]/\Rep K H (.list ds) (.ref l)/\Rep K H d y/\yi d/\f9 ds=true /\
 ds.length<=aX/\ds[j]?=some ej/\fi ej d=true/\(∀ m e,m<j->ds[m]?=some e->fi e d=false)/\Q (.int (j:Nat)) H
theorem Se (hu:X.A.units+64<iM):WS X "list.index" (Qs X.K):=by
 intro pins s Z H x vs v us Q I rx rv h;obtain ⟨l,y,ds,d,j,ej,rfl,rfl,hR,hd,hf,hc,hz,hj,he,hno,q⟩:=h;cases rx;obtain ⟨u,rfl,ru⟩:=rv.one;obtain ⟨as,r1⟩:=Rep.reads I _ _ _ hR rfl;obtain ⟨bs,r2⟩:=Rep.reads I d y u hd ru;have h63:=yf;have hdep:=hf.dep;have hjl:j<ds.length:=(av.mp hj).1
 cases r1 with
 | @list _ o items n _ as2 h1 h2 h3 h4 =>
  obtain ⟨cls,dd,data,sl⟩:=o;have h2':cls=_:=h2;have h3':data=_:=h3;subst h2' h3';have hm:=readsAll_map _ _ _ hc h4
  have hsz:items.size=ds.length:=by rw [← hm,af,aZ]
  have at_:∀ (m:Nat) (hm':m<items.size) (e:PyData),ds[m]?=some e->readOf s.heap items[m]=e:=λm hm' e z=>by
   rw [← hm,aG,dB,cm hm'] at z;exact aV z
  refine Io fG ⟨_,h1,rfl⟩ Ll (Jt _ _)
   (list_indexAt l items n dd sl u (λy=>fi (readOf s.heap y) d) j (by lia) (by lia) ?_ ?_) ⟨h1,items_eqAt h4 r2 hc hf.lay (by lia),⟨.int _,H,I.tok _,⟨_,rfl⟩,q⟩⟩
  .show fi (readOf s.heap items[j]) d=true
   rw [at_ j (by lia) _ hj];exact he
  .intro m hm' hlt
   obtain ⟨e,z⟩:∃ e,ds[m]?=some e:=⟨_,aw (by lia)⟩
   show fi (readOf s.heap items[m]) d=false
   rw [at_ m hm' e z];exact hno m e hlt z
theorem WS.or {id:String}{r r':V->List V->Hp->VK->Prop}(h:WS X id r) (h':WS X id r'):WS X id (λx vs H Q=>r x vs H Q\/r' x vs H Q):=by
 intro pins s Z H x vs v us Q I rx rv z
 rcases z with z|z
 .exact h pins s Z H x vs v us Q I rx rv z
 .exact h' pins s Z H x vs v us Q I rx rv z
def qe (K:aa):V->List V->Hp->VK->Prop:=λx vs H Q=>U9 K x vs H Q\/Qs K x vs H Q
def rg (hu:X.A.units+64<iM):WS X "list.index" (qe X.K):=Va.or (Se hu)
variable {tg:Expr}
def acS {T:String}{r:V->List V->Hp->VK->Prop}{to:TE}{Z:St}(h:to Z H λx H1=>tyV K T x H1/\r x [] H1 Q):aaF K T r to Z H Q:=h
def JL {l:ah}{ns:List Int}{k:Int}(h:dh K H l (ns.map V.int)) (hk:k∈ns) (q:Q (.int (ns.idxOf k:Nat)) H):qe K (.ref l) [.int k] H Q:=.inl ⟨l,ns,k,rfl,rfl,h,hk,q⟩
end
end L2
namespace L2
variable {j n:Nat}{xs:List V}{l acc:ah}{v:Int}{σ0:St}{g:TG}{te:TE}{R:Hp->Prop}{K:aa}{H:Hp}{Q:VK}
section
variable {a:ah}{ns:List Int}{i i':Int}{j':Nat}
def JM {d:Nat}(h:i=(j:Int)):HT.Lw n d (some i)=min j n:=by subst h;exact HT.XY n d j
def Vb (h:i=(j:Int)):Ep xs (some i) none=xs.drop j:=by
 unfold Ep;rw [JM h,HT.LP]
 by_cases e:j<=xs.length
 .rw [yc e,cg (by rw [dJ];lia)]
 .rw [Ip (by lia),nM (aB _),nM (by lia)];simp
def Ov (h:i=(j:Int)):Ep xs none (some i)=xs.take j:=by
 unfold Ep;rw [JM h,HT.LP,List.drop_zero,Nat.sub_zero]
 by_cases e:j<=xs.length
 .rw [yc e]
 .rw [Ip (by lia),cg (aB _),cg (by lia)]
theorem Yc (h:i=(j:Int)) (h':i'=(j':Int)):Ep xs (some i) (some i')=(xs.drop j).take (j'-j):=by
 unfold Ep;rw [JM h,JM h']
 by_cases e:j<=xs.length
 .rw [yc e]
  by_cases e':j'<=xs.length
  .rw [yc e']
  .rw [Ip (by lia),cg (by rw [dJ];lia),cg (by rw [dJ];lia)]
 .rw [nM (show xs.length<=min j xs.length by lia),nM (show xs.length<=j by lia)];simp
def y8 (h:dh K H a (ns.map V.int)) (e:i=(j:Int)) (k:∀ p,H p=none->Q (.ref p) (upd H p (.lst ((ns.drop j).map V.int)))):uq K (.ref a) (some i) none H Q :=
 L9 h λp hp=>by rw [Vb e,← List.map_drop];exact k p hp
def Ow (h:dh K H a (ns.map V.int)) (e:i=(j:Int)) (k:∀ p,H p=none->Q (.ref p) (upd H p (.lst ((ns.take j).map V.int)))):uq K (.ref a) none (some i) H Q :=
 L9 h λp hp=>by rw [Ov e,← BR];exact k p hp
theorem JN (h:dh K H a (ns.map V.int)) (e:i=(j:Int)) (e':i'=(j':Int)) (k:∀ p,H p=none->Q (.ref p) (upd H p (.lst (((ns.drop j).take (j'-j)).map V.int)))):uq K (.ref a) (some i) (some i') H Q :=
 L9 h λp hp=>by rw [Yc e e',← List.map_drop,← BR];exact k p hp
theorem JO {b:ah}{ms:List Int}(h:H l=some (.lst (ns.map V.int))) (h':H b=some (.lst (ms.map V.int))) (hl:ns.length+ms.length<=100000) (k:∀ p,H p=none->Q (.ref p) (upd H p (.lst ((ns++ms).map V.int)))):jf (.ref l) (.ref b) H Q :=
 Zv h h' (by rw [af,af];exact du hl) λp hp=>by rw [← aP];exact k p hp
def Qt (h:ns[j]?=some v):(ns.map V.int)[j]?=some (.int v):=by rw [aG,h];rfl
def IL (h:dh K H a (ns.map V.int)) (e:i=(j:Int)) (g:ns[j]?=some v) (k:Q (.int v) H):eU K (.ref a) (.int i) H Q:=nR h (fE e (Qt g)) k
def Ox (h:dh K H a (ns.map V.int)) (k:Q (.int ns.length) H):JJ K [.ref a] H Q:=JK h (by rw [af];exact k)
theorem Yd {α:Type} {xs:List α}{v:α}(hj:j<xs.length) (h:xs[xs.length-(j+1)]?=some v):RU xs (-((j:Int)+1))=some v:=by
 unfold RU RT;rw [if_neg (by lia),if_pos (by lia)]
 have e:(-((j:Int)+1)+(xs.length:Int)).toNat=xs.length-(j+1):=by lia
 simpa [e] using h
end
section
variable {Z:St}
theorem Vc {J:It}(E:Nat->V->Hp->Prop) (X:Nat->V->Prop) (S:St->Prop) (ha:H acc=none) (s0:S σ0) (hn:n<=100000)
  (hgo:∀ i H',bS H H'->i<n->J.go i H') (hstop:∀ H',bS H H'->J.stop n H') (hy:∀ i H' x H2,bS H H'->i<n->J.PX i H' x H2->H2=H'/\X i x)
  (st:∀ i y H1 H2 zs,H1 acc=some (.lst zs)->bf acc H1 H2->E i y H1->E i y H2)
  (turn:∀ (i:Nat) (x:V) (σ':St) (H':Hp) (G:V->St->Hp->Prop),i<n->X i x->bS H H'->S σ'->(∀ y σ2 H5,S σ2->bS H' H5->E i y H5->G y σ2 H5)->g x σ' H' λσ2 H3=>te σ2 H3 λy H5=>G y σ2 H5)
  (fin:∀ ys H',ys.length=n->H' acc=some (.lst ys)->bS H H'->(∀ i y,ys[i]?=some y->E i y H')->R H') :
  ∃ W:Nat->Nat->List V->St->Hp->Prop,(∃ m,W 0 m [] σ0 (upd H acc (.lst [])))/\∀ i m ys σ' H',W i m ys σ' H'->H' acc=some (.lst ys) /\
  ((J.stop i H'/\R H')\/(J.go i H'/\∀ x H2,J.PX i H' x H2->g x σ' H2 λσ2 H3=>y3 σ2 H3 λb H4 =>
   if b=true then te σ2 H4 λy H5=>H5 acc=some (.lst ys)/\ys.length<aX/\∃ m',m'<m/\W (i+1) m' (ys++[y]) σ2 (upd H5 acc (.lst (ys++[y]))) else ∃ m',m'<m/\W (i+1) m' ys σ2 H4)):=by
 refine oO (n:=n) (tt:=y3) (λi ys H'=>ys.length=i/\H' acc=some (.lst ys)/\bS H H'/\∀ j y,ys[j]?=some y->E j y H') S ⟨rfl,aD,bS.cc ha,λj y e=>by simp at e⟩ s0 ?_ ?_ ?_ ?_
 .rintro i ys H' ⟨_,h,_⟩;exact h
 .rintro ys H' ⟨e,h,S',hE⟩;exact ⟨hstop H' S',fin ys H' e h S' hE⟩
 .rintro i ys H' hi ⟨e,h,S',hE⟩;exact hgo i H' S' hi
 .rintro i ys σ' H' x H2 hi ⟨e,h,S',hE⟩ hσ hyl;obtain ⟨rfl,hX⟩:=hy i H' x H2 S' hi hyl;have z:=turn i x σ' H2 (λy σ2 H5=>H5 acc=some (.lst ys)/\ys.length<aX/\∃ m',m'<n-i/\lN n (i+1) S (λys H'=>ys.length=i+1/\H' acc=some (.lst ys)/\bS H H'/\∀ j y,ys[j]?=some y->E j y H') m' (ys++[y]) σ2 (upd H5 acc (.lst (ys++[y])))) hi hX S' hσ ?_
  .exact z
  .intro y σ2 H5 h2 S5 hE5;refine ⟨S5 _ _ h,eL (m:=100000) (by lia),lN.mk' hi h2 ⟨by rw [br,e];rfl,aD,λb o q=>by rw [aE (aJ q ha)];exact S5 _ _ (S' _ _ q),λj v hv=>?_⟩⟩;have hb:bf acc H5 (upd H5 acc (.lst (ys++[y]))):=bf.upd
   by_cases hj:j<ys.length
   .rw [gO hj] at hv;exact st j v _ _ _ (S5 _ _ h) hb (st j v _ _ _ h (bf.same S5) (hE j v hv))
   .rw [eX (by lia)] at hv
    have ej:j=i:=by
     by_cases z:j-ys.length=0
     .lia
     .rw [cS (by simp;lia)] at hv;cases hv
    subst ej;rw [e,Nat.sub_self] at hv
    have ev:y=v:=by simpa using hv
    subst ev;exact st j y _ _ _ (S5 _ _ h) hb hE5
theorem y9 {z:ah}(E:Nat->V->Hp->Prop) (S:St->Prop) (hz:dh K H z xs) (ha:H acc=none) (s0:S σ0) (hn:xs.length<=100000)
  (st:∀ i y H1 H2 zs,H1 acc=some (.lst zs)->bf acc H1 H2->E i y H1->E i y H2)
  (turn:∀ (i:Nat) (x:V) (σ':St) (H':Hp) (G:V->St->Hp->Prop),i<xs.length->xs[i]?=some x->bS H H'->S σ'->(∀ y σ2 H5,S σ2->bS H' H5->E i y H5->G y σ2 H5)->g x σ' H' λσ2 H3=>te σ2 H3 λy H5=>G y σ2 H5)
  (fin:∀ ys H',ys.length=xs.length->H' acc=some (.lst ys)->bS H H'->(∀ i y,ys[i]?=some y->E i y H')->R H') :
  ∃ W:Nat->Nat->List V->St->Hp->Prop,(∃ m,W 0 m [] σ0 (upd H acc (.lst [])))/\∀ i m ys σ' H',W i m ys σ' H'->H' acc=some (.lst ys) /\
  (((Ua K z).stop i H'/\R H')\/((Ua K z).go i H'/\∀ x H2,(Ua K z).PX i H' x H2->g x σ' H2 λσ2 H3=>y3 σ2 H3 λb H4 =>
   if b=true then te σ2 H4 λy H5=>H5 acc=some (.lst ys)/\ys.length<aX/\∃ m',m'<m/\W (i+1) m' (ys++[y]) σ2 (upd H5 acc (.lst (ys++[y]))) else ∃ m',m'<m/\W (i+1) m' ys σ2 H4)) :=
 Vc E (λi x=>xs[i]?=some x) S ha s0 hn (λi H' S' h=>⟨xs,_,S'.seq hz,aw h⟩) (λH' S'=>⟨xs,S'.seq hz,aB _⟩) (λi H' x H2 S' _ h=>⟨h.1,h.2 xs (S'.seq hz)⟩) st turn fin
def acT {y:V}(h:H l=some (.lst (xs++[y]))) (k:Q y (upd H l (.lst xs))):aaH (.ref l) [] H Q:=⟨l,xs++[y],y,rfl,rfl,h,by simp,by simpa using k⟩
end
end L2
namespace Sx
open PySem.W
variable {n:Nat}{k:Nat->Int}
def Sat (n:Nat) (k:Nat->Int) {α:Type}:KasT α->(α->Prop)->Prop
 | .ret a,Q=>Q a
 | .ask i j f,Q=>i<n/\j<n/\Sat n k (f (decide (k i<k j))) Q
theorem Sat.bind {α β:Type} {f:α->KasT β}{Q:β->Prop}:∀ {t:KasT α},Sat n k t (λa=>Sat n k (f a) Q)->Sat n k (t.bind f) Q
 | .ret _,h=>h
 | .ask _ _ _,h=>⟨h.1,h.2.1,Sat.bind h.2.2⟩
theorem Sat.mono {α:Type} {Q Q':α->Prop}(hq:∀ a,Q a->Q' a):∀ {t:KasT α},Sat n k t Q->Sat n k t Q'
 | .ret _,h=>hq _ h
 | .ask _ _ _,h=>⟨h.1,h.2.1,Sat.mono hq h.2.2⟩
def Pm (n:Nat) (p:Array Nat):Prop:=p.toList.Perm (iS n)
def Pm.size {p:Array Nat}(h:Pm n p):p.size=n:=by have:=h.length_eq;simpa using this
theorem Pm.lt {p:Array Nat}(h:Pm n p) (hn:0<n) (i:Nat):p.getD i 0<n:=by
 by_cases hi:i<p.size
 .have e:p.getD i 0=p[i]:=by simp [oA,hi]
  rw [e];have:p[i]∈iS n:=h.mem_iff.mp (by simp)
  simpa using this
 .have e:p.getD i 0=0:=by simp [oA,hi]
  lia
def Ky (k:Nat->Int) (p:Array Nat) (i:Nat):Int:=k (p.getD i 0)
def Ky.congr {p q:Array Nat}{i j:Nat}(h:p[i]?=q[j]?):Ky k p i=Ky k q j:=by
 unfold Ky
 have e:∀ (r:Array Nat) (a:Nat),r.getD a 0=(r[a]?).getD 0:=λr a=>by by_cases h:a<r.size<;>simp [oA,h]
 rw [e,e,h]
def Pm.rev {p:Array Nat}(h:Pm n p) (i j:Nat):Pm n (Rv p i j):=(Lm.mp (mirror_perm p i j _)).trans h
def Pm.bub {p:Array Nat}(h:Pm n p) (i j:Nat):Pm n (bubble p i j):=(Lm.mp (bubble_perm p i j)).trans h
theorem Oy {p:Array Nat}{a b:Nat}(hb:b<=p.size) (i:Nat):Ky k (Rv p a b) i=if a<=i/\i<b then Ky k p (a+b-1-i) else Ky k p i:=by
 have e:=getElem?_mirror_all (i:=a) hb i
 split
 .rename_i h;rw [if_pos h] at e;exact Ky.congr e
 .rename_i h;rw [if_neg h] at e;exact Ky.congr e
theorem JP {p:Array Nat}{a b:Nat}(hb:b<=p.size) (h:∀ i,a<=i->i+1<b->Ky k p i=Ky k p (i+1)) (i:Nat):Ky k (Rv p a b) i=Ky k p i:=by
 have all:∀ d i,a<=i->i+d<b->Ky k p i=Ky k p (i+d):=λd=>by
  induction d with
  | zero=>intro i _ _;rfl
  | succ d ih=>intro i h1 h2;rw [ih i h1 (by lia),h (i+d) (by lia) (by lia)];rfl
 rw [Oy hb]
 split
 .rename_i z
  by_cases c:a+b-1-i<=i
  .have:=all (i-(a+b-1-i)) (a+b-1-i) (by lia) (by lia);rw [this];congr 1;lia
  .have:=all (a+b-1-i-i) i (by lia) (by lia);rw [this];congr 1;lia
 .rfl
def Up (k:Nat->Int) (p:Array Nat) (m:Nat):Prop:=∀ i,i+1<m->Ky k p i<=Ky k p (i+1)
def Dn (k:Nat->Int) (p:Array Nat) (m:Nat):Prop:=∀ i,i+1<m->Ky k p (i+1)<=Ky k p i
theorem Up.le {p:Array Nat}{m:Nat}(h:Up k p m) {i j:Nat}(hij:i<=j) (hj:j<m):Ky k p i<=Ky k p j:=by
 induction j with
 | zero =>
  have:i=0:=by lia
  subst this;exact Int.le_refl _
 | succ j ih =>
  by_cases e:i=j+1
  .subst e;exact Int.le_refl _
  .exact Int.le_trans (ih (by lia) (by lia)) (h j hj)
def Up.one {p:Array Nat}{m:Nat}(hm:m<=1):Up k p m:=λi hi=>absurd hi (by lia)
theorem JQ {p:Array Nat}(hp:Pm n p) (hn:0<n):∀ (f m:Nat),1<=m->m+f<=n->Up k p m->Sat n k (kas_asc p f m) λm'=>m<=m'/\m'<=m+f/\Up k p m'/\(m'<m+f->Ky k p m'<Ky k p (m'-1))
 | 0,m,_,_,h=>⟨aB _,aB _,h,λz=>absurd z (by lia)⟩
 | f+1,m,h1,h2,h=>by
  refine ⟨hp.lt hn _,hp.lt hn _,?_⟩
  by_cases c:k (p.getD m 0)<k (p.getD (m-1) 0)
  .rw [decide_eq_true c];exact ⟨aB _,by lia,h,λ_=>c⟩
  .rw [decide_eq_false c];refine Sat.mono (λm' z=>⟨by lia,by lia,z.2.2.1,λw=>z.2.2.2 (by lia)⟩) (JQ hp hn f (m+1) (by lia) (by lia) λi hi=>?_)
   by_cases e:i+1=m
   .subst e;have:Ky k p i=k (p.getD (i+1-1) 0):=rfl;have:Ky k p (i+1)=k (p.getD (i+1) 0):=rfl;lia
   .exact h i (by lia)
structure aa9 (n:Nat) (k:Nat->Int) (p:Array Nat) (m q:Nat):Prop where
 pm:Pm n p
 dn:Dn k p m
 le:q+1<=m
 eq:∀ i,m-(q+1)<=i->i+1<m->Ky k p i=Ky k p (i+1)
theorem zc (hn:0<n):∀ (f:Nat) (p:Array Nat) (m q:Nat),1<=m->m+f<=n->aa9 n k p m q->Sat n k (kas_desc f p m q) λr=>m<=r.2.1/\r.2.1<=m+f/\aa9 n k r.1 r.2.1 r.2.2
 | 0,p,m,q,_,_,h=>⟨aB _,aB _,h⟩
 | f+1,p,m,q,h1,h2,h=>by
  refine ⟨h.pm.lt hn _,h.pm.lt hn _,?_⟩
  by_cases c:k (p.getD m 0)<k (p.getD (m-1) 0)
  .rw [decide_eq_true c]
   show Sat n k (if q>0 then _ else _) _
   have hc:Ky k p m<=Ky k p (m-1):=TH c
   by_cases hq:q>0
   .rw [if_pos hq];have sm:∀ i,Ky k (Rv p (m-(q+1)) m) i=Ky k p i:=JP (by rw [h.pm.size];lia) h.eq;refine Sat.mono (λr z=>⟨by lia,by lia,z.2.2⟩) (zc hn f _ (m+1) 0 (by lia) (by lia) ⟨h.pm.rev _ _,λi hi=>?_,by lia,λi h3 h4=>absurd h4 (by lia)⟩);rw [sm,sm]
    by_cases e:i+1=m
    .subst e;exact hc
    .exact h.dn i (by lia)
   .rw [if_neg hq];refine Sat.mono (λr z=>⟨by lia,by lia,z.2.2⟩) (zc hn f _ (m+1) 0 (by lia) (by lia) ⟨h.pm,λi hi=>?_,by lia,λi h3 h4=>absurd h4 (by lia)⟩)
    by_cases e:i+1=m
    .subst e;exact hc
    .exact h.dn i (by lia)
  .rw [decide_eq_false c];refine ⟨h.pm.lt hn _,h.pm.lt hn _,?_⟩
   by_cases d:k (p.getD (m-1) 0)<k (p.getD m 0)
   .rw [decide_eq_true d];exact ⟨aB _,jD m (f+1),h⟩
   .rw [decide_eq_false d]
    have he:Ky k p m=Ky k p (m-1):=by
     have e1:Ky k p m=k (p.getD m 0):=rfl;have e2:Ky k p (m-1)=k (p.getD (m-1) 0):=rfl;lia
    have hle:=h.le;refine Sat.mono (λr z=>⟨by lia,by lia,z.2.2⟩) (zc hn f p (m+1) (q+1) (by lia) (by lia) ⟨h.pm,λi hi=>?_,by lia,λi h3 h4=>?_⟩)
    .by_cases e:i+1=m
     .subst e;exact Int.le_of_eq he
     .exact h.dn i (by lia)
    .by_cases e:i+1=m
     .subst e;exact he.symm
     .exact h.eq i (by lia) (by lia)
theorem Ma {p:Array Nat}{m:Nat}(hn:0<n) (hp:Pm n p) (h1:1<=m) (hm:m<=n) (h:Dn k p m):Sat n k (kas_tail3 m n p) λr=>Pm n r.2/\1<=r.1/\r.1<=n/\Up k r.2 r.1:=by
 refine Sat.bind (Sat.mono (λm' z=>⟨hp.rev _ _,by lia,by lia,z.2.2.1⟩) (JQ (hp.rev 0 m) hn (n-m) m h1 (by lia) λi hi=>?_));rw [Oy (by rw [hp.size];exact hm),Oy (by rw [hp.size];exact hm),if_pos (by lia),if_pos (by lia)];have:=h (0+m-1-(i+1)) (by lia)
 have e:0+m-1-(i+1)+1=0+m-1-i:=by lia
 rw [e] at this;exact this
theorem zd {p:Array Nat}{m:Nat}(hn:0<n) (hp:Pm n p) (h1:1<=m) (hm:m+1<=n) (h:Dn k p (m+1)):Sat n k (kas_descPart m n p) λr=>Pm n r.2/\1<=r.1/\r.1<=n/\Up k r.2 r.1:=by
 refine Sat.bind (Sat.mono ?_ (zc hn (n-(m+1)) p (m+1) 0 (by lia) (by lia) ⟨hp,h,by lia,λi h3 h4=>absurd h4 (by lia)⟩));rintro ⟨p',m',q'⟩ ⟨a1,a2,a3⟩
 show Sat n k (if q'>0 then _ else _) _
 have a1:m+1<=m':=a1;have a2:m'<=m+1+(n-(m+1)):=a2;have a3:aa9 n k p' m' q':=a3
 by_cases hq:q'>0
 .rw [if_pos hq];refine Ma hn (a3.pm.rev _ _) (by lia) (by lia) λi hi=>?_;have sm:∀ i,Ky k (Rv p' (m'-(q'+1)) m') i=Ky k p' i:=JP (by rw [a3.pm.size];lia) a3.eq;rw [sm,sm];exact a3.dn i hi
 .rw [if_neg hq];exact Ma hn a3.pm (by lia) (by lia) a3.dn
theorem Sj {p:Array Nat}(hn:0<n) (hp:Pm n p):Sat n k (kas_count n p) λr=>Pm n r.2/\1<=r.1/\r.1<=n/\Up k r.2 r.1:=by
 refine Sat.bind (Sat.mono ?_ (JQ hp hn (n-1) 1 (aB _) (by lia) (Up.one (aB _))));rintro m ⟨a1,a2,a3,a4⟩
 show Sat n k (if (m == n)=true then _ else _) _
 by_cases e:m=n
 .subst e;rw [if_pos (by simp)];exact ⟨hp,a1,aB _,a3⟩
 .rw [if_neg (by simpa using e)];have a4:=a4 (by lia)
  by_cases h1:m>1
  .rw [if_pos h1];refine ⟨hp.lt hn _,hp.lt hn _,?_⟩
   by_cases c:k (p.getD 0 0)<k (p.getD (m-1) 0)
   .rw [decide_eq_true c];exact ⟨hp,a1,by lia,a3⟩
   .rw [decide_eq_false c]
    have eqs:∀ i,i+1<m->Ky k p i=Ky k p (i+1):=λi hi=>by
     have b1:=a3.le (bA i) (show i<m by lia);have b2:=a3 i hi;have b3:=a3.le (show i+1<=m-1 by lia) (by lia);have e1:Ky k p 0=k (p.getD 0 0):=rfl;have e2:Ky k p (m-1)=k (p.getD (m-1) 0):=rfl;lia
    have sm:∀ i,Ky k (Rv p 0 m) i=Ky k p i:=JP (by rw [hp.size];lia) λi _ hi=>eqs i hi;refine zd hn (hp.rev _ _) a1 (by lia) λi hi=>?_;rw [sm,sm]
    by_cases e3:i+1=m
    .subst e3;exact TH a4
    .exact Int.le_of_eq (eqs i (by lia)).symm
  .rw [if_neg h1]
   have e1:m=1:=by lia
   subst e1;refine zd hn hp (aB _) (by lia) λi hi=>?_
   have e2:i=0:=by lia
   subst e2;exact TH a4
theorem Bb {p:Array Nat}{x:Nat}(hn:0<n) (hp:Pm n p) (hx:Up k p x):∀ (f l r:Nat),r-l<=f->l<=r->r<=x->(∀ i,i<l->Ky k p i<=Ky k p x)->(∀ i,r<=i->i<x->Ky k p x<Ky k p i) ->
  Sat n k (kas_place p x f l r) λl'=>l'<=x/\(∀ i,i<l'->Ky k p i<=Ky k p x)/\∀ i,l'<=i->i<x->Ky k p x<Ky k p i
 | 0,l,r,h1,h2,h3,h4,h5=>⟨by lia,h4,λi z1 z2=>h5 i (by lia) z2⟩
 | f+1,l,r,h1,h2,h3,h4,h5=>by
  show Sat n k (if l>=r then _ else _) _
  by_cases c:l>=r
  .rw [if_pos c];exact ⟨by lia,h4,λi z1 z2=>h5 i (by lia) z2⟩
  .rw [if_neg c];refine ⟨hp.lt hn _,hp.lt hn _,?_⟩
   by_cases d:k (p.getD x 0)<k (p.getD ((l+r)/2) 0)
   .rw [decide_eq_true d];refine Bb hn hp hx f l ((l+r)/2) (by lia) (by lia) (by lia) h4 λi z1 z2=>?_;have b:=hx.le z1 z2;have d:Ky k p x<Ky k p ((l+r)/2):=d;lia
   .rw [decide_eq_false d];refine Bb hn hp hx f ((l+r)/2+1) r (by lia) (by lia) h3 (λi z1=>?_) h5;have b:=hx.le (show i<=(l+r)/2 by lia) (by lia);have d:¬ Ky k p x<Ky k p ((l+r)/2):=d;lia
theorem Vd {p:Array Nat}{x l:Nat}(hx:x<p.size) (hl:l<=x) (i:Nat):Ky k (bubble p x (x-l)) i=if i=l then Ky k p x else if l<i/\i<=x then Ky k p (i-1) else Ky k p i:=by
 have e:=getElem?_bubble hx (x-l) (by lia) i
 have e2:x-(x-l)=l:=by lia
 rw [e2] at e
 by_cases h1:i=l
 .rw [if_pos h1] at e ⊢;exact Ky.congr e
 .rw [if_neg h1] at e ⊢
  by_cases h2:l<i/\i<=x
  .rw [if_pos h2] at e ⊢;exact Ky.congr e
  .rw [if_neg h2] at e ⊢;exact Ky.congr e
theorem Qu (hn:0<n):∀ (f:Nat) (p:Array Nat) (x:Nat),x+f=n->Pm n p->Up k p x->Sat n k (kas_bin f p x) λp'=>Pm n p'/\Up k p' n
 | 0,p,x,h1,hp,h=>⟨hp,by rw [← h1];exact h⟩
 | f+1,p,x,h1,hp,h=>by
  refine Sat.bind (Sat.mono ?_ (Bb hn hp h x 0 x (by lia) (bA _) (aB _) (λi z=>absurd z (by lia)) (λi z1 z2=>absurd z2 (by lia))));rintro l ⟨a1,a2,a3⟩;refine Qu hn f _ (x+1) (by lia) (hp.bub _ _) λi hi=>?_
  have hs:x<p.size:=by rw [hp.size];lia
  rw [Vd hs a1,Vd hs a1]
  by_cases c1:i+1<l
  .rw [if_neg (by lia),if_neg (by lia),if_neg (by lia),if_neg (by lia)];exact h i (by lia)
  .by_cases c2:i+1=l
   .rw [if_neg (by lia),if_neg (by lia),if_pos c2];exact a2 i (by lia)
   .by_cases c3:i=l
    .rw [if_pos c3,if_neg (by lia),if_pos (by lia)];have:=a3 i (by lia) (by lia)
     have e:i+1-1=i:=by lia
     rw [e];lia
    .rw [if_neg c3,if_pos (by lia),if_neg (by lia),if_pos (by lia)];have:=h (i-1) (by lia)
     have e:i-1+1=i+1-1:=by lia
     rw [e] at this;exact this
def Ve:Pm n (List.toArray (iS n)):=by unfold Pm;simp
theorem Ez (hn:0<n):Sat n k (kas_sort n) λp=>Pm n p/\Up k p n:=by
 refine Sat.bind (Sat.mono ?_ (Sj hn Ve));rintro ⟨m,p⟩ ⟨a1,a2,a3,a4⟩
 show Sat n k (if m<n then _ else _) _
 have a2:1<=m:=a2;have a3:m<=n:=a3;have a4:Up k p m:=a4
 by_cases c:m<n
 .rw [if_pos c]
  have e:max m 1=m:=by lia
  show Sat n k (kas_bin (n-max m 1) p (max m 1)) _
  rw [e];exact Qu hn (n-m) p m (by lia) a1 a4
 .rw [if_neg c]
  have:m=n:=by lia
  subst this;exact ⟨a1,a4⟩
theorem Sat.ask {cmp:Nat->Nat->(Bool->ay->Prop)->ay->Prop}{s:ay}(hc:∀ i j C,i<n->j<n->C (decide (k i<k j)) s->cmp i j C s) {α:Type} {Q:α->Prop}{G:α->ay->Prop}(hG:∀ a,Q a->G a s):∀ {t:KasT α},Sat n k t Q->t.kasWp cmp G s
 | .ret _,h=>hG _ h
 | .ask i j f,h=>hc i j _ h.1 h.2.1 (Sat.ask hc hG h.2.2)
end Sx
namespace L2
open PySem.W
variable {h:cJ}{w:cU}{s:ay}{X:Cx}{a:ah}{m:bq->Option ai}{H:Hp}{o:HO}{E:ai->ay->Prop}{prog:bQ}{A:dM}
def aba {m':bq->Option ai}(x:h.Ns a m) (y:h.Ns a m'):m=m':=by
 obtain ⟨o,es,ep,e,d,_,r⟩:=x;obtain ⟨o',es',ep',e',d',_,r'⟩:=y;rw [e] at e';cases e';rw [d] at d';cases d'
 funext n
 rw [← r n,← r' n]
theorem fv.obj {P:bQ}(x:fv P w H h a o):∃ ob,h.get? a=some ob:=by
 cases o with
 | lst xs=>obtain ⟨_,_,_,_,e⟩:=x;exact ⟨_,e⟩
 | tup xs=>obtain ⟨_,_,_,ob,e,_⟩:=x;exact ⟨_,e⟩
 | dK kvs=>obtain ⟨_,_,_,_,ob,_,_,e,_⟩:=x;exact ⟨_,e⟩
 | dT kvs=>obtain ⟨_,_,_,_,ob,_,_,e,_⟩:=x;exact ⟨_,e⟩
 | set S n=>obtain ⟨ob,_,_,_,e,_⟩:=x;exact ⟨_,e⟩
 | ins C dx fs=>obtain ⟨_,_,_,e,_⟩:=x;exact ⟨_,e⟩
 | own y=>exact x
 | xd fs=>obtain ⟨_,⟨ob,_,_,e,_⟩,_⟩:=x;exact ⟨_,e⟩
 | rng lo hi=>obtain ⟨_,_,_,e⟩:=x;exact ⟨_,e⟩
 | frz ob u=>exact ⟨_,x.1⟩
 | tbl ps=>exact ⟨_,x⟩
 | met f y=>exact ⟨_,x⟩
 | ext φ=>exact x.2.1
section
variable {pins:List (ah×iW)}{Z:St}
theorem Inv.vL {h':cJ}{t':Nat}{D:ah}{ob:iW}(I:Inv X pins Z H s) (hm:s.heap.Ns X.env.locals m) (F:Fr X.base X.env.locals h' m)
  (N:rQ X.base X.env.locals h' ((D,ob)::lX X.base s.heap X.env.locals)) (hD:∀ q∈lX X.base s.heap X.env.locals,q.1<D) (new:fv X.prog X.w (upd H D o) h' D o):H D=none/\Inv X pins Z (upd H D o) { s with heap:=h',toks:=t' }:=by
 have nd:=N (D,ob) ar
 have gD:s.heap.get? D=none:=by
  cases q:s.heap.get? D with
  | none=>rfl
  | some u=>exact absurd (hD (D,u) (lI nd.2.1 nd.2.2 q)) (h8 _)
 have hn:H D=none:=by
  cases q:H D with
  | none=>rfl
  | some u =>
   obtain ⟨w,e⟩:∃ w,s.heap.get? D=some w:=(I.eV D u q).obj;rw [gD] at e;cases e
 have k:∀ b o,b≠X.env.locals->s.heap.get? b=some o->h'.get? b=some o:=λb o h1 e=>by
  cases q:X.base.get? b with
  | some u =>
   have z:=I.bk b u q;rw [e] at z;cases z
   exact F.keep b _ q
  | none=>exact (N (b,o) (ag _ (lI h1 q e))).1
 have nD:∀ b o,s.heap.get? b=some o->b≠D:=λb o e z=>by rw [z,gD] at e;cases e
 have hH:∀ b u,H b=some u->b≠D:=λb u e=>aJ e hn
 refine ⟨hn,I.step (g':=s.gens) (d':=s.drawn) (ch:=[]) (λ_ z=>nomatch z) (λb o h1 _ _ e _=>k b o h1 e) (λb o h1 _ _ e _=>⟨o.slots,k b o h1 e⟩) (λb o _ e n=>by rw [aE (nD b o e)];exact n) (λb o _ e=>?_)
  (λb _ e=>by rw [aE (hH b _ e)];exact e) (λb _ _ e=>by rw [aE (hH b _ e)];exact e) (λb ps e=>⟨#[],by rw [aE (hH b _ e),e];simp⟩) (λm' hm'=>by rw [← aba hm hm'];exact F.ns) (λb u e=>?_) I.bare⟩
 .by_cases hb:b=X.env.locals
  .subst hb;obtain ⟨o',_,_,e',_⟩:=F.ns;exact ⟨o',e'⟩
  .exact ⟨o,k b o hb e⟩
 .by_cases hb:b=D
  .subst hb;rw [aD] at e;cases e;exact new
  .rw [aE hb] at e
   refine (I.eV b u e).vO (λc v hc q=>k c v ?_ q) (λc q=>by rw [aE (hH c _ q)];exact q) λc _ q=>by rw [aE (hH c _ q)];exact q
   rintro rfl
   rcases hc with hc|hc
   .rw [← hc,I.free] at e;cases e
   .rw [I.free] at hc;cases hc
end
def lexLt (z w:Int×Int):Bool:=decide (z.1<w.1) || (z.1 == w.1 && decide (z.2<w.2))
def m5 {z w:Int×Int}:lexLt z w=true↔z.1<w.1\/(z.1=w.1/\z.2<w.2):=by simp [lexLt]
def xl (z w:Int×Int):Prop:=z.1<w.1\/(z.1=w.1/\z.2<=w.2)
def Mb {z w:Int×Int}(h:lexLt w z=false):xl z w:=by
 have:¬ (w.1<z.1\/(w.1=z.1/\w.2<z.2)):=λq=>by rw [m5.mpr q] at h;cases h
 unfold xl;lia
def Oz (ts:List (Int×Int)) (t:Int×Int):Int:=(ts.countP λu=>lexLt u t:Nat)
theorem EA {α:Type} {p q:α->Bool}:∀ {l:List α}{x:α},(∀ y∈l,p y=true->q y=true)->x∈l->p x=false->q x=true->l.countP p<l.countP q
 | y::l,x,h,hx,h1,h2=>by
  have hl:∀ y∈l,p y=true->q y=true:=λy hy=>h y (ag _ hy);have hle:l.countP p<=l.countP q:=yd hl;rw [aae,aae]
  rcases aq.mp hx with e|hx
  .subst e;rw [h1,h2];simp;lia
  .have hlt:=EA hl hx h1 h2
   by_cases hp:p y=true
   .rw [if_pos hp,if_pos (h y ar hp)];lia
   .rw [if_neg hp];lia
theorem Qv {ts:List (Int×Int)}{t u:Int×Int}(ht:t∈ts) (hu:u∈ts):decide (Oz ts t<Oz ts u)=lexLt t u:=by
 rw [eZ,decide_eq_true_iff]
 constructor
 .intro h
  cases q:lexLt t u with
  | true=>rfl
  | false =>
   have hle:=Mb q
   have:ts.countP (λw=>lexLt w u)<=ts.countP (λw=>lexLt w t):=yd λw _ hw=>by
    rw [m5] at hw ⊢;unfold xl at hle;lia
   unfold Oz at h;lia
 .intro h
  have hlt:ts.countP (λw=>lexLt w t)<ts.countP (λw=>lexLt w u):=EA (x:=t) (λw _ hw=>by rw [m5] at hw h ⊢;lia) ht (by
   cases q:lexLt t t with
   | false=>rfl
   | true=>rw [m5] at q;lia) h
  unfold Oz;lia
abbrev Zt:=Int×Int×ah
def zP (z:Zt):Int×Int:=(z.1,z.2.1)
def kM (z:Zt):V:=.ref z.2.2
def iL (H:Hp) (z:Zt):Prop:=H z.2.2=some (.tup [.int z.1,.int z.2.1])
theorem Vg {x y:ah}{a1 a2 b1 b2:Int}{t1 t2 u1 u2:Z9}{Q:Bool->ay->Prop}(hx:nv s.heap x #[.int a1 t1,.int a2 t2]) (hy:nv s.heap y #[.int b1 u1,.int b2 u2]) (h:Q (lexLt (a1,a2) (b1,b2)) s) :
  aL (aU prog w) A (keyLt' (tuples' true) (.ref x) (.ref y)) Q E s:=by
 obtain ⟨ox,ex,cx,nx,dx⟩:=hx;obtain ⟨oy,ey,cy,ny,dy⟩:=hy;refine kat_lt ex dx ey dy ?_;have ez:(#[fc a1 t1,fc a2 t2].toList.zip #[fc b1 u1,fc b2 u2].toList)=[(.int a1 t1,.int b1 u1),(.int a2 t2,.int b2 u2)]:=rfl;rw [ez];refine yL (gC a1 t1 b1 u1 _ _ _ _ ?_)
 by_cases e:a1=b1
 .have e1:(a1 == b1)=true:=by simpa using e
  rw [e1];refine AI (yL (gC a2 t2 b2 u2 _ _ _ _ ?_))
  by_cases f:a2=b2
  .have f1:(a2 == b2)=true:=by simpa using f
   rw [f1];refine AI (kat_nil ?_)
   have:lexLt (a1,a2) (b1,b2)=false:=by
    cases q:lexLt (a1,a2) (b1,b2) with
    | false=>rfl
    | true=>rw [m5] at q;simp only at q;lia
   rw [this] at h;exact h
  .have f1:(a2 == b2)=false:=by simpa using f
   rw [f1];refine TJ (kat_one _ _ (Rp ?_))
   have:lexLt (a1,a2) (b1,b2)=decide (a2<b2):=by
    rw [eZ,m5,decide_eq_true_iff];simp only;lia
   rw [this] at h;exact h
 .have e1:(a1 == b1)=false:=by simpa using e
  rw [e1];refine TJ (oneLt_int ?_)
  have:lexLt (a1,a2) (b1,b2)=decide (a1<b1):=by
   rw [eZ,m5,decide_eq_true_iff];simp only;lia
  rw [this] at h;exact h
theorem vX:∀ zs:List Zt,Vals (zs.map kM) (zs.map λz=>ax z.2.2)
 | []=>.nil
 | z::zs=>.cons rfl (vX zs)
theorem IM:∀ {zs:List Zt},(∀ z∈zs,∃ t u,nv h z.2.2 #[.int z.1 t,.int z.2.1 u])->∃ fs,KatTups h (zs.map λz=>ax z.2.2) fs/\fs.length=zs.length/\∀ v∈fs,∃ i t,v=fc i t
 | [],_=>⟨[],.nil,rfl,λv hv=>nomatch hv⟩
 | z::zs,hz=>by
  obtain ⟨fs,h1,h2,h3⟩:=IM (zs:=zs) λy hy=>hz y (ag _ hy);obtain ⟨t,u,o,e,c,n,d⟩:=hz z ar;refine ⟨.int z.1 t::fs,NR e c d rfl h1,by simp [h2],λv hv=>?_⟩
  rcases aq.mp hv with rfl|hv
  .exact ⟨_,_,rfl⟩
  .exact h3 v hv
def EB {α:Type} (l:List α) (d:α):(iS l.length).map (λi=>l.getD i d)=l:=by
 apply kH
 intro i;rw [aG]
 by_cases h:i<l.length
 .rw [Xb h,aw h];simp [h]
 .rw [cS (by simp;lia),cS (by lia)];rfl
theorem JR {l:ah}{vs:List ai}{Q:ai->ay->Prop}(hl:s.heap.IsList l vs.toArray) (h2:vs.length<2)
  (h:Q (.ref (s.heap.objs.size+1)) { s with heap:=sortedAll s.heap vs vs.toArray }):aL (aU prog w) A (call (.builtin "sorted") [.ref l]) Q E s:=by
 have hz:vs.length<=aX:=du (m:=2) (by lia);refine lB DC AJ AK (Lo _) (ae (m:=Iq "sorted" 1 1 _) (au (ae (collect_list hl (ae (kU ?_ hz)) hz))));have e1:((s.heap.push (a9 "list" #[] 0)).update s.heap.objs.size (bB (·++vs.toArray))).objs.size=s.heap.objs.size+1:=(oM ..).trans (size_push' ..);have g1:(((s.heap.push (a9 "list" #[] 0)).update s.heap.objs.size (bB (·++vs.toArray))).push (a9 "list" vs.toArray 0)).get? (s.heap.objs.size+1)=some (a9 "list" vs.toArray 0):=e1▸aI _ rfl;have e0:(a9 "list" vs.toArray 0:iW)={ cls:=.type "list",data:=.seq vs.toArray }:=rfl;have hlt:s.heap.objs.size+1<(((s.heap.push (a9 "list" #[] 0)).update s.heap.objs.size (bB (·++vs.toArray))).push (a9 "list" vs.toArray 0)).objs.size:=aF g1
 show aL (aU prog w) A.in1 (do let _ ← jU [ax ((s.heap.push (a9 "list" #[] 0)).update s.heap.objs.size (bB (·++vs.toArray))).objs.size] (call (.builtin "list.sort") [ax ((s.heap.push (a9 "list" #[] 0)).update s.heap.objs.size (bB (·++vs.toArray))).objs.size]);ret (ax ((s.heap.push (a9 "list" #[] 0)).update s.heap.objs.size (bB (·++vs.toArray))).objs.size)) _ _ { s with heap:=((s.heap.push (a9 "list" #[] 0)).update s.heap.objs.size (bB (·++vs.toArray))).push (a9 "list" vs.toArray 0) }
 rw [e1];generalize hh:((s.heap.push (a9 "list" #[] 0)).update s.heap.objs.size (bB (·++vs.toArray))).push (a9 "list" vs.toArray 0)=hp at g1 hlt;unfold sortedAll at h;rw [hh] at h;refine ae (bY (cV ua ⟨_,g1,rfl⟩ rS ?_ (DD _)));rw [list_sort_plain]
 obtain ⟨c1,g2⟩:∃ c1,(hp.update (s.heap.objs.size+1) (bB λ_=>#[])).get? (s.heap.objs.size+1)=some (a9 "list" #[] c1):=⟨_,kP g1 λ_=>#[]⟩
 refine ae (sU g1 rfl (ae (nz g1 rfl (ae (DE g2 rfl (ae (ub (ae (kU (bY ?_) (bA _))) hz)))) (by rw [aN];exact hz) (bA _))));have g6:(((hp.update (s.heap.objs.size+1) (bB λ_=>#[])).push (a9 "tuple" vs.toArray 0)).push (a9 "list" #[] 0)).get? (s.heap.objs.size+1)=some (a9 "list" #[] c1):=ao _ (ao _ g2)
 have hn:vs.toArray.size<2:=by rw [aN];exact h2
 show aL (aU prog w) A.in1.in1 _ _ _ { s with heap:=((hp.update (s.heap.objs.size+1) (bB λ_=>#[])).push (a9 "tuple" vs.toArray 0)).push (a9 "list" #[] 0) }
 dsimp only;rw [if_pos hn,if_pos hn];refine ae (au ?_);rw [GG];refine ae (au ?_);dsimp only
 have es:(arrOf (SortSt.mk' general' (vs.toArray.zip vs.toArray) #[] 7 none)).map (·.2)=vs.toArray:=by
  show (vs.toArray.zip vs.toArray).map (·.2)=vs.toArray
  apply Gy.mp
  simp;exact GH (aB _)
 rw [es];refine ae (DE g6 rfl (ae (nz g6 rfl ?_ (bA _) (by rw [aN];exact tM hz))));simp only [bne_self_eq_false,ck,if_false];exact au ⟨_,rfl,au ⟨_,rfl,h⟩⟩
theorem Ye (its:List ai) (lo:Option Int) (h:lo=none\/lo=some 1):(yK its.toArray lo none (some 2)).toList.length<=(its.length+1)/2:=by
 unfold yK;refine bF (List.length_filterMap_le _ _) ?_;unfold sliceRange;rw [af,sV,aN]
 rcases h with rfl|rfl
 .simp only [lU,Xq,show (2:Int)>0 by decide,if_true]
  split<;>lia
 .simp only [lU,Xq,show (2:Int)>0 by decide,if_true,show ¬ (1:Int)<0 by decide,if_false]
  split<;>lia
end L2
namespace Zl
open PySem.W
variable {T S:ah}{f:Bool}{oT:iW}{n:Nat}{Q:Bool->ay->Prop}{R:Tv->ay->Prop}
section
variable {prog:bQ}{w:cU}{A:dM}{E:ai->ay->Prop}{s:ay}{z TI TO i1 i2 l1 l2:ah}{xs ys:Array ai}{k:Nat}
abbrev ED (h:cJ) (z TI TO T:ah) (f:Bool):Prop:=h.get? z=some { cls:=.type "zip",dict:=none,data:=.fields #[cF T,.bool f,.bool false,.ref TI,.ref TO],slots:=#[] }
theorem Mc (hz:ED s.heap z TI TO T f) (hT:s.heap.get? T=some oT)
  (hQ:∀ h',ED h' z TI TO T true->iH z s.heap h'->Q false { s with heap:=h' }):aL (aU prog w) A (gW (.ref z)) Q E s:=by
 unfold gW;refine ae (wg hz rfl (x:=cF T) rfl ?_);unfold cF;dsimp only;refine ae (kdx_alive (a:=T) hT ?_);simp only [Uj,ck,if_false];refine ae (wg hz rfl (x:=.bool f) rfl ?_)
 cases f with
 | true =>
  rw [if_neg (by decide)]
  exact au (hQ s.heap hz ⟨rfl,λb hb=>rfl⟩)
 | false =>
  rw [if_pos (by decide)];exact ae (wpAny_setField_rec hz (by simp) λh' hz' hs'=>au (hQ h' hz' hs'))
theorem Vh {x y:ai}{Q:ai->ay->Prop}(D:DF z TI TO i1 i2 l1 l2) (hz:ED s.heap z TI TO T f) (hT:s.heap.get? T=some oT) (hTI:xb s.heap TI (.ref i1) (.ref i2))
  (h1:s.heap.IsListIter i1 l1 k) (h2:s.heap.IsListIter i2 l2 k) (hl1:s.heap.IsList l1 xs) (hl2:s.heap.IsList l2 ys) (hx:xs[k]?=some x) (hy:ys[k]?=some y)
  (hQ:∀ h',ED h' z TI TO T true->h'.IsListIter i1 l1 (k+1)->h'.IsListIter i2 l2 (k+1)->xb h' s.heap.objs.size x y ->
   (∀ c o,c≠z->c≠i1->c≠i2->s.heap.get? c=some o->h'.get? c=some o)->Q (.ref s.heap.objs.size) { s with heap:=h' }) :
  aL (aU prog w) A (jV.«zip.__next__» ⟨[.ref z],[]⟩) (λfin s'=>∃ v,fin=.done (.ret v)/\Q v s') E s:=by
 show aL _ _ (field (.ref z) 2 >>= _) _ _ _
 refine ae (wg hz rfl (x:=.bool false) rfl ?_)
 show aL _ _ (field (.ref z) 3 >>= _) _ _ _
 refine ae (wg hz rfl (x:=.ref TI) rfl (ae (wpAny_seqItems hTI rfl ?_)))
 show aL _ _ (gW (.ref z) >>= _) _ _ _
 refine ae (Mc hz hT λh₀ z₀ s₀=>?_);simp only [ck,if_false];refine ae ?_;rw [← Xc];simp only [xa,yT];refine ae (ae (bY ?_))
 show aL _ _ (jE (.ref i1) >>= _) _ _ _
 refine ae (AM (s:={ s with heap:=h₀ }) (h1.extBut s₀.extBut D.i1z) (hl1.extBut s₀.extBut D.l1z) hx λh₁ j₁ s₁=>au (au ?_));refine ae (ae (bY ?_))
 show aL _ _ (jE (.ref i2) >>= _) _ _ _
 refine ae (AM (s:={ s with heap:=h₁ }) ((h2.extBut s₀.extBut D.i2z).extBut s₁.extBut D.i12.symm) ((hl2.extBut s₀.extBut D.l2z).extBut s₁.extBut D.l2i1) hy λh₂ j₂ s₂=>au (au (au ?_)))
 have sz:h₂.objs.size=s.heap.objs.size:=by rw [s₂.1,s₁.1,s₀.1]
 have zz:ED h₂ z TI TO T true:=s₂.extBut _ _ D.i2z.symm (s₁.extBut _ _ D.i1z.symm z₀);have kp:∀ c o,c≠z->c≠i1->c≠i2->s.heap.get? c=some o->h₂.get? c=some o:=λc o c1 c2 c3 e=>s₂.extBut _ _ c3 (s₁.extBut _ _ c2 (s₀.extBut _ _ c1 e));refine ae (ub ?_ (by show 2<=aX;exact L2.du (m:=2) (aB 2)));refine au ⟨_,rfl,?_⟩
 show Q (.ref h₂.objs.size) { s with heap:=h₂.push { cls:=.type "tuple",data:=.seq #[x,y] } }
 rw [sz];refine hQ _ (ao _ zz) ((Heap.IsListIter.extBut j₁ s₂.extBut D.i12).at λo e=>ao _ e) (j₂.at λo e=>ao _ e) (by rw [← sz];exact aI _ rfl) λc o c1 c2 c3 e=>ao _ (kp c o c1 c2 c3 e)
theorem Yg {Q:PySem.Fin->ay->Prop}(hh:A.handled=none) (D:DF z TI TO i1 i2 l1 l2) (hz:ED s.heap z TI TO T f) (hT:s.heap.get? T=some oT) (hTI:xb s.heap TI (.ref i1) (.ref i2))
  (h1:s.heap.IsListIter i1 l1 k) (h2:s.heap.IsListIter i2 l2 k) (hl1:s.heap.IsList l1 xs) (hl2:s.heap.IsList l2 ys) (hend:xs[k]?=none\/ys[k]?=none)
  (hE:∀ h' e,(∀ c o,c≠z->c≠i1->c≠i2->s.heap.get? c=some o->h'.get? c=some o)->(∃ o,h'.get? e=some o/\o.cls=.type "StopIteration")->E (.ref e) { s with heap:=h' }) :
  aL (aU prog w) A (jV.«zip.__next__» ⟨[.ref z],[]⟩) Q E s:=by
 show aL _ _ (field (.ref z) 2 >>= _) _ _ _
 refine ae (wg hz rfl (x:=.bool false) rfl ?_)
 show aL _ _ (field (.ref z) 3 >>= _) _ _ _
 refine ae (wg hz rfl (x:=.ref TI) rfl (ae (wpAny_seqItems hTI rfl ?_)))
 show aL _ _ (gW (.ref z) >>= _) _ _ _
 refine ae (Mc hz hT λh₀ z₀ s₀=>?_);simp only [ck,if_false];refine ae ?_;rw [← Xc];simp only [xa,yT];refine ae (ae (bY ?_))
 show aL _ _ (jE (.ref i1) >>= _) _ _ _
 cases hx:xs[k]? with
 | none=>exact ae (aaf (s:={ s with heap:=h₀ }) hh (h1.extBut s₀.extBut D.i1z) (hl1.extBut s₀.extBut D.l1z) hx λh₁ e s₁ he=>hE h₁ e (λc o c1 c2 c3 q=>s₁ _ _ c2 (s₀.extBut _ _ c1 q)) he)
 | some x =>
  have hy:ys[k]?=none:=by rcases hend with q|q;rw [hx] at q;cases q;exact q
  refine ae (AM (s:={ s with heap:=h₀ }) (h1.extBut s₀.extBut D.i1z) (hl1.extBut s₀.extBut D.l1z) hx λh₁ j₁ s₁=>au (au ?_));refine ae (ae (bY ?_))
  show aL _ _ (jE (.ref i2) >>= _) _ _ _
  exact ae (aaf (s:={ s with heap:=h₁ }) hh ((h2.extBut s₀.extBut D.i2z).extBut s₁.extBut D.i12.symm) ((hl2.extBut s₀.extBut D.l2z).extBut s₁.extBut D.l2i1) hy λh₂ e s₂ he =>
   hE h₂ e (λc o c1 c2 c3 q=>s₂ _ _ c3 (s₁.extBut _ _ c2 (s₀.extBut _ _ c1 q))) he)
structure ZS (h:cJ) (z TI TO i1 i2 l1 l2 S:ah) (xs ys:Array ai) (k:Nat):Prop where
 zz:(k=0/\IsZip h z TI TO .none/\∃ a b,xb h TO a b)\/∃ T f oT,ED h z TI TO T f/\h.get? T=some oT/\T≠z/\T≠i1/\T≠i2/\T≠S
 ti:xb h TI (.ref i1) (.ref i2)
 a1:h.IsListIter i1 l1 k
 a2:h.IsListIter i2 l2 k
 b1:h.IsList l1 xs
 b2:h.IsList l2 ys
structure Off (z TI TO i1 i2 l1 l2 S:ah):Prop where
 z:z≠S
 ti:TI≠S
 to:TO≠S
 i1:i1≠S
 i2:i2≠S
 l1:l1≠S
 l2:l2≠S
theorem ZS.keep {h h':cJ}(x:ZS h z TI TO i1 i2 l1 l2 S xs ys k) (O:Off z TI TO i1 i2 l1 l2 S) (hk:∀ b o,b≠S->h.get? b=some o->h'.get? b=some o):ZS h' z TI TO i1 i2 l1 l2 S xs ys k where
 zz:=by
  rcases x.zz with ⟨e,hz,a,b,hp⟩|⟨T,f,oT,hz,hT,n1,n2,n3,n4⟩
  .exact .inl ⟨e,hk _ _ O.z hz,a,b,hk _ _ O.to hp⟩
  .exact .inr ⟨T,f,oT,hk _ _ O.z hz,hk _ _ n4 hT,n1,n2,n3,n4⟩
 ti:=hk _ _ O.ti x.ti
 a1:=x.a1.at λo e=>hk _ o O.i1 e
 a2:=x.a2.at λo e=>hk _ o O.i2 e
 b1:=x.b1.at λo e=>hk _ o O.l1 e
 b2:=x.b2.at λo e=>hk _ o O.l2 e
theorem ZS.item {x y:ai}{Q:Option ai->ay->Prop}(D:DF z TI TO i1 i2 l1 l2) (st:ZS s.heap z TI TO i1 i2 l1 l2 S xs ys k) (hS:S<s.heap.objs.size) (hx:xs[k]?=some x) (hy:ys[k]?=some y)
  (hQ:∀ h',ZS h' z TI TO i1 i2 l1 l2 S xs ys (k+1)->xb h' s.heap.objs.size x y->(∀ c o,c≠z->c≠TO->c≠i1->c≠i2->s.heap.get? c=some o->h'.get? c=some o)->Q (some (.ref s.heap.objs.size)) { s with heap:=h' }) :
  aL (aU prog w) A (jC (.ref z)) Q E s:=by
 have lt1:i1<s.heap.objs.size:=by obtain ⟨_,e,_⟩:=st.a1;exact aF e
 have lt2:i2<s.heap.objs.size:=by obtain ⟨_,e,_⟩:=st.a2;exact aF e
 rcases st.zz with ⟨e,hz,a,b,hp⟩|⟨T,f,oT,hz,hT,n1,n2,n3,n4⟩
 .refine wpAny_pyNext_zip_item D hz st.ti hp st.a1 st.a2 st.b1 st.b2 hx hy λh' q1 q2 q3 q4 q5 q6 q7=>?_;refine hQ h' ⟨.inr ⟨_,false,_,q1,q5,df (aF hz),df lt1,df lt2,df hS⟩,q7 _ _ D.TIz D.TITO D.TIi1 D.TIi2 st.ti,q3,q4,st.b1.at λo e=>q7 _ o D.l1z D.l1TO D.l1i1 D.l1i2 e,st.b2.at λo e=>q7 _ o D.l2z D.l2TO D.l2i1 D.l2i2 e⟩ q5 q7
 .have ty:s.TypeIs (.ref z) "zip":=⟨_,hz,rfl⟩
  unfold jC
  refine ae (iq (e9 (name:=fH "__next__") ty F.slot_zip_next (cV F.slot_zip_next ty F.entry_zip_next
   (Vh D hz hT st.ti st.a1 st.a2 st.b1 st.b2 hx hy λh' q1 q3 q4 q5 q7=>au ?_) (F.args_zip_next_1 _))))
  refine hQ h' ⟨.inr ⟨T,true,oT,q1,q7 _ _ n1 n2 n3 hT,n1,n2,n3,n4⟩,q7 _ _ D.TIz D.TIi1 D.TIi2 st.ti,q3,q4,st.b1.at λo e=>q7 _ o D.l1z D.l1i1 D.l1i2 e,st.b2.at λo e=>q7 _ o D.l2z D.l2i1 D.l2i2 e⟩ q5 λc o c1 _ c3 c4 e=>q7 c o c1 c3 c4 e
theorem ZS.done {Q:Option ai->ay->Prop}(hh:A.handled=none) (D:DF z TI TO i1 i2 l1 l2) (st:ZS s.heap z TI TO i1 i2 l1 l2 S xs ys k) (hend:xs[k]?=none\/ys[k]?=none)
  (hQ:∀ h',(∀ c o,c≠z->c≠TO->c≠i1->c≠i2->s.heap.get? c=some o->h'.get? c=some o)->Q none { s with heap:=h' }):aL (aU prog w) A (jC (.ref z)) Q E s:=by
 rcases st.zz with ⟨e,hz,a,b,hp⟩|⟨T,f,oT,hz,hT,n1,n2,n3,n4⟩
 .exact wpAny_pyNext_zip_end hh D hz st.ti hp st.a1 st.a2 st.b1 st.b2 hend hQ
 .have ty:s.TypeIs (.ref z) "zip":=⟨_,hz,rfl⟩
  unfold jC
  refine ae (iq (e9 (name:=fH "__next__") ty F.slot_zip_next (cV F.slot_zip_next ty F.entry_zip_next
   (Yg hh D hz hT st.ti st.a1 st.a2 st.b1 st.b2 hend λh' e hk he=>?_) (F.args_zip_next_1 _))))
  obtain ⟨o,ho,hc⟩:=he;exact ae (qc (T:="StopIteration") (b:=true) ⟨o,ho,hc⟩ DG (au (hQ _ λc o c1 _ c3 c4 q=>hk c o c1 c3 c4 q)))
structure Made (h:cJ) (lo:ah) (xs ys:Array ai) (as:List ah):Prop where
 up:as.Pairwise (· < ·)
 lo:∀ a∈as,lo<a
 pr:∀ (j:Nat) (a:ah),as[j]?=some a->∃ x y,xs[j]?=some x/\ys[j]?=some y/\xb h a x y
theorem UC {S:Nat}(hh:A.handled=none) (D:DF z TI TO i1 i2 l1 l2) (O:Off z TI TO i1 i2 l1 l2 S) (hn:min xs.size ys.size=n) (hn2:n<=100000) (res:ai) (lo:ah) (hlo:z<=lo/\TO<=lo/\i1<=lo/\i2<=lo/\S<=lo) {h₀:cJ}
  (hR:∀ h' tk acc c as,(∀ b o,b≠S->b≠z->b≠TO->b≠i1->b≠i2->h₀.get? b=some o->h'.get? b=some o)->h'.get? S=some { cls:=.type "list",dict:=none,data:=.seq acc c,slots:=#[] }->acc.toList=as.map ax->as.length=n->Made h' lo xs ys as->R (.ok (.ret res)) { s with heap:=h',toks:=tk }) :
  ∀ (m i:Nat) (h:cJ) (tk c:Nat) (acc:Array ai) (as:List ah),n-i=m->i<=n->ZS h z TI TO i1 i2 l1 l2 S xs ys i->(∀ b o,b≠S->b≠z->b≠TO->b≠i1->b≠i2->h₀.get? b=some o->h.get? b=some o) ->
   h.get? S=some { cls:=.type "list",dict:=none,data:=.seq acc c,slots:=#[] }->acc.toList=as.map ax->as.length=i->Made h lo xs ys as->lo<h.objs.size ->
   kD (aU prog w) A (.builtin "list.extend.loop" ⟨[.ref S,.ref z,res],[]⟩) R { s with heap:=h,toks:=tk }:=by
 intro m
 induction m with
 | zero =>
  intro i h tk c acc as hm hi st kp hS hacc hal hM hlh
  have ei:i=n:=by lia
  subst ei;refine gY Ju ?_;rw [eQ fe _]
  show aL _ A.in1 (jC (.ref z) >>= _) _ _ _
  have hend:xs[i]?=none\/ys[i]?=none:=by
   by_cases q:xs.size<=i
   .exact .inl (jM q)
   .exact .inr (jM (by lia))
  refine ae (ZS.done (s:={ s with heap:=h,toks:=tk }) (A:=A.in1) hh D st hend λh' he=>?_);refine au (hR h' tk acc c as (λb o b1 b2 b3 b4 b5 e=>he b o b2 b3 b4 b5 (kp b o b1 b2 b3 b4 b5 e)) (he S _ (Ne.symm O.z) (Ne.symm O.to) (Ne.symm O.i1) (Ne.symm O.i2) hS) hacc hal ⟨hM.up,hM.lo,λj a hj=>?_⟩);obtain ⟨x,y,q1,q2,q3⟩:=hM.pr j a hj;have far:∀ {b:ah},b<=lo->a≠b:=λhb=>df (aY hb (hM.lo a (aM hj)))
  exact ⟨x,y,q1,q2,he a _ (far hlo.1) (far hlo.2.1) (far hlo.2.2.1) (far hlo.2.2.2.1) q3⟩
 | succ m ih =>
  intro i h tk c acc as hm hi st kp hS hacc hal hM hlh
  have hlt:i<n:=by lia
  obtain ⟨x,hx⟩:∃ x,xs[i]?=some x:=⟨_,cm (by lia)⟩
  obtain ⟨y,hy⟩:∃ y,ys[i]?=some y:=⟨_,cm (by lia)⟩
  refine gY Ju ?_;rw [eQ fe _]
  show aL _ A.in1 (jC (.ref z) >>= _) _ _ _
  refine ae (ZS.item (s:={ s with heap:=h,toks:=tk }) (A:=A.in1) D st (aF hS) hx hy λh' st' hp kk=>?_);have hS':=kk S _ (Ne.symm O.z) (Ne.symm O.to) (Ne.symm O.i1) (Ne.symm O.i2) hS
  have hsz:acc.size=i:=by rw [← aZ,hacc,af,hal]
  show aL _ A.in1 (NS S (·.push (ax h.objs.size)) >>= _) _ _ _
  refine ae (rT hS' rfl (au ⟨jF fe _,?_⟩) (by rw [hsz];exact L2.du (m:=100000) (by lia)) (by rw [Array.size_push,hsz];exact tM (L2.du (m:=100000) (by lia))));have oth:∀ b o,b≠S->h'.get? b=some o->(h'.update S (bB (·.push (ax h.objs.size)))).get? b=some o:=λb o hb e=>(bW _ _ (Ne.symm hb)).trans e;have hnS:h.objs.size≠S:=df (aF hS);refine ih (i+1) _ tk _ (acc.push (ax h.objs.size)) (as++[h.objs.size]) (by lia) hlt (st'.keep O oth) (λb o b1 b2 b3 b4 b5 e=>oth b o b1 (kk b o b2 b3 b4 b5 (kp b o b1 b2 b3 b4 b5 e))) (bT _ hS' rfl) (by rw [DH,hacc,aP];rfl) (by rw [br,hal];rfl) ⟨?_,λa ha=>?_,λj a hj=>?_⟩ ?_
  .refine yU.mpr ⟨hM.up,mT _ _,λa ha b hb=>?_⟩;rw [aC.mp hb];obtain ⟨j,hj⟩:=bN.mp ha;obtain ⟨_,_,_,_,q⟩:=hM.pr j a hj;exact aF q
  .rcases aT.mp ha with q|q
   .exact hM.lo a q
   .rw [aC.mp q];exact hlh
  .by_cases q:j<as.length
   .rw [gO q] at hj;obtain ⟨x',y',q1,q2,q3⟩:=hM.pr j a hj;have far:∀ {b:ah},b<=lo->a≠b:=λhb=>df (aY hb (hM.lo a (aM hj)));exact ⟨x',y',q1,q2,oth a _ (far hlo.2.2.2.2) (kk a _ (far hlo.1) (far hlo.2.1) (far hlo.2.2.1) (far hlo.2.2.2.1) q3)⟩
   .rw [eX (by lia)] at hj
    have ej:j-as.length=0:=by
     by_cases w:j-as.length=0
     .exact w
     .rw [cS (by simp;lia)] at hj;cases hj
    rw [ej] at hj
    have ea:h.objs.size=a:=by simpa using hj
    have ej':j=i:=by lia
    subst ea ej';exact ⟨x,y,hx,hy,oth _ _ hnS hp⟩
  .rw [oM];exact bc hlh (i8 (aF hp))
def abb:Il (.type "zip") "__len__"=pure none:=by rw [AV,pZ];kernel_rfl
def Yh:Il (.type "zip") "__length_hint__"=pure none:=by rw [AV,pZ];kernel_rfl
def abc (ty:s.TypeIs (.ref z) "zip") (h:Q true s):aL (aU prog w) A (jG (.ref z)) Q E s:=by
 unfold jG;refine ae (Qb ty abb ?_);refine ae (Qb ty Yh ?_);exact au h
theorem abd {S c₀:Nat} {va vb:ai}(hh:A.handled=none) (D:DF z TI TO i1 i2 l1 l2) (O:Off z TI TO i1 i2 l1 l2 S) (hn:min xs.size ys.size=n) (hn2:n<=100000) (res:ai) (hz:IsZip s.heap z TI TO .none) (hTO:xb s.heap TO va vb)
  (st:ZS s.heap z TI TO i1 i2 l1 l2 S xs ys 0) (hS:s.heap.get? S=some { cls:=.type "list",data:=.seq #[] c₀ })
  (hR:∀ h' tk acc c as,(∀ b o,b≠S->b≠z->b≠TO->b≠i1->b≠i2->s.heap.get? b=some o->h'.get? b=some o)->h'.get? S=some { cls:=.type "list",dict:=none,data:=.seq acc c,slots:=#[] }->acc.toList=as.map ax->as.length=n->Made h' (s.heap.objs.size-1) xs ys as->R (.ok (.ret res)) { s with heap:=h',toks:=tk }) :
  aL (aU prog w) A.in1 (ic (.ref S) (.ref z) res) (λfin s'=>match fin with | .done f=>R (.ok f) s' | .again c'=>c'.quiet=true/\kD (aU prog w) A c' R s') (λe s'=>R (.error e) s') s:=by
 have ty:s.TypeIs (.ref z) "zip":=⟨_,hz,rfl⟩
 have lts:∀ {b:ah}{o:iW},s.heap.get? b=some o->b<=s.heap.objs.size-1:=λe=>Nat.le_sub_one_of_lt (aF e)
 have lt1:i1<=s.heap.objs.size-1:=by obtain ⟨_,e,_⟩:=st.a1;exact lts e
 have lt2:i2<=s.heap.objs.size-1:=by obtain ⟨_,e,_⟩:=st.a2;exact lts e
 have pos:0<s.heap.objs.size:=aY (bA _) (aF hz)
 have key:∀ (h:cJ) (c₁ tk:Nat),h.objs.size=s.heap.objs.size->(∀ b o,b≠S->s.heap.get? b=some o->h.get? b=some o)->h.get? S=some { cls:=.type "list",data:=.seq #[] c₁ } ->
   kD (aU prog w) A (.builtin "list.extend.loop" ⟨[.ref S,.ref z,res],[]⟩) R { s with heap:=h,toks:=tk }:=λh c₁ tk hsz kp hS₁ =>
  UC (h₀:=s.heap) hh D O hn hn2 res (s.heap.objs.size-1) ⟨lts hz,lts hTO,lt1,lt2,lts hS⟩ hR n 0 h tk c₁ #[] [] rfl (bA _) (st.keep O kp) (λb o b1 _ _ _ _ e=>kp b o b1 e) hS₁ rfl rfl ⟨LB,(λa ha=>nomatch ha),λj a hj=>by simp at hj⟩ (by rw [hsz];exact Nat.sub_lt pos (by decide))
 unfold ic;refine ae (Y0 (T:="zip") ty ?_)
 have e1:kK (.ref S) (.ref z)=false:=by simp [kK,Ne.symm O.z]
 have e2:(dI "zip" == dI "list")=false:=by decide
 have e3:(dI "zip" == dI "tuple")=false:=by decide
 simp only [e1,e2,e3,Bool.or_false,ck,if_false];refine ae (wpAny_pyIter_zip hz (ae (bY (abc ty ?_))));refine kQ (λ_=>ae (uc (ae ?_))) (λ_=>au ⟨jF fe _,key _ c₀ _ rfl (λb o _ e=>e) hS⟩)
 show aL _ _ (NS S (·.push .none) >>= λ_=>NS S (·.pop)) _ _ _
 have g₂:=bT (bB (·.push cu)) hS rfl;have g₃:=bT (bB (·.pop)) g₂ rfl;refine ae (rT hS rfl (rT (hz:=by seq_fits) g₂ rfl (au ⟨jF fe _,key _ _ _ ?_ (λb o hb e=>?_) g₃⟩)))
 .rw [oM,oM]
 .exact (bW _ _ (Ne.symm hb)).trans ((bW _ _ (Ne.symm hb)).trans e)
theorem Sk {Q:ai->ay->Prop}{va vb:ai}(hh:A.handled=none) (D:DF z TI TO i1 i2 l1 l2) (hn:min xs.size ys.size=n) (hn2:n<=100000) (hz:IsZip s.heap z TI TO .none) (hTO:xb s.heap TO va vb) (hTI:xb s.heap TI (.ref i1) (.ref i2))
  (a1:s.heap.IsListIter i1 l1 0) (a2:s.heap.IsListIter i2 l2 0) (b1:s.heap.IsList l1 xs) (b2:s.heap.IsList l2 ys)
  (hQ:∀ h' tk acc c as,(∀ b o,b≠z->b≠TO->b≠i1->b≠i2->s.heap.get? b=some o->h'.get? b=some o)->h'.get? s.heap.objs.size=some { cls:=.type "list",dict:=none,data:=.seq acc c,slots:=#[] }->acc.toList=as.map ax->as.length=n->Made h' s.heap.objs.size xs ys as->Q (.ref s.heap.objs.size) { s with heap:=h',toks:=tk }) :
  aL (aU prog w) A (call (.type "list") [.ref z]) Q E s:=by
 refine callType_codes (Q₁:=λobj s₁=>obj=.ref s.heap.objs.size/\s₁={ s with heap:=s.heap.push { cls:=.type "list",data:=.seq #[] } }) PySem.F.called_list (PySem.F.typeCall_list_1 _) PySem.F.entry_list_init (code_list_new _ ⟨rfl,rfl⟩) ?_;rintro obj s₁ ⟨rfl,rfl⟩;have hS:(s.heap.push { cls:=.type "list",data:=.seq #[] }).get? s.heap.objs.size=some { cls:=.type "list",data:=.seq #[] }:=aI _ rfl;refine ⟨⟨_,hS,rfl⟩,PySem.F.args_list_init_2 _ _,?_⟩;have ne:∀ {b:ah}{o:iW},s.heap.get? b=some o->b≠s.heap.objs.size:=λe=>aO (aF e)
 have O:Off z TI TO i1 i2 l1 l2 s.heap.objs.size:=⟨ne hz,ne hTI,ne hTO,by obtain ⟨_,e,_⟩:=a1;exact ne e,by obtain ⟨_,e,_⟩:=a2;exact ne e,by obtain ⟨_,e,_⟩:=b1;exact ne e,by obtain ⟨_,e,_⟩:=b2;exact ne e⟩
 show aL _ _ (do let old ← Builtin.List.listItems (.ref s.heap.objs.size);Builtin.List.listUpdate (.ref s.heap.objs.size) (λ_=>#[]);letGo old.toList.reverse;ic (.ref s.heap.objs.size) (.ref z) .none) _ _ _
 refine ae (sU hS rfl (ae (nz hS rfl (ae (wpAny_letGo ?_)) (bA _) (bA _))));have g₂:=bT (bB (λ_=>(#[]:Array ai))) hS rfl;have kp:∀ b o,s.heap.get? b=some o->((s.heap.push { cls:=.type "list",data:=.seq #[] }).update s.heap.objs.size (bB (λ_=>(#[]:Array ai)))).get? b=some o:=λb o e=>(bW _ _ (Ne.symm (ne e))).trans (ao _ e)
 have sz:((s.heap.push { cls:=.type "list",data:=.seq #[] }).update s.heap.objs.size (bB (λ_=>(#[]:Array ai)))).objs.size-1=s.heap.objs.size:=by rw [oM,jq];rfl
 refine abd (s:={ s with heap:=(s.heap.push { cls:=.type "list",data:=.seq #[] }).update s.heap.objs.size (bB (λ_=>(#[]:Array ai))) }) (A:=A.in1) hh D O hn hn2 .none (kp _ _ hz) (kp _ _ hTO) ⟨.inl ⟨rfl,kp _ _ hz,_,_,kp _ _ hTO⟩,kp _ _ hTI,a1.at λo e=>kp _ o e,a2.at λo e=>kp _ o e,b1.at λo e=>kp _ o e,b2.at λo e=>kp _ o e⟩ g₂ λh' tk acc c as k1 k2 k3 k4 k5=>?_;have k5':Made h' s.heap.objs.size xs ys as:=sz▸k5;exact ⟨rfl,hQ h' tk acc c as (λb o c1 c2 c3 c4 e=>k1 b o (ne e) c1 c2 c3 c4 (kp b o e)) k2 k3 k4 k5'⟩
end
end Zl
namespace L2
open PySem.W
variable {H H':Hp}{h h' h₀:cJ} {T:String}{r d L a:ah}{n ep:Nat}{P:Nat->ai->Prop}{OK:cJ->Prop}{w:cU}{X:Cx}{Z:St}{ks vs:List ai}{Q:ai->ay->Prop}{m:bq->Option ai}{news:List (ah×iW)}{s:ay}{zs:List Zt}{K:aa}{t:TA}{prog:bQ}{A:dM}{tg:Expr}{tl:TE}{o:iW}
section
variable {pins:List (ah×iW)}
theorem Inv.grow {t':Nat}(I:Inv X pins Z H s) (k:∀ b u,s.heap.get? b=some u->h'.get? b=some u) (sub:bS H H') (new:∀ b,b<s.heap.objs.size->H b=none->H' b=none) (ok:tI X.prog X.w H' h'):Inv X pins Z H' { s with heap:=h',toks:=t' } :=
 I.un ⟨λb o e _ _ _=>k b o e,λb o e _ _ _=>⟨o.slots,k b o e⟩,λb o e n _=>new b (aF e) n,λb o e _=>⟨o,k b o e⟩,λb _ e=>sub _ _ e,λb _ _ e=>sub _ _ e,λb ps e=>⟨#[],by rw [sub _ _ e];simp⟩⟩ ok
end
def GN (H:Hp) (zs:List Zt):Hp:=λb=>match zs.find? (λz=>z.2.2 == b) with|some z=>some (.tup [.int z.1,.int z.2.1])|none=>H b
def Vi {b:ah}(h:∀ z∈zs,z.2.2≠b):GN H zs b=H b:=by
 unfold GN;rw [List.find?_eq_none.mpr λz hz=>by simpa using h z hz]
theorem Md:∀ {zs:List Zt}{z:Zt},(zs.map λz=>z.2.2).Nodup->z∈zs->GN H zs z.2.2=some (.tup [.int z.1,.int z.2.1])
 | y::zs,z,hn,hz=>by
  unfold GN;rw [cn,bg] at hn
  rcases aq.mp hz with e|hz
  .subst e;rw [List.find?_cons_of_pos (by simp)]
  .have hne:¬ (y.2.2 == z.2.2)=true:=λq=>hn.1 (by
    have e:y.2.2=z.2.2:=by simpa using q
    rw [e];exact aW hz)
   rw [List.find?_cons_of_neg (p:=λw:Zt=>w.2.2 == z.2.2) hne];exact Md hn.2 hz
def Vj (K:aa) (t:TA):TE:=λZ H Q=>t Z H λvs H1=>∃ (a b:ah) (ns ms:List Int),vs=[.ref a,.ref b]/\dh K H1 a (ns.map V.int)/\dh K H1 b (ms.map V.int)/\ns.length<=100000 /\
 ∀ (l:ah) (zs:List Zt) (H2:Hp),bS H1 H2->H1 l=none->H2 l=some (.lst (zs.map kM))->(∀ z∈zs,iL H2 z)->zs.map zP=ns.zip ms->Q (.ref l) H2
theorem JS:∀ {vs:List ai}{ns:List Int}{j:Nat}{v:ai},gP vs ns->vs[j]?=some v->∃ i t,ns[j]?=some i/\v=.int i t
 | _,_,0,v,.cons n t r,e=>by simp at e;exact ⟨n,t,rfl,e.symm⟩
 | _,_,j+1,v,.cons n t r,e=>JS (j:=j) r (by simpa using e)
 | _,_,j,v,.nil,e=>by simp at e
theorem Vk {lo:ah}{xs ys:List ai}{ns ms:List Int}(hx:gP xs ns) (hy:gP ys ms):∀ {as:List ah},(∀ (j:Nat) (a:ah),as[j]?=some a->∃ x y,xs.toArray[j]?=some x/\ys.toArray[j]?=some y/\xb h a x y)->as.length=min ns.length ms.length ->
  ∃ zs:List Zt,zs.map (λz=>z.2.2)=as/\zs.map zP=ns.zip ms/\∀ z∈zs,∃ t u,xb h z.2.2 (.int z.1 t) (.int z.2.1 u):=by
 intro as hp hl;have hlx:=hx.length;have hly:=hy.length;refine ⟨(ns.zip ms).zipWith (λt a=>(t.1,t.2,a)) as,?_,?_,λz hz=>?_⟩
 .apply kH
  intro j;rw [aG,ye]
  by_cases hj:j<as.length
  .rw [aw hj,aw (by rw [xc];lia)];rfl
  .rw [cS (oW hj)];cases (ns.zip ms)[j]?<;>rfl
 .apply kH
  intro j;rw [aG,ye]
  by_cases hj:j<as.length
  .rw [aw hj,aw (by rw [xc];lia)];rfl
  .rw [cS (oW hj),cS (by rw [xc];lia)];rfl
 .obtain ⟨j,hj⟩:=bN.mp hz;rw [ye] at hj
  cases ea:as[j]? with
  | none =>
   rw [ea] at hj
   cases ew:(ns.zip ms)[j]? with
   | none=>rw [ew] at hj;cases hj
   | some w=>rw [ew] at hj;cases hj
  | some a =>
   obtain ⟨x,y,q1,q2,q3⟩:=hp j a ea;obtain ⟨i,t,e1,rfl⟩:=JS (j:=j) hx (by simpa using q1);obtain ⟨i',u,e2,rfl⟩:=JS (j:=j) hy (by simpa using q2)
   have ez:(ns.zip ms)[j]?=some (i,i'):=by rw [NT];exact ⟨e1,e2⟩
   rw [ea,ez] at hj;have:z=(i,i',a):=(aV hj).symm;subst this;exact ⟨t,u,q3⟩
section
variable {x y:Expr}{p1 p2 q1 q2:wV}
theorem Yi (hc:X.calm=true) (hgl:Gl X "list") (hml:X.mg "list"=none) (hgz:Gl X "zip") (hmz:X.mg "zip"=none) (ha:PA X [x,y] t)
  (he:bK [.Call (.Name "zip" p1) [x,y] [] p2] X.env=[(false,fQ (.Call (.Name "zip" p1) [x,y] [] p2) X.env)]:=by rfl) (he2:bK [x,y] X.env=(false,fQ x X.env)::bK [y] X.env:=by rfl) (hpl:(iJ p2 (bK [y] X.env)).any (·.1)=false:=by rfl) :
  PE X (.Call (.Name "list" q1) [.Call (.Name "zip" p1) [x,y] [] p2] [] q2) (Vj X.K t):=by
 intro pins s Z H Q I h;refine fT (sd I hgl hml BootT.list (ib ?_ he rfl));rw [he]
 show aL _ _ (spliced ((false,fQ (.Call (.Name "zip" p1) [x,y] [] p2) X.env)::iJ q2 (bK [] X.env))) _ _ s
 refine mG (fT (sd I hgz hmz BootT.zip (ib (ia (ha p2 pins s Z H _ I h) λus s1 ⟨vs,H1,I1,r1,q⟩=>?_) he2 hpl)));obtain ⟨a,b,ns,ms,rfl,hA,hB,hle,k⟩:=q;obtain ⟨u,v,rfl,ru,rv⟩:=vals2 r1;cases ru;cases rv;obtain ⟨xs,vx,px,_⟩:=I1.list hA;obtain ⟨ys,vy,py,_⟩:=I1.list hB;have ix:=intsAre_of vx;have iy:=intsAre_of vy;have lx:=ix.length;have ly:=iy.length
 have al:a<s1.heap.objs.size:=by obtain ⟨_,e,_⟩:=px.isList;exact aF e
 have bl:b<s1.heap.objs.size:=by obtain ⟨_,e,_⟩:=py.isList;exact aF e
 refine call_zip_2 px.isList py.isList λh' hz hTI hTO j1 j2 hsz hk=>rY ?_;refine Zl.Sk (s:={ s1 with heap:=h' }) (n:=min ns.length ms.length) (I1.ok.hd hc) (zipApart_new al bl) (by rw [aN,aN,lx,ly]) (by lia) hz hTO hTI j1 j2 (px.isList.at λo e=>hk _ o e) (py.isList.at λo e=>hk _ o e) λh2 tk acc c as k1 k2 k3 k4 k5=>?_;obtain ⟨zs,e1,e2,e3⟩:=Vk (lo:=0) ix iy k5.pr k4
 have old:∀ b o,s1.heap.get? b=some o->h2.get? b=some o:=λb o e=>by
  have hb:=aF e;refine k1 b o (aO (bc hb (jD _ _))) (aO (bc hb (jD _ _))) (aO hb) (aO (bc hb (jD _ _))) (hk b o e)
 have up:∀ z∈zs,h'.objs.size<z.2.2:=λz hz=>k5.lo _ (by rw [← e1];exact aW hz);have hs5:h'.objs.size=s1.heap.objs.size+5:=hsz
 have nd:(zs.map λz=>z.2.2).Nodup:=by rw [e1];exact k5.up.imp λq=>aO q
 have far:∀ z∈zs,∀ b:ah,b<s1.heap.objs.size->z.2.2≠b:=λz hz b hb=>df (TF (bc hb (by rw [hs5];exact jD _ _)) (up z hz));have lf:∀ b:ah,b<s1.heap.objs.size->b≠h'.objs.size:=λb hb=>aO (bc hb (by rw [hs5];exact jD _ _))
 have hold:∀ b:ah,b<s1.heap.objs.size->upd (GN H1 zs) h'.objs.size (.lst (zs.map kM)) b=H1 b:=λb hb=>by rw [aE (lf b hb),Vi λz hz=>far z hz b hb]
 have S:bS H1 (upd (GN H1 zs) h'.objs.size (.lst (zs.map kM))):=λb o e=>by rw [hold b (I1.eV.lt e)];exact e
 have hpair:∀ z∈zs,iL (upd (GN H1 zs) h'.objs.size (.lst (zs.map kM))) z:=λz hz=>by
  show upd (GN H1 zs) h'.objs.size (.lst (zs.map kM)) z.2.2=_
  rw [aE (df (up z hz))];exact Md nd hz
 have hlz:zs.length<=100000:=by
  have:=congrArg eW e2;rw [af,xc] at this;lia
 have I2:Inv X pins Z (upd (GN H1 zs) h'.objs.size (.lst (zs.map kM))) { s1 with heap:=h2,toks:=tk }:=I1.grow old S (λb hb n=>by rw [hold b hb];exact n) λb o e=>by
  by_cases hb:b<s1.heap.objs.size
  .rw [hold b hb] at e;exact (I1.eV b o e).vO (λc v _ q=>old c v q) (λc q=>S _ _ q) λc _ q=>S _ _ q
  .by_cases hl:b=h'.objs.size
   .subst hl;rw [aD] at e;cases e;refine ⟨by rw [af];exact du hlz,acc.toList,c,?_,by rw [TK];exact k2⟩;rw [k3,← e1,bz];exact vX zs
   .rw [aE hl] at e;unfold GN at e
    cases w:zs.find? (λz=>z.2.2 == b) with
    | none =>
     rw [w] at e;have e:H1 b=some o:=e;rw [I1.eV.fresh (oW hb)] at e
     cases e
    | some z =>
     rw [w] at e;cases e;have hz':=List.mem_of_find?_eq_some w
     have eb:z.2.2=b:=by simpa using List.find?_some w
     subst eb;obtain ⟨t,u,hp⟩:=e3 z hz';exact ⟨du (m:=2) (aB 2),[.int z.1 t,.int z.2.1 u],.cons ⟨t,rfl⟩ (.cons ⟨u,rfl⟩ .nil),⟨_,hp,rfl,_,rfl⟩⟩
 exact ⟨.ref h'.objs.size,_,I2,rfl,k _ zs _ S (I1.eV.fresh (by rw [hs5];exact jD _ _)) aD hpair e2⟩
theorem abe {Q:VK}(h:t Z H λvs H1=>∃ (a b:ah) (ns ms:List Int),vs=[.ref a,.ref b]/\dh K H1 a (ns.map V.int)/\dh K H1 b (ms.map V.int)/\ns.length<=100000 /\
 ∀ (l:ah) (zs:List Zt) (H2:Hp),bS H1 H2->H1 l=none->H2 l=some (.lst (zs.map kM))->(∀ z∈zs,iL H2 z)->zs.map zP=ns.zip ms->Q (.ref l) H2):Vj K t Z H Q:=h
end
def AE (h:cJ) (d:ah) (ks:List ai) (ep:Nat):Prop:=∃ o es,h.get? d=some o/\o.ExactDict/\o.data=.dict es ep/\es.toList.map (·.key)=ks
def AE.at (x:AE h d ks ep) (k:∀ o,h.get? d=some o->h'.get? d=some o):AE h' d ks ep :=
 let ⟨o,es,e,r⟩:=x;⟨o,es,k o e,r⟩
def AE.lt (x:AE h d ks ep):d<h.objs.size:=let ⟨_,_,e,_⟩:=x;aF e
section
variable {E:ai->ay->Prop}{it:ah}{i:Nat}
def AE.typeIs (x:AE s.heap d ks ep):s.TypeIs (.ref d) "dict":=let ⟨o,_,e,c,_⟩:=x;⟨o,e,c.1⟩
theorem EE (hd:(d == jB)=false) (x:AE s.heap d ks ep)
  (q:Q (.ref s.heap.objs.size) { s with heap:=s.heap.push { cls:=.type "dict_keyiterator",data:=.fields #[.ref d,.int 0 0,.int ks.length 0,.int ep 0] } }):aL (aU prog w) A (Tu (.ref d)) Q E s:=by
 have hT:=x.typeIs;obtain ⟨o,es,e,c,da,hk⟩:=x
 have hs:es.size=ks.length:=by rw [← hk,af,aZ]
 refine Lp hT F.slot_dict_iter (cV F.slot_dict_iter hT F.entry_dict_iter ?_ (F.args_dict_iter_1 _));unfold jV.«dict.__iter__» Builtin.Dict.dictSlotNone;refine ae (ae (aag hT ?_))
 show aL _ _ (pure (ax d)) _ _ s
 refine au ?_
 show aL _ _ (Ir d >>= _) _ _ s
 unfold Ir;rw [if_neg (by rw [hd];exact bI)];refine ae (au (ae (oY e da (ae (Qc e da ?_)))));refine ae (dX (au ⟨_,rfl,"dict_keyiterator",_,⟨_,aI _ rfl,rfl⟩,F.slot_dict_keyiterator_next.lookup,?_⟩))
 simpa [cF,hs] using q
theorem Me {Q:Option ai->ay->Prop}{v:ai}(t:s.heap.IsKeyIter it d i ks.length ep) (x:AE s.heap d ks ep) (hv:ks[i]?=some v)
  (q:∀ h',h'.IsKeyIter it d (i+1) ks.length ep->iH it s.heap h'->Q (some v) { s with heap:=h' }):aL (aU prog w) A (jC (.ref it)) Q E s:=by
 have tt:=t.typeIs;obtain ⟨ob,g,gc,gd⟩:=id t;obtain ⟨o,es,e,c,da,hk⟩:=x
 have hs:es.size=ks.length:=by rw [← hk,af,aZ]
 have hi:i<es.size:=by rw [hs];exact (av.mp hv).1
 have ev:es[i].key=v:=by
  rw [← hk,aG] at hv
  simpa [hi] using hv
 unfold jC;refine ae (iq (e9 (name:=fH "__next__") tt F.slot_dict_keyiterator_next (cV F.slot_dict_keyiterator_next tt F.entry_dict_keyiterator_next ?_ (F.args_dict_keyiterator_next_1 _))));refine ae (au (ae (ae ?_)))
 first|refine ae (kh tt (au ?_))|refine ae (nA tt (au ?_))
 refine ae (oZ g gd ?_);simp only [show wj "dict_keyiterator"=false by decide,ck,if_false]
 show aL _ _ (if (ax d == cu)=true then _ else _) _ _ s
 rw [if_neg (show ¬ ((ax d == cu)=true) from bI)];refine ae (au (ae (oY e da ?_)));rw [if_neg (by rw [hs];simp)];refine ae (au (ae (Qc e da ?_)));rw [if_neg (by simp)];refine au ?_;simp only [show ¬ ((i:Int)<0) from by lia,if_false,iz,cm hi];refine ae ?_
 first|refine ae (kh tt (au ?_))|refine ae (nA tt (au ?_))
 refine ae (aah tt ?_)
 show aL _ _ (TL (.ref it) 1 (cF ((i:Int)+1)) >>= _) _ _ s
 refine ae (jY g gd (by simp) ?_)
 have t':(s.heap.update it (jd (·.setIfInBounds 1 (cF ((i:Int)+1))))).IsKeyIter it d (i+1) ks.length ep :=
  ⟨_,bT _ g (kI (dA gd _)),(tN ..).trans gc,by rw [dA gd];simp [cF]⟩
 refine ae (bY ?_);refine ae (aah (s:={ s with heap:=s.heap.update it (jd (·.setIfInBounds 1 (cF ((i:Int)+1)))) }) t'.typeIs ?_)
 show aL _ _ (pure es[i].key) _ _ _
 rw [ev];exact au (au ⟨_,rfl,au (q _ t' (cP ..))⟩)
theorem Qw {Q:Option ai->ay->Prop}(hh:A.handled=none) (hi:ks.length<=i) (t:s.heap.IsKeyIter it d i ks.length ep) (x:AE s.heap d ks ep) (q:∀ h',Uk it s.heap h'->Q none { s with heap:=h' }):aL (aU prog w) A (jC (.ref it)) Q E s:=by
 have tt:=t.typeIs;obtain ⟨ob,g,gc,gd⟩:=id t;obtain ⟨o,es,e,c,da,hk⟩:=x
 have hs:es.size=ks.length:=by rw [← hk,af,aZ]
 unfold jC;refine ae (iq (e9 (name:=fH "__next__") tt F.slot_dict_keyiterator_next (cV F.slot_dict_keyiterator_next tt F.entry_dict_keyiterator_next ?_ (F.args_dict_keyiterator_next_1 _))));refine ae (au (ae (ae ?_)))
 first|refine ae (kh tt (au ?_))|refine ae (nA tt (au ?_))
 refine ae (oZ g gd ?_);simp only [show wj "dict_keyiterator"=false by decide,ck,if_false]
 show aL _ _ (if (ax d == cu)=true then _ else _) _ _ s
 rw [if_neg (show ¬ ((ax d == cu)=true) from bI)];refine ae (au (ae (oY e da ?_)));rw [if_neg (by rw [hs];simp)];refine ae (au (ae (Qc e da ?_)));rw [if_neg (by simp)];refine au ?_;simp only [show ¬ ((i:Int)<0) from by lia,if_false,iz,jM (bF (Gx hs) hi)];refine ae ?_
 first|refine ae (kh tt (au ?_))|refine ae (nA tt (au ?_))
 show aL _ _ (TL (.ref it) 0 .none >>= _) _ _ s
 refine ae (jY g gd (by simp) ?_)
 show aL _ _ (Y1 (.type "StopIteration") [] >>= _) _ _ _
 refine ae ?_;simp only [Y1,newTuple];refine ae (dX ?_ (by size_fits));refine ae (m:=pb _ _) (Ob (a:=cu) (by first|rfl|(simp only [pb];rfl)) ?_);refine dX ?_ (by size_fits);simp only [raiseNew];refine ae (Xd ?_);rw [show A.in1.handled=none from hh];refine ae (au (wpAny_throw ?_));refine ae (qc (T:="StopIteration") (b:=true) ⟨_,aI _ rfl,rfl⟩ DG ?_);exact au (q _ (((cP ..).extBut.push _).push _))
theorem Sl (hh:A.handled=none) (I d:ah) (hne:d≠I) (ks:List ai) (ep:Nat):Walks prog w A I [I,d] [I] ks.length (λi v=>ks[i]?=some v) (λi h=>h.IsKeyIter I d i ks.length ep/\AE h d ks ep) where
 sub:=λb hb=>by simp at hb;simp [hb]
 frame:=λ_ _ _ st hk=>⟨st.1.at λo e=>hk I (by simp) o e,st.2.at λo e=>hk d (by simp) o e⟩
 item:=λi s Q E hi st hQ=>by
  have hv:ks[i]?=some ks[i]:=aw hi;refine Me st.1 st.2 hv λh' t' hs'=>hQ _ h' s.toks hv ⟨t',st.2.at λo e=>hs'.extBut d o hne e⟩ λb o hb e=>hs'.extBut b o (λh=>hb (by simp [h])) e
 done:=λs Q E st hQ=>Qw hh (aB _) st.1 st.2 λh' he=>hQ h' s.toks λb o hb e=>he b o (λh=>hb (by simp [h])) e
 self:=λ_ _ _ _ st hQ=>DB st.1 hQ
theorem JT (lo:(d == jB)=false):KdlSrc prog w "dict" d d ks.length (λi v=>ks[i]?=some v) (λh=>AE h d ks ep) where
 type:=λ_ x=>x.typeIs
 there:=λ_ x=>⟨x.lt,x.lt⟩
 keep:=λ_ _ x hk=>x.at λo e=>hk d (.inl rfl) o e
 notList:=by decide
 notTuple:=by decide
 hint:=λ_ _ _ _ x hq=>kdl_hint_dict x.typeIs hq
 iter:=λ_ _ hh x=>⟨_,_,(λ_ _ hq=>EE lo x hq),Sl hh _ d (aO x.lt) ks ep,⟨⟨_,aI _ rfl,rfl,rfl⟩,x.at λo e=>ao _ e⟩⟩
theorem Vl {S:ah}{R:Tv->ay->Prop}(K:KdlSrc prog w T r d n P OK) (hh:A.handled=none) (ok:OK s.heap) (h1:S≠r) (h2:S≠d) (hn:n<=aX) (g:s.heap.get? S=some { cls:=.type "list",data:=.seq #[] 0 })
  (q:∀ h' tk acc' c',(∀ b o,b≠S->s.heap.get? b=some o->h'.get? b=some o)->h'.get? S=some { cls:=.type "list",dict:=none,data:=.seq acc' c',slots:=#[] }->Y2 P acc' n->R (.ok (.ret (.ref S))) { s with heap:=h',toks:=tk }) :
  kD (aU prog w) A (.builtin "list.__iadd__" ⟨[.ref S,.ref r],[]⟩) R s:=by
 refine gY F.entry_list_iadd ?_;rw [eQ F.plain_list_iadd _];exact kdl_extend K hh ok S h1 h2 (.ref S) 0 g q hn
theorem ux {Q:List ai->ay->Prop}(K:KdlSrc prog w T r d n P OK) (hh:A.handled=none) (ok:OK s.heap) (hn:n<=aX)
  (q:∀ h' tk acc,(∀ b o,s.heap.get? b=some o->h'.get? b=some o)->Y2 P acc n->Q acc.toList { s with heap:=h',toks:=tk }):aL (aU prog w) A (Rw (.ref r)) Q E s:=by
 have th:=K.there _ ok;unfold Rw;refine ae (TM (gY F.entry_proto_collect ?_));rw [eQ F.plain_proto_collect _]
 show aL _ A.in1 (newList [] >>= λl=>again (.builtin "list.__iadd__" ⟨[l,.ref r],[]⟩)) _ _ s
 have g:(s.heap.push { cls:=.type "list",data:=.seq ([]:List ai).toArray }).get? s.heap.objs.size=some { cls:=.type "list",data:=.seq #[] 0 }:=aI _ rfl;refine ae (dX (au ⟨jF F.plain_list_iadd _,Vl (s:={ s with heap:=s.heap.push { cls:=.type "list",data:=.seq ([]:List ai).toArray } }) K hh (K.keep _ _ ok λb _ o e=>ao _ e) (df th.1) (df th.2) hn g λh' tk acc' c' hk hS hacc=>?_⟩))
 show aL _ A (load s.heap.objs.size >>= _) _ _ { s with heap:=h',toks:=tk }
 refine ae (Ik hS (au (q h' tk acc' (λb o e=>hk b o (aO (aF e)) (ao _ e)) hacc)))
theorem ze {acc:Array ai}(h:Y2 (λi v=>ks[i]?=some v) acc ks.length):acc.toList=ks:=by
 apply kH
 intro j
 cases e:acc.toList[j]? with
 | some v=>exact (h.2 j v (by rw [← dB];exact e)).symm
 | none =>
  have:ks.length<=j:=by have:=NU.mp e;rw [aZ,h.1] at this;exact this
  exact (cS this).symm
theorem OA (K:KdlSrc prog w T r d n P OK) (hh:A.handled=none) (ok:OK s.heap)
  (hv:∀ acc,Y2 P acc n->acc.toList=vs) (hn:n=vs.length) (F:Fr h₀ L s.heap m) (N:rQ h₀ L s.heap news) (h2:2<=vs.length) (h64:vs.length<64)
  (h:∀ D e1 h' tk,Fr h₀ L h' m->rQ h₀ L h' ((D,a9 "list" #[] e1)::news)->(∀ q∈news,q.1<D) ->
   aL (aU prog w) A.in1.in1 (keyKind' vs.toArray) (λκ s'=>(kas_sort vs.length).kasWp (Ry prog w A.in1.in1 κ vs) (λp s''=>KasFin h₀ L m D e1 (p.toList.map λi=>vs.getD i cu) (λs3=>Q (.ref D) s3) s'') s') (λ_ _=>False) { s with heap:=h',toks:=tk }) :
  aL (aU prog w) A (call (.builtin "sorted") [.ref r]) Q E s:=by
 have hz:vs.length<=aX:=du (m:=64) (by lia);refine lB DC AJ AK (Lo _) (ae (m:=Iq "sorted" 1 1 _) (au (ae (ux K hh ok (by rw [hn];exact hz) λh1 tk acc keep hacc=>?_))));rw [hv acc hacc];refine ae (kU ?_ hz);have F1:=F.kept keep;have N1:=N.grown keep;have k2:∀ b o,h1.get? b=some o->(h1.push (a9 "list" vs.toArray 0)).get? b=some o:=λb o e=>ao _ e;have g:(h1.push (a9 "list" vs.toArray 0)).get? h1.objs.size=some (a9 "list" vs.toArray 0):=aI _ rfl;have hL:L<h1.objs.size:=F1.ns.lt
 show aL (aU prog w) A.in1 (do let _ ← jU [ax h1.objs.size] (call (.builtin "list.sort") [ax h1.objs.size]);ret (ax h1.objs.size)) _ _ { s with heap:=h1.push (a9 "list" vs.toArray 0),toks:=tk }
 refine ae (bY (cV ua ⟨_,g,rfl⟩ rS ?body (DD _)))
 case body =>
  refine kat_list_sort (s:={ s with heap:=h1.push (a9 "list" vs.toArray 0),toks:=tk }) (F1.kept k2) (N1.grown k2) g (df hL) (kR (bF F1.above (i8 hL)))
   (λp hp=>aO (aF (N1 p hp).1)) h2 h64 λe1 h' F' N'=>?_
  refine eJ (h _ e1 h' tk F' N' λq hq=>aF (N1 q hq).1) (λκ s' hk=>?_) λ_ _ x=>x;rw [kat_ask_eq rfl] at hk ⊢
  exact kas_wp_mono hk λp s'' hk'=>hk'.mono λs3 hq=>⟨_,rfl,au ⟨_,rfl,hq⟩⟩
theorem Mg (K:KdlSrc prog w T r d n P OK) (hh:A.handled=none) (ok:OK s.heap)
  (hv:∀ acc,Y2 P acc n->acc.toList=vs) (hn:n=vs.length) (F:Fr h₀ L s.heap m) (N:rQ h₀ L s.heap news) (h2:vs.length<2)
  (h:∀ D c h' tk,Fr h₀ L h' m->rQ h₀ L h' ((D,a9 "list" vs.toArray c)::news)->(∀ q∈news,q.1<D)->Q (.ref D) { s with heap:=h',toks:=tk }) :
  aL (aU prog w) A (call (.builtin "sorted") [.ref r]) Q E s:=by
 have hz:vs.length<=aX:=du (m:=2) (by lia);refine lB DC AJ AK (Lo _) (ae (m:=Iq "sorted" 1 1 _) (au (ae (ux K hh ok (by rw [hn];exact hz) λh1 tk acc keep hacc=>?_))));rw [hv acc hacc];refine ae (kU ?_ hz);have F1:=F.kept keep;have N1:=N.grown keep;have hL:L<h1.objs.size:=F1.ns.lt;have g:(h1.push (a9 "list" vs.toArray 0)).get? h1.objs.size=some (a9 "list" vs.toArray 0):=aI _ rfl
 show aL (aU prog w) A.in1 (do let _ ← jU [ax h1.objs.size] (call (.builtin "list.sort") [ax h1.objs.size]);ret (ax h1.objs.size)) _ _ { s with heap:=h1.push (a9 "list" vs.toArray 0),toks:=tk }
 have k2:∀ b o,b≠h1.objs.size->s.heap.get? b=some o->(h1.push (a9 "list" vs.toArray 0)).get? b=some o:=λb o _ e=>ao _ (keep b o e);have hb:∀ b o,s.heap.get? b=some o->b≠h1.objs.size:=λb o e=>aO (aF (keep b o e));generalize hh2:h1.push (a9 "list" vs.toArray 0)=hp at g k2;refine ae (bY (cV ua ⟨_,g,rfl⟩ rS ?_ (DD _)));rw [list_sort_plain]
 obtain ⟨c1,g2⟩:∃ c1,(hp.update h1.objs.size (bB λ_=>#[])).get? h1.objs.size=some (a9 "list" #[] c1):=⟨_,kP g λ_=>#[]⟩
 refine ae (sU g rfl (ae (nz g rfl (ae (DE g2 rfl (ae (ub (ae (kU (bY ?_) (bA _))) hz)))) (by rw [aN];exact hz) (bA _))));have g6:(((hp.update h1.objs.size (bB λ_=>#[])).push (a9 "tuple" vs.toArray 0)).push (a9 "list" #[] 0)).get? h1.objs.size=some (a9 "list" #[] c1):=ao _ (ao _ g2)
 have hn2:vs.toArray.size<2:=by rw [aN];exact h2
 show aL (aU prog w) A.in1.in1 _ _ _ { s with heap:=((hp.update h1.objs.size (bB λ_=>#[])).push (a9 "tuple" vs.toArray 0)).push (a9 "list" #[] 0),toks:=tk }
 have k6:∀ b o,s.heap.get? b=some o->(((hp.update h1.objs.size (bB λ_=>#[])).push (a9 "tuple" vs.toArray 0)).push (a9 "list" #[] 0)).get? b=some o:=λb o e=>ao _ (ao _ ((bW _ _ (Ne.symm (hb b o e))).trans (k2 b o (hb b o e) e)));generalize ((hp.update h1.objs.size (bB λ_=>#[])).push (a9 "tuple" vs.toArray 0)).push (a9 "list" #[] 0)=h6 at g6 k6;dsimp only;rw [if_pos hn2,if_pos hn2];refine ae (au ?_);rw [GG];refine ae (au ?_);dsimp only
 have es:(arrOf (SortSt.mk' general' (vs.toArray.zip vs.toArray) #[] 7 none)).map (·.2)=vs.toArray:=by
  show (vs.toArray.zip vs.toArray).map (·.2)=vs.toArray
  apply Gy.mp
  simp;exact GH (aB _)
 rw [es]
 obtain ⟨c7,g7⟩:∃ c7,(h6.update h1.objs.size (bB λ_=>vs.toArray)).get? h1.objs.size=some (a9 "list" vs.toArray c7):=⟨_,kP g6 λ_=>vs.toArray⟩
 refine ae (DE g6 rfl (ae (nz g6 rfl ?_ (bA _) (by rw [aN];exact tM hz))));simp only [bne_self_eq_false,ck,if_false];have k7:∀ b o,s.heap.get? b=some o->(h6.update h1.objs.size (bB λ_=>vs.toArray)).get? b=some o:=λb o e=>(bW _ _ (Ne.symm (hb b o e))).trans (k6 b o e);refine au ⟨_,rfl,au ⟨_,rfl,h h1.objs.size c7 _ tk (F.kept k7) (λp hp=>?_) λq hq=>aF (N1 q hq).1⟩⟩
 rcases aq.mp hp with rfl|hp
 .exact ⟨g7,df hL,kR (bF F1.above (i8 hL))⟩
 .exact (N.grown k7) p hp
end
theorem JU {D:ah}{e1:Nat}{Post:ay->Prop}(F:Fr h₀ L s.heap m) (N:rQ h₀ L s.heap ((D,a9 "list" #[] e1)::news)) (hD:∀ q∈news,q.1<D)
  (h2:2<=zs.length) (tup:∀ z∈zs,∃ t u,nv s.heap z.2.2 #[.int z.1 t,.int z.2.1 u])
  (fin:∀ h'' c (zs':List Zt),zs'.Perm zs->zs'.Pairwise (λz w=>xl (zP z) (zP w))->Fr h₀ L h'' m->rQ h₀ L h'' ((D,a9 "list" (zs'.map λz=>ax z.2.2).toArray c)::news)->Post { s with heap:=h'' }) :
  aL (aU prog w) A (keyKind' (zs.map λz=>ax z.2.2).toArray) (λκ s'=>(kas_sort (zs.map λz=>ax z.2.2).length).kasWp (Ry prog w A κ (zs.map λz=>ax z.2.2)) (λp s''=>KasFin h₀ L m D e1 (p.toList.map λi=>(zs.map λz=>ax z.2.2).getD i cu) Post s'') s') (λ_ _=>False) s:=by
 obtain ⟨fs,k1,k2,k3⟩:=IM tup;refine kat_kind (T:=.type "int") k1 (by lia) (λv hv=>?_) rfl ?_
 .obtain ⟨i,t,rfl⟩:=k3 v hv;exact Y3
 have et:(dI "int" != dI "tuple")=true:=by decide
 rw [et,af]
 have gz:∀ i,i<zs.length->(zs.map λz=>ax z.2.2).getD i cu=ax (zs.getD i (0,0,0)).2.2:=λi hi=>by simp [hi]
 have mz:∀ i,i<zs.length->zs.getD i (0,0,0)∈zs:=λi hi=>by
  have:zs.getD i (0,0,0)=zs[i]:=by simp [hi]
  rw [this];exact di hi
 refine Sx.Sat.ask (n:=zs.length) (k:=λi=>Oz (zs.map zP) (zP (zs.getD i (0,0,0)))) (λi j C hi hj hC=>?_) (λpr hp=>?_) (Sx.Ez (by lia))
 .unfold Ry;rw [gz i hi,gz j hj];obtain ⟨t,u,i1⟩:=tup _ (mz i hi);obtain ⟨t',u',i2⟩:=tup _ (mz j hj);refine Vg (s:=s) i1 i2 ?_;rw [Qv (aW (mz i hi)) (aW (mz j hj))] at hC;exact hC
 .obtain ⟨hp1,hp2⟩:=hp
  have plt:∀ i∈pr.toList,i<zs.length:=λi hi=>by simpa using hp1.mem_iff.mp hi
  have eo:(pr.toList.map λi=>(zs.map λz=>ax z.2.2).getD i cu)=(pr.toList.map λi=>zs.getD i (0,0,0)).map λz=>ax z.2.2:=by
   rw [bz];exact jl λi hi=>gz i (plt i hi)
  rw [eo]
  have hperm:(pr.toList.map λi=>zs.getD i (0,0,0)).Perm zs:=by
   have:=hp1.map λi=>zs.getD i (0,0,0)
   rwa [EB] at this
  have hsort:(pr.toList.map λi=>zs.getD i (0,0,0)).Pairwise λz w=>xl (zP z) (zP w):=by
   rw [r0];intro i j hi hj hij;rw [af] at hi hj;simp only [aai];have hsz:pr.size=zs.length:=hp1.size
   have hj':j<zs.length:=by rw [← hsz];simpa using hj
   have hle:=hp2.le (i8 hij) hj';unfold Sx.Ky at hle
   have gi:∀ i (h:i<pr.toList.length),pr.getD i 0=pr.toList[i]:=λi h=>by
    have h':i<pr.size:=by simpa using h
    simp [oA,h']
   rw [gi i hi,gi j hj] at hle;have hle:Oz (zs.map zP) (zP (zs.getD pr.toList[i] (0,0,0)))<=Oz (zs.map zP) (zP (zs.getD pr.toList[j] (0,0,0))):=hle;refine Mb ?_
   cases w:lexLt (zP (zs.getD pr.toList[j] (0,0,0))) (zP (zs.getD pr.toList[i] (0,0,0))) with
   | false=>rfl
   | true =>
    rw [← Qv (aW (mz _ (plt _ (di hj)))) (aW (mz _ (plt _ (di hi)))),decide_eq_true_iff] at w;lia
  generalize (pr.toList.map λi=>zs.getD i (0,0,0))=zs' at hperm hsort;exact CU F N (uj λq hq=>aO (hD q hq)) λh'' c F'' N''=>fin h'' c zs' hperm hsort F'' N''
theorem Qx:∀ {kvs:List (List gn×V)}{xs:List (List gn×ah×ai)},Paired (λ(p:List gn×V) (q:List gn×ah×ai)=>p.1=q.1/\H q.2.1=some (.tup (p.1.map kV))/\RelV p.2 q.2.2) kvs xs ->
  (∀ p∈kvs,∃ x y:Int,p.1=[bp x,bp y])->∃ zs:List Zt,xs.map (λq=>ax q.2.1)=(zs.map λz=>ax z.2.2)/\(∀ z∈zs,iL H z)/\kvs.map (·.1)=zs.map λz=>[bp z.1,bp z.2.1]
 | _,_,.nil,_=>⟨[],rfl,(λz hz=>nomatch hz),rfl⟩
 | _,_,.cons (a:=p) (b:=q) r t,hp=>by
  obtain ⟨zs,e1,e2,e3⟩:=Qx t λp' hp'=>hp p' (ag _ hp');obtain ⟨x,y,exy⟩:=hp _ ar;refine ⟨(x,y,q.2.1)::zs,by simp [e1],λz hz=>?_,by simp [exy,e3]⟩
  rcases aq.mp hz with rfl|hz
  .have:=r.2.1;rw [exy] at this;exact this
  .exact e2 z hz
def Mh:List V->Hp->VK->Prop:=λxs H Q=>∃ (p:ah) (kvs:List (List gn×V)),xs=[.ref p]/\H p=some (.dT kvs)/\(∀ q∈kvs,∃ x y:Int,q.1=[bp x,bp y])/\kvs.length<64 /\
 ∀ (l:ah) (zs:List Zt),H l=none->(∀ z∈zs,iL H z)->(zs.map λz=>([bp z.1,bp z.2.1]:List gn)).Perm (kvs.map (·.1))->zs.Pairwise (λz w=>xl (zP z) (zP w))->Q (.ref l) (upd H l (.lst (zs.map kM)))
theorem JV (hc:X.calm=true):oI X (.builtin "sorted") Mh:=by
 intro pins s Z H xs us Q I r h;obtain ⟨p,kvs,rfl,hp,hk,h64,q⟩:=h;obtain ⟨u,rfl,ru⟩:=vals1 r;cases ru
 obtain ⟨hz,lo,ys,rel,o,es,ep,e1,e2,e3,e4,e5⟩:=(show fv X.prog X.w H s.heap p (.dT kvs) from I.eV p _ hp)
 obtain ⟨zs,k1,k2,k3⟩:=Qx rel hk
 have hlen:zs.length=kvs.length:=by have:=congrArg eW k3;simpa using this.symm
 have raw:AE s.heap p (zs.map λz=>ax z.2.2) ep:=⟨o,es,e1,e2,e3,by rw [e4,← k1,bz];rfl⟩
 have hh:X.A.handled=none:=I.ok.hd hc;obtain ⟨m,F,N⟩:=I.vK
 have tup0:∀ z∈zs,∃ t u,nv s.heap z.2.2 #[.int z.1 t,.int z.2.1 u]:=λz hz'=>by
  obtain ⟨ts,r,it,_⟩:=I.tuple (.of (k2 z hz'))
  cases r with
  | cons h1 r =>
   cases r with
   | cons h2 r =>
    cases r;obtain ⟨t,rfl⟩:=h1;obtain ⟨u,rfl⟩:=h2;exact ⟨t,u,it⟩
 by_cases h2:2<=zs.length
 .refine OA (JT lo) hh raw (λacc ha=>ze ha) rfl F N (by rw [af];exact h2) (by rw [af];lia) λD ed h' tk F' N' hD=>?_
  have kept:∀ b o,b≠X.env.locals->s.heap.get? b=some o->h'.get? b=some o:=λb o h1 e=>by
   cases w:X.base.get? b with
   | some u =>
    have z:=I.bk b u w;rw [e] at z;cases z
    exact F'.keep b _ w
   | none=>exact (N' (b,o) (ag _ (lI h1 w e))).1
  have tup:∀ z∈zs,∃ t u,nv h' z.2.2 #[.int z.1 t,.int z.2.1 u]:=λz hz'=>by
   obtain ⟨t,u,o,e,rest⟩:=tup0 z hz';refine ⟨t,u,o,kept _ o (λw=>?_) e,rest⟩;have e2:=k2 z hz';unfold iL at e2;rw [w,I.free] at e2;cases e2
  refine JU (s:={ s with heap:=h',toks:=tk }) F' N' hD h2 tup λh'' c zs' hperm hsort F'' N''=>?_;have hl2:zs'.length<=aX:=du (m:=64) (by rw [hperm.length_eq];lia);obtain ⟨hn,I2⟩:=I.vL (t':=tk) (o:=.lst (zs'.map kM)) F.ns F'' N'' hD ⟨by rw [af];exact hl2,_,c,vX zs',(N'' _ ar).1⟩;exact ⟨.ref D,_,I2,rfl,q D zs' hn (λz hz=>k2 z (hperm.mem_iff.mp hz)) (by rw [k3];exact hperm.map _) hsort⟩
 .refine Mg (JT lo) hh raw (λacc ha=>ze ha) rfl F N (by rw [af];lia) λD c h' tk F' N' hD=>?_;obtain ⟨hn,I2⟩:=I.vL (t':=tk) (o:=.lst (zs.map kM)) F.ns F' N' hD ⟨by rw [af];exact du (m:=64) (by lia),_,c,vX zs,(N' _ ar).1⟩;refine ⟨.ref D,_,I2,rfl,q D zs hn k2 (by rw [k3]) ?_⟩
  match zs,h2 with
  | [],_=>exact .nil
  | [z],_=>exact mT _ _
  | z::w::r,h2=>simp at h2
theorem Paired.at {α β:Type} {F:α->β->Prop}{l₁:List α} {l₂:List β} (r:Paired F l₁ l₂):∀ {i:Nat}{a:α},l₁[i]?=some a->∃ b,l₂[i]?=some b/\F a b:=by
 induction r with
 | nil=>intro i a e;simp at e
 | cons h t ih =>
  intro i a e
  cases i with
  | zero =>
   simp only [mS,gX] at e;subst e
   exact ⟨_,rfl,h⟩
  | succ i=>exact ih (by simpa using e)
def Paired.len {α β:Type} {F:α->β->Prop}{l₁:List α} {l₂:List β} (r:Paired F l₁ l₂):l₁.length=l₂.length:=by
 induction r with
 | nil=>rfl
 | cons h t ih=>simp [ih]
def ItT (a:ah) (kvs:List (List gn×V)) (o:iW):It :=
 ⟨λi H=>i<kvs.length/\H a=some (.frz o (.dT kvs)),λi H x H'=>H'=H/\∃ k v b,kvs[i]?=some (k,v)/\x=.ref b/\H b=some (.tup (k.map kV)),λi H=>kvs.length<=i/\H a=some (.frz o (.dT kvs))⟩
theorem Qy {P:bQ}(a it:ah) (o:iW) (kvs:List (List gn×V)) (es:Array DictEntry) (ep:Nat) (hx:o.ExactDict) (hd:o.data=.dict es ep) (hl:es.size=kvs.length) :
  Oh P w K tg (ItT a kvs o) [it] it (λi h=>h.IsKeyIter it a i (es.toList.map (·.key)).length ep) where
 mem:=by simp
 obj:=λi h st b hb=>by
  have e:b=it:=by simpa using hb
  subst e;obtain ⟨o,e,c,d⟩:=st;exact ⟨o,e,λv z=>by rw [d] at z;cases z⟩
 keep:=λi h h' st k=>st.at λo e=>k it (by simp) o e
 item:=by
  intro X hP hw hK hc i pins s Z H E I hf st hg;subst hP hw hK;obtain ⟨hlt,hq⟩:=hg
  obtain ⟨e0,_,_,xs,rel,o',es',ep',e1,e2,e3,e4,e5⟩:=(show fv X.prog X.w H s.heap a (.frz o (.dT kvs)) from I.eV a _ hq)
  rw [e0] at e1;cases e1;rw [hd] at e3
  injection e3 with e3 e3'
  subst e3 e3'
  obtain ⟨⟨k,v⟩,hkv⟩:∃ p,kvs[i]?=some p:=⟨kvs[i],by simp [hlt]⟩
  obtain ⟨q,hq2,rq⟩:=L2.Paired.at rel hkv
  have hkey:(es.toList.map (·.key))[i]?=some (.ref q.2.1):=by rw [e4,bz,aG,hq2];rfl
  obtain ⟨f0,f1,f2,f3,f4,f5⟩:=hf it (by simp);refine Me st ⟨o,es,e0,hx,hd,rfl⟩ hkey λh' st' sb=>?_;have I1:Inv X pins Z H { s with heap:=h' }:=I.turned (t':=s.toks) (λb o hb e=>(sb.2 b hb).trans e) f0 f1 f3 f4 f5;obtain ⟨o',e,c,d⟩:=id st';exact ⟨_,rfl,LJ (s:={ s with heap:=h' }) e c d (by decide) ⟨.ref q.2.1,H,I1,rfl,⟨rfl,k,v,q.2.1,hkv,rfl,rq.2.1⟩,st',λb hb=>(hf b hb).1⟩⟩
 done:=by
  intro X hP hw hK hc i pins s Z H E I hf st hg;subst hP hw hK;obtain ⟨hle,hq⟩:=hg
  obtain ⟨e0,_⟩:=(show fv X.prog X.w H s.heap a (.frz o (.dT kvs)) from I.eV a _ hq)
  obtain ⟨f0,f1,f2,f3,f4,f5⟩:=hf it (by simp)
  have hn:(es.toList.map (·.key)).length=kvs.length:=by rw [af,aZ,hl]
  exact Qw (I.ok.hd hc) (by lia) st ⟨o,es,e0,hx,hd,rfl⟩ λh' eb=>⟨rfl,I.turned (t':=s.toks) (λb o hb e=>eb b o hb e) f0 f1 f3 f4 f5⟩
 self:=λ_ _ _ _ _ st h=>DB st h
def iDT (tl:TE):TI:=λZ H R=>tl Z H λx H1=>∃ a kvs,x=.ref a/\((H1 a=some (.dT kvs)/\∀ o,R (ItT a kvs o) (upd H1 a (.frz o (.dT kvs))))\/∃ o,H1 a=some (.frz o (.dT kvs))/\R (ItT a kvs o) H1)
def Zx {R:It->Hp->Prop}(h:tl Z H λx H1=>∃ a kvs,x=.ref a/\((H1 a=some (.dT kvs)/\∀ o,R (ItT a kvs o) (upd H1 a (.frz o (.dT kvs))))\/∃ o,H1 a=some (.frz o (.dT kvs))/\R (ItT a kvs o) H1)):iDT tl Z H R:=h
theorem Zy {l:Expr}(hl:PE X l tl):PI X tg l (iDT tl):=by
 intro pins s Z H R I h;refine ia (hl pins s Z H _ I h) λv s1 ⟨x,H1,I1,r1,q1⟩=>?_;obtain ⟨a,kvs,e,q1⟩:=q1;subst e;cases r1
 rcases q1 with ⟨hq,q⟩|⟨ob,hq,q⟩
 rotate_left
 .obtain ⟨ho,hz,hsys,xs,rel,ob',es,ep,ho',hx,hd,he,hn⟩:=(show fv X.prog X.w H1 s1.heap a (.frz ob (.dT kvs)) from I1.eV a _ hq)
  rw [ho] at ho';cases ho'
  have hl:es.size=kvs.length:=by rw [← aZ,he,af,Paired.len rel]
  refine EE hsys ⟨ob,es,ho,hx,hd,rfl⟩ ?_;refine ⟨s1.heap.objs.size,[s1.heap.objs.size],_,_,_,rfl,I1.kept (t':=s1.toks) λb o e=>ao _ e,Qy a _ ob kvs es ep hx hd hl,⟨_,aI _ rfl,rfl,rfl⟩,λb hb=>?_,q⟩
  have e:b=s1.heap.objs.size:=by simpa using hb
  subst e;exact I1.NN (aB _) (I1.eV.fresh (aB _))
 obtain ⟨hz,hsys,xs,rel,ob,es,ep,ho,hx,hd,he,hn⟩:=(show fv X.prog X.w H1 s1.heap a (.dT kvs) from I1.eV a _ hq)
 have un:Un X.fs [] H1 (upd H1 a (.frz ob (.dT kvs))) s1.heap s1.heap:=by
  have hne:∀ b u,H1 b=some u->u≠.dT kvs->b≠a:=λb u e n z=>by subst z;rw [hq] at e;exact n (aV e).symm
  refine ⟨λb o e _ _ _=>e,λb o e _ _ _=>⟨o.slots,e⟩,λb o e n _=>?_,λb o e _=>⟨o,e⟩,λb ys e=>?_,λb o u e=>?_,λb ps e=>?_⟩
  .rw [aE (λz=>by subst z;rw [hq] at n;cases n)];exact n
  .rw [aE (hne b _ e (by intro z;cases z))];exact e
  .rw [aE (hne b _ e (by intro z;cases z))];exact e
  .exact ⟨#[],by rw [aE (hne b _ e (by intro z;cases z)),e];simp⟩
 have nt:∀ c ys,H1 c=some (.tup ys)->(upd H1 a (.frz ob (.dT kvs))) c=some (.tup ys):=λc ys q0=>by
  rw [aE (λz=>by rw [z,hq] at q0;cases q0)];exact q0
 have eV:tI X.prog X.w (upd H1 a (.frz ob (.dT kvs))) s1.heap:=λb u e=>by
  by_cases hb:b=a
  .subst hb;rw [aD] at e;cases e;exact ⟨ho,hz,hsys,xs,Paired.Te rel λp q z=>⟨z.1,nt _ _ z.2.1,z.2.2⟩,ob,es,ep,ho,hx,hd,he,hn⟩
  .rw [aE hb] at e;refine (I1.eV b u e).vO (λc v _ q=>q) (λc q0=>?_) nt;rw [aE (λz=>by rw [z,hq] at q0;cases q0)];exact q0
 have I2:Inv X pins Z (upd H1 a (.frz ob (.dT kvs))) { s1 with heap:=s1.heap,toks:=s1.toks }:=I1.un un eV
 have hl:es.size=kvs.length:=by rw [← aZ,he,af,Paired.len rel]
 refine EE hsys ⟨ob,es,ho,hx,hd,rfl⟩ ?_;refine ⟨s1.heap.objs.size,[s1.heap.objs.size],_,_,_,rfl,I2.kept (t':=s1.toks) λb o e=>ao _ e,Qy a _ ob kvs es ep hx hd hl,⟨_,aI _ rfl,rfl,rfl⟩,λb hb=>?_,q ob⟩
 have e:b=s1.heap.objs.size:=by simpa using hb
 subst e;exact I2.NN (aB _) (I2.eV.fresh (aB _))
def Yj (H:Hp) (Q:VK):VK:=λx H'=>Q x H'\/∃ a o kvs,(∀ o' u',H a≠some (.frz o' u'))/\H' a=some (.frz o (.dT kvs))/\Q x (upd H' a (.dT kvs))
theorem Un.Tn {fs ex:List ah}{kvs:List (List gn×V)}(u:Un fs ex H H' h h') (hn:∀ o' u',H a≠some (.frz o' u')) (ha:H' a=some (.frz o (.dT kvs))):Un fs ex H (upd H' a (.dT kvs)) h h' where
 keep:=u.keep
 slot:=u.slot
 free:=λb ob e n hx=>by
  have q:=u.free b ob e n hx;rw [aE (λz=>by rw [z,ha] at q;cases q)];exact q
 there:=u.there
 wQ:=λb xs e=>by
  have q:=u.wQ b xs e;rw [aE (λz=>by rw [z,ha] at q;cases q)];exact q
 vQ:=λb ob w e=>by
  have q:=u.vQ b ob w e;rw [aE (λz=>hn ob w (by rw [← z];exact e))];exact q
 vP:=λb ps e=>by
  obtain ⟨more,q⟩:=u.vP b ps e;exact ⟨more,by rw [aE (λz=>by rw [z,ha] at q;cases q)];exact q⟩
theorem tI.Tn {P:bQ}{kvs:List (List gn×V)}(k:tI P w H h) (ha:H a=some (.frz o (.dT kvs))):tI P w (upd H a (.dT kvs)) h:=by
 have nt:∀ c ys,H c=some (.tup ys)->(upd H a (.dT kvs)) c=some (.tup ys):=λc ys q0=>by
  rw [aE (λz=>by rw [z,ha] at q0;cases q0)];exact q0
 intro b u e
 by_cases hb:b=a
 .subst hb;rw [aD] at e;cases e
  obtain ⟨_,hz,hsys,xs,rel,ob,es,ep,r⟩:=(show fv P w H h b (.frz o (.dT kvs)) from k b _ ha)
  exact ⟨hz,hsys,xs,Paired.Te rel λp q z=>⟨z.1,nt _ _ z.2.1,z.2.2⟩,ob,es,ep,r⟩
 .rw [aE hb] at e;refine (k b u e).vO (λc v _ q=>q) (λc q0=>?_) nt;rw [aE (λz=>by rw [z,ha] at q0;cases q0)];exact q0
end L2
namespace BootT
end BootT
namespace L2
open PySem.W
variable {w:cU}{X:Cx}
theorem gN.Tn {P:bQ}{K:aa}{mg:bq->Option ai}{base:cJ}{CX:Jz}{k:Nat}{f:ah}{fd:fM}{ps:List bq}{sp sp':Sp}(F:gN P w K mg base CX k f fd ps sp')
  (h:∀ vs H Q E,sp vs H Q E->sp' vs H (Yj H Q) E):gN P w K mg base CX k f fd ps sp:=by
 refine ⟨λvs H Q E q=>F.len vs H _ E (h _ _ _ _ q),λA outer s H args us vs Q E hr he hb hv hs=>?_⟩;refine kE (F.run A outer s H args us vs _ E hr he hb hv (h _ _ _ _ hs)) λr s' q=>?_
 cases r with
 | error e=>exact q
 | ok fl =>
  cases fl with
  | ret u =>
   obtain ⟨v,H',h1,h2,h3,h4,h5,q⟩:=(show CE outer P w H s (Yj H Q) u s' from q)
   rcases q with q|⟨a,o,kvs,hn,ha,q⟩
   .exact (show CE outer P w H s Q u s' from ⟨v,H',h1,h2,h3,h4,h5,q⟩)
   .exact (show CE outer P w H s Q u s' from ⟨v,_,h1,h2,h3.Tn hn ha,h4.Tn ha,h5,q⟩)
  | _=>exact q
theorem Paired.eraseIdx {α β:Type} {F:α->β->Prop}{l₁:List α} {l₂:List β} (r:Paired F l₁ l₂):∀ j,Paired F (l₁.eraseIdx j) (l₂.eraseIdx j):=by
 induction r with
 | nil=>intro j;exact .nil
 | cons h t ih =>
  intro j
  cases j with
  | zero=>exact t
  | succ j=>exact .cons h (ih j)
theorem EF {κ:Type} [DecidableEq κ] {k:κ}{v:V}:∀ {kvs:List (κ×V)}{j:Nat},(kvs.map (·.1)).Nodup->kvs[j]?=some (k,v)->kvs.eraseIdx j=pq kvs k
 | [],j,_,e=>by simp at e
 | p::r,0,hn,e=>by
  simp only [mS,gX] at e;subst e;have h1:=(bg.mp hn).1
  rw [RZ rfl,LY h1];rfl
 | p::r,j+1,hn,e=>by
  simp only [Qd] at e;have h1:=(bg.mp hn).1;have hm:k∈r.map (·.1):=bo.mpr ⟨_,aM e,rfl⟩;have hne:¬ p.1=k:=λz=>h1 (by rw [show (λx:κ×V=>x.1) p=k from z];exact hm);rw [II hne,uh,EF (bg.mp hn).2 e]
theorem uz {κ:Type} [DecidableEq κ] {k:κ}{v:V}:∀ {kvs:List (κ×V)}{j:Nat},(kvs.map (·.1)).Nodup->kvs[j]?=some (k,v)->gH kvs k=some v
 | [],j,_,e=>by simp at e
 | p::r,0,hn,e=>by
  simp only [mS,gX] at e;subst e
  exact ur rfl
 | p::r,j+1,hn,e=>by
  simp only [Qd] at e;have h1:=(bg.mp hn).1;have hm:k∈r.map (·.1):=bo.mpr ⟨_,aM e,rfl⟩;have hne:¬ p.1=k:=λz=>h1 (by rw [show (λx:κ×V=>x.1) p=k from z];exact hm);rw [qW hne];exact uz (bg.mp hn).2 e
theorem IP {α β:Type} (f:α->β):∀ (l:List α) (j:Nat),(l.map f).eraseIdx j=(l.eraseIdx j).map f
 | [],_=>by simp
 | a::l,0=>rfl
 | a::l,j+1=>by simp [uh,IP f l j]
def Sm {H:Hp}{kvs:List (List gn×V)}{xs:List (List gn×ah×ai)}(r:KT H kvs xs):kvs.map (·.1)=xs.map (·.1):=by
 induction r with
 | nil=>rfl
 | cons h t ih=>simp [h.1,ih]
def Mi:V->List V->Hp->VK->Prop:=λx vs H Q=>∃ a kvs k b v,x=.ref a/\vs=[.ref b]/\H a=some (.dT kvs)/\H b=some (.tup (k.map kV))/\gH kvs k=some v/\Q v (upd H a (.dT (pq kvs k)))
theorem DM (hu:X.A.units+64<iM):WS X "dict.pop" Mi:=by
 intro pins s Z H x xs v us Q I rx rs h;obtain ⟨a,kvs,k,b,y,rfl,rfl,ha,hb,hy,q⟩:=h;cases rx;obtain ⟨u,rfl,ru⟩:=vals1 rs;cases ru
 obtain ⟨hz,lo,ys,rel,o,es,ep,e1,e2,e3,e4,e5⟩:=(show fv X.prog X.w H s.heap a (.dT kvs) from I.eV a _ ha)
 have hl:es.size=kvs.length:=by rw [← aZ,e4,af,Paired.len rel]
 have hT:s.TypeIs (.ref a) "dict":=⟨o,e1,e2.1⟩
 have hes:es.size<=aX:=by rw [hl];exact hz
 have hkey:=uv (P:=X.prog) (w:=X.w) I.eV hb
 have his:∀ x∈ys,(mF (gj X.prog X.w)).is s.heap x.1 x.2.1:=λx hx=>by
  obtain ⟨i,hi⟩:=bN.mp hx
  obtain ⟨p,hp⟩:∃ p,kvs[i]?=some p:=⟨kvs[i]'(by rw [Paired.len rel];exact (av.mp hi).1),by simp⟩
  obtain ⟨x',hx',r1,r2,_⟩:=L2.Paired.at rel hp;rw [hi] at hx';cases hx';rw [← r1];exact uv I.eV r2
 have rel:KT H kvs ys:=rel;have ev:=KT.val rel k;rw [hy] at ev;have hroom:(mF (gj X.prog X.w)).room X.A.in1:=kF (by lia)
 have hnd:(kvs.map (·.1)).Nodup:=by rw [Sm rel];exact e5
 refine cV F.slot_dict_pop hT F.entry_dict_pop ?_ (F.args_dict_pop_2 _ _);unfold jV.«dict.pop» Builtin.Dict.keyAndDefault;refine ae (ae (aag hT ?_))
 show aL _ _ (pure (a,ax b,none)) _ _ s
 refine au ?_
 have hne:es.isEmpty=false:=by
  cases e:es.isEmpty with
  | false=>rfl
  | true =>
   have:es.size=0:=by simpa [Array.isEmpty] using e
   have:kvs=[]:=jN (by lia);subst this;cases hy
 show aL _ _ (dictEntries a >>= _) _ _ s
 refine ae (oY e1 e3 ?_);simp only [hne,ck,if_false,pure_bind];refine ae ?_;unfold Builtin.Dict.takeOut
 try with_reducible refine bY ?_
 refine ae ((mF (gj X.prog X.w)).pyHash hroom hkey ?_);refine ae (wpAny_dictFind_heap (s:={ s with toks:=s.toks+(mF (gj X.prog X.w)).draws k }) hroom hkey e1 e3 e4 his e5 (λhno=>?_) λj p hj=>?_)
 .rw [atKey_none_of_get hno] at ev;exact ev.elim
 .have ep':Lj ys k=some p:=atKey_of_get e5 hj;rw [ep'] at ev;have ev:RelV y p.2:=ev;refine ae (oY (s:={ s with toks:=s.toks+(mF (gj X.prog X.w)).draws k }) e1 e3 ?_);rw [entry_at e4 j,hj];refine ae (wpAny_updateDictKeys (hz:=hes) (s:={ s with toks:=s.toks+(mF (gj X.prog X.w)).draws k }) e1 e3 (au ?_));simp only [YW,Uj,ck,if_false];refine ae (wpAny_letGo (au ⟨_,rfl,y,upd H a (.dT (pq kvs k)),?_,ev,q⟩))
  have hk2:kvs[j]?=some (k,y):=by
   have hjl:j<kvs.length:=by rw [Paired.len rel];exact (av.mp hj).1
   obtain ⟨x',hx',r1,_⟩:=L2.Paired.at rel (aw hjl);rw [hj] at hx';cases hx'
   have e:kvs[j]?=some (k,kvs[j].2):=by
    rw [aw hjl];have r1:kvs[j].1=k:=r1;exact congrArg some (Ul r1 rfl)
   have:=uz hnd e;rw [hy] at this;rw [e,← aV this]
  have hrel:KT H (pq kvs k) (ys.eraseIdx j):=by rw [← EF hnd hk2];exact Paired.eraseIdx rel j
  refine JE I (by rw [ha];exact i9) (cP ..) ⟨_,bT _ e1 (Xr (AN e3 _))⟩
   ⟨bF (dE _ _) hz,lo,_,hrel.keeps λc zs ec=>?_,_,_,ep+1,bT _ e1 (Xr (AN e3 _)),e2.mapDictKeys _,AN e3 _,?_,?_⟩
  .rw [aE (fA ec ha nofun)];exact ec
  .have:(es.eraseIdxIfInBounds j).toList=es.toList.eraseIdx j:=by obtain ⟨l⟩:=es;simp
   rw [this,e4,IP]
  .exact (yV _ (List.eraseIdx_sublist _ _)).nodup e5
namespace Rv
section
variable {prog:bQ}{A:dM}{E:ai->ay->Prop}{s:ay}{I l:ah}
end
end Rv
section
variable {x:Expr}{t:TA}{p1 p2 q1 q2:wV}
end
end L2
namespace Sw
open PySem
variable {t:nB}{xs:Array Nat}
def BO (xs:Array Nat):Prop:=xs.toList.Pairwise (· < ·)
def BO.lt (h:BO xs) {i j a b:Nat}(hij:i<j) (h1:xs[i]?=some a) (h2:xs[j]?=some b):a<b:=by
 rw [← dB] at h1 h2;obtain ⟨hi,e1⟩:=av.mp h1;obtain ⟨hj,e2⟩:=av.mp h2;have:=r0.mp h i j hi hj hij;rw [e1,e2] at this;exact this
theorem EG {j:Nat}(h:BO xs):∀ (fuel lo hi:Nat),lo<=hi->hi<=xs.size->hi-lo<=fuel->(∀ i a,i<lo->xs[i]?=some a->a<j)->(∀ i a,hi<=i->xs[i]?=some a->j<=a) ->
  (pd xs j fuel lo hi<=xs.size/\(∀ i a,i<pd xs j fuel lo hi->xs[i]?=some a->a<j)/\∀ i a,pd xs j fuel lo hi<=i->xs[i]?=some a->j<=a)
 | 0,lo,hi,h1,h2,h3,h4,h5=>by
  have:lo=hi:=by lia
  subst this
  exact ⟨h2,h4,h5⟩
 | fuel+1,lo,hi,h1,h2,h3,h4,h5=>by
  unfold pd
  by_cases c:lo<hi
  .rw [if_pos c]
   have hm:(lo+hi)/2<xs.size:=by lia
   have em:xs[(lo+hi)/2]?=some xs[(lo+hi)/2]:=cm hm
   have eg:xs.getD ((lo+hi)/2) j=xs[(lo+hi)/2]:=by simp [oA,hm]
   simp only [eg]
   by_cases c2:xs[(lo+hi)/2]<j
   .rw [if_pos c2];refine EG h fuel _ _ (by lia) h2 (by lia) (λi a hi' ha=>?_) h5
    by_cases e:i=(lo+hi)/2
    .subst e;rw [em] at ha;cases ha;exact c2
    .exact TF (h.lt (show i<(lo+hi)/2 by lia) ha em) c2
   .rw [if_neg c2];refine EG h fuel _ _ (by lia) (by lia) (by lia) h4 (λi a hi' ha=>?_)
    by_cases e:i=(lo+hi)/2
    .subst e;rw [em] at ha;cases ha;lia
    .have:=h.lt (show (lo+hi)/2<i by lia) em ha;lia
  .rw [if_neg c]
   have:lo=hi:=by lia
   subst this;exact ⟨h2,h4,h5⟩
theorem EH (h:BO xs) (j:Nat):dY xs j<=xs.size/\(∀ i a,i<dY xs j->xs[i]?=some a->a<j)/\∀ i a,dY xs j<=i->xs[i]?=some a->j<=a :=
 EG h _ _ _ (bA _) (aB _) (by lia) (λi a hi=>absurd hi (by lia)) λi a hi ha=>by
  have:=(iN.mp ha).1;lia
theorem Mj (h:BO xs) {k p:Nat}(hk:k=0/\p=0\/∃ k',k=k'+1/\∃ a,xs[k']?=some a/\p=a+1):dY xs p=k:=by
 obtain ⟨h1,h2,h3⟩:=EH h p
 rcases hk with ⟨rfl,rfl⟩|⟨k',rfl,a,ha,rfl⟩
 .by_cases e:dY xs 0=0
  .exact e
  .have:xs[0]?=some xs[0]:=cm (by lia);have:=h2 0 _ (by lia) this;lia
 .have hk:=(iN.mp ha).1
  rcases Nat.lt_trichotomy (dY xs (a+1)) (k'+1) with c|c|c
  .have:=h3 k' a (by lia) ha;lia
  .exact c
  .have e:xs[k'+1]?=some (xs[k'+1]'(by lia)):=cm (by lia);have q1:=h2 (k'+1) _ c e;have q2:=h.lt (show k'<k'+1 by lia) ha e;lia
theorem BO.insert (h:BO xs) {j:Nat}(hj:xs[dY xs j]?≠some j):BO (SetTable.insertAt xs (dY xs j) j):=by
 obtain ⟨h1,h2,h3⟩:=EH h j;generalize dY xs j=p at h1 h2 h3 hj;unfold BO;rw [SetTable.toList_insertAt];have e:xs.toList=xs.toList.take p++xs.toList.drop p:=(ki _ _).symm
 have hp:(xs.toList.take p++xs.toList.drop p).Pairwise (· < ·):=by rw [← e];exact h
 rw [yU] at hp;obtain ⟨p1,p2,p3⟩:=hp
 have m1:∀ a∈xs.toList.take p,a<j:=λa ha=>by
  obtain ⟨i,hi⟩:=bN.mp ha;rw [mL] at hi
  split at hi
  .exact h2 i a (by assumption) (by rw [← dB];exact hi)
  .cases hi
 have m2:∀ a∈xs.toList.drop p,j<a:=λa ha=>by
  obtain ⟨i,hi⟩:=bN.mp ha;rw [qR,dB] at hi;have q:=h3 (p+i) a (by lia) hi
  rcases Nat.lt_or_eq_of_le q with q|q
  .exact q
  .subst q
   cases i with
   | zero=>exact absurd hi hj
   | succ i =>
    have e0:xs[p]?=some (xs[p]'(by have:=(iN.mp hi).1;lia)):=cm _;have q1:=h3 p _ (aB _) e0;have q2:=h.lt (show p<p+(i+1) by lia) e0 hi;lia
 rw [yU];refine ⟨p1,List.pairwise_cons.mpr ⟨m2,p2⟩,λa ha b hb=>?_⟩
 rcases aq.mp hb with rfl|hb
 .exact m1 a ha
 .exact p3 a ha b hb
structure TI (t:nB):Prop where
 rise:BO t.place
 nod:t.dummies=#[]
def Qz (j:Nat):LC #[] j=false:=by simp [LC]
theorem Ml (h:TI t) {hashAt:Nat->Int}{hh:Int}:∀ (fuel:Nat) (p:SetTable.Probe) {j:Nat}{d:Option Nat},wk t hashAt hh fuel p=some (.empty j d)->p.dummy=none->d=none/\t.place[dY t.place j]?≠some j
 | 0,p,j,d,e,_=>by simp [wk] at e
 | fuel+1,p,j,d,e,hd=>by
  unfold wk at e
  have adv:(t.advance p).dummy=none:=by unfold SetTable.advance;split<;>exact hd
  cases hs:t.slot p.j with
  | empty =>
   rw [hs] at e;simp only [gX,aaj] at e;obtain ⟨rfl,rfl⟩:=e;refine ⟨hd,λz=>?_⟩;unfold Y4 at hs
   simp [z] at hs
  | dummy =>
   unfold Y4 at hs;rw [h.nod] at hs;simp only [Qz] at hs
   split at hs<;>simp at hs
  | live i =>
   rw [hs] at e;simp only at e
   split at e
   .simp at e
   .exact Ml h fuel _ e adv
theorem Sn (h:TI t) {hh:Int}{j:Nat}{b:Bool}(e:t.freeSlot hh=some (j,b)):t.place[dY t.place j]?≠some j:=by
 unfold SetTable.freeSlot at e
 split at e
 .rename_i j' d he
  obtain ⟨e1,e2⟩:=Ml h _ _ he rfl;subst e1;simp at e;rw [← e.1];exact e2
 .cases e
def TI.standIn (t:nB) (n:Nat):TI (t.standIn n):=⟨by unfold BO SetTable.standIn;simp only [Array.toList_range];exact Rz,rfl⟩
def TI.orStandIn (h:TI t) (n:Nat):TI (t.orStandIn n):=by
 unfold RB
 split
 .exact h
 .exact TI.standIn t n
def TI.put (h:TI t) {j:Nat}(hj:t.place[dY t.place j]?≠some j):TI (t.put j).1:=by
 refine ⟨h.rise.insert hj,?_⟩
 show (if LC t.dummies j then _ else t.dummies)=#[]
 rw [h.nod,Qz,if_neg (by decide)]
def TI.layNew (h:TI t) (es:Array (Int×ai)) (hh:Int) (x:ai):TI (DI t es hh x).2.1:=by
 unfold DI
 split
 .rename_i slot wd he
  exact (h.put (Sn h he)).orStandIn _
 .exact TI.standIn t _
theorem TI.relayAll (es:Array (Int×ai)) (wanted:Nat):TI (yM t es wanted).2.1:=by
 unfold yM
 split
 .rename_i t' order he
  dsimp only
  split
  .unfold Xe Y5 at he;simp only [TN,NV,Y6,gX] at he;obtain ⟨owner,_,he⟩:=he;have:=(cW he).1;subst this;refine ⟨?_,rfl⟩
   show ((iS _).filterMap _ |>.map _).toArray.toList.Pairwise _
   rw [List.toList_toArray,List.map_filterMap]
   have:(λx=>AW (λy:Nat×Nat=>y.1) (AW (λy=>(x,y)) (owner.getD x none)))=λx=>AW (λ_=>x) (owner.getD x none):=by funext x;cases owner.getD x none<;>rfl
   refine List.Pairwise.filterMap _ (λa b hab c hc d hd=>?_) Rz;cases ha:owner.getD a none<;>rw [ha] at hc<;>simp at hc;cases hb:owner.getD b none<;>rw [hb] at hd<;>simp at hd;lia
  .exact TI.standIn t _
 .exact TI.standIn t _
def TI.off (h:TI t):TI { t with plain:=false }:=⟨h.rise,h.nod⟩
def TI.fresh (a b:Nat) (c:Bool):TI (Xs a b c):=⟨by simp [BO,Xs],rfl⟩
def OB (t:nB) (es:Array (Int×ai)) (hh:Int) (x:ai):(DI t es hh x).2.1.led=t.led:=by
 unfold DI
 split
 .simp only [RB];split<;>rfl
 .rfl
theorem JW (t:nB) (es:Array (Int×ai)) (wanted:Nat):(yM t es wanted).2.1.led=t.led:=by
 unfold yM
 split
 .rename_i t' order he
  dsimp only
  split
  .unfold Xe Y5 at he;simp only [TN,NV,Y6,gX] at he;obtain ⟨owner,_,he⟩:=he;have:=(cW he).1;subst this
   rfl
  .rfl
 .rfl
end Sw
namespace Sw
variable {bt:Bool}{a:ah}{ks:List Int}{h:cJ}
def key (e:Int×ai):Int:=match e.2 with | .int i _=>i|_=>0
section
variable {prog:bQ}{w:cU}
def SO (prog:bQ) (w:cU) (bt:Bool) (h:cJ) (a:ah) (ks:List Int):Prop :=
 ∃ o es ep t,h.get? a=some o/\o.ExactSet/\o.data=.set es ep t/\ElemsOf (oU prog w) es.toList/\(∀ e∈es.toList,∃ u,e.2=.int (key e) u)/\es.size<yN/\t.fits es.size=true/\TI t/\t.led=!bt/\ks=es.toList.map key/\ks.Nodup
def SO.keep {h':cJ}(x:SO prog w bt h a ks) (k:∀ o,h.get? a=some o->h'.get? a=some o):SO prog w bt h' a ks :=
 let ⟨o,es,ep,t,e,r⟩:=x;⟨o,es,ep,t,k o e,r⟩
def SO.lt (x:SO prog w bt h a ks):a<h.objs.size:=let ⟨_,_,_,_,e,_⟩:=x;aF e
variable {A:dM}{E:ai->ay->Prop}{s:ay}
theorem Mm {g:Bool->N8 Unit}(hg:∀ (b:Bool) (s₁:ay) (Q':Unit->ay->Prop),Q' () s₁->aL (aU prog w) A (g b) Q' E s₁)
  {a:ah}{o:iW}{es:Array (Int×ai)}{ep:Nat}{t:nB}(ho:s.heap.get? a=some o) (hd:o.data=.set es ep t)
  {es1:Array (Int×ai)}{t2:nB}(hb1:es1.size<yN) (hf2:t2.fits es1.size=true) (ti:TI t2) {wasDummy:Bool}{R:Option Bool->ay->Prop}
  (h:∀ h' es2 ep2 t3,iH a s.heap h'->h'.get? a=some { o with data:=.set es2 ep2 t3 }->es2.toList.Perm es1.toList->t3.fits es2.size=true->TI t3->t3.led=t2.led->R (some true) { s with heap:=h' }) :
  aL (aU prog w) A (do
    storeSet a es1 t2
    if (!wasDummy && t2.tooFull)=true then do
      g (relayAll t2 es1 (ja es1.size)).2.2
      storeSet a (relayAll t2 es1 (ja es1.size)).1 (relayAll t2 es1 (ja es1.size)).2.1
      pure (some true)
     else pure (some true)) R E s:=by
 refine ae (wpAny_storeSet_of ho hd ?_ (Lq hb1))
 have g1:(s.heap.update a (xf es1 t2)).get? a=some { o with data:=.set es1 (ep+1) t2 }:=by
  have:=bT (xf es1 t2) ho (by rw [putSet_of es1 t2 hd];rfl);rw [putSet_of es1 t2 hd] at this;exact this
 have b1:=cP s.heap a (xf es1 t2)
 split
 .have hp:=relayAll_perm t2 es1 (ja es1.size);have hfr:=relayAll_fits t2 es1 (ja es1.size);have tir:=TI.relayAll (t:=t2) es1 (ja es1.size);have lr:=JW t2 es1 (ja es1.size);generalize relayAll t2 es1 (ja es1.size)=Rl at hp hfr tir lr ⊢;obtain ⟨es2,t3,gave2⟩:=Rl;dsimp only at hp hfr tir lr ⊢
  have hsz:es2.size=es1.size:=by rw [← aZ,hp.length_eq,aZ]
  refine ae (hg _ _ _ (ae (wpAny_storeSet_of g1 rfl ?_ (Lq (by rw [hsz];exact hb1)))));have g2:((s.heap.update a (xf es1 t2)).update a (xf es2 t3)).get? a=some { o with data:=.set es2 (ep+1+1) t3 }:=bT (xf es2 t3) g1 rfl;exact au (h _ es2 _ t3 (b1.trans (cP _ a _)) g2 hp hfr tir lr)
 .exact au (h _ es1 _ t2 b1 g1 (mJ _) hf2 ti rfl)
theorem abf {k:Int}{u:Z9}{Q:Bool->ay->Prop}(hS:SO prog w bt s.heap a ks) (hroom:ks.length+1<yN)
  (h:∀ h' ks' b,iH a s.heap h'->SO prog w bt h' a ks'->(∀ x,x∈ks'↔x∈ks\/x=k)->ks'.length<=ks.length+1->Q b { s with heap:=h' }) :
  aL (aU prog w) A (setAddHashed a (.int k u) ((oU prog w).hash k)) Q E s:=by
 obtain ⟨o,es,ep,t,ho,hex,hd,hel,hin,hb,hf,ti,hled,rfl,hnd⟩:=hS;have hsc:(fc k u).scannable=true:=rfl;have hkey:(oU prog w).is k (.int k u)=true:=intKind_is _ _ _ _
 have hisk:∀ e∈es.toList,((oU prog w).is k e.2=true↔key e=k):=λe he=>by
  obtain ⟨v,hv⟩:=hin e he;rw [hv,KeyKind.is_eq_decide (intKind_is prog w (key e) v) k,decide_eq_true_iff];exact eq_comm
 unfold setAddHashed setAddHashedIn;refine bY (ae (jm ho hd hf ?_));dsimp only;rw [byScan_of hsc hb hel];simp only [↓reduceIte];unfold setAddByScan;refine ae (ae (uc (ae (wpAny_setScan_of hkey ho hd hf hel ?_))))
 cases hr:List.findIdx? (λe=>(oU prog w).is k e.2) es.toList with
 | some j =>
  dsimp only;obtain ⟨hj,hpj,_⟩:=List.findIdx?_eq_some_iff_getElem.mp hr;have hm:k∈es.toList.map key:=bo.mpr ⟨es.toList[j],di hj,(hisk _ (di hj)).mp hpj⟩;refine au (au ?_)
  have e:s={ s with heap:=s.heap }:=by cases s;rfl
  rw [e]
  exact h s.heap _ _ (Heap.SameBut.refl a s.heap) ⟨o,es,ep,t,ho,hex,hd,hel,hin,hb,hf,ti,hled,rfl,hnd⟩ (λx=>⟨.inl,λq=>q.elim id λe=>e▸hm⟩) (ij _)
 | none =>
  dsimp only
  have hnm:k∉es.toList.map key:=λhm=>by
   obtain ⟨e,he,ek⟩:=bo.mp hm;have:=List.findIdx?_eq_none_iff.mp hr e he;rw [(hisk e he).mpr ek] at this;exact Bool.noConfusion this
  have hgw:∀ (b:Bool) {s₁:ay} {Q':Unit->ay->Prop},Q' () s₁->aL (aU prog w) A (match b with|true=>rule "set.scan.the-table-gave-way" | false=>pure ()) Q' E s₁ :=
   λb s₁ Q' hq=>by cases b<;>first|exact au hq|exact uc hq
  have hperm:=layNew_perm t es ((oU prog w).hash k) (.int k u);have hfits:=layNew_fits t es ((oU prog w).hash k) (.int k u);have tin:=ti.layNew es ((oU prog w).hash k) (.int k u);have ledn:=OB t es ((oU prog w).hash k) (.int k u);generalize layNew t es ((oU prog w).hash k) (.int k u)=L at hperm hfits tin ledn ⊢;obtain ⟨es1,t1,wasDummy,gave⟩:=L;dsimp only at hperm hfits tin ledn ⊢;rw [DH] at hperm
  have hsz1:es1.size=es.size+1:=by rw [← aZ,hperm.length_eq,br,aZ];rfl
  rw [af,aZ] at hroom
  have hb1:es1.size<yN:=by lia
  refine ae (hgw _ ?_)
  have hend:∀ (h':cJ) (es2:Array (Int×ai)) (ep2:Nat) (t2 t3:nB),t2.led=t1.led->iH a s.heap h'->h'.get? a=some { o with data:=.set es2 ep2 t3 }->es2.toList.Perm es1.toList->t3.fits es2.size=true->TI t3->t3.led=t2.led->Q true { s with heap:=h' }:=by
   intro h' es2 ep2 t2 t3 l2 sb g2 hp2 hf3 ti3 l3;have hpp:=hp2.trans hperm;have hpk:=hpp.map key;rw [aP] at hpk;have ek:[((oU prog w).hash k,fc k u)].map key=[k]:=rfl;rw [ek] at hpk
   have hs2:es2.size=es.size+1:=by rw [← aZ,hp2.length_eq,aZ];exact hsz1
   refine h h' (es2.toList.map key) true sb ⟨_,es2,ep2,t3,g2,hex,rfl,(hel.push hkey hsc).perm hpp,λe he=>?_,by lia,hf3,ti3,by rw [l3,l2,ledn,hled],rfl,?_⟩ (λx=>?_) (by rw [af,af,aZ,aZ];lia)
   .rcases aT.mp (hpp.mem_iff.mp he) with he|he
    .exact hin e he
    .rw [aC.mp he];exact ⟨u,rfl⟩
   .exact hpk.nodup_iff.mpr (L2.Qq hnd hnm)
   .rw [hpk.mem_iff,aT,aC]
  split
  .refine ae ?_;rw [hashByValue_scannable 8 hsc];refine au ?_;refine Mm (λb s₁ Q' hq=>by cases b<;>first|exact au hq|exact uc hq) ho hd hb1 ?_ ?_ ?_
   .split
    .exact hfits
    .exact SetTable.fits_plain_off hfits
   .split
    .exact tin
    .exact tin.off
   .intro h' es2 ep2 t3 q1 q2 q3 q4 q5 q6;dsimp only;refine au (hend h' es2 ep2 _ t3 ?_ q1 q2 q3 q4 q5 q6)
    split<;>rfl
  .refine ae (au ?_);simp only [↓reduceIte];refine Mm (λb s₁ Q' hq=>by cases b<;>first|exact au hq|exact uc hq) ho hd hb1 hfits tin ?_;intro h' es2 ep2 t3 q1 q2 q3 q4 q5 q6;dsimp only;exact au (hend h' es2 ep2 _ t3 rfl q1 q2 q3 q4 q5 q6)
end
end Sw
namespace Sw
abbrev bt (w:cU):Bool:=w.params.followText "set-order"
section
variable {prog:bQ}{w:cU}{A:dM}{E:ai->ay->Prop}{s:ay}
theorem Vm (a:ai) {Q₁:ai->ay->Prop} (h:Q₁ (.ref s.heap.objs.size) { s with heap:=s.heap.push { cls:=.type "set",dict:=none,data:=.set #[] 0 (.fresh 0 0 (!bt w)) } }) :
  kD (aU prog w) A (.call (.builtin "set.__new__") ⟨[.type "set",a],[]⟩) (wants Q₁ E) s:=by
 refine codeAny_of_tree ?_
 show aL _ A.in1 (do checkBuiltinCall "set.__new__" ⟨[.type "set",a],[]⟩;again (.builtin "set.__new__" ⟨[.type "set",a],[]⟩)) _ _ s
 refine ae (Ob (F.newCall_set_1 a) (au ⟨jF F.plain_set_new _,gY F.entry_set_new ?_⟩));rw [eQ F.plain_set_new _];unfold jV.«set.__new__» abR;have hsub:=sub_set_self;obtain ⟨hp,g,d,tk,os⟩:=s;dsimp only
 wp_walk
 refine i3 (au ?_);dsimp only;simp only [newObj];refine ae (wpAny_alloc (au ?_));exact au h
theorem Yk {R:Tv->ay->Prop}{I:ah}{fp wr:List ah}{G:Array GenState->Array GenState->Prop}{n:Nat}{P:Nat->ai->Prop}{St:Nat->ay->Prop}(W:WalksS prog w A.in1 I fp wr G n P St) (S:ah) (hSf:S∉fp) (ns:List Int) (hl:ns.length=n) (hval:∀ i v,P i v->∃ k t,ns[i]?=some k/\v=.int k t) (hb:n+1<yN) :
  ∀ (k i:Nat) (s:ay) (ks:List Int),n-i=k->i<=n->St i s->SO prog w (bt w) s.heap S ks->(∀ x,x∈ks↔x∈ns.take i)->ks.length<=i ->
   (∀ s' ks',Moved (S::wr) G s s'->SO prog w (bt w) s'.heap S ks'->(∀ x,x∈ks'↔x∈ns)->ks'.length<=n->R (.ok (.ret .none)) s') ->
   kD (aU prog w) A (.builtin "set.update.loop" ⟨[.ref S,.ref I],[]⟩) R s:=by
 have hSw:S∉wr:=λh=>hSf (W.sub _ h);have hsub:∀ b∈wr,b∈S::wr:=λb hb=>ag _ hb;intro k
 induction k with
 | zero =>
  intro i s ks hk hi hst hS hm0 hle hR
  have hin:i=n:=by lia
  subst hin;refine gY F.entry_set_update_loop ?_;rw [eQ F.plain_set_update_loop _]
  show aL _ A.in1 (jC (.ref I) >>= _) _ _ s
  refine ae (W.done s _ _ hst λs' hm=>?_)
  show aL _ A.in1 (ret cu) _ _ s'
  exact au (hR s' ks (hm.mono hsub) (hS.keep λo e=>hm.heap S o hSw e) (λx=>by rw [hm0,← hl,GI]) hle)
 | succ k ih =>
  intro i s ks hk hi hst hS hm0 hle hR
  have hlt:i<n:=by lia
  refine gY F.entry_set_update_loop ?_;rw [eQ F.plain_set_update_loop _]
  show aL _ A.in1 (jC (.ref I) >>= _) _ _ s
  refine ae (W.item i s _ _ hlt hst λv s' hP hst' hm=>?_);obtain ⟨c,t,hc,rfl⟩:=hval i v hP
  show aL _ A.in1 (jU [fc c t] (setAdd S (.int c t)) >>= _) _ _ s'
  refine ae (bY ?_);unfold setAdd;refine bY ?_;refine ae ((oU prog w).pyHash (k:=c) (intKind_is _ _ _ _) ?_);refine abf (s:={ s' with toks:=s'.toks+1 }) (hS.keep λo e=>hm.heap S o hSw e) (by lia) λh' ks' b hsb hS2 hmem hlen=>?_;refine au ⟨jF F.plain_set_update_loop _,ih (i+1) _ ks' (by lia) hlt (W.frame _ s' _ _ hst' (ij _) λb hb o e=>?_) hS2 (λx=>?_) (by lia) λs'' ks'' hm'' hS'' hmem'' hlen''=>?_⟩
  .rw [hsb.2 b (λh:b=S=>hSf (by rw [← h];exact hb))];exact e
  .rw [hmem,hm0,LD,hc,aT];simp
  .refine hR s'' ks'' (Moved.trans W.gtrans ((hm.mono hsub).then_heap (ij _) λb o hb e=>?_) hm'') hS'' hmem'' hlen'';rw [hsb.2 b (λh:b=S=>hb (by rw [h];exact ar))];exact e
theorem Vn {l:ah}{items:Array ai}{ns:List Int}{Q:ai->ay->Prop}(hh:A.handled=none) (hl:s.heap.IsList l items) (hi:gP items.toList ns) (hb:items.size+1<yN)
  (h:∀ (h':cJ) (tk:Nat) (ks:List Int),SO prog w (bt w) h' s.heap.objs.size ks->(∀ x,x∈ks↔x∈ns)->ks.length<=items.size->(∀ b o,s.heap.get? b=some o->h'.get? b=some o)->Q (.ref s.heap.objs.size) { s with heap:=h',toks:=tk }) :
  aL (aU prog w) A (call (.type "set") [.ref l]) Q E s:=by
 obtain ⟨c,tl,hmro⟩:=F.called_set.mro;have hmade:=F.called_set.made;have hsub:=F.called_set.sub;refine t7 (codeAny_of_tree ?_)
 show aL _ _ (callAny (.type "set") _) _ _ _
 refine au ⟨Code.quiet_builtin _ (by decide +kernel),gY F.entry_type_call ?_⟩;rw [Around.under_plain (weight_type_call_type "set" [.ref l] []) rfl];have h1:=F.called_set.notType;have h2:=F.called_set.canCreate;have hct:=F.typeCall_set_1 (.ref l)
 repeat (any_goals (first|assumption|wp_step))
 refine kE (Vm (.ref l) (E:=E) (Q₁:=λobj s₁=>obj=.ref s.heap.objs.size/\s₁={ s with heap:=s.heap.push { cls:=.type "set",dict:=none,data:=.set #[] 0 (.fresh 0 0 (!bt w)) } }) ⟨rfl,rfl⟩) λr s₁ hr=>?_
 cases r with
 | error e=>exact hr
 | ok fl =>
  cases fl with
  | ret obj =>
   obtain ⟨rfl,rfl⟩:=hr;have hS:(s.heap.push { cls:=.type "set",dict:=none,data:=.set #[] 0 (.fresh 0 0 (!bt w)) }).get? s.heap.objs.size=some { cls:=.type "set",dict:=none,data:=.set #[] 0 (.fresh 0 0 (!bt w)) }:=aI _ rfl
   have hT:Shared.TypeIs { s with heap:=s.heap.push { cls:=.type "set",dict:=none,data:=.set #[] 0 (.fresh 0 0 (!bt w)) } } (.ref s.heap.objs.size) "set":=⟨_,hS,rfl⟩
   have hli:=F.called_set.init.lookup;have hbi:=F.called_set.init.bind (.ref s.heap.objs.size)
   repeat (any_goals (first|assumption|wp_step))
   refine kE (codeAny_call_builtin (R:=wants (λr s₂=>r=.none/\∃ h' tk ks,s₂={ s with heap:=h',toks:=tk }/\SO prog w (bt w) h' s.heap.objs.size ks/\(∀ x,x∈ks↔x∈ns)/\ks.length<=items.size/\(∀ b o,s.heap.get? b=some o->h'.get? b=some o)) E) F.called_set.init.plain F.entry_set_init (check_set_init_1 hT ?_)) λr₂ s₂ hr₂=>?_
   .obtain ⟨ol,hol,hcl,nl,hdl⟩:=hl;obtain ⟨ocls,odict,odata,oslots⟩:=ol;simp only at hcl hdl;subst hcl;subst hdl;have hol':(s.heap.push { cls:=.type "set",dict:=none,data:=.set #[] 0 (.fresh 0 0 (!bt w)) }).get? l=some { cls:=.type "list",dict:=odict,data:=.seq items nl,slots:=oslots }:=ao _ hol;have hsls:=F.sub_list_set;have hslf:=F.sub_list_frozenset
    have hne:(dI "list" == dI "dict")=false:=by decide
    have hl1:(s.heap.push { cls:=.type "set",dict:=none,data:=.set #[] 0 (.fresh 0 0 (!bt w)) }).IsList l items:=⟨_,hol',rfl,nl,rfl⟩
    unfold jV.«set.__init__» noKeywords abT;generalize hPI:Tu=PI
    wp_walk
    subst hPI;refine wpAny_pyIter_list hl1 ?_;refine ae (TM ?_);have hlS:l<s.heap.objs.size:=aF hol
    have hh3:A.in1.in1.in1.handled=none:=by simp [hh]
    have hneI:l≠(s.heap.push { cls:=.type "set",dict:=none,data:=.set #[] 0 (.fresh 0 0 (!bt w)) }).objs.size:=by
     rw [jq];exact aO (tL hlS)
    have hSf:s.heap.objs.size∉[(s.heap.push { cls:=.type "set",dict:=none,data:=.set #[] 0 (.fresh 0 0 (!bt w)) }).objs.size,l]:=by
     rw [jq];simp only [aq,aC,cq,or_false,not_or];exact ⟨aO (lG _),df hlS⟩
    have hlen:=hi.length;rw [aZ] at hlen
    have hval:∀ (i:Nat) (v:ai),items[i]?=some v->∃ k t,ns[i]?=some k/\v=.int k t:=λi v hv=>by
     obtain ⟨t,e⟩:=Xt hi i v (by rw [dB];exact hv);have hlt:=(iN.mp hv).1
     have:ns[i]?=some (ns.getD i 0):=by rw [List.getD_eq_getElem?_getD,aw (by lia)];rfl
     exact ⟨_,t,this,e⟩
    refine Yk ((Walks.list hh3 _ l hneI items).toS) s.heap.objs.size hSf ns hlen.symm hval hb (items.size-0) 0 _ [] (by lia) (bA _)
     ⟨⟨_,aI _ rfl,rfl,rfl⟩,(hl1.push _)⟩ ?hS0 (λx=>by simp) (aB _) ?hR
    case hS0 =>
     have hget:((s.heap.push { cls:=.type "set",dict:=none,data:=.set #[] 0 (.fresh 0 0 (!bt w)) }).push { cls:=.type "list_iterator",data:=.fields #[.ref l,.int 0 0] }).get? s.heap.objs.size
       = some { cls:=.type "set",dict:=none,data:=.set #[] 0 (.fresh 0 0 (!bt w)) }:=ao _ hS
     exact ⟨_,#[],0,_,hget,⟨rfl,rfl,rfl⟩,rfl,(λe he=>by simp at he),(λe he=>by simp at he),by decide,rfl,TI.fresh _ _ _,rfl,rfl,jr⟩
    case hR =>
     intro s' ks' hm hS' hmem hlen';obtain ⟨h',g',d',tk',os'⟩:=s';have eg:g'=s.gens:=hm.gens;have ed:d'=s.drawn:=hm.drawn;have eo:os'=s.os:=hm.os;subst eg;subst ed;subst eo
     show aL _ _ _ _ _ _
     refine au ?_
     show aL _ _ (ret cu) _ _ _
     refine au ⟨rfl,h',tk',ks',rfl,hS',hmem,hlen',λb o e=>?_⟩;have hb:=aF e;have hb1:b≠s.heap.objs.size:=aO hb
     have hb2:b≠(s.heap.push { cls:=.type "set",dict:=none,data:=.set #[] 0 (.fresh 0 0 (!bt w)) }).objs.size:=by
      rw [jq];exact aO (tL hb)
     exact hm.heap b o (by simp only [aq,aC,cq,or_false,not_or];exact ⟨hb1,hb2⟩) (ao _ (ao _ e))
   .cases r₂ with
    | error e=>exact hr₂
    | ok fl₂ =>
     cases fl₂ with
     | ret r =>
      obtain ⟨rfl,h',tk,ks,rfl,hS',hm',hl',hk'⟩:=hr₂
      repeat (any_goals (first|assumption|wp_step))
      exact h _ _ _ hS' hm' hl' hk'
     | _=>exact hr₂.elim
  | _=>exact hr.elim
end
end Sw
namespace Sw
variable {i ep n:Nat}{a it:ah}{first:ai}{es:Array (Int×ai)}{t:nB}{vs:List ai}{sl:Nat->Nat}{Q:Option ai->ay->Prop}
def Mn:Manifest.owners.lookup (String.ofList ['r','o','t','a','r','e','t','i','_','t','e','s'].reverse)=some Manifest.sig_set_iterator:=by kernel_rfl
theorem fN:Slot "set_iterator" "__next__" "set_iterator.__next__" :=
 .of (owner:="set_iterator") (n:="__next__") (by rw [AV,pZ];kernel_rfl) (by decide +kernel) (by decide +kernel) (by decide +kernel)
  (by first|exact .inl (by decide +kernel)|exact .inr (by decide +kernel)) (by rw [TQ];kernel_rfl)
def nE:entryFor table "set_iterator.__next__"=some jV.«set_iterator.__next__»:=entryFor_of_tree (by kernel_rfl)
theorem oP (a:ai):argsOk "set_iterator.__next__" ⟨[a],[]⟩:=by
 unfold argsOk;rw [signature?_of (id:="set_iterator.__next__") (n:=['_','_','t','x','e','n','_','_']) (o:=['r','o','t','a','r','e','t','i','_','t','e','s']) (by kernel_rfl) Mn];kernel_rfl
theorem zf:Slot "set_iterator" "__iter__" "set_iterator.__iter__" :=
 .of (owner:="set_iterator") (n:="__iter__") (by rw [AV,pZ];kernel_rfl) (by decide +kernel) (by decide +kernel) (by decide +kernel)
  (by first|exact .inl (by decide +kernel)|exact .inr (by decide +kernel)) (by rw [TQ];kernel_rfl)
theorem JX (a:ai):argsOk "set_iterator.__iter__" ⟨[a],[]⟩:=by
 unfold argsOk;rw [signature?_of (id:="set_iterator.__iter__") (n:=['_','_','r','e','t','i','_','_']) (o:=['r','o','t','a','r','e','t','i','_','t','e','s']) (by kernel_rfl) Mn];kernel_rfl
def GO:entryFor table "set_iterator.__iter__"=some jV.«dict_keyiterator.__iter__» :=
 entryFor_alias (id':="dict_keyiterator.__iter__") (by kernel_rfl) rfl (by decide +kernel) (by kernel_rfl)
def EI:entryFor table "set.__iter__"=some jV.«frozenset.__iter__» :=
 entryFor_alias (id':="frozenset.__iter__") (by kernel_rfl) rfl (by decide +kernel) (by kernel_rfl)
def EJ {α:Type} {l:List α}(h:i<l.length):(l[i]::l.eraseIdx i).Perm l:=by
 rw [List.eraseIdx_eq_take_drop_succ]
 have e:l=l.take i++l[i]::l.drop (i+1):=by rw [List.getElem_cons_drop,ki]
 conv=>rhs;rw [e]
 exact GJ.symm
theorem IQ {α:Type} (next:Nat->Nat):∀ (fuel k:Nat) (left:List α) (out:Array α),fuel=left.length->(Lr next fuel k left out).toList.Perm (out.toList++left)
 | 0,k,left,out,h=>by
  have:left=[]:=jN h.symm
  subst this;simp [Lr]
 | fuel+1,k,left,out,h=>by
  unfold Lr;have hlt:next k%left.length<left.length:=Nat.mod_lt _ (by lia);rw [aw hlt];dsimp only;refine (IQ next fuel _ _ _ (by rw [Um];simp [hlt];lia)).trans ?_;rw [DH,eK];refine ud _ ?_;exact EJ hlt
def AB (h:cJ) (it:ah) (first:ai) (i:Nat) (a:ah) (n ep:Nat):Prop:=∃ o,h.get? it=some o/\o.cls=.type "set_iterator"/\o.data=.fields #[first,cF i,.ref a,cF n,cF ep]
def AB.keep {h h':cJ}(x:AB h it first i a n ep) (k:∀ o,h.get? it=some o->h'.get? it=some o):AB h' it first i a n ep:=let ⟨o,e,r⟩:=x;⟨o,k o e,r⟩
def RS (h:cJ) (a:ah) (es:Array (Int×ai)) (ep:Nat) (t:nB):Prop:=∃ o,h.get? a=some o/\o.ExactSet/\o.data=.set es ep t/\t.fits es.size=true
def RS.keep {h h':cJ}(x:RS h a es ep t) (k:∀ o,h.get? a=some o->h'.get? a=some o):RS h' a es ep t:=let ⟨o,e,r⟩:=x;⟨o,k o e,r⟩
section
variable {prog:bQ}{w:cU}{A:dM}{E:ai->ay->Prop}{s:ay}
theorem QB {Q:ai->ay->Prop}(x:AB s.heap it first i a n ep) (h:Q (.ref it) s):aL (aU prog w) A (Tu (.ref it)) Q E s:=by
 have hT:s.TypeIs (.ref it) "set_iterator":=let ⟨o,e,c,_⟩:=x;⟨o,e,c⟩
 refine Lp hT zf (cV zf hT GO ?_ (JX _))
 show aL _ _ (ret (.ref it)) _ _ s
 exact au ⟨_,rfl,"set_iterator",_,hT,fN.lookup,h⟩
def Ord (w:cU) (a:ah) (es:Array (Int×ai)) (ep:Nat) (t:nB) (vs:List ai) (sl:Nat->Nat):Prop :=
 sl 0=0/\vs.length=es.size/\((bt w=true/\vs=(DV (w.params.setOrder a ep) es).toList.map (·.2)/\∀ i,sl i=0) \/
  (bt w=false/\vs=es.toList.map (·.2)/\(!t.plain && decide (es.size>1))=false/\(t.led=true)/\BO t.place/\∀ i p,t.place[i]?=some p->sl (i+1)=p+1))
theorem So {v:ai}(x:AB s.heap it (cF (sl i)) i a es.size ep) (r:RS s.heap a es ep t) (o:Ord w a es ep t vs sl) (hv:vs[i]?=some v)
  (q:∀ h',AB h' it (cF (sl (i+1))) (i+1) a es.size ep->iH it s.heap h'->Q (some v) { s with heap:=h' }):aL (aU prog w) A (jC (.ref it)) Q E s:=by
 have hT:s.TypeIs (.ref it) "set_iterator":=let ⟨o,e,c,_⟩:=x;⟨o,e,c⟩
 obtain ⟨ob,g,gc,gd⟩:=x;obtain ⟨oa,ra,rx,rd,rf⟩:=r;unfold jC;refine ae (iq (e9 (name:=fH "__next__") hT fN (cV fN hT nE ?_ (oP _))));unfold jV.«set_iterator.__next__»;refine ae (m:=TR "__next__" 0 _) (au ?_);refine ae (oZ g gd ?_)
 show aL _ _ (TU a >>= _) _ _ s
 refine ae (mU ra rd rf ?_);rw [if_neg (by simp)]
 show aL _ _ (RC a ((sl i:Nat):Int).toNat ((i:Nat):Int).toNat ((ep:Nat):Int).toNat >>= _) _ _ s
 simp only [iz]
 have nxt:aL (aU prog w) A.in1 (RC a (sl i) i ep) (λz s'=>z=some (v,sl (i+1))/\s'=s) (λ_ _=>False) s:=by
  unfold RC;refine ae (jm ra rd rf ?_);dsimp only;refine ae ?_;unfold Iu;refine ae (i3 (au ?_));obtain ⟨o0,o1,⟨b1,b2,b3⟩|⟨b1,b2,b3,b4,b5,b6⟩⟩:=o
  .have b1':(({ program:=(aU prog w).prog,params:=(aU prog w).w.params }:Setting).params.followText "set-order")=true:=b1;rw [b1'];simp only [↓reduceIte];rw [if_neg (by simp)];refine ae ?_;unfold setWalk;refine ae (jm ra rd rf ?_);dsimp only;refine ae ?_;unfold Iu;refine ae (i3 (au ?_));rw [b1'];simp only [↓reduceIte];refine ae (i3 (au (au ⟨?_,rfl⟩)));have hv':=hv;rw [b2,aG,dB] at hv'
   show AW (λe=>(e.2,sl i)) (DV (w.params.setOrder a ep) es)[i]?=_
   obtain ⟨e,he,ev⟩:=fZ.mp hv';rw [he,b3 i,b3 (i+1)];simp [ev]
  .have b1':(({ program:=(aU prog w).prog,params:=(aU prog w).w.params }:Setting).params.followText "set-order")=false:=b1;rw [b1'];simp only [ck,↓reduceIte];refine kQ (λhd=>absurd (show (!t.plain && decide (es.size>1))=true from hd) (by rw [b3];decide)) (λ_=>ae ?_)
   show aL _ _ (if (!t.led && !es.isEmpty)=true then _ else _) _ _ _
   rw [if_neg (by rw [b4];simp)];refine au (au ⟨?_,rfl⟩)
   have hlt:i<es.size:=by rw [← o1];exact (av.mp hv).1
   have hfs:t.place.size=es.size:=by
    have:=rf;unfold Y7 at this;simp at this;exact this.1
   have hp:t.place[i]?=some (t.place[i]'(by lia)):=cm _
   have hbel:dY t.place (sl i)=i:=by
    refine Mj b5 ?_
    cases i with
    | zero=>exact .inl ⟨rfl,o0⟩
    | succ k =>
     have hk:t.place[k]?=some (t.place[k]'(by lia)):=cm _;exact .inr ⟨k,rfl,_,hk,b6 k _ hk⟩
   rw [hbel,hp,b6 i _ hp];rw [b2,aG,dB] at hv;obtain ⟨e,he,ev⟩:=fZ.mp hv;rw [he];obtain ⟨e1,e2⟩:=e;simp at ev;simp [ev]
 refine ae (eJ nxt (λz s' hz=>?_) λ_ _ x=>x.elim);obtain ⟨rfl,rfl⟩:=hz;dsimp only;have g1:=bT (jd (·.setIfInBounds 0 (cF ((sl (i+1):Nat):Int)))) g (kI (dA gd _));refine ae (jY g gd (by simp) (ae (jY g1 (dA gd _) (by simp) ?_)));have g2:=bT (jd (·.setIfInBounds 1 (cF ((i:Int)+1)))) g1 (kI (dA (dA gd _) _));refine au ⟨_,rfl,au (q _ ⟨_,g2,(tN ..).trans ((tN ..).trans gc),?_⟩ ((cP ..).trans (cP ..)))⟩;rw [dA (dA gd _)];simp [cF]
theorem Vo (hh:A.handled=none) (x:AB s.heap it (cF (sl vs.length)) vs.length a es.size ep) (r:RS s.heap a es ep t) (o:Ord w a es ep t vs sl)
  (q:∀ h',Uk it s.heap h'->Q none { s with heap:=h' }):aL (aU prog w) A (jC (.ref it)) Q E s:=by
 have hT:s.TypeIs (.ref it) "set_iterator":=let ⟨o,e,c,_⟩:=x;⟨o,e,c⟩
 obtain ⟨ob,g,gc,gd⟩:=x;obtain ⟨oa,ra,rx,rd,rf⟩:=r;unfold jC;refine ae (iq (e9 (name:=fH "__next__") hT fN (cV fN hT nE ?_ (oP _))));unfold jV.«set_iterator.__next__»;refine ae (m:=TR "__next__" 0 _) (au ?_);refine ae (oZ g gd ?_)
 show aL _ _ (TU a >>= _) _ _ s
 refine ae (mU ra rd rf ?_);rw [if_neg (by simp)]
 show aL _ _ (RC a ((sl vs.length:Nat):Int).toNat ((vs.length:Nat):Int).toNat ((ep:Nat):Int).toNat >>= _) _ _ s
 simp only [iz]
 have nxt:aL (aU prog w) A.in1 (RC a (sl vs.length) vs.length ep) (λz s'=>z=none/\s'=s) (λ_ _=>False) s:=by
  unfold RC;refine ae (jm ra rd rf ?_);dsimp only;refine ae ?_;unfold Iu;refine ae (i3 (au ?_));obtain ⟨o0,o1,⟨b1,b2,b3⟩|⟨b1,b2,b3,b4,b5,b6⟩⟩:=o
  .have b1':(({ program:=(aU prog w).prog,params:=(aU prog w).w.params }:Setting).params.followText "set-order")=true:=b1;rw [b1'];simp only [↓reduceIte];rw [if_neg (by simp)];refine ae ?_;unfold setWalk;refine ae (jm ra rd rf ?_);dsimp only;refine ae ?_;unfold Iu;refine ae (i3 (au ?_));rw [b1'];simp only [↓reduceIte];refine ae (i3 (au (au ⟨?_,rfl⟩)))
   show AW (λe=>(e.2,sl vs.length)) (DV (w.params.setOrder a ep) es)[vs.length]?=_
   rw [jM (by have h:=o1;rw [b2,af,aZ] at h;rw [o1];exact Gx h)]
   rfl
  .have b1':(({ program:=(aU prog w).prog,params:=(aU prog w).w.params }:Setting).params.followText "set-order")=false:=b1;rw [b1'];simp only [ck,↓reduceIte];refine kQ (λhd=>absurd (show (!t.plain && decide (es.size>1))=true from hd) (by rw [b3];decide)) (λ_=>ae ?_)
   show aL _ _ (if (!t.led && !es.isEmpty)=true then _ else _) _ _ _
   rw [if_neg (by rw [b4];simp)];refine au (au ⟨?_,rfl⟩)
   have hfs:t.place.size=es.size:=by
    have:=rf;unfold Y7 at this;simp at this;exact this.1
   have hbel:dY t.place (sl vs.length)=vs.length:=by
    refine Mj b5 ?_
    cases e:vs.length with
    | zero=>exact .inl ⟨rfl,o0⟩
    | succ k =>
     have hk:t.place[k]?=some (t.place[k]'(by lia)):=cm _;exact .inr ⟨k,rfl,_,hk,b6 k _ hk⟩
   rw [hbel,jM (by lia)]
 refine ae (eJ nxt (λz s' hz=>?_) λ_ _ x=>x.elim);obtain ⟨rfl,rfl⟩:=hz;dsimp only;refine ae (jY g gd (by simp) ?_)
 show aL _ _ (Y1 (.type "StopIteration") [] >>= _) _ _ _
 refine ae ?_;simp only [Y1,newTuple];refine ae (dX ?_ (by size_fits));refine ae (m:=pb _ _) (Ob (a:=cu) (by first|rfl|(simp only [pb];rfl)) ?_);refine dX ?_ (by size_fits);simp only [raiseNew];refine ae (Xd ?_);rw [show A.in1.handled=none from hh];refine ae (au (wpAny_throw ?_));refine ae (qc (T:="StopIteration") (b:=true) ⟨_,aI _ rfl,rfl⟩ DG ?_);exact au (q _ (((cP ..).extBut.push _).push _))
theorem Sq (hh:A.handled=none) (I a:ah) (hne:a≠I) {vs:List ai}{sl:Nat->Nat}(o:Ord w a es ep t vs sl) :
  Walks prog w A I [I,a] [I] vs.length (λi v=>vs[i]?=some v) (λi h=>AB h I (cF (sl i)) i a es.size ep/\RS h a es ep t) where
 sub:=λb hb=>by simp at hb;simp [hb]
 frame:=λ_ _ _ st hk=>⟨st.1.keep λo e=>hk I (by simp) o e,st.2.keep λo e=>hk a (by simp) o e⟩
 item:=λi s Q E hi st hQ=>by
  have hv:vs[i]?=some vs[i]:=aw hi;exact So st.1 st.2 o hv λh' x' hs'=>hQ _ h' s.toks hv ⟨x',st.2.keep λo e=>hs'.extBut a o hne e⟩ λb o hb e=>hs'.extBut b o (λh=>hb (by simp [h])) e
 done:=λs Q E st hQ=>Vo hh st.1 st.2 o λh' he=>hQ h' s.toks λb o hb e=>he b o (λh=>hb (by simp [h])) e
 self:=λ_ _ _ _ st hQ=>QB st.1 hQ
end
end Sw
namespace Sw
variable {T:ah}{ord:List Nat}{vs:List ai}{Q:Option ai->ay->Prop}
section
variable {prog:bQ}{w:cU}{A:dM}{E:ai->ay->Prop}{s:ay}{it a:ah}{es:Array (Int×ai)}{ep n:Nat}{t:nB}
def Sr {M:Model}{src:Source}{k:Nat}{Q:Nat->ay->Prop}(hk:k≠0) (h:∀ i d,i<k->Q i { s with drawn:=d }):aL M A (choose src k) Q E s :=
 λΓ p hΓ=>⟨hk,h _ _ (Nat.mod_lt _ (Nat.pos_of_ne_zero hk))⟩
theorem QC {α:Type}:∀ (k:Nat) (xs:List α) {s:ay}{Q:List α->ay->Prop},xs.length=k->(∀ ys d,ys.Perm xs->Q ys { s with drawn:=d })->aL (aU prog w) A (drawOrder k xs) Q E s
 | 0,xs,s,Q,hl,h=>by
  have:xs=[]:=jN hl;subst this
  exact au (h [] s.drawn (mJ _))
 | k+1,[],s,Q,hl,h=>by simp at hl
 | k+1,x::xs,s,Q,hl,h=>by
  unfold drawOrder;refine ae (Sr (by simp) λi d hi=>?_);rw [aw hi];dsimp only;refine ae (QC k _ (by rw [Um,if_pos hi];lia) λys d' hp=>au (h _ d' ?_));exact (hp.cons _).trans (EJ hi)
structure Dr (h:cJ) (T:ah) (es:Array (Int×ai)) (ord:List Nat) (vs:List ai):Prop where
 tup:∃ o,h.get? T=some o/\o.data=.seq (ord.map λ(i:Nat)=>cF (i:Int)).toArray 0
 len:vs.length=ord.length
 at_:∀ (i:Nat) p,ord[i]?=some p->∃ e,es[p]?=some e/\vs[i]?=some e.2
theorem Yl {i:Nat}{v:ai}(x:AB s.heap it (.ref T) i a es.size ep) (r:RS s.heap a es ep t) (o:Dr s.heap T es ord vs) (hv:vs[i]?=some v)
  (q:∀ h',AB h' it (.ref T) (i+1) a es.size ep->iH it s.heap h'->Q (some v) { s with heap:=h' }):aL (aU prog w) A (jC (.ref it)) Q E s:=by
 have hT:s.TypeIs (.ref it) "set_iterator":=let ⟨o,e,c,_⟩:=x;⟨o,e,c⟩
 obtain ⟨ob,g,gc,gd⟩:=x;obtain ⟨oa,ra,rx,rd,rf⟩:=r;obtain ⟨⟨ot,gt,gtd⟩,ol,oat⟩:=o
 have hi:i<ord.length:=by rw [← ol];exact (av.mp hv).1
 obtain ⟨e,he,hve⟩:=oat i _ (aw hi);rw [hv] at hve;cases hve;unfold jC;refine ae (iq (e9 (name:=fH "__next__") hT fN (cV fN hT nE ?_ (oP _))));unfold jV.«set_iterator.__next__»;refine ae (m:=TR "__next__" 0 _) (au ?_);refine ae (oZ g gd ?_)
 show aL _ _ (TU a >>= _) _ _ s
 refine ae (mU ra rd rf ?_);rw [if_neg (by simp)]
 show aL _ _ (DW (.ref T) >>= _) _ _ s
 have sq:aL (aU prog w) A.in1 (DW (.ref T)) (λz s'=>z=some (ord.map λ(i:Nat)=>cF (i:Int)).toArray/\s'=s) (λ_ _=>False) s:=by
  unfold DW;refine ae (Ik gt ?_);rw [gtd];exact au ⟨rfl,rfl⟩
 refine ae (eJ sq (λz s' hz=>?_) λ_ _ x=>x.elim);obtain ⟨rfl,rfl⟩:=hz;dsimp only
 have hpi:(ord.map λ(i:Nat)=>cF (i:Int)).toArray[((i:Nat):Int).toNat]?=some (cF (ord[i]:Int)):=by
  rw [iz,TV,aG,aw hi];rfl
 show aL _ _ (match (ord.map λ(i:Nat)=>cF (i:Int)).toArray[((i:Nat):Int).toNat]? with|some (.int place _)=>_|some _=>_|none=>_) _ _ _
 rw [hpi]
 show aL _ _ (setNextDrawn a ((ord[i]:Nat):Int).toNat ((ep:Nat):Int).toNat >>= _) _ _ _
 simp only [iz];refine ae ?_;unfold setNextDrawn;refine ae (jm ra rd rf ?_);dsimp only;rw [if_neg (by simp),he];refine au (ae (jY g gd (by simp) ?_));have g1:=bT (jd (·.setIfInBounds 1 (cF ((i:Int)+1)))) g (kI (dA gd _));refine au ⟨_,rfl,au (q _ ⟨_,g1,(tN ..).trans gc,?_⟩ (cP ..))⟩;rw [dA gd];simp [cF]
theorem abg (hh:A.handled=none) (x:AB s.heap it (.ref T) vs.length a es.size ep) (r:RS s.heap a es ep t) (o:Dr s.heap T es ord vs)
  (q:∀ h',Uk it s.heap h'->Q none { s with heap:=h' }):aL (aU prog w) A (jC (.ref it)) Q E s:=by
 have hT:s.TypeIs (.ref it) "set_iterator":=let ⟨o,e,c,_⟩:=x;⟨o,e,c⟩
 obtain ⟨ob,g,gc,gd⟩:=x;obtain ⟨oa,ra,rx,rd,rf⟩:=r;obtain ⟨⟨ot,gt,gtd⟩,ol,oat⟩:=o;unfold jC;refine ae (iq (e9 (name:=fH "__next__") hT fN (cV fN hT nE ?_ (oP _))));unfold jV.«set_iterator.__next__»;refine ae (m:=TR "__next__" 0 _) (au ?_);refine ae (oZ g gd ?_)
 show aL _ _ (TU a >>= _) _ _ s
 refine ae (mU ra rd rf ?_);rw [if_neg (by simp)]
 show aL _ _ (DW (.ref T) >>= _) _ _ s
 have sq:aL (aU prog w) A.in1 (DW (.ref T)) (λz s'=>z=some (ord.map λ(i:Nat)=>cF (i:Int)).toArray/\s'=s) (λ_ _=>False) s:=by
  unfold DW;refine ae (Ik gt ?_);rw [gtd];exact au ⟨rfl,rfl⟩
 refine ae (eJ sq (λz s' hz=>?_) λ_ _ x=>x.elim);obtain ⟨rfl,rfl⟩:=hz;dsimp only
 have hpi:(ord.map λ(i:Nat)=>cF (i:Int)).toArray[((vs.length:Nat):Int).toNat]?=none:=by
  rw [iz,TV,aG,cS (by lia)];rfl
 show aL _ _ (match (ord.map λ(i:Nat)=>cF (i:Int)).toArray[((vs.length:Nat):Int).toNat]? with|some (.int place _)=>_|some _=>_|none=>_) _ _ _
 rw [hpi];dsimp only;have g1:=bT (jd (·.setIfInBounds 0 (cF 0))) g (kI (dA gd _));refine ae (jY g gd (by simp) (ae (jY g1 (dA gd _) (by simp) ?_)))
 show aL _ _ (Y1 (.type "StopIteration") [] >>= _) _ _ _
 refine ae ?_;simp only [Y1,newTuple];refine ae (dX ?_ (by size_fits));refine ae (m:=pb _ _) (Ob (a:=cu) (by first|rfl|(simp only [pb];rfl)) ?_);refine dX ?_ (by size_fits);simp only [raiseNew];refine ae (Xd ?_);rw [show A.in1.handled=none from hh];refine ae (au (wpAny_throw ?_));refine ae (qc (T:="StopIteration") (b:=true) ⟨_,aI _ rfl,rfl⟩ DG ?_);exact au (q _ ((((cP ..).trans (cP ..)).extBut.push _).push _))
theorem Vp (hh:A.handled=none) (I a T:ah) (hne:a≠I) (hnT:T≠I) {ord:List Nat}{vs:List ai} :
  Walks prog w A I [I,a,T] [I] vs.length (λi v=>vs[i]?=some v) (λi h=>AB h I (.ref T) i a es.size ep/\RS h a es ep t/\Dr h T es ord vs) where
 sub:=λb hb=>by simp at hb;simp [hb]
 frame:=λ_ _ _ st hk=>⟨st.1.keep λo e=>hk I (by simp) o e,st.2.1.keep λo e=>hk a (by simp) o e,let ⟨o,e,d⟩:=st.2.2.tup;⟨⟨o,hk T (by simp) o e,d⟩,st.2.2.len,st.2.2.at_⟩⟩
 item:=λi s Q E hi st hQ=>by
  have hv:vs[i]?=some vs[i]:=aw hi;exact Yl st.1 st.2.1 st.2.2 hv λh' x' hs'=>hQ _ h' s.toks hv ⟨x',st.2.1.keep λo e=>hs'.extBut a o hne e,let ⟨o,e,d⟩:=st.2.2.tup;⟨⟨o,hs'.extBut T o hnT e,d⟩,st.2.2.len,st.2.2.at_⟩⟩ λb o hb e=>hs'.extBut b o (λh=>hb (by simp [h])) e
 done:=λs Q E st hQ=>abg hh st.1 st.2.1 st.2.2 λh' he=>hQ h' s.toks λb o hb e=>he b o (λh=>hb (by simp [h])) e
 self:=λ_ _ _ _ st hQ=>QB st.1 hQ
theorem Vq {ks:List Int}{Q:ai->ay->Prop}(hh:A.handled=none) (hS:SO prog w (bt w) s.heap a ks)
  (q:∀ I h1 d (vs:List ai) (ns:List Int) fp St,Walks prog w A I fp [I] vs.length (λi v=>vs[i]?=some v) St->St 0 h1->(∀ b o,s.heap.get? b=some o->h1.get? b=some o)->I∈fp->(∀ b∈fp,b=a\/s.heap.objs.size<=b)->s.heap.objs.size<=I->gP vs ns->ns.Perm ks->Q (.ref I) { s with heap:=h1,drawn:=d }) :
  aL (aU prog w) A (Tu (.ref a)) Q E s:=by
 have hlt:=hS.lt;obtain ⟨o,es,ep,t,ho,hex,hd,hel,hin,hb,hf,ti,hled,rfl,hnd⟩:=hS
 have hT:s.TypeIs (.ref a) "set":=⟨o,ho,hex.1⟩
 have hints:∀ {l:List (Int×ai)},(∀ e∈l,∃ u,e.2=.int (key e) u)->gP (l.map (·.2)) (l.map key):=by
  intro l
  induction l with
  | nil=>intro _;exact .nil
  | cons e l ih =>
   intro h;obtain ⟨u,eu⟩:=h e ar;rw [cn,cn,eu];exact .cons _ _ (ih λe' he'=>h e' (ag _ he'))
 refine Lp hT F.slot_set_iter (cV F.slot_set_iter hT EI ?_ (F.args_set_iter_1 _));unfold jV.«frozenset.__iter__» abU TR;simp only [List.isEmpty_nil,Bool.not_true,ck,↓reduceIte,bind_assoc,pX,bne_self_eq_false];unfold abV abW;refine ae (au ?_)
 try dsimp only
 refine ae (au ?_);refine ae (ae (mU ho hd hf (au ?_)));refine ae ?_;unfold setDrawn;refine ae (jm ho hd hf ?_);dsimp only;refine ae ?_;unfold Iu;refine ae (i3 (au (au ?_)));have hz:es.size<=aX:=Lq hb
 have hrs:RS s.heap a es ep t:=⟨o,ho,hex,hd,hf⟩
 refine kQ (λhdr=>?_) (λhdr=>?_)
 .refine ae (QC es.size (iS es.size) sV λord d hp=>?_)
  have hol:ord.length=es.size:=by rw [hp.length_eq,sV]
  refine ae (ub ?_ (by rw [af,hol];exact hz));have k1:∀ b ob,s.heap.get? b=some ob->(s.heap.push (a9 "tuple" (ord.map λ(i:Nat)=>cF (i:Int)).toArray 0)).get? b=some ob:=λb ob e=>ao _ e;have gT:(s.heap.push (a9 "tuple" (ord.map λ(i:Nat)=>cF (i:Int)).toArray 0)).get? s.heap.objs.size=some (a9 "tuple" (ord.map λ(i:Nat)=>cF (i:Int)).toArray 0):=aI _ rfl;have hsz:(s.heap.push (a9 "tuple" (ord.map λ(i:Nat)=>cF (i:Int)).toArray 0)).objs.size=s.heap.objs.size+1:=jq ..;generalize s.heap.push (a9 "tuple" (ord.map λ(i:Nat)=>cF (i:Int)).toArray 0)=h0 at k1 gT hsz;refine ae (wpAny_setEpoch_of (s:={ s with heap:=h0,drawn:=d }) (k1 _ _ ho) hd hf ?_);unfold newFields;refine ae (dX (au ⟨_,rfl,"set_iterator",_,⟨_,aI _ rfl,rfl⟩,fN.lookup,?_⟩))
  have hmem:∀ p∈ord,p<es.size:=λp hpm=>by simpa using hp.mem_iff.mp hpm
  have hget:∀ p,p<es.size->es[p]?=some (es.getD p (0,.none)):=λp hp'=>by rw [cm hp'];simp [oA,hp']
  have hperm:(ord.map λp=>es.getD p (0,.none)).Perm es.toList:=by
   refine (hp.map _).trans ?_
   have:(iS es.size).map (λp=>es.getD p (0,.none))=es.toList:=by
    apply kH
    intro i;rw [aG]
    by_cases hi:i<es.size
    .rw [Xb hi,dB,hget i hi];rfl
    .rw [cS (by rw [sV];lia),cS (by rw [aZ];lia)];rfl
   rw [this]
  have hsub:∀ e∈ord.map (λp=>es.getD p (0,.none)),∃ u,e.2=.int (key e) u:=λe he=>hin e (hperm.mem_iff.mp he)
  have hst:AB (h0.push { cls:=.type "set_iterator",data:=.fields [ax s.heap.objs.size,cF 0,.ref a,cF es.size,cF ep].toArray }) h0.objs.size (.ref s.heap.objs.size) 0 a es.size ep:=⟨_,aI _ rfl,rfl,rfl⟩
  have haI:a≠h0.objs.size:=by rw [hsz];exact aO (tL hlt)
  have hTI:s.heap.objs.size≠h0.objs.size:=by rw [hsz];exact aO (lG _)
  refine q h0.objs.size _ d ((ord.map λp=>es.getD p (0,.none)).map (·.2)) ((ord.map λp=>es.getD p (0,.none)).map key) [h0.objs.size,a,s.heap.objs.size] _ (Vp (es:=es) (ep:=ep) (t:=t) (ord:=ord) hh h0.objs.size a s.heap.objs.size haI hTI) ⟨hst,hrs.keep λob e=>ao _ (k1 _ _ e),⟨_,ao _ gT,rfl⟩,by rw [af,af],λi p hip=>?_⟩
   (λb ob e=>ao _ (k1 _ _ e)) (by simp) (λb hb'=>?_) (by rw [hsz];exact ij _) (hints hsub) (hperm.map key)
  .have hpl:=hmem p (aM hip);exact ⟨_,hget p hpl,by rw [aG,aG,hip];rfl⟩
  .simp only [aq,cq,or_false] at hb'
   rcases hb' with rfl|rfl|rfl
   .exact .inr (by rw [hsz];exact ij _)
   .exact .inl rfl
   .exact .inr (aB _)
 .refine ae (au (ae (wpAny_setEpoch_of ho hd hf ?_)));unfold newFields;refine ae (dX (au ⟨_,rfl,"set_iterator",_,⟨_,aI _ rfl,rfl⟩,fN.lookup,?_⟩))
  have hst:AB (s.heap.push { cls:=.type "set_iterator",data:=.fields [cF 0,cF 0,.ref a,cF es.size,cF ep].toArray }) s.heap.objs.size (cF 0) 0 a es.size ep:=⟨_,aI _ rfl,rfl,rfl⟩
  obtain ⟨vs,sl,ns,hord,hiv,hpn⟩:∃ vs sl ns,Ord w a es ep t vs sl/\gP vs ns/\ns.Perm (es.toList.map key):=by
   by_cases hbt:bt w=true
   .have hpp:=IQ (w.params.setOrder a ep) es.size 0 es.toList #[] (aZ).symm;rw [show (#[]:Array (Int×ai)).toList++es.toList=es.toList by simp] at hpp;have hpp:(DV (w.params.setOrder a ep) es).toList.Perm es.toList:=hpp;exact ⟨(DV (w.params.setOrder a ep) es).toList.map (·.2),λ_=>0,(DV (w.params.setOrder a ep) es).toList.map key,⟨rfl,by rw [af,hpp.length_eq,aZ],.inl ⟨hbt,rfl,λ_=>rfl⟩⟩,hints λe he=>hin e (hpp.mem_iff.mp he),hpp.map key⟩
   .have hbf:bt w=false:=by cases h:bt w<;>simp_all
    refine ⟨es.toList.map (·.2),λi=>match i with|0=>0|k+1=>t.place.getD k 0+1,es.toList.map key,⟨rfl,by rw [af,aZ],.inr ⟨hbf,rfl,?_,by rw [hled,hbf];rfl,ti.rise,λi p hp=>?_⟩⟩,hints hin,mJ _⟩
    .cases hx:(!t.plain && decide (es.size>1)) with
     | false=>rfl
     | true =>
      refine absurd ?_ hdr
      show (!(w.params.followText "set-order") && (!t.plain && decide (es.size>1)))=true
      rw [hx,show w.params.followText "set-order"=false from hbf];rfl
    .have:=(iN.mp hp)
     obtain ⟨hlt',e⟩:=this
     show t.place.getD i 0+1=p+1
     simp [oA,hlt',e]
  have h0:=hord.1;refine q s.heap.objs.size _ s.drawn vs ns [s.heap.objs.size,a] _ (Sq hh s.heap.objs.size a (aO hlt) hord) ⟨by rw [h0];exact hst,hrs.keep λob e=>ao _ e⟩ (λb ob e=>ao _ e) (by simp) (λb hb'=>?_) (aB _) hiv hpn;simp only [aq,cq,or_false] at hb'
  rcases hb' with rfl|rfl
  .exact .inr (aB _)
  .exact .inl rfl
end
end Sw
namespace Sw
open PySem.W
variable {ks:List Int}
section
variable {prog:bQ}{w:cU}{A:dM}{E:ai->ay->Prop}{s:ay}{a:ah}
theorem Vr {Q:Bool->ay->Prop}(hT:s.TypeIs (.ref a) "set") (h:Q false s):aL (aU prog w) A (jG (.ref a)) Q E s:=by
 unfold jG;refine ae (Qb hT PySem.F.slot_set_len.lookup ?_);generalize hid:("set.__len__":String)=id0
 wp_delta
 rw [show splitId id0=some ("set","__len__") from by subst hid;decide +kernel];subst hid;refine ae (qc (T:="set") (b:=true) hT (by rw [TQ];kernel_rfl) ?_);refine kQ (λhab=>absurd hab (by decide)) (λ_=>?_);refine kQ (λ_=>?_) (λhab=>absurd (by decide +kernel) hab);refine ae (Y0 hT ?_);exact au h
theorem Vs {S:ah}{R:Tv->ay->Prop}(hh:A.handled=none) (hS:SO prog w (bt w) s.heap a ks) (hSa:S≠a) (hn:ks.length<=aX) (g:s.heap.get? S=some { cls:=.type "list",data:=.seq #[] 0 })
  (q:∀ h' tk d acc' c' (ns:List Int),(∀ b o,b≠S->s.heap.get? b=some o->h'.get? b=some o)->h'.get? S=some { cls:=.type "list",dict:=none,data:=.seq acc' c',slots:=#[] }->gP acc'.toList ns->ns.Perm ks->R (.ok (.ret (.ref S))) { s with heap:=h',toks:=tk,drawn:=d }) :
  kD (aU prog w) A (.builtin "list.__iadd__" ⟨[.ref S,.ref a],[]⟩) R s:=by
 have hT:s.TypeIs (.ref a) "set":=let ⟨o,_,_,_,e,c,_⟩:=hS;⟨o,e,c.1⟩
 refine gY F.entry_list_iadd ?_;rw [eQ F.plain_list_iadd _]
 show aL _ A.in1 (ic (.ref S) (.ref a) (.ref S)) _ _ s
 unfold ic;refine ae (Y0 (T:="set") hT ?_)
 have h1:kK (.ref S) (.ref a)=false:=by simp [kK,hSa]
 have h2:(dI "set" == dI "list")=false:=by decide
 have h3:(dI "set" == dI "tuple")=false:=by decide
 simp only [h1,h2,h3,Bool.or_false,ck,if_false];refine ae (Vq (A:=A.in1) hh hS λI h1 d vs ns fp St W st kp hI hfp hIl hiv hpn=>?_)
 have hSf:S∉fp:=λhm=>by
  rcases hfp S hm with e|e
  .exact hSa e
  .exact absurd (aF g) (Nat.not_lt.mpr e)
 have hln:vs.length=ks.length:=by rw [hiv.length,hpn.length_eq]
 have hn':vs.length<=aX:=by lia
 have hT1:({ s with heap:=h1,drawn:=d }:ay).TypeIs (.ref a) "set":=let ⟨o,e,c⟩:=hT;⟨o,kp _ _ e,c⟩
 have key:∀ (h:cJ) (c₁:Nat),St 0 h->(∀ b o,b≠S->s.heap.get? b=some o->h.get? b=some o)->h.get? S=some { cls:=.type "list",data:=.seq #[] c₁ } ->
   kD (aU prog w) A (.builtin "list.extend.loop" ⟨[.ref S,.ref I,.ref S],[]⟩) R { s with heap:=h,drawn:=d }:=by
  intro h c₁ hst hk hS₁;refine codeAny_extend_loopS W.toS hn' S hSf (.ref S) vs.length 0 _ #[] c₁ rfl (bA _) hst hS₁ (ItemsOf.nil _) λs' acc' c' hm hS' hacc=>?_
  have es:s'={ s with heap:=s'.heap,toks:=s'.toks,drawn:=d }:=by have e:=Moved.eq_with hm;exact e
  rw [es];have ea:acc'.toList=vs:=L2.ze hacc;refine q s'.heap s'.toks d acc' c' ns (λb o hb e=>hm.heap b o (λhmem=>?_) (hk b o hb e)) hS' (by rw [ea];exact hiv) hpn
  rcases aq.mp hmem with e'|hmem
  .exact hb e'
  .rw [aC.mp hmem] at e;exact absurd (aF e) (Nat.not_lt.mpr hIl)
 refine ae (bY (Vr hT1 ?_));refine kQ (λ_=>?_) (λ_=>au ⟨jF fe _,key _ 0 st (λb o _ e=>kp b o e) (kp _ _ g)⟩);refine ae (uc (ae ?_))
 show aL _ _ (NS S (·.push .none) >>= λ_=>NS S (·.pop)) _ _ _
 refine ae (rT (kp _ _ g) rfl ?_);have g2:=bT (bB (·.push cu)) (kp _ _ g) rfl;refine rT (hz:=by seq_fits) g2 rfl ?_;have g3:=bT (bB (·.pop)) g2 rfl;refine au ⟨jF fe _,key _ _ ?_ (λb o hb e=>?_) g3⟩
 .refine W.frame 0 _ _ st λb hb o e=>?_;have hbS:b≠S:=λh=>hSf (h▸hb);exact (bW _ _ (Ne.symm hbS)).trans ((bW _ _ (Ne.symm hbS)).trans e)
 .exact (bW _ _ (Ne.symm hb)).trans ((bW _ _ (Ne.symm hb)).trans (kp b o e))
theorem Mo {Q:List ai->ay->Prop}(hh:A.handled=none) (hS:SO prog w (bt w) s.heap a ks) (hn:ks.length<=aX)
  (q:∀ h' tk d vs (ns:List Int),(∀ b o,s.heap.get? b=some o->h'.get? b=some o)->gP vs ns->ns.Perm ks->Q vs { s with heap:=h',toks:=tk,drawn:=d }):aL (aU prog w) A (Rw (.ref a)) Q E s:=by
 have hlt:=hS.lt;unfold Rw;refine ae (TM (gY F.entry_proto_collect ?_));rw [eQ F.plain_proto_collect _]
 show aL _ A.in1 (newList [] >>= λl=>again (.builtin "list.__iadd__" ⟨[l,.ref a],[]⟩)) _ _ s
 have g:(s.heap.push { cls:=.type "list",data:=.seq ([]:List ai).toArray }).get? s.heap.objs.size=some { cls:=.type "list",data:=.seq #[] 0 }:=aI _ rfl;refine ae (dX (au ⟨jF F.plain_list_iadd _,Vs (s:={ s with heap:=s.heap.push { cls:=.type "list",data:=.seq ([]:List ai).toArray } }) hh (hS.keep λo e=>ao _ e) (df hlt) hn g λh' tk d acc' c' ns hk hS' hi hp=>?_⟩))
 show aL _ A (load s.heap.objs.size >>= _) _ _ { s with heap:=h',toks:=tk,drawn:=d }
 refine ae (Ik hS' (au (q h' tk d acc'.toList ns (λb o e=>hk b o (aO (aF e)) (ao _ e)) hi hp)))
theorem OC {h₀:cJ} {L:ah}{m:bq->Option ai}{news:List (ah×iW)}{Q:ai->ay->Prop}(hh:A.handled=none) (hS:SO prog w (bt w) s.heap a ks) (h64:ks.length<64) (F:Fr h₀ L s.heap m) (N:rQ h₀ L s.heap news)
  (q:∀ D c h' tk d (out:List ai) (ns:List Int),Fr h₀ L h' m->rQ h₀ L h' ((D,a9 "list" out.toArray c)::news)->(∀ p∈news,p.1<D)->gP out ns->ns.Perm ks->ns.Pairwise (·<=·)->Q (.ref D) { s with heap:=h',toks:=tk,drawn:=d }) :
  aL (aU prog w) A (call (.builtin "sorted") [.ref a]) Q E s:=by
 refine lB DC AJ AK (Lo _) (ae (m:=Iq "sorted" 1 1 _) (au (ae (Mo hh hS (L2.du (m:=64) (by lia)) λh1 tk d vs ns keep hi hp=>?_))))
 have hvl:vs.length<64:=by rw [hi.length,hp.length_eq];exact h64
 have hz:vs.length<=aX:=L2.du (m:=64) (by lia);refine ae (kU ?_ hz);have F1:=F.kept keep;have N1:=N.grown keep;have hL:L<h1.objs.size:=F1.ns.lt;have g:(h1.push (a9 "list" vs.toArray 0)).get? h1.objs.size=some (a9 "list" vs.toArray 0):=aI _ rfl
 show aL (aU prog w) A.in1 (do let _ ← jU [ax h1.objs.size] (call (.builtin "list.sort") [ax h1.objs.size]);ret (ax h1.objs.size)) _ _ { s with heap:=h1.push (a9 "list" vs.toArray 0),toks:=tk,drawn:=d }
 refine ae (bY (cV ua ⟨_,g,rfl⟩ rS (list_sort_tree (s:={ s with heap:=h1.push (a9 "list" vs.toArray 0),toks:=tk,drawn:=d }) g hi hvl λout ns' a1 a2 a3=>⟨_,rfl,au ⟨_,rfl,?_⟩⟩) (DD _)));have hb:∀ b o,s.heap.get? b=some o->b≠h1.objs.size:=λb o e=>aO (aF (keep b o e))
 have k7:∀ b o,s.heap.get? b=some o->(sortedHeap (h1.push (a9 "list" vs.toArray 0)) h1.objs.size vs out).get? b=some o:=λb o e=>by
  unfold sortedHeap;exact (bW _ _ (Ne.symm (hb b o e))).trans (ao _ (ao _ ((bW _ _ (Ne.symm (hb b o e))).trans (ao _ (keep b o e)))))
 obtain ⟨c1,g2⟩:∃ c1,((h1.push (a9 "list" vs.toArray 0)).update h1.objs.size (bB λ_=>#[])).get? h1.objs.size=some (a9 "list" #[] c1):=⟨_,kP g λ_=>#[]⟩
 obtain ⟨c7,g7⟩:∃ c7,(sortedHeap (h1.push (a9 "list" vs.toArray 0)) h1.objs.size vs out).get? h1.objs.size=some (a9 "list" out c7):=⟨_,kP (ao _ (ao _ g2)) λ_=>out⟩
 refine q h1.objs.size c7 _ tk d out.toList ns' (F.kept k7) (λp hp'=>?_) (λp hp'=>aF (N1 p hp').1) a1 (a2.trans hp) a3
 rcases aq.mp hp' with rfl|hp'
 .exact ⟨by simpa using g7,df hL,kR (bF F1.above (i8 hL))⟩
 .exact (N.grown k7) p hp'
end
end Sw
namespace L2
open PySem.W
variable {Z:St}{H:Hp}{K:aa}{X:Cx}{t ta:TA}{elts:List Expr}{k:Nat}{pos:wV}
def Inv.drawn {pins:List (ah×iW)}{s:ay}(I:Inv X pins Z H s) (d:Drawn):Inv X pins Z H { s with drawn:=d }:=⟨I.ok,I.os,I.bare,I.base,I.loc,I.cell,I.free,I.mY,I.pin,I.eV,I.len⟩
def zg (K:aa) (t:TA):TE:=λZ H Q=>t Z H λvs H1=>∃ (a:ah) (ns:List Int),vs=[.ref a]/\dh K H1 a (ns.map V.int)/\ns.length<=4000/\(∃ ds:List Int,ds.length<64/\∀ x∈ns,x∈ds) /\
 ∀ p (ks:List Int),H1 p=none->ks.Pairwise (· < ·)->(∀ x,x∈ks↔x∈ns)->Q (.ref p) (upd H1 p (.lst (ks.map V.int)))
theorem Ss {Q:VK}(h:t Z H λvs H1=>∃ (a:ah) (ns:List Int),vs=[.ref a]/\dh K H1 a (ns.map V.int)/\ns.length<=4000/\(∃ ds:List Int,ds.length<64/\∀ x∈ns,x∈ds) /\
 ∀ p (ks:List Int),H1 p=none->ks.Pairwise (· < ·)->(∀ x,x∈ks↔x∈ns)->Q (.ref p) (upd H1 p (.lst (ks.map V.int)))):zg K t Z H Q:=h
theorem Vt {ks ds:List Int}(hn:ks.Nodup) (h:∀ x∈ks,x∈ds):ks.length<=ds.length:=by
 induction ks generalizing ds with
 | nil=>simp
 | cons a ks ih =>
  obtain ⟨h1,h2⟩:=bg.mp hn;obtain ⟨l1,l2,rfl⟩:=mM (h a ar)
  have:=ih (ds:=l1++l2) h2 λx hx=>by
   have hx':=h x (ag _ hx)
   rcases aT.mp hx' with q|q
   .exact cz _ q
   .rcases aq.mp q with q|q
    .exact absurd (q▸hx) h1
    .exact bx _ q
  simp at this ⊢;lia
section
variable {x:Expr}{p1 p2 q1 q2:wV}
theorem EK (hc:X.calm=true) (hgl:Gl X "sorted") (hml:X.mg "sorted"=none) (hgz:Gl X "set") (hmz:X.mg "set"=none) (ha:PA X [x] t)
  (he:bK [.Call (.Name "set" p1) [x] [] p2] X.env=[(false,fQ (.Call (.Name "set" p1) [x] [] p2) X.env)]:=by rfl) (he2:bK [x] X.env=(false,fQ x X.env)::bK [] X.env:=by rfl) (hpl:(iJ p2 (bK [] X.env)).any (·.1)=false:=by rfl) :
  PE X (.Call (.Name "sorted" q1) [.Call (.Name "set" p1) [x] [] p2] [] q2) (zg X.K t):=by
 intro pins s Z H Q I h;refine fT (sd I hgl hml BootT.Et (yS ?_ he rfl));rw [he]
 show aL _ _ (spliced ((false,fQ (.Call (.Name "set" p1) [x] [] p2) X.env)::iJ q2 (bK [] X.env))) _ _ s
 refine mG (fT (sd I hgz hmz BootT.set (ib (ia (ha p2 pins s Z H _ I h) λus s1 ⟨vs,H1,I1,r1,q⟩=>?_) he2 hpl)));obtain ⟨a,ns,rfl,hA,hl4,⟨ds,hds,hsub⟩,k⟩:=q;obtain ⟨u,rfl,ru⟩:=vals1 r1;cases ru;obtain ⟨its,rv,pl,hz⟩:=I1.list hA;have hi:gP its ns:=intsAre_of rv;have hlen:=hi.length;refine Sw.Vn (ns:=ns) (I1.ok.hd hc) pl.isList (by simpa using hi) (by rw [aN,hlen];unfold yN;lia) λh2 tk ks hS hmem hle hk=>rY ?_
 have hnd:ks.Nodup:=by obtain ⟨_,_,_,_,_,_,_,_,_,_,_,_,_,_,hn⟩:=hS;exact hn
 have h64:ks.length<64:=aY (Vt hnd λx hx=>hsub x ((hmem x).mp hx)) hds;have I2:Inv X pins Z H1 { s1 with heap:=h2,toks:=tk }:=I1.kept (t':=tk) hk;obtain ⟨m,F,N⟩:=I2.vK;refine Sw.OC (s:={ s1 with heap:=h2,toks:=tk }) (I1.ok.hd hc) hS h64 F N λD c h' tk' d out ms F' N' hD a1 a2 a3=>?_;obtain ⟨hn,I3⟩:=I2.vL (t':=tk') (o:=.lst (ms.map V.int)) F.ns F' N' hD ⟨by rw [af,a2.length_eq];exact du (m:=64) (by lia),out,c,A6 a1,(N' _ ar).1⟩;refine ⟨.ref D,_,I3.drawn d,rfl,k D ms hn ?_ (λx=>by rw [a2.mem_iff,hmem])⟩;have hnd':ms.Nodup:=a2.nodup_iff.mpr hnd
 exact (List.Pairwise.and a3 hnd').imp λ{x y} h=>by
  have h1:=h.1;have h2:x≠y:=h.2;lia
end
def Ite (K:aa) (a:ah):It :=
 ⟨λi H=>∃ xs x,dh K H a xs/\xs[i]?=some x,λi H v H'=>∃ p,H p=none/\v=.ref p/\∀ xs,dh K H a xs->∃ y,xs[i]?=some y/\H'=upd H p (.tup [.int (i:Int),y]),λi H=>∃ xs,dh K H a xs/\xs.length<=i⟩
theorem Su {P:bQ}{w:cU}(a e it:ah) (hei:e≠it):Oh P w K (.Tuple elts k pos) (Ite K a) [e,it] e (λi h=>(∃ old,IsEnum h e it (i:Int) old)/\h.IsListIter it a i) where
 mem:=by simp
 obj:=λi h st b hb=>by
  obtain ⟨⟨old,x⟩,y⟩:=st;simp only [aq,cq,or_false] at hb
  rcases hb with rfl|rfl
  .exact ⟨_,x,λv z=>by
    have z':Data.fields _=Data.cell v:=z
    cases z'⟩
  .obtain ⟨o,q,c,d⟩:=y;exact ⟨o,q,λv z=>by rw [d] at z;cases z⟩
 keep:=λi h h' st kp=>⟨let ⟨old,x⟩:=st.1;⟨old,kp e (by simp) _ x⟩,st.2.at λo x=>kp it (by simp) o x⟩
 item:=by
  intro X hP hw hK hc i pins s Z H E I hf st hg;subst hP hw hK;obtain ⟨⟨old,he⟩,hit⟩:=st;obtain ⟨xs,x,hq,hx⟩:=hg;obtain ⟨its,rv,pl,hz⟩:=I.list hq;obtain ⟨u,hu,ru⟩:=rv.get hx;refine wpAny_pyNext_enum_item he hit pl.isList (x:=u) (by simpa using hu) hei λh1 ho hit1 hT hsz hk=>?_;refine ⟨_,rfl,wpAny_letOwnedTupleGo_enum ho λh2 he2 hs2=>?_⟩;have hTn:H s.heap.objs.size=none:=I.eV.fresh (aB _);have helt:e<s.heap.objs.size:=aF he;have hTe:s.heap.objs.size≠e:=df helt
  have k2:∀ b o,b∉[e,it]->s.heap.get? b=some o->h2.get? b=some o:=λb o hb q=>by
   have h1':b≠e:=λz=>hb (by simp [z]);have h2':b≠it:=λz=>hb (by simp [z]);exact (hs2.2 b h1').trans (hk b o h1' h2' q)
  have nf:∀ b u,H b=some u->b∉[e,it]:=λb u q hb=>by rw [(hf b hb).1] at q;cases q
  have nT:∀ b u,H b=some u->b≠s.heap.objs.size:=λb u q z=>by rw [z,hTn] at q;cases q
  have nT2:∀ b o,s.heap.get? b=some o->b≠s.heap.objs.size:=λb o q=>aO (aF q);have T2:h2.get? s.heap.objs.size=some { cls:=.type "tuple",data:=.seq #[.int i s.toks,u] }:=(hs2.2 _ hTe).trans hT
  have I2:Inv X pins Z (upd H s.heap.objs.size (.tup [.int (i:Int),x])) { s with heap:=h2,gens:=s.gens,drawn:=s.drawn,toks:=s.toks+1 }:=by
   refine I.step (ch:=[e,it]) (λb hb=>?_) (λb o _ _ hb q _=>k2 b o hb q) (λb o _ _ hb q _=>⟨o.slots,k2 b o hb q⟩) (λb o hb q n=>by rw [aE (nT2 b o q)];exact n) (λb o hb q=>⟨o,k2 b o hb q⟩)
    (λb ys q=>by rw [aE (nT b _ q)];exact q) (λb o u q=>by rw [aE (nT b _ q)];exact q) (λb ps q=>⟨#[],by rw [aE (nT b _ q),q];simp⟩) (λm hm=>?_) (λb v q=>?_) I.bare
   .obtain ⟨f0,f1,f2,f3,f4,f5⟩:=hf b hb;exact ⟨f3,f1,f4,f5⟩
   .obtain ⟨o,es,ep,ho,r⟩:=hm;refine ⟨o,es,ep,k2 _ o (λhb=>?_) ho,r⟩;exact (hf _ hb).2.1 rfl
   .by_cases hb:b=s.heap.objs.size
    .subst hb;rw [aD] at q;cases q;exact ⟨du (m:=2) (aB 2),[.int i s.toks,u],.cons ⟨_,rfl⟩ (.cons ru .nil),_,T2,rfl,0,rfl⟩
    .rw [aE hb] at q
     refine (I.eV b v q).vO (λc o hc q2=>k2 c o ?_ q2) (λc q2=>by rw [aE (nT c _ q2)];exact q2) λc ys q2=>by rw [aE (nT c _ q2)];exact q2
     rcases hc with z|z
     .rw [z];exact nf b v q
     .exact nf c _ z
  refine ⟨.ref s.heap.objs.size,_,I2,rfl,⟨_,hTn,rfl,λys hy=>⟨x,by rw [I.NK hy hq];exact hx,rfl⟩⟩,⟨⟨_,by simpa using he2⟩,hit1.at λo q=>(hs2.2 it (Ne.symm hei)).trans q⟩,λb hb=>?_⟩
  have hbl:b<s.heap.objs.size:=by
   simp only [aq,cq,or_false] at hb
   rcases hb with rfl|rfl
   .exact helt
   .obtain ⟨_,q,_⟩:=hit;exact aF q
  rw [aE (aO hbl)];exact (hf b hb).1
 done:=by
  intro X hP hw hK hc i pins s Z H E I hf st hg;subst hP hw hK;obtain ⟨⟨old,he⟩,hit⟩:=st;obtain ⟨xs,hq,hx⟩:=hg;obtain ⟨its,rv,pl,hz⟩:=I.list hq;have hl:=rv.length;obtain ⟨f0,f1,f2,f3,f4,f5⟩:=hf it (by simp)
  exact wpAny_pyNext_enum_end (I.ok.hd hc) he hit pl.isList (by simp;lia) λh' eb=>⟨rfl,I.turned (t':=s.toks) (λb o hb q=>eb b o hb q) f0 f1 f3 f4 f5⟩
 self:=λ_ _ _ _ _ st h=>let ⟨_,x⟩:=st.1;wpAny_pyIter_enum x h
def Vu (K:aa) (ta:TA):TI:=λZ H R=>ta Z H λvs H1=>∃ (a:ah) (xs:List V),vs=[.ref a]/\dh K H1 a xs/\R (Ite K a) H1
def Ym {R:It->Hp->Prop}(h:ta Z H λvs H1=>∃ (a:ah) (xs:List V),vs=[.ref a]/\dh K H1 a xs/\R (Ite K a) H1):Vu K ta Z H R:=h
theorem Yn {pos':wV}{a:Expr}{p:wV}(hg:Gl X "enumerate") (hm:X.mg "enumerate"=none) (ha:PA X [a] ta) (hs:bK [a] X.env=[(false,fQ a X.env)]:=by rfl) :
  PI X (.Tuple elts k pos') (.Call (.Name "enumerate" p) [a] [] pos) (Vu X.K ta):=by
 intro pins s Z H R I h;refine Call_ (sd I hg hm BootT.Sd (ib (ia (ha pos pins s Z H _ I h) λus s1 ⟨vs,H1,I1,r1,q1⟩=>?_) hs rfl));obtain ⟨l,xs,e,hq,q⟩:=q1;subst e
 cases r1 with
 | cons r rr =>
  cases rr;cases r;obtain ⟨its,rv,pl,hz⟩:=I1.list hq;refine call_enumerate_list pl.isList λh' he hit hsz hk=>?_;refine wpAny_pyIter_enum he ?_;have hei:s1.heap.objs.size+1≠s1.heap.objs.size:=Nat.succ_ne_self _;refine ⟨s1.heap.objs.size+1,[s1.heap.objs.size+1,s1.heap.objs.size],_,_,H1,rfl,I1.kept (t':=s1.toks) hk,Su l (s1.heap.objs.size+1) s1.heap.objs.size hei,⟨⟨_,he⟩,hit⟩,λb hb=>?_,q⟩
  have hb':s1.heap.objs.size<=b:=by
   simp only [aq,cq,or_false] at hb
   rcases hb with rfl|rfl
   .exact ij _
   .exact aB _
  exact I1.NN hb' (I1.eV.fresh hb')
theorem Vv {a:ah}{xs:List V}{g:TG}{tb:TS}{D:r9}(Pv:Nat->St->Hp->Prop) (h0:Pv 0 Z H) (hl:∀ i Z H,i<=xs.length->Pv i Z H->dh K H a xs)
  (hs:∀ i x p Z H,xs[i]?=some x->H p=none->Pv i Z H->g (.ref p) Z (upd H p (.tup [.int (i:Int),x])) λσ2 H2=>tb { D with nx:=Pv (i+1),ct:=Pv (i+1),bk:=D.nx } σ2 H2) (hd:∀ Z H,Pv xs.length Z H->D.nx Z H) :
  ∃ W:Nat->Nat->St->Hp->Prop,(∃ m,W 0 m Z H)/\∀ i m Z H,W i m Z H ->
   ((Ite K a).stop i H/\D.nx Z H)\/((Ite K a).go i H/\∃ N:St->Hp->Prop,(∀ σ' H',N σ' H'->∃ m',m'<m/\W (i+1) m' σ' H')/\∀ x H',(Ite K a).PX i H x H'->g x Z H' λσ2 H2=>tb { D with nx:=N,ct:=N,bk:=D.nx } σ2 H2):=by
 refine ⟨λi m Z H=>m=xs.length-i/\i<=xs.length/\Pv i Z H,⟨xs.length,by simp,bA _,h0⟩,?_⟩;rintro i m Z H ⟨hm,hi,p⟩;have hq:=hl _ _ _ hi p
 by_cases e:i=xs.length
 .subst e;exact .inl ⟨⟨xs,hq,aB _⟩,hd _ _ p⟩
 .obtain ⟨x,hx⟩:∃ x,xs[i]?=some x:=⟨_,aw (by lia)⟩
  refine .inr ⟨⟨xs,x,hq,hx⟩,Pv (i+1),λσ' H' p'=>⟨xs.length-(i+1),by lia,rfl,by lia,p'⟩,?_⟩;rintro v H' ⟨q,hn,rfl,hy⟩;obtain ⟨y,h1,rfl⟩:=hy xs hq;rw [hx] at h1;cases h1;exact hs i x q Z H hx hn p
end L2
namespace L2
variable {K:aa}{k i:Nat}{H:Hp}{x qual q:bq}{A:dM}{w:cU}{h base h':cJ}{P:bQ}{f a C D:ah}{X:Cx}{mg:bq->Option ai}{s:ay}{ps N:List bq}{E:XK}{st:dz}{Z:St}{pos p np cpos:wV}{sp:Sp}{fd:fM}{scope:tX}{cd cls kV pm ct oc:ai}{o:iW}{pins:List (ah×iW)}{sl:Array (Option ai)}{outer:List xZ}{e:Expr}{es:List Expr}{t:TA}{M:Model}{Q:Unit->ay->Prop}{pl:N8 Bool}
def Kp (h h':cJ):Prop:=∀ b o,h.get? b=some o->∃ o',h'.get? b=some o'/\o'.cls=o.cls/\o'.dict=o.dict
def Kp.refl (h:cJ):Kp h h:=λb o e=>⟨o,e,rfl,rfl⟩
def Kp.trans {h1 h2:cJ}(a:Kp h h1) (b:Kp h1 h2):Kp h h2:=λc o e=>by
 obtain ⟨o1,e1,p1,q1⟩:=a c o e;obtain ⟨o2,e2,p2,q2⟩:=b c o1 e1;exact ⟨o2,e2,p2.trans p1,q2.trans q1⟩
inductive Quiet {α:Type}:N8 α->Prop where
 | pure (a:α):Quiet (.pure a)
 | unsup (w:String):Quiet (.unsupported w)
 | load {a:ah}{p:Option ai}{k:iW->N8 α}(h:∀ o,Quiet (k o)):Quiet (.load a p k)
 | update {a:ah}{p:Option ai}{f:iW->iW}{k:Unit->N8 α}(hf:∀ o,(f o).cls=o.cls/\(f o).dict=o.dict/\(o.isFreed=false->(f o).isFreed=false)) (h:Quiet (k ())):Quiet (.update a p f k)
 | alloc {o:iW}{k:ah->N8 α}(h:∀ a,Quiet (k a)):Quiet (.alloc o k)
 | stack {k:List (Code×wV)->N8 α}(h:∀ x,Quiet (k x)):Quiet (.stack k)
theorem Quiet.bind {α β:Type} {t:N8 α}{f:α->N8 β}(ht:Quiet t) (hf:∀ a,Quiet (f a)):Quiet (t.bind f):=by
 induction ht with
 | pure a=>exact hf a
 | unsup w=>exact .unsup w
 | load h ih=>exact .load ih
 | update h1 h2 ih=>exact .update h1 ih
 | alloc h ih=>exact .alloc ih
 | stack h ih=>exact .stack ih
def Quiet.bind' {α β:Type} {t:N8 α}{f:α->N8 β}(ht:Quiet t) (hf:∀ a,Quiet (f a)):Quiet (t >>= f):=ht.bind hf
def Sv {b:ah}(e:h.get? b=some o):o.isFreed=false:=by
 unfold Heap.get? at e
 split at e
 .cases e
 .rename_i x hx
  obtain ⟨c,d,da,sl⟩:=o
  cases da with
  | freed=>exact absurd e (hx c d sl)
  | _=>rfl
theorem Sy {f:iW->iW}(hf:∀ o,(f o).cls=o.cls/\(f o).dict=o.dict/\(o.isFreed=false->(f o).isFreed=false)):Kp h (h.update a f):=λb o e=>by
 by_cases hb:b=a
 .subst hb;exact ⟨f o,bT f e ((hf o).2.2 (Sv e)),(hf o).1,(hf o).2.1⟩
 .exact ⟨o,by rw [bW _ _ (Ne.symm hb)];exact e,rfl,rfl⟩
def Yo:Kp h (h.push o):=λb u e=>⟨u,ao o e,rfl,rfl⟩
theorem Quiet.wp {α:Type} {t:N8 α}(ht:Quiet t) {M:Model}{Γ:PySem.Ctx}:∀ {Q:α->wV->ay->Prop}{E:ai->wV->ay->Prop}{p:wV}{s:ay},Sem.wp M Γ t Q E p s->Sem.wp M Γ t (λa p' s'=>Q a p' s'/\Kp s.heap s'.heap) E p s:=by
 induction ht with
 | pure a=>intro Q E p s h;exact ⟨h,Kp.refl _⟩
 | unsup w=>intro Q E p s h;exact h
 | load h ih=>intro Q E p s h;obtain ⟨o,e,q⟩:=h;exact ⟨o,e,ih o q⟩
 | update hf h ih =>
  intro Q E p s h;obtain ⟨e,q⟩:=h
  exact ⟨e,Sem.wp_mono _ _ _ (λx p' s' z=>⟨z.1,(Sy hf).trans z.2⟩) (λ_ _ _ z=>z) _ _ (ih q)⟩
 | alloc h ih=>intro Q E p s h;exact Sem.wp_mono _ _ _ (λx p' s' z=>⟨z.1,Yo.trans z.2⟩) (λ_ _ _ z=>z) _ _ (ih _ h)
 | stack h ih=>intro Q E p s h;exact ih _ h
def nS {α:Type} {t:N8 α}(ht:Quiet t) {M:Model}{A:dM}{Q:α->ay->Prop}{E:ai->ay->Prop}{s:ay}(h:aL M A t Q E s):aL M A t (λa s'=>Q a s'/\Kp s.heap s'.heap) E s :=
 λΓ p hΓ=>ht.wp (h Γ p hΓ)
def OD (a:ah):Quiet (load a):=.load λo=>.pure o
def JY:Quiet stack:=.stack λx=>.pure x
def Vw (v:ai):Quiet (fieldsOf v):=by
 unfold fieldsOf
 split
 .refine (OD _).bind' λo=>?_
  split
  .exact .pure _
  .exact .unsup _
 .exact .unsup _
def DN (v:ai) (i:Nat):Quiet (field v i):=by
 unfold field;refine (Vw v).bind' λo=>?_
 split
 .exact .pure _
 .exact .unsup _
def Sz (g:Array ai->Array ai) (o:iW):(jd g o).cls=o.cls/\(jd g o).dict=o.dict/\(o.isFreed=false->(jd g o).isFreed=false):=by
 obtain ⟨c,d,da,sl⟩:=o
 cases da<;>first|exact ⟨rfl,rfl,λz=>z⟩|exact ⟨rfl,rfl,λ_=>rfl⟩
def yk (v:ai) (i:Nat) (x:ai):Quiet (TL v i x):=by
 unfold TL
 split
 .unfold updateField;refine (OD _).bind' λo=>?_
  split
  .split
   .exact .update (Sz _) (.pure _)
   .exact .unsup _
  .exact .unsup _
 .exact .unsup _
def Mp:Quiet frameEnvs:=JY.bind' λ_=>.pure _
def Vx (env:xZ) (outer:List xZ):Quiet (behindIsImport env outer):=by
 unfold behindIsImport
 split
 .exact .pure _
 .split
  .exact .pure _
  .exact (DN _ _).bind' λ_=>.pure _
def abh (env:xZ) (b:Bool) (outer:List xZ):Quiet (keptBack env b outer):=by
 unfold keptBack
 split
 .split
  .exact .pure _
  .exact (JY.bind' λ_=>.pure _:Quiet underTheClaimsCaller).bind' λ_=>.pure _
 .exact .pure _
theorem QD:∀ l:List xZ,Quiet (readyFrames l)
 | []=>by rw [NW];exact .pure _
 | env::outer=>by
  rw [NW];simp only
  split
  .refine (OD _).bind' λo=>?_
   split
   .exact .pure _
   .refine (Vx _ _).bind' λ_=>?_;refine (abh _ _ _).bind' λ_=>?_;refine Quiet.bind' (.update (λo=>⟨rfl,rfl,λz=>?_⟩) (.pure _)) λ_=>QD outer;obtain ⟨c,d,da,sl⟩:=o
    cases da<;>first|exact z|rfl|(unfold Obj.isFreed at z ⊢;exact z)
  .exact .unsup _
def OE (l:List xZ):Quiet (frameObject l):=by
 unfold frameObject
 split
 .exact .pure _
 .exact (QD _).bind' λ_=>.pure _
def SF (env:xZ):Quiet (NX env):=by
 unfold NX;refine Mp.bind' λ_=>?_;refine (OE _).bind' λ_=>?_
 split
 .exact .pure _
 .exact .unsup _
def Yp (f:ah) (b:Bool):Quiet (Y8 f b):=by
 unfold Y8;refine JY.bind' λ_=>?_
 split
 .exact .pure _
 .exact .pure _
def Vy (ty:String) (d:Data) (x:Option ah):Quiet (newObjAsIs (.type ty) d x):=by
 unfold newObjAsIs;exact Quiet.bind' (.alloc λ_=>.pure _) λ_=>.pure _
theorem Yq (a b c d e:ai) (p:List ai):Quiet (wm a b c d e p):=by
 unfold wm newFields;generalize ([a,b,c,d,e]++if p.isEmpty=true then nK 6 cu else p)=vs;unfold newObj;simp only
 split
 .exact Quiet.bind' (.unsup _) λ_=>Vy _ _ _
 .exact Vy _ _ _
theorem Vz (v:ai) (env:xZ):Quiet (noteFrame v env):=by
 unfold noteFrame
 split
 .refine (DN _ _).bind' λhead=>?_
  have jp:∀ f,Quiet (do
    let x ← NX env
    let y ← Y8 f (head != cu)
    let z ← wm head x cu (cF ↑f) cu y
    TL v 1 z):=λf=>by
   refine (SF _).bind' λ_=>?_;refine (Yp _ _).bind' λ_=>?_;refine (Yq _ _ _ _ _ _).bind' λ_=>yk _ _ _
  split
  .refine (DN _ _).bind' λ_=>?_
   split
   .exact .pure _
   .exact (yk _ _ _).bind' λ_=>jp _
  .exact jp _
 .exact .unsup _
def EL (v:ai) (f:Option ah):Quiet (setFlight v f):=by
 unfold setFlight;refine (DN _ _).bind' λ_=>?_
 split
 .exact yk _ _ _
 .exact .pure _
def IR (env:xZ) (v:ai):Quiet (leaving env v):=(Vz _ _).bind' λ_=>EL _ _
theorem fv.at {o:HO}(x:fv P w H h a o):∃ u,h.get? a=some u:=by
 cases o with
 | lst xs=>obtain ⟨_,_,_,_,e⟩:=x;exact ⟨_,e⟩
 | tup xs=>obtain ⟨_,_,_,o,e,_⟩:=x;exact ⟨_,e⟩
 | dK kvs=>obtain ⟨_,_,_,_,o,_,_,e,_⟩:=x;exact ⟨_,e⟩
 | dT kvs=>obtain ⟨_,_,_,_,o,_,_,e,_⟩:=x;exact ⟨_,e⟩
 | set S n=>obtain ⟨o,_,_,_,e,_⟩:=x;exact ⟨_,e⟩
 | ins C dx fs=>obtain ⟨_,_,_,e,_⟩:=x;exact ⟨_,e⟩
 | own y=>obtain ⟨_,e⟩:=x;exact ⟨_,e⟩
 | xd fs=>obtain ⟨_,⟨_,_,_,e,_⟩,_⟩:=x;exact ⟨_,e⟩
 | rng lo hi=>obtain ⟨_,_,_,e⟩:=x;exact ⟨_,e⟩
 | frz ob u=>obtain ⟨e,_⟩:=x;exact ⟨_,e⟩
 | tbl ps=>exact ⟨_,(show h.get? a=some _ from x)⟩
 | met f y=>exact ⟨_,(show h.get? a=some _ from x)⟩
 | ext φ=>obtain ⟨_,⟨_,e⟩,_⟩:=x;exact ⟨_,e⟩
structure Fly (P:bQ) (w:cU) (st:List xZ) (H:Hp) (s:ay) (H2:Hp) (a:ah) (B h:cJ):Prop where
 un:Un (vK st) [] H H2 s.heap h
 eV:tI P w H2 h
 stays:B.StaysIn h
 has:∀ b o,H2 b=some o->∃ u,B.get? b=some u
 old:∀ b o,s.heap.get? b=some o->b∉vK st->∃ u,B.get? b=some u
 no:B.get? a=none
 dict:∃ o,h.get? a=some o/\o.dict=none
section
variable {st:List xZ}{H2:Hp}{B:cJ}
theorem Fly.step (F:Fly P w st H s H2 a B h) (hf:∀ b∈vK st,H b=none/\∃ o,s.heap.get? b=some o/\∀ vs,o.data≠.fields vs) (us:h.UpToSlots h') (sy:B.StaysIn h') (kp:Kp h h'):Fly P w st H s H2 a B h':=by
 have keep:∀ b o u,B.get? b=some u->h.get? b=some o->h'.get? b=some o:=λb o u e1 e2=>by
  have:=F.stays b u e1;rw [e2] at this;cases this;exact sy b _ e1
 have slot:∀ b o,s.heap.get? b=some o->H b=none->b∈vK st->∃ sl,h'.get? b=some { o with slots:=sl }:=λb o e n hb=>by
  obtain ⟨sl,e1⟩:=F.un.slot b o e n hb (by simp);obtain ⟨_,o',e',nd⟩:=hf b hb;rw [e] at e';cases e';obtain ⟨sl',e2⟩:=us b { o with slots:=sl } e1 nd;exact ⟨sl',e2⟩
 refine ⟨⟨λb o e n hb _=>?_,λb o e n hb _=>slot b o e n hb,λb o e n _=>F.un.free b o e n (by simp),λb o e _=>?_,F.un.wQ,F.un.vQ,F.un.vP⟩,λb o e=>?_,sy,F.has,F.old,F.no,?_⟩
 .obtain ⟨u,hu⟩:=F.old b o e hb;exact keep b o u hu (F.un.keep b o e n hb (by simp))
 .by_cases hb:b∈vK st
  .obtain ⟨sl,e1⟩:=slot b o e (hf b hb).1 hb;exact ⟨_,e1⟩
  .obtain ⟨u,hu⟩:=F.old b o e hb;exact ⟨u,sy b u hu⟩
 .refine (F.eV b o e).vO (λc v hc r=>?_) (λ_ z=>z) λ_ _ z=>z
  obtain ⟨u,hu⟩:∃ u,B.get? c=some u:=by
   rcases hc with rfl|hc
   .exact F.has _ o e
   .exact F.has _ _ hc
  exact keep c v u hu r
 .obtain ⟨o,e,d⟩:=F.dict;obtain ⟨o',e',_,d'⟩:=kp a o e;exact ⟨o',e',d'.trans d⟩
end
def rV (P:bQ) (w:cU):Jz:=λouter H s E e s'=>∃ (a:ah) (cls a0:ai) (B:cJ) (H2:Hp),e=.ref a/\s'.os=s.os/\v7 s'.gens/\B.FlyingW outer a cls a0 s'.heap/\Fly P w outer H s H2 a B s'.heap/\E cls none H2
def EM (I:Inv X pins Z H s):∀ b∈vK X.stack,H b=none/\∃ o,s.heap.get? b=some o/\∀ vs,o.data≠.fields vs:=λb hb=>⟨I.DQ b hb,(I.stack.mem hb).2⟩
section
variable {E':XK}
theorem SG {H1:Hp}{s1:ay}{args:List ai}(I:Inv (lQ (rV P w) P w K mg base N qual scope f cd A outer s H E) pins Z H1 s1) (mk:s1.heap.MadeExcOf h' a cls args) (q:E cls none H1) :
  (lQ (rV P w) P w K mg base N qual scope f cd A outer s H E).xe (.ref a) { s1 with heap:=h' }:=by
 have hL:∀ b o,s.heap.get? b=some o->b≠s.heap.objs.size:=λb o e=>aO (aF e)
 have hfr:∀ b o,s.heap.get? b=some o->b∉vK outer->b∉vK (lp qual scope s.heap.objs.size f cd::outer):=λb o e hb z=>by
  rcases aq.mp (show b∈s.heap.objs.size::vK outer from z) with z|z
  .exact hL b o e z
  .exact hb z
 have Zd:∀ b o u,H1 b=some o->s1.heap.get? b=some u->(ue s1.heap (vK (lp qual scope s.heap.objs.size f cd::outer))).get? b=some u:=λb o u e r =>
  ll _ r λz=>by have:=I.DQ b z;rw [e] at this;cases this
 refine ia (nS (IR _ _) (wpAny_leaves_madeW (base:=ue s1.heap (vK (lp qual scope s.heap.objs.size f cd::outer))) (h:=s1.heap) (L:=s.heap.objs.size) (outer:=outer) (Q:=λ_ s2=>∃ t,(ue s1.heap (vK (lp qual scope s.heap.objs.size f cd::outer))).FlyingW outer a cls (.ref t) s2.heap/\h'.UpToSlots s2.heap/\s2.os=s1.os/\s2.gens=s1.gens)
  I.ok.frames rfl (λb o e=>Ts _ e) (PySem.W.funFrames_hide I.stack λe he c hc=>jS.mpr ⟨e,he,hc⟩) mk λh2 t fl tp nt us=>⟨t,fl,us,rfl,rfl⟩)) λ_ s2 ⟨⟨t,fl,us,e1,e2⟩,kp⟩=>?_
 have slot:∀ b o,s.heap.get? b=some o->H b=none->b∈vK outer->∃ sl,s2.heap.get? b=some { o with slots:=sl }:=λb o e n hb=>by
  obtain ⟨sl,e3⟩:=I.base.slot b o e n hb (by simp [lQ]);obtain ⟨_,o',e',nd⟩:=I.ok.sT.mem hb;have e':s.heap.get? b=some o':=e';rw [e] at e';cases e';obtain ⟨sl',e4⟩:=us b { o with slots:=sl } (mk.keeps b { o with slots:=sl } e3) nd;exact ⟨sl',e4⟩
 refine ⟨a,cls,.ref t,_,H1,rfl,e1.trans I.os,by rw [e2];exact I.bare,fl,⟨⟨λb o e n hb _=>?_,λb o e n hb _=>slot b o e n hb,λb o e n _=>I.base.free b o e n (by simp [lQ]),λb o e _=>?_,I.base.wQ,I.base.vQ,I.base.vP⟩,λb o e=>?_,fl.1,λb o e=>?_,λb o e hb=>?_,fl.2.1,?_⟩,q⟩
 .exact fl.1 b o (ll _ (I.base.keep b o e n hb (by simp [lQ])) (hfr b o e hb))
 .by_cases hb:b∈vK outer
  .obtain ⟨sl,e3⟩:=slot b o e (I.ok.Re b hb) hb;exact ⟨_,e3⟩
  .obtain ⟨o',e3⟩:=I.base.there b o e (by simp [lQ]);exact ⟨o',fl.1 b o' (ll _ e3 (hfr b o e hb))⟩
 .refine (I.eV b o e).vO (λc v hc r=>fl.1 c v ?_) (λ_ z=>z) λ_ _ z=>z
  rcases hc with rfl|hc
  .exact Zd _ o v e r
  .exact Zd _ _ v hc r
 .obtain ⟨u,hu⟩:=(I.eV b o e).at;exact ⟨u,Zd b o u e hu⟩
 .obtain ⟨o',e3⟩:=I.base.there b o e (by simp [lQ]);exact ⟨o',ll _ e3 (hfr b o e hb)⟩
 .obtain ⟨t',e3,_⟩:=mk.there;obtain ⟨o',e4,_,d⟩:=kp a _ e3;exact ⟨o',e4,d⟩
theorem Yr (hE:∀ cls H,E cls none H->E' cls none H):ma (rV P w) (lQ (rV P w) P w K mg base N qual scope f cd A outer s H E') E:=by
 rintro pins Z H1 s1 e s2 I ⟨a,cls,a0,B,H2,rfl,os,bare,fl,F,q⟩
 have hfr:∀ b o,s.heap.get? b=some o->b∉vK outer->b∉vK (lp qual scope s.heap.objs.size f cd::outer):=λb o e hb z=>by
  rcases aq.mp (show b∈s.heap.objs.size::vK outer from z) with z|z
  .exact aO (aF e) z
  .exact hb z
 refine ia (nS (IR _ _) (wpAny_leaves_onW (L:=s.heap.objs.size) (outer:=outer) (Q:=λ_ s3=>B.FlyingW outer a cls a0 s3.heap/\s2.heap.UpToSlots s3.heap/\s3.os=s2.os/\s3.gens=s2.gens) I.ok.frames rfl fl λh' fl' us=>⟨fl',us,rfl,rfl⟩)) λ_ s3 ⟨⟨fl',us,e1,e2⟩,kp⟩=>?_;have F':=F.step (EM I) us fl'.1 kp;refine ⟨a,cls,a0,B,H2,rfl,(e1.trans os).trans I.os,by rw [e2];exact bare,fl',⟨⟨λb o e n hb _=>?_,λb o e n hb _=>?_,λb o e n _=>?_,λb o e _=>?_,λb xs e=>F'.un.wQ _ _ (I.base.wQ _ _ e),λb o u e=>F'.un.vQ _ _ _ (I.base.vQ _ _ _ e),λb ps e=>?_⟩,F'.eV,F'.stays,F'.has,λb o e hb=>?_,F'.no,F'.dict⟩,hE _ _ q⟩
 .exact F'.un.keep b o (I.base.keep b o e n hb (by simp [lQ])) (I.base.free b o e n (by simp [lQ])) (hfr b o e hb) (by simp)
 .obtain ⟨sl,e3⟩:=I.base.slot b o e n hb (by simp [lQ]);obtain ⟨sl',e4⟩:=F'.un.slot b _ e3 (I.base.free b o e n (by simp [lQ])) (ag _ hb:b∈s.heap.objs.size::vK outer) (by simp);exact ⟨sl',e4⟩
 .obtain ⟨o',e3⟩:=I.base.there b o e (by simp [lQ]);exact F'.un.free b o' e3 (I.base.free b o e n (by simp [lQ])) (by simp)
 .obtain ⟨o',e3⟩:=I.base.there b o e (by simp [lQ]);exact F'.un.there b o' e3 (by simp)
 .obtain ⟨m1,e3⟩:=I.base.vP b ps e;obtain ⟨m2,e4⟩:=F'.un.vP b _ e3;exact ⟨m1++m2,by rw [e4,W4]⟩
 .obtain ⟨o',e3⟩:=I.base.there b o e (by simp [lQ]);exact F'.old b o' e3 (hfr b o e hb)
end
abbrev SH:List ai:=[.type "ValueError",.type "Exception",.type "BaseException",.type "object"]
def NsQ (K:aa) (N:ah):Prop:=Y9 K N=true/\∀ n∈TX,bJ K N n=some none
theorem nsq {N:ah}{c:ai}{d:Option ah}{es:Array DictEntry}{ep:Nat}(h:dk N K=some ⟨c,d,.dict es ep,sl⟩)
  (ho:(es.toList.all λe=>match e.key with | .str _ _=>true|_=>false)=true) (h1:bJ K N "__init__"=some none) (h2:bJ K N "__getattribute__"=some none) (h3:bJ K N "__getattr__"=some none) (h4:bJ K N "args"=some none):NsQ K N:=by
 refine ⟨?_,λn hn=>?_⟩
 .unfold Y9;rw [h];simp only [← Array.all_toList];exact ho
 .unfold TX at hn;simp only [aq,cq,or_false] at hn
  rcases hn with rfl|rfl|rfl|rfl
  .exact h1
  .exact h2
  .exact h3
  .exact h4
def VA (K:aa) (C:ah):Prop:=∃ (N A:ah) (nm q:bq) (bs:List ai) (hdct:Bool) (sn:List bq) (sub:List ai) (ab:Bool) (col:Option Bool) (dd:Option ah) (k0 k1 k2 k3 k5:Option ai) (c0:ai) (dd':Option ah) (cd:ClassData) (sl:Array (Option ai)),
 dk C K=some (excClassObj nm q C N bs (.ref A::SH) hdct sn sub ab col dd k0 k1 k2 k3 k5 "ValueError.__new__")/\dk A K=some ⟨c0,dd',.cls cd,sl⟩/\NsQ K N/\NsQ K cd.ns
theorem exK {N A:ah}{nm:bq}{bs:List ai}{hdct:Bool}{sn:List bq}{sub:List ai}{ab:Bool}{col:Option Bool}{dd:Option ah}{k0 k1 k2 k3 k5:Option ai}{c0:ai}{dd':Option ah}{cd:ClassData}
  (h1:dk C K=some (excClassObj nm q C N bs (.ref A::SH) hdct sn sub ab col dd k0 k1 k2 k3 k5 "ValueError.__new__")) (h2:dk A K=some ⟨c0,dd',.cls cd,sl⟩) (h3:NsQ K N) (h4:NsQ K cd.ns):VA K C :=
 ⟨N,A,nm,q,bs,hdct,sn,sub,ab,col,dd,k0,k1,k2,k3,k5,c0,dd',cd,sl,h1,h2,h3,h4⟩
theorem QE (X:K.In h) (e:VA K C):∃ bm N nm q bs hdct sn sub ab col dd k0 k1 k2 k3 k5 mN,
  h.get? C=some (excClassObj nm q C N bs bm hdct sn sub ab col dd k0 k1 k2 k3 k5 "ValueError.__new__")/\h.Ns N mN/\(∀ n∈TX,mN n=none)/\OwnTailQ h SH bm:=by
 obtain ⟨N,A,nm,q,bs,hdct,sn,sub,ab,col,dd,k0,k1,k2,k3,k5,c0,dd',cd,sl,h1,h2,⟨n1,n2⟩,⟨m1,m2⟩⟩:=e;refine ⟨.ref A::SH,N,nm,q,bs,hdct,sn,sub,ab,col,dd,k0,k1,k2,k3,k5,h.nsMap N,X _ _ h1,Xu (TY X n1),λn hn=>Ls X n1 (n2 n hn),?_⟩;exact .own (X _ _ h2) (Xu (TY X m1)) (λn hn=>Ls X m1 (m2 n hn)) .base
structure Exc (K:aa) (mg:bq->Option ai) (x:bq) (C:ah):Prop where
 at_:mg x=some (.ref C)
 ex:VA K C
def yl (cls:ai) (E:XK):TS:=λ_ _ H=>E cls none H
def Mq (X:Cx) (E:XK):Prop:=∀ (pins:List (ah×iW)) (Z:St) (H:Hp) (s:ay) (h':cJ) (a:ah) (cls:ai) (args:List ai),Inv X pins Z H s->s.heap.MadeExcOf h' a cls args->E cls none H->X.xe (.ref a) { s with heap:=h' }
theorem uA {txt:bq}{cp:wV}(hc:X.calm=true) (hg:Gl X x) (ex:Exc X.K X.mg x C) (hx:Mq X E) (hd:(x == ("__debug__":bq))=false:=by decide) :
  PS X (.Raise (some (.Call (.Name x np) [.Constant (.str txt) k cp] [] cpos)) none pos) (yl (.ref C) E):=by
 intro pins s Z H D I h;obtain ⟨bm,N,nm,q,bs,hdct,sn,sub,ab,col,dd,k0,k1,k2,k3,k5,mN,o1,o2,o3,o4⟩:=QE I.mod.YS ex.ex;refine wpAny_Raise_call_subT (bmB:=SH) (nm:=nm) (q:=q) (C:=C) (N:=N) (bs:=bs) (hdct:=hdct) (sn:=sn) (sub:=sub) (ab:=ab) (col:=col) (dd:=dd) (k0:=k0) (k1:=k1) (k2:=k2) (k3:=k3) (k5:=k5) F.excBase_ValueError (o4.tail.hasType rfl) (I.ok.hd hc) rfl (o3 _ (by simp [TX])) ?_;refine vU I hg ex.at_ ⟨rfl,?_⟩ hd;refine TC ?_;refine ia ((show PA X [.Constant (.str txt) k cp] (aj (tC (.str txt)) aQ) from aK iB bU) cpos pins s Z H (λvs H'=>vs.length=1/\H'=H) I ⟨rfl,rfl⟩) λus s2 ⟨vs,H',I2,r,hl,eH⟩=>?_;subst eH;refine ⟨rfl,by rw [← r.length,hl];decide,I2.bk _ _ o1,o2.keeps I2.bk,o4.tail.keeps I2.bk,λh' e mk=>hx pins Z H' s2 h' e _ _ I2 mk h⟩
def PS.WJ {t:TS}(h:PS X.WJ st t):PS X st t:=λpins s Z H D I hw =>
 eJ (h pins s Z H D (I.Gs _) hw) (λ_ _ q=>q.sS) λ_ _ z=>c9 z
theorem wR.Rj (F:wR K x qual st f fd) (S:bC N ps (aR st)) (len:∀ vs H Q E,sp vs H Q E->vs.length=ps.length)
  (hbody:∀ (jo:ai) (A:dM) (outer:List xZ) (s:ay) (H:Hp) (vs:List V) (Q:VK) (E:XK),hZ k (A.deeper (lp qual (aR st) s.heap.objs.size f jo))->sp vs H Q E ->
   ∃ t,Ih (lQ (rV P w) P w K mg base N qual (aR st) f jo A outer s H E) (jO st) t/\t { nx:=λ_ H'=>Q .non H',rt:=Q } (start N vs) H):gN P w K mg base (rV P w) (k+1) f fd ps sp:=by
 obtain ⟨oc,od,kV,doc,pm,an,jo,ct,osl,rfl,lk,hcd⟩:=F.ex;exact UM lk hcd S len λA outer s H vs Q E hr hsp=>hbody jo A outer s H vs Q E hr hsp
def nU:Mq (lQ (rV P w) P w K mg base N qual scope f cd A outer s H E) E:=λ_ _ _ _ _ _ _ _ I mk q=>SG I mk q
def qf:ma (rV P w) (lQ (rV P w) P w K mg base N qual scope f cd A outer s H E) E:=Yr λ_ _ z=>z
def QF (a:ah) (cls:ai):HO:=.ext λh=>∃ o vs,h.get? a=some o/\o.cls=cls/\o.dict=none/\o.data=.fields vs
def abi {vs:Array ai}(e:h.get? a=some o) (c:o.cls=cls) (d:o.dict=none) (f:o.data=.fields vs):fv P w H h a (QF a cls) :=
 ⟨⟨o,vs,e,c,d,f⟩,⟨o,e⟩,λh1 h2 ⟨o',vs',e',r⟩ k=>⟨o',vs',k _ e',r⟩⟩
theorem SI {E:ai->ay->Prop}{v:V}(I:Inv X pins Z H s) (hN:X.N.Nodup) (hi:X.N[i]?=some x) (hk:X.env.scope.names.lookup x=some .local) (hv:Z[i]?=some (some v))
  (h:∀ s',Inv X pins (Z.set i none) H s'->Q () s'):aL M A (unbindName X.env x) Q E s:=by
 obtain ⟨m,hn,hl⟩:=id I.loc
 have hcls:(X.env.scope.kind == .class || (X.env.scope.kind == .module && X.env.locals != X.env.globals))=false:=by rw [I.ok.kind];rfl
 have hiσ:i<Z.length:=by rw [I.len];exact (av.mp hi).1
 have Ug:=I.Ug;obtain ⟨u0,_,l0⟩:=hl i x v hi hv (.inl hk)
 obtain ⟨_,hm⟩:X.env.kindOf x=some .local/\m x=some u0:=by
  rcases l0 with z|⟨z,_⟩
  .exact z
  .have hk':X.env.kindOf x=some .local:=hk
   rcases z with z|z<;>rw [hk'] at z<;>cases z
 refine wpAny_unbindName_local hk hn hm hcls (λh' u hn' hs=>?_);obtain ⟨oL,_,_,hoL,_⟩:=id hn;refine h _ ⟨I.ok,I.os,I.bare,⟨λb o e n hb hx=>?_,λb o e n hb hx=>?_,I.base.free,λb o e hx=>?_,I.base.wQ,I.base.vQ,I.base.vP⟩,⟨_,hn',λj y v' e1 e2 e3=>?_⟩,λy c e=>?_,I.free,I.mY,λp hp=>?_,λb ob e=>?_,by simpa using I.len⟩
 .exact (hs.2 b (aO (bc (aF e) I.ok.above))).trans (I.base.keep b o e n hb hx)
 .obtain ⟨sl,e1⟩:=I.base.slot b o e n hb hx;exact ⟨sl,(hs.2 b (aO (bc (aF e) I.ok.above))).trans e1⟩
 .obtain ⟨o',e1⟩:=I.base.there b o e hx;exact ⟨o',(hs.2 b (aO (bc (aF e) I.ok.above))).trans e1⟩
 .have hj:j≠i:=λz=>by
   subst z;rw [jT hiσ] at e2;cases e2
  rw [pe (Ne.symm hj)] at e2;obtain ⟨u',r',q⟩:=hl j y v' e1 e2 e3;refine ⟨u',r',?_⟩
  rcases q with ⟨k,e⟩|⟨k,c,e,z⟩
  .refine .inl ⟨k,?_⟩;have:y≠x:=λe=>hj (D0 hN e1 (e▸hi));simp [this,e]
  .exact .inr ⟨k,c,e,z.sameBut hs (Ug y c e)⟩
 .obtain ⟨w',z⟩:=I.cell y c e;exact ⟨w',z.sameBut hs (Ug y c e)⟩
 .obtain ⟨e,n,ne,nf,d⟩:=I.pin p hp;exact ⟨(hs.2 p.1 ne).trans e,n,ne,nf,d⟩
 .refine (I.eV b ob e).vO (λc w' hc q=>(hs.2 c ?_).trans q) (λ_ q=>q) λ_ _ q=>q;rintro rfl;have hf:=I.free
  rcases hc with rfl|hc
  .rw [hf] at e;cases e
  .rw [hf] at hc;cases hc
theorem IS {E:ai->ay->Prop}(I:Inv X pins Z H s) (hN:X.N.Nodup) (hi:X.N[i]?=some x) (hk:X.env.scope.names.lookup x=some .local)
  (h:∀ s',Inv X pins (Z.set i none) H s'->Q () s'):aL M A (do bindName X.env x .none;unbindBehindTheSuite X.env x pos) Q E s:=by
 have hiσ:i<Z.length:=by rw [I.len];exact (av.mp hi).1
 refine ae ?_;unfold bindName;refine ae (bY (wpAny_point ?_));refine ae ?_;refine uk I hN hi (.inl hk) (v:=.non) rfl (λs' I'=>wpAny_point ?_) (.inr hk);unfold unbindBehindTheSuite;refine wpAny_onRaise ?_;refine SI I' hN hi hk (v:=.non) (by rw [jT hiσ]) λs2 I2=>h s2 ?_;rw [List.set_set] at I2;exact I2
abbrev Cx.marked (X:Cx) (a:ah):Cx:={ X with A:=X.A.mark (some (.ref a)),calm:=false,xe:=λ_ _=>False }
theorem Inv.mark (I:Inv X pins Z H s) (a:ah):Inv (X.marked a) pins Z H s :=
 ⟨⟨I.ok.mod,I.ok.kind,I.ok.glob,I.ok.blt,I.ok.above,I.ok.inj,I.ok.has,I.ok.Xl,nofun,I.ok.frames,I.ok.YN,I.ok.Z7,I.ok.bs,I.ok.N0,I.ok.Ie,I.ok.Ij,I.ok.sT,I.ok.Re⟩,I.os,I.bare,I.base,I.loc,I.cell,I.free,I.mY,I.pin,I.eV,I.len⟩
def Inv.unmark (ok:X.Ok) (I:Inv (X.marked a) pins Z H s):Inv X pins Z H s:=⟨ok,I.os,I.bare,I.base,I.loc,I.cell,I.free,I.mY,I.pin,I.eV,I.len⟩
theorem Inv.adq {o:HO}(I:Inv X pins Z H s) (ha:H a=none) (h0:X.s₀.heap.get? a=none) (hL:a≠X.env.locals) (hc:∀ x c,X.env.cells.lookup x=some c->c≠a) (hp:∀ p∈X.pn++pins,p.1≠a) (ok:fv X.prog X.w (upd H a o) s.heap a o):Inv X pins Z (upd H a o) s:=by
 refine ⟨I.ok,I.os,I.bare,⟨λb ob e n hb hx=>I.base.keep b ob e n hb hx,I.base.slot,λb ob e n hx=>?_,I.base.there,λb xs e=>?_,λb ob u e=>?_,λb ps e=>?_⟩,I.loc,I.cell,?_,λx c e=>?_,λp hp'=>?_,λb ob e=>?_,I.len⟩
 .rw [aE (λz=>by rw [z,h0] at e;cases e)];exact I.base.free b ob e n hx
 .have:=I.base.wQ b xs e;rw [aE (aJ this ha)];exact this
 .have:=I.base.vQ b ob u e;rw [aE (aJ this ha)];exact this
 .obtain ⟨m,this⟩:=I.base.vP b ps e;exact ⟨m,by rw [aE (aJ this ha)];exact this⟩
 .rw [aE (Ne.symm hL)];exact I.free
 .rw [aE (hc x c e)];exact I.mY x c e
 .obtain ⟨e,n,r⟩:=I.pin p hp';exact ⟨e,by rw [aE (hp p hp')];exact n,r⟩
 .by_cases hb:b=a
  .subst hb;rw [aD] at e;cases e;exact ok
  .rw [aE hb] at e;refine (I.eV b ob e).vO (λc v _ q=>q) (λc q=>?_) λc xs q=>?_
   .rw [aE (aJ q ha)];exact q
   .rw [aE (aJ q ha)];exact q
section
variable {CT:ah}{xT n:bq}{epos hpos:wV}{th:TS}{b₀:dz} {Ro:List dz}
end
structure Lc (K:aa) (D:ah):Prop where
 ex:VA K D
 it:Iv K (.ref D) (.ref D)=some true
 ga:bh K (.ref D) "__getattribute__"=some (some (.builtin "BaseException.__getattribute__"))
 gt:bh K (.ref D) "__getattr__"=some none
 ha:bh K (.ref D) "__class__"=some (some (.builtin "object.__class__"))
 hn:j0 K (.builtin "object.__class__") "__get__"=some (some (.builtin "getset_descriptor.__get__"))
 htk:uf K (.builtin "object.__class__")=some true
 hm:Lg K D (.type "object")=some true
def Lc.cld (e:Lc K D):∃ cd,aak K D=some cd:=by
 have h:=e.it;unfold Iv at h;simp only at h
 split at h
 .rename_i hc
  rw [eG] at hc;exact rZ.mp hc.1
 .cases h
def Mr:Il (dI "ValueError") (fH "__getattr__")=pure none:=by
 unfold Il
 rfl
def Bd:ExcAttrBase "ValueError" SH:=⟨F.excAttr_ValueError,F.excBase_ValueError.mroIs,Mr,rfl⟩
theorem SJ {prog:bQ}{E:ai->ay->Prop}{Q:Option ai->ay->Prop}{x:ah}{ox:iW}(e:Lc K D) (X:K.In s.heap) (i:wX s.heap x ox D none)
  (q:Q (some (.ref D)) { s with toks:=s.toks+1 }):aL (aU prog w) A (getAttr? (.ref x) (fH "__class__")) Q E s:=by
 obtain ⟨cd,hcd⟩:=e.cld;obtain ⟨h,g,d,t,os⟩:=s;unfold getAttr?;refine ae (wpAny_mkText ?_);unfold getAttrBy?;refine ae (iq ?_);unfold getAttrBy;refine bY ?_;refine ae (i.type.at ?_);refine ae ((wY X e.ga).at ?_)
 show aL _ _ (if (NY (ax D) && j3 "BaseException.__getattribute__" == j3 "object.__getattribute__")=true then _ else _) _ _ _
 have hne:¬ (NY (ax D) && j3 "BaseException.__getattribute__" == j3 "object.__getattribute__")=true:=by
  have h1:(j3 "BaseException.__getattribute__" == j3 "object.__getattribute__")=false:=by decide
  rw [h1,LA];decide
 rw [if_neg hne];unfold getAttrByItsOwn;refine ae ?_;unfold hookBefore
 show aL _ _ (if NY (ax D)=true then _ else _) _ _ _
 rw [if_pos (show NY (ax D)=true from rfl)];refine (wY X e.gt).at ?_;refine ae (iq (bY ?_));unfold callGetattribute
 show aL _ _ (if (false && NY (j3 "BaseException.__getattribute__"))=true then _ else _) _ _ _
 rw [if_neg (by decide)];unfold boundAndCalled;rw [Bd.toExcAttrFacts.ga.bind];refine ae (au ?_)
 show aL _ _ (call (j3 "BaseException.__getattribute__") ([ax x]++[qx (fH "__class__") t])) _ _ _
 refine t7 (codeAny_call_builtin Bd.toExcAttrFacts.ga.plain F.entry_bexc_ga ?_);obtain ⟨bm,N,nm,q',bs,hdct,sn,sub,ab,col,dd,k0,k1,k2,k3,k5,mN,o1,o2,o3,o4⟩:=QE X e.ex;refine wpAny_check_ga_own Bd o1 o4 i.at_ i.cls ?_;unfold jV.«object.__getattribute__»;refine ae (au ?_);refine ae (au ?_);refine ae (i.type.at ?_)
 have hf:Xv K D none (fH "__class__")=some (RD (.builtin "getset_descriptor.__get__") (.builtin "object.__class__")):=by
  unfold Xv;simp [hcd,e.ha,e.hn,e.htk]
 refine ae ((PySem.W.looks_find X i hf).at ?_)
 show aL _ _ (yO (.builtin "getset_descriptor.__get__") (.builtin "object.__class__") (.ref x) (.ref D)) _ _ _
 unfold yO;refine ae (bY (t7 (PySem.W.class_get X i e.hm ?_)));refine au ?_;refine PySem.W.handed_on rfl ?_;exact au q
theorem Ms {x:ah}(e:Lc K D):PySem.W.KitX K (.ref x) (.ref D) λh=>∃ o vs,h.get? x=some o/\o.cls=.ref D/\o.dict=none/\o.data=.fields vs:=by
 have inst:∀ h:cJ,(∃ o vs,h.get? x=some o/\o.cls=.ref D/\o.dict=none/\o.data=.fields vs)->∃ o,wX h x o D none:=λh ⟨o,vs,e1,e2,e3,e4⟩ =>
  ⟨o,e1,e2,by unfold Za;rw [e4],by rw [e3];trivial⟩
 obtain ⟨cd,hcd⟩:=e.cld;refine ⟨λM h _ hh=>?_,λM h X _=>(PySem.W.kit_cls X e.it).2.1,λh tp dd its n sl X ht=>?_,λ{prog w A E Q s} X hh q=>?_⟩
 .obtain ⟨o,i⟩:=inst h hh;exact i.type
 .rw [beq_eq_false_iff_ne];intro z;cases z;unfold aak at hcd
  split at hcd
  .rename_i hl
   rw [X _ _ hl] at ht;cases ht
  .cases hcd
 .obtain ⟨o,i⟩:=inst s.heap hh;exact SJ e X i q
def uB (K:aa):List V->Hp->VK->Prop:=λxs H Q=>∃ (a D C:ah) (b:Bool),xs=[.ref a,.ref C]/\H a=some (QF a (.ref D))/\Lc K D/\bZ K (.ref D) (.ref C)=some b/\Q (.bl b) H
theorem lK:oI X (.builtin "isinstance") (uB X.K):=by
 intro pins s Z H xs us Q I r h;obtain ⟨a,D,C,b,rfl,ha,hD,e,q⟩:=h;obtain ⟨u,w',rfl,ru,rw'⟩:=vals2 r;cases (show u=ax a from ru);cases (show w'=ax C from rw');obtain ⟨hφ,_⟩:=I.eV a _ ha
 exact d0 (Ms hD) I.wO hφ e nofun λtk=>⟨.bl b,H,I.tok tk,rfl,q⟩
structure om (k:Nat) (A:dM):Prop where
 dp:A.depth+3*k+5<oV
 un:A.units+16*k+200<iM
def hZ.n (r:hZ k A):om k A:=⟨r.dp,r.un⟩
def om.mark (r:om k A) (v:Option ai):om k (A.mark v):=⟨r.dp,r.un⟩
def om.mono {j:Nat}(r:om k A) (h:j<=k):om j A:=⟨by have:=r.dp;lia,by have:=r.un;lia⟩
def om.deeper (r:om (k+1) A) (env:xZ):om k (A.deeper env) :=
 ⟨by have:=r.dp;show A.depth+1+3*k+5<_;lia,by have:=r.un;show A.units+3+16*k+200<_;lia⟩
def om.depth (r:om k A):A.depth<oV:=by have:=r.dp;lia
structure IT (P:bQ) (w:cU) (K:aa) (mg:bq->Option ai) (base:cJ) (k:Nat) (f:ah) (fd:fM) (ps:List bq) (sp:Sp):Prop where
 len:∀ vs H Q E,sp vs H Q E->vs.length=ps.length
 run:∀ (A:dM) (outer:List xZ) (s:ay) (H:Hp) (args:Args) (us:List ai) (vs:List V) (Q:VK) (E:XK),om k A->NH P w K mg base A outer s H->DT s fd args (ps.zip us)->Vals vs us->sp vs H Q E ->
  kD (aU P w) A (.call (.ref f) args) (CR vW outer P w H s Q E) s
def cxN (P:bQ) (w:cU) (K:aa) (mg:bq->Option ai) (base:cJ) (N:List bq) (qual:bq) (scope:tX) (f:ah) (cd:ai) (A:dM) (outer:List xZ) (s:ay) (H:Hp):Cx :=
 { lQ vW P w K mg base N qual scope f cd A outer s H E0 with calm:=false,xe:=λ_ _=>False }
theorem abj {name:bq}{params:tJ}{body:List dz}{dV doc jo:ai}{an od:Option ah}
  {osl:Array (Option ai)}{N ps:List bq}{sp:Sp}(lk:K.lookup f=some ⟨oc,od,.func (gU name qual params body scope dV kV doc pm an jo ct),osl⟩) (hcd:mR K jo qual=true) (S:bC N ps scope)
  (len:∀ vs H Q E,sp vs H Q E->vs.length=ps.length)
  (hbody:∀ (A:dM) (outer:List xZ) (s:ay) (H:Hp) (vs:List V) (Q:VK) (E:XK),om k (A.deeper (lp qual scope s.heap.objs.size f jo))->sp vs H Q E ->
   ∃ t,Ih (cxN P w K mg base N qual scope f jo A outer s H) body t/\t { nx:=λ_ H'=>Q .non H',rt:=Q } (start N vs) H) :
  IT P w K mg base (k+1) f (gU name qual params body scope dV kV doc pm an jo ct) ps sp:=by
 refine ⟨len,λA outer s H args us vs Q E hr e0 hb r hsp=>?_⟩;have hl:=len _ _ _ _ hsp;have KX:K.In s.heap:=e0.mod.YS.keeps λb o e=>(e0.bs b o e).1;have lim:s.heap.NoLimit:=e0.mod.nolimit.keeps λb o e=>(e0.bs b o e).1
 have hkind:∀ y∈ps.zip us,scope.names.lookup y.1=some .local\/(scope.names.lookup y.1=some .cell/\((Xo (s.heap.objs.size+1) scope.names []).lookup y.1).isSome=true):=λ⟨n,v⟩ hy=>by
  rcases S.par n (wZ hy).1 with q|q
  .exact .inl q
  .exact .inr ⟨q,t8 _ _ _ (.inl q)⟩
 refine aac hr.depth (KX _ _ lk) rfl S.co S.gen rfl (Tx KX hcd) (hb _ _ _ _ ?_);refine Tz S.kind hkind λenv he s1 x=>?_;subst he;refine ⟨lim.keeps x.toInCall.keep,codeAny_func ?_⟩;obtain ⟨t,ht,hq⟩:=hbody A outer s H vs Q E (hr.deeper _) hsp
 have I:Inv (cxN P w K mg base N qual scope f jo A outer s H) [] (start N vs) H s1:=by
  have J:Inv (lQ vW P w K mg base N qual scope f jo { A with handled:=none } outer s H E0) [] (start N vs) H s1:=IC S rfl ⟨e0.frames,e0.mod,e0.bs,e0.N0,e0.sT,e0.Re,e0.eV,e0.bare⟩ hl r x;exact ⟨⟨J.ok.mod,J.ok.kind,J.ok.glob,J.ok.blt,J.ok.above,J.ok.inj,J.ok.has,J.ok.Xl,nofun,Rt e0.frames,J.ok.YN,J.ok.Z7,J.ok.bs,J.ok.N0,J.ok.Ie,J.ok.Ij,J.ok.sT,J.ok.Re⟩,J.os,J.bare,J.base,J.loc,J.cell,J.free,J.mY,J.pin,J.eV,J.len⟩
 refine eJ (ht [] s1 (start N vs) H _ I hq) (λfl s' hs=>?_) λe s' hs=>c9 hs
 have fin:∀ {σ':St}{H':Hp}{v:V}{u:ai},Inv (cxN P w K mg base N qual scope f jo A outer s H) [] σ' H' s'->RelV v u->Q v H'->CE outer P w H s Q u s' :=
  λ{σ' H' v u} J rv q=>⟨v,H',J.os,J.bare,J.base,J.eV,rv,q⟩
 cases fl with
 | ret u =>
  obtain ⟨v,σ',H',J,rv,q⟩:=hs
  exact fin J rv q
 | next =>
  obtain ⟨σ',H',J,q⟩:=hs
  exact fin (v:=V.non) (u:=cu) J rfl q
 | brk =>
  obtain ⟨_,_,_,q⟩:=hs
  exact c9 q
 | cont =>
  obtain ⟨_,_,_,q⟩:=hs;exact c9 q
theorem wR.okN (F:wR K x qual st f fd) (S:bC N ps (aR st)) (len:∀ vs H Q E,sp vs H Q E->vs.length=ps.length)
  (hbody:∀ (jo:ai) (A:dM) (outer:List xZ) (s:ay) (H:Hp) (vs:List V) (Q:VK) (E:XK),om k (A.deeper (lp qual (aR st) s.heap.objs.size f jo))->sp vs H Q E ->
   ∃ t,Ih (cxN P w K mg base N qual (aR st) f jo A outer s H) (jO st) t/\t { nx:=λ_ H'=>Q .non H',rt:=Q } (start N vs) H):IT P w K mg base (k+1) f fd ps sp:=by
 obtain ⟨oc,od,kV,doc,pm,an,jo,ct,osl,rfl,lk,hcd⟩:=F.ex;exact abj lk hcd S len λA outer s H vs Q E hr hsp=>hbody jo A outer s H vs Q E hr hsp
theorem EN (F:IT X.prog X.w X.K X.mg X.base k f fd ps sp) (hr:om k X.A) (hg:Gl X x) (hm:X.mg x=some (.ref f)) (hk:dD X.K (.ref f)=true) (hb:Binds X.K fd ps [])
  (ha:PA X (e::es) t) (hdb:(x == ("__debug__":bq))=false:=by decide) (he:bK (e::es) X.env=(false,fQ e X.env)::bK es X.env:=by rfl) (hpl:(iJ pos (bK es X.env)).any (·.1)=false:=by rfl) :
  PE X (.Call (.Name x p) (e::es) [] pos) (bX sp [] E0 t):=by
 intro pins s Z H Q I h;refine fT (vU I hg hm ?_ hdb);refine lT (h₀:=X.base) I.ok.mod.YS hk (ia (ha pos pins s Z H _ I h) λus s1 ⟨vs,H1,I1,r,q⟩=>⟨I1.wO,?_⟩) he hpl;have r2:Vals (vs++[]) (us++[]):=r.append .nil
 have hl:(us++[]).length=ps.length:=by rw [← r2.length];exact F.len _ _ _ _ q
 refine t7 (kE (F.run X.A X.stack s1 H1 ⟨us,[]⟩ (us++[]) (vs++[]) Q E0 hr I1.abL (hb s1 us I1.wO hl) r2 q) λr s' hq=>?_)
 cases r with
 | error e=>exact c9 hq
 | ok fl =>
  cases fl with
  | ret u=>exact I1.after hq
  | next=>exact c9 hq
  | brk=>exact c9 hq
  | cont=>exact c9 hq
def DO {D:r9}(h:E cls none H):yl cls E D Z H:=h
def abk {b:Bool}{Q:VK}(ha:H a=some (QF a (.ref D))) (hD:Lc K D) (e:bZ K (.ref D) (.ref C)=some b) (k:Q (.bl b) H):uB K [.ref a,.ref C] H Q:=⟨a,D,C,b,rfl,ha,hD,e,k⟩
section
variable {Q:VK}
end
structure JZ (P:bQ) (w:cU) (K:aa) (mg:bq->Option ai) (base:cJ) (CX:Jz) (k:Nat) (x:bq) (ps:List bq) (sp:Sp) where
 f:ah
 d:fM
 G:gN P w K mg base CX k f d ps sp
 m:mg x=some (.ref f)
 kp:dD K (.ref f)=true
 b:Binds K d ps []
structure CalN (P:bQ) (w:cU) (K:aa) (mg:bq->Option ai) (base:cJ) (k:Nat) (x:bq) (ps:List bq) (sp:Sp) where
 f:ah
 d:fM
 G:IT P w K mg base k f d ps sp
 m:mg x=some (.ref f)
 kp:dD K (.ref f)=true
 b:Binds K d ps []
structure GP (P:bQ) (w:cU) (K:aa) (mg:bq->Option ai) (base:cJ) (CX:Jz) (k:Nat) (C:ah) (x:bq) (ps:List bq) (sp:Sp) where
 f:ah
 d:fM
 G:gN P w K mg base CX k f d ps sp
 m:XS K C x f
 b:Binds K d ps []
structure CalI (P:bQ) (w:cU) (K:aa) (mg:bq->Option ai) (base:cJ) (CX:Jz) (k:Nat) (C:ah) (ps:List bq) (sp:Sp) where
 f:ah
 d:fM
 G:gN P w K mg base CX k f d ps sp
 m:Mk K C f
 b:Binds K d ps []
structure rW (K:aa) (mg:bq->Option ai) (x:bq) (st:dz) (ps:List bq) where
 f:ah
 d:fM
 F:wR K x x st f d
 m:mg x=some (.ref f)
 bt:∀ (s:ay) (us:List ai),us.length=ps.length->DT s d ⟨us,[]⟩ (ps.zip us)
 b:Binds K d ps []
structure kB (K:aa) (C:ah) (x q:bq) (st:dz) (ps:List bq) where
 f:ah
 d:fM
 F:wR K x q st f d
 a:bh K (.ref C) x=some (some (.ref f))
 i:tZ K (.ref f)=true
 b:Binds K d ps []
def wy (X:K.In h) (G:h.Ns bw mg) {f:ah}{od an:Option ah}{sl:Array (Option ai)}{oc kV dc pm cd ct:ai}(a:bJ K bw x=some (some (.ref f)))
  (l:K.lookup f=some ⟨oc,od,.func (gU x x (qd st) (jO st) (aR st) .none kV dc pm an cd ct),sl⟩) (c:mR K cd x=true) (k:dD K (.ref f)=true)
  (hb:∀ (kV doc pm:ai) (an:Option ah) (jo ct:ai) (us:List ai),us.length=ps.length->Lh (gU x x (qd st) (jO st) (aR st) .none kV doc pm an jo ct) ⟨us,[]⟩=pure (ps.zip us)):rW K mg x st ps :=
 ⟨f,_,JF l c k,eh X G a,λs us hl=>.of_eq (hb kV dc pm an cd ct us hl),(JF l c k).binds hb⟩
def zh {od an:Option ah}{dc:ai}(a:bh K (.ref C) x=some (some (.ref f))) (i:tZ K (.ref f)=true)
  (l:K.lookup f=some ⟨oc,od,.func (gU x q (qd st) (jO st) (aR st) .none kV dc pm an cd ct),sl⟩) (c:mR K cd q=true) (k:dD K (.ref f)=true)
  (hb:∀ (kV doc pm:ai) (an:Option ah) (jo ct:ai) (us:List ai),us.length=ps.length->Lh (gU x q (qd st) (jO st) (aR st) .none kV doc pm an jo ct) ⟨us,[]⟩=pure (ps.zip us)):kB K C x q st ps :=
 ⟨f,_,JF l c k,a,i,(JF l c k).binds hb⟩
def rW.law {y:bq}{fa:ah}(D:rW K mg x st [y]) (h:mg x=some (.ref fa)):D.f=fa:=by
 have:=D.m.symm.trans h;cases this;rfl
section
variable {CX:Jz}{apos:wV}{o:Expr}{ta:TE}
theorem Gz (c:JZ X.prog X.w X.K X.mg X.base CX k x ps sp) (hr:hZ k X.A) (hg:Gl X x) (hx:ma CX X E) (ha:PA X (e::es) t) (hdb:(x == ("__debug__":bq))=false:=by decide) (he:bK (e::es) X.env=(false,fQ e X.env)::bK es X.env:=by rfl) (hpl:(iJ pos (bK es X.env)).any (·.1)=false:=by rfl) :
  PE X (.Call (.Name x p) (e::es) [] pos) (bX sp [] E t):=XU c.G hr hg c.m c.kp c.b .nil hx ha hdb he hpl
theorem SK (c:GP X.prog X.w X.K X.mg X.base CX k C x ps sp) (cl:GC X.K C) (hr:hZ k X.A) (he:PE X o ta) (hx:ma CX X E) (ha:PA X (e::es) t)
  (hst:bK (e::es) X.env=(false,fQ e X.env)::bK es X.env:=by rfl) (hpl:(iJ pos (bK es X.env)).any (·.1)=false:=by rfl)
  (ht:fQ (.Call (.Attribute o x apos) (e::es) [] pos) X.env=(do
   let ov ← fQ o X.env
   v8 apos.atName
   let (f,first) ← jU [ov] (yJ ov x pl)
   Tw pos f first (iJ pos (bK (e::es) X.env)) (DA pos (qQ [] X.env))):=by rfl) :
  PE X (.Call (.Attribute o x apos) (e::es) [] pos) (dP C x sp [] E ta t):=XX he cl c.m c.G hr c.b .nil hx ha hst hpl ht
theorem pcm0 (c:GP X.prog X.w X.K X.mg X.base CX k C x ps sp) (cl:GC X.K C) (hr:hZ k X.A) (he:PE X o ta) (hx:ma CX X E)
  (ht:fQ (.Call (.Attribute o x apos) [] [] pos) X.env=(do
   let ov ← fQ o X.env
   v8 apos.atName
   let (f,first) ← jU [ov] (yJ ov x pl)
   Tw pos f first (iJ pos (bK [] X.env)) (DA pos (qQ [] X.env))):=by rfl) :
  PE X (.Call (.Attribute o x apos) [] [] pos) (dP C x sp [] E ta aQ):=UK he cl c.m c.G hr c.b .nil hx ht
end
end L2
namespace L2
open PySem.W
variable {m:List Bool}{xs:List V}{ks:List Int}
def iI:List Int->List Int->Bool
 | [],[]=>false
 | [],_::_=>true
 | _::_,[]=>false
 | x::xs,y::ys=>if x=y then iI xs ys else decide (x<y)
theorem vY:∀ x:List Int,iI x x=false
 | []=>rfl
 | x::xs=>by unfold iI;rw [if_pos rfl];exact vY xs
theorem EO:∀ {x y:List Int},iI x y=false->iI y x=true\/x=y
 | [],[],_=>.inr rfl
 | [],_::_,h=>by unfold iI at h;cases h
 | _::_,[],_=>.inl (by unfold iI;rfl)
 | x::xs,y::ys,h=>by
  unfold iI at h ⊢
  by_cases e:x=y
  .subst e;rw [if_pos rfl] at h ⊢
   rcases EO h with q|q
   .exact .inl q
   .exact .inr (by rw [q])
  .rw [if_neg e] at h;rw [if_neg (Ne.symm e)];exact .inl (by have:=of_decide_eq_false h;exact decide_eq_true (by lia))
theorem ym:∀ {x y z:List Int},iI x y=true->iI y z=true->iI x z=true
 | [],[],_,h,_=>by unfold iI at h;cases h
 | [],_::_,[],_,h=>by unfold iI at h;cases h
 | [],_::_,_::_,_,_=>by unfold iI;rfl
 | _::_,[],_,h,_=>by unfold iI at h;cases h
 | _::_,_::_,[],_,h=>by unfold iI at h;cases h
 | x::xs,y::ys,z::zs,h,h'=>by
  unfold iI at h h' ⊢
  by_cases e:x=y
  .subst e;rw [if_pos rfl] at h
   by_cases e':x=z
   .rw [if_pos e'] at h' ⊢;exact ym h h'
   .rw [if_neg e'] at h' ⊢;exact h'
  .rw [if_neg e] at h;have h1:=of_decide_eq_true h
   by_cases e':y=z
   .subst e';rw [if_neg e];exact h
   .rw [if_neg e'] at h';have h2:=of_decide_eq_true h';rw [if_neg (by lia)];exact decide_eq_true (by lia)
def IU (ts:List (List Int)) (t:List Int):Int:=(ts.countP λu=>iI u t:Nat)
theorem ER {ts:List (List Int)}{t u:List Int}(ht:t∈ts):decide (IU ts t<IU ts u)=iI t u:=by
 unfold IU
 cases q:iI t u with
 | true =>
  have:=EA (l:=ts) (p:=λv=>iI v t) (q:=λv=>iI v u) (x:=t) (λy _ h=>ym h q) ht (vY t) q
  exact decide_eq_true (by lia)
 | false =>
  have:ts.countP (λv=>iI v u)<=ts.countP λv=>iI v t:=yd λv _ h=>by
   rcases EO q with e|e
   .exact ym h e
   .rw [e];exact h
  exact decide_eq_false (by lia)
inductive Flat:List Bool->List V->List Int->Prop
 | nil:Flat [] [] []
 | int (i:Int) {m:List Bool}{xs:List V}{ks:List Int}:Flat m xs ks->Flat (false::m) (.int i::xs) (i::ks)
 | bl (b:Bool) {m:List Bool}{xs:List V}{ks:List Int}:Flat m xs ks->Flat (true::m) (.bl b::xs) (b2i b::ks)
def Flat.length (h:Flat m xs ks):xs.length=m.length:=by
 induction h with
 | nil=>rfl
 | int _ _ ih=>simp [ih]
 | bl _ _ ih=>simp [ih]
section
variable {prog:bQ}{w:cU}{A:dM}{s:ay}{b:Bool}{Q:Bool->ay->Prop}
theorem VB (fx:Flat m xs ks):∀ {ys:List V}{ls:List Int}{us ws:List ai}{i:Nat},Flat m ys ls->Vals xs us->Vals ys ws->(b && i == 0)=false->Q (iI ks ls) s ->
  KatLex prog w A b false Q (us.zip ws) i s:=by
 induction fx with
 | nil =>
  intro ys ls us ws i fy rx ry hi q;cases fy;cases rx;cases ry;unfold iI at q
  exact kat_nil q
 | int a _ ih =>
  intro ys ls us ws i fy rx ry hi q
  cases fy with
  | int c fy =>
   cases rx with
   | cons r1 rx =>
    cases ry with
    | cons r2 ry =>
     obtain ⟨t,rfl⟩:=r1;obtain ⟨u,rfl⟩:=r2;rw [jW];refine yL (gC a t c u _ _ _ _ ?_);unfold iI at q
     by_cases e:a=c
     .rw [if_pos e] at q;rw [show (a == c)=true by simpa using e];exact AI (ih fy rx ry (by simp) q)
     .rw [if_neg e] at q;rw [show (a == c)=false by simpa using e];refine TJ ?_;rw [hi]
      exact kat_one _ _ (Rp q)
 | bl a _ ih =>
  intro ys ls us ws i fy rx ry hi q
  cases fy with
  | bl c fy =>
   cases rx with
   | cons r1 rx =>
    cases ry with
    | cons r2 ry =>
     cases r1;cases r2;rw [jW];refine yL (SeqAt.EqAt.bool_bool a c _ _ _ _ ?_);unfold iI at q
     by_cases e:a=c
     .rw [if_pos (by rw [e])] at q;rw [show (a == c)=true by simpa using e];exact AI (ih fy rx ry (by simp) q)
     .rw [if_neg (by cases a<;>cases c<;>first|exact absurd rfl e|decide)] at q;rw [show (a == c)=false by simpa using e];refine TJ ?_;rw [hi];exact kat_one _ _ (lt_bool q)
theorem Ys {x y:ah}{ys:List V}{ls:List Int}{us ws:List ai}{E:ai->ay->Prop}(fx:Flat (false::m) xs ks) (fy:Flat (false::m) ys ls) (rx:Vals xs us) (ry:Vals ys ws)
  (hx:nv s.heap x us.toArray) (hy:nv s.heap y ws.toArray) (h:Q (iI ks ls) s):aL (aU prog w) A (keyLt' (tuples' true) (.ref x) (.ref y)) Q E s:=by
 obtain ⟨ox,ex,cx,nx,dx⟩:=hx;obtain ⟨oy,ey,cy,ny,dy⟩:=hy
 have l1:us.length=ws.length:=by rw [← rx.length,← ry.length,fx.length,fy.length]
 refine kat_lt ex dx ey dy ?_;rw [show decide (us.toArray.size<ws.toArray.size)=false by simp [l1]]
 cases fx with
 | int a fx =>
  cases fy with
  | int c fy =>
   cases rx with
   | cons r1 rx =>
    cases ry with
    | cons r2 ry =>
     obtain ⟨t,rfl⟩:=r1;obtain ⟨u,rfl⟩:=r2
     show KatLex _ _ _ _ _ _ (List.zip (_::_) (_::_)) 0 s
     rw [jW];refine yL (gC a t c u _ _ _ _ ?_);unfold iI at h
     by_cases e:a=c
     .rw [if_pos e] at h;rw [show (a == c)=true by simpa using e];exact AI (VB fx fy rx ry (by simp) h)
     .rw [if_neg e] at h;rw [show (a == c)=false by simpa using e];exact TJ (oneLt_int h)
end
abbrev Zn:=List Int×ah
def mj (z:Zn):V:=.ref z.2
def abl (m:List Bool) (H:Hp) (z:Zn):Prop:=∃ xs,H z.2=some (.tup xs)/\Flat (false::m) xs z.1
def pD (K:aa):List V->Hp->VK->Prop:=λxs H Q=>∃ (p:ah) (zs:List Zn) (m:List Bool),xs=[.ref p]/\dh K H p (zs.map mj)/\(∀ z∈zs,abl m H z)/\zs.length<64 /\
 ∀ (l:ah) (zs':List Zn),H l=none->zs'.Perm zs->zs'.Pairwise (λz w=>iI w.1 z.1=false)->Q (.ref l) (upd H l (.lst (zs'.map mj)))
theorem ES:∀ {zs:List Zn}{us:List ai},Vals (zs.map mj) us->us=zs.map λz=>ax z.2
 | [],_,h=>by cases h;rfl
 | z::zs,_,h=>by
  cases h with
  | cons h1 h2=>cases h1;rw [ES h2];rfl
theorem sg:∀ zs:List Zn,Vals (zs.map mj) (zs.map λz=>ax z.2)
 | []=>.nil
 | _::zs=>.cons rfl (sg zs)
theorem QG {h:cJ}:∀ {zs:List Zn},(∀ z∈zs,∃ i t us,nv h z.2 (fc i t::us).toArray)->∃ fs,KatTups h (zs.map λz=>ax z.2) fs/\fs.length=zs.length/\∀ v∈fs,∃ i t,v=fc i t
 | [],_=>⟨[],.nil,rfl,λ_ h=>nomatch h⟩
 | z::zs,hz=>by
  obtain ⟨fs,k1,k2,k3⟩:=QG (zs:=zs) λz' h'=>hz z' (ag _ h');obtain ⟨i,t,us,o,e,c,n,d⟩:=hz z ar;refine ⟨.int i t::fs,NR e c d (by simp) k1,by simp [k2],λv hv=>?_⟩
  rcases aq.mp hv with rfl|hv
  .exact ⟨i,t,rfl⟩
  .exact k3 v hv
theorem zj {zs:List Zn}{d:Zn}{k:Nat->Int}{pr:Array Nat}(hk:∀ i,k i=IU (zs.map (·.1)) (zs.getD i d).1) (hp1:Sx.Pm zs.length pr) (hp2:Sx.Up k pr zs.length) :
  (pr.toList.map λi=>zs.getD i d).Perm zs/\(pr.toList.map λi=>zs.getD i d).Pairwise λz w=>iI w.1 z.1=false:=by
 have plt:∀ i∈pr.toList,i<zs.length:=λi hi=>by simpa using hp1.mem_iff.mp hi
 have mz:∀ i,i<zs.length->zs.getD i d∈zs:=λi hi=>by
  have:zs.getD i d=zs[i]:=by simp [hi]
  rw [this];exact di hi
 refine ⟨?_,?_⟩
 .have:=hp1.map λi=>zs.getD i d
  rwa [EB] at this
 .rw [r0];intro i j hi hj hij;rw [af] at hi hj;simp only [aai];have hsz:pr.size=zs.length:=hp1.size
  have hj':j<zs.length:=by rw [← hsz];simpa using hj
  have hle:=hp2.le (i8 hij) hj';unfold Sx.Ky at hle
  have gi:∀ i (h:i<pr.toList.length),pr.getD i 0=pr.toList[i]:=λi h=>by
   have h':i<pr.size:=by simpa using h
   simp [oA,h']
  rw [gi i hi,gi j hj,hk,hk] at hle
  cases w:iI (zs.getD pr.toList[j] d).1 (zs.getD pr.toList[i] d).1 with
  | false=>rfl
  | true =>
   rw [← ER (ts:=zs.map (·.1)) (aW (mz _ (plt _ (di hj)))),decide_eq_true_iff] at w;lia
section
variable {X:Cx}
theorem si:oI X (.builtin "sorted") (pD X.K):=by
 intro pins s Z H xs us Q I r h;obtain ⟨p,zs,mk,rfl,hq,hz,h64,q⟩:=h;obtain ⟨u,rfl,ru⟩:=vals1 r;cases ru;obtain ⟨its,rv,pl,hsz⟩:=I.list hq;have ei:=ES rv;subst ei
 have tup0:∀ z∈zs,∃ xs us,Flat (false::mk) xs z.1/\Vals xs us/\nv s.heap z.2 us.toArray:=λz hz'=>by
  obtain ⟨xs,h1,h2⟩:=hz z hz';obtain ⟨ts,r,it,_⟩:=I.tuple (.of h1);exact ⟨xs,ts,h2,r,it⟩
 by_cases h2:2<=zs.length
 .obtain ⟨m,F,N⟩:=I.vK;refine kat_sorted F N pl.isList (by rw [af];exact h2) (by rw [af];exact h64) λD e1 h' F' N' hD=>?_
  have kept:∀ b o,b≠X.env.locals->s.heap.get? b=some o->h'.get? b=some o:=λb o h1 e=>by
   cases w:X.base.get? b with
   | some u =>
    have z:=I.bk b u w;rw [e] at z;cases z
    exact F'.keep b _ w
   | none=>exact (N' (b,o) (ag _ (lI h1 w e))).1
  have tup:∀ z∈zs,∃ xs us,Flat (false::mk) xs z.1/\Vals xs us/\nv h' z.2 us.toArray:=λz hz'=>by
   obtain ⟨xs,us,f,r,o,e,rest⟩:=tup0 z hz';refine ⟨xs,us,f,r,o,kept _ o (λw=>?_) e,rest⟩;obtain ⟨_,e2,_⟩:=hz z hz';rw [w,I.free] at e2;cases e2
  obtain ⟨fs,k1,k2,k3⟩:=QG (zs:=zs) (h:=h') λz hz'=>by
   obtain ⟨xs,us,f,r,it⟩:=tup z hz';generalize z.1=kz at f
   cases f with
   | int i f =>
    cases r with
    | cons r1 r=>obtain ⟨t,rfl⟩:=r1;exact ⟨i,t,_,it⟩
  refine kat_kind (T:=.type "int") k1 (by lia) (λv hv=>?_) rfl ?_
  .obtain ⟨i,t,rfl⟩:=k3 v hv;exact Y3
  have et:(dI "int" != dI "tuple")=true:=by decide
  rw [et,af]
  have gz:∀ i,i<zs.length->(zs.map λz=>ax z.2).getD i cu=ax (zs.getD i ([],0)).2:=λi hi=>by simp [hi]
  have mz:∀ i,i<zs.length->zs.getD i ([],0)∈zs:=λi hi=>by
   have:zs.getD i ([],0)=zs[i]:=by simp [hi]
   rw [this];exact di hi
  refine Sx.Sat.ask (n:=zs.length) (k:=λi=>IU (zs.map (·.1)) (zs.getD i ([],0)).1) (λi j C hi hj hC=>?_) (λpr hp=>?_) (Sx.Ez (by lia))
  .unfold Ry;rw [gz i hi,gz j hj];obtain ⟨xs,us,f1,r1,i1⟩:=tup _ (mz i hi);obtain ⟨ys,ws,f2,r2,i2⟩:=tup _ (mz j hj);refine Ys (s:={ s with heap:=h' }) f1 f2 r1 r2 i1 i2 ?_;rw [ER (aW (mz i hi))] at hC;exact hC
  .obtain ⟨hperm,hsort⟩:=zj (d:=([],0)) (λi=>rfl) hp.1 hp.2
   have plt:∀ i∈pr.toList,i<zs.length:=λi hi=>by simpa using hp.1.mem_iff.mp hi
   have eo:(pr.toList.map λi=>(zs.map λz=>ax z.2).getD i cu)=(pr.toList.map λi=>zs.getD i ([],0)).map λz=>ax z.2:=by
    rw [bz];exact jl λi hi=>gz i (plt i hi)
   rw [eo];generalize (pr.toList.map λi=>zs.getD i ([],0))=zs' at hperm hsort;have hlen:zs'.length<=aX:=du (m:=64) (by rw [hperm.length_eq];lia);refine CU F' N' (uj λq hq=>aO (hD q hq)) λh'' c F'' N''=>?_;obtain ⟨hn,I2⟩:=I.vL (t':=s.toks) (o:=.lst (zs'.map mj)) F.ns F'' N'' hD ⟨by rw [af];exact hlen,_,c,sg zs',(N'' _ ar).1⟩;exact ⟨.ref D,_,I2,rfl,q D zs' hn hperm hsort⟩
 .have hs:(zs.map λz=>ax z.2).length<2:=by rw [af];lia
  refine JR pl.isList hs ?_;obtain ⟨e,he⟩:=sortedAll_at s.heap (zs.map λz=>ax z.2) (zs.map λz=>ax z.2).toArray;refine ⟨.ref (s.heap.objs.size+1),_,I.laid (t':=s.toks) (o:=.lst (zs.map mj)) (λb o e=>sortedAll_old e) (ij _) ⟨by rw [af];exact du (m:=64) (by lia),_,e,sg zs,by simpa [a9] using he⟩,rfl,q _ zs (I.eV.fresh (ij _)) (mJ _) ?_⟩
  match zs,h2 with
  | [],_=>exact .nil
  | [z],_=>exact mT _ _
  | z::w::r,h2=>simp at h2
end
end L2
namespace L2
open PySem.Calls
open PySem.W (kla_fn kla_obj tabObj CodeHd)
variable {prog:bQ}{w:cU}{A:dM}{s:ay}{params:tJ}{body:Expr}{scope:tX}{pos:wV}
theorem SL {E:ai->ay->Prop}{Q:ai->ay->Prop}{f c':ah}{qual x:bq}{clos:List (bq×ah)}{pm ctv v:ai}
  (hroom:A.depth<oV) (ho:s.heap.get? f=some (AH "<lambda>" qual params body scope clos pm c' ctv)) (hrec:s.heap.CodeRec (.ref c') qual) (hlim:s.heap.NoLimit)
  (hb:Lh (kla_fn "<lambda>" qual params body scope clos pm (.ref c') ctv) ⟨[v],[]⟩=pure [(x,v)])
  (hx:scope.names.lookup x=some .local) (hk:scope.kind=.function) (hco:scope.isCoroutine=false) (hgen:scope.isGenerator=false) (hcell:∀ z∈scope.names,z.2≠.cell)
  (h:∀ (env:xZ) (h₁:cJ) (tk:Nat) (E':ai->ay->Prop),env.scope=scope->env.cells=clos->s.heap.objs.size<=env.locals->h₁.Ns env.locals (λz=>dk z [(x,v)])->(∀ b o,s.heap.get? b=some o->h₁.get? b=some o) ->
   aL (aU prog w) (A.deeper env) (fQ body env) Q E' { s with heap:=h₁,toks:=tk }) :
  aL (aU prog w) A (call (.ref f) [v]) Q E s:=by
 refine t7 (PySem.W.kla_callFunE hroom ho rfl hco hgen rfl hrec ?_);rw [hb];refine au (wpAny_newFunctionEnv hcell (λz hz=>by rw [aC.mp hz];exact hx) (λh₁ hns hsb=>⟨hlim.fresh _ hsb,?_⟩) hk);have hk₁:∀ b o,s.heap.get? b=some o->h₁.get? b=some o:=λb o e=>hsb.extBut b o (aO (aF e)) (ao _ e);exact PySem.W.kla_codeExpr (h _ h₁ _ _ rfl rfl (aB _) hns hk₁)
section
variable {env:xZ}{h:cJ}{a b:Expr}{i j:Int}
end
section
variable {X:Cx}{c Pt:ah}{e:Expr}{tx:TA}{x y:bq}{j:Nat}{p0 lpos kpos:wV}{C:Int->Int->Int->Prop}{g:Int->Int->Int->Int}
end
end L2
namespace L2
open PySem.Calls PySem.W
variable {w:cU}{A:dM}{s:ay}{prog:bQ}{E:ai->ay->Prop}{h₀:cJ} {m:bq->Option ai}{news:List (ah×iW)}{H:Hp}{f:ai}{e1:Nat}{zs:List Zn}
theorem QH:∀ x y:List Int,iI x y=HT.lexLt x y
 | [],[]=>rfl
 | [],_::_=>rfl
 | _::_,[]=>rfl
 | x::xs,y::ys=>by unfold iI;rw [HT.Em,QH xs ys]
def zk (z:Zn) (t:Z9):iW:=a9 "tuple" #[.int (z.1.headD 0) t,.ref z.2] 0
section
variable {Q:Bool->ay->Prop}
theorem Yt {k1 k2 b1 b2:ah}{w1 w2 x1 y1 x2 y2:Int}{t1 t2 ta tb tc td:Z9}(hx:nv s.heap k1 #[.int w1 t1,.ref b1]) (hy:nv s.heap k2 #[.int w2 t2,.ref b2])
  (hb1:nv s.heap b1 #[.int x1 ta,.int y1 tb]) (hb2:nv s.heap b2 #[.int x2 tc,.int y2 td]) (hu:A.units<iM) (h:Q (iI [w1,x1,y1] [w2,x2,y2]) s):aL (aU prog w) A (keyLt' (tuples' true) (.ref k1) (.ref k2)) Q E s:=by
 obtain ⟨ox,ex,cx,nx,dx⟩:=hx;obtain ⟨oy,ey,cy,ny,dy⟩:=hy;refine kat_lt ex dx ey dy ?_;have ez:(#[fc w1 t1,ax b1].toList.zip #[fc w2 t2,ax b2].toList)=[(.int w1 t1,.int w2 t2),(.ref b1,.ref b2)]:=rfl;rw [ez];refine yL (gC w1 t1 w2 t2 _ _ _ _ ?_);unfold iI at h
 by_cases e:w1=w2
 .rw [if_pos e] at h;rw [show (w1 == w2)=true by simpa using e]
  by_cases eb:b1=b2
  .subst eb;refine AI (yL (SeqAt.EqAt.same _ _ _ _ _ (AI (kat_nil ?_))))
   have:x1=x2/\y1=y2:=by
    obtain ⟨o,e1,_,n,d1⟩:=hb1;obtain ⟨o',e2,_,n',d2⟩:=hb2;rw [e1] at e2;cases e2;rw [d1] at d2;simp at d2;exact ⟨d2.1.1.1,d2.1.2.1⟩
   rw [this.1,this.2,vY] at h;exact h
  .have rc:SeqAt.RcAt A s (.ref b1) (.ref b2) ((iS (min 2 2)).all (λj=>if j=0 then x1 == x2 else y1 == y2) && (2 == 2)):=SeqAt.RcAt.tuples (items:=#[.int x1 ta,.int y1 tb]) (items2:=#[.int x2 tc,.int y2 td]) hb1 hb2 hu λj h1 h2=>by
    match j,h1,h2 with
    | 0,_,_=>exact gC x1 ta x2 tc
    | 1,_,_=>exact gC y1 tb y2 td
    | j+2,h1,_=>exact absurd h1 (by simp)
   have er:((iS (min 2 2)).all (λj=>if j=0 then x1 == x2 else y1 == y2) && (2 == 2))=(x1 == x2 && y1 == y2):=by
    show ([0,1].all _ && true)=_
    simp
   rw [er] at rc;refine AI (yL (SeqAt.EqAt.of_refs eb rc _ _ _ _ ?_))
   by_cases c1:x1=x2/\y1=y2
   .rw [show (x1 == x2 && y1 == y2)=true by simp [c1]];refine AI (kat_nil ?_);rw [c1.1,c1.2,vY] at h;exact h
   .rw [show (x1 == x2 && y1 == y2)=false by
     cases q:(x1 == x2 && y1 == y2) with
     | false=>rfl
     | true=>simp at q;exact absurd q c1]
    refine TJ (kat_one _ _ (HT.Oo hb1 hb2 (.cons _ _ (.cons _ _ .nil)) (.cons _ _ (.cons _ _ .nil)) hu ?_));rw [QH] at h;exact h
 .rw [if_neg e] at h;rw [show (w1 == w2)=false by simpa using e];exact TJ (oneLt_int h)
end
section
variable {P:bQ}{env:xZ}{h:cJ}
theorem VC {x y:bq}{b d cl:ah}{wt:Int}{tk:Nat}{p1 p2 p3 p4 p5:wV}{x1} {Q:ai->ay->Prop}(eV:tI P w H h) (hk:env.scope.kind=.function) (hx:env.scope.names.lookup x=some .local) (hy:env.scope.names.lookup y=some .free) (hn:h.Ns env.locals (λz=>dk z [(x,ax b)]))
  (hcl:env.cells.lookup y=some cl) (hcv:h.IsCell cl (some (.ref d))) {NO:List (List gn×V)}{k:List gn}(hd:H d=some (.dT NO)) (hb:H b=some (.tup (k.map kV))) (hv:gH NO k=some (.int wt)) (hu:A.units+64<iM)
  (q:∀ t tk',Q (.ref h.objs.size) { s with heap:=h.push (a9 "tuple" #[.int wt t,.ref b] 0),toks:=tk' })
  (hdx:(x == ("__debug__":bq))=false:=by decide) (hdy:(y == ("__debug__":bq))=false:=by decide) (hdc:(y == ("__classdict__":bq))=false:=by decide) :
  aL (aU P w) A (fQ (.Tuple [.Subscript (.Name y p1) (.Name x p2) p3,.Name x p4] x1 p5) env) Q E { s with heap:=h,toks:=tk }:=by
 have lx:dk x [(x,ax b)]=some (ax b):=by rw [c6,beq_self_eq_true]
 refine wpAny_Tuple_spliced (mG (Im (AG (wpAny_loadName_free hk hy hcl (v:=.ref d) hcv ?_ hdc) hdy)));refine AG (qP hk hx hn (v:=.ref b) lx ?_) hdx;obtain ⟨z,hm,xs,rel,dd⟩:=IF eV (.inl hd);obtain ⟨w',hw,rw'⟩:=vM.some_of (v:=V.int wt) (o:=(Lj xs k).map (·.2)) (by rw [← hv];exact rel.val k);obtain ⟨t,rfl⟩:=rw';obtain ⟨p,hp,hp2⟩:=fZ.mp hw
 have ty:({ s with heap:=h,toks:=tk }:ay).TypeIs (.ref d) "dict":=by
  obtain ⟨o,es,ep,e1,e2,_⟩:=dd;exact ⟨o,e1,e2.1⟩
 refine TB ty Js.lookup (wpAny_getItem_heap (kF (by lia)) (uv eV hb) dd hp ?_) rfl;rw [hp2];refine mG (AG (qP hk hx hn (v:=.ref b) lx (rY ⟨?_,q t _⟩)) hdx);exact du (m:=2) (aB 2)
end
def QI (own:List (ah×iW)) (zs:List Zn) (ks:List ah):Prop:=Paired (λ(z:Zn) (k:ah)=>∃ t,(k,zk z t)∈own) zs ks
theorem BZ {α β:Type} {R:α->β->Prop}{a:α}{b:β}(r:R a b):∀ {xs:List α}{ys:List β},Paired R xs ys->Paired R (xs++[a]) (ys++[b])
 | _,_,.nil=>.cons r .nil
 | _,_,.cons h t=>.cons h (BZ r t)
theorem ET {α β:Type} {R:α->β->Prop}:∀ {xs:List α}{ys:List β},Paired R xs ys->ys.length=xs.length
 | _,_,.nil=>rfl
 | _,_,.cons _ t=>by simp [ET t]
theorem OF {α β:Type} {R:α->β->Prop}{xs:List α}{ys:List β}(p:Paired R xs ys):∀ (i:Nat) (a:α),xs[i]?=some a->∃ b,ys[i]?=some b/\R a b:=by
 induction p with
 | nil=>intro i a h;simp at h
 | cons r _ ih =>
  intro i a h
  cases i with
  | zero=>simp at h;subst h;exact ⟨_,rfl,r⟩
  | succ i=>simpa using ih i a (by simpa using h)
section
variable {L a kS:ah}{Fin:List ai->Nat->ay->Prop}
theorem Zz (turn:∀ z∈zs,∀ (h:cJ) (tk:Nat) (own:List (ah×iW)),Fr h₀ L h m->rQ h₀ L h (news++own)->∀ Q:ai->ay->Prop,
   (∀ h' tk' t k,(∀ b o,h.get? b=some o->h'.get? b=some o)->h.get? k=none->h'.get? k=some (zk z t)->Q (.ref k) { s with heap:=h',toks:=tk' })->aL (aU prog w) A (call f [.ref z.2]) Q (λ_ _=>False) { s with heap:=h,toks:=tk })
  (hak:a≠kS):∀ (r done:List Zn) (ks:List ah) (own:List (ah×iW)) (e:Nat) (h:cJ) (tk:Nat),Fr h₀ L h m->rQ h₀ L h ((kS,a9 "list" (ks.map ax).toArray e)::(a,a9 "list" #[] e1)::(own++news))->(∀ q∈own++news,q.1≠kS)->QI own done ks->(∀ z∈r,z∈zs) ->
   (∀ own' ks' e' h' tk',Fr h₀ L h' m->rQ h₀ L h' ((kS,a9 "list" (ks'.map ax).toArray e')::(a,a9 "list" #[] e1)::(own'++news))->(∀ q∈own'++news,q.1≠kS)->QI own' (done++r) ks'->Fin (ks'.map ax) e' { s with heap:=h',toks:=tk' }) ->
   KatKeys prog w A h₀ L m kS f Fin (r.map λz=>ax z.2) (ks.map ax) e { s with heap:=h,toks:=tk }
 | [],done,ks,own,e,h,tk,F,N,hk,rel,hr,fin=>KatKeys.nil (fin own ks e h tk F N hk (by rw [mH];exact rel))
 | z::r,done,ks,own,e,h,tk,F,N,hk,rel,hr,fin=>by
  have nk:=N _ ar;refine KatKeys.cons (turn z (hr z ar) h tk ((kS,a9 "list" (ks.map ax).toArray e)::(a,a9 "list" #[] e1)::own) F (λp hp=>N p ?_) _ λh' tk' t k keep kn hkk=>?_)
  .rcases aT.mp hp with hp|hp
   .exact ag _ (ag _ (bx _ hp))
   .rcases aq.mp hp with hp|hp
    .exact hp▸ar
    .rcases aq.mp hp with hp|hp
     .exact hp▸ag _ ar
     .exact ag _ (ag _ (cz _ hp))
  have F':Fr h₀ L h' m:=F.kept keep;have N':=N.grown keep
  have kL:k≠L:=λq=>by
   obtain ⟨o,_,_,e,_⟩:=F.ns;rw [q,e] at kn;cases kn
  have k0:h₀.get? k=none:=by
   cases q:h₀.get? k with
   | none=>rfl
   | some o=>rw [F.keep k o q] at kn;cases kn
  have kk:k≠kS:=λq=>by rw [q,nk.1] at kn;cases kn
  have hk':∀ q∈(k,zk z t)::own++news,q.1≠kS:=λq hq=>by
   rcases aq.mp hq with rfl|hq
   .exact kk
   .exact hk q hq
  have N2:rQ h₀ L h' ((kS,a9 "list" (ks.map ax).toArray e)::(a,a9 "list" #[] e1)::((k,zk z t)::own++news)):=λp hp=>by
   rcases aq.mp hp with rfl|hp
   .exact N' _ ar
   .rcases aq.mp hp with rfl|hp
    .exact N' _ (ag _ ar)
    .rcases aq.mp hp with rfl|hp
     .exact ⟨hkk,kL,k0⟩
     .exact N' p (ag _ (ag _ hp))
  refine KatBack.intro F' N2 (uj λq hq=>?_) λh2 c F2 N3=>?_
  .rcases aq.mp hq with rfl|hq
   .exact hak
   .exact hk' q hq
  have em:ks.map ax++[ax k]=(ks++[k]).map ax:=by simp
  rw [em] at N3 ⊢
  exact Zz turn hak r (done++[z]) (ks++[k]) ((k,zk z t)::own) c h2 tk' F2 N3 hk' (BZ ⟨t,ar⟩ (Paired.Te rel λz' k' ⟨t',ht⟩=>⟨t',ag _ ht⟩))
   (λz' hz'=>hr z' (ag _ hz')) λown' ks' e' h3 tk3 F3 N4 hk3 rel3=>fin own' ks' e' h3 tk3 F3 N4 hk3 (by rw [eK] at rel3;exact rel3)
end
section
variable {L a kS:ah}{own:List (ah×iW)}{e:Nat}{ks:List ah}{Post:ay->Prop}
theorem OG (F:Fr h₀ L s.heap m) (N:rQ h₀ L s.heap ((kS,a9 "list" (ks.map ax).toArray e)::(a,a9 "list" #[] e1)::(own++news))) (hk:∀ q∈own++news,q.1≠kS) (hak:a≠kS) (hna:∀ q∈news,q.1≠a)
  (rel:QI own zs ks) (h2:2<=zs.length) (hu:A.units<iM) (tie:∀ z∈zs,∃ v x y t u,z.1=[v,x,y]/\nv s.heap z.2 #[.int x t,.int y u])
  (fin:∀ h' c (zs':List Zn),zs'.Perm zs->zs'.Pairwise (λz w=>iI w.1 z.1=false)->Fr h₀ L h' m->rQ h₀ L h' ((a,a9 "list" (zs'.map λz=>ax z.2).toArray c)::news)->Post { s with heap:=h' }) :
  aL (aU prog w) A (keyKind' (ks.map ax).toArray) (λκ s''=>(kas_sort (zs.map λz=>ax z.2).length).kasWp (Ry prog w A κ (TZ false (ks.map ax))) (λp s3=>KatFin h₀ L m kS a (ks.map ax) e e1 (TZ false (p.toList.map λi=>(TZ false (zs.map λz=>ax z.2)).getD i cu)) (λs4=>Post s4) s3) s'') (λ_ _=>False) s:=by
 have kl:=ET rel
 have at_:∀ (z:Zn) (k:ah) (t:Z9),(k,zk z t)∈own->nv s.heap k #[.int (z.1.headD 0) t,.ref z.2]:=λz k t hm=>by
  have:=(N _ (ag _ (ag _ (cz _ hm)))).1;exact ⟨_,this,rfl,0,rfl⟩
 have kt:∀ {zs:List Zn}{ks:List ah},QI own zs ks->∃ fs,KatTups s.heap (ks.map ax) fs/\fs.length=zs.length/\∀ v∈fs,∃ i t,v=fc i t:=by
  intro zs ks rel
  induction rel with
  | nil=>exact ⟨[],.nil,rfl,λ_ h=>nomatch h⟩
  | cons r _ ih =>
   obtain ⟨fs,f1,f2,f3⟩:=ih;obtain ⟨t,ht⟩:=r;obtain ⟨o,e,c,n,d⟩:=at_ _ _ t ht;refine ⟨.int _ t::fs,NR e c d (by rfl) f1,by simp [f2],λv hv=>?_⟩
   rcases aq.mp hv with rfl|hv
   .exact ⟨_,t,rfl⟩
   .exact f3 v hv
 obtain ⟨fs,f1,f2,f3⟩:=kt rel;refine kat_kind (T:=.type "int") f1 (by lia) (λv hv=>?_) rfl ?_
 .obtain ⟨i,t,rfl⟩:=f3 v hv;exact Y3
 have et:(dI "int" != dI "tuple")=true:=by decide
 rw [et,af]
 have rv:∀ {α:Type} (l:List α),TZ false l=l:=λl=>by unfold TZ;rw [if_neg (by simp)]
 simp only [rv]
 have gz:∀ i,i<zs.length->(zs.map λz=>ax z.2).getD i cu=ax (zs.getD i ([],0)).2:=λi hi=>by simp [hi]
 have mz:∀ i,i<zs.length->zs.getD i ([],0)∈zs:=λi hi=>by
  have:zs.getD i ([],0)=zs[i]:=by simp [hi]
  rw [this];exact di hi
 have gk:∀ i,i<zs.length->∃ k t,(ks.map ax).getD i cu=ax k/\nv s.heap k #[.int ((zs.getD i ([],0)).1.headD 0) t,.ref (zs.getD i ([],0)).2]:=λi hi=>by
  obtain ⟨k,hk1,t,ht⟩:=OF rel i _ (by rw [aw hi])
  have:zs.getD i ([],0)=zs[i]:=by simp [hi]
  rw [this];exact ⟨k,t,by simp [hk1],at_ _ _ _ ht⟩
 refine Sx.Sat.ask (n:=zs.length) (k:=λi=>IU (zs.map (·.1)) (zs.getD i ([],0)).1) (λi j C hi hj hC=>?_) (λpr hp=>?_) (Sx.Ez (by lia))
 .unfold Ry;obtain ⟨k1,t1,q1,i1⟩:=gk i hi;obtain ⟨k2,t2,q2,i2⟩:=gk j hj;rw [q1,q2]
  have hC':C (iI (zs.getD i ([],0)).1 (zs.getD j ([],0)).1) s:=by
   rw [ER (aW (mz i hi))] at hC;exact hC
  obtain ⟨v1,x1,y1,ta,tb,z1,b1⟩:=tie _ (mz i hi);obtain ⟨v2,x2,y2,tc,td,z2,b2⟩:=tie _ (mz j hj);rw [z1,z2] at hC';rw [z1] at i1;rw [z2] at i2;exact Yt i1 i2 b1 b2 hu hC'
 .obtain ⟨hperm,hsort⟩:=zj (d:=([],0)) (λi=>rfl) hp.1 hp.2
  have plt:∀ i∈pr.toList,i<zs.length:=λi hi=>by simpa using hp.1.mem_iff.mp hi
  have eo:(pr.toList.map λi=>(zs.map λz=>ax z.2).getD i cu)=(pr.toList.map λi=>zs.getD i ([],0)).map λz=>ax z.2:=by
   rw [bz];exact jl λi hi=>gz i (plt i hi)
  rw [eo];generalize (pr.toList.map λi=>zs.getD i ([],0))=zs' at hperm hsort;refine KatFin.intro F N (uj λq hq=>?_) λh' c F' N'=>?_
  .rcases aq.mp hq with rfl|hq
   .exact hak
   .exact hk q hq
  have N2:rQ h₀ L h' ((a,a9 "list" #[] e1)::news):=λp hp=>by
   rcases aq.mp hp with rfl|hp
   .exact N' _ (ag _ ar)
   .exact N' p (ag _ (ag _ (bx _ hp)))
  exact CU (s:={ s with heap:=h' }) F' N2 (uj λq hq=>hna q hq) λh'' c' F'' N''=>fin h'' c' zs' hperm hsort F'' N''
end
section
variable {L a:ah}{n:Nat}{vs:List ai}{P:PySem.Fin->ay->Prop}
theorem SM (F:Fr h₀ L s.heap m) (N:rQ h₀ L s.heap news) (ho:s.heap.get? a=some (a9 "list" vs.toArray n)) (haL:a≠L) (ha0:h₀.get? a=none) (hna:∀ p∈news,p.1≠a) (h1:vs.length<2)
  (turn:∀ v∈vs,∀ (h:cJ) (tk:Nat) (own:List (ah×iW)),Fr h₀ L h m->rQ h₀ L h (news++own)->∀ Q:ai->ay->Prop,
   (∀ h' tk' k,(∀ b o,h.get? b=some o->h'.get? b=some o)->Q k { s with heap:=h',toks:=tk' })->aL (aU prog w) A (call f [v]) Q (λ_ _=>False) { s with heap:=h,toks:=tk })
  (q:∀ h' tk c,Fr h₀ L h' m->rQ h₀ L h' ((a,a9 "list" vs.toArray c)::news)->P (.done (.ret .none)) { s with heap:=h',toks:=tk }):aL (aU prog w) A (ksk_tree a f false) P E s:=by
 have hz:vs.length<=aX:=du (m:=2) (by lia);have s1:=cP s.heap a (bB λ_=>(#[]:Array ai))
 obtain ⟨e1,g1⟩:∃ c,(s.heap.update a (bB λ_=>(#[]:Array ai))).get? a=some (a9 "list" #[] c):=⟨_,kP ho λ_=>#[]⟩
 have F1:Fr h₀ L (s.heap.update a (bB λ_=>(#[]:Array ai))) m:=ksk_fr F s1 haL ha0;have N1:=ksk_news N s1 hna;unfold ksk_tree;refine ae (sU ho rfl (ae (nz ho rfl (ae (DE g1 rfl (ae (ub (ae (kU (bY ?_) (bA _))) hz)))) (by rw [aN];exact hz) (bA _))));have k2:∀ b o,(s.heap.update a (bB λ_=>(#[]:Array ai))).get? b=some o->(((s.heap.update a (bB λ_=>(#[]:Array ai))).push (a9 "tuple" vs.toArray 0)).push (a9 "list" #[] 0)).get? b=some o:=λb o e=>ao _ (ao _ e);have gk:(((s.heap.update a (bB λ_=>(#[]:Array ai))).push (a9 "tuple" vs.toArray 0)).push (a9 "list" #[] 0)).get? ((s.heap.update a (bB λ_=>(#[]:Array ai))).push (a9 "tuple" vs.toArray 0)).objs.size=some (a9 "list" #[] 0):=aI _ rfl;have kfr:∀ b o,(s.heap.update a (bB λ_=>(#[]:Array ai))).get? b=some o->b≠((s.heap.update a (bB λ_=>(#[]:Array ai))).push (a9 "tuple" vs.toArray 0)).objs.size:=λb o e=>aO (aF (ao (a9 "tuple" vs.toArray 0) e))
 show aL (aU prog w) A (ksk_rest a f false vs.toArray _ (.ref ((s.heap.update a (bB λ_=>(#[]:Array ai))).push (a9 "tuple" vs.toArray 0)).objs.size)) _ _ { s with heap:=((s.heap.update a (bB λ_=>(#[]:Array ai))).push (a9 "tuple" vs.toArray 0)).push (a9 "list" #[] 0) }
 generalize ((s.heap.update a (bB λ_=>(#[]:Array ai))).push (a9 "tuple" vs.toArray 0)).objs.size=kS at gk kfr;generalize ((s.heap.update a (bB λ_=>(#[]:Array ai))).push (a9 "tuple" vs.toArray 0)).push (a9 "list" #[] 0)=h2 at k2 gk;have hak:a≠kS:=kfr a _ g1;have hnk:∀ p∈news,p.1≠kS:=λp hp=>kfr _ _ (N1 p hp).1
 have kL:kS≠L:=λz=>by
  obtain ⟨o,_,_,e,_⟩:=F1.ns;exact kfr _ _ e z.symm
 have k0:h₀.get? kS=none:=by
  cases z:h₀.get? kS with
  | none=>rfl
  | some o=>exact absurd rfl (kfr _ _ (F1.keep kS o z))
 have F2:=F1.kept k2
 have N2:rQ h₀ L h2 ((kS,a9 "list" #[] 0)::(a,a9 "list" #[] e1)::news):=λp hp=>by
  rcases aq.mp hp with rfl|hp
  .exact ⟨gk,kL,k0⟩
  .rcases aq.mp hp with rfl|hp
   .exact ⟨k2 _ _ g1,haL,ha0⟩
   .exact (N1.grown k2) p hp
 have end_:∀ (ks:List ai) (e:Nat) (h:cJ) (tk:Nat),ks.length=vs.length->Fr h₀ L h m->rQ h₀ L h ((kS,a9 "list" ks.toArray e)::(a,a9 "list" #[] e1)::news)->aL (aU prog w) A (ksk_end a false vs.toArray e1 (.ref kS) ks.toArray) P E { s with heap:=h,toks:=tk }:=by
  intro ks e h tk hl F3 N3
  have hn2:vs.toArray.size<2:=by rw [aN];exact h1
  unfold ksk_end;simp only [ck,if_false];rw [if_pos hn2,if_pos hn2];refine ae (au ?_);rw [GG];refine ae (au ?_);dsimp only;refine kat_tail (h₀:=h₀) (L:=L) (m:=m) (e:=e) (ks:=ks) (out:=vs) ?_ (by lia) (by lia) rfl ?_
  .show (ks.toArray.zip vs.toArray).map (·.2)=vs.toArray
   apply Gy.mp
   simp;exact GH (by lia)
  .have rv:TZ false vs=vs:=by unfold TZ;rw [if_neg (by simp)]
   rw [rv];refine KatFin.intro F3 N3 (uj λq hq=>?_) λh' c F' N'=>?_
   .rcases aq.mp hq with rfl|hq
    .exact hak
    .exact hnk q hq
   .exact CU (s:={ s with heap:=h',toks:=tk }) F' (λp hp=>N' p (ag _ hp)) (uj λq hq=>hna q hq) λh'' c' F'' N''=>q h'' tk c' F'' N''
 unfold ksk_rest;refine ae (uc ?_)
 match vs,h1,turn,end_ with
 | [],_,_,end_ =>
  refine ae ?_;simp only [Xw,yT]
  refine au (ae (sU gk rfl (end_ [] 0 h2 _ rfl F2 N2)))
 | [v],_,turn,end_ =>
  refine ae ?_;simp only [Xw,xa,yT];refine ae (ae (iq (eJ (turn v ar h2 _ ((kS,a9 "list" #[] 0)::(a,a9 "list" #[] e1)::[]) F2 (λp hp=>N2 p ?_) _ λh3 tk3 k keep=>?_) (λ_ _ z=>z) λ_ _ z=>z.elim)))
  .rcases aT.mp hp with hp|hp
   .exact ag _ (ag _ hp)
   .rcases aq.mp hp with rfl|hp
    .exact ar
    .rw [aC.mp hp];exact ag _ ar
  have g3:=keep _ _ gk;have s3:=cP h3 kS (bB (·.push k))
  obtain ⟨c3,g4⟩:∃ c,(h3.update kS (bB (·.push k))).get? kS=some (a9 "list" (List.toArray [k]) c):=⟨_,kP g3 (·.push k)⟩
  dsimp only;refine ae (nz g3 rfl (au ?_) (bA _) (jH (bA _)));dsimp only;refine au (ae (sU g4 rfl (end_ [k] c3 _ tk3 rfl (ksk_fr (F2.kept keep) s3 kL k0) λp hp=>?_)))
  rcases aq.mp hp with rfl|hp
  .exact ⟨g4,kL,k0⟩
  .have:=(N2.grown keep) p (ag _ hp)
   exact ⟨(s3.2 p.1 (by
    rcases aq.mp hp with rfl|hp
    .exact hak
    .exact hnk p hp)).trans this.1,this.2⟩
 | _::_::_,h,_,_=>exact absurd h (by simp)
end
theorem Mt {NO:List (List gn×V)}{g:Int->Int->Int}:∀ {kvs:List (List gn×V)}{xs:List (List gn×ah×ai)},Paired (λ(p:List gn×V) (q:List gn×ah×ai)=>p.1=q.1/\H q.2.1=some (.tup (p.1.map kV))/\RelV p.2 q.2.2) kvs xs ->
  (∀ p∈kvs,∃ x y:Int,p.1=[bp x,bp y]/\gH NO p.1=some (.int (g x y)))->∃ zs:List Zn,xs.map (λq=>ax q.2.1)=(zs.map λz=>ax z.2)/\(∀ z∈zs,∃ x y,z.1=[g x y,x,y]/\H z.2=some (.tup [.int x,.int y])/\gH NO [bp x,bp y]=some (.int (g x y))) /\
   kvs.map (·.1)=zs.map λz=>([bp (z.1.getD 1 0),bp (z.1.getD 2 0)]:List gn)
 | _,_,.nil,_=>⟨[],rfl,(λz hz=>nomatch hz),rfl⟩
 | _,_,.cons (a:=p) (b:=q) r t,hp=>by
  obtain ⟨zs,e1,e2,e3⟩:=Mt t λp' hp'=>hp p' (ag _ hp');obtain ⟨x,y,exy,ew⟩:=hp _ ar;refine ⟨([g x y,x,y],q.2.1)::zs,by simp [e1],λz hz=>?_,by simp [exy,e3]⟩
  rcases aq.mp hz with rfl|hz
  .have:=r.2.1;rw [exy] at this;rw [exy] at ew;exact ⟨x,y,rfl,this,ew⟩
  .exact e2 z hz
section
variable {X:Cx}{c Pt:ah}{e:Expr}{tx:TA}{x y:bq}{j:Nat}{params:tJ}{scope:tX}{p0 p1 p2 p3 p4 p5 lpos kpos pos:wV}{x1:Nat}
end
end L2
namespace L2
open PySem.Calls
def hZ.WH {k:Nat}{A:dM}(r:hZ k A):A.units+128<iM:=by have:=r.un;lia
structure VD (P:bQ) (w:cU) (K:aa) (mg:bq->Option ai) (base:cJ) (CX:Jz) (k:Nat) (B:ah) (x:bq) (ps:List bq) (sp:Sp) where
 f:ah
 d:fM
 G:gN P w K mg base CX k f d ps sp
 mc:ai
 ga:j0 K (.ref B) "__getattribute__"=some (some (.builtin "type.__getattribute__"))
 rd:Xx K B mc=true
 at_:Xy K (.ref B) mc x=some (.val (.ref f))
 kp:dD K (.ref f)=true
 b:Binds K d ps []
section
variable {X:Cx}{CX:Jz}{k:Nat}{B:ah}{x:bq}{ps:List bq}{sp:Sp}{o e:Expr}{es:List Expr}{t:TA}{E:XK}{apos pos:wV}
theorem pcb {pl:N8 Bool}(c:VD X.prog X.w X.K X.mg X.base CX k B x ps sp) (hr:hZ k X.A) (he:PE X o (tC (.ref B))) (hx:ma CX X E) (ha:PA X (e::es) t)
  (hst:bK (e::es) X.env=(false,fQ e X.env)::bK es X.env:=by rfl) (hpl:(iJ pos (bK es X.env)).any (·.1)=false:=by rfl)
  (ht:fQ (.Call (.Attribute o x apos) (e::es) [] pos) X.env=(do
   let ov ← fQ o X.env
   v8 apos.atName
   let (f,first) ← jU [ov] (yJ ov x pl)
   Tw pos f first (iJ pos (bK (e::es) X.env)) (DA pos (qQ [] X.env))):=by rfl) :
  PE X (.Call (.Attribute o x apos) (e::es) [] pos) (bX sp [] E t):=by
 intro pins s Z H Q I h;refine vT (pl:=pl) (ia (he pins s Z H (λv H1=>v=.ref B/\H1=H) I ⟨rfl,rfl⟩) λu s1 ⟨xv,H1,I1,rx,ex,eH⟩=>?_) ht;subst ex eH;obtain rfl:u=ax B:=rx;refine PySem.W.method_cls I1.wO c.ga (PySem.W.cls_value I1.wO c.rd c.at_ rfl ?_);refine lT (first:=[]) (h₀:=X.base) I.ok.mod.YS c.kp (ia (ha pos pins _ Z H1 _ (I1.tok _) h) λus s2 ⟨vs,H2,I2,r,q2⟩=>⟨I2.wO,?_⟩) hst hpl;exact JA (us:=us) (vs:=vs) c.G hr c.b .nil hx I2 r q2
end
section
variable {X:Cx}{x:Expr}{t:TA}{p1 p2 q1 q2:wV}
end
end L2
namespace L2
open PySem.Calls
open PySem.W (tabObj CodeHd noTabs tabIn)
variable {Ps:List (ah×ah)}{x:bq}
theorem SN {P:bQ}{w:cU}{K:aa}{mg mb:bq->Option ai}{k:Nat}{fa a:ah}{fd:fM}{sp:Sp}{s₁:ay} {vs:List ai}{ns:List Int}
  (KX:K.In s₁.heap) (hns:s₁.heap.Ns bw mg) (hb:s₁.heap.Ns builtinsNs mb) (hbb:∀ x:bq,x≠"__name__"->mb x=dO x) (hlim:s₁.heap.NoLimit) (hg:s₁.gens=#[])
  (C:∀ p∈Ps,oX s₁.heap p.1 p.2) (hPt0:∀ p∈Ps,s₁.heap.get? p.2=some (NQ #[])) (Bm:∀ p∈Ps,s₁.heap.BuiltinsAt mg p.2) (hnt:noTabs K=true)
  (ha:s₁.heap.get? a=some { cls:=.type "list",data:=.seq vs.toArray }) (hi:gP vs ns) (hl:ns.length<=aX) (hr:hZ k Lk)
  (F:∀ base:cJ,K.In base->base.Ns bw mg->(∀ p∈Ps,oX base p.1 p.2/\base.BuiltinsAt mg p.2)->gN P w K mg base vW k fa fd [x] sp) (hbind:∀ (s:ay) (u:ai),DT s fd ⟨[u],[]⟩ [(x,u)])
  (hsp:∀ H:Hp,(∀ p∈Ps,H p.2=some (.tbl #[]))->dh K H a (ns.map V.int)->sp [.ref a] H (λv _=>v=.bl true) λ_ _ _=>False)
  (hCX:∀ H e s',vW [] H s₁ (λ_ _ _=>False) e s'->False) :
  kD (aU P w) Lk (.call (.ref fa) ⟨[.ref a],[]⟩) (λr s'=>r=.ok (.ret (.bool true))/\OldK s₁.heap s'.heap/\s'.os=s₁.os/\v7 s'.gens) s₁:=by
 have rv:=A6 hi;have lenV:=hi.length
 have hPt:∀ b,b∈Ps.map (·.2)->s₁.heap.get? b=some (NQ #[]):=λb hb=>by
  obtain ⟨p,hp,rfl⟩:=bo.mp hb;exact hPt0 p hp
 have naP:a∉Ps.map (·.2):=λz=>by rw [hPt a z] at ha;cases ha
 have KPt:∀ b,b∈Ps.map (·.2)->K.lookup b=none:=λb hb=>by
  cases q:K.lookup b with
  | none=>rfl
  | some o =>
   have e:=KX b o q;rw [hPt b hb] at e;cases e;have h2:=aad.mp hnt (b,NQ #[]) (PySem.W.mem_of_lookupK q);exact absurd (show false=true from h2) bI
 have core:∀ H:Hp,(∀ b,b∈Ps.map (·.2)->H b=some (.tbl #[]))->(∀ b,b∉Ps.map (·.2)->H b=none\/∃ o xs,H b=some (.frz o (.lst xs)))->dh K H a (ns.map V.int)->tI P w H s₁.heap->(∀ b,b∉Ps.map (·.2)->H b≠none->b=a)->(H a≠none->K.lookup a=none) ->
   kD (aU P w) Lk (.call (.ref fa) ⟨[.ref a],[]⟩) (λr s'=>r=.ok (.ret (.bool true))/\OldK s₁.heap s'.heap/\s'.os=s₁.os/\v7 s'.gens) s₁:=by
  intro H hT hO hS eV hA hK;have base_of:∀ {b:ah}{o:iW},s₁.heap.get? b=some o->H b=none->(DY s₁.heap H).get? b=some o:=λe n=>Ur e n
  have noA:∀ {b:ah}{o:iW},s₁.heap.get? b=some o->o.cls≠.type "list"->b∉Ps.map (·.2)->H b=none:=λ{b o} e d hbP=>by
   cases q:H b with
   | none=>rfl
   | some u =>
    have e':b=a:=hA b hbP (by rw [q];simp);subst e';rw [ha] at e;cases e;exact absurd rfl d
  have noD:∀ {b:ah}{o:iW}{es:Array DictEntry}{ep:Nat},s₁.heap.get? b=some o->o.data=.dict es ep->H b=none:=λ{b o es ep} e d=>by
   have hbP:b∉Ps.map (·.2):=λz=>by rw [hPt b z] at e;cases e;cases d
   cases q:H b with
   | none=>rfl
   | some u =>
    have e':b=a:=hA b hbP (by rw [q];simp);subst e';rw [ha] at e;cases e;have d':Data.seq vs.toArray _=Data.dict es ep:=d;cases d'
  have nsK:∀ {b:ah}{m:bq->Option ai},s₁.heap.Ns b m->(DY s₁.heap H).Ns b m:=λ{b m} ⟨o,es,ep,e,d,r⟩=>⟨o,es,ep,base_of e (noD e d),d,r⟩
  have hKb:K.In (DY s₁.heap H):=λb o e=>base_of (KX b o e) (by
   have hbP:b∉Ps.map (·.2):=λz=>by rw [KPt b z] at e;cases e
   cases q:H b with
   | none=>rfl
   | some u =>
    have e':b=a:=hA b hbP (by rw [q];simp);subst e'
    rw [hK (by rw [q];simp)] at e;cases e)
  have hM:Mod K mg (DY s₁.heap H):=⟨hKb,nsK hns,⟨mb,nsK hb,hbb⟩,let ⟨mc,h1,h2⟩:=hlim;⟨mc,nsK h1,h2⟩⟩
  have notab:∀ {b:ah}{o:iW},s₁.heap.get? b=some o->o.cls≠.none->b∉Ps.map (·.2):=λ{b o} e d z=>by rw [hPt b z] at e;cases e;exact d rfl
  have hCB:∀ p∈Ps,oX (DY s₁.heap H) p.1 p.2/\(DY s₁.heap H).BuiltinsAt mg p.2:=λp hp=>by
   refine ⟨?_,?_⟩
   .obtain ⟨o,vs',file,tf,flags,tg,inF,text,tt,e1,r1,r2,r3,r4,r5,r6,r7,r8,hne⟩:=C p hp;exact ⟨o,vs',file,tf,flags,tg,inF,text,tt,base_of e1 (noA e1 (by rw [r1];decide) (notab e1 (by rw [r1];decide))),r1,r2,r3,r4,r5,r6,r7,r8,hne⟩
   .obtain ⟨bm,o,b1,b2,b3,b4,b5,b6,b7⟩:=Bm p hp;exact ⟨bm,o,b1,b2,b3,b4,base_of b5 (noA b5 (by rw [b6];decide) (notab b5 (by rw [b6];decide))),b6,b7⟩
  have e0:NH P w K mg (DY s₁.heap H) Lk [] s₁ H:=⟨rfl,hM,λb o e=>Xz e,Gx (RI _ _),trivial,λb hb=>absurd (show b∈([]:List ah) from hb) (by simp),eV,.of_eq hg⟩
  refine kE ((F _ hKb (nsK hns) hCB).run Lk [] s₁ H ⟨[.ref a],[]⟩ [.ref a] [.ref a] _ _ hr e0 (hbind s₁ (.ref a)) (.cons rfl .nil) (hsp H (λp hp=>hT p.2 (aW hp)) hS)) λr s' h=>?_
  cases r with
  | error e=>exact (hCX H e s' h).elim
  | ok fl =>
   cases fl with
   | next=>exact c9 h
   | brk=>exact c9 h
   | cont=>exact c9 h
   | ret u =>
    obtain ⟨v,H',os,bare,un,hok',r',q⟩:=h;have q':v=.bl true:=q;subst q';obtain rfl:u=vS true:=r'
    have keep:∀ b o,b∉Ps.map (·.2)->s₁.heap.get? b=some o->s'.heap.get? b=some o:=λb o hbP e=>by
     cases q:H b with
     | none=>exact un.keep b o e q (by intro z;exact absurd (show b∈([]:List ah) from z) (by simp)) (by simp)
     | some u =>
      rcases hO b hbP with z|⟨ob,xs,z⟩
      .rw [q] at z;cases z
      .have z2:=un.vQ b ob _ z;obtain ⟨e1,_⟩:=eV b _ z;obtain ⟨e2,_⟩:=hok' b _ z2;rw [e] at e1;cases e1;exact e2
    have hmore:∀ b,b∈Ps.map (·.2)->∃ more,s'.heap.get? b=some (NQ (#[]++more)):=λb hb=>by
     obtain ⟨more,hm⟩:=un.vP b _ (hT b hb);exact ⟨more,hok' b _ hm⟩
    refine ⟨rfl,⟨λb o e=>?_,λb o e=>?_⟩,os,bare⟩
    .by_cases hbP:b∈Ps.map (·.2)
     .obtain ⟨more,hP'⟩:=hmore b hbP;obtain ⟨p,hp,rfl⟩:=bo.mp hbP;rw [hPt0 p hp] at e;cases e;exact .inr (.inl ⟨((C p hp).tab (hPt0 p hp)).isCodeTable,rfl,#[],more,rfl,hP'⟩)
     .exact .inl (keep b o hbP e)
    .by_cases hbP:b∈Ps.map (·.2)
     .obtain ⟨more,hP'⟩:=hmore b hbP;exact ⟨_,hP'⟩
     .exact ⟨o,keep b o hbP e⟩
 cases hk:K.lookup a with
 | some o =>
  have e:=KX a o hk;rw [ha] at e;cases e;refine core (λb=>if b∈Ps.map (·.2) then some (.tbl #[]) else none) (λb hb=>if_pos hb) (λb hb=>.inl (if_neg hb)) (.inr ⟨_,vs.toArray,_,hk,rfl,rfl,rfl,by rw [aN,lenV];exact hl,by simpa using rv⟩) (λb u z=>?_) (λb hb z=>absurd (if_neg hb) z) λz=>absurd (if_neg naP) z
  by_cases hb:b∈Ps.map (·.2)
  .have z':=(if_pos hb).symm.trans z;cases z';exact hPt b hb
  .have z':=(if_neg hb).symm.trans z
   cases z'
 | none =>
  refine core (λb=>if b∈Ps.map (·.2) then some (.tbl #[]) else if b=a then some (.frz { cls:=.type "list",data:=.seq vs.toArray } (.lst (ns.map V.int))) else none) (λb hb=>if_pos hb) (λb hb=>?_) (.inl (.inr ⟨{ cls:=.type "list",data:=.seq vs.toArray },(if_neg naP).trans (if_pos rfl)⟩)) (λb u z=>?_) (λb hb z=>?_) λ_=>hk
  .by_cases hba:b=a
   .exact .inr ⟨_,_,(if_neg hb).trans (if_pos hba)⟩
   .exact .inl ((if_neg hb).trans (if_neg hba))
  .by_cases hb:b∈Ps.map (·.2)
   .have z':=(if_pos hb).symm.trans z;cases z';exact hPt b hb
   .have z0:=(if_neg hb).symm.trans z
    by_cases hba:b=a
    .have z':=(if_pos hba).symm.trans z0;cases z';subst hba;exact ⟨ha,by rw [af];exact hl,vs,_,rv,ha⟩
    .have z':=(if_neg hba).symm.trans z0;cases z'
  .by_cases hba:b=a
   .exact hba
   .exact absurd ((if_neg hb).trans (if_neg hba)) z
theorem VE {l:tK}{n k:Nat}{q:bQ}{loose:List bq}{XP:(bq->Option ai)->cJ->Prop}{YP:cU->cJ->Prop}{d:DefRec}{K:Params->aa}{sp:cU->Sp}
  (hn:l.most=some n) (hn2:n<=aX) (hdf:d.params.defaults=[]) (hr:hZ k Lk)
  (hY:∀ (w:cU) (h:cJ),YP w h->(K w.params).In h)
  (htab:∀ p∈Ps,∃ (y:bq) (dy:DefRec),(recsOf q).find? (λe=>e.name == y)=some dy/\∀ w:cU,tabIn (K w.params) y=some p) (hnt:∀ w:cU,noTabs (K w.params)=true)
  (F:∀ (w:cU) (mg:bq->Option ai) (fa:ah) (h:cJ),(K w.params).In h->h.Ns bw mg->mg d.name=some (.ref fa) ->
   ∃ fd:fM,(∀ (s:ay) (u:ai),DT s fd ⟨[u],[]⟩ [(x,u)]) /\
    ∀ base:cJ,(K w.params).In base->base.Ns bw mg->(∀ p∈Ps,oX base p.1 p.2/\base.BuiltinsAt mg p.2)->gN l.prog w (K w.params) mg base vW k fa fd [x] (sp w))
  (hsp:∀ (w:cU) (H:Hp) (a:ah) (ns:List Int),ns.length<=n->(∀ p∈Ps,H p.2=some (.tbl #[]))->dh (K w.params) H a (ns.map V.int)->sp w [.ref a] H (λv _=>v=.bl true) λ_ _ _=>False)
  (hCX:∀ (H:Hp) (s:ay) (e:ai) (s':ay),vW [] H s (λ_ _ _=>False) e s'->False) :
  W8 q loose XP YP l.row.toRowW d [] (λf vs=>W9 f vs):=by
 refine Att.LX hn hdf λw s₀ s₁ mg mb fa o pm cd doc a vs ns G Y ho hd hcd hmg hobj hints hlen hg=>?_;have KX:=hY w _ Y;obtain ⟨fd,hb,hF⟩:=F w mg fa _ KX G.T.g hmg
 have hC:∀ p∈Ps,oX s₁.heap p.1 p.2/\s₁.heap.get? p.2=some (NQ #[]):=λp hp=>by
  obtain ⟨y,dy,h1,h2⟩:=htab p hp;exact PySem.W.tab_of G.T KX h1 (h2 w)
 have hgs:=G.T.g;obtain ⟨bm,ob,b1,b2,b3,b4,b5,b6⟩:=G.T.bmain
 have hbG:bm≠bw:=λq=>by
  obtain ⟨o,es,ep,e,hd,_⟩:=hgs;rw [q,e] at b3;cases b3;rw [hd] at b6;cases b6
 refine SN KX G.T.g G.T.b G.T.builtins G.T.nolimit hg (λp hp=>(hC p hp).1) (λp hp=>(hC p hp).2) (λp hp=>⟨bm,ob,b1,b2,hbG,λq=>?_,b3,b4,b5,b6⟩) (hnt w) hobj hints (bF hlen hn2) hr hF hb (λH hT hS=>hsp w H a ns hlen hT hS) λH e s'=>hCX H s₁ e s';have:=(hC p hp).2;rw [← q,b3] at this;cases this;cases b4
end L2
namespace L2
def QJ (K:aa):List V->Hp->VK->Prop:=λxs H Q=>∃ (p:ah) (ns:List Int),xs=[.ref p]/\dh K H p (ns.map V.int)/\Q (.int ns.sum) H
theorem Bg {X:Cx}(hc:X.calm=true):oI X (.builtin "sum") (QJ X.K):=by
 intro pins s Z H xs us Q I r h;obtain ⟨p,ns,rfl,hq,q⟩:=h;obtain ⟨u,rfl,ru⟩:=vals1 r;cases ru;obtain ⟨its,rv,pl,hz⟩:=I.list hq;have hi:gP its ns:=intsAre_of rv;obtain ⟨ys,e⟩:=hi.allInts.items;have hn:=hi.numsOf
 have e':its=(intItems ys).toList:=by rw [← e]
 rw [e',nums_intItems] at hn
 have hl:s.heap.IsList p (intItems ys):=by rw [← e];exact pl.isList
 subst hn
 refine sum_intListG (I.ok.hd hc) hl λh' tk t' hk=>⟨.int _,H,I.kept hk,⟨t',?_⟩,q⟩
 rw [preSum_eq,cg (by simp)]
end L2
namespace L2
open PySem.W
section
variable {X:Cx}{a:Expr}{ta:TE}
end
end L2
namespace L2
open PySem.Calls PySem.W
theorem Mu {prog:bQ}{w:cU}{A:dM}{E:ai->ay->Prop}{s:ay}{l:ah}{vs:List ai}{Q:List ai->ay->Prop}(hl:s.heap.IsList l vs.toArray) (hn:vs.length<=aX)
  (q:∀ h' tk,(∀ b o,s.heap.get? b=some o->h'.get? b=some o)->Q vs { s with heap:=h',toks:=tk }):aL (aU prog w) A (Rw (.ref l)) Q E s:=by
 refine collect_list hl (q _ _ λb o e=>?_) (by simpa using hn);have hlt:b<s.heap.objs.size:=aF e;rw [Heap.get?_update_ne _ _ _ _ (aO hlt),Heap.get?_push_ne _ _ _ (aO hlt)];exact e
section
variable {X:Cx}{c Pt:ah}{e:Expr}{tx:TA}{x y:bq}{j:Nat}{params:tJ}{scope:tX}{p0 p1 p2 p3 p4 p5 lpos kpos pos:wV}{x1:Nat}
end
end L2
namespace Sw
section
variable {prog:bQ}{w:cU}{A:dM}{E:ai->ay->Prop}{s:ay}
end
end Sw
namespace L2
open PySem.W
section
variable {X:Cx}{x:Expr}{t:TA}{p1 p2 q1 q2:wV}
end
end L2
namespace L2
variable {K:aa}{ta:TE}{Z:St}{H:Hp}{Q:VK}{C:ah}{sp:Sp}{x:bq}
def jv {f:bq}(h:ta Z H λx H1=>∃ a C dx fs v,x=.ref a/\H1 a=some (.ins C dx fs)/\GC K C/\eI K C f/\fs.lookup f=some v/\Q v H1):dw K ta f Z H Q:=h
def m6 {m:bq}{dvs:List V}{E:XK}{t:TA}(h:ta Z H λx H1=>∃ a dx fs,x=.ref a/\H1 a=some (.ins C dx fs)/\fs.lookup m=none/\t Z H1 λvs H2=>sp (x::(vs++dvs)) H2 Q E):dP C m sp dvs E ta t Z H Q:=h
section
variable {mg:bq->Option ai}{q:bq}{st:dz}{ps:List bq}{CX:Jz}{k:Nat}
def rW.jR (d:rW K mg x st ps) (P:bQ) (w:cU) (base:cJ) (h:gN P w K mg base CX k d.f d.d ps sp):JZ P w K mg base CX k x ps sp:=⟨d.f,d.d,h,d.m,d.F.kp,d.b⟩
def kB.jR (d:kB K C x q st ps) (P:bQ) (w:cU) (base:cJ) (h:gN P w K mg base CX k d.f d.d ps sp):GP P w K mg base CX k C x ps sp:=⟨d.f,d.d,h,⟨d.a,d.i,d.F.kp⟩,d.b⟩
def kB.WW (d:kB K C "__init__" q st ps) (P:bQ) (w:cU) (base:cJ) (mk:lO K C=true) (kc:dD K (.ref C)=true) (h:gN P w K mg base CX k d.f d.d ps sp):CalI P w K mg base CX k C ps sp:=⟨d.f,d.d,h,⟨mk,d.a,d.i,kc⟩,d.b⟩
theorem wR.oj {P:bQ}{w:cU}{base:cJ}{f:ah}{fd:fM}{N:List bq}{t:TS}(F:wR K x q st f fd) (S:bC N ps (aR st)) (len:∀ vs H Q E,sp vs H Q E->vs.length=ps.length) (run:∀ vs H Q E,sp vs H Q E->t { nx:=λ_ H'=>Q .non H',rt:=Q } (start N vs) H)
  (b:∀ (jo:ai) (A:dM) (outer:List xZ) (s:ay) (H:Hp) (E:XK),hZ k (A.deeper (lp q (aR st) s.heap.objs.size f jo))->Ih (lQ vW P w K mg base N q (aR st) f jo A outer s H E).WJ (jO st) t):gN P w K mg base vW (k+1) f fd ps sp :=
 F.ok S len λjo A outer s H vs Q E hr h=>⟨t,b jo A outer s H E hr,run vs H Q E h⟩
end
section
variable {X:Cx}{pos:wV}{i:Nat}
theorem j6 {e:Expr}{te:TE}{pos':wV}(hN:X.N.Nodup) (he:PE X e te) (hi:X.N[i]?=some x:=by rfl) (hx:Loc X.env.scope x:=by exact .inl rfl) (hs:DR e (some (.Name x pos')) pos.line X.env=pure false:=by rfl) (hf:X.fn x=true\/X.env.scope.names.lookup x=some .local:=by first|exact .inl rfl|exact .inr rfl|assumption):PS X (.Assign [.Name x pos'] e pos) (dC te (bj i)):=Uz hN hi hx he hs hf
theorem iC (hN:X.N.Nodup) (hi:X.N[i]?=some x:=by rfl) (hx:Loc X.env.scope x:=by exact .inl rfl) (hf:X.fn x=true\/X.env.scope.names.lookup x=some .local:=by first|exact .inl rfl|exact .inr rfl|assumption):PG X (.Name x pos) (bj i):=XD hN hi hx hf
end
end L2
namespace L2
open PySem.Calls PySem.W
def abm (K:aa):R2:=λx y H Q=>CY K x y H Q\/∃ (l b:ah) (xs ys:List V),x=.ref l/\y=.ref b/\H l=some (.lst xs)/\H b=some (.lst ys)/\xs.length≠ys.length/\Q (.bl true) H
theorem abn {X:Cx}(hu:X.A.units+64<iM):rX X (dG .NotEq) (abm X.K):=(Er hu).or (by
 intro pins s Z H x y v u Q I rx ry h;obtain ⟨l,b,xs,ys,rfl,rfl,h1,h2,hne,q⟩:=h;cases rx;cases ry;obtain ⟨its,n1,rp,op,zp⟩:=I.lst h1;obtain ⟨its2,n2,rp2,op2,zp2⟩:=I.lst h2;have e1:=rp.length;have e2:=rp2.length
 exact SeqAt.RcNeAt.lists_lengths ⟨_,op,rfl,_,rfl⟩ ⟨_,op2,rfl,_,rfl⟩ (by simp;lia) (by lia) _ _ _ _ ⟨.bl _,H,I,rfl,q⟩)
end L2
namespace L2
variable {pos np hpos:wV}{X:Cx}{ta:TE}{k:Nat}{K:aa}{e o:Expr}{f xT:bq}{es:List Expr}{mg:bq->Option ai}{ps:List bq}{P:bQ}{w:cU}{base:cJ}{fd:fM}{CT:ah}{tb:XK->TS}{th:TS}{b₀:dz}
def acX {tg l:Expr}{tl:TE}(hl:PE X l tl) (hK:X.K=K):PI X tg l (mP K tl):=hK▸lC hl
def acY {a:Expr}(ha:PE X a ta) (hK:X.K=K) (he:∀ whole,isTrue a X.env whole=(do let v ← whole;v8 a.pos;jU [v] (truthy v))):PT X a (lS K ta):=hK▸mi ha he
def acZ (he:PE X e ta) (hK:X.K=K) (hb:qy e f X.env (fQ e X.env)=fQ e X.env):PE X (.Attribute e f pos) (dw K ta f):=hK▸jK he hb
theorem ac0 {value:Expr}{pos':wV}{tv:TE}(ha:PE X o ta) (hv:PE X value tv) (hK:X.K=K) (hs:DR value (some (.Attribute o f pos')) pos.line X.env=pure false):PS X (.Assign [.Attribute o f pos'] value pos) (ph K ta tv f):=hK▸pj ha hv hs
def ac1 {n:Nat}{t:Xj}(hc:X.calm=true) (h:PGs X es t) (hK:X.K=K) (hn:(qb es X.env).length=n) (hst:(qb es X.env).findIdx? (·.1)=none):PG X (.Tuple es k pos) (yW K n t):=hK▸A2 hc h hn hst
theorem o_bm {to:TE}{t:TA}{name:bq}{apos cpos:wV}{T id:String}{r:V->List V->Hp->VK->Prop}(pa:PlainAttrs T) (slot:Slot T name id) (hty:typeOf (.builtin id)=pure (.type "method_descriptor")) (hm:MtR X id r) (ho:PE X o to) (ha:PA X (e::es) t) (hK:X.K=K)
  (hbase:qy o name X.env (fQ o X.env)=fQ o X.env)
  (hfew:((iJ cpos (bK (e::es) X.env)).all (λx=>!x.1) && (DA cpos (qQ [] X.env)).all (λx=>x.1.isSome)
   && decide ((e::es).length+([]:List YX).length+(if ([]:List YX).isEmpty then 0 else 1)<30))=true)
  (hline:(apos.endLine == cpos.line)=true) (hs:bK (e::es) X.env=(false,fQ e X.env)::bK es X.env) (hplain:(iJ cpos (bK es X.env)).any (·.1)=false) :
  PE X (.Call (.Attribute o name apos) (e::es) [] cpos) (AQ K T r to t):=hK▸kX pa slot hty hm ho ha hbase hfew hline hs hplain
theorem wR.lV {x q:bq}{st:dz}{sp:Sp}{f:ah}{N:List bq}{t:TS}(F:wR K x q st f fd) (S:bC N ps (aR st)) (run:∀ vs H Q E,sp vs H Q E->t { nx:=λ_ H'=>Q .non H',rt:=Q } (start N vs) H)
  (b:∀ {jo:ai}{A:dM}{outer:List xZ}{s:ay}{H:Hp}{E:XK},hZ k (A.deeper (lp q (aR st) s.heap.objs.size f jo))->N.Nodup->Ih (lQ vW P w K mg base N q (aR st) f jo A outer s H E).WJ (jO st) t)
  (len:∀ vs H Q E,sp vs H Q E->vs.length=ps.length:=by first|(intro vs H Q E h;cases h;subst_vars;rfl)|(intro vs H Q E h;repeat' (first|(obtain ⟨e,_⟩:=h;exact e▸rfl)|(obtain ⟨_,h⟩:=h)))):gN P w K mg base vW (k+1) f fd ps sp :=
 F.oj S len run λjo A outer s H E hr=>b hr S.nd
def XW (X:Cx) (pins:List (ah×iW)) (E:XK):ai->ay->Prop:=λe s'=>∃ Z H1 s1,Inv X pins Z H1 s1/\rV X.prog X.w X.stack H1 s1 E e s'
abbrev Cx.tr (X:Cx) (pins:List (ah×iW)) (E:XK):Cx:={ X with pn:=X.pn++pins,xe:=XW X pins E }
section
variable {pins pins':List (ah×iW)}{Z:St}{H:Hp}{s:ay}{E:XK}
def Cx.Ok.tr (ok:X.Ok):(X.tr pins E).Ok:=⟨ok.mod,ok.kind,ok.glob,ok.blt,ok.above,ok.inj,ok.has,ok.Xl,ok.hd,ok.frames,ok.YN,ok.Z7,ok.bs,ok.N0,ok.Ie,ok.Ij,ok.sT,ok.Re⟩
def Cx.Ok.PQ (ok:(X.tr pins E).Ok):X.Ok:=⟨ok.mod,ok.kind,ok.glob,ok.blt,ok.above,ok.inj,ok.has,ok.Xl,ok.hd,ok.frames,ok.YN,ok.Z7,ok.bs,ok.N0,ok.Ie,ok.Ij,ok.sT,ok.Re⟩
def Inv.tr (I:Inv X pins Z H s):Inv (X.tr pins E) [] Z H s:=⟨I.ok.tr,I.os,I.bare,I.base,I.loc,I.cell,I.free,I.mY,λp hp=>I.pin p (by rw [mH] at hp;exact hp),I.eV,I.len⟩
def Inv.PQ (I:Inv (X.tr pins E) pins' Z H s):Inv X pins Z H s:=⟨I.ok.PQ,I.os,I.bare,I.base,I.loc,I.cell,I.free,I.mY,λp hp=>I.pin p (cz _ hp),I.eV,I.len⟩
def Mv:ma (rV X.prog X.w) (X.tr pins E) E:=λ_ Z H s _ _ I h=>⟨Z,H,s,I.PQ,h⟩
end
section
variable {body Ro:List dz}
end
def J0 (s1 s2:Sp):Sp:=λvs H Q E=>s1 vs H Q E\/s2 vs H Q E
theorem gN.orx {CX:Jz}{j m:Nat}{f:ah}{s1 s2:Sp}(F1:gN P w K mg base vW j f fd ps s1) (F2:gN P w K mg base CX k f fd ps s2) (h1:j<=m) (h2:k<=m):gN P w K mg base CX m f fd ps (J0 s1 s2) :=
 ⟨λvs H Q E q=>q.elim (F1.len vs H Q E) (F2.len vs H Q E),λA outer s H args us vs Q E hr he hb hv q=>q.elim
  (λq=>kE (F1.run A outer s H args us vs Q E (hr.mono h1) he hb hv q) λr s' z=>by
   cases r with
   | ok fl=>cases fl<;>exact z
   | error e=>exact c9 z) (F2.run A outer s H args us vs Q E (hr.mono h2) he hb hv)⟩
def Mw (K:aa) (cT:ai) (i N:Nat) (tb:XK->TS) (th:TS):TS:=λD Z H=>∃ E:XK,tb E D Z H /\
 ∀ cls H2 (σ':St),E cls none H2->σ'.length=N->∃ Dc:ah,cls=.ref Dc/\xg K cls cT=some true/\∀ a,H2 a=none->th { nx:=λσ2 H'=>D.nx (σ2.set i none) H',rt:=D.rt } (σ'.set i (some (.ref a))) (upd H2 a (QF a cls))
section
variable {n:bq}{i:Nat}{body Ro:List dz}
theorem J1 (hb:∀ pins E,Ih (X.tr pins E) body (tb E)) (hex0:X.ex=[]) (hst:X.stack=X.env::X.outer/\X.env.frame=some X.env.locals) (hgT:Gl X xT) (hmT:X.mg xT=some (.ref CT)) (hN:X.N.Nodup) (hi:X.N[i]?=some n) (hn:X.env.scope.names.lookup n=some .local)
  (hth:∀ a,Ih (X.marked a) (b₀::Ro) th) (hdT:(xT == ("__debug__":bq))=false:=by decide) :
  PS X (.Try body [.ExceptHandler (some (.Name xT np)) (some n) (b₀::Ro) hpos] [] [] pos) (Mw X.K (.ref CT) i X.N.length tb th):=by
 rintro pins s Z H D I ⟨E,h,hE⟩;refine wpAny_Try_except ?_;refine eJ (hb pins E [] s Z H D I.tr h) (λf s1 q=>?_) λev s' q=>?_
 .cases f with
  | next=>obtain ⟨σ',H',I',q⟩:=q;exact rR ⟨σ',H',I'.PQ,q⟩
  | brk=>obtain ⟨σ',H',I',q⟩:=q;exact ⟨σ',H',I'.PQ,q⟩
  | cont=>obtain ⟨σ',H',I',q⟩:=q;exact ⟨σ',H',I'.PQ,q⟩
  | ret u=>obtain ⟨v,σ',H',I',r,q⟩:=q;exact ⟨v,σ',H',I'.PQ,r,q⟩
 .obtain ⟨σ1,H1,s1,I1,a,cls,a0,B,H2,rfl,os,bare,fl,Fl,qE⟩:=q;obtain ⟨Dc,rfl,hex,hh⟩:=hE cls H2 σ1 qE I1.len;have frm:=EM I1;have fl':=fl;rw [hst.1] at fl';have hfm:=I1.ok.frames;rw [hst.1] at hfm
  -- the exception is no thing of ours so far
  have na1:s1.heap.get? a=none:=by
   cases ea:s1.heap.get? a with
   | none=>rfl
   | some o =>
    by_cases hb:a∈vK X.stack
    .obtain ⟨hfree,o',eo',nd⟩:=frm a hb;rw [ea] at eo';cases eo';obtain ⟨sl,e1⟩:=Fl.un.slot a o ea hfree hb (by simp);obtain ⟨_,_,_,oe,vs',_,_,_,e2,_,e3,_⟩:=fl;rw [e1] at e2;cases e2;exact absurd e3 (nd vs')
    .obtain ⟨u,hu⟩:=Fl.old a o ea hb;rw [Fl.no] at hu;cases hu
  have na2:H2 a=none:=by
   cases ea:H2 a with
   | none=>rfl
   | some o=>obtain ⟨u,hu⟩:=Fl.has a o ea;rw [Fl.no] at hu;cases hu
  have na0:X.s₀.heap.get? a=none:=by
   cases ea:X.s₀.heap.get? a with
   | none=>rfl
   | some o =>
    obtain ⟨o',e1⟩:=I1.base.there a o ea (by rw [hex0];simp);rw [na1] at e1;cases e1
  refine ia (nS (Vz _ _) (wpAny_looks_onW (L:=X.env.locals) (outer:=X.outer) (Q:=λ_ s3=>B.HeldW (X.env::X.outer) a (.ref Dc) a0 X.env.locals s3.heap/\s'.heap.UpToSlots s3.heap/\s3.os=s'.os/\s3.gens=s'.gens) hfm hst.2 fl' λh' hd us=>⟨hd,us,rfl,rfl⟩)) λ_ s3 ⟨⟨hd3,us3,o3,g3⟩,kp3⟩=>?_;have F3:=Fl.step frm us3 hd3.1 kp3;refine ia (nS (EL _ _) (wpAny_landsW (Q:=λ_ s4=>B.FlyingW (X.env::X.outer) a (.ref Dc) a0 s4.heap/\s3.heap.UpToSlots s4.heap/\s4.os=s3.os/\s4.gens=s3.gens) hd3 λh' fl us=>⟨fl,us,rfl,rfl⟩)) λ_ s4 ⟨⟨fl4,us4,o4,g4⟩,kp4⟩=>?_;have F4:=F3.step frm us4 fl4.1 kp4;have I4:Inv X pins σ1 H2 s4:=I1.WR (ch:=[]) ((o4.trans o3).trans os) F4.un F4.eV (by rw [g4,g3];exact bare) (λb z=>absurd z (by simp));refine wpAny_handleBy_cons ?_ nofun;refine codeAny_handlers_test ?_;have I4m:=I4.mark a;refine vU I4m hgT hmT ?_ hdT;obtain ⟨oe4,vs4,T4,oT4,ts4,e4,⟨c4,_⟩,d4,_⟩:=fl4.2.2.2
  have dict4:oe4.dict=none:=by
   obtain ⟨o,e5,d5⟩:=F4.dict;rw [e4] at e5;cases e5;exact d5
  have inst4:wX s4.heap a oe4 Dc none:=⟨e4,c4,by unfold Za;rw [d4],by rw [dict4];trivial⟩
  refine PySem.W.exm_one (K:=X.K) I4.wO inst4.type hex _ _ _ s4 (λ_ _ z=>z) ?_;refine codeAny_handlers_suite_as ?_;refine ia (nS (EL _ _) (lands_againW (Q:=λ_ s5=>B.FlyingW (X.env::X.outer) a (.ref Dc) a0 s5.heap/\s4.heap.UpToSlots s5.heap/\s5.os=s4.os/\s5.gens=s4.gens) fl4 λh' fl us=>⟨fl,us,rfl,rfl⟩)) λ_ s5 ⟨⟨fl5,us5,o5,g5⟩,kp5⟩=>?_;have F5:=F4.step frm us5 fl5.1 kp5;have I5:Inv X pins σ1 H2 s5:=I1.WR (ch:=[]) (((o5.trans o4).trans o3).trans os) F5.un F5.eV (by rw [g5,g4,g3];exact bare) (λb z=>absurd z (by simp));obtain ⟨oe5,vs5,T5,oT5,ts5,e5,⟨c5,_⟩,d5,_⟩:=fl5.2.2.2
  have dict5:oe5.dict=none:=by
   obtain ⟨o,e6,d6⟩:=F5.dict;rw [e5] at e6;cases e6;exact d6
  have I6:Inv X pins σ1 (upd H2 a (QF a (.ref Dc))) s5:=by
   refine I5.adq na2 na0 (λz=>?_) (λy c hc z=>?_) (λp hp z=>?_) (abi e5 c5 dict5 d5)
   .obtain ⟨m,⟨o,_,_,ho,_⟩,_⟩:=I1.loc;rw [← z,na1] at ho;cases ho
   .obtain ⟨v,o,ho,_⟩:=I1.cell y c hc;rw [z,na1] at ho;cases ho
   .have:=(I1.pin p hp).1;rw [z,na1] at this;cases this
  refine uk I6 hN hi (.inl hn) (v:=.ref a) rfl (λs6 I7=>?_) (.inr hn);refine eJ (hth a pins s6 _ _ _ (I7.mark a) (hh a na2)) (λf s7 z=>?_) λ_ _ z=>c9 z
  cases f with
  | ret u =>
   obtain ⟨v,σ',H',I8,rv,q8⟩:=z
   exact IS (I8.unmark I1.ok) hN hi hn λs8 I9=>⟨v,_,H',I9,rv,q8⟩
  | next =>
   obtain ⟨σ',H',I8,q8⟩:=z
   exact IS (I8.unmark I1.ok) hN hi hn λs8 I9=>⟨_,H',I9,q8⟩
  | brk=>obtain ⟨_,_,_,z⟩:=z;exact c9 z
  | cont=>obtain ⟨_,_,_,z⟩:=z;exact c9 z
end
def ZA (K:aa):List V->Hp->VK->Prop:=λxs H Q=>∃ (a D:ah) (T:String) (b:Bool),xs=[.ref a,.ty T]/\H a=some (QF a (.ref D))/\Lc K D/\bZ K (.ref D) (.type T)=some b/\Q (.bl b) H
theorem SQ:oI X (.builtin "isinstance") (ZA X.K):=by
 intro pins s Z H xs us Q I r h;obtain ⟨a,D,T,b,rfl,ha,hD,e,q⟩:=h;obtain ⟨u,w',rfl,ru,rw'⟩:=vals2 r;cases (show u=ax a from ru);cases (show w'=dI T from rw');obtain ⟨hφ,_⟩:=I.eV a _ ha
 exact d0 (Ms hD) I.wO hφ e nofun λtk=>⟨.bl b,H,I.tok tk,rfl,q⟩
def abo:dO (fH "ValueError")=some (dI "ValueError"):=by rfl
end L2
namespace L2
open PySem
variable {P:List ai->Prop}
theorem m1 (h:∀ a,P [a]):∀ us:List ai,us.length=1->P us
 | [a],_=>h a
theorem m2 (h:∀ a b,P [a,b]):∀ us:List ai,us.length=2->P us
 | [a,b],_=>h a b
theorem m3 (h:∀ a b c,P [a,b,c]):∀ us:List ai,us.length=3->P us
 | [a,b,c],_=>h a b c
theorem m4 (h:∀ a b c d,P [a,b,c,d]):∀ us:List ai,us.length=4->P us
 | [a,b,c,d],_=>h a b c d
end L2
namespace L2
open PySem.Calls PySem.W
def OH (Pt:ah) (pos:wV) (qual:bq) (j:Nat) (tx:TA):TE:=λZ H Q=>tx Z H λv H1 =>
 ∃ (p d:ah) (NO:List (List gn×V)),v=[.ref p]/\Z[j]?=some (some (.ref d))/\H1 d=some (.dT NO)/\NI Pt pos qual H1 /\
  ((∃ zs:List Zn,H1 p=some (.lst (zs.map mj))/\(∀ z∈zs,∃ w x y:Int,z.1=[w,x,y]/\H1 z.2=some (.tup [.int x,.int y])/\gH NO [bp x,bp y]=some (.int w))/\zs.length<64 /\
   ∀ (l:ah) (zs':List Zn) (H2:Hp),H2 l=none->Ex Pt H1 H2->NI Pt pos qual H2->zs'.Perm zs->zs'.Pairwise (λz w=>iI w.1 z.1=false)->Q (.ref l) (upd H2 l (.lst (zs'.map mj)))) \/
  ∃ (kvs:List (List gn×V)) (g:Int->Int->Int),H1 p=some (.dT kvs)/\(∀ q∈kvs,∃ x y:Int,q.1=[bp x,bp y]/\gH NO q.1=some (.int (g x y)))/\kvs.length<64 /\
   ∀ (l:ah) (zs:List Zn) (H2:Hp),H2 l=none->Ex Pt H1 H2->NI Pt pos qual H2->(∀ z∈zs,∃ x y,z.1=[g x y,x,y]/\H2 z.2=some (.tup [.int x,.int y]))->(zs.map λz=>([bp (z.1.getD 1 0),bp (z.1.getD 2 0)]:List gn)).Perm (kvs.map (·.1)) ->
    zs.Pairwise (λz w=>iI w.1 z.1=false)->Q (.ref l) (upd H2 l (.lst (zs.map mj))))
section
variable {X:Cx}{c Pt:ah}{e:Expr}{tx:TA}{x y:bq}{j:Nat}{params:tJ}{scope:tX}{p0 p1 p2 p3 p4 p5 lpos kpos pos:wV}{x1:Nat}
theorem VF (hcalm:X.calm=true) (hcode:X.env.code=.ref c) (C0:oX X.base c Pt) (B:X.base.BuiltinsAt X.mg Pt) (hroom:X.A.depth<oV) (hun:X.A.units+128<iM)
  (hgl:Gl X "sorted") (hm:X.mg "sorted"=none) (hx:PA X [e] tx) (hN:X.N[j]?=some y) (hky:X.env.kindOf y=some .cell)
  (hs:iJ pos (bK [e] X.env)=(false,fQ e X.env)::iJ pos (bK [] X.env):=by rfl) (hpl:(iJ pos (bK [e] X.env)).any (·.1)=false:=by rfl)
  (hdef:defaultsOf params X.env=([],[]):=by rfl)
  (hbind:∀ clos pm jo ctv v,Lh (kla_fn "<lambda>" (X.env.qual++"<lambda>") params (.Tuple [.Subscript (.Name y p1) (.Name x p2) p3,.Name x p4] x1 p5) scope clos pm jo ctv) ⟨[v],[]⟩=pure [(x,v)]:=by intros;rfl)
  (hsx:scope.names.lookup x=some .local:=by rfl) (hsy:scope.names.lookup y=some .free:=by rfl) (hk:scope.kind=.function:=by rfl) (hco:scope.isCoroutine=false:=by rfl) (hgen:scope.isGenerator=false:=by rfl) (hcell:∀ z∈scope.names,z.2≠.cell:=by decide +kernel)
  (hfr:(scope.names.all λy=>y.2 != .free || X.env.kindOf y.1 == some .cell || X.env.kindOf y.1 == some .free)=true:=by rfl)
  (hdx:(x == ("__debug__":bq))=false:=by decide) (hdy:(y == ("__debug__":bq))=false:=by decide) (hdc:(y == ("__classdict__":bq))=false:=by decide) :
  PE X (.Call (.Name "sorted" p0) [e] [⟨some "key",.Lambda params (.Tuple [.Subscript (.Name y p1) (.Name x p2) p3,.Name x p4] x1 p5) scope lpos,kpos⟩] pos) (OH Pt lpos (X.env.qual++"<lambda>") j tx):=by
 intro pins s Z H Q I h;refine fT (sd I hgl hm (u:=.builtin "sorted") BootT.Et ?_);refine callWith_kw ?_ hs hpl;refine ia (hx pos pins s Z H _ I h) λus s1 ⟨vs,H1,I1,rv,q⟩=>?_;obtain ⟨p,d,NO,rfl,hj,hd,hT,q⟩:=q;obtain ⟨u,rfl,ru⟩:=vals1 rv;cases ru
 show aL _ X.A (evalAll [do let v ← fQ _ X.env;v8 pos;pure v]) _ _ s1
 refine wpAny_evalAll_cons (ae (U7 I1 hcode C0 B hdef (y4 I1 hfr) hT λf c' ctv h' tk H2 I2 hf hrec S2 T2 hk2=>ae (GD (au (wpAny_evalAll_nil ?_)))));obtain ⟨ps,hPt⟩:=hT.tbl;have hd2:=S2 d _ (λz=>by rw [z,hPt] at hd;cases hd) hd
 obtain ⟨zs,k2,h64,col,k⟩:∃ zs:List Zn,(∀ z∈zs,∃ w x y:Int,z.1=[w,x,y]/\H2 z.2=some (.tup [.int x,.int y])/\gH NO [bp x,bp y]=some (.int w))/\zs.length<64 /\
   (∀ {A:dM}{E:ai->ay->Prop}{R:List ai->ay->Prop},A.handled=none->(∀ h3 tk3,(∀ b o,h'.get? b=some o->h3.get? b=some o)->R (zs.map λz=>ax z.2) { s1 with heap:=h3,toks:=tk3 })->aL (aU X.prog X.w) A (Rw (.ref p)) R E { s1 with heap:=h',toks:=tk }) /\
   ∀ (l:ah) (zs':List Zn),H2 l=none->zs'.Perm zs->zs'.Pairwise (λz w=>iI w.1 z.1=false)->Q (.ref l) (upd H2 l (.lst (zs'.map mj))):=by
  rcases q with ⟨zs,hp,hkv,h64,k⟩|⟨kvs,g,hp,hkv,h64,k⟩
  .obtain ⟨its,n1,rp,op,zp⟩:=I2.lst (S2 p _ (λz=>by rw [z,hPt] at hp;cases hp) hp);have hits:=ES rp;subst hits;refine ⟨zs,λz hz=>?_,h64,λ_ q=>Mu (s:={ s1 with heap:=h',toks:=tk }) ⟨_,op,rfl,n1,rfl⟩ (du (m:=64) (by rw [af];lia)) q,λl zs' hl=>k l zs' H2 hl S2 T2⟩;obtain ⟨w,x,y,e1,e2,e3⟩:=hkv z hz;exact ⟨w,x,y,e1,S2 _ _ (λz=>by rw [z,hPt] at e2;cases e2) e2,e3⟩
  .obtain ⟨hz,lo,ys,rel,o,es,ep,e1,e2,e3,e4,e5⟩:=(show fv X.prog X.w H2 h' p (.dT kvs) from I2.eV p _ (S2 p _ (λz=>by rw [z,hPt] at hp;cases hp) hp))
   obtain ⟨zs,k1,k2,k3⟩:=Mt rel hkv
   have hlen:zs.length=kvs.length:=by have:=congrArg eW k3;simpa using this.symm
   have raw:AE h' p (zs.map λz=>ax z.2) ep:=⟨o,es,e1,e2,e3,by rw [e4,← k1,bz];rfl⟩
   refine ⟨zs,λz hz=>?_,by lia,λhA q=>ux (s:={ s1 with heap:=h',toks:=tk }) (JT lo) hA raw (du (m:=64) (by rw [af];lia)) λh3 tk3 acc keep3 hacc=>?_,λl zs' hl hperm hsort=>k l zs' H2 hl S2 T2 (λz hz=>?_) (by rw [k3];exact hperm.map _) hsort⟩
   .obtain ⟨xx,yy,ez,hzt,hzw⟩:=k2 z hz;exact ⟨_,xx,yy,ez,hzt,hzw⟩
   .rw [ze hacc];exact q h3 tk3 keep3
   .obtain ⟨xx,yy,ez,hzt,_⟩:=k2 z (hperm.mem_iff.mp hz);exact ⟨xx,yy,ez,hzt⟩
 have hh:X.A.handled=none:=I2.ok.hd hcalm;obtain ⟨m,F2,N2⟩:=I2.vK;obtain ⟨my,hny,hlk⟩:=I2.loc;obtain ⟨uy,ruy,lky⟩:=hlk j y (.ref d) hN hj (.inr (.inl hky));cases ruy
 obtain ⟨cl,hcl,hcv⟩:∃ cl,X.env.cells.lookup y=some cl/\h'.IsCell cl (some (.ref d)):=by
  rcases lky with ⟨z,_⟩|⟨_,cl,h1,h2⟩
  .rw [hky] at z;cases z
  .exact ⟨cl,h1,h2⟩
 have hclo:(qa X.env.cells scope.names []).lookup y=some cl:=by
  obtain ⟨d,hd⟩:=yZ (cells:=X.env.cells) (x:=y) scope.names [] (.inl (mem_of_lookup hsy));have hd':=(lJ _ _ (y4 I1 hfr) hd).resolve_right (by simp);rw [hcl] at hd';rw [hd,← hd']
 have kept:∀ (h:cJ) (own:List (ah×iW)),Fr X.base X.env.locals h m->rQ X.base X.env.locals h (lX X.base h' X.env.locals++own)->∀ b o,b≠X.env.locals->h'.get? b=some o->h.get? b=some o:=λh own F N b o h1 e=>by
  cases q:X.base.get? b with
  | some u =>
   have:=I2.bk b u q;rw [e] at this;cases this
   exact F.keep b _ q
  | none=>exact (N (b,o) (cz _ (lI h1 q e))).1
 have fL:f≠X.env.locals:=λz=>by
  obtain ⟨o,es,ep,e,d,_⟩:=F2.ns;rw [← z] at e;rw [e] at hf;cases hf;cases d
 have cL:c'≠X.env.locals:=λz=>by
  obtain ⟨c2,o2,vs2,t2,e2,h2,d2,_⟩:=hrec;cases e2;obtain ⟨o,es,ep,e,d,_⟩:=F2.ns;rw [← z] at e;rw [e] at h2;cases h2;rw [d] at d2;cases d2
 have clL:cl≠X.env.locals:=I2.Ug y cl hcl
 have un2:X.A.in1.in1.units+3+64<iM:=by show X.A.units+1+1+3+64<_;lia
 -- one key
 have turn:∀ z∈zs,∀ (h:cJ) (tk':Nat) (own:List (ah×iW)),Fr X.base X.env.locals h m->rQ X.base X.env.locals h (lX X.base h' X.env.locals++own)->∀ R:ai->ay->Prop,
   (∀ h3 tk3 t k,(∀ b o,h.get? b=some o->h3.get? b=some o)->h.get? k=none->h3.get? k=some (zk z t)->R (.ref k) { s1 with heap:=h3,toks:=tk3 })->aL (aU X.prog X.w) X.A.in1.in1 (call (.ref f) [.ref z.2]) R (λ_ _=>False) { s1 with heap:=h,toks:=tk' }:=by
  intro z hz h tk' own F N R hR;obtain ⟨ww,xx,yy,ez,hzt,hzw⟩:=k2 z hz;have kk:=kept h own F N;have J:Inv X pins Z H2 { s1 with heap:=h,toks:=tk' }:=I2.news (s:={ s1 with heap:=h',toks:=tk }) F2.ns F λp hp=>N p (cz _ hp);refine SL (s:={ s1 with heap:=h,toks:=tk' }) (by exact hroom) (kk f _ fL hf) ?_ (I2.mod.nolimit.keeps F.keep) (hbind _ _ _ _ _) hsx hk hco hgen hcell λenv h3 tk3 E' q1 q2 q3 hns hk3=>?_
  .obtain ⟨c2,o2,vs2,t2',e2,h2,d2⟩:=hrec;cases e2;exact ⟨c',o2,vs2,t2',rfl,kk _ _ cL h2,d2⟩
  .refine VC (s:={ s1 with heap:=h,toks:=tk' }) (H:=H2) (d:=d) (cl:=cl) (k:=[bp xx,bp yy]) (J.eV.kept hk3) (by rw [q1];exact hk) (by rw [q1];exact hsx) (by rw [q1];exact hsy) hns (by rw [q2];exact hclo) ?_ hd2 hzt hzw un2 (λt tk4=>?_) hdx hdy hdc
   .obtain ⟨o,e,d⟩:=hcv;exact ⟨o,hk3 _ _ (kk _ _ clL e),d⟩
   .refine hR _ tk4 t _ (λb o e=>ao _ (hk3 b o e)) ?_ ?_
    .cases q:h.get? h3.objs.size with
     | none=>rfl
     | some o=>exact absurd (aF (hk3 _ _ q)) (h8 _)
    .have:zk z t=a9 "tuple" #[.int ww t,.ref z.2] 0:=by unfold zk;rw [ez];rfl
     rw [this];exact aI _ rfl
 have hzl:(zs.map λz=>ax z.2).length<=aX:=du (m:=64) (by rw [af];lia)
 -- the call
 refine call_function_entry_kw DC AJ AK (ksk_s1 _ _) ?_;unfold jV.«sorted»;refine ae (m:=Iq "sorted" 1 1 _) (au (ae (col hh λh3 tk3 keep3=>?_)));refine ae (kU ?_ hzl);have F3:=F2.kept keep3;have N3:=N2.grown keep3;have hL:X.env.locals<h3.objs.size:=F3.ns.lt;have g4:(h3.push (a9 "list" (zs.map λz=>ax z.2).toArray 0)).get? h3.objs.size=some (a9 "list" (zs.map λz=>ax z.2).toArray 0):=aI _ rfl;have k4:∀ b o,h3.get? b=some o->(h3.push (a9 "list" (zs.map λz=>ax z.2).toArray 0)).get? b=some o:=λb o e=>ao _ e;have F4:=F3.kept k4;have N4:=N3.grown k4;have hD:∀ q∈lX X.base h' X.env.locals,q.1<h3.objs.size:=λq hq=>aF (N3 q hq).1;have hD0:X.base.get? h3.objs.size=none:=kR (bF F3.above (i8 hL))
 show aL (aU X.prog X.w) X.A.in1 (do let _ ← jU [ax h3.objs.size] (call (.builtin "list.sort") [ax h3.objs.size] _);ret (ax h3.objs.size)) _ _ { s1 with heap:=h3.push (a9 "list" (zs.map λz=>ax z.2).toArray 0),toks:=tk3 }
 refine ae (bY (wpAny_call_entry_kw ua ⟨_,g4,rfl⟩ rS ?_ (ksk_l1 _ _)))
 have tie:∀ (h:cJ),(∀ b o,b≠X.env.locals->h'.get? b=some o->h.get? b=some o)->∀ z∈zs,∃ v x y t u,z.1=[v,x,y]/\nv h z.2 #[.int x t,.int y u]:=λh hkp z hz=>by
  obtain ⟨ww,xx,yy,ez,hzt,hzw⟩:=k2 z hz;obtain ⟨ts,r,it,_⟩:=I2.tuple (.of hzt)
  cases r with
  | cons h1 r =>
   cases r with
   | cons h2 r =>
    cases r;obtain ⟨t,rfl⟩:=h1;obtain ⟨u,rfl⟩:=h2;obtain ⟨o,e,rest⟩:=it;refine ⟨ww,xx,yy,t,u,ez,o,hkp _ o (λw=>?_) e,rest⟩;rw [w,I2.free] at hzt;cases hzt
 have done:∀ (h'':cJ) (tk'' c'':Nat) (zs':List Zn),zs'.Perm zs->zs'.Pairwise (λz w=>iI w.1 z.1=false)->Fr X.base X.env.locals h'' m->rQ X.base X.env.locals h'' ((h3.objs.size,a9 "list" (zs'.map λz=>ax z.2).toArray c'')::lX X.base h' X.env.locals) ->
   EP X pins Z Q (.ref h3.objs.size) { s1 with heap:=h'',toks:=tk'' }:=λh'' tk'' c'' zs' hperm hsort F N=>by
  obtain ⟨hn,I3⟩:=I2.vL (t':=tk'') (o:=.lst (zs'.map mj)) F2.ns F N hD ⟨by rw [af];exact du (m:=64) (by rw [hperm.length_eq];lia),_,c'',sg zs',(N _ ar).1⟩;exact ⟨.ref h3.objs.size,_,I3,rfl,k h3.objs.size zs' hn hperm hsort⟩
 show aL (aU X.prog X.w) X.A.in1.in1 (jV.«list.sort» ⟨[.ref h3.objs.size],[(fH "key",.ref f)]⟩) _ _ _
 rw [ksk_t1]
 by_cases h2:2<=zs.length
 .refine kat_keyed (s:={ s1 with heap:=h3.push (a9 "list" (zs.map λz=>ax z.2).toArray 0),toks:=tk3 }) F4 N4 g4 (df hL) hD0 (λp hp=>aO (hD p hp)) (by rw [af];exact h2) (by rw [af];lia) λkS e1 h5 F5 N5 l0 l1=>?_;refine Zz (s:={ s1 with heap:=h3.push (a9 "list" (zs.map λz=>ax z.2).toArray 0),toks:=tk3 }) (zs:=zs) (λz hz h tk' own F N R hR=>turn z hz h tk' own F N R hR) (aO l0) zs [] [] [] 0 h5 tk3 F5 N5 (λq hq=>aO (l1 q hq)) .nil (λz hz=>hz) λown' ks' e' h6 tk6 F6 N6 hk6 rel6=>?_;refine OG (s:={ s1 with heap:=h6,toks:=tk6 }) F6 N6 hk6 (aO l0) (λq hq=>aO (hD q hq)) rel6 h2 (by lia) (tie h6 λb o hb e=>?_) λh7 c7 zs' hperm hsort F7 N7=>?_
  .refine kept h6 [] F6 (λp hp=>N6 p ?_) b o hb e;rw [mH] at hp;exact ag _ (ag _ (bx _ hp))
  .exact ⟨_,rfl,au ⟨_,rfl,done h7 tk6 c7 zs' hperm hsort F7 N7⟩⟩
 .refine SM (s:={ s1 with heap:=h3.push (a9 "list" (zs.map λz=>ax z.2).toArray 0),toks:=tk3 }) F4 N4 g4 (df hL) hD0 (λp hp=>aO (hD p hp)) (by rw [af];lia) (λv hv h tk' own F N R hR=>?_) λh7 tk7 c7 F7 N7=>?_
  .obtain ⟨z,hz,rfl⟩:=bo.mp hv;exact turn z hz h tk' own F N R λh3 tk3 t k keep _ _=>hR h3 tk3 (.ref k) keep
  .refine ⟨_,rfl,au ⟨_,rfl,done h7 tk7 c7 zs (mJ _) ?_ F7 N7⟩⟩
   match zs,h2 with
   | [],_=>exact .nil
   | [z],_=>exact mT _ _
   | z::w::r,h2=>simp at h2
end
end L2
namespace L2
def VG (K:aa) (te:TE):TE:=λZ H Q=>te Z H λx H1=>∃ a xs,x=.ref a/\dh K H1 a xs/\∀ p (ys:List V),H1 p=none->ys.length<=(xs.length+1)/2->(∀ y∈ys,y∈xs)->Q (.ref p) (upd H1 p (.lst ys))
theorem Mx {its:List ai}{xs:List V}(hi:Vals xs its):∀ {l:List ai},(∀ v∈l,v∈its)->∃ ys,Vals ys l/\∀ y∈ys,y∈xs
 | [],_=>⟨[],.nil,λ_ h=>nomatch h⟩
 | v::l,h=>by
  obtain ⟨ys,hm,hs⟩:=Mx hi (l:=l) λy hy=>h y (ag _ hy)
  have:∀ {its:List ai}{xs:List V},Vals xs its->v∈its->∃ x∈xs,RelV x v:=by
   intro its xs hi
   induction hi with
   | nil=>intro z;cases z
   | cons r t ih =>
    intro z
    rcases aq.mp z with z|z
    .subst z;exact ⟨_,ar,r⟩
    .obtain ⟨x,h1,h2⟩:=ih z;exact ⟨x,ag _ h1,h2⟩
  obtain ⟨x,h1,h2⟩:=this hi (h v ar);exact ⟨x::ys,.cons h2 hm,λy hy=>(aq.mp hy).elim (λe=>e▸h1) (hs y)⟩
section
variable {X:Cx}
theorem VH {e:Expr}{te:TE}{p1 p3 pos:wV}{j:Nat}(he:PE X e te):PE X (.Subscript e (.Slice none none (some (.Constant (.int 2) j p1)) p3) pos) (VG X.K te):=by
 intro pins s Z H Q I h;refine Im (ia (he pins s Z H _ I h) λv s1 ⟨x,H1,I1,r1,q1⟩=>?_);obtain ⟨a,xs,rfl,hq,q⟩:=q1;cases r1;refine wpAny_Slice ?_;rw [GE];refine au (au ?_);rw [W7];refine ia (eS pins s1 Z H1 (λz H2=>z=.int 2/\H2=H1) I1 ⟨rfl,rfl⟩) λvk s3 ⟨z,H3,I3,r3,e3,e3'⟩=>?_;subst e3 e3';obtain ⟨t,rfl⟩:=r3;have I4:Inv X pins Z H3 { s3 with heap:=s3.heap.push { cls:=.type "slice",data:=.fields #[.none,.none,.int 2 t] } }:=I3.kept (t':=s3.toks) λb ob q=>ao _ q;obtain ⟨its,r,ht,hz⟩:=I4.list hq;have hlen:=r.length
 obtain ⟨ys,hm,hs⟩:=Mx r (l:=(yK its.toArray none none (some 2)).toList) λv hv=>by
  unfold yK at hv;simp only [jS] at hv;obtain ⟨i,_,e⟩:=hv;exact aM (by simpa using e)
 have h1:=hm.length;have h3:=Ye its none (.inl rfl)
 show aL (aU X.prog X.w) X.A (GF e (.Slice none none (some (.Constant (.int 2) j p1)) p3) (.ref a) (.ref s3.heap.objs.size)) (EP X pins Z Q) X.xe { s3 with heap:=s3.heap.push { cls:=.type "slice",data:=.fields #[.none,.none,.int 2 t] } }
 refine TB ht.isList.typeIs we.lookup ?_ (by with_unfolding_all rfl);refine w6 ht.isList (ug ..) .none .none (.int 2 t) (by decide) ?_ (by rw [aN]<;>lia);refine ⟨.ref _,_,I4.laid (t':=s3.toks) (o:=.lst ys) (λb ob q=>ao _ q) (aB _) ?_,rfl,q _ ys (I4.eV.fresh (aB _)) (by lia) hs⟩;exact ⟨by lia,(yK its.toArray none none (some 2)).toList,0,hm,by rw [TK];exact aI _ rfl⟩
end
def rW.caln {K:aa}{mg:bq->Option ai}{x:bq}{st:dz}{ps:List bq}{k:Nat}{sp:Sp}(d:rW K mg x st ps) (P:bQ) (w:cU) (base:cJ) (h:IT P w K mg base k d.f d.d ps sp):CalN P w K mg base k x ps sp:=⟨d.f,d.d,h,d.m,d.F.kp,d.b⟩
def hZ.nm {j k:Nat}{A:dM}{v:Option ai}(r:hZ k A) (h:j<=k:=by decide):om j (A.mark v):=(r.n.mark v).mono h
end L2
namespace Rm
variable {f:Nat->Int}{m:Nat}{r:List Int}
def tn {α:Type} (r:List α) (k:Nat):List α:=r.drop k++(r.drop 1).take k
def OI {k:Nat}(hk:k<r.length):(tn r k).length=r.length:=by
 unfold tn;rw [br,dJ,bO,dJ];lia
def Yu:tn r 0=r:=by simp [tn]
def J2 {a:Int}(h:a∈r):r.idxOf a<r.length:=hJ.mpr h
end Rm
namespace Rm
section
variable {n:Nat}{v par:Nat->Nat}
end
end Rm
namespace Rm
def al:List Int->List (Int×Int)
 | []=>[]
 | [_]=>[]
 | a::b::r=>(a,b)::al (b::r)
theorem OJ:∀ r:List Int,al r=r.zip (r.drop 1)
 | []=>rfl
 | [_]=>rfl
 | a::b::r=>by
  have:=OJ (b::r);simp only [List.drop_succ_cons,List.drop_zero] at this ⊢;rw [jW,← this];rfl
theorem ml:∀ (xs:List Int) (x:Int) (ys:List Int),al (xs++x::ys)=al (xs++[x])++al (x::ys)
 | [],x,ys=>rfl
 | [a],x,ys=>rfl
 | a::b::xs,x,ys=>by
  have:=ml (b::xs) x ys
  show (a,b)::al ((b::xs)++x::ys)=(a,b)::al ((b::xs)++[x])++al (x::ys)
  rw [this];rfl
theorem hV:∀ {r:List Int}{x y:Int},(x,y)∈al r->x∈r/\y∈r
 | a::b::r,x,y,h=>by
  rcases aq.mp h with e|h
  .cases e;simp
  .have:=hV h;exact ⟨ag _ this.1,ag _ this.2⟩
theorem J3:∀ r:List Int,(al r).length=r.length-1
 | []=>rfl
 | [_]=>rfl
 | a::b::r=>by
  have:=J3 (b::r);simp only [al,b8] at this ⊢;lia
structure lM (r:List Int):Prop where
 ne:r≠[]
 cnt:∃ ds:List Int,ds.Nodup/\(∀ x,x∈ds↔x∈r)/\r.length+1=2*ds.length
 ends:r.head?=r.getLast?
 nd:(al r).Nodup
 sym:∀ x y,(x,y)∈al r->(y,x)∈al r
def lM.one (a:Int):lM [a]:=⟨by simp,⟨[a],by simp,by simp,rfl⟩,rfl,by simp [al],λx y h=>by simp [al] at h⟩
theorem lM.WX {A B:List Int}{z:Int}(h:lM (A++z::B)) (hA:z∉A) (hB:z∉B) (hn:A++B≠[]):∃ A' w B',A=A'++[w]/\B=w::B':=by
 have he:=h.ends
 have hAne:A≠[]:=λe=>by
  subst e;simp only [List.nil_append,List.head?_cons] at he hn
  rcases fw B with e|⟨us,u,e⟩
  .exact hn e
  .rw [fz] at e;subst e;rw [show z::(us++[u])=(z::us)++[u] by simp,cX] at he;simp at he;subst he;exact hB (by simp)
 have hBne:B≠[]:=λe=>by
  subst e;rw [cX] at he;simp at he
  cases A with
  | nil=>exact hAne rfl
  | cons a A =>
   simp at he;subst he;exact hA (by simp)
 obtain ⟨A',w,e⟩:∃ A' w,A=A'++[w]:=by
  rcases fw A with e|⟨us,u,e⟩
  .exact absurd e hAne
  .exact ⟨us,u,by rw [e,fz]⟩
 subst e
 cases B with
 | nil=>exact absurd rfl hBne
 | cons v B' =>
  refine ⟨A',w,B',rfl,?_⟩
  have e1:al (A'++[w]++z::v::B')=al (A'++[w])++((w,z)::(z,v)::al (v::B')):=by
   rw [eK,T3,ml];rfl
  have m:=h.sym w z (by rw [e1];simp);rw [e1] at m
  rcases aT.mp m with m|m
  .exact absurd (hV m).1 hA
  .rcases aq.mp m with m|m
   .cases m;exact absurd (by simp) hA
   .rcases aq.mp m with m|m
    .cases m;rfl
    .exact absurd (hV m).1 hB
theorem OL (xs ys:List Int) (w z:Int):(al (xs++w::z::w::ys)).Perm ((w,z)::(z,w)::al (xs++w::ys)):=by
 rw [ml,ml xs w ys]
 show (al (xs++[w])++([(w,z),(z,w)]++al (w::ys))).Perm ([(w,z),(z,w)]++(al (xs++[w])++al (w::ys)))
 rw [← eK,← eK];exact List.Perm.append_right _ oB
theorem EU (xs ys:List Int) (w z:Int):(xs++w::z::w::ys).head?=(xs++w::ys).head?/\(xs++w::z::w::ys).getLast?=(xs++w::ys).getLast?:=by
 constructor
 .cases xs<;>simp
 .cases ys with
  | nil=>simp [cX]
  | cons y ys=>simp [cX,mO]
theorem lM.PU {xs ys:List Int}{w z:Int}(h:lM (xs++w::z::w::ys)) (hz:z∉xs++w::ys):lM (xs++w::ys):=by
 have hp:=OL xs ys w z;have nd:=hp.nodup_iff.mp h.nd;have nd2:=(bg.mp nd).2;refine ⟨by simp,?_,?_,(bg.mp nd2).2,λx y hxy=>?_⟩
 .obtain ⟨ds,h1,h2,h3⟩:=h.cnt;have hzd:z∈ds:=(h2 z).mpr (by simp);refine ⟨ds.erase z,h1.erase z,λx=>?_,?_⟩
  .rw [h1.mem_erase_iff,h2]
   constructor
   .rintro ⟨h4,h5⟩;simp at h5 ⊢
    rcases h5 with h5|h5|h5|h5|h5
    .exact .inl h5
    .exact .inr (.inl h5)
    .exact absurd h5 h4
    .exact .inr (.inl h5)
    .exact .inr (.inr h5)
   .intro h5;refine ⟨λe=>hz (e▸h5),?_⟩;simp at h5 ⊢
    rcases h5 with h5|h5|h5
    .exact .inl h5
    .exact .inr (.inl h5)
    .exact .inr (.inr (.inr (.inr h5)))
  .rw [Oc hzd];have:0<ds.length:=RE hzd;simp at h3 ⊢;lia
 .have:=EU xs ys w z;rw [← this.1,← this.2];exact h.ends
 .have hm:=hp.mem_iff.mp (h.sym x y (hp.mem_iff.mpr (ag _ (ag _ hxy))))
  rcases aq.mp hm with e|hm
  .cases e;exact absurd (hV hxy).1 hz
  .rcases aq.mp hm with e|hm
   .cases e;exact absurd (hV hxy).2 hz
   .exact hm
theorem lM.put {xs ys:List Int}{w z:Int}(h:lM (xs++w::ys)) (hz:z∉xs++w::ys):lM (xs++w::z::w::ys):=by
 have hp:=OL xs ys w z;have hwz:w≠z:=λe=>hz (by simp [e]);refine ⟨by simp,?_,?_,hp.nodup_iff.mpr ?_,λx y hxy=>?_⟩
 .obtain ⟨ds,h1,h2,h3⟩:=h.cnt;refine ⟨z::ds,bg.mpr ⟨λhm=>hz ((h2 z).mp hm),h1⟩,λx=>?_,?_⟩
  .rw [aq,h2];simp
   constructor
   .rintro (h|h|h|h)
    .exact .inr (.inr (.inl h))
    .exact .inl h
    .exact .inr (.inl h)
    .exact .inr (.inr (.inr (.inr h)))
   .rintro (h|h|h|h|h)
    .exact .inr (.inl h)
    .exact .inr (.inr (.inl h))
    .exact .inl h
    .exact .inr (.inr (.inl h))
    .exact .inr (.inr (.inr h))
  .simp at h3 ⊢;lia
 .have:=EU xs ys w z;rw [this.1,this.2];exact h.ends
 .refine bg.mpr ⟨λhm=>?_,bg.mpr ⟨λhm=>hz (hV hm).1,h.nd⟩⟩
  rcases aq.mp hm with e|hm
  .exact hwz (by cases e;rfl)
  .exact hz (hV hm).2
 .refine hp.mem_iff.mpr ?_
  rcases aq.mp (hp.mem_iff.mp hxy) with e|hm
  .cases e;simp
  .rcases aq.mp hm with e|hm
   .cases e;simp
   .exact ag _ (ag _ (h.sym x y hm))
theorem sj:∀ {ds r:List Int},ds.Nodup->(∀ x∈r,x∈ds)->(ds.map λd=>r.count d).sum=r.length
 | ds,[],h1,h2=>by
  have:(ds.map λd=>([]:List Int).count d)=ds.map λ_=>0:=by simp
  rw [this]
  clear this h1 h2
  induction ds with
  | nil=>rfl
  | cons d ds ih=>simpa using ih
 | ds,x::r,h1,h2=>by
  have ih:=sj (ds:=ds) (r:=r) h1 λy hy=>h2 y (ag _ hy);have hx:=h2 x ar
  have key:∀ (ds:List Int),ds.Nodup->(ds.map λd=>(x::r).count d).sum=(ds.map λd=>r.count d).sum+if x∈ds then 1 else 0:=by
   intro ds
   induction ds with
   | nil=>intro _;simp
   | cons d ds ih2 =>
    intro hnd;have:=ih2 (bg.mp hnd).2;have hd:=(bg.mp hnd).1;simp only [cn,BS,xh] at this ⊢;rw [this]
    by_cases e:x=d
    .subst e;simp [hd];lia
    .have e':¬ d=x:=λz=>e z.symm;simp [e];lia
  rw [key ds h1,ih,if_pos hx,b8]
theorem lM.leaf {r:List Int}(h:lM r) (h1:1<r.length):∃ xs w z ys,r=xs++w::z::w::ys/\z∉xs++w::ys:=by
 obtain ⟨ds,d1,d2,d3⟩:=h.cnt;have hs:=sj d1 λx hx=>(d2 x).mpr hx
 obtain ⟨z,hz,hc⟩:∃ z∈ds,r.count z<2:=by
  refine Classical.byContradiction λq=>?_
  have hall:∀ z∈ds,2<=r.count z:=λz hz=>by
   by_cases c:r.count z<2
   .exact absurd ⟨z,hz,c⟩ q
   .lia
  have:∀ (ds:List Int),(∀ z∈ds,2<=r.count z)->2*ds.length<=(ds.map λd=>r.count d).sum:=by
   intro ds
   induction ds with
   | nil=>intro _;simp
   | cons d ds ih =>
    intro h;have a:=ih λz hz=>h z (ag _ hz);have b:=h d ar;simp only [cn,BS,b8];lia
  have:=this ds hall;lia
 have hzr:=(d2 z).mp hz;obtain ⟨A,B,e⟩:=mM hzr;subst e
 have hc2:A.count z=0/\B.count z=0:=by
  rw [ir,kW] at hc;lia
 have hA:z∉A:=fJ.mp hc2.1;have hB:z∉B:=fJ.mp hc2.2
 obtain ⟨A',w,B',e1,e2⟩:=h.WX hA hB (λq=>by
  rw [wo] at q;rw [q.1,q.2] at h1
  simp at h1)
 subst e1 e2
 exact ⟨A',w,z,B',by simp,λhm=>by
  simp at hm hA hB
  rcases hm with hm|hm|hm
  .exact hA.1 hm
  .exact hA.2 hm
  .exact hB.2 hm⟩
def VI (L:List (Int×Int)):List (Int×Int):=L.flatMap λt=>[(t.1,t.2),(t.2,t.1)]
def Bh (t:Int×Int) (L:List (Int×Int)):VI (t::L)=(t.1,t.2)::(t.2,t.1)::VI L:=rfl
end Rm
namespace Rm
variable {a b:Int}{r xs ys T:List Int}
theorem lM.YU {r':List Int}(h:lM r) (hn:r'≠[]) (hm:∀ x,x∈r'↔x∈r) (hl:r'.length=r.length) (he:r'.head?=r'.getLast?) (hp:(al r').Perm (al r)):lM r' :=
 ⟨hn,let ⟨ds,a,b,c⟩:=h.cnt;⟨ds,a,λx=>by rw [b,hm],by rw [hl];exact c⟩,he,hp.nodup_iff.mpr h.nd,λx y z=>hp.mem_iff.mpr (h.sym x y (hp.mem_iff.mp z))⟩
theorem IV (h:a∈r):∃ xs ys,r=xs++a::ys/\xs.length=r.idxOf a/\a∉xs:=by
 induction r with
 | nil=>cases h
 | cons b r ih =>
  by_cases e:b=a
  .subst e;exact ⟨[],r,rfl,by simp,by simp⟩
  .have ha:a∈r:=(aq.mp h).resolve_left λq=>e q.symm;obtain ⟨xs,ys,e1,e2,e3⟩:=ih ha
   have eb:(b == a)=false:=by simpa using e
   refine ⟨b::xs,ys,by rw [e1];rfl,by rw [List.idxOf_cons,eb];simp [e2],λhm=>?_⟩
   rcases aq.mp hm with q|q
   .exact e q.symm
   .exact e3 q
theorem lM.turn (h:lM r) (ha:a∈r):lM (tn r (r.idxOf a))/\(al (tn r (r.idxOf a))).Perm (al r)/\(tn r (r.idxOf a)).head?=some a/\(∀ x,x∈tn r (r.idxOf a)↔x∈r)/\(tn r (r.idxOf a)).length=r.length:=by
 have hlen:(tn r (r.idxOf a)).length=r.length:=OI (J2 ha);obtain ⟨xs,ys,e,el,hx⟩:=IV ha
 cases xs with
 | nil =>
  have e0:r.idxOf a=0:=by rw [← el];rfl
  rw [e0,Yu]
  exact ⟨h,mJ _,by rw [e];rfl,λx=>Iff.rfl,rfl⟩
 | cons b xs =>
  have hba:b≠a:=λq=>hx (by simp [q]);have he:=h.ends
  obtain ⟨ys',ey⟩:∃ ys',ys=ys'++[b]:=by
   rw [e] at he;simp only [aal,List.head?_cons] at he;rw [show b::(xs++a::ys)=(b::xs++[a])++ys by simp,cX] at he
   rcases fw ys with q|⟨us,u,q⟩
   .subst q;rw [show b::xs++[a]=(b::xs)++[a] by rfl,cX] at he;simp at he;exact absurd he hba
   .rw [fz] at q;subst q;rw [cX] at he;simp at he;subst he;exact ⟨us,rfl⟩
  subst ey
  have et:tn r (r.idxOf a)=(a::ys')++b::(xs++[a]):=by
   unfold tn;rw [← el,e];simp only [b8]
   have d1:((b::xs)++a::(ys'++[b])).drop (xs.length+1)=a::(ys'++[b]):=by simp
   have d2:(((b::xs)++a::(ys'++[b])).drop 1).take (xs.length+1)=xs++[a]:=by
    show (xs++a::(ys'++[b])).take (xs.length+1)=xs++[a]
    rw [aam,cg (by lia)];simp
   rw [d1,d2];simp
  have hp:(al (tn r (r.idxOf a))).Perm (al r):=by
   rw [et,e,ml (a::ys') b (xs++[a]),ml (b::xs) a (ys'++[b])];exact oB
  have hm:∀ x,x∈tn r (r.idxOf a)↔x∈r:=λx=>by
   rw [et,e];simp
   constructor
   .rintro (q|q|q|q|q)
    .exact .inr (.inr (.inl q))
    .exact .inr (.inr (.inr (.inl q)))
    .exact .inl q
    .exact .inr (.inl q)
    .exact .inr (.inr (.inl q))
   .rintro (q|q|q|q|q)
    .exact .inr (.inr (.inl q))
    .exact .inr (.inr (.inr (.inl q)))
    .exact .inl q
    .exact .inr (.inl q)
    .exact .inr (.inr (.inl q))
  refine ⟨h.YU (by rw [et];simp) hm hlen (by rw [et];simp [cX,mO]) hp,hp,by rw [et];rfl,hm,hlen⟩
theorem J5 (h1:T.head?=some b) (h2:T.getLast?=some b):(al (xs++a::(T++a::ys))).Perm ((a,b)::(b,a)::(al (xs++a::ys)++al T)):=by
 obtain ⟨T1,e1⟩:∃ T1,T=b::T1:=by
  cases T with
  | nil=>simp at h1
  | cons c T=>simp at h1;exact ⟨T,by rw [h1]⟩
 obtain ⟨T2,e2⟩:∃ T2,T=T2++[b]:=by
  rcases fw T with q|⟨us,u,q⟩
  .subst q;simp at h2
  .rw [fz] at q;subst q;simp at h2;exact ⟨us,by rw [h2]⟩
 have e3:al (a::(T++a::ys))=(a,b)::(al T++(b,a)::al (a::ys)):=by
  have e4:al (T++a::ys)=al T++(b,a)::al (a::ys):=by
   conv=>lhs;rw [e2,eK,T3,ml]
   rw [← e2];rfl
  have e5:al (a::(T++a::ys))=(a,b)::al (T++a::ys):=by rw [e1];rfl
  rw [e5,e4]
 rw [ml xs a (T++a::ys),ml xs a ys,e3];generalize al (xs++[a])=P;generalize al (a::ys)=R;generalize al T=U
 -- P++(ab::(U++ba::R)) ~ ab::ba::((P++R)++U)
 refine GJ.trans (mK _ ?_);rw [← eK];refine GJ.trans (mK _ ?_);rw [eK,eK];exact ud _ oB
theorem VJ (xs ys T:List Int) (a:Int):(xs++a::(T++a::ys)).head?=(xs++a::ys).head?/\(xs++a::(T++a::ys)).getLast?=(xs++a::ys).getLast?:=by
 constructor
 .cases xs<;>simp
 .cases ys with
  | nil=>simp [cX,mO]
  | cons y ys=>simp [cX,mO]
theorem lM.abB (h:lM (xs++a::ys)) (hT:lM T) (h1:T.head?=some b) (hd:∀ x∈T,x∉xs++a::ys):lM (xs++a::(T++a::ys)):=by
 have h2:T.getLast?=some b:=by rw [← hT.ends];exact h1
 have hp:=J5 (xs:=xs) (ys:=ys) (a:=a) h1 h2;have hb:b∈T:=kj (by rw [h1];rfl)
 have ha:a∈xs++a::ys:=by simp
 have hab:a≠b:=λe=>hd b hb (e▸ha);have hb':=hd b hb;have ha':a∉T:=λq=>hd a q ha;refine ⟨by simp,?_,?_,hp.nodup_iff.mpr ?_,λx y hxy=>?_⟩
 .obtain ⟨ds,d1,d2,d3⟩:=h.cnt;obtain ⟨es,e1,e2,e3⟩:=hT.cnt;refine ⟨ds++es,fu.mpr ⟨d1,e1,λx hx y hy q=>hd y ((e2 y).mp hy) (q▸(d2 x).mp hx)⟩,λx=>?_,?_⟩
  .rw [aT,d2,e2];simp
   constructor
   .rintro ((q|q|q)|q)
    .exact .inl q
    .exact .inr (.inl q)
    .exact .inr (.inr (.inr (.inr q)))
    .exact .inr (.inr (.inl q))
   .rintro (q|q|q|q|q)
    .exact .inl (.inl q)
    .exact .inl (.inr (.inl q))
    .exact .inr q
    .exact .inl (.inr (.inl q))
    .exact .inl (.inr (.inr q))
  .simp at d3 ⊢;lia
 .have:=VJ xs ys T a;rw [this.1,this.2];exact h.ends
 .refine bg.mpr ⟨λhm=>?_,bg.mpr ⟨λhm=>?_,fu.mpr ⟨h.nd,hT.nd,?_⟩⟩⟩
  .rcases aq.mp hm with q|hm
   .exact hab (by cases q;rfl)
   .rcases aT.mp hm with q|q
    .exact hb' (hV q).2
    .exact ha' (hV q).1
  .rcases aT.mp hm with q|q
   .exact hb' (hV q).1
   .exact ha' (hV q).2
  .rintro ⟨x,y⟩ hx t ht q;subst q;exact hd x (hV ht).1 (hV hx).1
 .refine hp.mem_iff.mpr ?_
  rcases aq.mp (hp.mem_iff.mp hxy) with q|hm
  .cases q;simp
  .rcases aq.mp hm with q|hm
   .cases q;simp
   .refine ag _ (ag _ ?_)
    rcases aT.mp hm with q|q
    .exact cz _ (h.sym x y q)
    .exact bx _ (hT.sym x y q)
theorem lM.part:∀ (n:Nat) {p q inn:List Int}{x y:Int},(p++x::(inn++x::q)).length<=n->lM (p++x::(inn++x::q))->inn.head?=some y->inn.getLast?=some y ->
  lM inn/\lM (p++x::q)/\∀ c∈inn,c∉p++x::q
 | 0,p,q,inn,x,y,hn,h,h1,h2=>by simp at hn
 | n+1,p,q,inn,x,y,hn,h,h1,h2=>by
  have hl:1<(p++x::(inn++x::q)).length:=by simp;lia
  obtain ⟨X,w,z,Y,e,hz⟩:=h.leaf hl
  have hc:(p++x::(inn++x::q)).count z=1:=by
   rw [e];simp at hz;have a1:X.count z=0:=fJ.mpr hz.1;have a2:Y.count z=0:=fJ.mpr hz.2.2;have a3:¬ w=z:=λq=>hz.2.1 q.symm;simp [ir,xh,a1,a2,a3]
  have hzx:x≠z:=λq=>by
   subst q;simp [ir,xh] at hc;lia
  have hc2:p.count z+inn.count z+q.count z=1:=by
   simp [ir,xh,hzx] at hc;lia
  -- a place that stands once,with what is around it
  have at_:∀ A B,p++x::(inn++x::q)=A++z::B->∃ A' w B',A=A'++[w]/\B=w::B':=λA B eA=>by
   rw [eA] at h hc hl
   have c0:A.count z=0/\B.count z=0:=by rw [ir,kW] at hc;lia
   refine h.WX (fJ.mp c0.1) (fJ.mp c0.2) λq=>?_;rw [wo] at q;rw [q.1,q.2] at hl;simp at hl
  have nin:∀ {l:List Int},l.count z=0->z∉l:=λq=>fJ.mp q
  by_cases z1:z∈inn
  .have k1:0<inn.count z:=CV.mpr z1;have hp0:z∉p:=nin (by lia);have hq0:z∉q:=nin (by lia);obtain ⟨i1,i2,ei⟩:=mM z1
   have c12:i1.count z=0/\i2.count z=0:=by
    rw [ei,ir,kW] at hc2;lia
   have n1:=nin c12.1;have n2:=nin c12.2
   by_cases hs:i1++i2=[]
   .rw [wo] at hs;rw [hs.1,hs.2] at ei;subst ei
    have zo:z∉p++x::q:=λhm=>by
     rcases aT.mp hm with m|m
     .exact hp0 m
     .rcases aq.mp m with m|m
      .exact hzx m.symm
      .exact hq0 m
    refine ⟨lM.one z,lM.PU (w:=x) (z:=z) (by simpa using h) zo,λc hc=>?_⟩
    have:c=z:=by simpa using hc
    subst this;exact zo
   .obtain ⟨A',w',B',eA,eB⟩:=at_ (p++x::i1) (i2++x::q) (by rw [ei];simp)
    have i1n:i1≠[]:=λq0=>by
     subst q0;rw [ei] at h1 h2;simp at h1;subst h1
     rcases fw i2 with q1|⟨us,u,q1⟩
     .exact hs (by simp [q1])
     .rw [fz] at q1;subst q1;simp [cX,mO] at h2;exact n2 (by simp [h2])
    have i2n:i2≠[]:=λq0=>by
     subst q0;rw [ei] at h1 h2;rw [cX] at h2;simp at h2;subst h2
     cases i1 with
     | nil=>exact i1n rfl
     | cons a i1=>simp at h1;exact n1 (by simp [h1])
    obtain ⟨i1',u,ei1⟩:∃ i1' u,i1=i1'++[u]:=by
     rcases fw i1 with q0|⟨us,u,q0⟩
     .exact absurd q0 i1n
     .exact ⟨us,u,by rw [q0,fz]⟩
    cases i2 with
    | nil=>exact absurd rfl i2n
    | cons v i2' =>
     have ev:v=w':=by simp at eB;exact eB.1
     have eu:u=w':=by
      rw [ei1,← aal,← eK] at eA;have:=wu eA rfl
      simpa using this
     subst ei1 ev eu
     have ei':inn=i1'++u::z::u::i2':=by rw [ei];simp
     subst ei'
     have zi:z∉i1'++u::i2':=λhm=>by
      simp at hm n1 n2
      rcases hm with m|m|m
      .exact n1.1 m
      .exact n1.2 m
      .exact n2.2 m
     have eR:p++x::(i1'++u::z::u::i2'++x::q)=(p++x::i1')++u::z::u::(i2'++x::q):=by simp
     have eR':p++x::(i1'++u::i2'++x::q)=(p++x::i1')++u::(i2'++x::q):=by simp
     have zR:z∉(p++x::i1')++u::(i2'++x::q):=λhm=>by
      simp at hm zi
      rcases hm with m|m|m|m|m|m|m
      .exact hp0 m
      .exact hzx m.symm
      .exact zi.1 m
      .exact zi.2.1 m
      .exact zi.2.2 m
      .exact hzx m.symm
      .exact hq0 m
     rw [eR] at h;have hR':=h.PU zR;rw [← eR'] at hR';have en:=EU i1' i2' u z;obtain ⟨r1,r2,r3⟩:=lM.part n (by simp at hn ⊢;lia) hR' (by rw [← en.1];exact h1) (by rw [← en.2];exact h2);refine ⟨r1.put zi,r2,λc hc=>?_⟩;simp at hc
     have hcz:c=z->c∉p++x::q:=λq0 hm=>by
      subst q0;simp at hm
      rcases hm with m|m|m
      .exact hp0 m
      .exact hzx m.symm
      .exact hq0 m
     rcases hc with m|m|m|m|m
     .exact r3 c (by simp [m])
     .exact r3 c (by simp [m])
     .exact hcz m
     .exact r3 c (by simp [m])
     .exact r3 c (by simp [m])
  .by_cases z2:z∈p
   .have k1:0<p.count z:=CV.mpr z2;have hq0:z∉q:=nin (by lia);obtain ⟨p1,p2,ep⟩:=mM z2;obtain ⟨A',w',B',eA,eB⟩:=at_ p1 (p2++x::(inn++x::q)) (by rw [ep];simp)
    have c12:p1.count z=0/\p2.count z=0:=by
     rw [ep,ir,kW] at hc2;lia
    have n1:=nin c12.1;have n2:=nin c12.2;subst eA
    cases p2 with
    | nil =>
     have ew:w'=x:=by simp at eB;exact eB.1.symm
     subst ew
     have ep':p=A'++[w',z]:=by rw [ep];simp
     subst ep'
     have zR:z∉A'++w'::(inn++w'::q):=λhm=>by
      simp at hm n1
      rcases hm with m|m|m|m|m
      .exact n1.1 m
      .exact n1.2 m
      .exact z1 m
      .exact n1.2 m
      .exact hq0 m
     have hR':=lM.PU (xs:=A') (w:=w') (z:=z) (ys:=inn++w'::q) (by simpa using h) zR;obtain ⟨r1,r2,r3⟩:=lM.part n (by simp at hn ⊢;lia) hR' h1 h2
     have zo:z∉A'++w'::q:=λhm=>by
      simp at hm n1
      rcases hm with m|m|m
      .exact n1.1 m
      .exact n1.2 m
      .exact hq0 m
     refine ⟨r1,by simpa using r2.put zo,λc hc hm=>?_⟩;simp at hm
     rcases hm with m|m|m|m
     .exact r3 c hc (by simp [m])
     .exact r3 c hc (by simp [m])
     .exact z1 (m▸hc)
     .exact r3 c hc (by
       rcases m with m|m
       .simp [m]
       .simp [m])
    | cons v p2 =>
     have ew:v=w':=by simp at eB;exact eB.1
     subst ew
     have ep':p=A'++v::z::v::p2:=by rw [ep];simp
     subst ep'
     have zR:z∉A'++v::(p2++x::(inn++x::q)):=λhm=>by
      simp at hm n1 n2
      rcases hm with m|m|m|m|m|m|m
      .exact n1.1 m
      .exact n1.2 m
      .exact n2.2 m
      .exact hzx m.symm
      .exact z1 m
      .exact hzx m.symm
      .exact hq0 m
     have hR':=lM.PU (xs:=A') (w:=v) (z:=z) (ys:=p2++x::(inn++x::q)) (by simpa using h) zR;obtain ⟨r1,r2,r3⟩:=lM.part n (p:=A'++v::p2) (q:=q) (inn:=inn) (x:=x) (by simp at hn ⊢;lia) (by simpa using hR') h1 h2
     have zo:z∉A'++v::(p2++x::q):=λhm=>by
      simp at hm n1 n2
      rcases hm with m|m|m|m|m
      .exact n1.1 m
      .exact n1.2 m
      .exact n2.2 m
      .exact hzx m.symm
      .exact hq0 m
     refine ⟨r1,by simpa using lM.put (xs:=A') (w:=v) (z:=z) (ys:=p2++x::q) (by simpa using r2) zo,λc hc hm=>?_⟩;simp at hm
     rcases hm with m|m|m|m|m|m|m
     .exact r3 c hc (by simp [m])
     .exact r3 c hc (by simp [m])
     .exact z1 (m▸hc)
     .exact r3 c hc (by simp [m])
     .exact r3 c hc (by simp [m])
     .exact r3 c hc (by simp [m])
     .exact r3 c hc (by simp [m])
   .have hq1:z∈q:=by
     have k1:0<q.count z:=by
      have a1:=fJ.mpr z1;have a2:=fJ.mpr z2;lia
     exact CV.mp k1
    obtain ⟨q1,q2,eq⟩:=mM hq1;obtain ⟨A',w',B',eA,eB⟩:=at_ (p++x::(inn++x::q1)) q2 (by rw [eq];simp)
    have c12:q1.count z=0/\q2.count z=0:=by
     rw [eq,ir,kW] at hc2;lia
    have n1:=nin c12.1;have n2:=nin c12.2;subst eB
    rcases fw q1 with e1|⟨q1',u,e1⟩
    .subst e1
     have ew:x=w':=by
      rw [show p++x::(inn++[x])=(p++x::inn)++[x] by simp] at eA;have:=wu eA rfl
      simpa using this
     subst ew
     have eq':q=z::x::B':=by rw [eq];rfl
     subst eq'
     have zR:z∉(p++x::inn)++x::B':=λhm=>by
      simp at hm n2
      rcases hm with m|m|m|m|m
      .exact z2 m
      .exact hzx m.symm
      .exact z1 m
      .exact hzx m.symm
      .exact n2.2 m
     have hR':=lM.PU (xs:=p++x::inn) (w:=x) (z:=z) (ys:=B') (by simpa using h) zR;obtain ⟨r1,r2,r3⟩:=lM.part n (p:=p) (q:=B') (inn:=inn) (x:=x) (by simp at hn ⊢;lia) (by simpa using hR') h1 h2
     have zo:z∉p++x::B':=λhm=>by
      simp at hm n2
      rcases hm with m|m|m
      .exact z2 m
      .exact hzx m.symm
      .exact n2.2 m
     refine ⟨r1,r2.put zo,λc hc hm=>?_⟩;simp at hm
     rcases hm with m|m|m|m|m
     .exact r3 c hc (by simp [m])
     .exact r3 c hc (by simp [m])
     .exact z1 (m▸hc)
     .exact r3 c hc (by simp [m])
     .exact r3 c hc (by simp [m])
    .rw [fz] at e1;subst e1
     have ew:u=w':=by
      rw [show p++x::(inn++x::(q1'++[u]))=(p++x::(inn++x::q1'))++[u] by simp] at eA;have:=wu eA rfl
      simpa using this
     subst ew
     have eq':q=q1'++u::z::u::B':=by rw [eq];simp
     subst eq'
     have zR:z∉(p++x::(inn++x::q1'))++u::B':=λhm=>by
      simp at hm n1 n2
      rcases hm with m|m|m|m|m|m|m
      .exact z2 m
      .exact hzx m.symm
      .exact z1 m
      .exact hzx m.symm
      .exact n1.1 m
      .exact n1.2 m
      .exact n2.2 m
     have hR':=lM.PU (xs:=p++x::(inn++x::q1')) (w:=u) (z:=z) (ys:=B') (by simpa using h) zR;obtain ⟨r1,r2,r3⟩:=lM.part n (p:=p) (q:=q1'++u::B') (inn:=inn) (x:=x) (by simp at hn ⊢;lia) (by simpa using hR') h1 h2
     have zo:z∉(p++x::q1')++u::B':=λhm=>by
      simp at hm n1 n2
      rcases hm with m|m|m|m|m
      .exact z2 m
      .exact hzx m.symm
      .exact n1.1 m
      .exact n1.2 m
      .exact n2.2 m
     refine ⟨r1,by simpa using lM.put (xs:=p++x::q1') (w:=u) (z:=z) (ys:=B') (by simpa using r2) zo,λc hc hm=>?_⟩;simp at hm
     rcases hm with m|m|m|m|m|m|m
     .exact r3 c hc (by simp [m])
     .exact r3 c hc (by simp [m])
     .exact r3 c hc (by simp [m])
     .exact r3 c hc (by simp [m])
     .exact z1 (m▸hc)
     .exact r3 c hc (by simp [m])
     .exact r3 c hc (by simp [m])
end Rm
namespace Rm
variable {r:List Int}{i:Nat}
def VL {x y:Int}:(al r)[i]?=some (x,y)↔r[i]?=some x/\r[i+1]?=some y:=by
 rw [OJ,NT,qR,T7 1 i]
def wz (r:List Int) (i j:Nat):List Int:=(r.drop (i+1)).take (j-i)
def Bi (r:List Int) (i j:Nat):List Int:=r.take (i+1)++r.drop (j+2)
def AR (r:List Int) (a b:Int):List Int×List Int :=
 if (al r).idxOf (a,b)<(al r).idxOf (b,a) then (Bi r ((al r).idxOf (a,b)) ((al r).idxOf (b,a)),wz r ((al r).idxOf (a,b)) ((al r).idxOf (b,a)))
 else (wz r ((al r).idxOf (b,a)) ((al r).idxOf (a,b)),Bi r ((al r).idxOf (b,a)) ((al r).idxOf (a,b)))
theorem VM {j:Nat}{x y:Int}(hij:i<j) (h1:r[i]?=some x) (h2:r[i+1]?=some y) (h3:r[j]?=some y) (h4:r[j+1]?=some x) :
  r=r.take i++x::(wz r i j++x::r.drop (j+2))/\Bi r i j=r.take i++x::r.drop (j+2)/\(wz r i j).head?=some y/\(wz r i j).getLast?=some y/\(wz r i j).length+(Bi r i j).length+1=r.length:=by
 have l4:=(av.mp h4).1
 have g1:r.drop i=x::r.drop (i+1):=by
  have hl:=av.mp h1;rw [gQ hl.1,hl.2]
 have g2:r.drop (j+1)=x::r.drop (j+2):=by
  have hl:=av.mp h4;rw [gQ hl.1,hl.2]
 have g3:r.drop (i+1)=wz r i j++r.drop (j+1):=by
  unfold wz;have:=ki (j-i) (r.drop (i+1));rw [List.drop_drop,show i+1+(j-i)=j+1 by lia] at this;exact this.symm
 have li:(wz r i j).length=j-i:=by unfold wz;rw [bO,dJ];lia
 refine ⟨?_,?_,?_,?_,?_⟩
 .rw [← g2,← g3,← g1,ki]
 .unfold Bi;rw [ft,h1];simp
 .rw [List.head?_eq_getElem?];unfold wz;rw [mL,if_pos (by lia),qR];exact h2
 .rw [List.getLast?_eq_getElem?,li];unfold wz;rw [mL,if_pos (by lia),qR,show i+1+(j-i-1)=j by lia];exact h3
 .rw [li];unfold Bi;rw [br,bO,dJ];lia
def ZC {a b:Int}(h:(a,b)∈al r):r[(al r).idxOf (a,b)]?=some a/\r[(al r).idxOf (a,b)+1]?=some b:=by
 have hl:(al r).idxOf (a,b)<(al r).length:=hJ.mpr h;refine VL.mp ?_;rw [aw hl,CS]
structure PV (r X Y:List Int) (a b:Int):Prop where
 x:lM X
 y:lM Y
 ha:a∈X
 hb:b∈Y
 dis:∀ c∈Y,c∉X
 pm:(al r).Perm ((a,b)::(b,a)::(al X++al Y))
 len:X.length+Y.length+1=r.length
theorem lM.parted {a b:Int}(h:lM r) (hm:(a,b)∈al r) (hab:a≠b):PV r (AR r a b).1 (AR r a b).2 a b:=by
 obtain ⟨p1,p2⟩:=ZC hm;obtain ⟨q1,q2⟩:=ZC (h.sym a b hm);unfold AR;generalize (al r).idxOf (a,b)=i at p1 p2;generalize (al r).idxOf (b,a)=j at q1 q2
 by_cases hij:i<j
 .rw [if_pos hij];obtain ⟨e1,e2,e3,e4,e5⟩:=VM hij p1 p2 q1 q2;have hR:=h;rw [e1] at hR;obtain ⟨r1,r2,r3⟩:=lM.part _ (aB _) hR e3 e4;refine ⟨by rw [e2];exact r2,r1,by rw [e2];simp,kj (by rw [e3];rfl),λc hc=>by rw [e2];exact r3 c hc,?_,by simp only;lia⟩;simp only;rw [e2];have hp:=J5 (xs:=r.take i) (ys:=r.drop (j+2)) (a:=a) e3 e4
  rwa [← e1] at hp
 .rw [if_neg hij]
  have hji:j<i:=by
   rcases Nat.lt_or_ge j i with q|q
   .exact q
   .have:i=j:=by lia
    subst this;rw [p1] at q1;exact absurd (aV q1) hab
  obtain ⟨e1,e2,e3,e4,e5⟩:=VM hji q1 q2 p1 p2;have hR:=h;rw [e1] at hR;obtain ⟨r1,r2,r3⟩:=lM.part _ (aB _) hR e3 e4;refine ⟨r1,by rw [e2];exact r2,kj (by rw [e3];rfl),by rw [e2];simp,λc hc hx=>by rw [e2] at hc;exact r3 c hx hc,?_,by simp only;lia⟩;simp only;rw [e2];have hp:=J5 (xs:=r.take j) (ys:=r.drop (i+2)) (a:=b) e3 e4;rw [← e1] at hp;refine hp.trans ((Xg _ _ _).trans (mK _ (mK _ oB)))
end Rm
namespace Rm
def My (x y:Int) (l:List Int):al (x::y::l)=(x,y)::al (y::l):=rfl
end Rm
namespace Rm
variable {n:Nat}{R:Nat->List Int}
def EV (r1 r2:List Int) (a b:Int):List Int:=r1.take (r1.idxOf a+1)++(tn r2 (r2.idxOf b)++r1.drop (r1.idxOf a))
structure Two (r1 r2:List Int) (a b:Int):Prop where
 h1:lM r1
 h2:lM r2
 ha:a∈r1
 hb:b∈r2
 dis:∀ x∈r2,x∉r1
theorem Two.facts {r1 r2:List Int}{a b:Int}(T:Two r1 r2 a b):lM (EV r1 r2 a b)/\(al (EV r1 r2 a b)).Perm ((a,b)::(b,a)::(al r1++al r2))/\(EV r1 r2 a b).length=r1.length+r2.length+1:=by
 obtain ⟨t1,t2,t3,t4,t5⟩:=T.h2.turn T.hb;obtain ⟨xs,ys,e,el,hx⟩:=IV T.ha
 have es:EV r1 r2 a b=xs++a::(tn r2 (r2.idxOf b)++a::ys):=by
  unfold EV;rw [← el]
  conv=>lhs;rw [e]
  have d1:(xs++a::ys).take (xs.length+1)=xs++[a]:=by
   rw [aam,cg (by lia)];simp
  have d2:(xs++a::ys).drop xs.length=a::ys:=by simp
  rw [d1,d2];simp
 have hR:lM (xs++a::ys):=by rw [← e];exact T.h1
 have hd:∀ x∈tn r2 (r2.idxOf b),x∉xs++a::ys:=λx hx=>by rw [← e];exact T.dis x ((t4 x).mp hx)
 refine ⟨by rw [es];exact hR.abB t1 t3 hd,?_,?_⟩
 .rw [es,e]
  have t3':(tn r2 (r2.idxOf b)).getLast?=some b:=by rw [← t1.ends];exact t3
  exact (J5 t3 t3').trans (mK _ (mK _ (ud _ t2)))
 .have hlt:(tn r2 (r2.idxOf b)).length=r2.length:=t5;unfold EV;have:=J2 T.ha;rw [br,br,bO,dJ,hlt];lia
theorem Two.mem {r1 r2:List Int}{a b:Int}(T:Two r1 r2 a b) (x:Int):x∈EV r1 r2 a b↔x∈r1\/x∈r2:=by
 obtain ⟨t1,t2,t3,t4,t5⟩:=T.h2.turn T.hb;unfold EV;rw [aT,aT,t4]
 constructor
 .rintro (h|h|h)
  .exact .inl (List.mem_of_mem_take h)
  .exact .inr h
  .exact .inl (List.mem_of_mem_drop h)
 .rintro (h|h)
  .rw [← ki (r1.idxOf a) r1] at h
   rcases aT.mp h with h|h
   .exact .inl (List.take_subset_take_left _ (ij _) h)
   .exact .inr (.inr h)
  .exact .inr (.inl h)
theorem PV.mem {r X Y:List Int}{a b:Int}(P:PV r X Y a b) (hr:lM r) (x:Int):x∈r↔x∈X\/x∈Y:=by
 have key:∀ {l:List Int},lM l->∀ {x:Int},x∈l->(l=[x]\/∃ y,(x,y)∈al l):=λ{l} hl {x} hx=>by
  obtain ⟨i,hi⟩:=bN.mp hx;have hlt:=(av.mp hi).1
  by_cases h:i+1<l.length
  .exact .inr ⟨_,bN.mpr ⟨i,VL.mpr ⟨hi,aw h⟩⟩⟩
  .by_cases h1:l.length=1
   .obtain ⟨c,rfl⟩:=RF.mp h1
    have:i=0:=by simp at hlt;lia
    subst this;simp at hi;exact .inl (by rw [hi])
   .have e1:l[i-1]?=some l[i-1]:=aw (by lia);exact .inr ⟨_,hl.sym _ _ (bN.mpr ⟨i-1,VL.mpr ⟨e1,by rw [show i-1+1=i by lia];exact hi⟩⟩)⟩
 constructor
 .intro hx
  rcases key hr hx with e|⟨y,hy⟩
  .have:=P.len;rw [e] at this;have h1:=AX.mpr P.x.ne;have h2:=AX.mpr P.y.ne;rw [yb] at this;lia
  .rcases aq.mp (P.pm.mem_iff.mp hy) with e|hy
   .cases e;exact .inl P.ha
   .rcases aq.mp hy with e|hy
    .cases e;exact .inr P.hb
    .rcases aT.mp hy with hy|hy
     .exact .inl (hV hy).1
     .exact .inr (hV hy).1
 .intro hx;have Ly:∀ {u v:Int},(u,v)∈(a,b)::(b,a)::(al X++al Y)->u∈r:=λh=>(hV (P.pm.mem_iff.mpr h)).1
  rcases hx with hx|hx
  .rcases key P.x hx with e|⟨y,hy⟩
   .have:=P.ha;rw [e] at this;rw [← aC.mp this];exact Ly (v:=b) ar
   .exact Ly (v:=y) (ag _ (ag _ (cz _ hy)))
  .rcases key P.y hx with e|⟨y,hy⟩
   .have:=P.hb;rw [e] at this;rw [← aC.mp this];exact Ly (v:=a) (ag _ ar)
   .exact Ly (v:=y) (ag _ (ag _ (bx _ hy)))
structure Wd (n:Nat) (R:Nat->List Int):Prop where
 r:∀ i,i<n->lM (R i)
 me:∀ i:Nat,i<n->(i:Int)∈R i
 Ly:∀ i,i<n->∀ x∈R i,∃ j:Nat,j<n/\x=(j:Int)/\R j=R i
def Ed (n:Nat) (R:Nat->List Int) (x y:Int):Prop:=∃ i,i<n/\(x,y)∈al (R i)
def Wd.start (n:Nat):Wd n λi=>[(i:Int)] :=
 ⟨λi _=>lM.one _,λi _=>by simp,λi hi x hx=>⟨i,hi,by simpa using hx,rfl⟩⟩
def Wd.same (W:Wd n R) {i j:Nat}(hi:i<n) (hj:j<n) {x:Int}(h1:x∈R i) (h2:x∈R j):R i=R j:=by
 obtain ⟨k,hk,e1,e2⟩:=W.Ly i hi x h1;obtain ⟨k',hk',e3,e4⟩:=W.Ly j hj x h2
 have:k=k':=by lia
 subst this;rw [← e2,e4]
theorem Wd.head (W:Wd n R) {i j:Nat}(hi:i<n) (hj:j<n):((R i).head?=(R j).head?↔(j:Int)∈R i):=by
 constructor
 .intro e
  obtain ⟨x,hx⟩:∃ x,(R i).head?=some x:=by
   cases h:R i with
   | nil=>exact absurd h (W.r i hi).ne
   | cons a l=>exact ⟨a,rfl⟩
  rw [W.same hi hj (kj hx) (kj (e▸hx))];exact W.me j hj
 .intro h;rw [W.same hi hj h (W.me j hj)]
def Ed.at (W:Wd n R) {x y:Int}(h:Ed n R x y) {i:Nat}(hi:i<n) (hx:x∈R i):(x,y)∈al (R i):=by
 obtain ⟨j,hj,hm⟩:=h;rw [W.same hi hj hx (hV hm).1];exact hm
def Ed.symm (W:Wd n R) {x y:Int}(h:Ed n R x y):Ed n R y x:=let ⟨i,hi,hm⟩:=h;⟨i,hi,(W.r i hi).sym _ _ hm⟩
theorem Wd.link (W:Wd n R) {a b:Nat}(ha:a<n) (hb:b<n) (hn:(b:Int)∉R a) :
  Two (R a) (R b) a b/\Wd n (λi=>if (i:Int)∈EV (R a) (R b) a b then EV (R a) (R b) a b else R i) /\
   ∀ x y,Ed n (λi=>if (i:Int)∈EV (R a) (R b) a b then EV (R a) (R b) a b else R i) x y↔(Ed n R x y\/(x,y)=((a:Int),(b:Int))\/(x,y)=((b:Int),(a:Int))):=by
 have T:Two (R a) (R b) a b:=⟨W.r a ha,W.r b hb,W.me a ha,W.me b hb,λx h2 h1=>hn (by rw [W.same ha hb h1 h2];exact W.me b hb)⟩
 obtain ⟨f1,f2,f3⟩:=T.facts;have fm:=T.mem;generalize EV (R a) (R b) a b=s at f1 f2 f3 fm
 have hs:∀ x∈s,∃ j:Nat,j<n/\x=(j:Int)/\(j:Int)∈s:=λx hx=>by
  rcases (fm x).mp hx with h|h
  .obtain ⟨j,hj,e,_⟩:=W.Ly a ha x h;exact ⟨j,hj,e,e▸hx⟩
  .obtain ⟨j,hj,e,_⟩:=W.Ly b hb x h;exact ⟨j,hj,e,e▸hx⟩
 have nos:∀ i,i<n->(i:Int)∉s->∀ x∈R i,x∉s:=λi hi h x hx hxs=>by
  rcases (fm x).mp hxs with q|q
  .exact h ((fm i).mpr (.inl (W.same ha hi q hx▸W.me i hi)))
  .exact h ((fm i).mpr (.inr (W.same hb hi q hx▸W.me i hi)))
 refine ⟨T,⟨λi hi=>?_,λi hi=>?_,λi hi x hx=>?_⟩,λx y=>⟨?_,?_⟩⟩
 .by_cases c:(i:Int)∈s
  .rw [if_pos c];exact f1
  .rw [if_neg c];exact W.r i hi
 .by_cases c:(i:Int)∈s
  .rw [if_pos c];exact c
  .rw [if_neg c];exact W.me i hi
 .by_cases c:(i:Int)∈s
  .simp only [if_pos c] at hx ⊢;obtain ⟨j,hj,e,hjs⟩:=hs x hx;exact ⟨j,hj,e,if_pos hjs⟩
  .simp only [if_neg c] at hx ⊢;obtain ⟨j,hj,e,er⟩:=W.Ly i hi x hx;exact ⟨j,hj,e,by rw [if_neg (λh=>nos i hi c x hx (e▸h))];exact er⟩
 .rintro ⟨i,hi,hm⟩
  by_cases c:(i:Int)∈s
  .simp only [if_pos c] at hm
   rcases aq.mp (f2.mem_iff.mp hm) with e|hm
   .exact .inr (.inl e)
   .rcases aq.mp hm with e|hm
    .exact .inr (.inr e)
    .rcases aT.mp hm with h|h
     .exact .inl ⟨a,ha,h⟩
     .exact .inl ⟨b,hb,h⟩
  .simp only [if_neg c] at hm;exact .inl ⟨i,hi,hm⟩
 .have inS:∀ {u v:Int},(u,v)∈al s->Ed n (λi=>if (i:Int)∈s then s else R i) u v:=λh=>⟨a,ha,by simp only [if_pos ((fm a).mpr (.inl (W.me a ha)))];exact h⟩
  rintro (⟨i,hi,hm⟩|e|e)
  .by_cases c:(i:Int)∈s
   .refine inS (f2.mem_iff.mpr (ag _ (ag _ ?_)))
    rcases (fm i).mp c with h|h
    .rw [← W.same ha hi h (W.me i hi)] at hm;exact cz _ hm
    .rw [← W.same hb hi h (W.me i hi)] at hm;exact bx _ hm
   .exact ⟨i,hi,by simp only [if_neg c];exact hm⟩
  .obtain ⟨rfl,rfl⟩:=cW e;exact inS (f2.mem_iff.mpr ar)
  .obtain ⟨rfl,rfl⟩:=cW e;exact inS (f2.mem_iff.mpr (ag _ ar))
theorem Wd.cut (W:Wd n R) {a b:Nat}(ha:a<n) (hb:b<n) (hab:a≠b) (hm:((a:Int),(b:Int))∈al (R a)) :
  Wd n (λi=>if (i:Int)∈(AR (R a) a b).2 then (AR (R a) a b).2 else if (i:Int)∈(AR (R a) a b).1 then (AR (R a) a b).1 else R i) /\
   ∀ x y,Ed n (λi=>if (i:Int)∈(AR (R a) a b).2 then (AR (R a) a b).2 else if (i:Int)∈(AR (R a) a b).1 then (AR (R a) a b).1 else R i) x y↔(Ed n R x y/\¬ (x,y)=((a:Int),(b:Int))/\¬ (x,y)=((b:Int),(a:Int))):=by
 have hR:=W.r a ha;have P:=hR.parted hm (by lia:(a:Int)≠b);have PM:=P.mem hR;generalize (AR (R a) a b).1=X at P PM;generalize (AR (R a) a b).2=Y at P PM;have nd:=P.pm.nodup_iff.mp hR.nd;have nab:=(bg.mp nd).1;have nba:=(bg.mp (bg.mp nd).2).1;have inr:∀ x∈R a,∃ j:Nat,j<n/\x=(j:Int)/\R j=R a:=W.Ly a ha;have nos:∀ i,i<n->(i:Int)∉R a->∀ x∈R i,x∉R a:=λi hi h x hx hxs=>h (W.same ha hi hxs hx▸W.me i hi);have sw:∀ i:Nat,(i:Int)∈Y->(i:Int)∉X:=λi h=>P.dis _ h;refine ⟨⟨λi hi=>?_,λi hi=>?_,λi hi x hx=>?_⟩,λx y=>⟨?_,?_⟩⟩
 .by_cases c2:(i:Int)∈Y
  .rw [if_pos c2];exact P.y
  .by_cases c1:(i:Int)∈X
   .rw [if_neg c2,if_pos c1];exact P.x
   .rw [if_neg c2,if_neg c1];exact W.r i hi
 .by_cases c2:(i:Int)∈Y
  .rw [if_pos c2];exact c2
  .by_cases c1:(i:Int)∈X
   .rw [if_neg c2,if_pos c1];exact c1
   .rw [if_neg c2,if_neg c1];exact W.me i hi
 .by_cases c2:(i:Int)∈Y
  .simp only [if_pos c2] at hx ⊢;obtain ⟨j,hj,e,_⟩:=inr x ((PM x).mpr (.inr hx));exact ⟨j,hj,e,if_pos (e▸hx)⟩
  .by_cases c1:(i:Int)∈X
   .simp only [if_neg c2,if_pos c1] at hx ⊢;obtain ⟨j,hj,e,_⟩:=inr x ((PM x).mpr (.inl hx));have hjX:(j:Int)∈X:=e▸hx;exact ⟨j,hj,e,by rw [if_neg (λh=>sw j h hjX),if_pos hjX]⟩
   .simp only [if_neg c2,if_neg c1] at hx ⊢;obtain ⟨j,hj,e,er⟩:=W.Ly i hi x hx;have hni:(i:Int)∉R a:=λh=>((PM i).mp h).elim c1 c2;have hnj:(j:Int)∉R a:=λh=>nos i hi hni x hx (e▸h);exact ⟨j,hj,e,by rw [if_neg (λh=>hnj ((PM j).mpr (.inr h))),if_neg (λh=>hnj ((PM j).mpr (.inl h)))];exact er⟩
 .have old:∀ {u v:Int},(u,v)∈al X++al Y->Ed n R u v/\¬ (u,v)=((a:Int),(b:Int))/\¬ (u,v)=((b:Int),(a:Int)):=λ{u v} h =>
   ⟨⟨a,ha,P.pm.mem_iff.mpr (ag _ (ag _ h))⟩,λe=>nab (ag _ (e▸h)),λe=>nba (e▸h)⟩
  rintro ⟨i,hi,h⟩
  by_cases c2:(i:Int)∈Y
  .simp only [if_pos c2] at h;exact old (bx _ h)
  .by_cases c1:(i:Int)∈X
   .simp only [if_neg c2,if_pos c1] at h;exact old (cz _ h)
   .simp only [if_neg c2,if_neg c1] at h;have hni:(i:Int)∉R a:=λh=>((PM i).mp h).elim c1 c2;have hxa:x∉R a:=nos i hi hni x (hV h).1;refine ⟨⟨i,hi,h⟩,λe=>hxa ?_,λe=>hxa ?_⟩
    .rw [(cW e).1];exact W.me a ha
    .rw [(cW e).1];exact (PM _).mpr (.inr P.hb)
 .rintro ⟨h,e1,e2⟩
  by_cases hx:x∈R a
  .have hm:=Ed.at W h ha hx
   rcases aq.mp (P.pm.mem_iff.mp hm) with e|hm
   .exact absurd e e1
   .rcases aq.mp hm with e|hm
    .exact absurd e e2
    .rcases aT.mp hm with q|q
     .refine ⟨a,ha,?_⟩;simp only [if_neg (λh=>sw a h P.ha),if_pos P.ha];exact q
     .refine ⟨b,hb,?_⟩;simp only [if_pos P.hb];exact q
  .obtain ⟨i,hi,hm⟩:=h;have hni:(i:Int)∉R a:=λh=>hx (W.same ha hi h (W.me i hi)▸(hV hm).1);refine ⟨i,hi,?_⟩;simp only [if_neg (λh=>hni ((PM i).mpr (.inr h))),if_neg (λh=>hni ((PM i).mpr (.inl h)))];exact hm
theorem abp {M:Int->Prop}:∀ {l:List Int},(∀ x y,(x,y)∈al l->(M x↔M y))->(∃ a∈l,M a)->∀ x∈l,M x
 | [],_,_,x,hx=>nomatch hx
 | [c],_,⟨a,ha,hM⟩,x,hx=>by
  rw [aC.mp hx,← aC.mp ha];exact hM
 | c::d::t,h,⟨a,ha,hM⟩,x,hx=>by
  have hcd:=h c d (by rw [My];exact ar);have ih:=abp (l:=d::t) λx y hm=>h x y (by rw [My];exact ag _ hm)
  have hd:M d:=by
   rcases aq.mp ha with e|ha
   .exact hcd.mp (e▸hM)
   .exact ih ⟨a,ha,hM⟩ d ar
  rcases aq.mp hx with e|hx
  .rw [e];exact hcd.mpr hd
  .exact ih ⟨d,ar,hd⟩ x hx
theorem few {l:List Int}(hn:l.Nodup) (h:∀ x∈l,∃ j:Nat,j<n/\x=(j:Int)):l.length<=n:=by
 have e:=sj (ds:=(iS n).map λi:Nat=>(i:Int)) (r:=l) (by
  rw [LF,kJ]
  exact List.Pairwise.imp (λh e=>h (by lia)) (LF.mp List.nodup_range)) λx hx=>by
   obtain ⟨j,hj,e⟩:=h x hx;exact bo.mpr ⟨j,Lz.mpr hj,e.symm⟩
 have le:∀ (ds:List Int),(ds.map λd=>l.count d).sum<=ds.length:=λds=>by
  induction ds with
  | nil=>simp
  | cons d ds ih =>
   have:l.count d<=1:=Uo.mp hn d;simp only [cn,BS,b8];lia
 have:=le ((iS n).map λi:Nat=>(i:Int));rw [e] at this
 simpa using this
def Wd.len (W:Wd n R) {i:Nat}(hi:i<n):(R i).length+1<=2*n:=by
 obtain ⟨ds,h1,h2,h3⟩:=(W.r i hi).cnt
 have:=few h1 λx hx=>let ⟨j,hj,e,_⟩:=W.Ly i hi x ((h2 x).mp hx);⟨j,hj,e⟩
 lia
end Rm
namespace Rm
theorem lM.half:∀ (n:Nat) {r:List Int},r.length<=n->lM r->∃ L:List (Int×Int),(al r).Perm (VI L)/\(∀ t∈L,t.1<t.2)/\2*L.length+1=r.length
 | 0,r,hl,h=>absurd (jN (by lia)) h.ne
 | n+1,r,hl,h=>by
  by_cases h1:1<r.length
  .obtain ⟨xs,v,z,ys,rfl,hz⟩:=h.leaf h1;have hvz:v≠z:=λe=>hz (by simp [e]);obtain ⟨L,p,lt,ln⟩:=lM.half n (r:=xs++v::ys) (by simp at hl ⊢;lia) (h.PU hz);have pm:=OL xs ys v z
   rcases Int.lt_or_gt_of_ne hvz with c|c
   .refine ⟨(v,z)::L,pm.trans ?_,λt ht=>?_,by simp at ln ⊢;lia⟩
    .rw [Bh];exact (p.cons _).cons _
    .rcases aq.mp ht with rfl|ht
     .exact c
     .exact lt t ht
   .refine ⟨(z,v)::L,pm.trans ?_,λt ht=>?_,by simp at ln ⊢;lia⟩
    .rw [Bh];exact (Xg _ _ _).trans ((p.cons _).cons _)
    .rcases aq.mp ht with rfl|ht
     .exact c
     .exact lt t ht
  .have:r.length=1:=by have:=AX.mpr h.ne;lia
   obtain ⟨c,rfl⟩:=RF.mp this;exact ⟨[],by simp [al,VI],(λt ht=>nomatch ht),rfl⟩
def ups (r:List Int):List (Int×Int):=(al r).filter λt=>decide (t.1<t.2)
def Yv {r:List Int}{t:Int×Int}:t∈ups r↔t.1<t.2/\t∈al r:=by unfold ups;rw [gG,decide_eq_true_iff];exact And.comm
theorem lM.YR {r:List Int}(h:lM r):2*(ups r).length+1=r.length:=by
 obtain ⟨L,p,lt,ln⟩:=lM.half _ (aB _) h;have hp:=p.filter λt:Int×Int=>decide (t.1<t.2)
 have e:∀ L:List (Int×Int),(∀ t∈L,t.1<t.2)->((VI L).filter λt=>decide (t.1<t.2)).length=L.length:=by
  intro L
  induction L with
  | nil=>intro _;rfl
  | cons t L ih =>
   intro h;have ht:=h t ar;rw [Bh,ui,if_pos (by simpa using ht),ui,if_neg (by simp;lia),b8,b8,ih λu hu=>h u (ag _ hu)]
 have:=hp.length_eq;rw [e L lt] at this;unfold ups;rw [this];exact ln
end Rm
namespace Rm
end Rm
namespace Rm
def lk (R:Nat->List Int) (a b:Nat):Nat->List Int:=λi=>if (i:Int)∈EV (R a) (R b) a b then EV (R a) (R b) a b else R i
def ct (R:Nat->List Int) (a b:Nat):Nat->List Int:=λi=>if (i:Int)∈(AR (R a) a b).2 then (AR (R a) a b).2 else if (i:Int)∈(AR (R a) a b).1 then (AR (R a) a b).1 else R i
theorem QK {r s:List Int}(hr:lM r) (hs:lM s) (h:∀ x∈r,x∈s):r.length<=s.length:=by
 obtain ⟨d,d1,d2,d3⟩:=hr.cnt;obtain ⟨e,e1,e2,e3⟩:=hs.cnt;have q:=sj (ds:=e) (r:=d) e1 λx hx=>(e2 x).mpr (h x ((d2 x).mp hx))
 have le:∀ (ds:List Int),(ds.map λc=>d.count c).sum<=ds.length:=λds=>by
  induction ds with
  | nil=>simp
  | cons c ds ih =>
   have:d.count c<=1:=Uo.mp d1 c;simp only [cn,BS,b8];lia
 have:=le e;lia
section
variable {n:Nat}{R R':Nat->List Int}{x y z a b:Nat}
theorem Wd.sub (W:Wd n R) (W':Wd n R') (h:∀ x y,Ed n R x y->Ed n R' x y) (hx:x<n):∀ c∈R x,c∈R' x :=
 abp (M:=λc=>c∈R' x) (λu v hm =>
  have e:=h u v ⟨x,hx,hm⟩
  ⟨λhu=>(hV (Ed.at W' e hx hu)).2,λhv=>(hV (Ed.at W' (Ed.symm W' e) hx hv)).2⟩) ⟨x,W.me x hx,W'.me x hx⟩
def Wd.sy (W:Wd n R) (hx:x<n) (hy:y<n) (h:(y:Int)∈R x):(x:Int)∈R y:=W.same hx hy h (W.me y hy)▸W.me x hx
def Wd.eq (W:Wd n R) (hx:x<n) (hy:y<n) (h:(y:Int)∈R x):R x=R y:=W.same hx hy h (W.me y hy)
def Wd.lk (W:Wd n R) (ha:a<n) (hb:b<n) (hn:(b:Int)∉R a):Wd n (lk R a b):=(W.link ha hb hn).2.1
def Wd.WY (W:Wd n R) (ha:a<n) (hb:b<n) (hn:(b:Int)∉R a) (x y:Int):Ed n (Rm.lk R a b) x y↔(Ed n R x y\/(x,y)=((a:Int),(b:Int))\/(x,y)=((b:Int),(a:Int))):=(W.link ha hb hn).2.2 x y
theorem Wd.Jo (W:Wd n R) (ha:a<n) (hb:b<n) (hn:(b:Int)∉R a) (h:(x:Int)∈R a\/(x:Int)∈R b):(∀ c,c∈Rm.lk R a b x↔c∈R a\/c∈R b)/\(Rm.lk R a b x).length=(R a).length+(R b).length+1:=by
 have T:=(W.link ha hb hn).1;have e:Rm.lk R a b x=EV (R a) (R b) a b:=if_pos ((T.mem x).mpr h);rw [e];exact ⟨T.mem,T.facts.2.2⟩
def Wd.WL (W:Wd n R) (ha:a<n) (hb:b<n) (hn:(b:Int)∉R a) (h1:(x:Int)∉R a) (h2:(x:Int)∉R b):Rm.lk R a b x=R x :=
 if_neg λh=>((((W.link ha hb hn).1).mem x).mp h).elim h1 h2
def Wd.Z8 (W:Wd n R) (ha:a<n) (hb:b<n) (hn:(b:Int)∉R a) (hx:x<n):∀ c∈R x,c∈Rm.lk R a b x :=
 W.sub (W.lk ha hb hn) (λu v h=>(W.WY ha hb hn u v).mpr (.inl h)) hx
def Wd.ct (W:Wd n R) (ha:a<n) (hb:b<n) (hab:a≠b) (hm:Ed n R a b):Wd n (ct R a b):=(W.cut ha hb hab (Ed.at W hm ha (W.me a ha))).1
def Wd.WT (W:Wd n R) (ha:a<n) (hb:b<n) (hab:a≠b) (hm:Ed n R a b) (x y:Int):Ed n (Rm.ct R a b) x y↔(Ed n R x y/\¬ (x,y)=((a:Int),(b:Int))/\¬ (x,y)=((b:Int),(a:Int))):=(W.cut ha hb hab (Ed.at W hm ha (W.me a ha))).2 x y
theorem Wd.Z3 (W:Wd n R) (ha:a<n) (hb:b<n) (hab:a≠b) (hm:Ed n R a b):(b:Int)∉Rm.ct R a b a/\(∀ c,c∈R a↔c∈Rm.ct R a b a\/c∈Rm.ct R a b b)/\(Rm.ct R a b a).length+(Rm.ct R a b b).length+1=(R a).length:=by
 have hR:=W.r a ha;have P:=hR.parted (Ed.at W hm ha (W.me a ha)) (by lia:(a:Int)≠b);have PM:=P.mem hR;have e1:Rm.ct R a b b=(AR (R a) a b).2:=if_pos P.hb
 have e2:Rm.ct R a b a=(AR (R a) a b).1:=by
  show (if _ then _ else if _ then _ else _)=_
  rw [if_neg λh=>P.dis _ h P.ha,if_pos P.ha]
 rw [e1,e2];exact ⟨P.dis _ P.hb,PM,P.len⟩
theorem Wd.abJ (W:Wd n R) (ha:a<n) (hb:b<n) (hab:a≠b) (hm:Ed n R a b) (h:(x:Int)∉R a):Rm.ct R a b x=R x:=by
 have hR:=W.r a ha;have PM:=(hR.parted (Ed.at W hm ha (W.me a ha)) (by lia:(a:Int)≠b)).mem hR
 show (if _ then _ else if _ then _ else _)=_
 rw [if_neg λq=>h ((PM _).mpr (.inr q)),if_neg λq=>h ((PM _).mpr (.inl q))]
end
structure Ti where
 x:Nat
 y:Nat
 dj:Nat
 wd:Bool
def Ti.key (t:Ti):Int×Int:=((t.x:Int),(t.y:Int))
def Ti.Is (t:Ti) (u v:Int):Prop:=(u,v)=((t.x:Int),(t.y:Int))\/(u,v)=((t.y:Int),(t.x:Int))
def Ti.up (t:Ti):Ti:={ t with dj:=t.dj+1 }
def Ti.yQ (t:Ti):Ti:={ t with wd:=true }
def Ti.WV {t u:Ti}(h:t.key=u.key):t.x=u.x/\t.y=u.y:=by
 obtain ⟨h1,h2⟩:=cW h;lia
def Ti.yG {t u:Ti}(ht:t.x<t.y) (hu:u.x<u.y) (h:t.Is u.x u.y):t.key=u.key:=by
 rcases h with h|h<;>obtain ⟨h1,h2⟩:=cW h
 .exact Ul h1.symm h2.symm
 .lia
def Ti.Rc {t:Ti}{u v:Int}:t.Is u v->t.Is v u:=λh=>h.elim (λh=>.inr (by rw [Lu] at h ⊢;exact ⟨h.2,h.1⟩)) (λh=>.inl (by rw [Lu] at h ⊢;exact ⟨h.2,h.1⟩))
structure Lv (n T:Nat) (ts:List Ti) (R:Nat->Nat->List Int):Prop where
 wd:∀ i,i<=T->Wd n (R i)
 ed:∀ i,i<=T->∀ u v:Int,Ed n (R i) u v↔∃ t∈ts,t.wd=true/\i<=t.dj/\t.Is u v
 sz:∀ i,i<=T->∀ x,x<n->((R i x).length+1)*2^i<=2*n
 lt:∀ t∈ts,t.x<t.y/\t.y<n/\t.dj<=T
 nd:(ts.map Ti.key).Nodup
def Jn (ts:List Ti) (R:Nat->Nat->List Int):Prop:=∀ t∈ts,(t.y:Int)∈R t.dj t.x
theorem qD {ts:List Ti}(h:(ts.map Ti.key).Nodup) {t u:Ti}(ht:t∈ts) (hu:u∈ts) (e:t.key=u.key):t=u:=by
 induction ts with
 | nil=>nomatch ht
 | cons s ts ih =>
  rw [cn,bg] at h
  rcases aq.mp ht with rfl|ht'<;>rcases aq.mp hu with rfl|hu'
  .rfl
  .exact absurd (e▸aW hu') h.1
  .exact absurd (e▸aW ht') h.1
  .exact ih h.2 ht' hu'
def i6 (ts:List Ti) (k:Int×Int) (f:Ti->Ti):List Ti:=ts.map λt=>if t.key=k then f t else t
section
variable {n T:Nat}{ts:List Ti}{R:Nat->Nat->List Int}{t:Ti}{f:Ti->Ti}
def ko (hf:∀ t,(f t).key=t.key) (k:Int×Int):(i6 ts k f).map Ti.key=ts.map Ti.key:=by
 unfold i6;rw [bz]
 exact jl λu _=>by
  show Ti.key (if _ then _ else _)=_
  split
  .exact hf u
  .rfl
theorem mn (hnd:(ts.map Ti.key).Nodup) (ht:t∈ts) (u:Ti):u∈i6 ts t.key f↔u=f t\/(u∈ts/\u.key≠t.key):=by
 unfold i6;rw [bo]
 constructor
 .rintro ⟨v,hv,e⟩
  by_cases c:v.key=t.key
  .rw [if_pos c] at e;rw [qD hnd hv ht c] at e;exact .inl e.symm
  .rw [if_neg c] at e;subst e;exact .inr ⟨hv,c⟩
 .rintro (e|⟨h,c⟩)
  .exact ⟨t,ht,by rw [if_pos rfl,e]⟩
  .exact ⟨u,h,if_neg c⟩
theorem Lv.mono (L:Lv n T ts R) {i j x:Nat}(hij:i<=j) (hj:j<=T) (hx:x<n):∀ c∈R j x,c∈R i x :=
 (L.wd j hj).sub (L.wd i (bF hij hj)) (λu v h=>by
  obtain ⟨t,h1,h2,h3,h4⟩:=(L.ed j hj u v).mp h
  exact (L.ed i (bF hij hj) u v).mpr ⟨t,h1,h2,bF hij h3,h4⟩) hx
theorem Lv.apart (L:Lv n T ts R) (ht:t∈ts) (hw:t.wd=true) {i:Nat}(hi:t.dj<i) (hT:i<=T):(t.y:Int)∉R i t.x:=by
 obtain ⟨h1,h2,h3⟩:=L.lt t ht;have W:=L.wd t.dj h3;have e:Ed n (R t.dj) t.x t.y:=(L.ed _ h3 _ _).mpr ⟨t,ht,hw,aB _,.inl rfl⟩;have c:=W.Z3 (a:=t.x) (b:=t.y) (by lia) h2 (by lia) e;intro hin;refine c.1 ((L.wd i hT).sub (W.ct (a:=t.x) (b:=t.y) (by lia) h2 (by lia) e) (λu v h=>?_) (by lia) _ hin);obtain ⟨s,s1,s2,s3,s4⟩:=(L.ed i hT u v).mp h
 have ne:¬ t.Is u v:=λq=>by
  have:s.key=t.key:=by
   obtain ⟨l1,l2,l3⟩:=L.lt s s1
   rcases q with q|q<;>obtain ⟨rfl,rfl⟩:=cW q
   .exact Ti.yG l1 h1 s4
   .exact Ti.yG l1 h1 (Ti.Rc s4)
  rw [qD L.nd s1 ht this] at s3;lia
 exact (W.WT (a:=t.x) (b:=t.y) (by lia) h2 (by lia) e u v).mpr ⟨(L.ed _ h3 u v).mpr ⟨s,s1,s2,by lia,s4⟩,λq=>ne (.inl q),λq=>ne (.inr q)⟩
def upR (R:Nat->Nat->List Int) (j x y:Nat):Nat->Nat->List Int:=λi=>if i=j then lk (R j) x y else R i
def NZ (R:Nat->Nat->List Int) (l x y:Nat):Nat->Nat->List Int:=λi=>if i<=l then lk (R i) x y else R i
def drR (R:Nat->Nat->List Int) (l x y:Nat):Nat->Nat->List Int:=λi=>if i<=l then ct (R i) x y else R i
theorem Lv.yG (L:Lv n T ts R) {s:Ti}(hs:s∈ts) (ht:t∈ts) {u v:Int}(h1:s.Is u v) (h2:t.Is u v):s=t:=by
 refine qD L.nd hs ht ?_
 rcases h2 with q|q<;>obtain ⟨rfl,rfl⟩:=cW q
 .exact Ti.yG (L.lt s hs).1 (L.lt t ht).1 h1
 .exact Ti.yG (L.lt s hs).1 (L.lt t ht).1 (Ti.Rc h1)
structure Dn (n T:Nat) (ts:List Ti) (R:Nat->Nat->List Int) (a b k:Nat):Prop where
 lv:Lv n T ts R
 ha:a<n
 hb:b<n
 hk:k<=T+1
 ap:(b:Int)∉R 0 a
 s2:∀ i,i<k->((R i a).length+(R i b).length+2)*2^i<=2*n
 jn:∀ t∈ts,(t.y:Int)∈R t.dj t.x\/(t.dj<k/\((t.x:Int)∈R t.dj a/\(t.y:Int)∈R t.dj b\/(t.x:Int)∈R t.dj b/\(t.y:Int)∈R t.dj a))
variable {a b k l:Nat}
def Dn.swap (D:Dn n T ts R a b k):Dn n T ts R b a k :=
 ⟨D.lv,D.hb,D.ha,D.hk,λh=>D.ap ((D.lv.wd 0 (bA _)).sy D.hb D.ha h),λi hi=>by have:=D.s2 i hi;rwa [T7 (R i b).length],λt ht=>(D.jn t ht).imp_right λh=>⟨h.1,h.2.symm⟩⟩
def Dn.done (D:Dn n T ts R a b 0):Jn ts R:=λt ht=>(D.jn t ht).resolve_right λh=>by lia
def Dn.apart (D:Dn n T ts R a b k) {i:Nat}(hi:i<=T):(b:Int)∉R i a:=λh=>D.ap (D.lv.mono (bA _) hi D.ha _ h)
theorem Lv.drop (L:Lv n T ts R) (J:Jn ts R) (ht:t∈ts) (hw:t.wd=true):Dn n T (ts.filter λu=>decide (u.key≠t.key)) (drR R t.dj t.x t.y) t.x t.y (t.dj+1):=by
 obtain ⟨h1,h2,h3⟩:=L.lt t ht
 have hx:t.x<n:=by lia
 have hne:t.x≠t.y:=by lia
 have e:∀ i,i<=t.dj->Ed n (R i) t.x t.y:=λi hi=>(L.ed i (by lia) _ _).mpr ⟨t,ht,hw,hi,.inl rfl⟩;have lo:∀ i,i<=t.dj->drR R t.dj t.x t.y i=ct (R i) t.x t.y:=λi hi=>if_pos hi;have hi':∀ i,¬ i<=t.dj->drR R t.dj t.x t.y i=R i:=λi hi=>if_neg hi
 have mm:∀ u,u∈ts.filter (λu=>decide (u.key≠t.key))↔u∈ts/\u≠t:=λu=>by
  rw [gG,decide_eq_true_iff];exact and_congr_right λhu=>not_congr ⟨λq=>qD L.nd hu ht q,λq=>q▸rfl⟩
 have C:=λi (hi:i<=t.dj)=>(L.wd i (by lia)).Z3 hx h2 hne (e i hi);refine ⟨⟨λi hi=>?_,λi hi u v=>?_,λi hi x hx'=>?_,λu hu=>L.lt u ((mm u).mp hu).1,?_⟩,hx,h2,by lia,?_,λi hi=>?_,λu hu=>?_⟩
 .by_cases c:i<=t.dj
  .rw [lo i c];exact (L.wd i hi).ct hx h2 hne (e i c)
  .rw [hi' i c];exact L.wd i hi
 .by_cases c:i<=t.dj
  .rw [lo i c,(L.wd i hi).WT hx h2 hne (e i c),L.ed i hi]
   constructor
   .rintro ⟨⟨s,s1,s2,s3,s4⟩,n1,n2⟩;exact ⟨s,(mm s).mpr ⟨s1,λq=>(q▸s4).elim n1 n2⟩,s2,s3,s4⟩
   .rintro ⟨s,s1,s2,s3,s4⟩;have s5:=(mm s).mp s1;exact ⟨⟨s,s5.1,s2,s3,s4⟩,λq=>s5.2 (L.yG s5.1 ht s4 (.inl q)),λq=>s5.2 (L.yG s5.1 ht s4 (.inr q))⟩
  .rw [hi' i c,L.ed i hi]
   constructor
   .rintro ⟨s,s1,s2,s3,s4⟩;exact ⟨s,(mm s).mpr ⟨s1,λq=>c (q▸s3)⟩,s2,s3,s4⟩
   .rintro ⟨s,s1,s2⟩;exact ⟨s,((mm s).mp s1).1,s2⟩
 .refine bF (pW _ (jH ?_)) (L.sz i hi x hx')
  by_cases c:i<=t.dj
  .rw [lo i c];have W':=(L.wd i hi).ct hx h2 hne (e i c);exact QK (W'.r x hx') ((L.wd i hi).r x hx') (W'.sub (L.wd i hi) (λu v q=>(((L.wd i hi).WT hx h2 hne (e i c) u v).mp q).1) hx')
  .rw [hi' i c];exact aB _
 .exact (yV _ lP).nodup L.nd
 .rw [lo 0 (bA _)];exact (C 0 (bA _)).1
 .rw [lo i (by lia)];have:=(C i (by lia)).2.2;have:=L.sz i (by lia) t.x hx
  have e:(ct (R i) t.x t.y t.x).length+(ct (R i) t.x t.y t.y).length+2=(R i t.x).length+1:=by lia
  rw [e];exact this
 .obtain ⟨q1,q2⟩:=(mm u).mp hu;have j:=J u q1;obtain ⟨u1,u2,u3⟩:=L.lt u q1
  by_cases c:u.dj<=t.dj
  .rw [lo _ c];have W:=L.wd _ u3;have W':=W.ct hx h2 hne (e _ c)
   by_cases d:(u.x:Int)∈R u.dj t.x
   .have d':(u.y:Int)∈R u.dj t.x:=by rw [W.eq hx (by lia) d];exact j
    rcases ((C _ c).2.1 _).mp d with p|p<;>rcases ((C _ c).2.1 _).mp d' with p'|p'
    .exact .inl (by rw [← W'.eq hx (by lia) p];exact p')
    .exact .inr ⟨by lia,.inl ⟨p,p'⟩⟩
    .exact .inr ⟨by lia,.inr ⟨p,p'⟩⟩
    .exact .inl (by rw [← W'.eq h2 (by lia) p];exact p')
   .rw [W.abJ hx h2 hne (e _ c) d];exact .inl j
  .rw [hi' _ c];exact .inl j
theorem Dn.few (D:Dn n T ts R a b (l+1)) (hT:∀ j,2^(j+1)<=n->j<=T) (hs:((R l a).length+1)*2^(l+1)<=2*n) {x y:Nat}(hx:(x:Int)∈R l a) (hy:(y:Int)∈R l a) (hxy:x≠y):l+1<=T:=by
 have hl:l<=T:=by have:=D.hk;lia
 obtain ⟨d,d1,d2,d3⟩:=((D.lv.wd l hl).r a D.ha).cnt
 have:2<=d.length:=by
  have hx':=(d2 _).mpr hx;have hy':=(d2 _).mpr hy
  match d,d1,hx',hy' with
  | [c],_,hx',hy' =>
   rw [aC] at hx' hy'
   lia
  | c::e::r,_,_,_=>simp
 refine hT _ ?_;have h4:4*2^(l+1)<=((R l a).length+1)*2^(l+1):=pW _ (by lia);have:=T8 2 (l+1);lia
theorem Dn.adu (D:Dn n T ts R a b (l+1)) (hT:∀ j,2^(j+1)<=n->j<=T) (hs:((R l a).length+1)*2^(l+1)<=2*n) (ht:t∈ts) (hw:t.wd=true) (hl:t.dj=l) (hx:(t.x:Int)∈R l a) (hy:(t.y:Int)∈R l a) :
  l+1<=T/\(t.y:Int)∉R (l+1) t.x/\Dn n T (i6 ts t.key Ti.up) (upR R (l+1) t.x t.y) a b (l+1):=by
 have L:=D.lv;obtain ⟨h1,h2,h3⟩:=L.lt t ht;have hl1:l+1<=T:=D.few hT hs hx hy (by lia);have hap:=L.apart ht hw (i:=l+1) (by lia) hl1
 have hxn:t.x<n:=by lia
 have W:=L.wd _ hl1;have hi':∀ i,i≠l+1->upR R (l+1) t.x t.y i=R i:=λi hi=>if_neg hi;have at':upR R (l+1) t.x t.y (l+1)=lk (R (l+1)) t.x t.y:=if_pos rfl;have mm:=mn (f:=Ti.up) L.nd ht;have kk:∀ u,u∈ts->u≠t->u.key≠t.key:=λu hu hne q=>hne (qD L.nd hu ht q);have lo:=L.wd l (by lia);refine ⟨hl1,hap,⟨λi hi=>?_,λi hi u v=>?_,λi hi x hx'=>?_,λu hu=>?_,?_⟩,D.ha,D.hb,D.hk,?_,λi hi=>?_,λu hu=>?_⟩
 .by_cases c:i=l+1
  .subst c;rw [at'];exact W.lk hxn h2 hap
  .rw [hi' i c];exact L.wd i hi
 .have:(∃ s∈i6 ts t.key Ti.up,s.wd=true/\i<=s.dj/\s.Is u v)↔(i<=l+1/\t.Is u v)\/∃ s∈ts,s≠t/\s.wd=true/\i<=s.dj/\s.Is u v:=by
   constructor
   .rintro ⟨s,s1,s2⟩
    rcases (mm s).mp s1 with rfl|⟨q1,q2⟩
    .exact .inl ⟨by have:i<=t.dj+1:=s2.2.1;lia,s2.2.2⟩
    .exact .inr ⟨s,q1,λq=>q2 (q▸rfl),s2⟩
   .rintro (⟨q1,q2⟩|⟨s,s1,s2,s3⟩)
    .exact ⟨t.up,(mm _).mpr (.inl rfl),hw,by show i<=t.dj+1;lia,q2⟩
    .exact ⟨s,(mm _).mpr (.inr ⟨s1,kk s s1 s2⟩),s3⟩
  rw [this]
  have old:Ed n (R i) u v↔(i<=l/\t.Is u v)\/∃ s∈ts,s≠t/\s.wd=true/\i<=s.dj/\s.Is u v:=by
   rw [L.ed i hi]
   constructor
   .rintro ⟨s,s1,s2,s3,s4⟩
    by_cases q:s=t
    .subst q;exact .inl ⟨by lia,s4⟩
    .exact .inr ⟨s,s1,q,s2,s3,s4⟩
   .rintro (⟨q1,q2⟩|⟨s,s1,s2,s3⟩)
    .exact ⟨t,ht,hw,by lia,q2⟩
    .exact ⟨s,s1,s3⟩
  by_cases c:i=l+1
  .subst c;rw [at',W.WY hxn h2 hap,old]
   constructor
   .rintro ((⟨q,_⟩|q)|q)
    .lia
    .exact .inr q
    .exact .inl ⟨aB _,q⟩
   .rintro (⟨_,q⟩|q)
    .exact .inr q
    .exact .inl (.inr q)
  .rw [hi' i c,old];exact or_congr_left (and_congr_left λ_=>by lia)
 .by_cases c:i=l+1
  .subst c;rw [at']
   by_cases d:(x:Int)∈R (l+1) t.x\/(x:Int)∈R (l+1) t.y
   .refine bF (pW _ (jH ?_)) hs;refine QK ((W.lk hxn h2 hap).r x hx') (lo.r a D.ha) λc hc=>?_
    rcases ((W.Jo hxn h2 hap d).1 c).mp hc with q|q
    .rw [lo.eq D.ha hxn hx];exact L.mono (ij l) hl1 hxn _ q
    .rw [lo.eq D.ha h2 hy];exact L.mono (ij l) hl1 h2 _ q
   .rw [W.WL hxn h2 hap (λq=>d (.inl q)) (λq=>d (.inr q))];exact L.sz _ hi x hx'
  .rw [hi' i c];exact L.sz i hi x hx'
 .rcases (mm u).mp hu with rfl|⟨q,_⟩
  .exact ⟨h1,h2,by show t.dj+1<=T;lia⟩
  .exact L.lt u q
 .exact (ko (f:=Ti.up) (λ_=>rfl) t.key).symm▸L.nd
 .rw [hi' 0 (by lia)];exact D.ap
 .rw [hi' i (by lia)];exact D.s2 i hi
 .rcases (mm u).mp hu with rfl|⟨q,_⟩
  .have:t.up.dj=l+1:=by show t.dj+1=l+1;lia
   rw [this,at'];exact .inl (((W.Jo (x:=t.x) hxn h2 hap (.inl (W.me _ hxn))).1 _).mpr (.inr (W.me _ h2)))
  .have j:=D.jn u q;obtain ⟨u1,u2,u3⟩:=L.lt u q
   by_cases c:u.dj=l+1
   .rw [c] at j ⊢;rw [at'];exact .inl (W.Z8 hxn h2 hap (by lia) _ (j.resolve_right λq=>by lia))
   .rw [hi' _ c];exact j
theorem Dn.full (D:Dn n T ts R a b (l+1)) (hno:∀ t∈ts,t.wd=true->t.dj=l->(t.x:Int)∈R l a->(t.y:Int)∈R l a->False) (hl:l+1<=T) {x y:Nat}(hx:x<n) (hy:y<n) (h1:(x:Int)∈R l a) (h2:(y:Int)∈R l a):(y:Int)∈R (l+1) x:=by
 have L:=D.lv;have W:=L.wd l (by lia);have V:=L.wd (l+1) hl;have e:=W.eq D.ha hx h1;refine abp (M:=λc=>c∈R (l+1) x) (l:=R l a) (λu v hm=>?_) ⟨x,h1,V.me x hx⟩ y h2;obtain ⟨t,t1,t2,t3,t4⟩:=(L.ed l (by lia) u v).mp ⟨a,D.ha,hm⟩;have m:=hV hm
 have ne:t.dj≠l:=λq=>by
  rcases t4 with p|p<;>obtain ⟨rfl,rfl⟩:=cW p
  .exact hno t t1 t2 q m.1 m.2
  .exact hno t t1 t2 q m.2 m.1
 have E:Ed n (R (l+1)) u v:=(L.ed _ hl u v).mpr ⟨t,t1,t2,by lia,t4⟩;exact ⟨λhu=>(hV (Ed.at V E hx hu)).2,λhv=>(hV (Ed.at V (Ed.symm V E) hx hv)).2⟩
theorem Dn.adw (D:Dn n T ts R a b (l+1)) (ht:t∈ts) (hw:t.wd=false) (hl:t.dj=l) (hl1:l+1<=T) (hj:(t.y:Int)∈R (l+1) t.x):Dn n T (i6 ts t.key Ti.up) R a b (l+1):=by
 have L:=D.lv;obtain ⟨h1,h2,h3⟩:=L.lt t ht;have mm:=mn (f:=Ti.up) L.nd ht;have kk:∀ u,u∈ts->u≠t->u.key≠t.key:=λu hu hne q=>hne (qD L.nd hu ht q);refine ⟨⟨L.wd,λi hi u v=>?_,L.sz,λu hu=>?_,?_⟩,D.ha,D.hb,D.hk,D.ap,D.s2,λu hu=>?_⟩
 .rw [L.ed i hi]
  constructor
  .rintro ⟨s,s1,s2,s3⟩;exact ⟨s,(mm s).mpr (.inr ⟨s1,kk s s1 λq=>by rw [q,hw] at s2;exact absurd s2 (by decide)⟩),s2,s3⟩
  .rintro ⟨s,s1,s2,s3⟩
   rcases (mm s).mp s1 with rfl|⟨q,_⟩
   .exact absurd (hw.symm.trans s2) (by decide)
   .exact ⟨s,q,s2,s3⟩
 .rcases (mm u).mp hu with rfl|⟨q,_⟩
  .exact ⟨h1,h2,by show t.dj+1<=T;lia⟩
  .exact L.lt u q
 .exact (ko (f:=Ti.up) (λ_=>rfl) t.key).symm▸L.nd
 .rcases (mm u).mp hu with rfl|⟨q,_⟩
  .have:t.up.dj=l+1:=by show t.dj+1=l+1;lia
   rw [this];exact .inl hj
  .exact D.jn u q
theorem Dn.next (D:Dn n T ts R a b (l+1)) (hno:∀ t∈ts,t.wd=false->t.dj=l->¬ ((t.x:Int)∈R l a/\(t.y:Int)∉R l a)/\¬ ((t.x:Int)∉R l a/\(t.y:Int)∈R l a)):Dn n T ts R a b l:=by
 have L:=D.lv
 have hl:l<=T:=by have:=D.hk;lia
 refine ⟨L,D.ha,D.hb,by lia,D.ap,λi hi=>D.s2 i (by lia),λt ht=>?_⟩;obtain ⟨h1,h2,h3⟩:=L.lt t ht
 rcases D.jn t ht with j|⟨j1,j2⟩
 .exact .inl j
 .by_cases c:t.dj=l
  .cases hw:t.wd with
   | true =>
    have E:Ed n (R t.dj) t.x t.y:=(L.ed _ h3 _ _).mpr ⟨t,ht,hw,aB _,.inl rfl⟩
    exact .inl (hV (Ed.at (L.wd _ h3) E (by lia) ((L.wd _ h3).me _ (by lia)))).2
   | false =>
    have q:=hno t ht hw c;have W:=L.wd l hl;have ap:∀ z:Int,z∈R l a->z∉R l b:=λz q1 q2=>D.apart hl (by rw [W.same D.ha D.hb q1 q2];exact W.me b D.hb);rw [c] at j2
    rcases j2 with ⟨p1,p2⟩|⟨p1,p2⟩
    .exact absurd ⟨p1,λp=>ap _ p p2⟩ q.1
    .exact absurd ⟨λp=>ap _ p p1,p2⟩ q.2
  .exact .inr ⟨by lia,j2⟩
theorem Lv.adopt (L:Lv n T ts R) (ht:t∈ts) (hw:t.wd=false) (hap:∀ i,i<=t.dj->(t.y:Int)∉R i t.x) (hs:∀ i,i<=t.dj->((R i t.x).length+(R i t.y).length+2)*2^i<=2*n):Lv n T (i6 ts t.key Ti.yQ) (NZ R t.dj t.x t.y):=by
 obtain ⟨h1,h2,h3⟩:=L.lt t ht
 have hxn:t.x<n:=by lia
 have mm:=mn (f:=Ti.yQ) L.nd ht;have kk:∀ u,u∈ts->u≠t->u.key≠t.key:=λu hu hne q=>hne (qD L.nd hu ht q);have lo:∀ i,i<=t.dj->NZ R t.dj t.x t.y i=lk (R i) t.x t.y:=λi hi=>if_pos hi;have hi':∀ i,¬ i<=t.dj->NZ R t.dj t.x t.y i=R i:=λi hi=>if_neg hi;refine ⟨λi hi=>?_,λi hi u v=>?_,λi hi x hx'=>?_,λu hu=>?_,?_⟩
 .by_cases c:i<=t.dj
  .rw [lo i c];exact (L.wd i hi).lk hxn h2 (hap i c)
  .rw [hi' i c];exact L.wd i hi
 .have:(∃ s∈i6 ts t.key Ti.yQ,s.wd=true/\i<=s.dj/\s.Is u v)↔(∃ s∈ts,s.wd=true/\i<=s.dj/\s.Is u v)\/(i<=t.dj/\t.Is u v):=by
   constructor
   .rintro ⟨s,s1,s2⟩
    rcases (mm s).mp s1 with rfl|⟨q1,q2⟩
    .exact .inr ⟨s2.2.1,s2.2.2⟩
    .exact .inl ⟨s,q1,s2⟩
   .rintro (⟨s,s1,s2,s3⟩|⟨q1,q2⟩)
    .exact ⟨s,(mm _).mpr (.inr ⟨s1,kk s s1 λq=>by rw [q,hw] at s2;exact absurd s2 (by decide)⟩),s2,s3⟩
    .exact ⟨t.yQ,(mm _).mpr (.inl rfl),rfl,q1,q2⟩
  rw [this,← L.ed i hi]
  by_cases c:i<=t.dj
  .rw [lo i c,(L.wd i hi).WY hxn h2 (hap i c)];exact or_congr_right ⟨λq=>⟨c,q⟩,λq=>q.2⟩
  .rw [hi' i c];exact ⟨.inl,λq=>q.elim id λq=>absurd q.1 c⟩
 .by_cases c:i<=t.dj
  .rw [lo i c]
   by_cases d:(x:Int)∈R i t.x\/(x:Int)∈R i t.y
   .rw [((L.wd i hi).Jo hxn h2 (hap i c) d).2];exact hs i c
   .rw [(L.wd i hi).WL hxn h2 (hap i c) (λq=>d (.inl q)) (λq=>d (.inr q))];exact L.sz _ hi x hx'
  .rw [hi' i c];exact L.sz i hi x hx'
 .rcases (mm u).mp hu with rfl|⟨q,_⟩
  .exact ⟨h1,h2,h3⟩
  .exact L.lt u q
 .exact (ko (f:=Ti.yQ) (λ_=>rfl) t.key).symm▸L.nd
theorem Lv.NL (L:Lv n T ts R) (ht:t∈ts) (hap:∀ i,i<=t.dj->(t.y:Int)∉R i t.x) {i x:Nat}(hi:i<=T) (hx:x<n):∀ c∈R i x,c∈NZ R t.dj t.x t.y i x:=by
 obtain ⟨h1,h2,h3⟩:=L.lt t ht
 by_cases c:i<=t.dj
 .have e:NZ R t.dj t.x t.y i=lk (R i) t.x t.y:=if_pos c;rw [e];exact (L.wd i hi).Z8 (by lia) h2 (hap i c) hx
 .have e:NZ R t.dj t.x t.y i=R i:=if_neg c;rw [e];exact λ_ h=>h
theorem Dn.adopt (D:Dn n T ts R a b (l+1)) (ht:t∈ts) (hw:t.wd=false) (hl:t.dj=l) (h:(t.x:Int)∈R l a/\(t.y:Int)∉R l a\/(t.x:Int)∉R l a/\(t.y:Int)∈R l a) :
  (∀ i,i<=t.dj->(t.y:Int)∉R i t.x)/\Lv n T (i6 ts t.key Ti.yQ) (NZ R t.dj t.x t.y)/\Jn (i6 ts t.key Ti.yQ) (NZ R t.dj t.x t.y):=by
 have L:=D.lv;obtain ⟨h1,h2,h3⟩:=L.lt t ht
 have hxn:t.x<n:=by lia
 have W:=L.wd t.dj h3
 have j:(t.x:Int)∈R t.dj a/\(t.y:Int)∈R t.dj b\/(t.x:Int)∈R t.dj b/\(t.y:Int)∈R t.dj a:=by
  rcases D.jn t ht with j|j
  .rw [← hl] at h
   rcases h with ⟨p1,p2⟩|⟨p1,p2⟩
   .exact absurd (by rw [W.eq D.ha hxn p1];exact j) p2
   .exact absurd (by rw [W.eq D.ha h2 p2];exact W.sy hxn h2 j) p1
  .exact j.2
 -- at each lower level the one end is on the one side,the other on the other
 have j':∀ i,i<=t.dj->(R i t.x=R i a/\R i t.y=R i b)\/(R i t.x=R i b/\R i t.y=R i a):=λi hi=>by
  have V:=L.wd i (by lia)
  rcases j with ⟨p1,p2⟩|⟨p1,p2⟩
  .exact .inl ⟨(V.eq D.ha hxn (L.mono hi h3 D.ha _ p1)).symm,(V.eq D.hb h2 (L.mono hi h3 D.hb _ p2)).symm⟩
  .exact .inr ⟨(V.eq D.hb hxn (L.mono hi h3 D.hb _ p1)).symm,(V.eq D.ha h2 (L.mono hi h3 D.ha _ p2)).symm⟩
 have hap:∀ i,i<=t.dj->(t.y:Int)∉R i t.x:=λi hi q=>by
  have V:=L.wd i (by lia);have e:=V.eq hxn h2 q;have n:=D.apart (i:=i) (by lia)
  rcases j' i hi with ⟨p1,p2⟩|⟨p1,p2⟩
  .exact n (by rw [← p1,e,p2];exact V.me b D.hb)
  .exact n (by rw [← p2,← e,p1];exact V.me b D.hb)
 have L':=L.adopt ht hw hap λi hi=>by
  have:=D.s2 i (by lia)
  rcases j' i hi with ⟨p1,p2⟩|⟨p1,p2⟩
  .rw [p1,p2];exact this
  .rw [p1,p2,T7 (R i b).length];exact this
 refine ⟨hap,L',λu hu=>?_⟩
 have lo:∀ i,i<=t.dj->∀ z:Nat,(z:Int)∈R i t.x\/(z:Int)∈R i t.y->∀ c,c∈NZ R t.dj t.x t.y i z↔c∈R i t.x\/c∈R i t.y:=λi hi z hz=>by
  have:NZ R t.dj t.x t.y i=lk (R i) t.x t.y:=if_pos hi;rw [this];exact ((L.wd i (by lia)).Jo hxn h2 (hap i hi) hz).1
 rcases (mn (f:=Ti.yQ) L.nd ht u).mp hu with rfl|⟨q,_⟩
 .exact (lo t.dj (aB _) t.x (.inl (W.me _ hxn)) _).mpr (.inr (W.me _ h2))
 .obtain ⟨u1,u2,u3⟩:=L.lt u q
  rcases D.jn u q with j|⟨k1,k2⟩
  .exact L.NL ht hap u3 (by lia) _ j
  .have V:=L.wd _ u3
   have c:u.dj<=t.dj:=by lia
   rcases j' _ c with ⟨p1,p2⟩|⟨p1,p2⟩<;>rcases k2 with ⟨k3,k4⟩|⟨k3,k4⟩<;>rw [← p1] at *<;>rw [← p2] at *
   .exact (lo _ c _ (.inl k3) _).mpr (.inr k4)
   .exact (lo _ c _ (.inr k3) _).mpr (.inl k4)
   .exact (lo _ c _ (.inr k3) _).mpr (.inl k4)
   .exact (lo _ c _ (.inl k3) _).mpr (.inr k4)
theorem Lv.adm (L:Lv n T ts R) (J:Jn ts R) (ht:t∈ts) (hw:t.wd=false):Lv n T (ts.filter λu=>decide (u.key≠t.key)) R/\Jn (ts.filter λu=>decide (u.key≠t.key)) R:=by
 have mm:∀ u,u∈ts.filter (λu=>decide (u.key≠t.key))↔u∈ts/\u≠t:=λu=>by
  rw [gG,decide_eq_true_iff];exact and_congr_right λhu=>not_congr ⟨λq=>qD L.nd hu ht q,λq=>q▸rfl⟩
 refine ⟨⟨L.wd,λi hi u v=>?_,L.sz,λu hu=>L.lt u ((mm u).mp hu).1,(yV _ lP).nodup L.nd⟩,λu hu=>J u ((mm u).mp hu).1⟩;rw [L.ed i hi]
 constructor
 .rintro ⟨s,s1,s2,s3⟩;exact ⟨s,(mm s).mpr ⟨s1,λq=>by rw [q,hw] at s2;exact absurd s2 (by decide)⟩,s2,s3⟩
 .rintro ⟨s,s1,s2⟩;exact ⟨s,((mm s).mp s1).1,s2⟩
theorem Lv.put (L:Lv n T ts R) {x y:Nat}(hxy:x<y) (hy:y<n) (hk:((x:Int),(y:Int))∉ts.map Ti.key):Lv n T (ts++[⟨x,y,0,false⟩]) R:=by
 refine ⟨L.wd,λi hi u v=>?_,L.sz,λu hu=>?_,?_⟩
 .rw [L.ed i hi]
  constructor
  .rintro ⟨s,s1,s2⟩;exact ⟨s,cz _ s1,s2⟩
  .rintro ⟨s,s1,s2,s3⟩
   rcases aT.mp s1 with q|q
   .exact ⟨s,q,s2,s3⟩
   .rw [aC.mp q] at s2;exact absurd s2 bI
 .rcases aT.mp hu with q|q
  .exact L.lt u q
  .rw [aC.mp q];exact ⟨hxy,hy,bA _⟩
 .rw [aP,fu];exact ⟨L.nd,by simp,λp hp q hq e=>hk (by rw [qS,aC] at hq;have e2:p=((x:Int),(y:Int)):=e.trans hq;rw [← e2];exact hp)⟩
theorem Lv.start (n T:Nat) (hn:2^(T+1)<=n\/T=0):Lv n T [] (λ_ i=>[(i:Int)]) :=
 ⟨λi _=>Wd.start n,λi _ u v=>⟨λ⟨j,_,hm⟩=>by simp [al] at hm,λ⟨t,h,_⟩=>nomatch h⟩,λi hi x hx=>by
  show 2*2^i<=2*n
  refine Nat.mul_le_mul_left 2 ?_
  rcases hn with h|h
  .exact bF (AO (by decide) (by lia)) h
  .have:i=0:=by lia
   subst this
   simp;lia,(λt h=>nomatch h),jr⟩
theorem OM {α:Type} [DecidableEq α]:∀ {l m:List α},l.Nodup->(∀ x∈l,x∈m)->l.length<=m.length
 | [],m,_,_=>bA _
 | a::l,m,hn,h=>by
  obtain ⟨h1,h2⟩:=bg.mp hn;have hm:=h a ar;have:=OM (l:=l) (m:=m.erase a) h2 λx hx=>(List.mem_erase_of_ne (λe:x=a=>h1 (e▸hx))).mpr (h x (ag _ hx));rw [Oc hm] at this;have:=RE hm;simp only [b8];lia
structure Lo1 (n T lv s o:Nat) (ts:List Ti) (R:Nat->Nat->List Int) (ps:List (Int×Int)) (i:Nat) (ts1:List Ti) (R1:Nat->Nat->List Int):Prop where
 dn:Dn n T ts1 R1 s o (lv+1)
 rl:R1 lv=R lv
 ks:ts1.map Ti.key=ts.map Ti.key
 pend:∀ t∈ts1,t.wd=true->t.dj=lv->(t.x:Int)∈R lv s->(t.y:Int)∈R lv s->t.key∈ps.drop i
 rem:∀ p∈ps.drop i,∃ t∈ts1,t.key=p/\t.wd=true/\t.dj=lv/\(t.x:Int)∈R lv s/\(t.y:Int)∈R lv s
 all:∀ p∈ps,∃ t∈ts1,t.key=p/\t.wd=true
variable {s o lv i:Nat}{ps:List (Int×Int)}{p:Int×Int}{ts1:List Ti}{R1:Nat->Nat->List Int}
theorem Lo1.step (L:Lo1 n T lv s o ts R ps i ts1 R1) (hT:∀ j,2^(j+1)<=n->j<=T) (hs:((R lv s).length+1)*2^(lv+1)<=2*n) (hn:ps.Nodup) (hi:ps[i]?=some p) :
  ∃ t∈ts1,t.key=p/\t.wd=true/\t.dj+1<=T/\(t.y:Int)∉R1 (t.dj+1) t.x/\Lo1 n T lv s o ts R ps (i+1) (i6 ts1 t.key Ti.up) (upR R1 (t.dj+1) t.x t.y):=by
 obtain ⟨hlt,he⟩:=av.mp hi
 have ed:ps.drop i=p::ps.drop (i+1):=by rw [gQ hlt,he]
 have hpn:p∉ps.drop (i+1):=by
  have:=(Zb i ps).nodup hn;rw [ed] at this;exact (bg.mp this).1
 obtain ⟨t,t1,t2,t3,t4,t5,t6⟩:=L.rem p (by rw [ed];exact ar);have hnd:=L.dn.lv.nd;have q:=L.dn.adu hT (by rw [L.rl];exact hs) t1 t3 t4 (by rw [L.rl];exact t5) (by rw [L.rl];exact t6);have mm:=mn (f:=Ti.up) hnd t1;rw [← t4] at q;refine ⟨t,t1,t2,t3,q.1,q.2.1,by rw [t4] at q ⊢;exact q.2.2,?_,?_,λu hu h1 h2 h3 h4=>?_,λp' hp'=>?_,λp' hp'=>?_⟩
 .show (if _ then _ else _)=_
  rw [if_neg (by lia)];exact L.rl
 .rw [ko (f:=Ti.up) (λ_=>rfl)];exact L.ks
 .rcases (mm u).mp hu with rfl|⟨h5,h6⟩
  .exact absurd h2 (by show ¬ t.dj+1=lv;lia)
  .have:=L.pend u h5 h1 h2 h3 h4;rw [ed] at this;exact (aq.mp this).resolve_left λe=>h6 (e.trans t2.symm)
 .obtain ⟨u,u1,u2,u3⟩:=L.rem p' (by rw [ed];exact ag _ hp');exact ⟨u,(mm u).mpr (.inr ⟨u1,λe=>hpn (by rw [← t2,← e,u2];exact hp')⟩),u2,u3⟩
 .obtain ⟨u,u1,u2,u3⟩:=L.all p' hp'
  by_cases c:u.key=t.key
  .exact ⟨t.up,(mm _).mpr (.inl rfl),by rw [← u2,c];rfl,t3⟩
  .exact ⟨u,(mm u).mpr (.inr ⟨u1,c⟩),u2,u3⟩
structure Tc (n T lv s o:Nat) (ts:List Ti) (R:Nat->Nat->List Int) (ps:List (Int×Int)) (i:Nat) (ts1:List Ti):Prop where
 dn:Dn n T ts1 R s o (lv+1)
 ks:ts1.map Ti.key=ts.map Ti.key
 full:lv+1<=T->∀ x y,x<n->y<n->(x:Int)∈R lv s->(y:Int)∈R lv s->(y:Int)∈R (lv+1) x
 rem:∀ p∈ps.drop i,∃ t∈ts1,t.key=p/\t.wd=false/\t.dj=lv
 done:∀ t∈ts1,t.wd=false->t.dj=lv->t.key∈ps.drop i\/((t.x:Int)∉R lv s/\(t.y:Int)∉R lv s)
theorem Tc.at (L:Tc n T lv s o ts R ps i ts1) (hn:ps.Nodup) (hi:ps[i]?=some p):∃ t∈ts1,t.key=p/\t.wd=false/\t.dj=lv/\ps.drop i=p::ps.drop (i+1)/\p∉ps.drop (i+1):=by
 obtain ⟨hlt,he⟩:=av.mp hi
 have ed:ps.drop i=p::ps.drop (i+1):=by rw [gQ hlt,he]
 obtain ⟨t,t1,t2,t3,t4⟩:=L.rem p (by rw [ed];exact ar);refine ⟨t,t1,t2,t3,t4,ed,?_⟩;have:=(Zb i ps).nodup hn;rw [ed] at this;exact (bg.mp this).1
theorem Tc.zero (L:Tc n T lv s o ts R ps i ts1) (hn:ps.Nodup) (hi:ps[i]?=some p) (h1:p.1∉R lv s) (h2:p.2∉R lv s):Tc n T lv s o ts R ps (i+1) ts1:=by
 obtain ⟨t,t1,t2,t3,t4,ed,hp⟩:=L.at hn hi;refine ⟨L.dn,L.ks,L.full,λq hq=>L.rem q (by rw [ed];exact ag _ hq),λu u1 u2 u3=>?_⟩
 rcases L.done u u1 u2 u3 with h|h
 .rw [ed] at h
  rcases aq.mp h with e|h
  .have e1:(u.x:Int)=p.1:=by rw [← e];rfl
   have e2:(u.y:Int)=p.2:=by rw [← e];rfl
   exact .inr (by rw [e1,e2];exact ⟨h1,h2⟩)
  .exact .inl h
 .exact .inr h
theorem Tc.two (L:Tc n T lv s o ts R ps i ts1) (hT:∀ j,2^(j+1)<=n->j<=T) (hs:((R lv s).length+1)*2^(lv+1)<=2*n) (hn:ps.Nodup) (hi:ps[i]?=some p) (h1:p.1∈R lv s) (h2:p.2∈R lv s):∃ t∈ts1,t.key=p/\t.wd=false/\Tc n T lv s o ts R ps (i+1) (i6 ts1 t.key Ti.up):=by
 obtain ⟨t,t1,t2,t3,t4,ed,hp⟩:=L.at hn hi;subst t2;have hl:=L.dn.lv.lt t t1;have hT1:=L.dn.few hT hs (x:=t.x) (y:=t.y) h1 h2 (by lia);have mm:=mn (f:=Ti.up) L.dn.lv.nd t1;refine ⟨t,t1,rfl,t3,L.dn.adw t1 t3 t4 hT1 (L.full hT1 _ _ (by lia) hl.2.1 h1 h2),?_,L.full,λq hq=>?_,λu hu h3 h4=>?_⟩
 .rw [ko (f:=Ti.up) (λ_=>rfl)];exact L.ks
 .obtain ⟨u,u1,u2,u3⟩:=L.rem q (by rw [ed];exact ag _ hq);exact ⟨u,(mm u).mpr (.inr ⟨u1,λe=>hp (by rw [← e,u2];exact hq)⟩),u2,u3⟩
 .rcases (mm u).mp hu with rfl|⟨h5,h6⟩
  .exact absurd h4 (by show ¬ t.dj+1=lv;lia)
  .rcases L.done u h5 h3 h4 with h|h
   .rw [ed] at h;exact .inl ((aq.mp h).resolve_left h6)
   .exact .inr h
theorem Tc.one (L:Tc n T lv s o ts R ps i ts1) (hn:ps.Nodup) (hi:ps[i]?=some p) (h:p.1∈R lv s/\p.2∉R lv s\/p.1∉R lv s/\p.2∈R lv s):∃ t∈ts1,t.key=p/\(∀ i,i<=t.dj->(t.y:Int)∉R i t.x)/\Lv n T (i6 ts1 t.key Ti.yQ) (NZ R t.dj t.x t.y)/\Jn (i6 ts1 t.key Ti.yQ) (NZ R t.dj t.x t.y):=by
 obtain ⟨t,t1,t2,t3,t4,ed,hp⟩:=L.at hn hi;subst t2;exact ⟨t,t1,rfl,L.dn.adopt t1 t3 t4 h⟩
def Tc.fin (L:Tc n T lv s o ts R ps i ts1) (hi:ps.length<=i):Dn n T ts1 R s o lv:=L.dn.next λt ht h1 h2=>by
 rcases L.done t ht h1 h2 with h|⟨h3,h4⟩
 .rw [Uq.mpr hi] at h;cases h
 .exact ⟨λq=>h3 q.1,λq=>h4 q.2⟩
end
end Rm
namespace L2
abbrev Ln (sp:Sp) (k:Nat):Prop:=∀ vs H Q E,sp vs H Q E->vs.length=k
abbrev Rn (sp:Sp) (rd:TS) (N:List bq):Prop:=∀ vs H Q E,sp vs H Q E->rd { nx:=λ_ H'=>Q .non H',rt:=Q } (start N vs) H
abbrev Rx (sp:Sp) (rd:XK->TS) (N:List bq):Prop:=∀ vs H Q E,sp vs H Q E->rd E { nx:=λ_ H'=>Q .non H',rt:=Q } (start N vs) H
def gm {α β:Type} {f:α->β}{xs:List α}{i:Nat}{v:β}(h:(xs.map f)[i]?=some v):∃ t,xs[i]?=some t/\f t=v:=fZ.mp (aG▸h)
def oq {k:Nat}(h:Nat.ble k 100000=true:=by rfl):k<=aX:=du (Nat.le_of_ble_eq_true h)
def news {H H':Hp}{q:ah}{o:HO}(e:upd H q o=H') (h:H q=none):bS H H'/\H' q=some o:=e▸⟨bS.cc h,aD⟩
def hZ.m {j k:Nat}{A:dM}(r:hZ k A) (h:j<=k:=by decide):hZ j A:=r.mono h
end L2
local macro_rules | `(tactic| walk_at "s")=>`(tactic| exact ⟨rfl,rfl,rfl,by decide +kernel,rfl,by decide +kernel,by decide +kernel⟩)
local macro_rules | `(tactic| k_in)=>`(tactic| (lk;refine L2.m6 ?_;lk))
local macro_rules | `(tactic| k_go)=>`(tactic| (lk;refine L2.jv ?_;lk))
local macro_rules | `(tactic| walk_at "l")=>`(tactic| first|(intro vs H Q E h;cases h;subst_vars;rfl)|(intro vs H Q E h;repeat' (first|(obtain ⟨e,_⟩:=h;exact e▸rfl)|(obtain ⟨_,h⟩:=h))))
namespace K55
open PySem PySem.Spec PyProof.Rows L2
abbrev jb:List bq:=["self","a","b"]
abbrev nl_1:List bq:=["_law_script","_law_first","_law_n","_law_cells","_law_told","_law_k","_law_a","_law_b","_law_some","_law_standing","_law_good","_law_weight","_law_wood","_law_pairs"]
abbrev GQ:List bq:=["level","side","risen","found"]
abbrev Mz:List bq:=["n","standing","a","b","tie"]
abbrev tP:List bq:=["n","a","b"]
abbrev nl_5:List bq:=["_law_wood","_law_n","_law_pairs","_law_standing","_law_a","_law_b","_law_fault_here","_law_due","_law_tie","_law_ahead"]
abbrev rh:List bq:=["self","n"]
abbrev Yw:List bq:=["self","n","weighed","weights","a","b","weight","tie"]
abbrev sk:List bq:=["self","a"]
abbrev wA:List bq:=["self","tie"]
abbrev zl:List bq:=["self","tie","weight"]
abbrev Ca:List bq:=["n","standing","a","b"]
abbrev qg:List bq:=["n","thing"]
abbrev ZD:List bq:=["_law_n","_law_told","_law_known","_law_a","_law_b","_law_weight","_law_fault_here"]
abbrev ZE:List bq:=["_law_wood","_law_way","_law_a","_law_b","_law_words_here","_law_e"]
abbrev EW:List bq:=["ties","weight_of"]
abbrev ZF:List bq:=["row","a","b","along","there","back","k","m","inner","outer"]
abbrev QL:List bq:=["a","b","level","in_wood","n"]
abbrev QM:List bq:=["self","a","b","tie","trail"]
abbrev oE:List bq:=["self"]
abbrev ZG:List bq:=["_law_wood","_law_a","_law_b","_law_words_here","_law_e"]
abbrev QN:List bq:=["_law_n","_law_a","_law_b"]
abbrev ZH:List bq:=["self","level","tie","side","risen","other","ends"]
abbrev ZI:List bq:=["_law_wood","_law_n","_law_a","_law_b","_law_due"]
abbrev ZJ:List bq:=["_law_wood","_law_n","_law_pairs","_law_standing"]
abbrev ZK:List bq:=["_law_n","_law_told","_law_words_here","_law_e"]
abbrev QO:List bq:=["_law_script","_law_k"]
abbrev QP:List bq:=["_law_n","_law_thing"]
abbrev QQ:List bq:=["self","level","tie"]
abbrev QR:List bq:=["_law_cell","_law_n"]
abbrev QS:List bq:=["_law_n","_law_told"]
abbrev zm:List bq:=["a","b"]
abbrev ZL:List bq:=["_law_wood","_law_way","_law_a","_law_b"]
abbrev ZM:List bq:=["self","tie","level","looking","trail"]
abbrev VN:List bq:=["_law_e","_law_words_here"]
abbrev ZN:List bq:=["_law_cell","_law_n","_law_a","_law_b"]
abbrev ZO:List bq:=["_law_wood","_law_n","_law_a","_law_b"]
abbrev MA:List bq:=["row","a","b"]
abbrev ZP:List bq:=["row","a","b","ahead","way","place"]
abbrev zq:List bq:=["thing"]
abbrev Cb:List bq:=["trail"]
abbrev VO:List bq:=["self","n","weighed"]
abbrev IW:List bq:=["_law_row"]
abbrev ZQ:List bq:=["_law_cell","_law_n","_law_way"]
abbrev ZR:List bq:=["self","level","wooden","ties"]
abbrev MB:List bq:=["n","ties"]
abbrev QU:List bq:=["tie","side"]
abbrev QV:List bq:=["_law_script"]
def lL (i:Nat):dz:=PySem.Challenge.pw_tiewood_k55_what_a_lightest_refuses.main.body.getD i (.Pass ⟨0,0,0,0⟩)
abbrev IX:dz:=lL 2
abbrev IY:dz:=lL 3
abbrev IZ:dz:=lL 4
abbrev stop:dz:=lL 5
abbrev QW:dz:=lL 6
abbrev QX:dz:=lL 8
abbrev VP:dz:=lL 9
abbrev VQ:dz:=lL 10
abbrev zr:dz:=lL 22
abbrev QY:dz:=lL 23
abbrev MC:dz:=lL 24
abbrev QZ:dz:=lL 25
abbrev Q0:dz:=lL 26
abbrev m7:dz:=lL 28
abbrev mq:dz:=lL 29
abbrev ow:dz:=lL 30
abbrev Bj:dz:=lL 33
abbrev zt:dz:=lL 34
abbrev EX:dz:=lL 37
abbrev qF:dz:=lL 38
abbrev xm:dz:=lL 43
abbrev Cc:dz:=lL 44
abbrev EY:dz:=lL 45
abbrev uC:dz:=lL 46
abbrev Cd:dz:=lL 47
abbrev uD:dz:=lL 48
abbrev EZ:dz:=lL 49
abbrev I0:dz:=lL 50
abbrev Ce:dz:=lL 51
abbrev zu:dz:=lL 52
abbrev sW:dz:=lL 53
abbrev Cg:dz:=lL 54
abbrev slaw:dz:=lL 55
abbrev uE:dz:=eD (lL 31) 0
abbrev E1:dz:=eD (lL 31) 1
abbrev E3:dz:=eD (lL 31) 2
abbrev Ja:dz:=eD (lL 31) 3
abbrev sr:dz:=eD (lL 31) 4
abbrev uF:dz:=eD (lL 31) 5
abbrev E4:dz:=eD (lL 31) 6
abbrev Bk:dz:=eD (lL 31) 7
abbrev E5:dz:=eD (lL 31) 8
abbrev rj:dz:=eD (lL 35) 0
abbrev Ci:dz:=eD (lL 35) 1
abbrev xn:dz:=eD (lL 35) 2
abbrev zw:dz:=eD (lL 35) 3
abbrev zx:dz:=eD (lL 35) 4
abbrev rk:dz:=eD (lL 35) 5
abbrev zy:dz:=eD (lL 35) 6
abbrev oF:dz:=eD (lL 35) 7
abbrev zA:dz:=eD (lL 35) 8
abbrev zB:dz:=eD (lL 35) 9
abbrev pE:dz:=eD (lL 39) 0
abbrev xo:dz:=eD (lL 39) 1
abbrev Bl:dz:=eD (lL 39) 2
abbrev su:dz:=eD (lL 39) 3
abbrev Bn:dz:=eD (lL 39) 4
abbrev yn:dz:=eD (lL 39) 5
abbrev E6:dz:=eD (lL 39) 6
abbrev xp:dz:=eD (lL 39) 7
abbrev lD:dz:=eD (lL 41) 0
abbrev rm:dz:=eD (lL 41) 1
def ON:bC zq zq (aR IX):=by walk_at "s"
def OO:bC zq zq (aR IY):=by walk_at "s"
def OP:bC qg qg (aR IZ):=by walk_at "s"
def VR:bC ["n","level","needed"] ["n"] (aR stop):=by walk_at "s"
def VS:bC zm zm (aR QW):=by walk_at "s"
def VT:bC MB MB (aR QX):=by walk_at "s"
def Yx:bC Cb Cb (aR VP):=by walk_at "s"
def Q1:bC ["trail","finds"] Cb (aR VQ):=by walk_at "s"
def GR:bC ["row"] ["row"] (aR zr):=by walk_at "s"
def MD:bC ["row","a","k"] ["row","a"] (aR QY):=by walk_at "s"
def Jb:bC ["row","other","a","b","k"] ["row","other","a","b"] (aR MC):=by walk_at "s"
def E7:bC ZF MA (aR QZ):=by walk_at "s"
def VU:bC ZP MA (aR Q0):=by walk_at "s"
def qh:bC qg qg (aR m7):=by walk_at "s"
def pF:bC tP tP (aR mq):=by walk_at "s"
def rn:bC tP tP (aR ow):=by walk_at "s"
def OQ:bC EW EW (aR Bj):=by walk_at "s"
def GS:bC QU QU (aR zt):=by walk_at "s"
def Bo:bC Mz Ca (aR EX):=by walk_at "s"
def pG:bC Mz Ca (aR qF):=by walk_at "s"
def E8:bC QO QO (aR xm):=by walk_at "s"
def J7:bC ZQ QR (aR Cc):=by walk_at "s"
def ME:bC ZN QR (aR EY):=by walk_at "s"
def CZ:bC QP QP (aR uC):=by walk_at "s"
def J8:bC QN QN (aR Cd):=by walk_at "s"
def zC:bC VN ["_law_e"] (aR uD):=by walk_at "s"
def uG:bC ZK QS (aR EZ):=by walk_at "s"
def yo:bC ZG ["_law_wood","_law_a","_law_b"] (aR I0):=by walk_at "s"
def sv:bC ZE ZL (aR Ce):=by walk_at "s"
def GT:bC ZD QS (aR zu):=by walk_at "s"
def m8:bC ZI ZO (aR sW):=by walk_at "s"
def zD:bC nl_5 ZJ (aR Cg):=by walk_at "s"
def MF:bC nl_1 QV (aR slaw):=by walk_at "s"
def C2:bC rh rh (aR uE):=by walk_at "s"
def MG:bC ["self","row","place"] ["self","row"] (aR E1):=by walk_at "s"
def MH:bC jb jb (aR E3):=by walk_at "s"
def OR:bC ["self","a","b","row"] jb (aR Ja):=by walk_at "s"
def xq:bC jb jb (aR sr):=by walk_at "s"
def zE:bC sk sk (aR uF):=by walk_at "s"
def MI:bC sk sk (aR E4):=by walk_at "s"
def E9:bC jb jb (aR Bk):=by walk_at "s"
def MJ:bC ["self","told","place","row"] oE (aR E5):=by walk_at "s"
def zF:bC rh rh (aR rj):=by walk_at "s"
def J9:bC zl zl (aR Ci):=by walk_at "s"
def Fb:bC ["self","tie","wood"] wA (aR xn):=by walk_at "s"
def GU:bC wA wA (aR zw):=by walk_at "s"
def xr:bC ["self","tie","level","wood"] wA (aR zx):=by walk_at "s"
def qi:bC ZR ["self","level","wooden"] (aR rk):=by walk_at "s"
def GV:bC wA wA (aR zy):=by walk_at "s"
def uH:bC ["self","level","tie","wood"] QQ (aR oF):=by walk_at "s"
def qG:bC ZH QQ (aR zA):=by walk_at "s"
def qH:bC ZM wA (aR zB):=by walk_at "s"
def sX:bC rh rh (aR pE):=by walk_at "s"
def Fc:bC zl zl (aR xo):=by walk_at "s"
def sx:bC QM jb (aR Bl):=by walk_at "s"
def xt:bC jb jb (aR su):=by walk_at "s"
def Fd:bC jb jb (aR Bn):=by walk_at "s"
def Cj:bC sk sk (aR yn):=by walk_at "s"
def MK:bC oE oE (aR E6):=by walk_at "s"
def Fe:bC oE oE (aR xp):=by walk_at "s"
def d8:bC Yw VO (aR lD):=by walk_at "s"
def zG:bC oE oE (aR rm):=by walk_at "s"
structure CA where
  (bE aH Kept:ah)
structure EC where
  (Alike CN vN kC eF CP tH kg yE:ah)
structure XF (K:aa) (x1 x2 x3 x4 x5 x6 x7 x8 x9 D:ah) (b1 b2 b3 b4 b5:Bool):Prop where
 ex:VA K D
 it:Iv K (.ref D) (.ref D)=some true
 ga:bh K (.ref D) "__getattribute__"=some (some (.builtin "BaseException.__getattribute__"))
 gt:bh K (.ref D) "__getattr__"=some none
 ha:bh K (.ref D) "__class__"=some (some (.builtin "object.__class__"))
 hm:Lg K D (.type "object")=some true
 em:xg K (.ref D) (.ref x9)=some true
 k1:bZ K (.ref D) (.ref x1)=some b1
 k2:bZ K (.ref D) (.ref x2)=some b2
 k3:bZ K (.ref D) (.ref x3)=some b3
 k4:bZ K (.ref D) (.ref x4)=some false
 k5:bZ K (.ref D) (.ref x5)=some b4
 k6:bZ K (.ref D) (.ref x6)=some b5
 k7:bZ K (.ref D) (.ref x7)=some false
 k8:bZ K (.ref D) (.ref x8)=some false
 k9:bZ K (.ref D) (.type "ValueError")=some true
structure vZ (K:aa) (mg:bq->Option ai) (C:ah) (A:CA) (X:EC):Prop where
 sQ:GC K C
 YT:mg "Wood"=some (.ref C)
 vR:eI K C "n"
 oo:eI K C "rows"
 v5:GC K A.bE
 Jp:mg "Levels"=some (.ref A.bE)
 iV:eI K A.bE "level_of"
 iF:eI K A.bE "weight_of"
 jy:eI K A.bE "wooden"
 kb:eI K A.bE "woods"
 ka:GC K A.aH
 CO:mg "Lightest"=some (.ref A.aH)
 jA:eI K A.aH "came"
 iT:eI K A.aH "levels"
 iU:eI K A.aH "looked"
 jz:eI K A.aH "lost"
 mE:eI K A.aH "n"
 i7:eI K A.aH "risen"
 jx:eI K A.aH "wood"
 Rg:mg "Kept"=some (.ref A.Kept)
 Ri:mg "Alike"=some (.ref X.Alike)
 YO:mg "Fixed"=some (.ref X.CN)
 WK:mg "Joined"=some (.ref X.vN)
 Jq:mg "NoCount"=some (.ref X.kC)
 Jr:mg "NoPlace"=some (.ref X.eF)
 YQ:mg "NoRow"=some (.ref X.CP)
 Rh:mg "NoTie"=some (.ref X.tH)
 yF:mg "TieError"=some (.ref X.kg)
 WN:mg "Tied"=some (.ref X.yE)
 pU:XF K X.kC X.eF X.Alike X.vN X.yE X.tH X.CP X.CN X.kg X.Alike false false true false false
 lF:XF K X.kC X.eF X.Alike X.vN X.yE X.tH X.CP X.CN X.kg X.kC true false false false false
 lE:XF K X.kC X.eF X.Alike X.vN X.yE X.tH X.CP X.CN X.kg X.eF false true false false false
 pV:XF K X.kC X.eF X.Alike X.vN X.yE X.tH X.CP X.CN X.kg X.tH false false false false true
 sR:XF K X.kC X.eF X.Alike X.vN X.yE X.tH X.CP X.CN X.kg X.yE false false false true false
 xhn:j0 K (.builtin "object.__class__") "__get__"=some (some (.builtin "getset_descriptor.__get__"))
 WI:uf K (.builtin "object.__class__")=some true
 Lb:mg "ValueError"=none
 abK:mg "bool"=none
 NM:mg "enumerate"=none
 Z5:mg "int"=none
 fq:mg "isinstance"=none
 Z4:mg "len"=none
 WQ:mg "list"=none
 ado:mg "max"=none
 adx:mg "min"=none
 YV:mg "range"=none
 Z6:mg "set"=none
 rP:mg "sorted"=none
 WU:mg "sum"=none
 adt:mg "zip"=none
 Ii:∃ t:Z9,mg "MOST_PLACES"=some (.int 200 t)
variable {P:bQ}{w:cU}{K:aa}{mg:bq->Option ai}{base:cJ}{f:ah}{fd:fM}{sp:Sp}{C:ah}{A:CA}{X:EC}
def uI (K:aa) (C:ah):TS :=
 ee (BV (qC (R8 K) (aj (ak 0) (aj (tC (.ty "int")) aQ))) (Qg (qC (R8 K) (aj (ak 0) (aj (tC (.ty "bool")) aQ)))))
def uJ (K:aa) (C:ah) (jg:Sp):TS :=
 ee (BV (bX jg [] E0 (aj (ak 0) aQ)) (Ee (xk λi j=>.bl (decide (i<=j))) (xk λi j=>.bl (decide (i<=j))) (tC (.int 1)) (ak 0) (tC (.int 200))))
def Ck (K:aa) (C:ah) (jg:Sp):TS :=
 ee (BV (bX jg [] E0 (aj (ak 1) aQ)) (Ee (xk λi j=>.bl (decide (i<=j))) (xk λi j=>.bl (decide (i<j))) (tC (.int 0)) (ak 1) (ak 0)))
def ML (K:aa) (C:ah):TS :=
 Jw (eP (dt (xk λi j=>.bl (decide (i<=j))) (ak 2) (ak 0)))
 (bH (UA 1 (tC (.int 1)) (xk λi j=>.int (i+j)))
 (UA 2 (tC (.int 2)) (rI Tj λi j=>.int (i*j))))
def VV (K:aa) (C:ah):TS :=
 bH (dC (tC (.int 0)) (bj 1))
 (bH (dC (tC (.int 4)) (bj 2))
 (bH (ML K C)
 (ee (ak 1))))
def Jc (K:aa) (C:ah):TS :=
 ee (Zg (eP (dt (xk λi j=>.bl (decide (i<j))) (ak 0) (ak 1))) (lZ (aj (ak 0) (aj (ak 1) aQ))) (lZ (aj (ak 1) (aj (ak 0) aQ))))
def Jd (K:aa) (C:ah) (sA:Sp):TS :=
 ee (qC (QJ K) (aj (mh 4 [0] (mP K (ak 1)) (yW K 4 (gZ (bj 0) (gZ (bj 1) (gZ (bj 2) (gZ (bj 3) A1))))) y3 (dt (xk λi j=>.int (i-j)) (bX sA [] E0 (aj (ak 4) aQ)) (ak 2))) aQ))
def MM (K:aa) (C:ah):TS :=
 ee (qC (QJ K) (aj (mh 4 [] (mP K (ak 0)) (yW K 4 (gZ (bj 0) (gZ (bj 1) (gZ (bj 2) (gZ (bj 3) A1))))) y3 (qC (JJ K) (aj (ak 2) aQ))) aQ))
def MN (K:aa) (C:ah) (fO:Sp):TS :=
 bH (dC (mh 4 [] (mP K (ak 0)) (yW K 4 (gZ (bj 0) (gZ (bj 1) (gZ (bj 2) (gZ (bj 3) A1))))) (tB (Uu (ak 3))) (ak 3)) (bj 1))
 (ee (Zg (lS K (ak 1)) (dt jf (bX fO [] E0 (aj (ak 0) aQ)) (tC (.int 1))) (bX fO [] E0 (aj (ak 0) aQ))))
def uK (K:aa) (C:ah):TS :=
 ee (Vj K (aj (ak 0) (aj (Qm (uq K) (ak 0) (nQ (tC (.int 1))) md) aQ)))
def Je (K:aa) (C:ah):TS :=
 bH (dC (AQ K "list" (qe K) (ak 0) (aj (ak 1) aQ)) (bj 2))
 (ee (dt jf (Qm (uq K) (ak 0) (nQ (ak 2)) md) (Qm (uq K) (ak 0) (nQ (tC (.int 1))) (nQ (dt jf (ak 2) (tC (.int 1)))))))
def Fg (K:aa) (C:ah) (jI:Sp):TS :=
 bH (dC (AQ K "list" (qe K) (ak 0) (aj (ak 2) aQ)) (bj 4))
 (ee (dt jf (dt jf (Qm (uq K) (ak 0) md (nQ (dt jf (ak 4) (tC (.int 1))))) (bX jI [] E0 (aj (ak 1) (aj (ak 3) aQ)))) (Qm (uq K) (ak 0) (nQ (ak 4)) md)))
def Jg (K:aa) (C:ah) (cY:Sp):TS :=
 bH (dC (bX cY [] E0 (aj (ak 0) aQ)) (bj 3))
 (bH (dC (AQ K "list" (qe K) (ak 3) (aj (lZ (aj (ak 1) (aj (ak 2) aQ))) aQ)) (bj 4))
 (bH (dC (AQ K "list" (qe K) (ak 3) (aj (lZ (aj (ak 2) (aj (ak 1) aQ))) aQ)) (bj 5))
 (bH (dC (qC Eu (aj (ak 4) (aj (ak 5) aQ))) (bj 6))
 (bH (dC (qC Ew (aj (ak 4) (aj (ak 5) aQ))) (bj 7))
 (bH (dC (Qm (uq K) (ak 0) (nQ (dt jf (ak 6) (tC (.int 1)))) (nQ (dt jf (ak 7) (tC (.int 1))))) (bj 8))
 (bH (dC (dt jf (Qm (uq K) (ak 0) md (nQ (dt jf (ak 6) (tC (.int 1))))) (Qm (uq K) (ak 0) (nQ (dt jf (ak 7) (tC (.int 2)))) md)) (bj 9))
 (ee (Zg (eP (dt (xk λi j=>.bl (decide (i<j))) (ak 4) (ak 5))) (lZ (aj (ak 9) (aj (ak 8) aQ))) (lZ (aj (ak 8) (aj (ak 9) aQ)))))))))))
def Cm (K:aa) (C:ah) (jI:Sp):TS :=
 tO (mP K (Qm (uq K) (ak 3) md (nQ (dt jf (AQ K "list" (qe K) (ak 3) (aj (ak 2) aQ)) (tC (.int 1)))))) (bj 5)
 (gR (Od (eP (dt (xk λi j=>.bl (decide (j<i))) (qC (JJ K) (aj (ak 4) aQ)) (tC (.int 1)))) (eP (dt (lR K) (dt (eU K) (ak 4) (tUn (rU λi=>.int (-i)) (tC (.int 2)))) (ak 5))))
 (dr (aaF K "list" aaH (ak 4)))
 (dr (AQ K "list" iG (ak 4) (aj (ak 5) aQ))))
def Jh (K:aa) (C:ah) (jI:Sp):TS :=
 bH (dC (bX jI [] E0 (aj (ak 0) (aj (ak 1) aQ))) (bj 3))
 (bH (dC (l8 aQ) (bj 4))
 (bH (Cm K C jI)
 (ee (ak 4))))
def pH (K:aa) (C:ah) (fV:Sp):TS :=
 gR (AY (lS K (bX fV [] E0 (aj (ak 0) (aj (ak 1) aQ)))))
 um
 eC
def oG (K:aa) (C:ah) (cK:Sp):TS :=
 bH (dr (bX cK [] E0 (aj (ak 0) (aj (ak 1) aQ))))
 (dr (bX cK [] E0 (aj (ak 0) (aj (ak 2) aQ))))
def qj (K:aa) (C:ah) (d9:Sp):TS :=
 bH (dr (bX d9 [] E0 (aj (ak 0) (aj (ak 1) (aj (ak 2) aQ)))))
 (gR (eP (dt (lR K) (ak 1) (ak 2)))
 um
 eC)
def qk (K:aa) (C:ah) (Pt:ah):TS :=
 ee (OH Pt ⟨129,28,129,61⟩ ((("in_order":bq)++".<locals>.")++"<lambda>") 1 (aj (ak 0) aQ))
theorem MO (Fu:wR K "in_order" "in_order" Bj f fd) (T:vZ K mg C A X) {c Pt:ah}(hcd:fd.code=.ref c) (CH:oX base c Pt) (B:base.BuiltinsAt mg Pt)
 (len:Ln sp 2) (run:Rn sp (qk K C Pt) EW):gN P w K mg base vW 1 f fd EW sp :=
 Fu.okC hcd OQ len λA0 outer s H vs Q E hr h=>⟨qk K C Pt,
 aS (dH (VF rfl rfl CH B hr.depth hr.WH rfl T.rP (aK (pv 0) bU) rfl rfl)),run vs H Q E h⟩
def uL (K:aa) (C:ah):TS :=
 ee (qC (JJ K) (aj (mh 1 [1] (mP K (ak 0)) (bj 0) (eP (dt (A7 K false) (ak 0) (ak 1))) (ak 0)) aQ))
def Fh (K:aa) (C:ah) (cf dN:Sp):TS :=
 bH (dr (bX cf [] E0 (aj (ak 0) (aj (ak 2) (aj (ak 3) aQ)))))
 (bH (dC (bX dN [] E0 (aj (ak 2) (aj (ak 3) aQ))) (bj 4))
 (bH (gR (eP (dt (A7 K false) (ak 4) (ak 1)))
 um
 eC)
 (ee (ak 4))))
def sY (K:aa) (C:ah) (cf dN:Sp):TS :=
 bH (dr (bX cf [] E0 (aj (ak 0) (aj (ak 2) (aj (ak 3) aQ)))))
 (bH (dC (bX dN [] E0 (aj (ak 2) (aj (ak 3) aQ))) (bj 4))
 (bH (gR (eP (dt (A7 K true) (ak 4) (ak 1)))
 um
 eC)
 (ee (ak 4))))
def sZ (K:aa) (C:ah):TS :=
 bH (gR (eP (dt (xk λi j=>.bl (decide (i<j))) (ak 1) (qC (JJ K) (aj (ak 0) aQ))))
 (ee (dt (eU K) (ak 0) (ak 1)))
 eC)
 (ee (tC (.int 6)))
def xu (K:aa) (C:ah):TS :=
 bH (dC (dt (rI (λ_ j=>0<j) λi j=>.int (i%j)) (ak 0) (tC (.int 9))) (bj 2))
 (bH (gR (eP (dt (lR K) (ak 2) (tC (.int 0))))
 (ee (dt (eU K) (l8 (aj (dt (xk λi j=>.int (i-j)) (tUn (rU λi=>.int (-i)) (tC (.int 1))) (dt (rI (λ_ j=>0<j) λi j=>.int (i%j)) (dt (rI Ea λi j=>.int (i/j)) (ak 0) (tC (.int 45))) (dt (rI LM λi j=>.int (i^j.toNat)) (tC (.int 10)) (tC (.int 30))))) (aj (dt jf (ak 1) (dt (rI (λ_ j=>0<j) λi j=>.int (i%j)) (dt (rI Ea λi j=>.int (i/j)) (ak 0) (tC (.int 45))) (dt (rI LM λi j=>.int (i^j.toNat)) (tC (.int 10)) (tC (.int 30))))) (aj (tC (.bl true)) (aj (tC .non) (aj (tC (.str "0")) aQ)))))) (dt (rI (λ_ j=>0<j) λi j=>.int (i%j)) (dt (rI Ea λi j=>.int (i/j)) (ak 0) (tC (.int 9))) (tC (.int 5)))))
 eC)
 (ee (dt (rI (λ_ j=>0<j) λi j=>.int (i%j)) (dt (rI Ea λi j=>.int (i/j)) (ak 0) (tC (.int 9))) (ak 1))))
def zH (K:aa) (C:ah) (jJ:Sp):TS :=
 bH (dC (bX jJ [] E0 (aj (ak 0) (aj (ak 1) aQ))) (bj 2))
 (bH (dC (bX jJ [] E0 (aj (dt (rI (λ_ j=>0<j) λi j=>.int (i%j)) (dt (rI Tj λi j=>.int (i*j)) (dt jf (ak 0) (tC (.int 5))) (tC (.int 48271))) (tC (.int 2147483647))) (aj (ak 1) aQ))) (bj 3))
 (bH (gR (eP (dt (lR K) (dt (rI (λ_ j=>0<j) λi j=>.int (i%j)) (ak 0) (tC (.int 7))) (tC (.int 3))))
 (ee (lZ (aj (ak 2) (aj (ak 2) aQ))))
 eC)
 (bH (gR (Od (eP (dt (lR K) (ak 2) (ak 3))) (eP (dt (xk λi j=>.bl (decide (j<i))) (dt (rI (λ_ j=>0<j) λi j=>.int (i%j)) (ak 0) (tC (.int 7))) (tC (.int 3)))))
 (ee (lZ (aj (ak 2) (aj (dt (rI Ea λi j=>.int (i/j)) (dt (xk λi j=>.int (i-j)) (ak 1) (tC (.int 1))) (tC (.int 2))) aQ))))
 eC)
 (ee (lZ (aj (ak 2) (aj (ak 3) aQ)))))))
def rA (K:aa) (C:ah):TS :=
 ee (BV (qC (R8 K) (aj (ak 1) (aj (tC (.ty "int")) aQ))) (BV (Qg (qC (R8 K) (aj (ak 1) (aj (tC (.ty "bool")) aQ)))) (Ee (xk λi j=>.bl (decide (i<=j))) (xk λi j=>.bl (decide (i<j))) (tC (.int 0)) (ak 1) (ak 0))))
def xy (K:aa) (C:ah) (dZ:Sp):TS :=
 bH (gR (tOr (AY (lS K (bX dZ [] E0 (aj (ak 0) (aj (ak 1) aQ))))) (AY (lS K (bX dZ [] E0 (aj (ak 0) (aj (ak 2) aQ))))))
 (ee (tC (.str "place")))
 eC)
 (bH (gR (eP (dt (lR K) (ak 1) (ak 2)))
 (ee (tC (.str "alike")))
 eC)
 (ee (tC (.str "none"))))
def nF (K:aa) (C:ah) (X:EC):TS :=
 bH (dC (l8 aQ) (bj 1))
 (bH (gR (lS K (qC (uB K) (aj (ak 0) (aj (tC (.ref X.kC)) aQ))))
 (dr (AQ K "list" iG (ak 1) (aj (tC (.str "count")) aQ)))
 eC)
 (bH (gR (lS K (qC (uB K) (aj (ak 0) (aj (tC (.ref X.eF)) aQ))))
 (dr (AQ K "list" iG (ak 1) (aj (tC (.str "place")) aQ)))
 eC)
 (bH (gR (lS K (qC (uB K) (aj (ak 0) (aj (tC (.ref X.Alike)) aQ))))
 (dr (AQ K "list" iG (ak 1) (aj (tC (.str "alike")) aQ)))
 eC)
 (bH (gR (lS K (qC (uB K) (aj (ak 0) (aj (tC (.ref X.vN)) aQ))))
 (dr (AQ K "list" iG (ak 1) (aj (tC (.str "joined")) aQ)))
 eC)
 (bH (gR (lS K (qC (uB K) (aj (ak 0) (aj (tC (.ref X.yE)) aQ))))
 (dr (AQ K "list" iG (ak 1) (aj (tC (.str "tied")) aQ)))
 eC)
 (bH (gR (lS K (qC (uB K) (aj (ak 0) (aj (tC (.ref X.tH)) aQ))))
 (dr (AQ K "list" iG (ak 1) (aj (tC (.str "tie")) aQ)))
 eC)
 (bH (gR (lS K (qC (uB K) (aj (ak 0) (aj (tC (.ref X.CP)) aQ))))
 (dr (AQ K "list" iG (ak 1) (aj (tC (.str "row")) aQ)))
 eC)
 (bH (gR (lS K (qC (uB K) (aj (ak 0) (aj (tC (.ref X.CN)) aQ))))
 (dr (AQ K "list" iG (ak 1) (aj (tC (.str "fixed")) aQ)))
 eC)
 (bH (gR (AY (lS K (qC (ZA K) (aj (ak 0) (aj (tC (.ty "ValueError")) aQ)))))
 (dr (AQ K "list" iG (ak 1) (aj (tC (.str "other")) aQ)))
 eC)
 (ee (ak 1)))))))))))
theorem GW (Fu:wR K "_law_words" "_law_words" uD f fd) (T:vZ K mg C A X)
 (len:Ln sp 1) (run:Rn sp (nF K C X) VN):IT P w K mg base 1 f fd ["_law_e"] sp :=
 Fu.okN zC len λjo A0 outer s H vs Q E hr h=>⟨nF K C X,
 aA (j6 zC.nd (qB bU))
 (aA (fI (mi (gA lK rfl T.fq BootT.hU (aK (pv 0) (aK (lY rfl T.Jq rfl) bU))) (λ_=>rfl))
 (aS (dU (kX bD cG cH iO (pv 1) (aK iB bU))))
 c8)
 (aA (fI (mi (gA lK rfl T.fq BootT.hU (aK (pv 0) (aK (lY rfl T.Jr rfl) bU))) (λ_=>rfl))
 (aS (dU (kX bD cG cH iO (pv 1) (aK iB bU))))
 c8)
 (aA (fI (mi (gA lK rfl T.fq BootT.hU (aK (pv 0) (aK (lY rfl T.Ri rfl) bU))) (λ_=>rfl))
 (aS (dU (kX bD cG cH iO (pv 1) (aK iB bU))))
 c8)
 (aA (fI (mi (gA lK rfl T.fq BootT.hU (aK (pv 0) (aK (lY rfl T.WK rfl) bU))) (λ_=>rfl))
 (aS (dU (kX bD cG cH iO (pv 1) (aK iB bU))))
 c8)
 (aA (fI (mi (gA lK rfl T.fq BootT.hU (aK (pv 0) (aK (lY rfl T.WN rfl) bU))) (λ_=>rfl))
 (aS (dU (kX bD cG cH iO (pv 1) (aK iB bU))))
 c8)
 (aA (fI (mi (gA lK rfl T.fq BootT.hU (aK (pv 0) (aK (lY rfl T.Rh rfl) bU))) (λ_=>rfl))
 (aS (dU (kX bD cG cH iO (pv 1) (aK iB bU))))
 c8)
 (aA (fI (mi (gA lK rfl T.fq BootT.hU (aK (pv 0) (aK (lY rfl T.YQ rfl) bU))) (λ_=>rfl))
 (aS (dU (kX bD cG cH iO (pv 1) (aK iB bU))))
 c8)
 (aA (fI (mi (gA lK rfl T.fq BootT.hU (aK (pv 0) (aK (lY rfl T.YO rfl) bU))) (λ_=>rfl))
 (aS (dU (kX bD cG cH iO (pv 1) (aK iB bU))))
 c8)
 (aA (fI (Jv (mi (gA SQ rfl T.fq BootT.hU (aK (pv 0) (aK (DJ rfl T.Lb abo rfl) bU))) (λ_=>rfl)))
 (aS (dU (kX bD cG cH iO (pv 1) (aK iB bU))))
 c8)
 (aS (dH (pv 1)))))))))))),run vs H Q E h⟩
def zI (K:aa) (C:ah) (A:CA) (X:EC) (sp_Lightest___init___o fj:Sp):TS :=
 bH (dC (l8 aQ) (bj 2))
 (bH (Mw K (.ref X.kg) 3 4 (λE =>
 dr (El A.aH sp_Lightest___init___o [] E (aj (ak 0) (aj (ak 1) aQ))))
 (dC (bX fj [] E0 (aj (ak 3) aQ)) (bj 2)))
 (ee (ak 2)))
def Cn (K:aa) (C:ah) (A:CA) (X:EC) (sp_Kept_out_o fj:Sp):TS :=
 bH (dC (l8 aQ) (bj 3))
 (bH (Mw K (.ref X.kg) 4 5 (λE =>
 dr (dP A.aH "out" sp_Kept_out_o [] E (ak 0) (aj (ak 1) (aj (ak 2) aQ))))
 (dC (bX fj [] E0 (aj (ak 4) aQ)) (bj 3)))
 (ee (ak 3)))
def xA (K:aa) (C:ah) (A:CA) (X:EC) (sp_Kept_joined_o fj sp_Kept_way_o sp_Kept_side_o:Sp):TS :=
 bH (dC (l8 aQ) (bj 4))
 (bH (Mw K (.ref X.kg) 5 6 (λE =>
 gR (eP (dt (lR K) (ak 1) (tC (.int 0))))
 (dr (dP A.aH "joined" sp_Kept_joined_o [] E (ak 0) (aj (ak 2) (aj (ak 3) aQ))))
 (gR (eP (dt (lR K) (ak 1) (tC (.int 1))))
 (dr (dP A.aH "way" sp_Kept_way_o [] E (ak 0) (aj (ak 2) (aj (ak 3) aQ))))
 (dr (dP A.aH "side" sp_Kept_side_o [] E (ak 0) (aj (ak 2) aQ)))))
 (dC (bX fj [] E0 (aj (ak 5) aQ)) (bj 4)))
 (ee (ak 4)))
def rB (K:aa) (C:ah) (bG:Sp):TS :=
 tO (mP K (ak 1)) (yW K 3 (gZ (bj 3) (gZ (bj 4) (gZ (bj 5) A1))))
 (bH (dC (bX bG [] E0 (aj (ak 0) (aj (ak 3) (aj (ak 4) aQ)))) (bj 6))
 (bH (gR (eP (dt (CY K) (ak 6) (tC (.str "none"))))
 (ee (l8 (aj (ak 6) aQ)))
 eC)
 (bH (gR (eP (dt (A7 K false) (lZ (aj (qC Eu (aj (ak 3) (aj (ak 4) aQ))) (aj (qC Ew (aj (ak 3) (aj (ak 4) aQ))) aQ))) (ak 2)))
 (ee (l8 (aj (tC (.str "tied")) aQ)))
 eC)
 (dC (tC (.bl true)) (D7 (ak 2) (lZ (aj (qC Eu (aj (ak 3) (aj (ak 4) aQ))) (aj (qC Ew (aj (ak 3) (aj (ak 4) aQ))) aQ))) uw)))))
def uM (K:aa) (C:ah) (bG:Sp):TS :=
 bH (dC sf (bj 2))
 (bH (rB K C bG)
 (ee (l8 aQ)))
def ql (K:aa) (C:ah) (A:CA) (dZ iY:Sp):TS :=
 bH (dC (l8 aQ) (bj 4))
 (bH (gR (AY (lS K (bX dZ [] E0 (aj (ak 1) (aj (ak 2) aQ)))))
 (dC (l8 (aj (tC (.str "place")) aQ)) (bj 4))
 eC)
 (bH (gR (eP (dt (CY K) (bX iY [] E0 (aj (ak 0) (aj (tC (.int 2)) (aj (ak 2) (aj (ak 3) aQ))))) (ak 4)))
 (ee (tC (.bl false)))
 eC)
 (bH (gR (AY (lS K (bX dZ [] E0 (aj (ak 1) (aj (ak 3) aQ)))))
 (dC (l8 (aj (tC (.str "place")) aQ)) (bj 4))
 eC)
 (ee (BV (dt (lR K) (bX iY [] E0 (aj (ak 0) (aj (tC (.int 0)) (aj (ak 2) (aj (ak 3) aQ))))) (ak 4)) (dt (lR K) (bX iY [] E0 (aj (ak 0) (aj (tC (.int 1)) (aj (ak 2) (aj (ak 3) aQ))))) (ak 4)))))))
def tj (K:aa) (C:ah) (A:CA) (bG fW eM j7 fP gJ:Sp):TS :=
 tO (mP K (ak 2)) (yW K 2 (gZ (bj 4) (gZ (bj 5) A1)))
 (bH (dC (bX bG [] E0 (aj (ak 1) (aj (ak 4) (aj (ak 5) aQ)))) (bj 6))
 (bH (dC (l8 (aj (ak 6) aQ)) (bj 7))
 (bH (gR (eP (dt (lR K) (ak 6) (tC (.str "none"))))
 (bH (dC (l8 (aj (tC (.str "tie")) aQ)) (bj 7))
 (bH (dC (lZ (aj (qC Eu (aj (ak 4) (aj (ak 5) aQ))) (aj (qC Ew (aj (ak 4) (aj (ak 5) aQ))) aQ))) (bj 8))
 (gR (eP (dt (A7 K false) (ak 8) (ak 3)))
 (bH (dC (l8 aQ) (bj 7))
 (dr (AQ K "dict" Mi (ak 3) (aj (ak 8) aQ))))
 eC)))
 eC)
 (bH (dC (lZ (aj (dP A.aH "account" fW [] E0 (ak 0) aQ) (aj (dP A.aH "weight" eM [] E0 (ak 0) aQ) aQ))) (bj 9))
 (bH (gR (tOr (eP (dt (CY K) (bX j7 [] E0 (aj (ak 0) (aj (ak 4) (aj (ak 5) aQ)))) (ak 7))) (AY (lS K (bX fP [] E0 (aj (ak 0) (aj (ak 1) (aj (ak 4) (aj (ak 5) aQ))))))))
 (ee (tC (.bl false)))
 eC)
 (bH (gR (Od (eP (dt (abm K) (ak 7) (l8 aQ))) (eP (dt (CY K) (lZ (aj (dP A.aH "account" fW [] E0 (ak 0) aQ) (aj (dP A.aH "weight" eM [] E0 (ak 0) aQ) aQ))) (ak 9))))
 (ee (tC (.bl false)))
 eC)
 (gR (eP (dt (CY K) (qC (pD K) (aj (mh 1 [] (mP K (dP A.aH "ties" gJ [] E0 (ak 0) aQ)) (bj 0) y3 (lZ (aj (dt (eU K) (ak 0) (tC (.int 0))) (aj (dt (eU K) (ak 0) (tC (.int 1))) aQ)))) aQ)) (qC Mh (aj (ak 3) aQ))))
 (ee (tC (.bl false)))
 eC)))))))
def xB (K:aa) (C:ah) (A:CA) (bG fW eM j7 fP gJ:Sp):TS :=
 bH (tj K C A bG fW eM j7 fP gJ)
 (ee (tC (.bl true)))
def Fi (K:aa) (C:ah) (A:CA) (b9 bu cD cI cE cj bG:Sp):TS :=
 tO (LK (aj (qC (JJ K) (aj (ak 3) aQ)) aQ)) (bj 5)
 (bH (dC (bX cI [] E0 (aj (dt jf (dt (eU K) (ak 3) (ak 5)) (ak 5)) (aj (ak 2) aQ))) (yW K 2 (gZ (bj 6) (gZ (bj 7) A1))))
 (dr (AQ K "list" iG (ak 4) (aj (lZ (aj (ak 6) (aj (ak 7) (aj (dt (rI (λ_ j=>0<j) λi j=>.int (i%j)) (dt (eU K) (ak 3) (ak 5)) (dt (rI LM λi j=>.int (i^j.toNat)) (tC (.int 10)) (tC (.int 30)))) aQ)))) aQ))))
def Fj (K:aa) (C:ah) (A:CA) (b9 bu cD cI cE cj bG:Sp):TS :=
 tO (mP K (ak 4)) (yW K 3 (gZ (bj 6) (gZ (bj 7) (gZ (bj 11) A1))))
 (gR (Od (eP (dt (lR K) (bX bG [] E0 (aj (ak 2) (aj (ak 6) (aj (ak 7) aQ)))) (tC (.str "none")))) (eP (dt (A7 K true) (lZ (aj (qC Eu (aj (ak 6) (aj (ak 7) aQ))) (aj (qC Ew (aj (ak 6) (aj (ak 7) aQ))) aQ))) (ak 9))))
 (bH (dC (tC (.bl true)) (D7 (ak 9) (lZ (aj (qC Eu (aj (ak 6) (aj (ak 7) aQ))) (aj (qC Ew (aj (ak 6) (aj (ak 7) aQ))) aQ))) uw))
 (dr (AQ K "list" iG (ak 10) (aj (lZ (aj (ak 6) (aj (ak 7) (aj (ak 11) aQ)))) aQ))))
 eC)
abbrev VW (K:aa) (C:ah) (A:CA) (b9 bu cD cI cE cj bG:Sp):TS :=
 bH (dC (El A.aH bu [] E0 (aj (ak 2) (aj (ak 10) aQ))) (bj 12))
 (bH (dC (dt jf (mh 1 [] (mP K (ak 4)) (bj 0) y3 (lZ (aj (dt (eU K) (ak 0) (tC (.int 1))) (aj (dt (eU K) (ak 0) (tC (.int 0))) aQ)))) (mh 1 [] (mP K (VG K (ak 4))) (bj 0) y3 (lZ (aj (dt (eU K) (ak 0) (tC (.int 0))) (aj (dt (eU K) (ak 0) (tC (.int 1))) aQ))))) (bj 13))
 (ee (bX cD [] E0 (aj (ak 12) (aj (ak 2) (aj (ak 13) (aj (ak 9) aQ)))))))
abbrev VX (K:aa) (C:ah) (A:CA) (b9 bu cD cI cE cj bG:Sp):TS :=
 bH (dC (l8 aQ) (bj 10))
 (bH (Fj K C A b9 bu cD cI cE cj bG)
 (VW K C A b9 bu cD cI cE cj bG))
abbrev VY (K:aa) (C:ah) (A:CA) (b9 bu cD cI cE cj bG:Sp):TS :=
  bH (gR (tOr (eP (dt (CY K) (bX cE [] E0 (aj (ak 2) (aj (ak 4) aQ))) (bX cj [] E0 (aj (ak 2) (aj (ak 4) aQ))))) (eP (dt (CY K) (bX cE [] E0 (aj (ak 2) (aj (X9 K (ak 4)) aQ))) (bX cj [] E0 (aj (ak 2) (aj (X9 K (ak 4)) aQ))))))
   (ee (tC (.bl false)))
   eC)
  (bH (dC sf (bj 9))
  (VX K C A b9 bu cD cI cE cj bG))
abbrev VZ (K:aa) (C:ah) (A:CA) (b9 bu cD cI cE cj bG:Sp):TS :=
  bH (Fi K C A b9 bu cD cI cE cj bG)
  (bH (gR (eP (dt (lR K) (dt (rI (λ_ j=>0<j) λi j=>.int (i%j)) (ak 1) (tC (.int 5))) (tC (.int 1))))
   (bH (dC (l8 (aj (tUn (rU λi=>.int (-i)) (dt (rI (λ_ j=>0<j) λi j=>.int (i%j)) (dt (rI Ea λi j=>.int (i/j)) (ak 1) (tC (.int 30))) (dt (rI LM λi j=>.int (i^j.toNat)) (tC (.int 10)) (tC (.int 30))))) (aj (dt jf (tC (.int 201)) (dt (rI (λ_ j=>0<j) λi j=>.int (i%j)) (dt (rI Ea λi j=>.int (i/j)) (ak 1) (tC (.int 30))) (dt (rI LM λi j=>.int (i^j.toNat)) (tC (.int 10)) (tC (.int 30))))) (aj (tC (.bl true)) (aj (tC .non) (aj (tC (.str "7")) (aj (l8 (aj (tC (.int 7)) aQ)) aQ))))))) (bj 8))
  (ee (dt (lR K) (bX cE [] E0 (aj (dt (eU K) (ak 8) (dt (rI (λ_ j=>0<j) λi j=>.int (i%j)) (dt (rI Ea λi j=>.int (i/j)) (ak 1) (tC (.int 5))) (tC (.int 6)))) (aj (ak 4) aQ))) (l8 (aj (tC (.str "count")) aQ)))))
   eC)
  (VY K C A b9 bu cD cI cE cj bG))
abbrev V0 (K:aa) (C:ah) (A:CA) (b9 bu cD cI cE cj bG:Sp):TS :=
 bH (dC (Qm (uq K) (ak 0) (nQ (tC (.int 2))) (nQ (tC (.int 22)))) (bj 3))
 (bH (dC (l8 aQ) (bj 4))
 (VZ K C A b9 bu cD cI cE cj bG))
def V1 (K:aa) (C:ah) (A:CA) (b9 bu cD cI cE cj bG:Sp):TS :=
 bH (dC (bX b9 [] E0 (aj (ak 0) (aj (tC (.int 0)) aQ))) (bj 1))
 (bH (dC (dt jf (tC (.int 1)) (dt (rI (λ_ j=>0<j) λi j=>.int (i%j)) (dt (rI Ea λi j=>.int (i/j)) (ak 1) (tC (.int 5))) (tC (.int 20)))) (bj 2))
 (V0 K C A b9 bu cD cI cE cj bG))
def rC (K:aa) (C:ah):TS :=
 bH (ph K (ak 0) (ak 1) "n")
 (ph K (ak 0) (mh 1 [] (LK (aj (ak 1) aQ)) (bj 0) y3 (l8 (aj (ak 0) aQ))) "rows")
def uN (K:aa) (C:ah):TS :=
 tO (mP K (ak 1)) (bj 2)
 (dC (ak 1) (D7 (dw K (ak 0) "rows") (ak 2) uw))
def zJ (K:aa) (C:ah):TS :=
 uN K C
def zK (K:aa) (C:ah) (cf cR gK pI:Sp):TS :=
 bH (dr (bX cf [] E0 (aj (dw K (ak 0) "n") (aj (ak 1) (aj (ak 2) aQ)))))
 (bH (gR (lS K (dP C "joined" cR [] E0 (ak 0) (aj (ak 1) (aj (ak 2) aQ))))
 um
 eC)
 (dr (dP C "keep" gK [] E0 (ak 0) (aj (bX pI [] E0 (aj (dt (eU K) (dw K (ak 0) "rows") (ak 1)) (aj (dt (eU K) (dw K (ak 0) "rows") (ak 2)) (aj (ak 1) (aj (ak 2) aQ))))) aQ))))
def xC (K:aa) (C:ah) (cf m9 cY gK:Sp):TS :=
 tO (mP K (bX m9 [] E0 (aj (dt (eU K) (dw K (ak 0) "rows") (ak 1)) (aj (ak 1) (aj (ak 2) aQ))))) (bj 3)
 (dr (dP C "keep" gK [] E0 (ak 0) (aj (ak 3) aQ)))
def Co (K:aa) (C:ah) (cf m9 cY gK:Sp):TS :=
 bH (dr (bX cf [] E0 (aj (dw K (ak 0) "n") (aj (ak 1) (aj (ak 2) aQ)))))
 (bH (gR (eP (dt (A7 K true) (lZ (aj (ak 1) (aj (ak 2) aQ))) (bX cY [] E0 (aj (dt (eU K) (dw K (ak 0) "rows") (ak 1)) aQ))))
 um
 eC)
 (xC K C cf m9 cY gK))
def uO (K:aa) (C:ah) (d9:Sp):TS :=
 bH (dr (bX d9 [] E0 (aj (dw K (ak 0) "n") (aj (ak 1) (aj (ak 2) aQ)))))
 (ee (dt (lR K) (dt (eU K) (dt (eU K) (dw K (ak 0) "rows") (ak 1)) (tC (.int 0))) (dt (eU K) (dt (eU K) (dw K (ak 0) "rows") (ak 2)) (tC (.int 0)))))
def xD (K:aa) (C:ah) (cK:Sp):TS :=
 bH (dr (bX cK [] E0 (aj (dw K (ak 0) "n") (aj (ak 1) aQ))))
 (ee (zg K (aj (dt (eU K) (dw K (ak 0) "rows") (ak 1)) aQ)))
def zL (K:aa) (C:ah) (cK:Sp):TS :=
 bH (dr (bX cK [] E0 (aj (dw K (ak 0) "n") (aj (ak 1) aQ))))
 (ee (dt (rI Ea λi j=>.int (i/j)) (dt jf (qC (JJ K) (aj (dt (eU K) (dw K (ak 0) "rows") (ak 1)) aQ)) (tC (.int 1))) (tC (.int 2))))
def Cp (K:aa) (C:ah) (cR iP:Sp):TS :=
 ee (Zg (lS K (dP C "joined" cR [] E0 (ak 0) (aj (ak 1) (aj (ak 2) aQ)))) (bX iP [] E0 (aj (dt (eU K) (dw K (ak 0) "rows") (ak 1)) (aj (ak 1) (aj (ak 2) aQ)))) (tC .non))
def uP (K:aa) (C:ah) (cY:Sp):TS :=
 tO (Vu K (aj (dw K (ak 0) "rows") aQ)) (yW K 2 (gZ (bj 2) (gZ (bj 3) A1)))
 (gR (eP (dt (lR K) (dt (eU K) (ak 3) (tC (.int 0))) (ak 2)))
 (dr (AQ K "list" JD (ak 1) (aj (mh 2 [] (mP K (bX cY [] E0 (aj (ak 3) aQ))) (yW K 2 (gZ (bj 0) (gZ (bj 1) A1))) (eP (dt (xk λi j=>.bl (decide (i<j))) (ak 0) (ak 1))) (lZ (aj (ak 0) (aj (ak 1) aQ)))) aQ)))
 eC)
def zM (K:aa) (C:ah) (cY:Sp):TS :=
 bH (dC (l8 aQ) (bj 1))
 (bH (uP K C cY)
 (ee (qC (pD K) (aj (ak 1) aQ))))
abbrev uQ (K:aa) (C:ah) (A:CA) (gE sA:Sp):TS :=
 bH (ph K (ak 0) sf "weight_of")
 (ph K (ak 0) (mh 1 [1] (LK (aj (dt jf (bX sA [] E0 (aj (ak 1) aQ)) (tC (.int 1))) aQ)) (bj 0) y3 (El C gE [] E0 (aj (ak 1) aQ))) "woods")
def pJ (K:aa) (C:ah) (A:CA) (gE sA:Sp):TS :=
 bH (ph K (ak 0) sf "level_of")
 (bH (ph K (ak 0) sf "wooden")
 (uQ K C A gE sA))
abbrev C3 (K:aa) (C:ah) (A:CA) (cR cC:Sp):TS :=
  bH (dC (ak 2) (D7 (dw K (ak 0) "weight_of") (ak 1) uw))
  (bH (gR (AY (lS K (dP C "joined" cR [] E0 (dt (eU K) (dw K (ak 0) "woods") (tC (.int 0))) (aj (dt (eU K) (ak 1) (tC (.int 0))) (aj (dt (eU K) (ak 1) (tC (.int 1))) aQ)))))
   (dr (dP A.bE "adopt" cC [] E0 (ak 0) (aj (ak 1) aQ)))
   eC)
  (ee (dt (eU K) (dw K (ak 0) "wooden") (ak 1))))
def xE (K:aa) (C:ah) (A:CA) (cR cC:Sp):TS :=
 bH (dC (tC (.int 0)) (D7 (dw K (ak 0) "level_of") (ak 1) uw))
 (bH (dC (tC (.bl false)) (D7 (dw K (ak 0) "wooden") (ak 1) uw))
 (C3 K C A cR cC))
def mr (K:aa) (C:ah) (A:CA) (gL:Sp):TS :=
 tO (mP K (Qm (uq K) (dw K (ak 0) "woods") md (nQ (dt jf (dt (eU K) (dw K (ak 0) "level_of") (ak 1)) (tC (.int 1)))))) (bj 2)
 (dr (dP C "link" gL [] E0 (ak 2) (aj (dt (eU K) (ak 1) (tC (.int 0))) (aj (dt (eU K) (ak 1) (tC (.int 1))) aQ))))
def tm (K:aa) (C:ah) (A:CA) (gL:Sp):TS :=
 bH (dC (tC (.bl true)) (D7 (dw K (ak 0) "wooden") (ak 1) uw))
 (mr K C A gL)
def uR (K:aa) (C:ah) (A:CA) (gL:Sp):TS :=
 bH (Zk (dw K (ak 0) "level_of") (ak 1) (tC (.int 1)) Jy)
 (gR (lS K (dt (eU K) (dw K (ak 0) "wooden") (ak 1)))
 (dr (dP C "link" gL [] E0 (dt (eU K) (dw K (ak 0) "woods") (dt (eU K) (dw K (ak 0) "level_of") (ak 1))) (aj (dt (eU K) (ak 1) (tC (.int 0))) (aj (dt (eU K) (ak 1) (tC (.int 1))) aQ))))
 eC)
def rD (K:aa) (C:ah) (A:CA) (j8:Sp):TS :=
 tO (mP K (Qm (uq K) (dw K (ak 0) "woods") md (nQ (dt jf (ak 2) (tC (.int 1)))))) (bj 3)
 (dr (dP C "cut" j8 [] E0 (ak 3) (aj (dt (eU K) (ak 1) (tC (.int 0))) (aj (dt (eU K) (ak 1) (tC (.int 1))) aQ))))
def uS (K:aa) (C:ah) (A:CA) (j8:Sp):TS :=
 bH (dr (AQ K "dict" Mi (dw K (ak 0) "weight_of") (aj (ak 1) aQ)))
 (bH (dC (AQ K "dict" Mi (dw K (ak 0) "level_of") (aj (ak 1) aQ)) (bj 2))
 (gR (lS K (AQ K "dict" Mi (dw K (ak 0) "wooden") (aj (ak 1) aQ)))
 (rD K C A j8)
 eC))
def pK (K:aa) (C:ah) (A:CA) (cO:Sp):TS :=
 bH (dC (mh 1 [1,0] (iDT (dw K (ak 0) "level_of")) (bj 0) (eP (dt (lR K) (dt (eU K) (dw K (ak 2) "level_of") (ak 0)) (ak 1))) (ak 0)) (bj 3))
 (ee (bX cO [] E0 (aj (mh 1 [2,0] (mP K (ak 3)) (bj 0) (eP (dt (lR K) (dt (eU K) (dw K (ak 2) "wooden") (ak 0)) (ak 1))) (ak 0)) (aj (dw K (ak 0) "weight_of") aQ))))
def uT (K:aa) (C:ah) (A:CA):TS :=
 ee (lZ (aj (dt (eU K) (ak 1) (tC (.int 0))) (aj (dt (eU K) (ak 1) (tC (.int 1))) (aj (dt (eU K) (dw K (ak 0) "level_of") (ak 1)) (aj (dt (eU K) (dw K (ak 0) "wooden") (ak 1)) aQ)))))
def mV (K:aa) (C:ah) (A:CA) (iw kq:Sp):TS :=
 bH (dC (dt (eU K) (dw K (ak 0) "woods") (ak 1)) (bj 3))
 (ee (dP C "group" iw [] E0 (ak 3) (aj (Zg (eP (dt (xk λi j=>.bl (decide (i<=j))) (dP C "size" kq [] E0 (ak 3) (aj (dt (eU K) (ak 2) (tC (.int 0))) aQ)) (dP C "size" kq [] E0 (ak 3) (aj (dt (eU K) (ak 2) (tC (.int 1))) aQ)))) (dt (eU K) (ak 2) (tC (.int 0))) (dt (eU K) (ak 2) (tC (.int 1)))) aQ)))
def rE (K:aa) (C:ah) (A:CA) (cA cM dQ dR cC:Sp):TS :=
 tO (mP K (ak 4)) (bj 5)
 (dr (dP A.bE "lift" dQ [] E0 (ak 0) (aj (ak 5) aQ)))
def rF (K:aa) (C:ah) (A:CA) (cA cM dQ dR cC:Sp):TS :=
 tO (mP K (dP A.bE "at_level" cM [] E0 (ak 0) (aj (ak 1) (aj (tC (.bl false)) aQ)))) (bj 5)
 (bH (dC (bX dR [] E0 (aj (ak 5) (aj (ak 3) aQ))) (bj 6))
 (bH (gR (eP (dt (lR K) (ak 6) (tC (.int 1))))
 (bH (dr (dP A.bE "adopt" cC [] E0 (ak 0) (aj (ak 5) aQ)))
 (ee (lZ (aj (ak 1) (aj (ak 3) (aj (qC (pD K) (aj (ak 4) aQ)) (aj (ak 5) aQ)))))))
 eC)
 (gR (eP (dt (lR K) (ak 6) (tC (.int 2))))
 (bH (dr (dP A.bE "lift" dQ [] E0 (ak 0) (aj (ak 5) aQ)))
 (dr (AQ K "list" iG (ak 4) (aj (ak 5) aQ))))
 eC)))
abbrev Bp (K:aa) (C:ah) (A:CA) (cA cM dQ dR cC:Sp):TS :=
 bH (rE K C A cA cM dQ dR cC)
 (bH (rF K C A cA cM dQ dR cC)
 (ee (lZ (aj (ak 1) (aj (ak 3) (aj (qC (pD K) (aj (ak 4) aQ)) (aj (tC .non) aQ)))))))
def uU (K:aa) (C:ah) (A:CA) (cA cM dQ dR cC:Sp):TS :=
 bH (dC (dP A.bE "lesser_side" cA [] E0 (ak 0) (aj (ak 1) (aj (ak 2) aQ))) (bj 3))
 (bH (dC (mh 1 [3] (mP K (dP A.bE "at_level" cM [] E0 (ak 0) (aj (ak 1) (aj (tC (.bl true)) aQ)))) (bj 0) (eP (dt (lR K) (bX dR [] E0 (aj (ak 0) (aj (ak 1) aQ))) (tC (.int 2)))) (ak 0)) (bj 4))
 (Bp K C A cA cM dQ dR cC))
def rG (K:aa) (C:ah) (A:CA) (eN eO:Sp):TS :=
 Jw (Od (lS K (ak 3)) (eP (dt (xk λi j=>.bl (decide (j<=i))) (ak 2) (tC (.int 0)))))
 (bH (dr (AQ K "list" iG (ak 4) (aj (dP A.bE "look" eO [] E0 (ak 0) (aj (ak 2) (aj (ak 1) aQ))) aQ)))
 (bH (dC (aau (dt (eU K) (dt (eU K) (ak 4) (tUn (rU λi=>.int (-i)) (tC (.int 1)))) (tC (.int 3)))) (bj 3))
 (UA 2 (tC (.int 1)) (xk λi j=>.int (i-j)))))
abbrev Bq (K:aa) (C:ah) (A:CA) (eN eO:Sp):TS :=
 bH (rG K C A eN eO)
 (ee (ak 4))
abbrev Br (K:aa) (C:ah) (A:CA) (eN eO:Sp):TS :=
 bH (dr (dP A.bE "drop" eN [] E0 (ak 0) (aj (ak 1) aQ)))
 (bH (dC (l8 aQ) (bj 4))
 (Bq K C A eN eO))
def uV (K:aa) (C:ah) (A:CA) (eN eO:Sp):TS :=
 bH (dC (dt (eU K) (dw K (ak 0) "level_of") (ak 1)) (bj 2))
 (bH (dC (dt (eU K) (dw K (ak 0) "wooden") (ak 1)) (bj 3))
 (Br K C A eN eO))
abbrev yp (K:aa) (C:ah) (A:CA) (bR dv:Sp):TS :=
 bH (ph K (ak 0) (tC (.int 0)) "risen")
 (ph K (ak 0) (tC (.int 0)) "lost")
abbrev yq (K:aa) (C:ah) (A:CA) (bR dv:Sp):TS :=
 bH (ph K (ak 0) (tC (.int 0)) "came")
 (bH (ph K (ak 0) (tC (.int 0)) "looked")
 (yp K C A bR dv))
abbrev yr (K:aa) (C:ah) (A:CA) (bR dv:Sp):TS :=
 bH (ph K (ak 0) (El A.bE bR [] E0 (aj (ak 1) aQ)) "levels")
 (bH (ph K (ak 0) (dt (eU K) (dw K (dw K (ak 0) "levels") "woods") (tC (.int 0))) "wood")
 (yq K C A bR dv))
def rH (K:aa) (C:ah) (A:CA) (bR dv:Sp):TS :=
 bH (gR (AY (lS K (bX dv [] E0 (aj (ak 1) aQ))))
 um
 eC)
 (bH (ph K (ak 0) (ak 1) "n")
 (yr K C A bR dv))
def tq (K:aa) (C:ah) (A:CA) (kZ:Sp):TS :=
 bH (oN K (ak 0) (tC (.int 1)) Jy "came")
 (ee (dP A.bE "add" kZ [] E0 (dw K (ak 0) "levels") (aj (ak 1) (aj (ak 2) aQ))))
abbrev GX (K:aa) (C:ah) (A:CA) (fo fh cZ iD fO cB:Sp):TS :=
 bH (oN K (ak 0) (bX fO [] E0 (aj (ak 4) aQ)) Jy "risen")
 (ee (ak 4))
abbrev GY (K:aa) (C:ah) (A:CA) (fo fh cZ iD fO cB:Sp):TS :=
 bH (dC (dP A.bE "take" cZ [] E0 (dw K (ak 0) "levels") (aj (ak 3) aQ)) (bj 4))
 (bH (oN K (ak 0) (bX iD [] E0 (aj (ak 4) aQ)) Jy "looked")
 (GX K C A fo fh cZ iD fO cB))
def Cq (K:aa) (C:ah) (A:CA) (fo fh cZ iD fO cB:Sp):TS :=
 bH (dC (bX fo [] E0 (aj (dw K (ak 0) "n") (aj (dw K (dw K (ak 0) "levels") "level_of") (aj (ak 1) (aj (ak 2) aQ))))) (bj 3))
 (bH (oN K (ak 0) (bX fh [] E0 (aj (dw K (ak 0) "n") (aj (l8 (aj (dP A.bE "told" cB [] E0 (dw K (ak 0) "levels") (aj (ak 3) aQ)) aQ)) aQ))) Jy "lost")
 (GY K C A fo fh cZ iD fO cB))
def uW (K:aa) (C:ah) (A:CA) (cR:Sp):TS :=
 ee (dP C "joined" cR [] E0 (dw K (ak 0) "wood") (aj (ak 1) (aj (ak 2) aQ)))
def Cr (K:aa) (C:ah) (A:CA) (nX:Sp):TS :=
 ee (dP C "way" nX [] E0 (dw K (ak 0) "wood") (aj (ak 1) (aj (ak 2) aQ)))
def zN (K:aa) (C:ah) (A:CA) (iw:Sp):TS :=
 ee (dP C "group" iw [] E0 (dw K (ak 0) "wood") (aj (ak 1) aQ))
def zO (K:aa) (C:ah) (A:CA) (cB:Sp):TS :=
 ee (qC (pD K) (aj (mh 1 [0] (iDT (dw K (dw K (ak 0) "levels") "level_of")) (bj 0) y3 (dP A.bE "told" cB [] E0 (dw K (ak 1) "levels") (aj (ak 0) aQ))) aQ))
def tu (K:aa) (C:ah) (A:CA) (fh gJ:Sp):TS :=
 ee (lZ (aj (dw K (ak 0) "came") (aj (dw K (ak 0) "looked") (aj (dw K (ak 0) "risen") (aj (dw K (ak 0) "lost") (aj (bX fh [] E0 (aj (dw K (ak 0) "n") (aj (dP A.aH "ties" gJ [] E0 (ak 0) aQ) aQ))) aQ))))))
def mv (K:aa) (C:ah) (A:CA) (dg cO iZ cb:Sp):TS :=
 tO (mP K (ak 2)) (yW K 3 (gZ (bj 4) (gZ (bj 5) (gZ (bj 6) A1))))
 (bH (dC (bX iZ [] E0 (aj (ak 1) (aj (ak 3) (aj (ak 4) (aj (ak 5) aQ))))) (bj 7))
 (dC (ak 6) (D7 (ak 3) (ak 7) uw)))
def mw (K:aa) (C:ah) (A:CA) (dg cO iZ cb:Sp):TS :=
 tO (mP K (bX cO [] E0 (aj (ak 3) (aj (ak 3) aQ)))) (bj 7)
 (dr (dP A.aH "receive" cb [] E0 (ak 0) (aj (ak 7) (aj (dt (eU K) (ak 3) (ak 7)) aQ))))
def nY (K:aa) (C:ah) (A:CA) (dg cO iZ cb:Sp):TS :=
 bH (dr (bX dg [] E0 (aj (ak 0) (aj (ak 1) aQ))))
 (bH (dC sf (bj 3))
 (bH (mv K C A dg cO iZ cb)
 (mw K C A dg cO iZ cb)))
def pL (K:aa) (C:ah) (A:CA) (mx:Sp):TS :=
 ee (qC (QJ K) (aj (mh 1 [0] (mP K (dP C "ties" mx [] E0 (dw K (ak 0) "wood") aQ)) (bj 0) y3 (dt (eU K) (dw K (dw K (ak 1) "levels") "weight_of") (ak 0))) aQ))
def gS (K:aa) (C:ah) (X:EC) (E:XK) (fV:Sp):TS :=
 gR (AY (lS K (bX fV [] E0 (aj (ak 0) (aj (ak 1) aQ)))))
 (yl (.ref X.eF) E)
 eC
theorem uX (Fu:wR K "refuse_no_place" "refuse_no_place" m7 f fd) (T:vZ K mg C A X) {fV:Sp}(pM:JZ P w K mg base vW 2 "is_place" qg fV)
 (len:Ln sp 2) (run:Rx sp (λE=>gS K C X E fV) qg):gN P w K mg base (rV P w) 3 f fd qg sp :=
 Fu.Rj qh len λjo A0 outer s H vs Q E hr h=>⟨gS K C X E fV,
 aS (fI (Jv (mi (Gz pM hr.m rfl ju (aK (pv 0) (aK (pv 1) bU))) (λ_=>rfl)))
 (aS (uA rfl rfl ⟨T.Jr,T.lE.ex⟩ nU))
 c8),run vs H Q E h⟩
def gB (K:aa) (C:ah) (E:XK) (bL:Sp):TS :=
 bH (dr (bX bL [] E (aj (ak 0) (aj (ak 1) aQ))))
 (dr (bX bL [] E (aj (ak 0) (aj (ak 2) aQ))))
theorem tQ (Fu:wR K "refuse_no_places" "refuse_no_places" mq f fd) (T:vZ K mg C A X) {bL:Sp}(fb:JZ P w K mg base (rV P w) 3 "refuse_no_place" qg bL)
 (len:Ln sp 3) (run:Rx sp (λE=>gB K C E bL) tP):gN P w K mg base (rV P w) 4 f fd tP sp :=
 Fu.Rj pF len λjo A0 outer s H vs Q E hr h=>⟨gB K C E bL,
 aA (dU (Gz fb hr.m rfl qf (aK (pv 0) (aK (pv 1) bU))))
 (aS (dU (Gz fb hr.m rfl qf (aK (pv 0) (aK (pv 2) bU))))),run vs H Q E h⟩
def fR (K:aa) (C:ah) (X:EC) (E:XK) (bM:Sp):TS :=
 bH (dr (bX bM [] E (aj (ak 0) (aj (ak 1) (aj (ak 2) aQ)))))
 (gR (eP (dt (lR K) (ak 1) (ak 2)))
 (yl (.ref X.Alike) E)
 eC)
theorem wB (Fu:wR K "refuse_no_pair" "refuse_no_pair" ow f fd) (T:vZ K mg C A X) {bM:Sp}(fB:JZ P w K mg base (rV P w) 4 "refuse_no_places" tP bM)
 (len:Ln sp 3) (run:Rx sp (λE=>fR K C X E bM) tP):gN P w K mg base (rV P w) 5 f fd tP sp :=
 Fu.Rj rn len λjo A0 outer s H vs Q E hr h=>⟨fR K C X E bM,
 aA (dU (Gz fB hr.m rfl qf (aK (pv 0) (aK (pv 1) (aK (pv 2) bU)))))
 (aS (fI (nC (yj hr.units) (pv 1) (pv 2) (qA _))
 (aS (uA rfl rfl ⟨T.Ri,T.pU.ex⟩ nU))
 c8)),run vs H Q E h⟩
def kr (K:aa) (C:ah) (E:XK) (bM:Sp):TS :=
 bH (dr (bX bM [] E (aj (dw K (ak 0) "n") (aj (ak 1) (aj (ak 2) aQ)))))
 (ee (dt (lR K) (dt (eU K) (dt (eU K) (dw K (ak 0) "rows") (ak 1)) (tC (.int 0))) (dt (eU K) (dt (eU K) (dw K (ak 0) "rows") (ak 2)) (tC (.int 0)))))
theorem Bs (Fu:wR K "joined" "Wood.joined" sr f fd) (T:vZ K mg C A X) {bM:Sp}(fB:JZ P w K mg base (rV P w) 4 "refuse_no_places" tP bM)
 (len:Ln sp 3) (run:Rx sp (λE=>kr K C E bM) jb):gN P w K mg base (rV P w) 5 f fd jb sp :=
 Fu.Rj xq len λjo A0 outer s H vs Q E hr h=>⟨kr K C E bM,
 aA (dU (Gz fB hr.m rfl qf (aK (jK (pv 0) rfl) (aK (pv 1) (aK (pv 2) bU)))))
 (aS (dH (Jx (yj hr.units) (qU (A8 hr.units) (qU (A8 hr.units) (jK (pv 0) rfl) (pv 1) (λ_ _=>rfl)) eS (λ_ _=>rfl)) (qU (A8 hr.units) (qU (A8 hr.units) (jK (pv 0) rfl) (pv 2) (λ_ _=>rfl)) eS (λ_ _=>rfl)) (qA _)))),run vs H Q E h⟩
def nG (K:aa) (C:ah) (E:XK) (cw iP:Sp):TS :=
 ee (Zg (lS K (dP C "joined" cw [] E (ak 0) (aj (ak 1) (aj (ak 2) aQ)))) (bX iP [] E0 (aj (dt (eU K) (dw K (ak 0) "rows") (ak 1)) (aj (ak 1) (aj (ak 2) aQ)))) (tC .non))
theorem GZ (Fu:wR K "way" "Wood.way" Bk f fd) (T:vZ K mg C A X) {cw:Sp}(iQ:GP P w K mg base (rV P w) 5 C "joined" jb cw) {iP:Sp}(uY:JZ P w K mg base vW 2 "way_in" MA iP)
 (len:Ln sp 3) (run:Rx sp (λE=>nG K C E cw iP) jb):gN P w K mg base (rV P w) 6 f fd jb sp :=
 Fu.Rj E9 len λjo A0 outer s H vs Q E hr h=>⟨nG K C E cw iP,
 aS (dH (qT (mi (SK iQ T.sQ hr.m (pv 0) qf (aK (pv 1) (aK (pv 2) bU))) (λ_=>rfl)) (Gz uY hr.m rfl ju (aK (qU (A8 hr.units) (jK (pv 0) rfl) (pv 1) (λ_ _=>rfl)) (aK (pv 1) (aK (pv 2) bU)))) D5)),run vs H Q E h⟩
def lu (K:aa) (C:ah) (E:XK) (bL:Sp):TS :=
 bH (dr (bX bL [] E (aj (dw K (ak 0) "n") (aj (ak 1) aQ))))
 (ee (zg K (aj (dt (eU K) (dw K (ak 0) "rows") (ak 1)) aQ)))
theorem C4 (Fu:wR K "group" "Wood.group" uF f fd) (T:vZ K mg C A X) {bL:Sp}(fb:JZ P w K mg base (rV P w) 3 "refuse_no_place" qg bL)
 (len:Ln sp 2) (run:Rx sp (λE=>lu K C E bL) sk):gN P w K mg base (rV P w) 4 f fd sk sp :=
 Fu.Rj zE len λjo A0 outer s H vs Q E hr h=>⟨lu K C E bL,
 aA (dU (Gz fb hr.m rfl qf (aK (jK (pv 0) rfl) (aK (pv 1) bU))))
 (aS (dH (EK rfl rfl T.rP rfl T.Z6 (aK (qU (A8 hr.units) (jK (pv 0) rfl) (pv 1) (λ_ _=>rfl)) bU)))),run vs H Q E h⟩
def oQ (K:aa) (C:ah) (X:EC) (E:XK) (bV dN:Sp):TS :=
 bH (dr (bX bV [] E (aj (ak 0) (aj (ak 2) (aj (ak 3) aQ)))))
 (bH (dC (bX dN [] E0 (aj (ak 2) (aj (ak 3) aQ))) (bj 4))
 (bH (gR (eP (dt (A7 K false) (ak 4) (ak 1)))
 (yl (.ref X.yE) E)
 eC)
 (ee (ak 4))))
theorem Ka (Fu:wR K "new_tie" "new_tie" EX f fd) (T:vZ K mg C A X) {bV:Sp}(gF:JZ P w K mg base (rV P w) 5 "refuse_no_pair" tP bV) {dN:Sp}(nZ:JZ P w K mg base vW 1 "tie_of" zm dN)
 (len:Ln sp 4) (run:Rx sp (λE=>oQ K C X E bV dN) Mz):gN P w K mg base (rV P w) 6 f fd Ca sp :=
 Fu.Rj Bo len λjo A0 outer s H vs Q E hr h=>⟨oQ K C X E bV dN,
 aA (dU (Gz gF hr.m rfl qf (aK (pv 0) (aK (pv 2) (aK (pv 3) bU)))))
 (aA (j6 Bo.nd (Gz nZ hr.m rfl ju (aK (pv 2) (aK (pv 3) bU))))
 (aA (fI (nC (UW hr.units) (pv 4) (pv 1) (by with_unfolding_all rfl))
 (aS (uA rfl rfl ⟨T.WN,T.sR.ex⟩ nU))
 c8)
 (aS (dH (pv 4))))),run vs H Q E h⟩
def jP (K:aa) (C:ah) (X:EC) (E:XK) (bV dN:Sp):TS :=
 bH (dr (bX bV [] E (aj (ak 0) (aj (ak 2) (aj (ak 3) aQ)))))
 (bH (dC (bX dN [] E0 (aj (ak 2) (aj (ak 3) aQ))) (bj 4))
 (bH (gR (eP (dt (A7 K true) (ak 4) (ak 1)))
 (yl (.ref X.tH) E)
 eC)
 (ee (ak 4))))
theorem zQ (Fu:wR K "standing_tie" "standing_tie" qF f fd) (T:vZ K mg C A X) {bV:Sp}(gF:JZ P w K mg base (rV P w) 5 "refuse_no_pair" tP bV) {dN:Sp}(nZ:JZ P w K mg base vW 1 "tie_of" zm dN)
 (len:Ln sp 4) (run:Rx sp (λE=>jP K C X E bV dN) Mz):gN P w K mg base (rV P w) 6 f fd Ca sp :=
 Fu.Rj pG len λjo A0 outer s H vs Q E hr h=>⟨jP K C X E bV dN,
 aA (dU (Gz gF hr.m rfl qf (aK (pv 0) (aK (pv 2) (aK (pv 3) bU)))))
 (aA (j6 pG.nd (Gz nZ hr.m rfl ju (aK (pv 2) (aK (pv 3) bU))))
 (aA (fI (nC (IJ hr.units) (pv 4) (pv 1) (by with_unfolding_all rfl))
 (aS (uA rfl rfl ⟨T.Rh,T.pV.ex⟩ nU))
 c8)
 (aS (dH (pv 4))))),run vs H Q E h⟩
def jh (K:aa) (C:ah) (A:CA) (X:EC) (E:XK) (bR dv:Sp):TS :=
 bH (gR (AY (lS K (bX dv [] E0 (aj (ak 1) aQ))))
 (yl (.ref X.kC) E)
 eC)
 (bH (ph K (ak 0) (ak 1) "n")
 (bH (ph K (ak 0) (El A.bE bR [] E0 (aj (ak 1) aQ)) "levels")
 (bH (ph K (ak 0) (dt (eU K) (dw K (dw K (ak 0) "levels") "woods") (tC (.int 0))) "wood")
 (bH (ph K (ak 0) (tC (.int 0)) "came")
 (bH (ph K (ak 0) (tC (.int 0)) "looked")
 (bH (ph K (ak 0) (tC (.int 0)) "risen")
 (ph K (ak 0) (tC (.int 0)) "lost")))))))
theorem yt (Fu:wR K "__init__" "Kept.__init__" pE f fd) (T:vZ K mg C A X) {bR:Sp}(dF:CalI P w K mg base vW 3 A.bE rh bR) {dv:Sp}(pN:JZ P w K mg base vW 2 "is_count" zq dv)
 (len:Ln sp 2) (run:Rx sp (λE=>jh K C A X E bR dv) rh):gN P w K mg base (rV P w) 5 f fd rh sp :=
 Fu.Rj sX len λjo A0 outer s H vs Q E hr h=>⟨jh K C A X E bR dv,
 aA (fI (Jv (mi (Gz pN hr.m rfl ju (aK (pv 1) bU)) (λ_=>rfl)))
 (aS (uA rfl rfl ⟨T.Jq,T.lF.ex⟩ nU))
 c8)
 (aA (pj (pv 0) (pv 1) rfl)
 (aA (pj (pv 0) (yY dF.m dF.G hr.m rfl T.Jp dF.b .nil ju (aK (pv 1) bU)) rfl)
 (aA (pj (pv 0) (qU (A8 hr.units) (jK (jK (pv 0) rfl) rfl) eS (λ_ _=>rfl)) rfl)
 (aA (pj (pv 0) eS rfl)
 (aA (pj (pv 0) eS rfl)
 (aA (pj (pv 0) eS rfl)
 (aS (pj (pv 0) eS rfl)))))))),run vs H Q E h⟩
def nH (K:aa) (C:ah) (A:CA) (E:XK) (ff fh cZ iD fO cB:Sp):TS :=
 bH (dC (bX ff [] E (aj (dw K (ak 0) "n") (aj (dw K (dw K (ak 0) "levels") "level_of") (aj (ak 1) (aj (ak 2) aQ))))) (bj 3))
 (bH (oN K (ak 0) (bX fh [] E0 (aj (dw K (ak 0) "n") (aj (l8 (aj (dP A.bE "told" cB [] E0 (dw K (ak 0) "levels") (aj (ak 3) aQ)) aQ)) aQ))) Jy "lost")
 (bH (dC (dP A.bE "take" cZ [] E0 (dw K (ak 0) "levels") (aj (ak 3) aQ)) (bj 4))
 (bH (oN K (ak 0) (bX iD [] E0 (aj (ak 4) aQ)) Jy "looked")
 (bH (oN K (ak 0) (bX fO [] E0 (aj (ak 4) aQ)) Jy "risen")
 (ee (ak 4))))))
theorem G0 (Fu:wR K "out" "Kept.out" Bl f fd) (T:vZ K mg C A X) {ff:Sp}(nc:JZ P w K mg base (rV P w) 6 "standing_tie" Ca ff) {fh:Sp}(uZ:JZ P w K mg base vW 2 "credit" MB fh) {cZ:Sp}(lb:GP P w K mg base vW 9 A.bE "take" wA cZ) {iD:Sp}(zS:JZ P w K mg base vW 2 "looks" Cb iD) {fO:Sp}(zT:JZ P w K mg base vW 1 "rises" Cb fO) {cB:Sp}(lg:GP P w K mg base vW 1 A.bE "told" wA cB)
 (len:Ln sp 3) (run:Rx sp (λE=>nH K C A E ff fh cZ iD fO cB) QM):gN P w K mg base (rV P w) 10 f fd jb sp :=
 Fu.Rj sx len λjo A0 outer s H vs Q E hr h=>⟨nH K C A E ff fh cZ iD fO cB,
 aA (j6 sx.nd (Gz nc hr.m rfl qf (aK (jK (pv 0) rfl) (aK (jK (jK (pv 0) rfl) rfl) (aK (pv 1) (aK (pv 2) bU))))))
 (aA (mZ (pv 0) (Gz uZ hr.m rfl ju (aK (jK (pv 0) rfl) (aK (qB (aK (SK lg T.v5 hr.m (jK (pv 0) rfl) ju (aK (pv 3) bU)) bU)) bU))) uo)
 (aA (j6 sx.nd (SK lb T.v5 hr.m (jK (pv 0) rfl) ju (aK (pv 3) bU)))
 (aA (mZ (pv 0) (Gz zS hr.m rfl ju (aK (pv 4) bU)) uo)
 (aA (mZ (pv 0) (Gz zT hr.m rfl ju (aK (pv 4) bU)) uo)
 (aS (dH (pv 4))))))),run vs H Q E h⟩
def kx (K:aa) (C:ah) (A:CA) (E:XK) (cw:Sp):TS :=
 ee (dP C "joined" cw [] E (dw K (ak 0) "wood") (aj (ak 1) (aj (ak 2) aQ)))
theorem Bt (Fu:wR K "joined" "Kept.joined" su f fd) (T:vZ K mg C A X) {cw:Sp}(iQ:GP P w K mg base (rV P w) 5 C "joined" jb cw)
 (len:Ln sp 3) (run:Rx sp (λE=>kx K C A E cw) jb):gN P w K mg base (rV P w) 6 f fd jb sp :=
 Fu.Rj xt len λjo A0 outer s H vs Q E hr h=>⟨kx K C A E cw,
 aS (dH (SK iQ T.sQ hr.m (jK (pv 0) rfl) qf (aK (pv 1) (aK (pv 2) bU)))),run vs H Q E h⟩
def nI (K:aa) (C:ah) (A:CA) (E:XK) (gM:Sp):TS :=
 ee (dP C "way" gM [] E (dw K (ak 0) "wood") (aj (ak 1) (aj (ak 2) aQ)))
theorem G1 (Fu:wR K "way" "Kept.way" Bn f fd) (T:vZ K mg C A X) {gM:Sp}(sC:GP P w K mg base (rV P w) 6 C "way" jb gM)
 (len:Ln sp 3) (run:Rx sp (λE=>nI K C A E gM) jb):gN P w K mg base (rV P w) 7 f fd jb sp :=
 Fu.Rj Fd len λjo A0 outer s H vs Q E hr h=>⟨nI K C A E gM,
 aS (dH (SK sC T.sQ hr.m (jK (pv 0) rfl) qf (aK (pv 1) (aK (pv 2) bU)))),run vs H Q E h⟩
def mB (K:aa) (C:ah) (A:CA) (E:XK) (fX:Sp):TS :=
 ee (dP C "group" fX [] E (dw K (ak 0) "wood") (aj (ak 1) aQ))
theorem Fk (Fu:wR K "side" "Kept.side" yn f fd) (T:vZ K mg C A X) {fX:Sp}(pO:GP P w K mg base (rV P w) 4 C "group" sk fX)
 (len:Ln sp 2) (run:Rx sp (λE=>mB K C A E fX) sk):gN P w K mg base (rV P w) 5 f fd sk sp :=
 Fu.Rj Cj len λjo A0 outer s H vs Q E hr h=>⟨mB K C A E fX,
 aS (dH (SK pO T.sQ hr.m (jK (pv 0) rfl) qf (aK (pv 1) bU))),run vs H Q E h⟩
def lh (K:aa) (C:ah) (A:CA) (E:XK) (sp_Kept___init___o cO sp_new_tie_o cb:Sp):TS :=
 tO (mP K (ak 2)) (yW K 3 (gZ (bj 4) (gZ (bj 5) (gZ (bj 6) A1))))
 (bH (dC (bX sp_new_tie_o [] E (aj (ak 1) (aj (ak 3) (aj (ak 4) (aj (ak 5) aQ))))) (bj 7))
 (dC (ak 6) (D7 (ak 3) (ak 7) uw)))
def qI (K:aa) (C:ah) (A:CA) (sp_Kept___init___o cO sp_new_tie_o cb:Sp):TS :=
 tO (mP K (bX cO [] E0 (aj (ak 3) (aj (ak 3) aQ)))) (bj 7)
 (dr (dP A.aH "receive" cb [] E0 (ak 0) (aj (ak 7) (aj (dt (eU K) (ak 3) (ak 7)) aQ))))
def il (K:aa) (C:ah) (A:CA) (E:XK) (sp_Kept___init___o cO sp_new_tie_o cb:Sp):TS :=
 bH (dr (bX sp_Kept___init___o [] E (aj (ak 0) (aj (ak 1) aQ))))
 (bH (dC sf (bj 3))
 (bH (lh K C A E sp_Kept___init___o cO sp_new_tie_o cb)
 (qI K C A sp_Kept___init___o cO sp_new_tie_o cb)))
theorem sD (Fu:wR K "__init__" "Lightest.__init__" lD f fd) (T:vZ K mg C A X) {sp_Kept___init___o:Sp}(mC:VD P w K mg base (rV P w) 5 A.Kept "__init__" rh sp_Kept___init___o) {cO:Sp}(ng:JZ P w K mg base vW 1 "in_order" EW cO) {sp_new_tie_o:Sp}(u6:JZ P w K mg base (rV P w) 6 "new_tie" Ca sp_new_tie_o) {cb:Sp}(j9:GP P w K mg base vW 9 A.aH "receive" zl cb)
 (len:Ln sp 3) (run:Rx sp (λE=>il K C A E sp_Kept___init___o cO sp_new_tie_o cb) Yw):gN P w K mg base (rV P w) 10 f fd VO sp :=
 Fu.Rj d8 len λjo A0 outer s H vs Q E hr h=>⟨il K C A E sp_Kept___init___o cO sp_new_tie_o cb,
 aA (dU (pcb mC hr.m (lY rfl T.Rg rfl) qf (aK (pv 0) (aK (pv 1) bU))))
 (aA (j6 d8.nd LW)
 (aA (qz PassesOwn.leaving rfl (lC (pv 2)) (A2 rfl (gp (iC d8.nd) (gp (iC d8.nd) (gp (iC d8.nd) vV))))
 (aA (j6 d8.nd (Gz u6 hr.m rfl qf (aK (pv 1) (aK (pv 3) (aK (pv 4) (aK (pv 5) bU))))))
 (aS (Uy (pv 6) (Ux (pv 3) (pv 7) (Zo hr.units))))))
 (aS (PS.WJ (qz dS rfl (lC (Gz ng hr.m rfl ju (aK (pv 3) (aK (pv 3) bU)))) (iC d8.nd)
 (aS (dU (SK j9 T.ka hr.m (pv 0) ju (aK (pv 7) (aK (qU (A8 hr.units) (pv 3) (pv 7) (λ_ _=>rfl)) bU)))))))))),run vs H Q E h⟩
end K55
section
open PySem PySem.Spec PyProof.Rows L2
local macro_rules | `(tactic| walk_at "c")=>`(tactic| first|(show (0:Int)<_;lia)|exact ⟨by lia,by lia⟩|exact Or.inl ⟨by lia,by lia⟩|exact Or.inr ⟨by lia,by lia⟩|exact ⟨by lia,by lia,by lia⟩)
local macro_rules | `(tactic| k_ne)=>`(tactic| first|(with_reducible first|refine pC ?_|refine acy ?_|refine X8 ?_|refine aaR ?_)|((with_reducible refine' Zp ?hv ?_);(case hv=>exact rfl))|(with_reducible first|refine x_c ?_|refine x_op ?_|refine acz ?_|refine aaS ?_|refine aaT ?_|refine Zq ?_|refine x_if ?_|refine aaU ?_|refine x_tB ?_|refine acJ ?_|refine aa3 ?_|refine acA ?_|refine x_or ?_|refine acB ?_|refine aaV ?_|refine x_orV ?_|refine aaW ?_|refine Zs ?_|refine acC ?_|refine Zr ?_|refine Ou ?_|refine acD ?_|refine acE ?_|refine aaX ?_|refine x_cb ?_|refine x_bm ?_|refine x_sl ?_|refine UX ?_|refine aaY ?_|refine acG ?_)|((with_reducible refine x_rI ?hc ?_);(case hc=>walk_at "c"))|(with_reducible first|refine aaZ ?_|refine x_addHI ?_|refine acH ?_|refine x_neI ?_|refine aa4 ?_|refine acK ?_|refine aa5 ?_|refine aa2 ?_|refine acN ?_|refine acO ?_|refine x_un ?_|refine x_rU ?_|refine Ya ?_|refine acI ?_|refine acQ ?_|refine x_dnew ?_|refine Yb ?_|refine aa6 ?_)|((with_reducible refine' acL ?hv ?_);(case hv=>exact rfl))|with_reducible refine ⟨_,rfl,?_⟩)
local macro_rules | `(tactic| lk)=>`(tactic| (k_ne;repeat k_ne))
namespace K55
variable {K:aa}{C:ah}{A:CA}{Pt p dx l:ah}{H H':Hp}{n T:Nat}{ts:List Rm.Ti}{Q:VK}{R:Nat->Nat->List Int}{as:Nat->List ah}{us:List (Rm.Ti×ah)}{zs:List Zt}
open Rm
variable {X:EC}
def GA (t:Int×Int):PyData:=.tuple [.int t.1,.int t.2]
theorem Ji:∀ {zs:List Zt},(∀ z∈zs,iL H z)->fF K H ((zs.map zP).map GA) (zs.map kM)
 | [],_=>.nil
 | z::zs,h=>.cons (.tup (.of (h z ar)) (.cons (.int _) (.cons (.int _) .nil))) (Ji λy hy=>h y (ag _ hy))
def Kb (hl:H l=some (.lst (zs.map kM))) (h:∀ z∈zs,iL H z):Rep K H (.list ((zs.map zP).map GA)) (.ref l):=.lst (dh.of hl) (Ji h)
theorem zU:∀ L:List (Int×Int),j5 (L.map GA)=true
 | []=>rfl
 | t::ts=>by simp only [cn,j5,eG];exact ⟨by simp [GA,ou,j5],zU ts⟩
theorem MP:∀ L:List (Int×Int),ik (L.map GA)<=2
 | []=>by simp [ik]
 | t::ts=>by
  have:=MP ts;simp only [cn,ik]
  have e:(GA t).depth<=2:=by simp [GA,i5,ik]
  lia
def v3 (L:List (Int×Int)):yi (.list (L.map GA)):=⟨Ba _ (by simp only [ou];exact zU L),by have:=MP L;simp only [i5];lia⟩
def abr {L M:List (Int×Int)}(e:L=M):fi (.list (L.map GA)) (.list (M.map GA))=true:=by rw [e];exact yP _ (v3 M).lay
def Fn (h:∀ z∈zs,iL H z) (S:bS H H'):∀ z∈zs,iL H' z:=λz hz=>S _ _ (h z hz)
def OS (t u:Int×Int):fi (GA t) (GA u)=decide (t=u):=by
 obtain ⟨a,b⟩:=t;obtain ⟨c,d⟩:=u;rw [eZ];simp [GA,fi,PyData.eqvAll,Lu]
def Q2 (t:Int×Int):yi (GA t):=⟨Ba _ (by simp [GA,ou,j5]),by simp [GA,i5,ik]⟩
def V2 {a b:Int}(h:H p=some (.tup [.int a,.int b])):Rep K H (GA (a,b)) (.ref p):=.tup (.of h) (.cons (.int _) (.cons (.int _) .nil))
theorem abt {L:List (Int×Int)}{t u:Int×Int}:∀ {m:Nat},m<L.idxOf t->L[m]?=some u->u≠t:=by
 induction L with
 | nil=>intro m h e;simp at e
 | cons v L ih =>
  intro m h e
  by_cases q:v=t
  .subst q;simp at h
  .have hv:(v == t)=false:=by simpa using q
   rw [List.idxOf_cons,hv] at h
   cases m with
   | zero=>simp at e;subst e;exact q
   | succ m=>exact ih (m:=m) (by simpa using h) (by simpa using e)
theorem MQ {a b:Int}(hl:H l=some (.lst (zs.map kM))) (hz:∀ z∈zs,iL H z) (hlen:zs.length<=100000) (hp:H p=some (.tup [.int a,.int b])) (hm:(a,b)∈zs.map zP)
  (k:Q (.int ((zs.map zP).idxOf (a,b):Nat)) H):qe K (.ref l) [.ref p] H Q:=by
 have hi:(zs.map zP).idxOf (a,b)<(zs.map zP).length:=hJ.mpr hm;refine .inr ⟨l,.ref p,(zs.map zP).map GA,GA (a,b),(zs.map zP).idxOf (a,b),GA (a,b),rfl,rfl,Kb hl hz,V2 hp,Q2 _,km _ (zU _),by rw [af,af];exact du hlen,?_,by rw [OS];simp,λm e hm' em=>?_,k⟩
 .rw [aG,aw hi,CS];rfl
 .obtain ⟨u,e1,e2⟩:=gm em;subst e2;rw [OS,decide_eq_false (abt hm' e1)]
inductive cY (K:aa) (C:ah) (vs:List V) (H:Hp) (Q:VK) (E:XK):Prop
 | mk (p:_) (r:List Int):vs=[.ref p]->dh K H p (r.map V.int)->r.length<=1000->(∀ l H' (zs:List Zt),bS H H'->H l=none->H' l=some (.lst (zs.map kM))->(∀ z∈zs,iL H' z)->zs.map zP=al r->Q (.ref l) H')->cY K C vs H Q E
theorem C5:Rn (cY K C) (uK K C) ["row"]:=by
 rintro vs H Q E ⟨p,r,rfl,hp,hl,k⟩;unfold uK;lk;refine abe ?_;lk;refine y8 (j:=1) hp rfl λq hq=>?_;generalize eu_:upd _ q _=H1;obtain ⟨S1,g1⟩:=news eu_ hq;lk;exact ⟨p,q,r,r.drop 1,rfl,S1.seq hp,dh.of g1,by lia,λl zs H2 S2 hl2 gl hz e=>k l H2 zs (S1.trans S2) (S1.free hl2) gl hz (by rw [e,OJ])⟩
inductive m9 (K:aa) (C:ah) (vs:List V) (H:Hp) (Q:VK) (E:XK):Prop
 | mk (p:_) (r:List Int) (a b:Int):vs=[.ref p,.int a,.int b]->dh K H p (r.map V.int)->r.length<=1000->(a,b)∈al r->(b,a)∈al r->(∀ (t x y:ah) (H':Hp),bS H H'->H t=none->H x=none->H y=none->x≠y->H' t=some (.tup [.ref x,.ref y])->H' x=some (.lst ((AR r a b).1.map V.int))->H' y=some (.lst ((AR r a b).2.map V.int))->Q (.ref t) H')->m9 K C vs H Q E
theorem OT:Rn (m9 K C) (Jg K C (cY K C)) ZF:=by
 rintro vs H Q E ⟨p,r,a,b,rfl,hp,hl,hab,hba,k⟩;have hi:(al r).idxOf (a,b)<(al r).length:=hJ.mpr hab;have hj:(al r).idxOf (b,a)<(al r).length:=hJ.mpr hba;rw [J3] at hi hj;unfold Jg;lk;refine ⟨p,r,rfl,hp,hl,λw H1 zs S1 hw gw hz ez=>?_⟩
 have hzl:zs.length<=1000:=by
  have:=congrArg eW ez;rw [af,J3] at this;lia
 lk;refine ⟨.inl ⟨rfl,_,dh.of gw⟩,?_⟩;lk;refine ⟨oq,λt1 ht1=>?_⟩;generalize eu_:upd _ t1 _=H2;obtain ⟨S2,g2⟩:=news eu_ ht1;lk;refine MQ (S2 _ _ gw) (Fn hz S2) (by lia) g2 (by rw [ez];exact hab) ?_;rw [ez];lk;refine ⟨.inl ⟨rfl,_,dh.of (S2 _ _ gw)⟩,?_⟩;lk;refine ⟨oq,λt2 ht2=>?_⟩;generalize eu_:upd _ t2 _=H3;obtain ⟨S3,g3⟩:=news eu_ ht2;have S13:=S2.trans S3;lk;refine MQ (S13 _ _ gw) (Fn hz S13) (by lia) g3 (by rw [ez];exact hba) ?_;rw [ez]
 have hpr:AR r a b=if (al r).idxOf (a,b)<(al r).idxOf (b,a) then (Bi r ((al r).idxOf (a,b)) ((al r).idxOf (b,a)),wz r ((al r).idxOf (a,b)) ((al r).idxOf (b,a))) else (wz r ((al r).idxOf (b,a)) ((al r).idxOf (a,b)),Bi r ((al r).idxOf (b,a)) ((al r).idxOf (a,b))):=rfl
 generalize (al r).idxOf (a,b)=i at hi hpr;generalize (al r).idxOf (b,a)=j at hj hpr;lk
 obtain ⟨u,v,eu,ev,huv⟩:∃ u v:Nat,(if (j:Int)<(i:Int) then (j:Int) else (i:Int))=(u:Int)/\(if (j:Int)>(i:Int) then (j:Int) else (i:Int))=(v:Int)/\((i<j/\u=i/\v=j)\/(¬ i<j/\u=j/\v=i)):=by
  by_cases c:i<j
  .exact ⟨i,j,by rw [if_neg (by lia)],by rw [if_pos (by lia)],.inl ⟨c,rfl,rfl⟩⟩
  .by_cases c2:j<i
   .exact ⟨j,i,by rw [if_pos (by lia)],by rw [if_neg (by lia)],.inr ⟨c,rfl,rfl⟩⟩
   .have:i=j:=by lia
    subst this;exact ⟨i,i,by rw [if_neg (by lia)],by rw [if_neg (by lia)],.inr ⟨c,rfl,rfl⟩⟩
 rw [eu,ev];have hS:=S1.trans S13;refine JN (j:=u+1) (j':=v+1) (hS.seq hp) (by lia) (by lia) λy hy=>?_
 have hin:(r.drop (u+1)).take (v+1-(u+1))=wz r u v:=by unfold wz;rw [show v+1-(u+1)=v-u by lia]
 rw [hin];generalize eu_:upd _ y _=H4;obtain ⟨S4,g4⟩:=news eu_ hy;lk;refine Ow (j:=u+1) ((hS.trans S4).seq hp) (by lia) λq1 hq1=>?_;generalize eu_:upd _ q1 _=H5;obtain ⟨S5,g5⟩:=news eu_ hq1;lk;refine y8 (j:=v+2) ((hS.trans (S4.trans S5)).seq hp) (by lia) λq2 hq2=>?_;generalize eu_:upd _ q2 _=H6;obtain ⟨S6,g6⟩:=news eu_ hq2;refine JO (S6 _ _ g5) g6 (by rw [bO,dJ];lia) λx hx=>?_;have S7:=bS.cc (o:=.lst ((Bi r u v).map V.int)) hx;have g7:(upd H6 x (.lst ((Bi r u v).map V.int))) x=some (.lst ((Bi r u v).map V.int)):=aD
 show bj 9 (.ref x) _ (upd H6 x (.lst ((Bi r u v).map V.int))) _
 generalize upd H6 x (.lst ((Bi r u v).map V.int))=H7 at S7 g7;have S37:=S4.trans (S5.trans (S6.trans S7));have S47:=S5.trans (S6.trans S7);have nxy:x≠y:=Ne.symm (aJ (S6 _ _ (S5 _ _ g4)) hx);have hHx:H x=none:=(hS.trans (S4.trans (S5.trans S6))).free hx;have hHy:H y=none:=hS.free hy;lk
 rcases huv with ⟨c,rfl,rfl⟩|⟨c,rfl,rfl⟩
 .rw [if_pos c] at hpr;refine wx (λ_=>?_) λz=>absurd (by lia) z;lk;refine ⟨oq,λt ht=>?_⟩;have S8:=bS.cc (o:=.tup [.ref x,.ref y]) ht;exact k t x y _ ((hS.trans S37).trans S8) ((hS.trans S37).free ht) hHx hHy nxy aD (by rw [hpr];exact S8 _ _ g7) (by rw [hpr];exact S8 _ _ (S47 _ _ g4))
 .rw [if_neg c] at hpr;refine wx (λz=>absurd (by lia) c) λ_=>?_;lk;refine ⟨oq,λt ht=>?_⟩;have S8:=bS.cc (o:=.tup [.ref y,.ref x]) ht;exact k t y x _ ((hS.trans S37).trans S8) ((hS.trans S37).free ht) hHy hHx (Ne.symm nxy) aD (by rw [hpr];exact S8 _ _ (S47 _ _ g4)) (by rw [hpr];exact S8 _ _ g7)
inductive jI (K:aa) (C:ah) (vs:List V) (H:Hp) (Q:VK) (E:XK):Prop
 | mk (p:_) (r:List Int) (a:Int):vs=[.ref p,.int a]->dh K H p (r.map V.int)->a∈r->r.length<=1000->(∀ l H',bS H H'->H l=none->H' l=some (.lst ((tn r (r.idxOf a)).map V.int))->Q (.ref l) H')->jI K C vs H Q E
theorem OU:Rn (jI K C) (Je K C) ["row","a","k"]:=by
 rintro vs H Q E ⟨p,r,a,rfl,hp,ha,hl,q⟩;unfold Je;lk;refine ⟨.inl ⟨rfl,_,hp⟩,?_⟩;lk;refine JL hp ha ?_;lk;refine y8 hp rfl λp1 h1=>?_;have S1:=bS.cc (o:=.lst ((r.drop (r.idxOf a)).map V.int)) h1;lk;refine JN (j:=1) (j':=r.idxOf a+1) (S1.seq hp) rfl (by lia) λp2 h2=>?_;have S2:=bS.cc (o:=.lst (((r.drop 1).take (r.idxOf a+1-1)).map V.int)) h2;refine JO (S2 _ _ aD) aD ?_ λp3 h3=>?_
 .rw [dJ,bO,dJ];lia
 .have S3:=bS.cc (o:=.lst (((r.drop (r.idxOf a))++((r.drop 1).take (r.idxOf a+1-1))).map V.int)) h3;have S:=(S1.trans S2).trans S3;exact q p3 _ S ((S1.trans S2).free h3) aD
inductive pI (K:aa) (C:ah) (vs:List V) (H:Hp) (Q:VK) (E:XK):Prop
 | mk (p q:_) (r1 r2:List Int) (a b:Int):vs=[.ref p,.ref q,.int a,.int b]->dh K H p (r1.map V.int)->dh K H q (r2.map V.int)->a∈r1->b∈r2->r1.length<=1000->r2.length<=1000->(∀ l H',bS H H'->H l=none->H' l=some (.lst ((EV r1 r2 a b).map V.int))->Q (.ref l) H')->pI K C vs H Q E
theorem MR:Rn (pI K C) (Fg K C (jI K C)) ["row","other","a","b","k"]:=by
 rintro vs H Q E ⟨p,q,r1,r2,a,b,rfl,hp,hq,ha,hb,hl1,hl2,k⟩;unfold Fg;lk;refine ⟨.inl ⟨rfl,_,hp⟩,?_⟩;lk;refine JL hp ha ?_;lk;refine Ow (j:=r1.idxOf a+1) hp (by lia) λp1 h1=>?_;generalize eu_:upd _ p1 _=H1;obtain ⟨S1,g1⟩:=news eu_ h1;lk;refine ⟨q,r2,b,rfl,S1.seq hq,hb,hl2,λt H2 S2 ht gt=>?_⟩;have hlt:(tn r2 (r2.idxOf b)).length=r2.length:=OI (J2 hb);refine JO (S2 _ _ g1) gt (by rw [bO];lia) λp3 h3=>?_;generalize eu_:upd _ p3 _=H3;obtain ⟨S3,g3⟩:=news eu_ h3;lk;have S13:=S1.trans (S2.trans S3);refine y8 (j:=r1.idxOf a) (S13.seq hp) rfl λp4 h4=>?_;generalize eu_:upd _ p4 _=H4;obtain ⟨S4,g4⟩:=news eu_ h4;refine JO (S4 _ _ g3) g4 (by rw [br,bO,dJ];lia) λp5 h5=>?_;have S5:=bS.cc (o:=.lst ((r1.take (r1.idxOf a+1)++tn r2 (r2.idxOf b)++r1.drop (r1.idxOf a)).map V.int)) h5;refine k p5 _ ((S13.trans S4).trans S5) ((S13.trans S4).free h5) ?_;unfold EV;rw [← eK];exact aD
inductive iP (K:aa) (C:ah) (vs:List V) (H:Hp) (Q:VK) (E:XK):Prop
 | mk (p:_) (r:List Int) (a b:Int):vs=[.ref p,.int a,.int b]->H p=some (.lst (r.map V.int))->lM r->r.length<=127->a∈r->b∈r->(∀ l H',bS H H'->Q (.ref l) H')->iP K C vs H Q E
theorem OV:Rn (iP K C) (Jh K C (jI K C)) ZP:=by
 rintro vs H Q E ⟨p,r,a,b,rfl,hp,hR,hrl,ha,hb,q⟩;have hbt:=((hR.turn ha).2.2.2.1 b).mpr hb;have hlr:(tn r (r.idxOf a)).length=r.length:=OI (J2 ha);unfold Jh;lk;refine ⟨p,_,a,rfl,dh.of hp,ha,by lia,λt H1 S1 ht gt=>?_⟩;generalize tn r (r.idxOf a)=w at gt hbt hlr;lk;refine ⟨oq,λl hl=>?_⟩;generalize eu_:upd _ l _=H2;obtain ⟨S2,gl⟩:=news eu_ hl;have gt2:=S2 _ _ gt;lk;unfold Cm;lk;refine ⟨.inl ⟨rfl,_,dh.of gt2⟩,?_⟩;lk;refine JL (dh.of gt2) hbt ?_;lk;refine Ow (j:=w.idxOf b+1) (dh.of gt2) (by lia) λs hs=>?_;generalize eu_:upd _ s _=H3;obtain ⟨S3,gs⟩:=news eu_ hs
 have hwl:(w.take (w.idxOf b+1)).length<=127:=by rw [bO];lia
 generalize w.take (w.idxOf b+1)=vs at gs hwl;refine ⟨s,rfl,?_⟩
 refine .inl ⟨⟨_,dh.of gs⟩,jt (K:=K) (a:=s) (xs:=vs.map V.int)
  (λi Z H4=>bf l H3 H4/\∃ (wn:List Int) (o5:Option V),Z=[some (.ref p),some (.int a),some (.int b),some (.ref t),some (.ref l),o5]/\H4 l=some (.lst (wn.map V.int))/\wn.length<=i)
  ⟨bf.refl _ _,[],_,rfl,S3 _ _ gl,aB _⟩ ?_ ?_ ?_⟩
 .rintro i Z H4 _ ⟨B,_⟩;exact dh.of (B _ _ gs (Ne.symm (aJ gl hs)))
 .rintro i z Z H4 hi ⟨B,wn,o5,rfl,gw,hwn⟩;obtain ⟨pn,hpn,rfl⟩:=gm hi;have hiv:=(av.mp hpn).1
  have push:iG (V.ref l) [V.int pn] H4 λ_ H1=>bf l H3 H1/\∃ (wn:List Int) (o5':Option V),[some (V.ref p),some (V.int a),some (V.int b),some (V.ref t),some (V.ref l),some (V.int pn)]=[some (V.ref p),some (V.int a),some (V.int b),some (V.ref t),some (V.ref l),o5']/\H1 l=some (.lst (wn.map V.int))/\wn.length<=i+1 :=
   qY gw (eL (m:=1000) (by rw [af];lia)) ⟨B.trans bf.upd,wn++[pn],_,rfl,by rw [aP];exact aD,by rw [br];exact jH hwn⟩
  lk;refine JK (dh.of gw) ?_;rw [af];lk;refine wx (λh1=>?_) λh1=>?_
  .have h1:1<wn.length:=by lia
   lk;refine nR (dh.of gw) (Yd (j:=1) (v:=.int wn[wn.length-2]) (by rw [af];exact h1) (Qt (by rw [af];exact aw (by lia)))) ?_;lk;refine wx (λe=>?_) λe=>?_
   .lk;refine acS ?_;lk;refine ⟨.inl ⟨rfl,_,dh.of gw⟩,?_⟩
    rcases fw wn with z|⟨us,u,z⟩
    .subst z;cases h1
    .rw [z,fz] at gw hwn;rw [aP] at gw;rw [br] at hwn;exact acT gw ⟨B.trans bf.upd,us,_,rfl,aD,by lia⟩
   .lk;refine ⟨.inl ⟨rfl,_,dh.of gw⟩,?_⟩;lk;exact push
  .refine gI ?_;lk;refine ⟨.inl ⟨rfl,_,dh.of gw⟩,?_⟩;lk;exact push
 .rintro Z H4 ⟨B,wn,o5,rfl,gw,_⟩;lk;exact q l H4 (S1.trans λb o e=>B _ _ (S3 _ _ (S2 _ _ e)) (aJ e hl))
inductive Th:V->Prop
 | int (i:Int):Th (.int i)
 | bl (b:Bool):Th (.bl b)
 | non:Th .non
 | str (x:bq):Th (.str x)
def isW:V->Bool
 | .int _=>true
 | _=>false
def iE (n:Nat):V->Bool
 | .int i=>decide (0<=i) && decide (i<n)
 | _=>false
def MS {i:Nat}(h:i<n):iE n (.int i)=true:=by
 unfold iE;rw [eG,decide_eq_true_iff,decide_eq_true_iff];lia
def qm {v:V}(h:iE n v=true):∃ i:Nat,i<n/\v=.int i:=by
 cases v with
 | int i =>
  unfold iE at h;rw [eG,decide_eq_true_iff,decide_eq_true_iff] at h
  exact ⟨i.toNat,by lia,by rw [Int.toNat_of_nonneg h.1]⟩
 | _=>cases h
def jg (K:aa) (C:ah):Sp:=λvs H Q _=>(∃ v:V,vs=[v]/\Th v/\Q (.bl (isW v)) H)\/∃ (a:ah) (xs:List V),vs=[.ref a]/\H a=some (.lst xs)/\Q (.bl false) H
def Kc:Ln (jg K C) 1:=by
 rintro vs H Q E (⟨i,rfl,_⟩|⟨i,j,rfl,_⟩)<;>rfl
theorem Kd:Rn (jg K C) (uI K C) zq:=by
 rintro vs H Q E (⟨v,rfl,hv,k⟩|⟨a,xs,rfl,ha,k⟩);rotate_left
 .unfold uI;lk;refine qZ (.lst ha) aa7 ?_;lk;refine gI ?_;exact k
 unfold uI;lk
 cases hv with
 | int i =>
  refine qZ (.int i) U1 ?_;lk;refine jX ?_;lk;refine qZ (.int i) U2 ?_;lk
  exact k
 | bl b =>
  refine qZ (.bl b) U3 ?_;lk;refine jX ?_;lk;refine qZ (.bl b) U4 ?_;lk
  exact k
 | non =>
  refine qZ .non U5 ?_;lk;refine gI ?_
  exact k
 | str x =>
  refine qZ (.str x) U6 ?_;lk;refine gI ?_;exact k
inductive fV (K:aa) (C:ah) (vs:List V) (H:Hp) (Q:VK) (E:XK):Prop
 | mk (n:Nat) (v:_):vs=[.int n,v]->Th v->Q (.bl (iE n v)) H->fV K C vs H Q E
theorem Ke:Rn (fV K C) (Ck K C (jg K C)) qg:=by
 rintro vs H Q E ⟨n,v,rfl,hv,k⟩;unfold Ck;lk;refine .inl ⟨v,rfl,hv,?_⟩;refine ⟨isW v,rfl,?_⟩
 cases hv with
 | int i =>
  refine jX ?_;lk;refine wx (λh=>?_) λh=>?_
  .lk
   have:iE n (.int i)=decide (i<n):=by show (decide (0<=i) && decide (i<n))=_;rw [decide_eq_true h,BU]
   rw [← this];exact k
  .have:iE n (.int i)=false:=by show (decide (0<=i) && decide (i<n))=_;rw [decide_eq_false h,yR]
   rw [← this];exact k
 | bl b=>refine gI ?_;exact k
 | non=>refine gI ?_;exact k
 | str x=>refine gI ?_;exact k
inductive cK (K:aa) (C:ah) (vs:List V) (H:Hp) (Q:VK) (E:XK):Prop
 | mk (n i:Nat):vs=[.int n,.int i]->i<n->Q .non H->cK K C vs H Q E
def wC:Rn (cK K C) (pH K C (fV K C)) qg:=by
 rintro vs H Q E ⟨n,i,rfl,hi,k⟩;unfold pH;lk;refine ⟨n,.int i,rfl,.int _,?_⟩;rw [MS hi];refine ⟨true,rfl,?_⟩;refine gI ?_;lk;exact k
inductive d9 (K:aa) (C:ah) (vs:List V) (H:Hp) (Q:VK) (E:XK):Prop
 | mk (n i j:Nat):vs=[.int n,.int i,.int j]->i<n->j<n->Q .non H->d9 K C vs H Q E
def u7:Rn (d9 K C) (oG K C (cK K C)) tP:=by
 rintro vs H Q E ⟨n,i,j,rfl,hi,hj,k⟩;unfold oG;lk;refine ⟨n,i,rfl,hi,?_⟩;lk;refine ⟨n,j,rfl,hj,?_⟩;exact k
inductive cf (K:aa) (C:ah) (vs:List V) (H:Hp) (Q:VK) (E:XK):Prop
 | mk (n i j:Nat):vs=[.int n,.int i,.int j]->i<n->j<n->i≠j->Q .non H->cf K C vs H Q E
def yu:Rn (cf K C) (qj K C (d9 K C)) tP:=by
 rintro vs H Q E ⟨n,i,j,rfl,hi,hj,hij,k⟩;unfold qj;lk;refine ⟨n,i,j,rfl,hi,hj,?_⟩;lk;refine wx (λz=>absurd (j4.mp z) (by lia)) λ_=>?_;lk;exact k
def nh {ta tv:TE}{f:bq}{D:r9}{Z:L2.St}(h:tv Z H λy H1=>ta Z H1 λx H2=>∃ a C dx fs,x=.ref a/\H2 a=some (.ins C dx fs)/\GC K C/\eI K C f/\fs.length<1000/\D.nx Z (upd H2 a (.ins C dx (eT f y fs)))):ph K ta tv f D Z H:=h
def kn:¬ (("n":bq)="rows"):=by decide +kernel
def Kg (n:Nat) (l:ah):List (bq×V):=eT "rows" (.ref l) (eT "n" (.int n) [])
def iR (n:Nat) (l:ah):(Kg n l).lookup ("rows":bq)=some (.ref l):=by unfold Kg;rw [fU,if_pos rfl]
def u9 (n:Nat) (l:ah):(Kg n l).lookup ("n":bq)=some (.int n):=by unfold Kg;rw [fU,if_neg kn,fU,if_pos rfl]
def ip (n:Nat) (l:ah) {m:bq}(h1:¬ m="rows":=by decide +kernel) (h2:¬ m="n":=by decide +kernel):(Kg n l).lookup m=none:=by
 unfold Kg;rw [fU,if_neg h1,fU,if_neg h2];rfl
structure CT (K:aa) (C:ah):Prop where
 cl:GC K C
 n:eI K C "n"
 rows:eI K C "rows"
structure WA (C:ah) (H:Hp) (p dx l:ah) (n:Nat) (as:List ah) (R:Nat->List Int):Prop where
 ob:H p=some (.ins C dx (Kg n l))
 rl:H l=some (.lst (as.map V.ref))
 len:as.length=n
 at_:∀ i a,as[i]?=some a->H a=some (.lst ((R i).map V.int))
 ne:∀ a∈as,a≠l
theorem WA.get {as:List ah}{R:Nat->List Int}(W:WA C H p dx l n as R) {i:Nat}(hi:i<n):∃ a,as[i]?=some a/\H a=some (.lst ((R i).map V.int))/\a≠l:=by
 have h:i<as.length:=by rw [W.len];exact hi
 exact ⟨as[i],aw h,W.at_ i _ (aw h),W.ne _ (di h)⟩
def WA.same {as:List ah}{R:Nat->List Int}(W:WA C H p dx l n as R) (S:bS H H'):WA C H' p dx l n as R :=
 ⟨S _ _ W.ob,S _ _ W.rl,W.len,λi a h=>S _ _ (W.at_ i a h),W.ne⟩
inductive gE (K:aa) (C:ah) (vs:List V) (H:Hp) (Q:VK) (E:XK):Prop
 | mk (p dx:_) (n:Nat):vs=[.ref p,.int n]->H p=some (.ins C dx [])->CT K C->n<=1000->(∀ (l:ah) (as:List ah) (H':Hp),WA C H' p dx l n as (λi=>[(i:Int)])->H l=none->bf p H H'->Q .non H')->gE K C vs H Q E
theorem zV:Rn (gE K C) (rC K C) rh:=by
 rintro vs H Q E ⟨p,dx,n,rfl,hp,ct,hn,k⟩;unfold rC;k_ne;refine nh ?_;lk;refine ⟨p,C,dx,[],rfl,hp,ct.cl,ct.n,by decide,?_⟩;dsimp only;refine nh ?_;lk;refine ⟨by lia,by lia,λacc hacc=>?_⟩
 have e0:((n:Int)).toNat=n:=by lia
 rw [e0]
 have hap:acc≠p:=λe=>by rw [e,aD] at hacc;cases hacc
 have hacc0:H acc=none:=by rw [aE hap] at hacc;exact hacc
 have g0:(upd H p (.ins C dx (eT "n" (.int n) []))) p=some (.ins C dx (eT "n" (.int n) [])):=aD;have B0:bf p H (upd H p (.ins C dx (eT "n" (.int n) []))):=bf.upd;generalize upd H p (.ins C dx (eT "n" (.int n) []))=H0 at hacc g0 B0;refine oO (n:=n) (λt ys H1=>∃ as:List ah,ys=as.map V.ref/\as.length=t/\H1 acc=some (.lst ys)/\bS H0 H1/\∀ (i:Nat) a,as[i]?=some a->a≠acc/\H1 a=some (.lst ([(i:Int)].map V.int))) (λZ=>∃ o,Z=[o]) ⟨[],rfl,rfl,aD,bS.cc hacc,λi a h=>by simp at h⟩ ⟨_,rfl⟩ ?_ ?_ ?_ ?_
 .rintro t ys H1 ⟨_,_,_,h,_⟩;exact h
 .rintro ys H1 ⟨as,rfl,hl,g1,S1,hA⟩;refine ⟨aB n,?_⟩;lk;refine ⟨p,C,dx,_,rfl,S1 _ _ g0,ct.cl,ct.rows,by show 1<1000;decide,?_⟩;have hb:bf p H1 (upd H1 p (.ins C dx (Kg n acc))):=bf.upd
  have nl:∀ {b:ah}{xs:List V},H1 b=some (.lst xs)->b≠p:=λe z=>by rw [z,S1 _ _ g0] at e;cases e
  refine k acc as _ ⟨aD,hb _ _ g1 hap,hl,λi a ha=>hb _ _ (hA i a ha).2 (nl (hA i a ha).2),λa ha=>?_⟩ hacc0 λb o e hne=>hb _ _ (S1 _ _ (B0 _ _ e hne)) hne;obtain ⟨i,hi⟩:=bN.mp ha;exact (hA i a hi).1
 .rintro t ys H1 ht _;exact ht
 .rintro t ys σ' H1 x H2 ht ⟨as,rfl,hl,g1,S1,hA⟩ ⟨o,rfl⟩ ⟨eH,ex⟩;subst eH ex;lk;refine jX ?_;lk;refine ⟨oq,λq hq=>?_⟩;have T:=bS.cc (o:=.lst [.int (0+(t:Int))]) hq
  have u:(upd H2 q (.lst [.int (0+(t:Int))])) q=some (.lst ([(t:Int)].map V.int)):=by rw [aD];simp
  generalize upd H2 q (.lst [.int (0+(t:Int))])=H3 at T u;have hqa:q≠acc:=Ne.symm (aJ g1 hq);refine ⟨T _ _ g1,eL (m:=10000) (by rw [af];lia),lN.mk' ht ⟨_,rfl⟩ ⟨as++[q],by simp,by simp [hl],aD,λb o e=>by rw [aE (aJ e hacc)];exact T _ _ (S1 _ _ e),λi a ha=>?_⟩⟩
  by_cases hi:i<as.length
  .rw [gO hi] at ha;obtain ⟨h1,h2⟩:=hA i a ha;exact ⟨h1,by rw [aE h1];exact T _ _ h2⟩
  .rw [eX (by lia)] at ha
   have:i=as.length:=by
    have:=(av.mp ha).1;simp at this;lia
   subst this;simp at ha;subst ha;rw [hl];exact ⟨hqa,by rw [aE hqa];exact u⟩
inductive gK (K:aa) (C:ah) (vs:List V) (H:Hp) (Q:VK) (E:XK):Prop
 | mk (p dx l q:_) (n:Nat) (as:List ah) (s:List Int):vs=[.ref p,.ref q]->CT K C->H p=some (.ins C dx (Kg n l))->H l=some (.lst (as.map V.ref))->as.length=n->H q=some (.lst (s.map V.int))->q≠l->(∀ x∈s,∃ j:Nat,j<n/\x=(j:Int))->(∀ (as':List ah) H',as'.length=n->(∀ (i:Nat) (a:ah),as[i]?=some a->as'[i]?=some (if (i:Int)∈s then q else a))->H' l=some (.lst (as'.map V.ref))->bf l H H'->Q .non H')->gK K C vs H Q E
theorem G2:Rn (gK K C) (zJ K C) ["self","row","place"]:=by
 rintro vs H Q E ⟨p,dx,l,q,n,as,s,rfl,ct,hp,hl,hn,hq,hql,hs,k⟩;have hpl:p≠l:=fA hp hl;unfold zJ uN;lk
 refine .inl ⟨⟨_,dh.of hq⟩,jt (K:=K) (a:=q) (xs:=s.map V.int) (λi Z H1=>∃ (as':List ah) (o:Option V),Z=[some (.ref p),some (.ref q),o]/\as'.length=n/\(∀ (j:Nat) (a:ah),as[j]?=some a->as'[j]?=some (if (j:Int)∈s.take i then q else a))/\H1 l=some (.lst (as'.map V.ref))/\bf l H H1)
  ⟨as,_,rfl,hn,λj a h=>by simpa using h,hl,bf.refl _ _⟩ ?_ ?_ ?_⟩
 .rintro i Z H1 _ ⟨as',o,_,_,_,_,B⟩;exact dh.of (B _ _ hq hql)
 .rintro i x Z H1 hi ⟨as',o,rfl,hn',hA,g1,B⟩;obtain ⟨c,hc,ex⟩:=gm hi;have ex:x=V.int c:=ex.symm;subst ex;obtain ⟨j,hj,rfl⟩:=hs c (aM hc);k_go;refine ⟨p,C,dx,_,_,rfl,B _ _ hp hpl,ct.cl,ct.rows,iR _ _,?_⟩;lk;refine aa0 g1 (aa8 (j:=j) rfl (by rw [af];lia)) ?_;refine ⟨as'.set j q,_,rfl,by simpa using hn',λk' a ha=>?_,?_,λb o' e hb=>by rw [aE hb];exact B _ _ e hb⟩
  .have e1:s.take (i+1)=s.take i++[(j:Int)]:=by rw [LD,hc];rfl
   rw [e1]
   by_cases hk:k'=j
   .subst hk;rw [jT (by rw [hn',← hn];exact (av.mp ha).1),if_pos (by simp)]
   .rw [pe (Ne.symm hk),hA k' a ha]
    have:((k':Int)∈s.take i++[(j:Int)])↔(k':Int)∈s.take i:=by
     simp only [aT,aC];exact ⟨λh=>h.elim id λe=>absurd (by lia) hk,.inl⟩
    by_cases c1:(k':Int)∈s.take i
    .rw [if_pos c1,if_pos (this.mpr c1)]
    .rw [if_neg c1,if_neg (λh=>c1 (this.mp h))]
  .rw [aD,List.map_set]
 .rintro Z H1 ⟨as',o,rfl,hn',hA,g1,B⟩;rw [af,GI] at hA;exact k as' H1 hn' hA g1 B
inductive cR (K:aa) (C:ah) (vs:List V) (H:Hp) (Q:VK) (E:XK):Prop
 | mk (p dx l:_) (n a b:Nat) (as R:_):vs=[.ref p,.int a,.int b]->CT K C->WA C H p dx l n as R->Wd n R->a<n->b<n->Q (.bl (decide ((b:Int)∈R a))) H->cR K C vs H Q E
theorem C6:Rn (cR K C) (uO K C (d9 K C)) jb:=by
 rintro vs H Q E ⟨p,dx,l,n,a,b,as,R,rfl,ct,W,D,ha,hb,k⟩;obtain ⟨ra,e1,e2,_⟩:=W.get ha;obtain ⟨rb,f1,f2,_⟩:=W.get hb
 have hd:∀ i,i<n->∃ x,(R i)[0]?=some x/\(R i).head?=some x:=λi hi=>by
  cases h:R i with
  | nil=>exact absurd h (D.r i hi).ne
  | cons x t=>exact ⟨x,rfl,rfl⟩
 obtain ⟨x,hx,hx'⟩:=hd a ha;obtain ⟨y,hy,hy'⟩:=hd b hb;have hj:=D.head ha hb;rw [hx',hy'] at hj;unfold uO;k_go;refine ⟨p,C,dx,_,_,rfl,W.ob,ct.cl,ct.n,u9 _ _,?_⟩;lk;refine ⟨n,a,b,rfl,ha,hb,?_⟩;k_go;refine ⟨p,C,dx,_,_,rfl,W.ob,ct.cl,ct.rows,iR _ _,?_⟩;lk;refine nR (dh.of W.rl) (fE (j:=a) rfl (by rw [aG,e1];rfl)) ?_;lk;refine IL (dh.of e2) (j:=0) rfl hx ?_;k_go;refine ⟨p,C,dx,_,_,rfl,W.ob,ct.cl,ct.rows,iR _ _,?_⟩;lk;refine nR (dh.of W.rl) (fE (j:=b) rfl (by rw [aG,f1];rfl)) ?_;lk;refine IL (dh.of f2) (j:=0) rfl hy ?_;lk
 have e:decide (V.int x=V.int y)=decide ((b:Int)∈R a):=by
  rw [eZ,decide_eq_true_iff,decide_eq_true_iff,j4,← hj];exact ⟨λh=>by rw [h],λh=>aV h⟩
 rw [e];exact k
inductive nX (K:aa) (C:ah) (vs:List V) (H:Hp) (Q:VK) (E:XK):Prop
 | mk (p dx l:_) (n a b:Nat) (as R:_):vs=[.ref p,.int a,.int b]->CT K C->WA C H p dx l n as R->Wd n R->n<=60->a<n->b<n->Q .non H->(∀ q H',bS H H'->Q (.ref q) H')->nX K C vs H Q E
theorem Kh:Rn (nX K C) (Cp K C (cR K C) (iP K C)) jb:=by
 rintro vs H Q E ⟨p,dx,l,n,a,b,as,R,rfl,ct,W,D,hn,ha,hb,k1,k2⟩;obtain ⟨ra,e1,e2,_⟩:=W.get ha;have hlen:=D.len ha;unfold Cp;k_in;refine ⟨p,dx,_,rfl,W.ob,ip _ _,?_⟩;lk;refine ⟨p,dx,l,n,a,b,as,R,rfl,ct,W,D,ha,hb,?_⟩;refine ⟨_,rfl,?_⟩;refine wx (λhm=>?_) λhm=>?_
 .k_go;refine ⟨p,C,dx,_,_,rfl,W.ob,ct.cl,ct.rows,iR _ _,?_⟩;lk;refine nR (dh.of W.rl) (fE (j:=a) rfl (by rw [aG,e1];rfl)) ?_;lk;exact ⟨ra,R a,a,b,rfl,e2,D.r a ha,by lia,D.me a ha,hm,k2⟩
 .lk;exact k1
inductive gL (K:aa) (C:ah) (vs:List V) (H:Hp) (Q:VK) (E:XK):Prop
 | mk (p dx l:_) (n a b:Nat) (as R:_):vs=[.ref p,.int a,.int b]->CT K C->WA C H p dx l n as R->Wd n R->n<=200->a<n->b<n->(b:Int)∉R a->(∀ (as':List ah) H',WA C H' p dx l n as' (lk R a b)->bf l H H'->Q .non H')->gL K C vs H Q E
theorem G4:Rn (gL K C) (zK K C (cf K C) (cR K C) (gK K C) (pI K C)) jb:=by
 rintro vs H Q E ⟨p,dx,l,n,a,b,as,R,rfl,ct,W,D,hn,ha,hb,hm,k⟩;obtain ⟨ra,e1,e2,_⟩:=W.get ha;obtain ⟨rb,f1,f2,_⟩:=W.get hb;have hla:=D.len ha;have hlb:=D.len hb;have hab:a≠b:=λe=>hm (e▸D.me a ha);obtain ⟨T2,D2,E2⟩:=D.link ha hb hm;unfold zK;k_go;refine ⟨p,C,dx,_,_,rfl,W.ob,ct.cl,ct.n,u9 _ _,?_⟩;lk;refine ⟨n,a,b,rfl,ha,hb,hab,?_⟩;k_in;refine ⟨p,dx,_,rfl,W.ob,ip _ _,?_⟩;lk;refine ⟨p,dx,l,n,a,b,as,R,rfl,ct,W,D,ha,hb,?_⟩;refine ⟨_,rfl,?_⟩;refine wx (λz=>absurd z hm) λ_=>?_;k_in;refine ⟨p,dx,_,rfl,W.ob,ip _ _,?_⟩;k_go;refine ⟨p,C,dx,_,_,rfl,W.ob,ct.cl,ct.rows,iR _ _,?_⟩;lk;refine nR (dh.of W.rl) (fE (j:=a) rfl (by rw [aG,e1];rfl)) ?_;k_go;refine ⟨p,C,dx,_,_,rfl,W.ob,ct.cl,ct.rows,iR _ _,?_⟩;lk;refine nR (dh.of W.rl) (fE (j:=b) rfl (by rw [aG,f1];rfl)) ?_;lk;refine ⟨ra,rb,R a,R b,a,b,rfl,dh.of e2,dh.of f2,D.me a ha,D.me b hb,by lia,by lia,λq H1 S1 hq gq=>?_⟩;lk;have W1:=W.same S1;have hql:q≠l:=Ne.symm (aJ W.rl hq);refine ⟨p,dx,l,q,n,as,_,rfl,ct,W1.ob,W1.rl,W.len,gq,hql,λx hx=>?_,λas' H2 hl2 hA g2 B2=>?_⟩
 .rcases (T2.mem x).mp hx with h|h
  .obtain ⟨j,hj,e,_⟩:=D.Ly a ha x h;exact ⟨j,hj,e⟩
  .obtain ⟨j,hj,e,_⟩:=D.Ly b hb x h;exact ⟨j,hj,e⟩
 .have hpl:p≠l:=fA W.ob W.rl
  have hAt:∀ (i:Nat) (c:ah),as'[i]?=some c->∃ c0,as[i]?=some c0/\c=if (i:Int)∈EV (R a) (R b) a b then q else c0:=λi c hc=>by
   have hi:i<as.length:=by rw [W.len,← hl2];exact (av.mp hc).1
   have:=hA i _ (aw hi);rw [hc] at this;exact ⟨_,aw hi,aV this⟩
  refine k as' H2 ⟨B2 _ _ W1.ob hpl,g2,hl2,λi c hc=>?_,λc hc=>?_⟩ (λb' o e hne=>B2 _ _ (S1 _ _ e) hne)
  .obtain ⟨c0,h0,ec⟩:=hAt i c hc
   show H2 c=some (.lst ((if (i:Int)∈EV (R a) (R b) a b then EV (R a) (R b) a b else R i).map V.int))
   by_cases ci:(i:Int)∈EV (R a) (R b) a b
   .rw [if_pos ci] at ec ⊢;rw [ec];exact B2 _ _ gq hql
   .rw [if_neg ci] at ec ⊢;rw [ec];exact B2 _ _ (W1.at_ i c0 h0) (W.ne _ (aM h0))
  .obtain ⟨i,hi⟩:=bN.mp hc;obtain ⟨c0,h0,ec⟩:=hAt i c hi
   by_cases ci:(i:Int)∈EV (R a) (R b) a b
   .rw [if_pos ci] at ec;rw [ec];exact hql
   .rw [if_neg ci] at ec;rw [ec];exact W.ne _ (aM h0)
inductive j8 (K:aa) (C:ah) (vs:List V) (H:Hp) (Q:VK) (E:XK):Prop
 | mk (p dx l:_) (n a b:Nat) (as R:_):vs=[.ref p,.int a,.int b]->CT K C->WA C H p dx l n as R->Wd n R->n<=200->a<n->b<n->a≠b->Ed n R a b->(∀ (as':List ah) H',WA C H' p dx l n as' (Rm.ct R a b)->bf l H H'->Q .non H')->j8 K C vs H Q E
theorem Ki:Rn (j8 K C) (Co K C (cf K C) (m9 K C) (cY K C) (gK K C)) ["self","a","b","row"]:=by
 rintro vs H Q E ⟨p,dx,l,n,a,b,as,R,rfl,ct,W,D,hn,ha,hb,hab,hE,k⟩;obtain ⟨ra,e1,e2,_⟩:=W.get ha;have hla:=D.len ha;have hm:=Ed.at D hE ha (D.me a ha);have hm':=(D.r a ha).sym _ _ hm;have P:=(D.r a ha).parted hm (by lia:(a:Int)≠b);have PM:=P.mem (D.r a ha);have hpl:p≠l:=fA W.ob W.rl;unfold Co;k_go;refine ⟨p,C,dx,_,_,rfl,W.ob,ct.cl,ct.n,u9 _ _,?_⟩;lk;refine ⟨n,a,b,rfl,ha,hb,hab,?_⟩;lk;refine ⟨oq,λt ht=>?_⟩;generalize eu_:upd _ t _=H1;obtain ⟨S1,g1⟩:=news eu_ ht;have W1:=W.same S1;k_go;refine ⟨p,C,dx,_,_,rfl,W1.ob,ct.cl,ct.rows,iR _ _,?_⟩;lk;refine nR (dh.of W1.rl) (fE (j:=a) rfl (by rw [aG,e1];rfl)) ?_;lk;refine ⟨ra,R a,rfl,dh.of (S1 _ _ e2),by lia,λz H2 zs S2 hz gz pz ez=>?_⟩;refine U0 (V2 (S2 _ _ g1)) (Kb gz pz) (Q2 _) (km _ (zU _)) ?_
 have hin:(((zs.map zP).map GA).any λe=>fi e (GA ((a:Int),(b:Int))))=true:=by
  rw [ez,List.any_map,oK];exact ⟨_,hm,by simp [OS]⟩
 rw [hin];lk;refine gI ?_;have S12:=S1.trans S2;have W2:=W.same S12;lk;unfold xC;k_go;refine ⟨p,C,dx,_,_,rfl,W2.ob,ct.cl,ct.rows,iR _ _,?_⟩;lk;refine nR (dh.of W2.rl) (fE (j:=a) rfl (by rw [aG,e1];rfl)) ?_;lk;refine ⟨ra,R a,a,b,rfl,dh.of (S12 _ _ e2),by lia,hm,hm',λu x y H3 S3 hu hx hy hxy gu gx gy=>?_⟩;have S13:=S12.trans S3;have W3:=W.same S13;have hxl:x≠l:=Ne.symm (aJ W2.rl hx);have hyl:y≠l:=Ne.symm (aJ W2.rl hy);have hul:u≠l:=Ne.symm (aJ W2.rl hu)
 have jin:∀ z,z∈R a->∃ j:Nat,j<n/\z=(j:Int):=λz hz=>let ⟨j,hj,e,_⟩:=D.Ly a ha z hz;⟨j,hj,e⟩
 have ectR:∀ i:Nat,Rm.ct R a b i=if (i:Int)∈(AR (R a) a b).2 then (AR (R a) a b).2 else if (i:Int)∈(AR (R a) a b).1 then (AR (R a) a b).1 else R i:=λ_=>rfl
 generalize (AR (R a) a b).1=X at P PM gx ectR;generalize (AR (R a) a b).2=Y at P PM gy ectR;lk
 refine .inr (.inl ⟨⟨_,mX.of gu⟩,XE (K:=K) (a:=u) (xs:=[.ref x,.ref y]) (λi Z H4=>∃ (as1:List ah) (o:Option V),Z=[some (.ref p),some (.int (a:Int)),some (.int (b:Int)),o]/\as1.length=n/\H4 l=some (.lst (as1.map V.ref))/\bf l H3 H4 /\
  ∀ (j:Nat) (c:ah),as[j]?=some c->as1[j]?=some (if 2<=i/\(j:Int)∈Y then y else if 1<=i/\(j:Int)∈X then x else c)) ⟨as,_,rfl,W.len,W3.rl,bf.refl _ _,λj c h=>by rw [if_neg (λz=>by lia),if_neg (λz=>by lia)];exact h⟩ ?_ ?_ ?_⟩)
 .rintro i Z H4 _ ⟨_,_,_,_,_,B,_⟩;exact mX.of (B _ _ gu hul)
 .rintro i v Z H4 hi ⟨as1,o,rfl,hl1,g4,B,hA⟩
  obtain ⟨q,s,hql,gq,hs,ev,hif⟩:∃ (q:ah) (s:List Int),q≠l/\H3 q=some (.lst (s.map V.int))/\(∀ z∈s,∃ j:Nat,j<n/\z=(j:Int))/\v=.ref q/\(∀ (j:Nat) (c:ah),(if (j:Int)∈s then q else if 2<=i/\(j:Int)∈Y then y else if 1<=i/\(j:Int)∈X then x else c)=if 2<=i+1/\(j:Int)∈Y then y else if 1<=i+1/\(j:Int)∈X then x else c):=by
   rcases (show i=0\/i=1 by have:=(av.mp hi).1;simp at this;lia) with rfl|rfl
   .refine ⟨x,X,hxl,gx,λz hz=>jin z ((PM z).mpr (.inl hz)),by simpa using hi.symm,λj c=>?_⟩
    by_cases c1:(j:Int)∈X<;>simp [c1]
   .refine ⟨y,Y,hyl,gy,λz hz=>jin z ((PM z).mpr (.inr hz)),by simpa using hi.symm,λj c=>?_⟩
    by_cases c2:(j:Int)∈Y<;>by_cases c1:(j:Int)∈X<;>simp [c1,c2]
  subst ev;k_in;refine ⟨p,dx,_,rfl,B _ _ W3.ob hpl,ip _ _,?_⟩;lk;refine ⟨p,dx,l,q,n,as1,s,rfl,ct,B _ _ W3.ob hpl,g4,hl1,B _ _ gq hql,hql,hs,λas2 H5 hl2 hA2 g5 B5=>?_⟩;refine ⟨as2,_,rfl,hl2,g5,λb' o' e hne=>B5 _ _ (B _ _ e hne) hne,λj c hc=>?_⟩;rw [hA2 j _ (hA j c hc),hif j c]
 .rintro Z H4 ⟨as2,o,rfl,hl2,g4,B,hA⟩
  have hAt:∀ (i:Nat) (c:ah),as2[i]?=some c->∃ c0,as[i]?=some c0/\c=if (i:Int)∈Y then y else if (i:Int)∈X then x else c0:=λi c hc=>by
   have hi:i<as.length:=by rw [W.len,← hl2];exact (av.mp hc).1
   have:=hA i _ (aw hi);rw [hc] at this;refine ⟨_,aw hi,(aV this).trans ?_⟩
   show (if 2<=2/\(i:Int)∈Y then y else if 1<=2/\(i:Int)∈X then x else as[i])=_
   simp
  refine k as2 H4 ⟨B _ _ W3.ob hpl,g4,hl2,λi c hc=>?_,λc hc=>?_⟩ (λb' o' e hne=>B _ _ (S13 _ _ e) hne)
  .obtain ⟨c0,h0,ec⟩:=hAt i c hc;rw [ectR]
   by_cases c2:(i:Int)∈Y
   .rw [if_pos c2] at ec ⊢;rw [ec];exact B _ _ gy hyl
   .rw [if_neg c2] at ec ⊢
    by_cases c1:(i:Int)∈X
    .rw [if_pos c1] at ec ⊢;rw [ec];exact B _ _ gx hxl
    .rw [if_neg c1] at ec ⊢;rw [ec];exact B _ _ (W3.at_ i c0 h0) (W.ne _ (aM h0))
  .obtain ⟨i,hi⟩:=bN.mp hc;obtain ⟨c0,h0,ec⟩:=hAt i c hi
   by_cases c2:(i:Int)∈Y
   .rw [if_pos c2] at ec;rw [ec];exact hyl
   .rw [if_neg c2] at ec
    by_cases c1:(i:Int)∈X
    .rw [if_pos c1] at ec;rw [ec];exact hxl
    .rw [if_neg c1] at ec;rw [ec];exact W.ne _ (aM h0)
inductive iw (K:aa) (C:ah) (vs:List V) (H:Hp) (Q:VK) (E:XK):Prop
 | mk (p dx l:_) (n a:Nat) (as R:_):vs=[.ref p,.int a]->CT K C->WA C H p dx l n as R->Wd n R->(R a).length<=125->a<n->(∀ q (ks:List Int),H q=none->ks.Pairwise (· < ·)->(∀ x,x∈ks↔x∈R a)->Q (.ref q) (upd H q (.lst (ks.map V.int))))->iw K C vs H Q E
theorem Fo:Rn (iw K C) (xD K C (cK K C)) sk:=by
 rintro vs H Q E ⟨p,dx,l,n,a,as,R,rfl,ct,W,D,hn,ha,k⟩;obtain ⟨ra,e1,e2,_⟩:=W.get ha;unfold xD;k_go;refine ⟨p,C,dx,_,_,rfl,W.ob,ct.cl,ct.n,u9 _ _,?_⟩;lk;refine ⟨n,a,rfl,ha,?_⟩;lk;refine Ss ?_;k_go;refine ⟨p,C,dx,_,_,rfl,W.ob,ct.cl,ct.rows,iR _ _,?_⟩;lk;refine nR (dh.of W.rl) (fE (j:=a) rfl (by rw [aG,e1];rfl)) ?_;lk;refine ⟨ra,R a,rfl,dh.of e2,by lia,?_,λq ks hq h1 h2=>k q ks hq h1 h2⟩;obtain ⟨ds,d1,d2,d3⟩:=(D.r a ha).cnt;exact ⟨ds,by lia,λx hx=>(d2 x).mpr hx⟩
inductive kq (K:aa) (C:ah) (vs:List V) (H:Hp) (Q:VK) (E:XK):Prop
 | mk (p dx l:_) (n a:Nat) (as R:_):vs=[.ref p,.int a]->CT K C->WA C H p dx l n as R->Wd n R->a<n->Q (.int ((((R a).length:Int)+1)/2)) H->kq K C vs H Q E
theorem G5:Rn (kq K C) (zL K C (cK K C)) sk:=by
 rintro vs H Q E ⟨p,dx,l,n,a,as,R,rfl,ct,W,D,ha,k⟩;obtain ⟨ra,e1,e2,_⟩:=W.get ha;unfold zL;k_go;refine ⟨p,C,dx,_,_,rfl,W.ob,ct.cl,ct.n,u9 _ _,?_⟩;lk;refine ⟨n,a,rfl,ha,?_⟩;k_go;refine ⟨p,C,dx,_,_,rfl,W.ob,ct.cl,ct.rows,iR _ _,?_⟩;lk;refine nR (dh.of W.rl) (fE (j:=a) rfl (by rw [aG,e1];rfl)) ?_;lk;refine Ox (dh.of e2) ?_;lk;exact k
variable {X:EC}
def MT:V->Bool
 | .int i=>decide (1<=i) && decide (i<=200)
 | _=>false
def V3 (h1:1<=n) (h2:n<=200):MT (.int n)=true:=by
 unfold MT;rw [eG,decide_eq_true_iff,decide_eq_true_iff];lia
def dv (K:aa) (C:ah):Sp:=λvs H Q _=>(∃ v:V,vs=[v]/\Th v/\Q (.bl (MT v)) H)\/∃ (a:ah) (xs:List V),vs=[.ref a]/\H a=some (.lst xs)/\Q (.bl false) H
def Kj:Ln (dv K C) 1:=by
 rintro vs H Q E (⟨n,rfl,_⟩|⟨i,j,rfl,_⟩)<;>rfl
theorem Kk:Rn (dv K C) (uJ K C (jg K C)) zq:=by
 rintro vs H Q E (⟨v,rfl,hv,k⟩|⟨a,xs,rfl,ha,k⟩);rotate_left
 .unfold uJ;lk;refine .inr ⟨a,xs,rfl,ha,?_⟩;exact ⟨false,rfl,gI k⟩
 unfold uJ;lk;refine .inl ⟨v,rfl,hv,?_⟩;refine ⟨isW v,rfl,?_⟩
 cases hv with
 | int i =>
  refine jX ?_;lk;refine wx (λh=>?_) λh=>?_
  .lk
   have:MT (.int i)=decide (i<=200):=by show (decide (1<=i) && decide (i<=200))=_;rw [decide_eq_true h,BU]
   rw [← this];exact k
  .have:MT (.int i)=false:=by show (decide (1<=i) && decide (i<=200))=_;rw [decide_eq_false h,yR]
   rw [← this];exact k
 | bl b=>refine gI ?_;exact k
 | non=>refine gI ?_;exact k
 | str x=>refine gI ?_;exact k
def Top (n:Int) (j:Nat):Prop:=(j=0\/2*(2:Int)^j<=n)/\n<4*(2:Int)^j
def sA (K:aa) (C:ah):Sp:=λvs H Q _=>∃ n:Int,vs=[.int n]/\∀ j:Nat,Top n j->Q (.int j) H
def MU (j:Nat):(0:Int)<2^j:=Int.pow_pos (by decide)
theorem Yy:Rn (sA K C) (VV K C) ["n","level","needed"]:=by
 rintro vs H Q E ⟨n,rfl,k⟩;unfold VV;lk;unfold ML;refine L3 (λZ H'=>H'=H/\∃ j:Nat,Z=[some (.int n),some (.int j),some (.int (4*2^j))]/\(j=0\/2*(2:Int)^j<=n)) (λZ _=>match Z with|[_,_,some (.int p)]=>(n+1-p).toNat|_=>0) ⟨rfl,0,rfl,.inl rfl⟩ ?_;rintro Z H' ⟨rfl,j,rfl,hj⟩;have hp:=MU j;lk;refine wx (λh=>⟨_,Zu,?_⟩) λh=>?_
 .lk;refine ⟨⟨rfl,j+1,?_,.inr ?_⟩,?_⟩
  .have e:(4*2^j*2:Int)=4*2^(j+1):=by rw [xi];lia
   show [some (V.int n),some (V.int ((j:Int)+1)),some (V.int (4*2^j*2))]=_
   rw [e];rfl
  .rw [xi];lia
  .show (n+1-4*2^j*2).toNat<(n+1-4*2^j).toNat
   lia
 .lk;exact k j ⟨hj,by lia⟩
inductive dN (K:aa) (C:ah) (vs:List V) (H:Hp) (Q:VK) (E:XK):Prop
 | mk (a b:Nat):vs=[.int a,.int b]->(∀ p,H p=none->Q (.ref p) (upd H p (.tup [.int (min a b:Nat),.int (max a b:Nat)])))->dN K C vs H Q E
theorem OW:Rn (dN K C) (Jc K C) zm:=by
 rintro vs H Q E ⟨a,b,rfl,k⟩;unfold Jc;lk;refine wx (λh=>?_) λh=>?_
 .rw [show min a b=a by lia,show max a b=b by lia] at k;lk;exact ⟨oq,k⟩
 .rw [show min a b=b by lia,show max a b=a by lia] at k;lk;exact ⟨oq,k⟩
abbrev pk (x y:Nat):List gn:=[bp (x:Int),bp (y:Int)]
inductive iZ (K:aa) (C:ah) (vs:List V) (H:Hp) (Q:VK) (E:XK):Prop
 | mk (n a b:Nat) (d:_) (kvs:List (List gn×V)):vs=[.int n,.ref d,.int a,.int b]->a<n->b<n->a≠b->H d=some (.dT kvs)->gH kvs (pk (min a b) (max a b))=none->(∀ p,H p=none->Q (.ref p) (upd H p (.tup [.int (min a b:Nat),.int (max a b:Nat)])))->iZ K C vs H Q E
theorem MV:Rn (iZ K C) (Fh K C (cf K C) (dN K C)) Mz:=by
 rintro vs H Q E ⟨n,a,b,d,kvs,rfl,ha,hb,hab,hd,hk,k⟩;unfold Fh;lk;refine ⟨n,a,b,rfl,ha,hb,hab,?_⟩;lk;refine ⟨a,b,rfl,λp hp=>?_⟩;lk
 have gd:(upd H p (.tup [.int (min a b:Nat),.int (max a b:Nat)])) d=some (.dT kvs):=by rw [aE (aJ hd hp)];exact hd
 refine .inr ⟨d,_,rfl,wU.t (k:=pk (min a b) (max a b)) gd aD,?_⟩;rw [hk];lk;rw [if_neg (by simp)];lk;exact k p hp
inductive fo (K:aa) (C:ah) (vs:List V) (H:Hp) (Q:VK) (E:XK):Prop
 | mk (n a b:Nat) (d:_) (kvs:List (List gn×V)):vs=[.int n,.ref d,.int a,.int b]->a<n->b<n->a≠b->H d=some (.dT kvs)->(gH kvs (pk (min a b) (max a b))).isSome=true->(∀ p,H p=none->Q (.ref p) (upd H p (.tup [.int (min a b:Nat),.int (max a b:Nat)])))->fo K C vs H Q E
theorem Bu:Rn (fo K C) (sY K C (cf K C) (dN K C)) Mz:=by
 rintro vs H Q E ⟨n,a,b,d,kvs,rfl,ha,hb,hab,hd,hk,k⟩;unfold sY;lk;refine ⟨n,a,b,rfl,ha,hb,hab,?_⟩;lk;refine ⟨a,b,rfl,λp hp=>?_⟩;lk
 have gd:(upd H p (.tup [.int (min a b:Nat),.int (max a b:Nat)])) d=some (.dT kvs):=by rw [aE (aJ hd hp)];exact hd
 refine .inr ⟨d,_,rfl,wU.t (k:=pk (min a b) (max a b)) gd aD,?_⟩;rw [hk];lk;refine gI ?_;lk;exact k p hp
def kf (f:Ti->V) (ts:List Ti):List (List gn×V):=ts.map λt=>(pk t.x t.y,f t)
abbrev kl:List Ti->List (List gn×V):=kf λt=>.int t.dj
abbrev kw:List Ti->List (List gn×V):=kf λt=>.bl t.wd
abbrev kv (g:Int->Int->Int):List Ti->List (List gn×V):=kf λt=>.int (g t.x t.y)
def Fp {x y u v:Nat}:pk x y=pk u v↔((x:Int),(y:Int))=((u:Int),(v:Int)):=by
 constructor
 .intro h;obtain ⟨h1,h2⟩:=i4 h;rw [PY h1,PY (i4 h2).1]
 .intro h;obtain ⟨h1,h2⟩:=cW h
  show [bp (x:Int),bp (y:Int)]=_
  rw [h1,h2]
section
variable {f:Ti->V}{g:Ti->Ti}{t:Ti}
theorem i0 (hn:(ts.map Ti.key).Nodup) (ht:t∈ts):gH (kf f ts) (pk t.x t.y)=some (f t):=by
 induction ts with
 | nil=>nomatch ht
 | cons s ts ih =>
  rw [cn,bg] at hn
  by_cases e:pk s.x s.y=pk t.x t.y
  .have:s=t:=by
    rcases aq.mp ht with q|q
    .exact q.symm
    .have e':t.key=s.key:=(Fp.mp e).symm;exact absurd (e'▸aW q) hn.1
   subst this;exact ur (p:=(pk s.x s.y,f s)) rfl
  .refine (qW (p:=(pk s.x s.y,f s)) e).trans (ih hn.2 ?_);exact (aq.mp ht).resolve_left λq=>e (q▸rfl)
theorem Q3 {x y:Nat}(h:((x:Int),(y:Int))∉ts.map Ti.key):gH (kf f ts) (pk x y)=none:=by
 induction ts with
 | nil=>rfl
 | cons s ts ih =>
  rw [cn,aq] at h;exact (qW (p:=(pk s.x s.y,f s)) λe=>h (.inl (Fp.mp e).symm)).trans (ih λq=>h (.inr q))
theorem V4 (hn:(ts.map Ti.key).Nodup) (ht:t∈ts) (hg:∀ t,(g t).key=t.key):qV (kf f ts) (pk t.x t.y) (f (g t))=kf f (i6 ts t.key g):=by
 unfold qV
 have hm:((kf f ts).any λkv=>decide (kv.1=pk t.x t.y))=true:=by rw [pB,i0 hn ht];rfl
 rw [if_pos hm];unfold kf i6;rw [bz,bz];refine jl λu hu=>?_
 show (if pk u.x u.y=pk t.x t.y then (pk u.x u.y,f (g t)) else (pk u.x u.y,f u))=(pk (if u.key=t.key then g u else u).x (if u.key=t.key then g u else u).y,f (if u.key=t.key then g u else u))
 by_cases c:u.key=t.key
 .rw [if_pos c,if_pos (Fp.mpr c),qD hn hu ht c];obtain ⟨e1,e2⟩:=Ti.WV (hg t);rw [e1,e2]
 .rw [if_neg c,if_neg λe=>c (Fp.mp e)]
theorem DP (hg:∀ t,(g t).key=t.key) (hf:∀ t,f (g t)=f t) (k:Int×Int):kf f (i6 ts k g)=kf f ts:=by
 unfold kf i6;rw [bz];refine jl λu hu=>?_
 show (pk (if u.key=k then g u else u).x (if u.key=k then g u else u).y,f (if u.key=k then g u else u))=_
 by_cases c:u.key=k
 .obtain ⟨e1,e2⟩:=Ti.WV (hg u);rw [if_pos c,e1,e2,hf]
 .rw [if_neg c]
def Kl:pq (kf f ts) (pk t.x t.y)=kf f (ts.filter λu=>decide (u.key≠t.key)):=by
 unfold pq kf;rw [xj]
 congr 1
 refine Zc λu _=>?_;exact decide_eq_decide.mpr (not_congr Fp)
def sE:(kf f ts).length=ts.length:=af _
end
abbrev oJ (Pt:ah) (H:Hp):Prop:=NI Pt ⟨129,28,129,61⟩ ((("in_order":bq)++".<locals>.")++"<lambda>") H
inductive cO (K:aa) (C:ah) (Pt:ah) (vs:List V) (H:Hp) (Q:VK) (E:XK):Prop
 | mk (p d:_) (NO:List (List gn×V)):vs=[.ref p,.ref d]->H d=some (.dT NO)->oJ Pt H->((∃ zs:List Zn,H p=some (.lst (zs.map mj))/\(∀ z∈zs,∃ w x y:Int,z.1=[w,x,y]/\H z.2=some (.tup [.int x,.int y])/\gH NO [bp x,bp y]=some (.int w))/\zs.length<64/\∀ (l:ah) (zs':List Zn) (H2:Hp),H2 l=none->Ex Pt H H2->oJ Pt H2->zs'.Perm zs->Q (.ref l) (upd H2 l (.lst (zs'.map mj))))\/∃ (kvs:List (List gn×V)) (g:Int->Int->Int),H p=some (.dT kvs)/\(∀ q∈kvs,∃ x y:Int,q.1=[bp x,bp y]/\gH NO q.1=some (.int (g x y)))/\kvs.length<64/\∀ (l:ah) (zs:List Zn) (H2:Hp),H2 l=none->Ex Pt H H2->oJ Pt H2->(∀ z∈zs,∃ x y,z.1=[g x y,x,y]/\H2 z.2=some (.tup [.int x,.int y]))->(zs.map λz=>([bp (z.1.getD 1 0),bp (z.1.getD 2 0)]:List gn)).Perm (kvs.map (·.1))->Q (.ref l) (upd H2 l (.lst (zs.map mj))))->cO K C Pt vs H Q E
theorem Km:Rn (cO K C Pt) (qk K C Pt) EW:=by
 rintro vs H Q E ⟨p,d,NO,rfl,hd,hT,k⟩;unfold qk;lk;unfold OH;lk;exact ⟨p,d,NO,rfl,rfl,hd,hT,k.imp (λ⟨zs,hp,hkv,hl,k⟩=>⟨zs,hp,hkv,hl,λl zs' H2 h1 h2 h3 h4 _=>k l zs' H2 h1 h2 h3 h4⟩) λ⟨kvs,g,hp,hkv,hl,k⟩=>⟨kvs,g,hp,hkv,hl,λl zs H2 h1 h2 h3 h4 h5 _=>k l zs H2 h1 h2 h3 h4 h5⟩⟩
def ew (x y:Int) (S:List Int):Nat:=(if x∈S then 1 else 0)+(if y∈S then 1 else 0)
theorem any_ints (S:List Int) (x:Int):((S.map PyData.int).any λe=>fi e (.int x))=decide (x∈S):=by
 rw [List.any_map,eZ,oK,decide_eq_true_iff]
 constructor
 .rintro ⟨y,hy,e⟩
  have:y=x:=by simpa [fi] using e
  exact this▸hy
 .intro h;exact ⟨x,h,by simp [fi]⟩
inductive dR (K:aa) (C:ah) (vs:List V) (H:Hp) (Q:VK) (E:XK):Prop
 | mk (t s:_) (x y:Int) (S:List Int):vs=[.ref t,.ref s]->H t=some (.tup [.int x,.int y])->H s=some (.lst (S.map V.int))->(∀ H',bS H H'->Q (.int (ew x y S)) H')->dR K C vs H Q E
theorem C8:Rn (dR K C) (uL K C) QU:=by
 rintro vs H Q E ⟨t,s,x,y,S,rfl,ht,hs,k⟩;unfold uL;lk;refine .inr (.inl ⟨⟨_,mX.of ht⟩,λacc hacc=>?_⟩);refine oO (n:=2) (λi ys H'=>ys=(([x,y].take i).filter λz=>decide (z∈S)).map V.int/\H' acc=some (.lst ys)/\bS H H') (λZ=>∃ o,Z=[o,some (.ref s)]) ⟨by simp,aD,bS.cc hacc⟩ ⟨_,rfl⟩ ?_ ?_ ?_ ?_
 .rintro i ys H' ⟨_,h,_⟩;exact h
 .rintro ys H' ⟨rfl,h,S'⟩;refine ⟨⟨_,S'.abI (mX.of ht),aB _⟩,?_⟩;lk;refine JK (dh.of h) ?_
  have e:((([x,y].take 2).filter λz=>decide (z∈S)).map V.int).length=ew x y S:=by
   unfold ew
   by_cases c1:x∈S<;>by_cases c2:y∈S<;>simp [c1,c2]
  rw [e];exact k H' S'
 .rintro i ys H' hi ⟨e,h,S'⟩;exact ⟨_,_,S'.abI (mX.of ht),aw hi⟩
 .rintro i ys σ' H' v H2 hi ⟨rfl,h,S'⟩ ⟨o,rfl⟩ ⟨e2,hx⟩;subst e2;have hxi:=hx _ (S'.abI (mX.of ht))
  obtain ⟨a,ha⟩:∃ a,[x,y][i]?=some a:=⟨_,aw (by simpa using hi)⟩
  have et:[x,y].take (i+1)=[x,y].take i++[a]:=by rw [ft,ha];rfl
  have ev:v=.int a:=by
   have:([x,y].map V.int)[i]?=some v:=hxi;rw [aG,ha] at this;exact (aV this).symm
  subst ev;lk;refine acP (Rep.int a) (U8 (dh.of (S' _ _ hs))) ⟨rfl,by simp [i5]⟩ (km _ (Ey S)) ?_;rw [any_ints];lk;refine wx (λc=>?_) λc=>?_
  .lk;refine ⟨h,eL (m:=10) (by rw [af];exact aY (dE _ _) (by rw [bO];lia)),lN.mk' hi ⟨_,rfl⟩ ⟨?_,aD,λb o q=>by rw [aE (aJ q hacc)];exact S' _ _ q⟩⟩;rw [et,eY,aP];simp [c]
  .refine lN.mk' hi ⟨_,rfl⟩ ⟨?_,h,S'⟩;rw [et,eY,aP];simp [c]
theorem Top.one {n:Int}{i j:Nat}(h:Top n i) (h':Top n j):i=j:=by
 have key:∀ {i j:Nat},Top n i->Top n j->¬ i<j:=λ{i j} h h' c=>by
  rcases h'.1 with z|z
  .lia
  .have p:(2:Int)^(i+1)<=2^j:=by
    have:=AO (n:=2) (by decide) (show i+1<=j from c)
    exact_mod_cast this
   have:=h.2;rw [xi] at p;lia
 have:=key h h';have:=key h' h;lia
theorem Yz {ys:List V}{P:Nat->Int->Prop}(h:∀ i y,ys[i]?=some y->∃ c,y=.int c/\P i c):∃ cs:List Int,ys=cs.map V.int/\∀ i c,cs[i]?=some c->P i c:=by
 induction ys generalizing P with
 | nil=>exact ⟨[],rfl,λi c e=>by simp at e⟩
 | cons y ys ih =>
  obtain ⟨c,rfl,hc⟩:=h 0 y rfl;obtain ⟨cs,rfl,hcs⟩:=ih (P:=λi c=>P (i+1) c) λi y e=>h (i+1) y (by simpa using e);refine ⟨c::cs,rfl,λi d e=>?_⟩
  cases i with
  | zero=>cases e;exact hc
  | succ i=>exact hcs i d (by simpa using e)
inductive fh (K:aa) (C:ah) (vs:List V) (H:Hp) (Q:VK) (E:XK):Prop
 | mk (n:Int) (p:_) (zs:List (Int×ah)):vs=[.int n,.ref p]->H p=some (.lst (zs.map λz=>.ref z.2))->(∀ z∈zs,∃ (x y:Int) (b:Bool),H z.2=some (.tup [.int x,.int y,.int z.1,.bl b]))->zs.length<=1000->(∀ (c:Int) H',(∀ j,Top n j->c=(zs.map λz=>(j:Int)-z.1).sum)->bS H H'->Q (.int c) H')->fh K C vs H Q E
theorem OX:Rn (fh K C) (Jd K C (sA K C)) MB:=by
 rintro vs H Q E ⟨n,p,zs,rfl,hp,hz,hl,k⟩;unfold Jd;lk;refine .inl ⟨⟨_,dh.of hp⟩,λacc hacc=>?_⟩;refine y9 (λi y _=>∃ c:Int,y=.int c/\∃ (j:Nat) (z:Int×ah),Top n j/\zs[i]?=some z/\c=j-z.1) (λZ=>∃ o o1 o2 o3,Z=[o,o1,o2,o3,some (.int n)]) (dh.of hp) hacc ⟨_,_,_,_,rfl⟩ (by rw [af];lia) (λi y H2 H3 ws _ _ e=>e) (λi v σ' H2 G hi hx S2 hS done=>?_) λys H2 hly gy S2 hE=>?_
 .obtain ⟨o,o1,o2,o3,rfl⟩:=hS;obtain ⟨z,hzi,rfl⟩:=gm hx;obtain ⟨x,y,b,hq⟩:=hz z (aM hzi);refine A9 (.of (S2 _ _ hq)) rfl ?_;lk;refine ⟨n,rfl,λj hj=>?_⟩;lk;exact done _ _ _ ⟨_,_,_,_,rfl⟩ (λ_ _ e=>e) ⟨_,rfl,j,z,hj,hzi,rfl⟩
 .obtain ⟨cs,rfl,hcs⟩:=Yz hE;rw [af,af] at hly;lk;refine ⟨acc,cs,rfl,dh.of gy,k _ H2 (λj hj=>?_) S2⟩
  congr 1
  refine kH λi=>?_;rw [aG]
  cases hc:cs[i]? with
  | none =>
   rw [NU,hly] at hc
   rw [cS hc];rfl
  | some c =>
   obtain ⟨j',z,hj',hzi,rfl⟩:=hcs i c hc;rw [hzi,hj.one hj'];rfl
structure Tt where
 (p s q:ah) (lv:Int) (xs:List V) (f:V)
def tR (t:Tt):V:=.ref t.p
def Ig (H:Hp) (t:Tt):Prop:=H t.p=some (.tup [.int t.lv,.ref t.s,.ref t.q,t.f])/\H t.q=some (.lst t.xs)
def Ig.same {t:Tt}(h:Ig H t) (S:bS H H'):Ig H' t:=⟨S _ _ h.1,S _ _ h.2⟩
inductive fO (K:aa) (C:ah) (vs:List V) (H:Hp) (Q:VK) (E:XK):Prop
 | mk (a:_) (ts:List Tt):vs=[.ref a]->H a=some (.lst (ts.map tR))->(∀ t∈ts,Ig H t)->ts.length<=1000->(∀ (c:Int) H',bS H H'->Q (.int c) H')->fO K C vs H Q E
theorem SR:Rn (fO K C) (MM K C) Cb:=by
 rintro vs H Q E ⟨a,ts,rfl,ha,hR,hl,q⟩;unfold MM;lk;refine .inl ⟨⟨_,dh.of ha⟩,λacc hacc=>?_⟩;refine DL (K:=K) (z:=a) (xs:=ts.map tR) ts (λ_=>true) (λt=>.int (t.xs.length:Int)) (λZ=>∃ o o1 o2 o3,Z=[o,o1,o2,o3]) (by simp) (dh.of ha) hacc ⟨_,_,_,_,rfl⟩ (by rw [af];lia) ?_ ?_
 .rintro i t x σ' H' G G' ht hx S' ⟨o,o1,o2,o3,rfl⟩ g1 g2
  have ex:x=tR t:=by rw [aG,ht] at hx;exact (aV hx).symm
  subst ex;have ok:=(hR t (aM ht)).same S';refine A9 (.of ok.1) rfl ?_;lk;refine jX ?_;lk;refine JK (dh.of ok.2) ?_;exact g1 rfl _ ⟨_,_,_,_,rfl⟩
 .rintro H' S' hH;lk
  have e:(ts.filter λ_=>true).map (λt=>V.int (t.xs.length:Int))=(ts.map λt=>(t.xs.length:Int)).map V.int:=by rw [bz,Xh.mpr (λ_ _=>rfl)];rfl
  rw [e] at hH;exact ⟨acc,_,rfl,dh.of hH,q _ H' S'⟩
inductive iD (K:aa) (C:ah) (vs:List V) (H:Hp) (Q:VK) (E:XK):Prop
 | mk (a:_) (ts:List Tt):vs=[.ref a]->H a=some (.lst (ts.map tR))->(∀ t∈ts,Ig H t)->ts.length<=1000->(∀ (c:Int) H',bS H H'->Q (.int c) H')->iD K C vs H Q E
theorem SS:Rn (iD K C) (MN K C (fO K C)) ["trail","finds"]:=by
 rintro vs H Q E ⟨a,ts,rfl,ha,hR,hl,q⟩;unfold MN;lk;refine .inl ⟨⟨_,dh.of ha⟩,λacc hacc=>?_⟩;refine DL (K:=K) (z:=a) (xs:=ts.map tR) ts (λt=>!decide (t.f=.non)) (λt=>t.f) (λZ=>∃ o o1 o2 o3,Z=[o,o1,o2,o3]) (by simp) (dh.of ha) hacc ⟨_,_,_,_,rfl⟩ (by rw [af];lia) ?_ ?_
 .rintro i t x σ' H' G G' ht hx S' ⟨o,o1,o2,o3,rfl⟩ g1 g2
  have ex:x=tR t:=by rw [aG,ht] at hx;exact (aV hx).symm
  subst ex;have ok:=(hR t (aM ht)).same S';refine A9 (.of ok.1) rfl ?_;lk
  cases hf:(!decide (t.f=V.non)) with
  | true =>
   refine jX ?_;lk
   exact g1 hf _ ⟨_,_,_,_,rfl⟩
  | false =>
   refine gI ?_;exact g2 hf _ ⟨_,_,_,_,rfl⟩
 .rintro H' S' hH;lk;refine ⟨_,.inl ⟨_,dh.of hH,rfl⟩,?_⟩;generalize (!((ts.filter λt=>!decide (t.f=V.non)).map λt=>t.f).isEmpty)=bb
  cases bb with
  | true =>
   refine jX ?_;lk;refine ⟨a,ts,rfl,S' _ _ ha,λt ht=>(hR t ht).same S',hl,λc H2 S2=>?_⟩;lk
   exact q _ _ (S'.trans S2)
  | false =>
   refine gI ?_;lk;exact ⟨a,ts,rfl,S' _ _ ha,λt ht=>(hR t ht).same S',hl,λc H2 S2=>q _ _ (S'.trans S2)⟩
variable {X:EC}
def fg {f g:bq}{v x:V}{r:List (bq×V)}(h:¬ g=f):eT f v ((g,x)::r)=(g,x)::eT f v r:=by show (if g=f then _ else _)=_;rw [if_neg h]
def zW {f:bq}{v x:V}{r:List (bq×V)}:eT f v ((f,x)::r)=(f,v)::r:=by show (if f=f then _ else _)=_;rw [if_pos rfl]
def vc {f:bq}{x:V}{r:List (bq×V)}:dk f ((f,x)::r)=some x:=by rw [c6,beq_self_eq_true]
def fY {f g:bq}{x:V}{r:List (bq×V)}(h:¬ g=f):dk g ((f,x)::r)=dk g r:=by
 rw [c6]
 have:(g == f)=false:=by simpa using h
 rw [this]
structure wD (K:aa) (C:ah) (A:CA):Prop where
 w:CT K C
 lc:GC K A.bE
 l1:eI K A.bE "level_of"
 l2:eI K A.bE "wooden"
 l3:eI K A.bE "weight_of"
 l4:eI K A.bE "woods"
 kc:GC K A.aH
 k1:eI K A.aH "n"
 k2:eI K A.aH "levels"
 k3:eI K A.aH "wood"
 k4:eI K A.aH "came"
 k5:eI K A.aH "looked"
 k6:eI K A.aH "risen"
 k7:eI K A.aH "lost"
def fL (d1 d2 d3 L:ah):List (bq×V):=[("level_of",.ref d1),("wooden",.ref d2),("weight_of",.ref d3),("woods",.ref L)]
def Ub {d1 d2 d3 L:ah}:(fL d1 d2 d3 L).lookup ("level_of":bq)=some (.ref d1):=vc
def YA {d1 d2 d3 L:ah}:(fL d1 d2 d3 L).lookup ("wooden":bq)=some (.ref d2):=by unfold fL;rw [fY (by decide +kernel)];exact vc
def fL3 {d1 d2 d3 L:ah}:(fL d1 d2 d3 L).lookup ("weight_of":bq)=some (.ref d3):=by unfold fL;rw [fY (by decide +kernel),fY (by decide +kernel)];exact vc
def fL4 {d1 d2 d3 L:ah}:(fL d1 d2 d3 L).lookup ("woods":bq)=some (.ref L):=by unfold fL;rw [fY (by decide +kernel),fY (by decide +kernel),fY (by decide +kernel)];exact vc
theorem ZT {d1 d2 d3 L:ah}{m:bq}(h1:¬ m="level_of":=by decide +kernel) (h2:¬ m="wooden":=by decide +kernel) (h3:¬ m="weight_of":=by decide +kernel) (h4:¬ m="woods":=by decide +kernel):(fL d1 d2 d3 L).lookup m=none:=by unfold fL;rw [fY h1,fY h2,fY h3,fY h4];rfl
structure AL where
 (q dq d1 d2 d3 L:ah) (ws:List (ah×ah×ah)) (g:Int->Int->Int)
variable {a:AL}
def fp (a:AL):List ah:=a.d1::a.d2::a.d3::a.ws.map (·.2.2)
def Fm (X:List ah) (H H':Hp):Prop:=∀ b o,b∉X->H b=some o->H' b=some o
def Fm.refl {X:List ah}:Fm X H H:=λ_ _ _ e=>e
def Fm.trans {X:List ah}{H1 H2:Hp}(x:Fm X H H1) (y:Fm X H1 H2):Fm X H H2:=λb o h e=>y b o h (x b o h e)
def Fm.of {X:List ah}(S:bS H H'):Fm X H H':=λb o _ e=>S b o e
def Fm.but {X:List ah}{c:ah}(hc:c∈X) (S:bf c H H'):Fm X H H':=λb o h e=>S b o e λz=>h (z▸hc)
def Fm.upd {X:List ah}{c:ah}{o:HO}(hc:c∈X):Fm X H (upd H c o):=Fm.but hc bf.upd
def Fm.mono {X Y:List ah}(S:Fm X H H') (h:∀ b∈X,b∈Y):Fm Y H H':=λb o hb e=>S b o (λz=>hb (h b z)) e
def Fm.tail {X:List ah}{c:ah}(S:Fm X H H'):Fm (c::X) H H':=S.mono λ_=>ag _
def Fm.free {X:List ah}(S:Fm X H H') {b:ah}(h:b∉X) (e:H' b=none):H b=none:=by
 cases z:H b with
 | none=>rfl
 | some o=>rw [S b o h z] at e;cases e
structure LV (C:ah) (A:CA) (H:Hp) (a:AL) (n T:Nat) (ts:List Ti) (as:Nat->List ah) (R:Nat->Nat->List Int):Prop where
 ob:H a.q=some (.ins A.bE a.dq (fL a.d1 a.d2 a.d3 a.L))
 e1:H a.d1=some (.dT (kl ts))
 e2:H a.d2=some (.dT (kw ts))
 e3:H a.d3=some (.dT (kv a.g ts))
 ls:H a.L=some (.lst (a.ws.map λw=>.ref w.1))
 len:a.ws.length=T+1
 wa:∀ (i:Nat) w,a.ws[i]?=some w->WA C H w.1 w.2.1 w.2.2 n (as i) (R i)
 wd:∀ i,i<=T->Wd n (R i)
 n1:1<=n
 Rk:a.d1≠a.d2
 Ue:a.d1≠a.d3
 WO:a.d2≠a.d3
 nl:(a.ws.map (·.2.2)).Nodup
 nL:∀ w∈a.ws,a.L≠w.2.2
section
variable {ts':List Ti}
def LV.at (h:LV C A H a n T ts as R) {w:ah×ah×ah}(hw:w∈a.ws):∃ i,i<=T/\a.ws[i]?=some w:=by
 obtain ⟨i,hi⟩:=bN.mp hw;have:=(av.mp hi).1;rw [h.len] at this;exact ⟨i,by lia,hi⟩
def LV.get (h:LV C A H a n T ts as R) {i:Nat}(hi:i<=T):∃ w,a.ws[i]?=some w/\w∈a.ws:=by
 have hl:i<a.ws.length:=by rw [h.len];lia
 exact ⟨_,aw hl,di hl⟩
def LV.rows (h:LV C A H a n T ts as R) {w:ah×ah×ah}(hw:w∈a.ws):∃ bs:List ah,bs.length=n/\H w.2.2=some (.lst (bs.map V.ref)):=by
 obtain ⟨i,_,hi⟩:=h.at hw;exact ⟨_,(h.wa i w hi).len,(h.wa i w hi).rl⟩
theorem LV.kind (h:LV C A H a n T ts as R) {b:ah}(hb:b∈fp a):(∃ ks,H b=some (.dT ks))\/∃ bs:List ah,bs.length=n/\H b=some (.lst (bs.map V.ref)):=by
 unfold fp at hb;simp only [aq,bo] at hb
 rcases hb with rfl|rfl|rfl|⟨w,hw,rfl⟩
 .exact .inl ⟨_,h.e1⟩
 .exact .inl ⟨_,h.e2⟩
 .exact .inl ⟨_,h.e3⟩
 .exact .inr (h.rows hw)
theorem LV.out (h:LV C A H a n T ts as R) {b:ah}{o:HO}(e:H b=some o) (h1:∀ ks,o≠.dT ks) (h2:∀ bs:List ah,bs.length=n->o≠.lst (bs.map V.ref)):b∉fp a:=λhb=>by
 rcases h.kind hb with ⟨ks,q⟩|⟨bs,hl,q⟩
 .rw [e] at q;exact h1 ks (aV q)
 .rw [e] at q;exact h2 bs hl (aV q)
def LV.yH (h:LV C A H a n T ts as R) {b:ah}{xs:List V}(e:H b=some (.tup xs)):b∉fp a:=h.out e (λ_ z=>nomatch z) (λ_ _ z=>nomatch z)
def LV.outI (h:LV C A H a n T ts as R) {b x y:ah}{fs:List (bq×V)}(e:H b=some (.ins x y fs)):b∉fp a:=h.out e (λ_ z=>nomatch z) (λ_ _ z=>nomatch z)
theorem LV.abG (h:LV C A H a n T ts as R) {b:ah}{r:List Int}(e:H b=some (.lst (r.map V.int))):b∉fp a:=h.out e (λ_ z=>nomatch z) λbs hl z=>by
 have n1:=h.n1
 injection z with z
 match r,bs,hl with
 | [],c::bs,_=>cases z
 | x::r,c::bs,_=>cases (i4 z).1
 | x::r,[],_=>cases z
 | [],[],hl=>rw [← hl] at n1;cases n1
def LV.Dz (h:LV C A H a n T ts as R) {b:ah}(e:H b=none):b∉fp a:=λhb=>by
 rcases h.kind hb with ⟨ks,q⟩|⟨bs,hl,q⟩<;>rw [e] at q<;>cases q
theorem LV.keep (h:LV C A H a n T ts as R) {X:List ah}(S:Fm X H H') (hq:∀ x fs,H x=some fs->(∃ c d f,fs=.ins c d f/\f≠[])->(x=a.q\/∃ w∈a.ws,x=w.1)->x∉X) (hd:∀ b∈fp a,b∉X) (hL:a.L∉X) (hr:∀ (b:ah) (r:List Int),r≠[]->H b=some (.lst (r.map V.int))->b∉X):LV C A H' a n T ts as R:=by
 have m1:a.d1∈fp a:=ar;have m2:a.d2∈fp a:=ag _ ar;have m3:a.d3∈fp a:=ag _ (ag _ ar);refine ⟨S _ _ (hq _ _ h.ob ⟨_,_,_,rfl,by simp [fL]⟩ (.inl rfl)) h.ob,S _ _ (hd _ m1) h.e1,S _ _ (hd _ m2) h.e2,S _ _ (hd _ m3) h.e3,S _ _ hL h.ls,h.len,λi w hw=>?_,h.wd,h.n1,h.Rk,h.Ue,h.WO,h.nl,h.nL⟩;have hm:=aM hw;have W:=h.wa i w hw
 have hi:i<=T:=by have:=(av.mp hw).1;rw [h.len] at this;lia
 refine ⟨S _ _ (hq _ _ W.ob ⟨_,_,_,rfl,?_⟩ (.inr ⟨w,hm,rfl⟩)) W.ob,S _ _ (hd _ ?_) W.rl,W.len,λj c hc=>?_,W.ne⟩
 .intro z;have:=u9 n w.2.2;rw [z] at this;cases this
 .exact ag _ (ag _ (ag _ (aW hm)))
 .have hj:j<n:=by rw [← W.len];exact (av.mp hc).1
  exact S _ _ (hr _ _ ((h.wd i hi).r j hj).ne (W.at_ j c hc)) (W.at_ j c hc)
def LV.same (h:LV C A H a n T ts as R) (S:bS H H'):LV C A H' a n T ts as R:=h.keep (X:=[]) (λb o _ e=>S b o e) (λ_ _ _ _ _=>cq) (λ_ _=>cq) cq λ_ _ _ _=>cq
theorem LV.sets (h:LV C A H a n T ts as R) (B:Fm [a.d1,a.d2,a.d3] H H') (e1:H' a.d1=some (.dT (kl ts'))) (e2:H' a.d2=some (.dT (kw ts'))) (e3:H' a.d3=some (.dT (kv a.g ts'))):LV C A H' a n T ts' as R:=by
 have ne:∀ {b:ah}{o:HO},H b=some o->(∀ ks,o≠.dT ks)->H' b=some o:=λ{b o} e q=>B _ _ (λhb=>by
  simp only [aq,cq,or_false] at hb
  rcases hb with rfl|rfl|rfl
  .rw [h.e1] at e;cases e;exact q _ rfl
  .rw [h.e2] at e;cases e;exact q _ rfl
  .rw [h.e3] at e;cases e;exact q _ rfl) e
 exact ⟨ne h.ob (λ_ z=>nomatch z),e1,e2,e3,ne h.ls (λ_ z=>nomatch z),h.len,λi w hw=>⟨ne (h.wa i w hw).ob (λ_ z=>nomatch z),ne (h.wa i w hw).rl (λ_ z=>nomatch z),(h.wa i w hw).len,λj c hc=>ne ((h.wa i w hw).at_ j c hc) (λ_ z=>nomatch z),(h.wa i w hw).ne⟩,h.wd,h.n1,h.Rk,h.Ue,h.WO,h.nl,h.nL⟩
theorem LV.set1 (h:LV C A H a n T ts as R) (e2:kw ts'=kw ts) (e3:kv a.g ts'=kv a.g ts):LV C A (upd H a.d1 (.dT (kl ts'))) a n T ts' as R :=
 h.sets (Fm.upd ar) aD (by rw [aE h.Rk.symm,e2];exact h.e2) (by rw [aE h.Ue.symm,e3];exact h.e3)
theorem LV.set2 (h:LV C A H a n T ts as R) (e1:kl ts'=kl ts) (e3:kv a.g ts'=kv a.g ts):LV C A (upd H a.d2 (.dT (kw ts'))) a n T ts' as R :=
 h.sets (Fm.upd (ag _ ar)) (by rw [aE h.Rk,e1];exact h.e1) aD (by rw [aE h.WO.symm,e3];exact h.e3)
theorem LV.wood (h:LV C A H a n T ts as R) {i:Nat}{w:ah×ah×ah}{bs:List ah}{R1:Nat->List Int}(hw:a.ws[i]?=some w) (W:WA C H' w.1 w.2.1 w.2.2 n bs R1) (D:Wd n R1) (B:bf w.2.2 H H') :
  LV C A H' a n T ts (λj=>if j=i then bs else as j) (λj=>if j=i then R1 else R j):=by
 have hm:=aM hw;obtain ⟨cs,hcl,hcs⟩:=h.rows hm
 have nt:∀ {b:ah}{o:HO},H b=some o->(∀ xs,o≠.lst xs)->H' b=some o:=λ{b o} e q=>B _ _ e λz=>by rw [z,hcs] at e;cases e;exact q _ rfl
 refine ⟨nt h.ob (λ_ z=>nomatch z),nt h.e1 (λ_ z=>nomatch z),nt h.e2 (λ_ z=>nomatch z),nt h.e3 (λ_ z=>nomatch z),B _ _ h.ls (h.nL w hm),h.len,λj v hv=>?_,λj hj=>?_,h.n1,h.Rk,h.Ue,h.WO,h.nl,h.nL⟩
 .by_cases c:j=i
  .subst c;rw [hw] at hv;cases hv;simp only [if_pos];exact W
  .simp only [if_neg c];have V:=h.wa j v hv
   have hjT:j<=T:=by have:=(av.mp hv).1;rw [h.len] at this;lia
   have nvl:v.2.2≠w.2.2:=λe=>c ((List.getElem?_inj (by rw [af];exact (av.mp hv).1) h.nl).mp (by rw [aG,aG,hv,hw];simp [e]));refine ⟨nt V.ob (λ_ z=>nomatch z),B _ _ V.rl nvl,V.len,λx b hb=>B _ _ (V.at_ x b hb) λz=>?_,V.ne⟩
   have hx:x<n:=by rw [← V.len];exact (av.mp hb).1
   have e:=V.at_ x b hb;rw [z] at e;exact h.abG e (ag _ (ag _ (ag _ (aW hm))))
 .by_cases c:j=i
  .simp only [if_pos c];exact D
  .simp only [if_neg c];exact h.wd j hj
end
inductive cB (K:aa) (C:ah) (A:CA) (vs:List V) (H:Hp) (Q:VK) (E:XK):Prop
 | mk (q dq d1 d2 d3 L t:_) (kl kw:List (List gn×V)) (x y:Int) (v1 v2:_):vs=[.ref q,.ref t]->wD K C A->H q=some (.ins A.bE dq (fL d1 d2 d3 L))->Rd H d1 (.dT kl)->Rd H d2 (.dT kw)->H t=some (.tup [.int x,.int y])->gH kl [bp x,bp y]=some v1->gH kw [bp x,bp y]=some v2->(∀ p,H p=none->Q (.ref p) (upd H p (.tup [.int x,.int y,v1,v2])))->cB K C A vs H Q E
theorem C9:Rn (cB K C A) (uT K C A) wA:=by
 rintro vs H Q E ⟨q,dq,d1,d2,d3,L,t,kl,kw,x,y,v1,v2,rfl,ct,hq,r1,r2,ht,h1,h2,k⟩;unfold uT;lk;refine kY (mX.of ht) (fE (j:=0) rfl rfl) ?_;lk;refine kY (mX.of ht) (fE (j:=1) rfl rfl) ?_;k_go;refine ⟨q,A.bE,dq,_,_,rfl,hq,ct.lc,ct.l1,Ub,?_⟩;lk;refine .inr ⟨d1,v1,rfl,.inr ⟨kl,[bp x,bp y],t,r1,rfl,ht,h1.symm⟩,?_⟩;k_go;refine ⟨q,A.bE,dq,_,_,rfl,hq,ct.lc,ct.l2,YA,?_⟩;lk;refine .inr ⟨d2,v2,rfl,.inr ⟨kw,[bp x,bp y],t,r2,rfl,ht,h2.symm⟩,?_⟩;lk;exact ⟨oq,k⟩
variable {X:EC}
def fp1:a.d1∈fp a:=ar
def fp2:a.d2∈fp a:=ag _ ar
def fp3:a.d3∈fp a:=ag _ (ag _ ar)
def fpw {w:ah×ah×ah}(h:w∈a.ws):w.2.2∈fp a:=ag _ (ag _ (ag _ (aW h)))
def V5 {k:Int×Int}:kl (i6 ts k Ti.yQ)=kl ts:=DP (g:=Ti.yQ) (λ_=>rfl) (λ_=>rfl) k
def abv {h:Int->Int->Int}{k:Int×Int}:kv h (i6 ts k Ti.yQ)=kv h ts:=DP (g:=Ti.yQ) (λ_=>rfl) (λ_=>rfl) k
def ZU {k:Int×Int}:kw (i6 ts k Ti.up)=kw ts:=DP (g:=Ti.up) (λ_=>rfl) (λ_=>rfl) k
def ac7 {h:Int->Int->Int}{k:Int×Int}:kv h (i6 ts k Ti.up)=kv h ts:=DP (g:=Ti.up) (λ_=>rfl) (λ_=>rfl) k
def LV.cast {R':Nat->Nat->List Int}(h:LV C A H a n T ts as R) (e:∀ j,R j=R' j):LV C A H a n T ts as R':=(funext e:R=R')▸h
structure Up (C:ah) (A:CA) (a:AL) (n T:Nat) (ts:List Ti) (R:Nat->Nat->List Int) (f:(Nat->List Int)->Nat->List Int) (H:Hp) (i:Nat) (H1:Hp):Prop where
 ex:∃ as R',LV C A H1 a n T ts as R'/\∀ j,R' j=if j<i then f (R j) else R j
 fm:Fm (fp a) H H1
theorem Up.step {R':Nat->Nat->List Int}{f:(Nat->List Int)->Nat->List Int}{H1 H2:Hp}{i:Nat}{w:ah×ah×ah}{bs:List ah}(L:LV C A H1 a n T ts as R') (e:∀ j,R' j=if j<i then f (R j) else R j) (F:Fm (fp a) H H1)
  (hw:a.ws[i]?=some w) (W:WA C H2 w.1 w.2.1 w.2.2 n bs (f (R' i))) (D:Wd n (f (R' i))) (B:bf w.2.2 H1 H2):Up C A a n T ts R f H (i+1) H2:=by
 refine ⟨⟨_,_,L.wood hw W D B,λj=>?_⟩,F.trans (Fm.but (fpw (aM hw)) B)⟩
 have ei:R' i=R i:=by rw [e,if_neg (h8 i)]
 by_cases c:j=i
 .subst c;rw [if_pos rfl,if_pos (lG j),ei]
 .rw [if_neg c,e]
  by_cases d:j<i
  .rw [if_pos d,if_pos (by lia)]
  .rw [if_neg d,if_neg (by lia)]
inductive cC (K:aa) (C:ah) (A:CA) (vs:List V) (H:Hp) (Q:VK) (E:XK):Prop
 | mk (a:_) (n T:Nat) (ts as R t:_) (u:Ti):vs=[.ref a.q,.ref t]->wD K C A->LV C A H a n T ts as R->n<=200->u∈ts->(ts.map Ti.key).Nodup->u.x<n->u.y<n->u.dj<=T->(∀ i,i<=u.dj->(u.y:Int)∉R i u.x)->H t=some (.tup [.int u.x,.int u.y])->ts.length<100->(∀ as' H',LV C A H' a n T (i6 ts u.key Ti.yQ) as' (NZ R u.dj u.x u.y)->Fm (fp a) H H'->Q .non H')->cC K C A vs H Q E
theorem Bv:Rn (cC K C A) (tm K C A (gL K C)) ["self","tie","wood"]:=by
 rintro vs H Q E ⟨a,n,T,ts,as,R,t,u,rfl,ct,h,hn,hu,hnd,hx,hy,hl,hap,ht,hlen,k⟩;unfold tm;k_go;refine ⟨a.q,A.bE,a.dq,_,_,rfl,h.ob,ct.lc,ct.l2,YA,?_⟩;lk;refine .inr ⟨a.d2,_,rfl,AC.t (k:=pk u.x u.y) h.e2 ht (eL (m:=100) (by rw [sE];exact hlen)),?_⟩;have e:=V4 (f:=λt=>V.bl t.wd) (g:=Ti.yQ) hnd hu (λ_=>rfl);rw [show (V.bl true)=(λt:Ti=>V.bl t.wd) u.yQ from rfl,e];have h1:=h.set2 (ts':=i6 ts u.key Ti.yQ) V5 abv
 have ht1:(upd H a.d2 (.dT (kw (i6 ts u.key Ti.yQ)))) t=some (.tup [.int u.x,.int u.y]):=by rw [aE (fA ht h.e2)];exact ht
 have S1:Fm (fp a) H (upd H a.d2 (.dT (kw (i6 ts u.key Ti.yQ)))):=Fm.upd fp2
 have hl1:gH (kl (i6 ts u.key Ti.yQ)) (pk u.x u.y)=some (.int u.dj):=by rw [V5];exact i0 hnd hu
 change (mr K C A _) _ _ (upd H a.d2 (.dT (kw (i6 ts u.key Ti.yQ))));generalize upd H a.d2 (.dT (kw (i6 ts u.key Ti.yQ)))=H1 at h1 ht1 S1;generalize i6 ts u.key Ti.yQ=ts1 at h1 hl1 k;unfold mr;k_go;refine ⟨a.q,A.bE,a.dq,_,_,rfl,h1.ob,ct.lc,ct.l4,fL4,?_⟩;k_go;refine ⟨a.q,A.bE,a.dq,_,_,rfl,h1.ob,ct.lc,ct.l1,Ub,?_⟩;lk;refine .inr ⟨a.d1,.int u.dj,rfl,.inr ⟨_,pk u.x u.y,t,.inl h1.e1,rfl,ht1,hl1.symm⟩,?_⟩;lk;refine L9 (dh.of h1.ls) λs hs=>?_;rw [Ov (j:=u.dj+1) (by lia),← BR];have S2:=bS.cc (o:=.lst ((a.ws.take (u.dj+1)).map λw=>V.ref w.1)) hs;have gs:(upd H1 s (.lst ((a.ws.take (u.dj+1)).map λw=>V.ref w.1))) s=some (.lst ((a.ws.take (u.dj+1)).map λw=>V.ref w.1)):=aD;have nsf:=h1.Dz hs;generalize upd H1 s (.lst ((a.ws.take (u.dj+1)).map λw=>V.ref w.1))=H2 at S2 gs;have h2:=h1.same S2;have ht2:=S2 _ _ ht1
 have hlt:(a.ws.take (u.dj+1)).length=u.dj+1:=by rw [bO,h.len];lia
 refine ⟨s,rfl,?_⟩
 refine .inl ⟨⟨_,dh.of gs⟩,jt (K:=K) (a:=s) (xs:=(a.ws.take (u.dj+1)).map λw=>V.ref w.1)
  (λi Z H3=>Up C A a n T ts1 R (λr=>lk r u.x u.y) H2 i H3/\∃ o,Z=[some (.ref a.q),some (.ref t),o])
  ⟨⟨⟨as,R,h2,λj=>by rw [if_neg (by lia)]⟩,Fm.refl⟩,_,rfl⟩ ?_ ?_ ?_⟩
 .rintro i Z H3 _ ⟨U,_⟩;exact dh.of (U.fm _ _ nsf gs)
 .rintro i z Z H3 hi ⟨U,o,rfl⟩;obtain ⟨w,hw,rfl⟩:=gm hi
  have hi:i<u.dj+1:=by rw [← hlt];exact (av.mp hw).1
  rw [mL,if_pos hi] at hw;obtain ⟨as1,R1,L1,e1⟩:=U.ex;have W1:=L1.wa i w hw;have ht3:=U.fm _ _ (h2.yH ht2) ht2;k_in;refine ⟨w.1,w.2.1,_,rfl,W1.ob,ip _ _,?_⟩;lk;refine kY (mX.of ht3) (fE (j:=0) rfl rfl) ?_;lk;refine kY (mX.of ht3) (fE (j:=1) rfl rfl) ?_;lk
  have ei:R1 i=R i:=by rw [e1,if_neg (h8 i)]
  have D1:=L1.wd i (by lia)
  have hap1:(u.y:Int)∉R1 i u.x:=by rw [ei];exact hap i (by lia)
  refine ⟨w.1,w.2.1,w.2.2,n,u.x,u.y,as1 i,R1 i,rfl,ct.w,W1,D1,hn,hx,hy,hap1,λbs H4 W' B'=>?_⟩;exact ⟨Up.step (f:=λr=>lk r u.x u.y) L1 e1 U.fm hw W' (D1.lk hx hy hap1) B',_,rfl⟩
 .rintro Z H3 ⟨U,o,rfl⟩;rw [af,hlt] at U;obtain ⟨as1,R1,L1,e1⟩:=U.ex;refine k as1 H3 (L1.cast λj=>?_) ((S1.trans (Fm.of S2)).trans U.fm);rw [e1]
  show _=if j<=u.dj then _ else _
  by_cases c:j<=u.dj
  .rw [if_pos c,if_pos (by lia)]
  .rw [if_neg c,if_neg (by lia)]
inductive dQ (K:aa) (C:ah) (A:CA) (vs:List V) (H:Hp) (Q:VK) (E:XK):Prop
 | mk (a:_) (n T:Nat) (ts as R t:_) (u:Ti):vs=[.ref a.q,.ref t]->wD K C A->LV C A H a n T ts as R->n<=200->u∈ts->(ts.map Ti.key).Nodup->u.x<n->u.y<n->(u.wd=true->u.dj+1<=T/\(u.y:Int)∉R (u.dj+1) u.x)->H t=some (.tup [.int u.x,.int u.y])->ts.length<100->(∀ as' R' H',LV C A H' a n T (i6 ts u.key Ti.up) as' R'->(R'=if u.wd=true then upR R (u.dj+1) u.x u.y else R)->Fm (fp a) H H'->Q .non H')->dQ K C A vs H Q E
theorem Da:Rn (dQ K C A) (uR K C A (gL K C)) wA:=by
 rintro vs H Q E ⟨a,n,T,ts,as,R,t,u,rfl,ct,h,hn,hu,hnd,hx,hy,hap,ht,hlen,k⟩;unfold uR;k_go;refine ⟨a.q,A.bE,a.dq,_,_,rfl,h.ob,ct.lc,ct.l1,Ub,?_⟩;lk;refine ⟨a.d1,.int u.dj,rfl,.inr ⟨_,pk u.x u.y,t,.inl h.e1,rfl,ht,(i0 (f:=λt=>V.int t.dj) hnd hu).symm⟩,?_⟩;lk;refine ⟨u.dj,1,rfl,rfl,_,AC.t (k:=pk u.x u.y) h.e1 ht (eL (m:=100) (by rw [sE];exact hlen)),?_⟩;have e:=V4 (f:=λt=>V.int t.dj) (g:=Ti.up) hnd hu (λ_=>rfl);rw [show (V.int ((u.dj:Int)+1))=(λt:Ti=>V.int t.dj) u.up from rfl,e];have h1:=h.set1 (ts':=i6 ts u.key Ti.up) ZU ac7
 have ht1:(upd H a.d1 (.dT (kl (i6 ts u.key Ti.up)))) t=some (.tup [.int u.x,.int u.y]):=by rw [aE (fA ht h.e1)];exact ht
 have S1:Fm (fp a) H (upd H a.d1 (.dT (kl (i6 ts u.key Ti.up)))):=Fm.upd fp1
 have hw1:gH (kw (i6 ts u.key Ti.up)) (pk u.x u.y)=some (.bl u.wd):=by rw [ZU];exact i0 hnd hu
 have hl1:gH (kl (i6 ts u.key Ti.up)) (pk u.x u.y)=some (.int ((u.dj+1:Nat):Int)):=by
  have:=i0 (f:=λt=>V.int t.dj) (by rw [ko (f:=Ti.up) (λ_=>rfl)];exact hnd) ((mn (f:=Ti.up) hnd hu u.up).mpr (.inl rfl));exact this
 dsimp only;change (gR _ _ _) _ _ (upd H a.d1 (.dT (kl (i6 ts u.key Ti.up))));generalize upd H a.d1 (.dT (kl (i6 ts u.key Ti.up)))=H1 at h1 ht1 S1;generalize i6 ts u.key Ti.up=ts1 at h1 hl1 hw1 k;k_go;refine ⟨a.q,A.bE,a.dq,_,_,rfl,h1.ob,ct.lc,ct.l2,YA,?_⟩;lk;refine .inr ⟨a.d2,.bl u.wd,rfl,.inr ⟨_,pk u.x u.y,t,.inl h1.e2,rfl,ht1,hw1.symm⟩,?_⟩;refine ⟨_,rfl,?_⟩
 cases hw:u.wd with
 | false =>
  rw [hw] at k;refine gI ?_;lk
  exact k as R H1 h1 rfl S1
 | true =>
  rw [hw] at k;obtain ⟨hT,hap⟩:=hap hw;obtain ⟨w,hw1,hwm⟩:=h1.get hT;have W1:=h1.wa _ w hw1;have D1:=h1.wd _ hT;refine jX ?_;k_in;refine jv ?_;lk;refine ⟨a.q,A.bE,a.dq,_,_,rfl,h1.ob,ct.lc,ct.l4,fL4,?_⟩;k_go;refine ⟨a.q,A.bE,a.dq,_,_,rfl,h1.ob,ct.lc,ct.l1,Ub,?_⟩;lk;refine .inr ⟨a.d1,.int ((u.dj+1:Nat):Int),rfl,.inr ⟨_,pk u.x u.y,t,.inl h1.e1,rfl,ht1,hl1.symm⟩,?_⟩;refine nR (dh.of h1.ls) (fE (j:=u.dj+1) rfl (by rw [aG,hw1];rfl)) ?_;refine ⟨w.1,w.2.1,_,rfl,W1.ob,ip _ _,?_⟩;lk;refine kY (mX.of ht1) (fE (j:=0) rfl rfl) ?_;lk;refine kY (mX.of ht1) (fE (j:=1) rfl rfl) ?_;lk;refine ⟨w.1,w.2.1,w.2.2,n,u.x,u.y,as (u.dj+1),R (u.dj+1),rfl,ct.w,W1,D1,hn,hx,hy,hap,λbs H4 W' B'=>?_⟩;exact k _ _ H4 (h1.wood hw1 W' (D1.lk hx hy hap) B') rfl (S1.trans (Fm.but (fpw hwm) B'))
inductive eN (K:aa) (C:ah) (A:CA) (vs:List V) (H:Hp) (Q:VK) (E:XK):Prop
 | mk (a:_) (n T:Nat) (ts as R t:_) (u:Ti):vs=[.ref a.q,.ref t]->wD K C A->LV C A H a n T ts as R->n<=200->u∈ts->(ts.map Ti.key).Nodup->u.x<n->u.y<n->u.x≠u.y->u.dj<=T->(u.wd=true->∀ i,i<=u.dj->Ed n (R i) u.x u.y)->H t=some (.tup [.int u.x,.int u.y])->(∀ as' R' H',LV C A H' a n T (ts.filter λv=>decide (v.key≠u.key)) as' R'->(R'=if u.wd=true then drR R u.dj u.x u.y else R)->Fm (fp a) H H'->Q .non H')->eN K C A vs H Q E
theorem De:Rn (eN K C A) (uS K C A (j8 K C)) ["self","tie","level","wood"]:=by
 rintro vs H Q E ⟨a,n,T,ts,as,R,t,u,rfl,ct,h,hn,hu,hnd,hx,hy,hxy,hl,hed,ht,k⟩
 have td:∀ {H:Hp}{d:ah}{ks ks':List (List gn×V)},H t=some (.tup [.int u.x,.int u.y])->H d=some (.dT ks)->upd H d (.dT ks') t=some (.tup [.int u.x,.int u.y]):=λe1 e2=>by rw [aE (fA e1 e2)];exact e1
 unfold uS;k_go;refine ⟨a.q,A.bE,a.dq,_,_,rfl,h.ob,ct.lc,ct.l3,fL3,?_⟩;refine ⟨.inr (.inr (.inl ⟨rfl,.inr ⟨_,h.e3⟩⟩)),?_⟩;lk;refine ⟨a.d3,_,pk u.x u.y,t,.int (a.g u.x u.y),rfl,rfl,h.e3,ht,i0 (f:=λt=>V.int (a.g t.x t.y)) hnd hu,?_⟩;rw [Kl];have ht1:=td (ks':=kv a.g (ts.filter λv=>decide (v.key≠u.key))) ht h.e3
 have ne3:∀ {b:ah}{o:HO},b≠a.d3->H b=some o->(upd H a.d3 (.dT (kv a.g (ts.filter λv=>decide (v.key≠u.key))))) b=some o:=λhb e=>by rw [aE hb];exact e
 have q3:(upd H a.d3 (.dT (kv a.g (ts.filter λv=>decide (v.key≠u.key))))) a.d3=_:=aD;have F1:Fm [a.d1,a.d2,a.d3] H (upd H a.d3 (.dT (kv a.g (ts.filter λv=>decide (v.key≠u.key))))):=Fm.upd (ag _ (ag _ ar));have o1:=ne3 (fA h.ob h.e3) h.ob;have p1:=ne3 h.Ue h.e1;have p2:=ne3 h.WO h.e2;generalize upd H a.d3 (.dT (kv a.g (ts.filter λv=>decide (v.key≠u.key))))=H1 at ht1 q3 F1 o1 p1 p2;dsimp only;k_go;refine ⟨a.q,A.bE,a.dq,_,_,rfl,o1,ct.lc,ct.l1,Ub,?_⟩;refine ⟨.inr (.inr (.inl ⟨rfl,.inr ⟨_,p1⟩⟩)),?_⟩;lk;refine ⟨a.d1,_,pk u.x u.y,t,.int u.dj,rfl,rfl,p1,ht1,i0 (f:=λt=>V.int t.dj) hnd hu,?_⟩;rw [Kl];have ht2:=td (ks':=kl (ts.filter λv=>decide (v.key≠u.key))) ht1 p1;have o2:(upd H1 a.d1 (.dT (kl (ts.filter λv=>decide (v.key≠u.key))))) a.q=_:=(aE (fA o1 p1)).trans o1;have r1:(upd H1 a.d1 (.dT (kl (ts.filter λv=>decide (v.key≠u.key))))) a.d1=_:=aD;have r2:(upd H1 a.d1 (.dT (kl (ts.filter λv=>decide (v.key≠u.key))))) a.d2=_:=(aE h.Rk.symm).trans p2;have r3:(upd H1 a.d1 (.dT (kl (ts.filter λv=>decide (v.key≠u.key))))) a.d3=_:=(aE h.Ue.symm).trans q3;have F2:Fm [a.d1,a.d2,a.d3] H (upd H1 a.d1 (.dT (kl (ts.filter λv=>decide (v.key≠u.key))))):=F1.trans (Fm.upd ar);generalize upd H1 a.d1 (.dT (kl (ts.filter λv=>decide (v.key≠u.key))))=H2 at ht2 o2 r1 r2 r3 F2;dsimp only;k_go;refine ⟨a.q,A.bE,a.dq,_,_,rfl,o2,ct.lc,ct.l2,YA,?_⟩;refine ⟨.inr (.inr (.inl ⟨rfl,.inr ⟨_,r2⟩⟩)),?_⟩;lk;refine ⟨a.d2,_,pk u.x u.y,t,.bl u.wd,rfl,rfl,r2,ht2,i0 (f:=λt=>V.bl t.wd) hnd hu,?_⟩;rw [Kl];have ht3:=td (ks':=kw (ts.filter λv=>decide (v.key≠u.key))) ht2 r2;have F3:Fm [a.d1,a.d2,a.d3] H (upd H2 a.d2 (.dT (kw (ts.filter λv=>decide (v.key≠u.key))))):=F2.trans (Fm.upd (ag _ ar));have h3:LV C A (upd H2 a.d2 (.dT (kw (ts.filter λv=>decide (v.key≠u.key))))) a n T (ts.filter λv=>decide (v.key≠u.key)) as R:=h.sets F3 ((aE h.Rk).trans r1) aD ((aE h.WO.symm).trans r3)
 have G3:Fm (fp a) H (upd H2 a.d2 (.dT (kw (ts.filter λv=>decide (v.key≠u.key))))):=F3.mono λb hb=>by
  simp only [aq,cq,or_false] at hb
  rcases hb with rfl|rfl|rfl
  .exact fp1
  .exact fp2
  .exact fp3
 generalize upd H2 a.d2 (.dT (kw (ts.filter λv=>decide (v.key≠u.key))))=H3 at ht3 h3 G3;refine ⟨_,rfl,?_⟩
 cases hw:u.wd with
 | false =>
  rw [hw] at k;refine gI ?_;lk
  exact k as R H3 h3 rfl G3
 | true =>
  rw [hw] at k;have hed:=hed hw;refine jX ?_;unfold rD;k_go;refine ⟨a.q,A.bE,a.dq,_,_,rfl,h3.ob,ct.lc,ct.l4,fL4,?_⟩;lk;refine L9 (dh.of h3.ls) λs hs=>?_;rw [Ov (j:=u.dj+1) (by lia),← BR];have S2:=bS.cc (o:=.lst ((a.ws.take (u.dj+1)).map λw=>V.ref w.1)) hs;have gs:(upd H3 s (.lst ((a.ws.take (u.dj+1)).map λw=>V.ref w.1))) s=some (.lst ((a.ws.take (u.dj+1)).map λw=>V.ref w.1)):=aD;have nsf:=h3.Dz hs;generalize upd H3 s (.lst ((a.ws.take (u.dj+1)).map λw=>V.ref w.1))=H4 at S2 gs;have h4:=h3.same S2;have ht4:=S2 _ _ ht3
  have hlt:(a.ws.take (u.dj+1)).length=u.dj+1:=by rw [bO,h.len];lia
  refine ⟨s,rfl,?_⟩
  refine .inl ⟨⟨_,dh.of gs⟩,jt (K:=K) (a:=s) (xs:=(a.ws.take (u.dj+1)).map λw=>V.ref w.1)
   (λi Z H5=>Up C A a n T (ts.filter λv=>decide (v.key≠u.key)) R (λr=>Rm.ct r u.x u.y) H4 i H5/\∃ o,Z=[some (.ref a.q),some (.ref t),some (.int u.dj),o])
   ⟨⟨⟨as,R,h4,λj=>by rw [if_neg (by lia)]⟩,Fm.refl⟩,_,rfl⟩ ?_ ?_ ?_⟩
  .rintro i Z H5 _ ⟨U,_⟩;exact dh.of (U.fm _ _ nsf gs)
  .rintro i z Z H5 hi ⟨U,o,rfl⟩;obtain ⟨w,hw,rfl⟩:=gm hi
   have hi:i<u.dj+1:=by rw [← hlt];exact (av.mp hw).1
   rw [mL,if_pos hi] at hw;obtain ⟨as1,R1,L1,e1⟩:=U.ex;have W1:=L1.wa i w hw;have ht5:=U.fm _ _ (h4.yH ht4) ht4;k_in;refine ⟨w.1,w.2.1,_,rfl,W1.ob,ip _ _,?_⟩;lk;refine kY (mX.of ht5) (fE (j:=0) rfl rfl) ?_;lk;refine kY (mX.of ht5) (fE (j:=1) rfl rfl) ?_;lk
   have ei:R1 i=R i:=by rw [e1,if_neg (h8 i)]
   have D1:=L1.wd i (by lia)
   have hE:Ed n (R1 i) u.x u.y:=by rw [ei];exact hed i (by lia)
   refine ⟨w.1,w.2.1,w.2.2,n,u.x,u.y,as1 i,R1 i,rfl,ct.w,W1,D1,hn,hx,hy,hxy,hE,λbs H6 W' B'=>?_⟩;exact ⟨Up.step (f:=λr=>Rm.ct r u.x u.y) L1 e1 U.fm hw W' (D1.ct hx hy hxy hE) B',_,rfl⟩
  .rintro Z H5 ⟨U,o,rfl⟩;rw [af,hlt] at U;obtain ⟨as1,R1,L1,e1⟩:=U.ex;refine k as1 _ H5 (L1.cast λj=>?_) rfl ((G3.trans (Fm.of S2)).trans U.fm);rw [e1]
   show _=if j<=u.dj then _ else _
   by_cases c:j<=u.dj
   .rw [if_pos c,if_pos (by lia)]
   .rw [if_neg c,if_neg (by lia)]
variable {X:EC}
inductive kZ (K:aa) (C:ah) (A:CA) (vs:List V) (H:Hp) (Q:VK) (E:XK):Prop
 | mk (a:_) (n T:Nat) (ts as R t:_) (x y:Nat):vs=[.ref a.q,.ref t,.int (a.g x y)]->wD K C A->LV C A H a n T ts as R->n<=200->x<n->y<n->H t=some (.tup [.int x,.int y])->(ts.map Ti.key).Nodup->((x:Int),(y:Int))∉ts.map Ti.key->ts.length<99->(∀ b ts' as' R' H',LV C A H' a n T ts' as' R'->(((y:Int)∈R 0 x/\ts'=ts++[⟨x,y,0,false⟩]/\R'=R)\/((y:Int)∉R 0 x/\ts'=i6 (ts++[⟨x,y,0,false⟩]) ((x:Int),(y:Int)) Ti.yQ/\R'=NZ R 0 x y))->Fm (fp a) H H'->Q (.bl b) H')->kZ K C A vs H Q E
theorem Fq:Rn (kZ K C A) (xE K C A (cR K C) (cC K C A)) zl:=by
 rintro vs H Q E ⟨a,n,T,ts,as,R,t,x,y,rfl,ct,h,hn,hx,hy,ht,hnd,hk,hlen,k⟩
 have td:∀ {H:Hp}{d:ah}{ks ks':List (List gn×V)},H t=some (.tup [.int x,.int y])->H d=some (.dT ks)->upd H d (.dT ks') t=some (.tup [.int x,.int y]):=λe1 e2=>by rw [aE (fA e1 e2)];exact e1
 have kn:∀ (f:Ti->V) (v:V),f ⟨x,y,0,false⟩=v->qV (kf f ts) (pk x y) v=kf f (ts++[⟨x,y,0,false⟩]):=λf v e=>by rw [uu _ (Q3 hk),← e];unfold kf;rw [aP];rfl
 have hnd':((ts++[(⟨x,y,0,false⟩:Ti)]).map Ti.key).Nodup:=by
  rw [aP,fu];exact ⟨hnd,by simp,λp hp q hq e=>hk (by rw [qS,aC] at hq;have e2:p=((x:Int),(y:Int)):=e.trans hq;rw [← e2];exact hp)⟩
 have hu:(⟨x,y,0,false⟩:Ti)∈ts++[⟨x,y,0,false⟩]:=bx _ ar;unfold xE;k_go;refine ⟨a.q,A.bE,a.dq,_,_,rfl,h.ob,ct.lc,ct.l1,Ub,?_⟩;lk;refine .inr ⟨a.d1,_,rfl,AC.t (k:=pk x y) h.e1 ht (eL (m:=100) (by rw [sE];lia)),?_⟩;rw [kn (λt=>V.int t.dj) (.int 0) rfl];have ht1:=td (ks':=kl (ts++[⟨x,y,0,false⟩])) ht h.e1;have o1:(upd H a.d1 (.dT (kl (ts++[⟨x,y,0,false⟩])))) a.q=_:=(aE (fA h.ob h.e1)).trans h.ob;have p1:(upd H a.d1 (.dT (kl (ts++[⟨x,y,0,false⟩])))) a.d1=_:=aD;have p2:(upd H a.d1 (.dT (kl (ts++[⟨x,y,0,false⟩])))) a.d2=_:=(aE h.Rk.symm).trans h.e2;have p3:(upd H a.d1 (.dT (kl (ts++[⟨x,y,0,false⟩])))) a.d3=_:=(aE h.Ue.symm).trans h.e3;have F1:Fm [a.d1,a.d2,a.d3] H (upd H a.d1 (.dT (kl (ts++[⟨x,y,0,false⟩])))):=Fm.upd ar;generalize upd H a.d1 (.dT (kl (ts++[⟨x,y,0,false⟩])))=H1 at ht1 o1 p1 p2 p3 F1;k_go;refine ⟨a.q,A.bE,a.dq,_,_,rfl,o1,ct.lc,ct.l2,YA,?_⟩;lk;refine .inr ⟨a.d2,_,rfl,AC.t (k:=pk x y) p2 ht1 (eL (m:=100) (by rw [sE];lia)),?_⟩;rw [kn (λt=>V.bl t.wd) (.bl false) rfl];have ht2:=td (ks':=kw (ts++[⟨x,y,0,false⟩])) ht1 p2;have o2:(upd H1 a.d2 (.dT (kw (ts++[⟨x,y,0,false⟩])))) a.q=_:=(aE (fA o1 p2)).trans o1;have q1:(upd H1 a.d2 (.dT (kw (ts++[⟨x,y,0,false⟩])))) a.d1=_:=(aE h.Rk).trans p1;have q2:(upd H1 a.d2 (.dT (kw (ts++[⟨x,y,0,false⟩])))) a.d2=_:=aD;have q3:(upd H1 a.d2 (.dT (kw (ts++[⟨x,y,0,false⟩])))) a.d3=_:=(aE h.WO.symm).trans p3;have F2:Fm [a.d1,a.d2,a.d3] H (upd H1 a.d2 (.dT (kw (ts++[⟨x,y,0,false⟩])))):=F1.trans (Fm.upd (ag _ ar));generalize upd H1 a.d2 (.dT (kw (ts++[⟨x,y,0,false⟩])))=H2 at ht2 o2 q1 q2 q3 F2;k_go;refine ⟨a.q,A.bE,a.dq,_,_,rfl,o2,ct.lc,ct.l3,fL3,?_⟩;lk;refine .inr ⟨a.d3,_,rfl,AC.t (k:=pk x y) q3 ht2 (eL (m:=100) (by rw [sE];lia)),?_⟩;rw [kn (λt=>V.int (a.g t.x t.y)) (.int (a.g x y)) rfl];have ht3:=td (ks':=kv a.g (ts++[⟨x,y,0,false⟩])) ht2 q3;have F3:Fm [a.d1,a.d2,a.d3] H (upd H2 a.d3 (.dT (kv a.g (ts++[⟨x,y,0,false⟩])))):=F2.trans (Fm.upd (ag _ (ag _ ar)));have h3:LV C A (upd H2 a.d3 (.dT (kv a.g (ts++[⟨x,y,0,false⟩])))) a n T (ts++[⟨x,y,0,false⟩]) as R:=h.sets F3 ((aE h.Ue).trans q1) ((aE h.WO).trans q2) aD
 have S3:Fm (fp a) H (upd H2 a.d3 (.dT (kv a.g (ts++[⟨x,y,0,false⟩])))):=F3.mono λb hb=>by
  simp only [aq,cq,or_false] at hb
  rcases hb with rfl|rfl|rfl
  .exact fp1
  .exact fp2
  .exact fp3
 generalize upd H2 a.d3 (.dT (kv a.g (ts++[⟨x,y,0,false⟩])))=H3 at ht3 h3 S3;obtain ⟨w,hw,hwm⟩:=h3.get (bA _);have W3:=h3.wa 0 w hw;have D3:=h3.wd 0 (bA _);k_in;refine jv ?_;lk;refine ⟨a.q,A.bE,a.dq,_,_,rfl,h3.ob,ct.lc,ct.l4,fL4,?_⟩;lk;refine nR (dh.of h3.ls) (fE (j:=0) rfl (by rw [aG,hw];rfl)) ?_;refine ⟨w.1,w.2.1,_,rfl,W3.ob,ip _ _,?_⟩;lk;refine kY (mX.of ht3) (fE (j:=0) rfl rfl) ?_;lk;refine kY (mX.of ht3) (fE (j:=1) rfl rfl) ?_;lk;refine ⟨w.1,w.2.1,w.2.2,n,x,y,as 0,R 0,rfl,ct.w,W3,D3,hx,hy,?_⟩;refine ⟨_,rfl,?_⟩
 by_cases hj:(y:Int)∈R 0 x
 .rw [decide_eq_true hj];rw [if_neg (by simp)];k_go;refine ⟨a.q,A.bE,a.dq,_,_,rfl,h3.ob,ct.lc,ct.l2,YA,?_⟩;lk;refine .inr ⟨a.d2,.bl false,rfl,.inr ⟨_,pk x y,t,.inl h3.e2,rfl,ht3,(i0 (f:=λt=>V.bl t.wd) hnd' hu).symm⟩,?_⟩;exact k _ _ as R H3 h3 (.inl ⟨hj,rfl,rfl⟩) S3
 .rw [decide_eq_false hj];rw [if_pos (by simp)];k_in;refine ⟨a.q,a.dq,_,rfl,h3.ob,ZT,?_⟩;lk;refine ⟨a,n,T,_,as,R,t,⟨x,y,0,false⟩,rfl,ct,h3,hn,hu,hnd',hx,hy,bA _,λi hi=>by rw [Xi.mp hi];exact hj,ht3,by simp;lia,λas' H4 h4 S4=>?_⟩;have ht4:H4 t=some (.tup [.int x,.int y]):=S4 _ _ (h3.yH ht3) ht3;k_go;refine ⟨a.q,A.bE,a.dq,_,_,rfl,h4.ob,ct.lc,ct.l2,YA,?_⟩;lk;refine .inr ⟨a.d2,.bl true,rfl,.inr ⟨_,pk x y,t,.inl h4.e2,rfl,ht4,(i0 (f:=λt=>V.bl t.wd) (t:=⟨x,y,0,true⟩) (by rw [ko (f:=Ti.yQ) (λ_=>rfl)];exact hnd') ((mn (f:=Ti.yQ) hnd' hu _).mpr (.inl rfl))).symm⟩,?_⟩;exact k _ _ as' _ H4 h4 (.inr ⟨hj,rfl,rfl⟩) (S3.trans S4)
inductive cA (K:aa) (C:ah) (A:CA) (vs:List V) (H:Hp) (Q:VK) (E:XK):Prop
 | mk (a:_) (n T:Nat) (ts as R:_) (lv:Nat) (t:_) (x y:Nat):vs=[.ref a.q,.int lv,.ref t]->wD K C A->LV C A H a n T ts as R->n<=60->lv<=T->x<n->y<n->H t=some (.tup [.int x,.int y])->(∀ q (ks:List Int) (s o:Nat),(s=x/\o=y\/s=y/\o=x)->(R lv s).length<=(R lv o).length->H q=none->(∀ z,z∈ks↔z∈R lv s)->Q (.ref q) (upd H q (.lst (ks.map V.int))))->cA K C A vs H Q E
theorem sF:Rn (cA K C A) (mV K C A (iw K C) (kq K C)) ["self","level","tie","wood"]:=by
 rintro vs H Q E ⟨a,n,T,ts,as,R,lv,t,x,y,rfl,ct,h,hn,hl,hx,hy,ht,k⟩;obtain ⟨w,hw,hwm⟩:=h.get hl;have W:=h.wa lv w hw;have D:=h.wd lv hl;have lx:=D.len hx;have ly:=D.len hy;obtain ⟨dx,_,_,cx⟩:=(D.r x hx).cnt;obtain ⟨dy,_,_,cy⟩:=(D.r y hy).cnt;unfold mV;k_go;refine ⟨a.q,A.bE,a.dq,_,_,rfl,h.ob,ct.lc,ct.l4,fL4,?_⟩;lk;refine nR (dh.of h.ls) (fE (j:=lv) rfl (by rw [aG,hw];rfl)) ?_;k_in;refine ⟨w.1,w.2.1,_,rfl,W.ob,ip _ _,?_⟩;k_in;refine ⟨w.1,w.2.1,_,rfl,W.ob,ip _ _,?_⟩;lk;refine kY (mX.of ht) (fE (j:=0) rfl rfl) ?_;lk;refine ⟨w.1,w.2.1,w.2.2,n,x,as lv,R lv,rfl,ct.w,W,D,hx,?_⟩;refine m6 ?_;lk;refine ⟨w.1,w.2.1,_,rfl,W.ob,ip _ _,?_⟩;lk;refine kY (mX.of ht) (fE (j:=1) rfl rfl) ?_;lk;refine ⟨w.1,w.2.1,w.2.2,n,y,as lv,R lv,rfl,ct.w,W,D,hy,?_⟩;lk;refine wx (λc=>?_) λc=>?_
 .lk;refine kY (mX.of ht) (fE (j:=0) rfl rfl) ?_;lk;exact ⟨w.1,w.2.1,w.2.2,n,x,as lv,R lv,rfl,ct.w,W,D,by lia,hx,λq ks hq _ hm=>k q ks x y (.inl ⟨rfl,rfl⟩) (by lia) hq hm⟩
 .lk;refine kY (mX.of ht) (fE (j:=1) rfl rfl) ?_;lk;exact ⟨w.1,w.2.1,w.2.2,n,y,as lv,R lv,rfl,ct.w,W,D,by lia,hy,λq ks hq _ hm=>k q ks y x (.inr ⟨rfl,rfl⟩) (by lia) hq hm⟩
variable {X:EC}
theorem oJ.keep (h:oJ Pt H) (S:∀ b o,(∀ ks,o≠.dT ks)->(∀ xs,o≠.lst xs)->(∀ x y z,o≠.ins x y z)->(∀ o' ks,o≠.frz o' (.dT ks))->H b=some o->H' b=some o):oJ Pt H':=by
 rcases h with h|⟨c',oc,vs,t,h1,h2,h3⟩
 .exact .inl (S _ _ (λ_ z=>nomatch z) (λ_ z=>nomatch z) (λ_ _ _ z=>nomatch z) (λ_ _ z=>nomatch z) h)
 .exact .inr ⟨c',oc,vs,t,S _ _ (λ_ z=>nomatch z) (λ_ z=>nomatch z) (λ_ _ _ z=>nomatch z) (λ_ _ z=>nomatch z) h1,S _ _ (λ_ z=>nomatch z) (λ_ z=>nomatch z) (λ_ _ _ z=>nomatch z) (λ_ _ z=>nomatch z) h2,h3⟩
def oJ.same (h:oJ Pt H) (S:bS H H'):oJ Pt H':=h.keep λb o _ _ _ _ e=>S b o e
def oJ.fm (h:oJ Pt H) (L:LV C A H a n T ts as R) (S:Fm (fp a) H H'):oJ Pt H' :=
 h.keep λb o h1 h2 _ _ e=>S b o (L.out e h1 λ_ _=>h2 _) e
def oJ.ne (h:oJ Pt H) {b:ah}{o:HO}(e:H b=some o) (hn:∀ ps,o≠.tbl ps):b≠Pt:=λz=>by
 obtain ⟨ps,q⟩:=h.tbl;rw [z,q] at e;exact hn ps (aV e).symm
def AtL (ts:List Ti) (lv:Nat) (w:Bool) (zs:List Zt):Prop:=(zs.map zP).Nodup/\∀ k,k∈zs.map zP↔∃ t∈ts,t.dj=lv/\t.wd=w/\t.key=k
inductive kN (K:aa) (C:ah) (A:CA) (Pt:ah) (vs:List V) (H:Hp) (Q:VK) (E:XK):Prop
 | mk (a:_) (n T:Nat) (ts as R:_) (lv:Nat) (w:Bool):vs=[.ref a.q,.int lv,.bl w]->wD K C A->LV C A H a n T ts as R->(ts.map Ti.key).Nodup->ts.length<64->oJ Pt H->(∀ (q:ah) (zs:List Zt) (o:iW) H',H q=none->H' q=some (.lst (zs.map kM))->(∀ z∈zs,iL H' z)->AtL ts lv w zs->H' a.d1=some (.frz o (.dT (kl ts)))->oJ Pt H'->Fm [Pt,a.d1] H H'->Q (.ref q) H')->kN K C A Pt vs H Q E
inductive cM (K:aa) (C:ah) (A:CA) (Pt:ah) (vs:List V) (H:Hp) (Q:VK) (E:XK):Prop
 | mk (a:_) (n T:Nat) (ts as R:_) (lv:Nat) (w:Bool):vs=[.ref a.q,.int lv,.bl w]->wD K C A->LV C A H a n T ts as R->(ts.map Ti.key).Nodup->ts.length<64->oJ Pt H->(∀ (q:ah) (zs:List Zt) H',H q=none->H' q=some (.lst (zs.map kM))->(∀ z∈zs,iL H' z)->AtL ts lv w zs->oJ Pt H'->Ex Pt H H'->Q (.ref q) H')->cM K C A Pt vs H Q E
theorem vd:∀ vs H Q E,cM K C A Pt vs H Q E->kN K C A Pt vs H (Yj H Q) E:=by
 rintro vs H Q E ⟨a,n,T,ts,as,R,lv,w,rfl,ct,h,hnd,hlen,hT,k⟩;refine ⟨a,n,T,ts,as,R,lv,w,rfl,ct,h,hnd,hlen,hT,λq zs o H' hq gq pz hz gd hT' B=>.inr ⟨a.d1,o,kl ts,(λo' u' e=>by rw [h.e1] at e;cases e),gd,?_⟩⟩;have hqd:q≠a.d1:=Ne.symm (aJ h.e1 hq)
 have ne:∀ {b:ah}{u:HO},H' b=some u->(∀ o' ks,u≠.frz o' (.dT ks))->(upd H' a.d1 (.dT (kl ts))) b=some u:=λ{b u} e q=>by rw [aE];exact e;rintro rfl;rw [gd] at e;cases e;exact q _ _ rfl
 refine k q zs _ hq (by rw [aE hqd];exact gq) (λz hz'=>ne (pz z hz') (λ_ _ z=>nomatch z)) hz (hT'.keep λb u _ _ _ h4 e=>ne e h4) λb u hb e=>?_
 by_cases c:b=a.d1
 .subst c;rw [aD,← h.e1,e]
 .rw [aE c];exact B _ _ (by simp [hb,c]) e
theorem ve:Rn (kN K C A Pt) (pK K C A (cO K C Pt)) ZR:=by
 rintro vs H Q E ⟨a,n,T,ts,as,R,lv,w,rfl,ct,h,hnd,hlen,hT,k⟩;unfold pK;lk;refine Zx ?_;refine jv ?_;lk;refine ⟨a.q,A.bE,a.dq,_,_,rfl,h.ob,ct.lc,ct.l1,Ub,?_⟩;refine ⟨a.d1,kl ts,rfl,.inl ⟨h.e1,λo=>?_⟩⟩;have g1:(upd H a.d1 (.frz o (.dT (kl ts)))) a.d1=some (.frz o (.dT (kl ts))):=aD;have B1:bf a.d1 H (upd H a.d1 (.frz o (.dT (kl ts)))):=bf.upd;generalize upd H a.d1 (.frz o (.dT (kl ts)))=H1 at g1 B1;have q1:=B1 _ _ h.ob (fA h.ob h.e1);have w1:=B1 _ _ h.e2 (Ne.symm h.Rk);have v1:=B1 _ _ h.e3 (Ne.symm h.Ue)
 have T1:oJ Pt H1:=hT.keep λb u h1 _ _ _ e=>B1 _ _ e λz=>by rw [z,h.e1] at e;cases e;exact h1 _ rfl
 intro acc hacc;refine oO (n:=ts.length) (λt ys H4=>H4 acc=some (.lst ys)/\bS H1 H4/\∃ us:List (Ti×ah),ys=us.map (λu=>V.ref u.2)/\us.map (·.1)=(ts.take t).filter (λu=>decide (u.dj=lv))/\∀ u∈us,H4 u.2=some (.tup [.int u.1.x,.int u.1.y])) (λZ=>∃ o,Z=[o,some (.int lv),some (.ref a.q)]) ⟨aD,bS.cc hacc,[],rfl,rfl,λz hz=>nomatch hz⟩ ⟨_,rfl⟩ ?_ ?_ ?_ ?_
 .rintro t ys H4 ⟨e,_⟩;exact e
 .rintro ys H4 ⟨g4,S4,us,rfl,hu,fl⟩;refine ⟨⟨by rw [sE];exact aB _,S4 _ _ g1⟩,?_⟩;rw [cg (aB _)] at hu
  have hul:us.length<=ts.length:=by have:=congrArg eW hu;rw [af] at this;rw [this];exact dE _ _
  lk;refine .inl ⟨⟨_,dh.of g4⟩,λacc2 hacc2=>?_⟩;refine DL (K:=K) (z:=acc) (xs:=us.map λu=>V.ref u.2) us (λu=>decide (u.1.wd=w)) (λu=>V.ref u.2) (λZ=>∃ o,Z=[o,some (.bl w),some (.ref a.q)]) (by simp) (dh.of g4) hacc2 ⟨_,rfl⟩ (by rw [af];lia) ?_ ?_
  .rintro i u x σ' H' G G' hi hx S' ⟨o',rfl⟩ k1 k2
   have ex:x=.ref u.2:=by rw [aG,hi] at hx;exact (aV hx).symm
   subst ex;have hum:=aM hi
   have hut:u.1∈ts:=by
    have:u.1∈us.map (·.1):=aW hum;rw [hu] at this;exact (gG.mp this).1
   k_go;refine ⟨a.q,A.bE,a.dq,_,_,rfl,S' _ _ (S4 _ _ q1),ct.lc,ct.l2,YA,?_⟩;lk;refine .inr ⟨a.d2,.bl u.1.wd,rfl,.inr ⟨kw ts,pk u.1.x u.1.y,u.2,.inl (S' _ _ (S4 _ _ w1)),rfl,S' _ _ (fl u hum),(i0 (f:=λt=>V.bl t.wd) hnd hut).symm⟩,?_⟩;lk;have e:decide (V.bl u.1.wd=V.bl w)=decide (u.1.wd=w):=decide_eq_decide.mpr ⟨λq=>by injection q,λq=>by rw [q]⟩;rw [e]
   cases c:decide (u.1.wd=w) with
   | true =>
    refine jX ?_;lk
    exact k1 c _ ⟨_,rfl⟩
   | false=>exact gI (k2 c _ ⟨_,rfl⟩)
  .intro H' S' hacc';have S5:=S4.trans S';generalize eu:us.filter (λu=>decide (u.1.wd=w))=us2 at hacc'
   have hu2:us2.map (·.1)=(ts.filter λu=>decide (u.dj=lv)).filter λu=>decide (u.wd=w):=by rw [← hu,← eu,xj];rfl
   have fl2:∀ u∈us2,H' u.2=some (.tup [.int u.1.x,.int u.1.y]):=λu hu=>S' _ _ (fl u (by rw [← eu] at hu;exact (gG.mp hu).1))
   have hm2:∀ u,u∈us2.map (·.1)↔u∈ts/\u.dj=lv/\u.wd=w:=λu=>by
    rw [hu2,gG,gG,decide_eq_true_iff,decide_eq_true_iff,and_assoc]
   have hl2:us2.length<=ts.length:=by rw [← eu];exact bF (dE _ _) hul
   k_go;refine ⟨a.q,A.bE,a.dq,_,_,rfl,S5 _ _ q1,ct.lc,ct.l3,fL3,?_⟩;lk;refine ⟨acc2,a.d3,kv a.g ts,rfl,S5 _ _ v1,T1.same S5,.inl ⟨us2.map (λu=>([a.g u.1.x u.1.y,(u.1.x:Int),(u.1.y:Int)],u.2)),by rw [hacc',bz];rfl,λz hz=>?_,by rw [af];lia,λl zs' H2 hl S6 T6 hp=>?_⟩⟩
   .obtain ⟨u,hum,rfl⟩:=bo.mp hz;exact ⟨_,u.1.x,u.1.y,rfl,fl2 u hum,i0 (f:=λt=>V.int (a.g t.x t.y)) hnd ((hm2 u.1).mp (aW hum)).1⟩
   .have T5:=T1.same S5
    have hlP:l≠Pt:=λz=>by
     obtain ⟨ps,e⟩:=T6.tbl;rw [z,e] at hl;cases hl
    have F6:Fm [Pt,a.d1] H H2:=λb u hb e=>by
     simp only [aq,cq,or_false,not_or] at hb;exact S6 _ _ hb.1 (S5 _ _ (B1 _ _ e hb.2))
    have d6:H2 a.d1=some (.frz o (.dT (kl ts))):=S6 _ _ (T5.ne (S5 _ _ g1) (λ_ z=>nomatch z)) (S5 _ _ g1);have hld:a.d1≠l:=aJ d6 hl
    have U:∀ {b:ah}{u:HO},H2 b=some u->(upd H2 l (.lst (zs'.map mj))) b=some u:=λe=>by rw [aE (aJ e hl)];exact e
    have hzP:(zs'.map λz=>(z.1.getD 1 0,z.1.getD 2 0,z.2)).map zP=zs'.map λz=>(z.1.getD 1 0,z.1.getD 2 0):=by rw [bz];rfl
    have hperm:(zs'.map λz=>((z.1.getD 1 0,z.1.getD 2 0):Int×Int)).Perm ((us2.map (·.1)).map Ti.key):=by
     have:=hp.map λz:Zn=>((z.1.getD 1 0,z.1.getD 2 0):Int×Int)
     rw [bz] at this;rw [bz];exact this
    refine k l (zs'.map λz=>(z.1.getD 1 0,z.1.getD 2 0,z.2)) o _ (F6.free (by simp [hlP,hld.symm]) hl) (by rw [aD,bz];rfl) (λz hz=>?_) ⟨?_,λkey=>?_⟩ (U d6) (T6.keep λb u _ _ _ _ e=>U e) (F6.trans λb u _ e=>U e)
    .obtain ⟨z',hz',rfl⟩:=bo.mp hz;obtain ⟨u,hum,rfl⟩:=bo.mp (hp.mem_iff.mp hz');exact U (S6 _ _ (T5.ne (fl2 u hum) (λ_ z=>nomatch z)) (fl2 u hum))
    .rw [hzP,hperm.nodup_iff,hu2];exact ((lP.trans lP).map _).nodup hnd
    .rw [hzP,hperm.mem_iff,bo];exact ⟨λ⟨u,h1,h2⟩=>⟨u,((hm2 u).mp h1).1,((hm2 u).mp h1).2.1,((hm2 u).mp h1).2.2,h2⟩,λ⟨u,h1,h2,h3,h4⟩=>⟨u,(hm2 u).mpr ⟨h1,h2,h3⟩,h4⟩⟩
 .rintro t ys H4 ht ⟨_,S4,_⟩;exact ⟨by rw [sE];exact ht,S4 _ _ g1⟩
 .rintro t ys σ' H4 x H5 ht ⟨g4,S4,us,rfl,hu,fl⟩ ⟨o',rfl⟩ ⟨eH,key,v,b,hk,ex,hb⟩;subst eH ex
  obtain ⟨u,hu',eu⟩:∃ u,ts[t]?=some u/\(pk u.x u.y,V.int u.dj)=(key,v):=by
   have hk:(ts.map λt=>(pk t.x t.y,V.int t.dj))[t]?=some (key,v):=hk;rw [aG] at hk;exact fZ.mp hk
  cases eu;have hum:=aM hu';have hb:H5 b=some (.tup [.int u.x,.int u.y]):=hb;k_go;refine ⟨a.q,A.bE,a.dq,_,_,rfl,S4 _ _ q1,ct.lc,ct.l1,Ub,?_⟩;lk;refine .inr ⟨a.d1,.int u.dj,rfl,.inr ⟨kl ts,pk u.x u.y,b,.inr ⟨o,S4 _ _ g1⟩,rfl,hb,(i0 (f:=λt=>V.int t.dj) hnd hum).symm⟩,?_⟩
  have etk:ts.take (t+1)=ts.take t++[u]:=by rw [ft,hu'];rfl
  have hul:us.length<=ts.length:=by have:=congrArg eW hu;rw [af] at this;rw [this];exact bF (dE _ _) (by rw [bO];lia)
  lk;refine wx (λc=>?_) λc=>?_
  .have c:u.dj=lv:=by have:=j4.mp c;lia
   lk;refine ⟨g4,eL (m:=100) (by rw [af];lia),lN.mk' ht ⟨_,rfl⟩ ⟨aD,λb' ob e=>by rw [aE (aJ e hacc)];exact S4 _ _ e,us++[(u,b)],by simp,?_,λz hz=>?_⟩⟩
   .rw [aP,hu,etk,eY];simp [c]
   .rcases aT.mp hz with hz|hz
    .rw [aE (fA (fl z hz) g4)];exact fl z hz
    .rw [aC.mp hz,aE (fA hb g4)];exact hb
  .have c:¬ u.dj=lv:=λe=>c (by rw [e]);refine lN.mk' ht ⟨_,rfl⟩ ⟨g4,S4,us,rfl,?_,fl⟩;rw [hu,etk,eY];simp [c]
variable {X:EC}
def Fm.skip {X:List ah}{c:ah}{H1 H2:Hp}(S:Fm X H H1) (S2:Fm (c::X) H1 H2) (hc:H c=none):Fm X H H2:=λb o hb e=>S2 b o (λz=>by
 rcases aq.mp z with z|z
 .rw [z,hc] at e;cases e
 .exact hb z) (S b o hb e)
def ew2 {x y:Int}{S:List Int}:ew x y S=2↔x∈S/\y∈S:=by
 unfold ew;by_cases c1:x∈S<;>by_cases c2:y∈S<;>simp [c1,c2]
def ew1 {x y:Int}{S:List Int}:ew x y S=1↔(x∈S/\y∉S\/x∉S/\y∈S):=by
 unfold ew;by_cases c1:x∈S<;>by_cases c2:y∈S<;>simp [c1,c2]
theorem LV.WZ (h:LV C A H a n T ts as R) (hP:oJ Pt H) (S:Ex Pt H H'):LV C A H' a n T ts as R :=
 h.keep (X:=[Pt]) (λb o hb e=>S b o (λz=>hb (aC.mpr z)) e) (λx fs e hf _ hx=>hP.ne e (by obtain ⟨c,d,f,rfl,_⟩:=hf;exact λ_ z=>nomatch z) (aC.mp hx)) (λb hb hx=>by
  rcases h.kind hb with ⟨ks,q⟩|⟨bs,_,q⟩
  .exact hP.ne q (λ_ z=>nomatch z) (aC.mp hx)
  .exact hP.ne q (λ_ z=>nomatch z) (aC.mp hx)) (λhx=>hP.ne h.ls (λ_ z=>nomatch z) (aC.mp hx)) λb r _ e hx=>hP.ne e (λ_ z=>nomatch z) (aC.mp hx)
theorem LV.app {c:ah}{ys xs:List V}(h:LV C A H a n T ts as R) (hc:H c=some (.lst ys)) (hi:∀ i r,ys≠V.int i::r) (n1:c∉fp a) (n2:a.L≠c):LV C A (upd H c (.lst xs)) a n T ts as R :=
 h.keep (X:=[c]) (Fm.upd ar) (λx fs e hf _ hx=>by
  rw [aC.mp hx,hc] at e;obtain ⟨c,d,f,rfl,_⟩:=hf
  cases e) (λb hb hx=>n1 (aC.mp hx▸hb)) (λhx=>n2 (aC.mp hx)) λb r hr e hx=>by
  rw [aC.mp hx,hc] at e
  injection e with e
  injection e with e
  match r,hr with
  | x::r,_=>exact hi _ _ e
inductive eO (K:aa) (C:ah) (A:CA) (Pt:ah) (vs:List V) (H:Hp) (Q:VK) (E:XK):Prop
 | mk (a:_) (n T:Nat) (ts as R:_) (lv:Nat) (t:_) (x y:Nat):vs=[.ref a.q,.int lv,.ref t]->wD K C A->LV C A H a n T ts as R->n<=60->(∀ j,2^(j+1)<=n->j<=T)->Dn n T ts R x y (lv+1)->H t=some (.tup [.int x,.int y])->ts.length<64->oJ Pt H->(∀ ts' as' R' H' (u:Tt),H u.p=none->H u.q=none->Ig H' u->LV C A H' a n T ts' as' R'->oJ Pt H'->Fm (Pt::fp a) H H'->ts'.map Ti.key=ts.map Ti.key->(u.f=.non/\Dn n T ts' R' x y lv\/u.f≠.non/\Lv n T ts' R'/\Jn ts' R')->Q (.ref u.p) H')->eO K C A Pt vs H Q E
theorem Dg:Rn (eO K C A Pt) (uU K C A (cA K C A) (cM K C A Pt) (dQ K C A) (dR K C) (cC K C A)) ZH:=by
 rintro vs H Q E ⟨a,n,T,ts,as,R,lv,t,x,y,rfl,ct,h,hn,hT,D,ht,hlen,hP,k⟩
 have hlv:lv<=T:=by have:=D.hk;lia
 have hnd:=D.lv.nd;have f0:∀ {m:bq},¬ m="level_of"->¬ m="wooden"->¬ m="weight_of"->¬ m="woods"->(fL a.d1 a.d2 a.d3 a.L).lookup m=none:=λh1 h2 h3 h4=>ZT h1 h2 h3 h4;unfold uU;k_in;refine ⟨a.q,a.dq,_,rfl,h.ob,f0 (by decide +kernel) (by decide +kernel) (by decide +kernel) (by decide +kernel),?_⟩;lk;refine ⟨a,n,T,ts,as,R,lv,t,x,y,rfl,ct,h,hn,hlv,D.ha,D.hb,ht,λq ks s o hso hle hq hks=>?_⟩
 have D':Dn n T ts R s o (lv+1):=by
  rcases hso with ⟨rfl,rfl⟩|⟨rfl,rfl⟩
  .exact D
  .exact D.swap
 have back:∀ {ts' R'},Dn n T ts' R' s o lv->Dn n T ts' R' x y lv:=λd=>by
  rcases hso with ⟨rfl,rfl⟩|⟨rfl,rfl⟩
  .exact d
  .exact d.swap
 have hs:((R lv s).length+1)*2^(lv+1)<=2*n:=by
  refine bF ?_ (D'.s2 lv (lG _));rw [T8,Nat.mul_comm (2^lv) 2,← Nat.mul_assoc];exact pW _ (by lia)
 generalize eu_:upd _ q _=H1;obtain ⟨S1,g1⟩:=news eu_ hq;have h1:=h.same S1;k_in;refine ⟨a.q,a.dq,_,rfl,h1.ob,f0 (by decide +kernel) (by decide +kernel) (by decide +kernel) (by decide +kernel),?_⟩;lk;refine ⟨a,n,T,ts,as,R,lv,true,rfl,ct,h1,hnd,hlen,hP.same S1,λz0 zs H2 hz0 gz pz az P2 S2=>?_⟩;have h2:=h1.WZ (hP.same S1) S2;have g2:H2 q=some (.lst (ks.map V.int)):=S2 _ _ ((hP.same S1).ne g1 (λ_ z=>nomatch z)) g1
 have hzl:zs.length<=ts.length:=by
  have:=OM (l:=zs.map zP) (m:=ts.map Ti.key) az.1 λp hp=>by
   obtain ⟨t,t1,_,_,t4⟩:=(az.2 p).mp hp;exact t4▸aW t1
  simpa using this
 refine ⟨z0,rfl,.inl ⟨⟨_,dh.of gz⟩,λacc hacc=>?_⟩⟩;have nacc:=h2.Dz hacc;have nLacc:a.L≠acc:=aJ h2.ls hacc;refine oO (n:=zs.length) (λi ys H4=>ys=((zs.take i).filter λz=>decide (ew z.1 z.2.1 ks=2)).map kM/\H4 acc=some (.lst ys)/\bS H2 H4) (λZ=>∃ o,Z=[o,some (.ref q)]) ⟨by simp,aD,bS.cc hacc⟩ ⟨_,rfl⟩ ?_ ?_ ?_ ?_
 .rintro i ys H' ⟨_,h,_⟩;exact h
 .rintro ys H3 ⟨rfl,g3,S3⟩;refine ⟨⟨_,dh.of (S3 _ _ gz),by rw [af];exact aB _⟩,?_⟩;rw [cg (aB _)] at g3;generalize ew':zs.filter (λz=>decide (ew z.1 z.2.1 ks=2))=ws at g3
  have hws:∀ z,z∈ws↔z∈zs/\z.1∈ks/\z.2.1∈ks:=λz=>by rw [← ew',gG,decide_eq_true_iff,ew2]
  have wnd:(ws.map zP).Nodup:=by rw [← ew'];exact (lP.map _).nodup az.1
  have h3:=h2.same S3;have P3:=P2.same S3;have q3:=S3 _ _ g2;have pw:∀ z∈ws,iL H3 z:=λz hz=>S3 _ _ (pz z ((hws z).mp hz).1)
  have st:∀ z∈ws,∃ t∈ts,t.key=zP z/\t.wd=true/\t.dj=lv/\(t.x:Int)∈R lv s/\(t.y:Int)∈R lv s:=λz hz=>by
   obtain ⟨m1,m2,m3⟩:=(hws z).mp hz;obtain ⟨t,t1,t2,t3,t4⟩:=(az.2 (zP z)).mp (aW m1);obtain ⟨e1,e2⟩:=cW t4;exact ⟨t,t1,t4,t3,t2,by rw [e1];exact (hks _).mp m2,by rw [e2];exact (hks _).mp m3⟩
  lk;unfold rE;lk
  refine .inl ⟨⟨_,dh.of g3⟩,jt (K:=K) (a:=acc) (xs:=ws.map kM) (λi Z H4=>∃ ts1 as1 R1 o5 o6,Z=[some (.ref a.q),some (.int lv),some (.ref t),some (.ref q),some (.ref acc),o5,o6]/\LV C A H4 a n T ts1 as1 R1/\Lo1 n T lv s o ts R (ws.map zP) i ts1 R1/\Fm (fp a) H3 H4)
   ⟨ts,as,R,_,_,rfl,h3,⟨D',rfl,rfl,λt ht h1 h2 h3 h4=>?_,λp hp=>?_,λp hp=>?_⟩,Fm.refl⟩ ?_ ?_ ?_⟩
  .obtain ⟨z,hz,e⟩:=bo.mp ((az.2 t.key).mpr ⟨t,ht,h2,h1,rfl⟩);obtain ⟨e1,e2⟩:=cW e;exact bo.mpr ⟨z,(hws z).mpr ⟨hz,by rw [e1];exact (hks _).mpr h3,by rw [e2];exact (hks _).mpr h4⟩,e⟩
  .obtain ⟨z,hz,rfl⟩:=bo.mp hp;exact st z hz
  .obtain ⟨z,hz,rfl⟩:=bo.mp hp;obtain ⟨t,h1,h2,h3,_⟩:=st z hz;exact ⟨t,h1,h2,h3⟩
  .rintro i Z H4 _ ⟨_,_,_,_,_,_,_,_,F⟩;exact dh.of (F _ _ nacc g3)
  .rintro i v Z H4 hi ⟨ts1,as1,R1,o5,o6,rfl,L4,M,F⟩;obtain ⟨z,hz,rfl⟩:=gm hi;obtain ⟨u,u1,u2,u3,u4,u5,M'⟩:=M.step hT hs wnd (p:=zP z) (by rw [aG,hz];rfl);have hpz:=pw z (aM hz)
   have hpz4:H4 z.2.2=some (.tup [.int u.x,.int u.y]):=by
    obtain ⟨e1,e2⟩:=cW u2;rw [e1,e2];exact F _ _ (h3.yH hpz) hpz
   obtain ⟨l1,l2,_⟩:=M.dn.lv.lt u u1
   have hl1:ts1.length=ts.length:=by have:=congrArg eW M.ks;simpa using this
   k_in;refine ⟨a.q,a.dq,_,rfl,L4.ob,f0 (by decide +kernel) (by decide +kernel) (by decide +kernel) (by decide +kernel),?_⟩;lk;refine ⟨a,n,T,ts1,as1,R1,z.2.2,u,rfl,ct,L4,by lia,u1,M.dn.lv.nd,by lia,l2,λ_=>⟨u4,u5⟩,hpz4,by lia,λas' R' H5 L5 eR F5=>?_⟩;rw [u3,if_pos rfl] at eR;subst eR;exact ⟨_,as',_,_,_,rfl,L5,M',F.trans F5⟩
  .rintro Z H4 ⟨ts1,as1,R1,o5,o6,rfl,L4,M,F⟩;rw [af] at M;have P4:=P3.fm h3 F;have a4:=F _ _ nacc g3;have q4:=F _ _ (h3.abG q3) q3;have ed:(ws.map zP).drop ws.length=[]:=Uq.mpr (by rw [af];exact aB _)
   have hno:∀ t∈ts1,t.wd=true->t.dj=lv->(t.x:Int)∈R1 lv s->(t.y:Int)∈R1 lv s->False:=λt h1 h2 h3 h4 h5=>by
    rw [M.rl] at h4 h5;have:=M.pend t h1 h2 h3 h4 h5;rw [ed] at this;cases this
   have hl1:ts1.length=ts.length:=by have:=congrArg eW M.ks;simpa using this
   have hs1:((R1 lv s).length+1)*2^(lv+1)<=2*n:=by rw [M.rl];exact hs
   have hks1:∀ z,z∈ks↔z∈R1 lv s:=by rw [M.rl];exact hks
   lk;unfold rF;k_in;refine ⟨a.q,a.dq,_,rfl,L4.ob,f0 (by decide +kernel) (by decide +kernel) (by decide +kernel) (by decide +kernel),?_⟩;lk;refine ⟨a,n,T,ts1,as1,R1,lv,false,rfl,ct,L4,M.dn.lv.nd,by lia,P4,λz5 zs3 H5 hz5 gz5 pz5 az5 P5 S5=>?_⟩;have L5:=L4.WZ P4 S5;have a5:H5 acc=some (.lst (ws.map kM)):=S5 _ _ (P4.ne a4 (λ_ z=>nomatch z)) a4;have q5:H5 q=some (.lst (ks.map V.int)):=S5 _ _ (P4.ne q4 (λ_ z=>nomatch z)) q4;have nqa:q≠acc:=aJ g2 hacc;have n5a:z5≠acc:=Ne.symm (aJ a4 hz5);have n5f:=L4.Dz hz5;have n3:(zs3.map zP).Nodup:=az5.1
   have hcnt:ws.length+zs3.length<=ts.length:=by
    have:=OM (l:=ws.map zP++zs3.map zP) (m:=ts1.map Ti.key) (fu.mpr ⟨wnd,n3,λp hp p' hp' e=>by
     subst e;obtain ⟨t,t1,t2,t3⟩:=M.all p hp;obtain ⟨t',s1,_,s3,s4⟩:=(az5.2 p).mp hp';rw [qD M.dn.lv.nd t1 s1 (t2.trans s4.symm),s3] at t3
     cases t3⟩) λp hp=>by
      rcases aT.mp hp with hp|hp
      .obtain ⟨t,t1,t2,_⟩:=M.all p hp;exact t2▸aW t1
      .obtain ⟨t,t1,_,_,t4⟩:=(az5.2 p).mp hp;exact t4▸aW t1
    simp at this;lia
   -- from the beginning to here
   have F5:Fm (Pt::fp a) H H5:=λb o hb e=>by
    rw [aq,not_or] at hb;exact S5 _ _ hb.1 (F _ _ hb.2 (S3 _ _ (S2 _ _ hb.1 (S1 _ _ e))))
   have fr:∀ {b:ah},H5 b=none->H b=none:=λ{b} e=>F5.free (λz=>by
    rcases aq.mp z with z|z
    .obtain ⟨ps,q⟩:=P5.tbl;rw [z,q] at e;cases e
    .exact L5.Dz e z) e
   have hacc0:H acc=none:=by
    cases z:H acc with
    | none=>rfl
    | some u =>
     have:H1 acc=some u:=S1 _ _ z
     by_cases c:acc=Pt
     .obtain ⟨ps,q⟩:=P2.tbl;rw [← c,hacc] at q;cases q
     .rw [S2 _ _ c this] at hacc;cases hacc
   have Lf:∀ {H6},Fm (acc::fp a) H5 H6->H6 q=some (.lst (ks.map V.int)):=λF=>F _ _ (λz=>(aq.mp z).elim nqa (L5.abG q5)) q5
   -- the step told
   have told:∀ {ts2 as2 R2 H6} {rs:List Zt}(f:V),LV C A H6 a n T ts2 as2 R2->oJ Pt H6->Fm (acc::fp a) H5 H6->H6 acc=some (.lst (rs.map kM))->(∀ z∈rs,iL H6 z)->rs.length<64->ts2.map Ti.key=ts.map Ti.key->(f=.non/\Dn n T ts2 R2 x y lv\/f≠.non/\Lv n T ts2 R2/\Jn ts2 R2) ->
     ∀ G:VK,(∀ v H7,(∀ p,H7 p=none->Q (.ref p) (upd H7 p (.tup [.int lv,.ref q,v,f])))->G v H7)->pD K [.ref acc] H6 G:=λ{ts2 as2 R2 H6 rs} f L6 P6 F6 g6 p6 hl6 hk hf G kG=>by
    have fr6:∀ {b:ah},H6 b=none->H b=none:=λ{b} e=>fr (F6.free (λz=>by
     rcases aq.mp z with z|z
     .rw [z,g6] at e;cases e
     .exact L6.Dz e z) e)
    refine ⟨acc,rs.map (λz=>([z.1,z.2.1],z.2.2)),[false],rfl,by rw [bz];exact dh.of g6,λz hz=>let ⟨u,hu,e⟩:=bo.mp hz;e▸⟨_,p6 u hu,.int _ (.int _ .nil)⟩,by rw [af];exact hl6,λl rs' hl _ _=>kG _ _ λp hp=>?_⟩;have S7:=bS.cc (o:=.lst (rs'.map mj)) hl;have g7:(upd H6 l (.lst (rs'.map mj))) l=some (.lst (rs'.map mj)):=aD;generalize upd H6 l (.lst (rs'.map mj))=H7 at S7 g7 hp;have S8:=bS.cc (o:=.tup [.int lv,.ref q,.ref l,f]) hp;have S78:=S7.trans S8;exact k ts2 as2 R2 _ ⟨p,q,l,lv,rs'.map mj,f⟩ (fr6 (S7.free hp)) (fr6 hl) ⟨aD,S8 _ _ g7⟩ (L6.same S78) (P6.same S78) (F5.skip ((F6.mono λb hb=>(aq.mp hb).elim (λz=>z▸ar) λz=>ag _ (ag _ z)).trans (Fm.of S78)) hacc0) hk hf
   refine ⟨z5,rfl,.inl ⟨⟨_,dh.of gz5⟩,jt (K:=K) (a:=z5) (xs:=zs3.map kM) (λi Z H6=>∃ ts2 as2 rs o5 o6,Z=[some (.ref a.q),some (.int lv),some (.ref t),some (.ref q),some (.ref acc),o5,o6]/\LV C A H6 a n T ts2 as2 R1/\oJ Pt H6/\Tc n T lv s o ts R1 (zs3.map zP) i ts2/\H6 acc=some (.lst (rs.map kM))/\(∀ z∈rs,iL H6 z)/\rs.length<=ws.length+i/\Fm (acc::fp a) H5 H6)
    ⟨ts1,as1,ws,_,_,rfl,L5,P5,⟨M.dn,M.ks,λh x y hx hy h1 h2=>M.dn.full hno h hx hy h1 h2,λp hp=>?_,λt h1 h2 h3=>.inl ?_⟩,a5,λz hz=>S5 _ _ (P4.ne (F _ _ (h3.yH (pw z hz)) (pw z hz)) (λ_ z=>nomatch z)) (F _ _ (h3.yH (pw z hz)) (pw z hz)),aB _,Fm.refl⟩ ?_ ?_ ?_⟩⟩
   .obtain ⟨t,t1,t2,t3,t4⟩:=(az5.2 p).mp hp;exact ⟨t,t1,t4,t3,t2⟩
   .exact (az5.2 t.key).mpr ⟨t,h1,h3,h2,rfl⟩
   .rintro i Z H6 _ ⟨_,_,_,_,_,_,_,_,_,_,_,_,F6⟩;exact dh.of (F6 _ _ (λz=>(aq.mp z).elim n5a n5f) gz5)
   .rintro i v Z H6 hi ⟨ts2,as2,rs,o5,o6,rfl,L6,P6,N,g6,p6,hl6,F6⟩;obtain ⟨z,hz,rfl⟩:=gm hi;have hilt:i<zs3.length:=(av.mp hz).1
    have hpi:(zs3.map zP)[i]?=some (zP z):=by rw [aG,hz];rfl
    have hz5:=pz5 z (aM hz);have hz6:H6 z.2.2=some (.tup [.int z.1,.int z.2.1]):=F6 _ _ (λe=>(aq.mp e).elim (fA hz5 a5) (L5.yH hz5)) hz5
    have hl2:ts2.length=ts.length:=by have:=congrArg eW N.ks;simpa using this
    lk;refine ⟨z.2.2,q,z.1,z.2.1,ks,rfl,hz6,Lf F6,λH7 S7=>?_⟩;have L7:=L6.same S7;have P7:=P6.same S7;have F7:=F6.trans (Fm.of S7);have g7:=S7 _ _ g6;have hz7:=S7 _ _ hz6;have p7:∀ z∈rs,iL H7 z:=λz hz=>S7 _ _ (p6 z hz);lk;refine wx (λc=>?_) λc=>?_
    .have c:ew z.1 z.2.1 ks=1:=by have:=j4.mp c;lia
     have c:=ew1.mp c;rw [hks1,hks1] at c;obtain ⟨u,u1,u2,u3,u4,u5⟩:=N.one n3 hpi c;obtain ⟨l1,l2,l3⟩:=N.dn.lv.lt u u1;obtain ⟨e1,e2⟩:=cW u2;k_in;refine ⟨a.q,a.dq,_,rfl,L7.ob,f0 (by decide +kernel) (by decide +kernel) (by decide +kernel) (by decide +kernel),?_⟩;lk;refine ⟨a,n,T,ts2,as2,R1,z.2.2,u,rfl,ct,L7,by lia,u1,N.dn.lv.nd,by lia,l2,l3,u3,by rw [e1,e2];exact hz7,by lia,λas' H8 L8 F8=>?_⟩;lk;refine told (rs:=rs) (.ref z.2.2) L8 (P7.fm L7 F8) (F7.trans F8.tail) (F8 _ _ nacc g7) (λz hz=>F8 _ _ (L7.yH (p7 z hz)) (p7 z hz)) (by lia) (by rw [ko (f:=Ti.yQ) (λ_=>rfl)];exact N.ks) (.inr ⟨nofun,u4,u5⟩) _ λv H9 kk=>?_;lk;exact ⟨oq,kk⟩
    .lk;have c1:¬ ew z.1 z.2.1 ks=1:=λe=>c (by rw [e];rfl);refine wx (λc=>?_) λc=>?_
     .have c:ew z.1 z.2.1 ks=2:=by have:=j4.mp c;lia
      have c:=ew2.mp c;rw [hks1,hks1] at c;obtain ⟨u,u1,u2,u3,N'⟩:=N.two hT hs1 n3 hpi c.1 c.2;obtain ⟨l1,l2,l3⟩:=N.dn.lv.lt u u1;obtain ⟨e1,e2⟩:=cW u2;k_in;refine ⟨a.q,a.dq,_,rfl,L7.ob,f0 (by decide +kernel) (by decide +kernel) (by decide +kernel) (by decide +kernel),?_⟩;lk;refine ⟨a,n,T,ts2,as2,R1,z.2.2,u,rfl,ct,L7,by lia,u1,N.dn.lv.nd,by lia,l2,(λe=>by rw [u3] at e;cases e),by rw [e1,e2];exact hz7,by lia,λas' R' H8 L8 eR F8=>?_⟩;rw [u3,if_neg (by decide)] at eR;subst eR;have g8:=F8 _ _ nacc g7;have hz8:=F8 _ _ (L7.yH hz7) hz7;lk;refine ⟨.inl ⟨rfl,_,dh.of g8⟩,?_⟩;lk;refine qY g8 (eL (m:=100) (by rw [af];lia)) ?_
      have ne:∀ {b:ah}{o:HO},H8 b=some o->(∀ xs,o≠.lst xs)->(upd H8 acc (.lst (rs.map kM++[.ref z.2.2]))) b=some o:=λ{b o} e hno=>by rw [aE];exact e;rintro rfl;rw [g8] at e;cases e;exact hno _ rfl
      refine ⟨_,as',rs++[z],_,_,rfl,L8.app g8 (by intro i r e;cases rs<;>cases e) nacc nLacc,(P7.fm L7 F8).keep λb o _ h2 _ _ e=>ne e h2,N',by rw [aD,aP];rfl,λz' hz'=>ne ?_ (λ_ z=>nomatch z),by rw [br];simp;lia,(F7.trans F8.tail).trans (Fm.upd ar)⟩
      rcases aT.mp hz' with hz'|hz'
      .exact F8 _ _ (L7.yH (p7 z' hz')) (p7 z' hz')
      .rw [aC.mp hz'];exact hz8
     .have c2:¬ ew z.1 z.2.1 ks=2:=λe=>c (by rw [e];rfl);lk
      have c3:z.1∉R1 lv s/\z.2.1∉R1 lv s:=by
       rw [← hks1,← hks1];rw [ew1] at c1;rw [ew2] at c2
       by_cases d1:z.1∈ks<;>by_cases d2:z.2.1∈ks<;>simp_all
      exact ⟨ts2,as2,rs,_,_,rfl,L7,P7,N.zero n3 hpi c3.1 c3.2,g7,p7,by lia,F7⟩
   .rintro Z H6 ⟨ts2,as2,rs,o5,o6,rfl,L6,P6,N,g6,p6,hl6,F6⟩;rw [af] at N hl6;lk;refine told (rs:=rs) .non L6 P6 F6 g6 p6 (by lia) N.ks (.inl ⟨rfl,back (N.fin (by rw [af];exact aB _))⟩) _ λv H9 kk=>?_;lk;exact ⟨oq,kk⟩
 .rintro i ys H' hi ⟨e,h,S'⟩;exact ⟨_,_,dh.of (S' _ _ gz),by rw [aG,aw hi];rfl⟩
 .rintro i ys σ' H' v H3 hi ⟨rfl,hl,S'⟩ ⟨o',rfl⟩ ⟨e2,hx⟩;subst e2;have hxi:=hx _ (dh.of (S' _ _ gz));rw [aG,aw hi] at hxi;have hv:=(aV hxi).symm;subst hv
  have et:zs.take (i+1)=zs.take i++[zs[i]]:=by rw [ft,aw hi];rfl
  lk;refine ⟨zs[i].2.2,q,zs[i].1,zs[i].2.1,ks,rfl,S' _ _ (pz _ (di hi)),S' _ _ g2,λH4 S4=>?_⟩;lk;refine wx (λc=>?_) λc=>?_
  .have c:ew zs[i].1 zs[i].2.1 ks=2:=by have:=j4.mp c;lia
   lk;refine ⟨S4 _ _ hl,eL (m:=1000) (by rw [af];exact aY (dE _ _) (by rw [bO];lia)),lN.mk' hi ⟨_,rfl⟩ ⟨?_,aD,λb o e=>by rw [aE (aJ e hacc)];exact S4 _ _ (S' _ _ e)⟩⟩;rw [et,eY,aP];simp [c]
  .have c:¬ ew zs[i].1 zs[i].2.1 ks=2:=λe=>c (by rw [e];rfl);refine lN.mk' hi ⟨_,rfl⟩ ⟨?_,S4 _ _ hl,S'.trans S4⟩;rw [et,eY,aP];simp [c]
variable {X:EC}
inductive cZ (K:aa) (C:ah) (A:CA) (Pt:ah) (vs:List V) (H:Hp) (Q:VK) (E:XK):Prop
 | mk (a:_) (n T:Nat) (ts as R t:_) (u:Ti):vs=[.ref a.q,.ref t]->wD K C A->LV C A H a n T ts as R->n<=60->T<=10->(∀ j,2^(j+1)<=n->j<=T)->Lv n T ts R->Jn ts R->u∈ts->H t=some (.tup [.int u.x,.int u.y])->ts.length<64->oJ Pt H->(∀ (q:ah) (us:List Tt) (ts':List Ti) (as':Nat->List ah) (R':Nat->Nat->List Int) (H':Hp),H q=none->H' q=some (.lst (us.map tR))->(∀ v∈us,Ig H' v)->us.length<=1000->LV C A H' a n T ts' as' R'->Lv n T ts' R'->Jn ts' R'->ts'.map Ti.key=(ts.filter λv=>decide (v.key≠u.key)).map Ti.key->oJ Pt H'->Fm (Pt::fp a) H H'->Q (.ref q) H')->cZ K C A Pt vs H Q E
theorem Dh:Rn (cZ K C A Pt) (uV K C A (eN K C A) (eO K C A Pt)) ZM:=by
 rintro vs H Q E ⟨a,n,T,ts,as,R,t,u,rfl,ct,h,hn,hT10,hT,L,J,hu,ht,hlen,hP,k⟩;obtain ⟨l1,l2,l3⟩:=L.lt u hu;unfold uV;k_go;refine ⟨a.q,A.bE,a.dq,_,_,rfl,h.ob,ct.lc,ct.l1,Ub,?_⟩;lk;refine .inr ⟨a.d1,.int u.dj,rfl,.inr ⟨_,pk u.x u.y,t,.inl h.e1,rfl,ht,(i0 (f:=λt=>V.int t.dj) L.nd hu).symm⟩,?_⟩;k_go;refine ⟨a.q,A.bE,a.dq,_,_,rfl,h.ob,ct.lc,ct.l2,YA,?_⟩;lk;refine .inr ⟨a.d2,.bl u.wd,rfl,.inr ⟨_,pk u.x u.y,t,.inl h.e2,rfl,ht,(i0 (f:=λt=>V.bl t.wd) L.nd hu).symm⟩,?_⟩;k_in;refine ⟨a.q,a.dq,_,rfl,h.ob,ZT,?_⟩;lk;refine ⟨a,n,T,ts,as,R,t,u,rfl,ct,h,by lia,hu,L.nd,by lia,l2,by lia,l3,λhw i hi=>(L.ed i (by lia) _ _).mpr ⟨u,hu,hw,hi,.inl rfl⟩,ht,λas1 R1 H1 h1 eR F1=>?_⟩;have P1:=hP.fm h F1;have ht1:=F1 _ _ (h.yH ht) ht;lk;refine ⟨oq,λtr htr=>?_⟩;have S2:=bS.cc (o:=.lst []) htr;have g2:(upd H1 tr (.lst [])) tr=some (.lst []):=aD;have ntf:=h1.Dz htr
 have ntP:tr≠Pt:=λz=>by
  obtain ⟨ps,q⟩:=P1.tbl;rw [z,q] at htr;cases htr
 have ntL:a.L≠tr:=aJ h1.ls htr;have htr0:H tr=none:=F1.free ntf htr;generalize upd H1 tr (.lst [])=H2 at S2 g2;have h2:=h1.same S2;have P2:=P1.same S2;have ht2:=S2 _ _ ht1;have F2:Fm (Pt::fp a) H H2:=(F1.trans (Fm.of S2)).tail;generalize ef:(ts.filter λv=>decide (v.key≠u.key))=tf at h1 h2 k
 have hlf:tf.length<=ts.length:=by rw [← ef];exact dE _ _
 lk;unfold rG
 refine L3 (λZ H3=>∃ (ts1:List Ti) (as1:Nat->List ah) (R1:Nat->Nat->List Int) (us:List Tt) (lv:Int) (b:Bool),Z=[some (.ref a.q),some (.ref t),some (.int lv),some (.bl b),some (.ref tr)]/\LV C A H3 a n T ts1 as1 R1/\oJ Pt H3/\H3 tr=some (.lst (us.map tR))/\(∀ v∈us,Ig H3 v/\v.q∉tr::Pt::fp a)/\Fm (tr::Pt::fp a) H2 H3/\ts1.map Ti.key=tf.map Ti.key /\
  ((b=true/\∃ kk:Nat,lv=(kk:Int)-1/\Dn n T ts1 R1 u.x u.y kk/\us.length+kk<=T+1)\/b=false/\Lv n T ts1 R1/\Jn ts1 R1/\us.length<=T+1)) (λZ _=>match Z with|[_,_,some (.int lv),_,_]=>(lv+1).toNat|_=>0) ?_ ?_
 .refine ⟨tf,as1,R1,[],u.dj,u.wd,rfl,h2,P2,g2,(λv hv=>nomatch hv),Fm.refl,rfl,?_⟩
  cases hw:u.wd with
  | true =>
   rw [hw,if_pos rfl] at eR;subst eR
   exact .inl ⟨rfl,u.dj+1,by lia,ef▸L.drop J hu hw,by simp;lia⟩
  | false =>
   rw [hw,if_neg (by decide)] at eR;subst eR;obtain ⟨L',J'⟩:=L.adm J hu hw;exact .inr ⟨rfl,ef▸L',ef▸J',by simp⟩
 .rintro Z H3 ⟨ts1,as1,R1,us,lv,b,rfl,h3,P3,g3,u3,F3,hk,hc⟩;have fin:Lv n T ts1 R1->Jn ts1 R1->us.length<=T+1->Q (.ref tr) H3:=λL' J' hl=>k tr us ts1 as1 R1 H3 htr0 g3 (λv hv=>(u3 v hv).1) (by lia) h3 L' J' hk P3 (F2.skip F3 htr0);lk;refine ⟨_,rfl,?_⟩
  cases b with
  | false =>
   refine gI (gI ?_);lk
   rcases hc with ⟨z,_⟩|⟨_,L',J',hl⟩
   .cases z
   .exact fin L' J' hl
  | true =>
   refine jX ?_;lk
   obtain ⟨kk,rfl,D,hl⟩:∃ kk:Nat,lv=(kk:Int)-1/\Dn n T ts1 R1 u.x u.y kk/\us.length+kk<=T+1:=by
    rcases hc with ⟨_,h⟩|⟨z,_⟩
    .exact h
    .cases z
   refine wx (λc=>⟨_,Zu,?_⟩) λc=>?_
   .obtain ⟨m,rfl⟩:∃ m,kk=m+1:=⟨kk-1,by lia⟩
    rw [show ((m+1:Nat):Int)-1=(m:Int) by lia]
    have hl1:ts1.length=tf.length:=by have:=congrArg eW hk;simpa using this
    lk;refine ⟨.inl ⟨rfl,_,dh.of g3⟩,?_⟩;k_in;refine ⟨a.q,a.dq,_,rfl,h3.ob,ZT,?_⟩;lk
    have nt3:t∉tr::Pt::fp a:=by
     simp only [aq,not_or];exact ⟨fA ht2 g2,P2.ne ht2 (λ_ z=>nomatch z),h2.yH ht2⟩
    refine ⟨a,n,T,ts1,as1,R1,m,t,u.x,u.y,rfl,ct,h3,hn,hT,D,F3 _ _ nt3 ht2,by lia,P3,λts4 as4 R4 H4 v hp hq ok h4 P4 F4 hk4 hD=>?_⟩;have g4:H4 tr=some (.lst (us.map tR)):=F4 _ _ (by simp only [aq,not_or];exact ⟨ntP,ntf⟩) g3
    have nvq:v.q∉tr::Pt::fp a:=by
     simp only [aq,not_or];refine ⟨Ne.symm (aJ g3 hq),λz=>?_,h3.Dz hq⟩;obtain ⟨ps,q⟩:=P3.tbl;rw [z,q] at hq;cases hq
    lk;refine qY g4 (eL (m:=100) (by rw [af];lia)) ?_
    have ne:∀ {b:ah}{o:HO},H4 b=some o->(∀ xs,o≠.lst xs)->(upd H4 tr (.lst (us.map tR++[.ref v.p]))) b=some o:=λ{b o} e hno=>by rw [aE];exact e;rintro rfl;rw [g4] at e;cases e;exact hno _ rfl
    have g5:(upd H4 tr (.lst (us.map tR++[.ref v.p]))) tr=some (.lst ((us++[v]).map tR)):=by rw [aD,aP];rfl
    have h5:LV C A (upd H4 tr (.lst (us.map tR++[.ref v.p]))) a n T ts4 as4 R4:=h4.app g4 (by intro i r e;cases us<;>cases e) ntf ntL;have P5:oJ Pt (upd H4 tr (.lst (us.map tR++[.ref v.p]))):=P4.keep λb o _ h2 _ _ e=>ne e h2
    have ok5:Ig (upd H4 tr (.lst (us.map tR++[.ref v.p]))) v:=⟨ne ok.1 (λ_ z=>nomatch z),by rw [aE λz=>nvq (by rw [z];exact ar)];exact ok.2⟩
    have u5:∀ w∈us,Ig (upd H4 tr (.lst (us.map tR++[.ref v.p]))) w:=λw hw=>by
     obtain ⟨⟨o1,o2⟩,o3⟩:=u3 w hw
     have n1:w.p∉Pt::fp a:=by simp only [aq,not_or];exact ⟨P3.ne o1 (λ_ z=>nomatch z),h3.yH o1⟩
     refine ⟨ne (F4 _ _ n1 o1) (λ_ z=>nomatch z),?_⟩;rw [aE λz=>o3 (by rw [z];exact ar)];exact F4 _ _ (λz=>o3 (ag _ z)) o2
    have F5:Fm (tr::Pt::fp a) H2 (upd H4 tr (.lst (us.map tR++[.ref v.p]))):=(F3.trans F4.tail).trans (Fm.upd ar);generalize upd H4 tr (.lst (us.map tR++[.ref v.p]))=H5 at g5 h5 P5 ok5 u5 F5 ne;lk;refine nR (dh.of g5) (v:=.ref v.p) ?_ ?_
    .rw [aP];exact UP _ _
    refine kY (mX.of ok5.1) (fE (j:=3) rfl rfl) ?_;lk;refine ⟨⟨ts4,as4,R4,us++[v],(m:Int)-1,decide (v.f=.non),rfl,h5,P5,g5,λw hw=>?_,F5,hk4.trans hk,?_⟩,?_⟩
    .rcases aT.mp hw with hw|hw
     .exact ⟨u5 w hw,(u3 w hw).2⟩
     .rw [aC.mp hw];exact ⟨ok5,nvq⟩
    .rcases hD with ⟨e,D4⟩|⟨e,L4,J4⟩
     .exact .inl ⟨decide_eq_true e,m,rfl,D4,by simp;lia⟩
     .exact .inr ⟨decide_eq_false e,L4,J4,by simp;lia⟩
    .show ((m:Int)-1+1).toNat<((m:Int)+1).toNat
     lia
   .lk
    have:kk=0:=by lia
    subst this;exact fin D.lv D.done (by lia)
variable {X:EC}
theorem Kn {sp:Sp}{dvs:List V}{E:XK}{t:TA}{Z:L2.St}(h:t Z H λvs H1=>∀ x dx,H1 x=none->H1 dx=none->dx≠x->sp (.ref x::(vs++dvs)) (upd (upd H1 dx (.own x)) x (.ins C dx [])) (λv H2=>v=.non/\Q (.ref x) H2) E):El C sp dvs E t Z H Q:=h
def sG {Z:L2.St}(h:∀ p,H p=none->Q (.ref p) (upd H p (.dT []))):sf Z H Q:=h
theorem Top.small {n:Int}{j:Nat}(h:Top n j) (hn:n<=200):j<8:=by
 rcases h.1 with z|z
 .lia
 .by_cases c:j<8
  .exact c
  .have:(2:Int)^8<=2^j:=by
    have e:(2:Int)^j=2^(j-8)*2^8:=by rw [← Int.pow_add];congr 1;lia
    have h1:(1:Int)<=2^(j-8):=MU (j-8);rw [e];have:=Int.mul_le_mul_of_nonneg_right h1 (show (0:Int)<=2^8 by decide);lia
   have e8:(2:Int)^8=256:=by decide
   lia
theorem WA.out {c:ah}{as:List ah}{R:Nat->List Int}{o:HO}(W:WA C H p dx l n as R) (h1:p≠c) (h2:l≠c) (h3:∀ a∈as,a≠c):WA C (upd H c o) p dx l n as R :=
 ⟨by rw [aE h1];exact W.ob,by rw [aE h2];exact W.rl,W.len,λi a h=>by rw [aE (h3 a (aM h))];exact W.at_ i a h,W.ne⟩
inductive bR (K:aa) (C:ah) (A:CA) (vs:List V) (H:Hp) (Q:VK) (E:XK):Prop
 | mk (q dq:_) (n:Nat):vs=[.ref q,.int n]->H q=some (.ins A.bE dq [])->wD K C A->1<=n->n<=200->(∀ (a:AL) (T:Nat) (as:Nat->List ah) (H':Hp),a.q=q->a.dq=dq->LV C A H' a n T [] as (λ_ i=>[(i:Int)])->Top n T->bf q H H'->(∀ b∈a.L::fp a,H b=none)->Q .non H')->bR K C A vs H Q E
theorem wF:Rn (bR K C A) (pJ K C A (gE K C) (sA K C)) rh:=by
 rintro vs H Q E ⟨q,dq,n,rfl,hq,ct,hn1,hn2,k⟩;unfold pJ;k_ne;refine nh (sG λd1 hd1=>?_);lk;have nq1:q≠d1:=aJ hq hd1;refine ⟨q,A.bE,dq,[],rfl,by rw [aE nq1];exact hq,ct.lc,ct.l1,by decide,?_⟩;have g1:(upd (upd H d1 (.dT [])) q (.ins A.bE dq (eT "level_of" (.ref d1) []))) q=some (.ins A.bE dq [("level_of",.ref d1)]):=aD
 have e1:(upd (upd H d1 (.dT [])) q (.ins A.bE dq (eT "level_of" (.ref d1) []))) d1=some (.dT []):=by rw [aE (Ne.symm nq1)];exact aD
 have B1:bf q H (upd (upd H d1 (.dT [])) q (.ins A.bE dq (eT "level_of" (.ref d1) []))):=λb o e hb=>by rw [aE hb,aE (aJ e hd1)];exact e
 generalize upd (upd H d1 (.dT [])) q (.ins A.bE dq (eT "level_of" (.ref d1) []))=H1 at g1 e1 B1;dsimp only;k_ne;refine nh (sG λd2 hd2=>?_);lk;have nq2:q≠d2:=aJ g1 hd2;refine ⟨q,A.bE,dq,_,rfl,by rw [aE nq2];exact g1,ct.lc,ct.l2,by show 1<1000;decide,?_⟩;rw [fg (by decide +kernel)];have g2:(upd (upd H1 d2 (.dT [])) q (.ins A.bE dq (("level_of",.ref d1)::eT "wooden" (.ref d2) []))) q=some (.ins A.bE dq [("level_of",.ref d1),("wooden",.ref d2)]):=aD
 have e2:(upd (upd H1 d2 (.dT [])) q (.ins A.bE dq (("level_of",.ref d1)::eT "wooden" (.ref d2) []))) d2=some (.dT []):=by rw [aE (Ne.symm nq2)];exact aD
 have B2:bf q H1 (upd (upd H1 d2 (.dT [])) q (.ins A.bE dq (("level_of",.ref d1)::eT "wooden" (.ref d2) []))):=λb o e hb=>by rw [aE hb,aE (aJ e hd2)];exact e
 have Rk:d1≠d2:=aJ e1 hd2;generalize upd (upd H1 d2 (.dT [])) q (.ins A.bE dq (("level_of",.ref d1)::eT "wooden" (.ref d2) []))=H2 at g2 e2 B2;dsimp only;k_ne;refine nh (sG λd3 hd3=>?_);lk;have nq3:q≠d3:=aJ g2 hd3;refine ⟨q,A.bE,dq,_,rfl,by rw [aE nq3];exact g2,ct.lc,ct.l3,by show 2<1000;decide,?_⟩;rw [fg (by decide +kernel),fg (by decide +kernel)];have g3:(upd (upd H2 d3 (.dT [])) q (.ins A.bE dq (("level_of",.ref d1)::("wooden",.ref d2)::eT "weight_of" (.ref d3) []))) q=some (.ins A.bE dq [("level_of",.ref d1),("wooden",.ref d2),("weight_of",.ref d3)]):=aD
 have e3:(upd (upd H2 d3 (.dT [])) q (.ins A.bE dq (("level_of",.ref d1)::("wooden",.ref d2)::eT "weight_of" (.ref d3) []))) d3=some (.dT []):=by rw [aE (Ne.symm nq3)];exact aD
 have B3:bf q H2 (upd (upd H2 d3 (.dT [])) q (.ins A.bE dq (("level_of",.ref d1)::("wooden",.ref d2)::eT "weight_of" (.ref d3) []))):=λb o e hb=>by rw [aE hb,aE (aJ e hd3)];exact e
 have WO:d2≠d3:=aJ e2 hd3;have Ue:d1≠d3:=aJ (B2 _ _ e1 (Ne.symm nq1)) hd3;generalize upd (upd H2 d3 (.dT [])) q (.ins A.bE dq (("level_of",.ref d1)::("wooden",.ref d2)::eT "weight_of" (.ref d3) []))=H3 at g3 e3 B3;have B:=(B1.trans B2).trans B3;have f1:=B3 _ _ (B2 _ _ e1 (Ne.symm nq1)) (Ne.symm nq1);have f2:=B3 _ _ e2 (Ne.symm nq2)
 have fr:∀ {b:ah},b≠q->H3 b=none->H b=none:=λ{b} hb e=>by
  cases z:H b with
  | none=>rfl
  | some o=>rw [B _ _ z hb] at e;cases e
 have fr2:∀ {b:ah},b≠q->H2 b=none->H b=none:=λ{b} hb e=>by
  cases z:H b with
  | none=>rfl
  | some o=>rw [(B1.trans B2) _ _ z hb] at e;cases e
 have fr1:∀ {b:ah},b≠q->H1 b=none->H b=none:=λ{b} hb e=>by
  cases z:H b with
  | none=>rfl
  | some o=>rw [B1 _ _ z hb] at e;cases e
 dsimp only;refine nh ?_;lk;refine ⟨n,rfl,λj hj=>?_⟩;have hj8:=hj.small (by lia);lk;refine ⟨by lia,by lia,λacc hacc=>?_⟩
 have e0:(((j:Int)+1)).toNat=j+1:=by lia
 rw [e0];refine oO (n:=j+1) (λt ys H4=>H4 acc=some (.lst ys)/\bS H3 H4/\∃ (ws:List (ah×ah×ah)) (as:Nat->List ah),ys=ws.map (λw=>V.ref w.1)/\ws.length=t/\(ws.map (·.2.2)).Nodup/\∀ (i:Nat) w,ws[i]?=some w->WA C H4 w.1 w.2.1 w.2.2 n (as i) (λi=>[(i:Int)])/\H3 w.2.2=none/\w.1≠acc/\w.2.2≠acc/\∀ b∈as i,b≠acc) (λZ=>∃ o,Z=[o,some (.int n)]) ⟨aD,bS.cc hacc,[],λ_=>[],rfl,rfl,jr,λi w hw=>nomatch hw⟩ ⟨_,rfl⟩ ?_ ?_ ?_ ?_
 .rintro t ys H4 ⟨h,_⟩;exact h
 .rintro ys H4 ⟨g4,S4,ws,as,rfl,hl,nd,hw⟩;refine ⟨aB _,?_⟩;lk;refine ⟨q,A.bE,dq,_,rfl,S4 _ _ g3,ct.lc,ct.l4,by show 3<1000;decide,?_⟩;rw [fg (by decide +kernel),fg (by decide +kernel),fg (by decide +kernel)]
  have naq:acc≠q:=λz=>by rw [z,g3] at hacc;cases hacc
  have hb:bf q H4 (upd H4 q (.ins A.bE dq (("level_of",.ref d1)::("wooden",.ref d2)::("weight_of",.ref d3)::eT "woods" (.ref acc) []))):=bf.upd
  have nl:∀ {b:ah}{o:HO},H4 b=some o->(∀ x y z,o≠.ins x y z)->b≠q:=λ{b o} e hno z=>by rw [z,S4 _ _ g3] at e;cases e;exact hno _ _ _ rfl
  refine k ⟨q,dq,d1,d2,d3,acc,ws,λ_ _=>0⟩ j as _ rfl rfl ⟨aD,hb _ _ (S4 _ _ f1) (Ne.symm nq1),hb _ _ (S4 _ _ f2) (Ne.symm nq2),hb _ _ (S4 _ _ e3) (Ne.symm nq3),hb _ _ g4 naq,hl,λi w hi=>?_,λ_ _=>Wd.start n,hn1,Rk,Ue,WO,nd,λw hm=>?_⟩ hj (λb o e hne=>hb _ _ (S4 _ _ (B _ _ e hne)) hne) λb hb=>?_
  .obtain ⟨W,_⟩:=hw i w hi;refine W.out (λz=>?_) (nl W.rl (λ_ _ _ z=>nomatch z)) λa ha=>?_
   .have:=W.ob;rw [z,S4 _ _ g3] at this;cases this
   .obtain ⟨i,hi⟩:=bN.mp ha;exact nl (W.at_ i a hi) (λ_ _ _ z=>nomatch z)
  .obtain ⟨i,hi⟩:=bN.mp hm;exact Ne.symm (hw i w hi).2.2.2.1
  .simp only [fp,aq,bo] at hb
   rcases hb with rfl|rfl|rfl|rfl|⟨w,hm,rfl⟩
   .exact fr naq hacc
   .exact hd1
   .exact fr1 (Ne.symm nq2) hd2
   .exact fr2 (Ne.symm nq3) hd3
   .obtain ⟨i,hi⟩:=bN.mp hm;obtain ⟨W,h3,_⟩:=hw i w hi;exact fr (nl W.rl (λ_ _ _ z=>nomatch z)) h3
 .rintro t ys H4 ht _;exact ht
 .rintro t ys σ' H4 x H5 ht ⟨g4,S4,ws,as,rfl,hl,nd,hw⟩ ⟨o,rfl⟩ ⟨eH,ex⟩;subst eH ex;lk;refine jX ?_;refine Kn ?_;lk;intro xw dxw hx hdx hne
  have T0:bS H5 (upd (upd H5 dxw (.own xw)) xw (.ins C dxw [])):=λb o e=>by rw [aE (aJ e hx),aE (aJ e hdx)];exact e
  refine ⟨xw,dxw,n,rfl,aD,ct.w,by lia,λl bs H6 W hl6 B6=>⟨rfl,?_⟩⟩;have T:bS H5 H6:=λb o e=>B6 _ _ (T0 _ _ e) (aJ e hx);have hl5:=T0.free hl6;have nxa:xw≠acc:=Ne.symm (aJ g4 hx);have nla:l≠acc:=Ne.symm (aJ g4 hl5)
  have naa:∀ a∈bs,a≠acc:=λa ha z=>by
   obtain ⟨i,hi⟩:=bN.mp ha;have h1:=W.at_ i a hi;rw [z,T _ _ g4] at h1;cases ws<;>cases h1
  have SA:bS H3 (upd H6 acc (.lst (ws.map (λw=>V.ref w.1)++[.ref xw]))):=λb o e=>by rw [aE (aJ e hacc)];exact T _ _ (S4 _ _ e)
  refine ⟨T _ _ g4,eL (m:=100) (by rw [af];lia),lN.mk' ht ⟨_,rfl⟩ ⟨aD,SA,ws++[(xw,dxw,l)],(λi=>if i=t then bs else as i),by rw [aP];rfl,by rw [br,hl];rfl,?_,λi w hi=>?_⟩⟩
  .rw [aP,fu];refine ⟨nd,by simp,λp hp q hq e=>?_⟩;obtain ⟨w,hm,rfl⟩:=bo.mp hp;obtain ⟨i,hi⟩:=bN.mp hm;have:=(hw i w hi).1.rl;rw [qS,aC] at hq;rw [e.trans hq,hl5] at this;cases this
  .by_cases c:i=t
   .subst c;rw [← hl,eX (aB _),Nat.sub_self] at hi;cases hi;dsimp only;rw [if_pos rfl];exact ⟨W.out nxa nla naa,S4.free hl5,nxa,nla,naa⟩
   .have hi':i<t:=by
     have:=(av.mp hi).1;rw [br,hl] at this;simp at this;lia
    rw [gO (by lia)] at hi;dsimp only;rw [if_neg c];obtain ⟨W',m1,m2,m3,m4⟩:=hw i w hi;exact ⟨(W'.same T).out m2 m3 m4,m1,m2,m3,m4⟩
variable {X:EC}
theorem zX {ta tv:TE}{rd:V->V->Hp->VK->Prop}{f:bq}{D:r9}{Z:L2.St}(h:ta Z H λx H1=>∃ a C dx fs v,x=.ref a/\H1 a=some (.ins C dx fs)/\GC K C/\eI K C f/\fs.lookup f=some v /\
 tv Z H1 λy H2=>rd v y H2 λz H3=>∃ dx' fs',H3 a=some (.ins C dx' fs')/\fs'.length<1000/\D.nx Z (upd H3 a (.ins C dx' (eT f z fs')))):oN K ta tv rd f D Z H:=h
def fK (n:Nat) (q w:ah) (c1 c2 c3 c4:Int):List (bq×V):=eT "lost" (.int c4) (eT "risen" (.int c3) (eT "looked" (.int c2) (eT "came" (.int c1) (eT "wood" (.ref w) (eT "levels" (.ref q) (eT "n" (.int n) []))))))
section
variable {q w:ah}{c1 c2 c3 c4 c:Int}
def V7 {f:bq}{v:V}:eT f v []=[(f,v)]:=rfl
theorem n0:fK n q w c1 c2 c3 c4=([("n",.int n),("levels",.ref q),("wood",.ref w),("came",.int c1),("looked",.int c2),("risen",.int c3),("lost",.int c4)]:List (bq×V)):=by
 unfold fK
 repeat (first|rw [V7]|rw [fg (by decide +kernel)])
def fK1:(fK n q w c1 c2 c3 c4).lookup ("n":bq)=some (.int n):=by rw [n0];exact vc
def ZV:(fK n q w c1 c2 c3 c4).lookup ("levels":bq)=some (.ref q):=by rw [n0,fY (by decide +kernel)];exact vc
def fK3:(fK n q w c1 c2 c3 c4).lookup ("wood":bq)=some (.ref w):=by rw [n0,fY (by decide +kernel),fY (by decide +kernel)];exact vc
def fK4:(fK n q w c1 c2 c3 c4).lookup ("came":bq)=some (.int c1):=by rw [n0,fY (by decide +kernel),fY (by decide +kernel),fY (by decide +kernel)];exact vc
def fK5:(fK n q w c1 c2 c3 c4).lookup ("looked":bq)=some (.int c2):=by rw [n0,fY (by decide +kernel),fY (by decide +kernel),fY (by decide +kernel),fY (by decide +kernel)];exact vc
def fK6:(fK n q w c1 c2 c3 c4).lookup ("risen":bq)=some (.int c3):=by rw [n0,fY (by decide +kernel),fY (by decide +kernel),fY (by decide +kernel),fY (by decide +kernel),fY (by decide +kernel)];exact vc
theorem fK7:(fK n q w c1 c2 c3 c4).lookup ("lost":bq)=some (.int c4):=by rw [n0,fY (by decide +kernel),fY (by decide +kernel),fY (by decide +kernel),fY (by decide +kernel),fY (by decide +kernel),fY (by decide +kernel)];exact vc
theorem Ko {m:bq}(h1:¬ m="n":=by decide +kernel) (h2:¬ m="levels":=by decide +kernel) (h3:¬ m="wood":=by decide +kernel) (h4:¬ m="came":=by decide +kernel) (h5:¬ m="looked":=by decide +kernel) (h6:¬ m="risen":=by decide +kernel) (h7:¬ m="lost":=by decide +kernel):(fK n q w c1 c2 c3 c4).lookup m=none:=by rw [n0,fY h1,fY h2,fY h3,fY h4,fY h5,fY h6,fY h7];rfl
def fKl:(fK n q w c1 c2 c3 c4).length<1000:=by rw [n0];show 7<1000;decide
def fKp4:eT "came" (.int c) (fK n q w c1 c2 c3 c4)=fK n q w c c2 c3 c4:=by rw [n0,n0,fg (by decide +kernel),fg (by decide +kernel),fg (by decide +kernel),zW]
def fKp5:eT "looked" (.int c) (fK n q w c1 c2 c3 c4)=fK n q w c1 c c3 c4:=by rw [n0,n0,fg (by decide +kernel),fg (by decide +kernel),fg (by decide +kernel),fg (by decide +kernel),zW]
def fKp6:eT "risen" (.int c) (fK n q w c1 c2 c3 c4)=fK n q w c1 c2 c c4:=by rw [n0,n0,fg (by decide +kernel),fg (by decide +kernel),fg (by decide +kernel),fg (by decide +kernel),fg (by decide +kernel),zW]
theorem fKp7:eT "lost" (.int c) (fK n q w c1 c2 c3 c4)=fK n q w c1 c2 c3 c:=by rw [n0,n0,fg (by decide +kernel),fg (by decide +kernel),fg (by decide +kernel),fg (by decide +kernel),fg (by decide +kernel),fg (by decide +kernel),zW]
end
def Top.lo (h:Top n T):2^(T+1)<=n\/T=0:=by
 rcases h.1 with z|z
 .exact .inr z
 .left
  have:((2^(T+1):Nat):Int)=2*(2:Int)^T:=by rw [T8,Int.natCast_mul,Int.natCast_pow];exact Int.mul_comm _ _
  lia
def Top.hi (h:Top n T):∀ j,2^(j+1)<=n->j<=T:=λj hj=>by
 have h2:=h.2
 by_cases c:j<=T
 .exact c
 .have h3:2^(T+2)<=2^(j+1):=AO (by decide) (by lia)
  have:((2^(T+2):Nat):Int)=4*(2:Int)^T:=by push_cast;rw [xi,xi];lia
  lia
theorem LV.inst {c d:ah}{fs:List (bq×V)}{o:HO}(h:LV C A H a n T ts as R) (hp:H p=some (.ins c d fs)) (h1:fs.lookup ("rows":bq)=none) (h2:fs.lookup ("woods":bq)=none):LV C A (upd H p o) a n T ts as R :=
 h.keep (X:=[p]) (Fm.upd ar) (λx f e _ hx hm=>by
  rw [aC.mp hm] at e hx
  rcases hx with z|⟨w,hw,z⟩
  .have:=h.ob;rw [← z,hp] at this;cases this;rw [fL4] at h2;cases h2
  .obtain ⟨i,_,hi⟩:=h.at hw;have:=(h.wa i w hi).ob;rw [← z,hp] at this;cases this
   rw [iR] at h1;cases h1) (λb hb hm=>h.outI hp (aC.mp hm▸hb)) (λhm=>by
   have:=h.ls
   rw [aC.mp hm,hp] at this;cases this) λb r _ e hm=>by rw [aC.mp hm,hp] at e;cases e
structure KP (C:ah) (A:CA) (H:Hp) (p dx:ah) (a:AL) (n T:Nat) (ts:List Ti) (as:Nat->List ah) (R:Nat->Nat->List Int):Prop where
 ob:∃ (w:ah×ah×ah) (c1 c2 c3 c4:Int),a.ws[0]?=some w/\H p=some (.ins A.aH dx (fK n a.q w.1 c1 c2 c3 c4))
 lv:LV C A H a n T ts as R
 iv:Lv n T ts R
 jn:Jn ts R
 tp:Top n T
def KP.same (h:KP C A H p dx a n T ts as R) (S:bS H H'):KP C A H' p dx a n T ts as R:=by
 obtain ⟨w,c1,c2,c3,c4,hw,hp⟩:=h.ob;exact ⟨⟨w,c1,c2,c3,c4,hw,S _ _ hp⟩,h.lv.same S,h.iv,h.jn,h.tp⟩
structure KS (C:ah) (A:CA) (a:AL) (n T:Nat) (as:Nat->List ah) (p dx:ah) (H0:Hp) (m:Nat) (fs:List (bq×V)) (H:Hp):Prop where
 g:H p=some (.ins A.aH dx fs)
 lv:LV C A H a n T [] as (λ_ i=>[(i:Int)])
 r:fs.lookup ("rows":bq)=none
 w:fs.lookup ("woods":bq)=none
 len:fs.length<=m
 b:bf p H0 H
theorem Fs (f:bq) (v:V):∀ fs:List (bq×V),(eT f v fs).length<=fs.length+1
 | []=>aB _
 | (g,x)::r=>by
  by_cases c:g=f
  .subst c;rw [zW];exact ij _
  .rw [fg c];exact jH (Fs f v r)
theorem KS.put {H0:Hp}{m:Nat}{fs:List (bq×V)}(s:KS C A a n T as p dx H0 m fs H) (f:bq) (v:V) (h1:¬ ("rows":bq)=f:=by decide +kernel) (h2:¬ ("woods":bq)=f:=by decide +kernel):KS C A a n T as p dx H0 (m+1) (eT f v fs) (upd H p (.ins A.aH dx (eT f v fs))) :=
 ⟨aD,s.lv.inst s.g s.r s.w,by rw [fU,if_neg h1];exact s.r,by rw [fU,if_neg h2];exact s.w,bF (Fs f v fs) (jH s.len),s.b.trans bf.upd⟩
inductive dg (K:aa) (C:ah) (A:CA) (vs:List V) (H:Hp) (Q:VK) (E:XK):Prop
 | mk (p dx:_) (n:Nat):vs=[.ref p,.int n]->H p=some (.ins A.aH dx [])->wD K C A->1<=n->n<=200->(∀ (a:AL) (T:Nat) (as:Nat->List ah) (H':Hp),KP C A H' p dx a n T [] as (λ_ i=>[(i:Int)])->bf p H H'->(∀ b∈a.L::fp a,H b=none)->Q .non H')->dg K C A vs H Q E
theorem zY:Rn (dg K C A) (rH K C A (bR K C A) (dv K C)) rh:=by
 rintro vs H Q E ⟨p,dx,n,rfl,hp,ct,hn1,hn2,k⟩;unfold rH;lk;refine .inl ⟨.int n,rfl,.int _,?_⟩;rw [V3 hn1 hn2];refine ⟨_,rfl,?_⟩;rw [if_neg (by simp)];lk;refine nh ?_;lk;refine ⟨p,A.aH,dx,[],rfl,hp,ct.kc,ct.k1,by decide,?_⟩;have g1:(upd H p (.ins A.aH dx (eT "n" (.int n) []))) p=some (.ins A.aH dx (eT "n" (.int n) [])):=aD;have B1:bf p H (upd H p (.ins A.aH dx (eT "n" (.int n) []))):=bf.upd;generalize upd H p (.ins A.aH dx (eT "n" (.int n) []))=H1 at g1 B1;dsimp only;k_ne;refine nh (Kn ?_);lk;intro q dq hq hdq hne
 have T0:bS H1 (upd (upd H1 dq (.own q)) q (.ins A.bE dq [])):=λb o e=>by rw [aE (aJ e hq),aE (aJ e hdq)];exact e
 refine ⟨q,dq,n,rfl,aD,ct,hn1,hn2,λa T as H2 ea ed L tp B2 fr=>⟨rfl,?_⟩⟩;subst ea ed;have T1:bS H1 H2:=λb o e=>B2 _ _ (T0 _ _ e) (aJ e hq);have g2:=T1 _ _ g1
 have s2:KS C A a n T as p dx H 1 (eT "n" (.int n) []) H2:=⟨g2,L,by rw [fU,if_neg (by decide +kernel)];rfl,by rw [fU,if_neg (by decide +kernel)];rfl,Fs _ _ _,λb o e hb=>T1 _ _ (B1 _ _ e hb)⟩
 have frH:∀ b∈a.L::fp a,H b=none:=λb hb=>by
  have:=fr b hb
  cases z:H b with
  | none=>rfl
  | some o =>
   by_cases c:b=p
   .have e:=T0 _ _ g1;rw [← c,this] at e;cases e
   .rw [T0 _ _ (B1 _ _ z c)] at this;cases this
 obtain ⟨w,hw,hwm⟩:=L.get (bA _);lk;refine ⟨p,A.aH,dx,_,rfl,s2.g,ct.kc,ct.k2,aY s2.len (by decide),?_⟩;have s3:=s2.put "levels" (.ref a.q);generalize upd H2 p (.ins A.aH dx (eT "levels" (.ref a.q) (eT "n" (.int n) [])))=H3 at s3;dsimp only;k_ne;refine nh ?_;lk;refine jv ?_;refine jv ?_;lk;refine ⟨p,A.aH,dx,_,_,rfl,s3.g,ct.kc,ct.k2,by rw [fU,if_pos rfl],?_⟩;refine ⟨a.q,A.bE,a.dq,_,_,rfl,s3.lv.ob,ct.lc,ct.l4,fL4,?_⟩;lk;refine nR (dh.of s3.lv.ls) (fE (j:=0) rfl (by rw [aG,hw];rfl)) ?_;lk;refine ⟨p,A.aH,dx,_,rfl,s3.g,ct.kc,ct.k3,aY s3.len (by decide),?_⟩;have s4:=s3.put "wood" (.ref w.1);generalize e4:eT ("wood":bq) (V.ref w.1) (eT "levels" (.ref a.q) (eT "n" (.int n) []))=f4 at s4;generalize upd H3 p (.ins A.aH dx f4)=H4 at s4;dsimp only;k_ne;refine nh ?_;lk;refine ⟨p,A.aH,dx,_,rfl,s4.g,ct.kc,ct.k4,aY s4.len (by decide),?_⟩;have s5:=s4.put "came" (.int 0);generalize e5:eT ("came":bq) (V.int 0) f4=f5 at s5;generalize upd H4 p (.ins A.aH dx f5)=H5 at s5;dsimp only;k_ne;refine nh ?_;lk;refine ⟨p,A.aH,dx,_,rfl,s5.g,ct.kc,ct.k5,aY s5.len (by decide),?_⟩;have s6:=s5.put "looked" (.int 0);generalize e6:eT ("looked":bq) (V.int 0) f5=f6 at s6;generalize upd H5 p (.ins A.aH dx f6)=H6 at s6;dsimp only;k_ne;refine nh ?_;lk;refine ⟨p,A.aH,dx,_,rfl,s6.g,ct.kc,ct.k6,aY s6.len (by decide),?_⟩;have s7:=s6.put "risen" (.int 0);generalize e7:eT ("risen":bq) (V.int 0) f6=f7 at s7;generalize upd H6 p (.ins A.aH dx f7)=H7 at s7;dsimp only;refine nh ?_;lk;refine ⟨p,A.aH,dx,_,rfl,s7.g,ct.kc,ct.k7,aY s7.len (by decide),?_⟩;have s8:=s7.put "lost" (.int 0);subst e4 e5 e6 e7;exact k a T as _ ⟨⟨w,0,0,0,0,hw,s8.g⟩,s8.lv,Lv.start n T tp.lo,(λt ht=>nomatch ht),tp⟩ s8.b frH
variable {X:EC}
def KP.p0 (h:KP C A H p dx a n T ts as R):∃ fs,H p=some (.ins A.aH dx fs):=let ⟨w,c1,c2,c3,c4,_,hp⟩:=h.ob;⟨_,hp⟩
inductive cb (K:aa) (C:ah) (A:CA) (vs:List V) (H:Hp) (Q:VK) (E:XK):Prop
 | mk (p dx a:_) (n T:Nat) (ts as R t:_) (x y:Nat):vs=[.ref p,.ref t,.int (a.g x y)]->wD K C A->KP C A H p dx a n T ts as R->n<=200->x<y->y<n->H t=some (.tup [.int x,.int y])->((x:Int),(y:Int))∉ts.map Ti.key->ts.length<99->(∀ b ts' as' R' H',KP C A H' p dx a n T ts' as' R'->ts'.map Ti.key=ts.map Ti.key++[((x:Int),(y:Int))]->Fm (p::fp a) H H'->Q (.bl b) H')->cb K C A vs H Q E
theorem Bw:Rn (cb K C A) (tq K C A (kZ K C A)) zl:=by
 rintro vs H Q E ⟨p,dx,a,n,T,ts,as,R,t,x,y,rfl,ct,h,hn,hxy,hy,ht,hk,hl,k⟩;obtain ⟨w,c1,c2,c3,c4,hw,hp⟩:=h.ob;unfold tq;lk;refine zX ?_;lk;refine ⟨p,A.aH,dx,_,_,rfl,hp,ct.kc,ct.k4,fK4,?_⟩;lk;refine ⟨c1,1,rfl,rfl,dx,_,hp,fKl,?_⟩;rw [fKp4];have L1:=h.lv.inst (o:=.ins A.aH dx (fK n a.q w.1 (c1+1) c2 c3 c4)) hp Ko Ko;have p1:(upd H p (.ins A.aH dx (fK n a.q w.1 (c1+1) c2 c3 c4))) p=_:=aD;have ht1:(upd H p (.ins A.aH dx (fK n a.q w.1 (c1+1) c2 c3 c4))) t=_:=(aE (fA ht hp)).trans ht;have F1:Fm (p::fp a) H (upd H p (.ins A.aH dx (fK n a.q w.1 (c1+1) c2 c3 c4))):=Fm.upd ar;generalize upd H p (.ins A.aH dx (fK n a.q w.1 (c1+1) c2 c3 c4))=H1 at L1 p1 ht1 F1;dsimp only;lk;refine m6 ?_;refine jv ?_;lk;refine ⟨p,A.aH,dx,_,_,rfl,p1,ct.kc,ct.k2,ZV,?_⟩;refine ⟨a.q,a.dq,_,rfl,L1.ob,ZT,?_⟩;lk;refine ⟨a,n,T,ts,as,R,t,x,y,rfl,ct,L1,hn,by lia,hy,ht1,h.iv.nd,hk,hl,λb ts' as' R' H2 L2 hc F2=>?_⟩
 have hkk:(ts++[(⟨x,y,0,false⟩:Ti)]).map Ti.key=ts.map Ti.key++[((x:Int),(y:Int))]:=by rw [aP];rfl
 have V:=h.iv.put hxy hy hk;have hu:(⟨x,y,0,false⟩:Ti)∈ts++[⟨x,y,0,false⟩]:=bx _ ar
 have ob:∃ (w:ah×ah×ah) (c1 c2 c3 c4:Int),a.ws[0]?=some w/\H2 p=some (.ins A.aH dx (fK n a.q w.1 c1 c2 c3 c4)):=⟨w,_,_,_,_,hw,F2 _ _ (L1.outI p1) p1⟩
 rcases hc with ⟨hj,rfl,rfl⟩|⟨hj,rfl,rfl⟩
 .refine k b _ as' _ H2 ⟨ob,L2,V,λu hu=>?_,h.tp⟩ hkk (F1.trans F2.tail)
  rcases aT.mp hu with q|q
  .exact h.jn u q
  .rw [aC.mp q];exact hj
 .have hap:∀ i,i<=(⟨x,y,0,false⟩:Ti).dj->(((⟨x,y,0,false⟩:Ti).y:Nat):Int)∉R i (⟨x,y,0,false⟩:Ti).x:=λi hi=>by rw [Xi.mp hi];exact hj
  have W0:=h.iv.wd 0 (bA _)
  have V':=V.adopt hu rfl hap λi hi=>by
   have e:=Xi.mp hi;subst e
   have l:=((W0.lk (a:=x) (b:=y) (by lia) hy hj).len (i:=x) (by lia))
   rw [(W0.Jo (x:=x) (by lia) hy hj (.inl (W0.me x (by lia)))).2] at l
   show ((R 0 x).length+(R 0 y).length+2)*2^0<=2*n
   lia
  refine k b _ as' _ H2 ⟨ob,L2,V',λu hu'=>?_,h.tp⟩ ((ko (f:=Ti.yQ) (λ_=>rfl) _).trans hkk) (F1.trans F2.tail)
  rcases (mn (f:=Ti.yQ) V.nd hu u).mp hu' with rfl|⟨q,_⟩
  .have e:NZ R 0 x y 0=lk (R 0) x y:=if_pos (aB _)
   show (y:Int)∈NZ R 0 x y 0 x
   rw [e];exact ((W0.Jo (x:=x) (by lia) hy hj (.inl (W0.me x (by lia)))).1 _).mpr (.inr (W0.me y hy))
  .rcases aT.mp q with q|q
   .obtain ⟨q1,q2,q3⟩:=h.iv.lt u q;exact V.NL hu hap q3 (by lia) _ (h.jn u q)
   .rename_i hne
    exact absurd (by rw [aC.mp q]) hne
inductive pQ (K:aa) (C:ah) (A:CA) (vs:List V) (H:Hp) (Q:VK) (E:XK):Prop
 | mk (p dx a:_) (n T:Nat) (ts as R:_) (x y:Nat):vs=[.ref p,.int x,.int y]->wD K C A->KP C A H p dx a n T ts as R->x<n->y<n->Q (.bl (decide ((y:Int)∈R 0 x))) H->pQ K C A vs H Q E
theorem Di:Rn (pQ K C A) (uW K C A (cR K C)) jb:=by
 rintro vs H Q E ⟨p,dx,a,n,T,ts,as,R,x,y,rfl,ct,h,hx,hy,k⟩;obtain ⟨w,c1,c2,c3,c4,hw,hp⟩:=h.ob;have W:=h.lv.wa 0 w hw;unfold uW;lk;refine m6 ?_;refine jv ?_;lk;refine ⟨p,A.aH,dx,_,_,rfl,hp,ct.kc,ct.k3,fK3,?_⟩;refine ⟨w.1,w.2.1,_,rfl,W.ob,ip _ _,?_⟩;lk;exact ⟨w.1,w.2.1,w.2.2,n,x,y,as 0,R 0,rfl,ct.w,W,h.iv.wd 0 (bA _),hx,hy,k⟩
inductive vf (K:aa) (C:ah) (A:CA) (vs:List V) (H:Hp) (Q:VK) (E:XK):Prop
 | mk (p dx a:_) (n T:Nat) (ts as R:_) (x y:Nat):vs=[.ref p,.int x,.int y]->wD K C A->KP C A H p dx a n T ts as R->n<=60->x<n->y<n->Q .non H->(∀ q H',bS H H'->Q (.ref q) H')->vf K C A vs H Q E
theorem Kq:Rn (vf K C A) (Cr K C A (nX K C)) jb:=by
 rintro vs H Q E ⟨p,dx,a,n,T,ts,as,R,x,y,rfl,ct,h,hn,hx,hy,k1,k2⟩;obtain ⟨w,c1,c2,c3,c4,hw,hp⟩:=h.ob;have W:=h.lv.wa 0 w hw;unfold Cr;lk;refine m6 ?_;refine jv ?_;lk;refine ⟨p,A.aH,dx,_,_,rfl,hp,ct.kc,ct.k3,fK3,?_⟩;refine ⟨w.1,w.2.1,_,rfl,W.ob,ip _ _,?_⟩;lk;exact ⟨w.1,w.2.1,w.2.2,n,x,y,as 0,R 0,rfl,ct.w,W,h.iv.wd 0 (bA _),hn,hx,hy,k1,k2⟩
inductive sH (K:aa) (C:ah) (A:CA) (vs:List V) (H:Hp) (Q:VK) (E:XK):Prop
 | mk (p dx a:_) (n T:Nat) (ts as R:_) (x:Nat):vs=[.ref p,.int x]->wD K C A->KP C A H p dx a n T ts as R->n<=60->x<n->(∀ q (ks:List Int),H q=none->ks.Pairwise (· < ·)->(∀ z,z∈ks↔z∈R 0 x)->Q (.ref q) (upd H q (.lst (ks.map V.int))))->sH K C A vs H Q E
theorem G6:Rn (sH K C A) (zN K C A (iw K C)) sk:=by
 rintro vs H Q E ⟨p,dx,a,n,T,ts,as,R,x,rfl,ct,h,hn,hx,k⟩;obtain ⟨w,c1,c2,c3,c4,hw,hp⟩:=h.ob;have W:=h.lv.wa 0 w hw;have D:=h.iv.wd 0 (bA _);have hlen:=D.len hx;unfold zN;lk;refine m6 ?_;refine jv ?_;lk;refine ⟨p,A.aH,dx,_,_,rfl,hp,ct.kc,ct.k3,fK3,?_⟩;refine ⟨w.1,w.2.1,_,rfl,W.ob,ip _ _,?_⟩;lk;exact ⟨w.1,w.2.1,w.2.2,n,x,as 0,R 0,rfl,ct.w,W,D,by lia,hx,k⟩
inductive vg (K:aa) (C:ah) (A:CA) (Pt:ah) (vs:List V) (H:Hp) (Q:VK) (E:XK):Prop
 | mk (p dx a:_) (n T:Nat) (ts as R:_) (x y:Nat):vs=[.ref p,.int x,.int y]->wD K C A->KP C A H p dx a n T ts as R->n<=60->x<n->y<n->x≠y->(((min x y:Nat):Int),((max x y:Nat):Int))∈ts.map Ti.key->ts.length<64->oJ Pt H->(∀ (q:ah) (xs:List V) ts' as' R' H',H' q=some (.lst xs)->KP C A H' p dx a n T ts' as' R'->ts'.map Ti.key=(ts.map Ti.key).filter (λk=>decide (k≠(((min x y:Nat):Int),((max x y:Nat):Int))))->oJ Pt H'->Fm (p::Pt::fp a) H H'->Q (.ref q) H')->vg K C A Pt vs H Q E
theorem Kr:Rn (vg K C A Pt) (Cq K C A (fo K C) (fh K C) (cZ K C A Pt) (iD K C) (fO K C) (cB K C A)) QM:=by
 rintro vs H Q E ⟨p,dx,a,n,T,ts,as,R,x,y,rfl,ct,h,hn,hx,hy,hxy,hk,hl,hP,k⟩;obtain ⟨w,c1,c2,c3,c4,hw,hp⟩:=h.ob;obtain ⟨u,hu,eu⟩:=bo.mp hk;obtain ⟨eu1,eu2⟩:=cW eu
 have eu1:u.x=min x y:=by lia
 have eu2:u.y=max x y:=by lia
 have nPp:p≠Pt:=hP.ne hp (λ_ z=>nomatch z);unfold Cq;k_go;refine ⟨p,A.aH,dx,_,_,rfl,hp,ct.kc,ct.k1,fK1,?_⟩;lk;refine jv ?_;refine jv ?_;lk;refine ⟨p,A.aH,dx,_,_,rfl,hp,ct.kc,ct.k2,ZV,?_⟩;refine ⟨a.q,A.bE,a.dq,_,_,rfl,h.lv.ob,ct.lc,ct.l1,Ub,?_⟩;lk;refine ⟨n,x,y,a.d1,kl ts,rfl,hx,hy,hxy,h.lv.e1,by rw [← eu1,← eu2,i0 h.iv.nd hu];rfl,λt ht=>?_⟩;rw [← eu1,← eu2];generalize eu_:upd _ t _=H1;obtain ⟨S1,g1⟩:=news eu_ ht;have L1:=h.lv.same S1;have p1:=S1 _ _ hp;lk;refine zX ?_;lk;refine ⟨p,A.aH,dx,_,_,rfl,p1,ct.kc,ct.k7,fK7,?_⟩;k_go;refine ⟨p,A.aH,dx,_,_,rfl,p1,ct.kc,ct.k1,fK1,?_⟩;lk;refine m6 ?_;refine jv ?_;lk;refine ⟨p,A.aH,dx,_,_,rfl,p1,ct.kc,ct.k2,ZV,?_⟩;refine ⟨a.q,a.dq,_,rfl,L1.ob,ZT,?_⟩;lk;refine ⟨a.q,a.dq,a.d1,a.d2,a.d3,a.L,t,kl ts,kw ts,u.x,u.y,_,_,rfl,ct,L1.ob,.inl L1.e1,.inl L1.e2,g1,i0 (f:=λt=>V.int t.dj) h.iv.nd hu,i0 (f:=λt=>V.bl t.wd) h.iv.nd hu,λr hr=>?_⟩;generalize eu_:upd _ r _=H2;obtain ⟨S2,g2⟩:=news eu_ hr;lk;refine ⟨oq,λl hl3=>?_⟩;generalize eu_:upd _ l _=H3;obtain ⟨S3,g3⟩:=news eu_ hl3;lk;refine ⟨n,l,[((u.dj:Int),r)],rfl,g3,λz hz=>by rw [aC.mp hz];exact ⟨_,_,_,S3 _ _ g2⟩,by simp,λc H4 _ S4=>?_⟩;have S14:bS H H4:=((S1.trans S2).trans S3).trans S4;have p4:=S14 _ _ hp;have L4:=h.lv.same S14;have t4:=S4 _ _ (S3 _ _ (S2 _ _ g1));refine ⟨c4,c,rfl,rfl,dx,_,p4,fKl,?_⟩;rw [fKp7];have L5:=L4.inst (o:=.ins A.aH dx (fK n a.q w.1 c1 c2 c3 (c4+c))) p4 Ko Ko;have p5:(upd H4 p (.ins A.aH dx (fK n a.q w.1 c1 c2 c3 (c4+c)))) p=_:=aD;have t5:(upd H4 p (.ins A.aH dx (fK n a.q w.1 c1 c2 c3 (c4+c)))) t=_:=(aE (fA t4 p4)).trans t4
 have P5:oJ Pt (upd H4 p (.ins A.aH dx (fK n a.q w.1 c1 c2 c3 (c4+c)))):=(hP.same S14).keep λb o _ _ h3 _ e=>by rw [aE];exact e;rintro rfl;rw [p4] at e;cases e;exact h3 _ _ _ rfl
 have F5:Fm (p::Pt::fp a) H (upd H4 p (.ins A.aH dx (fK n a.q w.1 c1 c2 c3 (c4+c)))):=(Fm.of S14).trans (Fm.upd ar);generalize upd H4 p (.ins A.aH dx (fK n a.q w.1 c1 c2 c3 (c4+c)))=H5 at L5 p5 t5 P5 F5;dsimp only;lk;refine m6 ?_;refine jv ?_;lk;refine ⟨p,A.aH,dx,_,_,rfl,p5,ct.kc,ct.k2,ZV,?_⟩;refine ⟨a.q,a.dq,_,rfl,L5.ob,ZT,?_⟩;lk;have hT8:=h.tp.small (by lia);refine ⟨a,n,T,ts,as,R,t,u,rfl,ct,L5,hn,by lia,h.tp.hi,h.iv,h.jn,hu,t5,hl,P5,λq us ts' as' R' H6 hq gq oks hlu L6 V6 J6 hk6 P6 F6=>?_⟩;have p6:=F6 _ _ (λz=>(aq.mp z).elim nPp (L5.outI p5)) p5;lk;refine zX ?_;lk;refine ⟨p,A.aH,dx,_,_,rfl,p6,ct.kc,ct.k5,fK5,?_⟩;lk;refine ⟨q,us,rfl,gq,oks,hlu,λc' H7 S7=>?_⟩;have p7:=S7 _ _ p6;refine ⟨c2,c',rfl,rfl,dx,_,p7,fKl,?_⟩;rw [fKp5];have L8:=(L6.same S7).inst (o:=.ins A.aH dx (fK n a.q w.1 c1 (c2+c') c3 (c4+c))) p7 Ko Ko;have p8:(upd H7 p (.ins A.aH dx (fK n a.q w.1 c1 (c2+c') c3 (c4+c)))) p=_:=aD
 have n8:∀ {b:ah}{o:HO},H7 b=some o->(∀ x y z,o≠.ins x y z)->(upd H7 p (.ins A.aH dx (fK n a.q w.1 c1 (c2+c') c3 (c4+c)))) b=some o:=λ{b o} e hno=>by rw [aE];exact e;rintro rfl;rw [p7] at e;cases e;exact hno _ _ _ rfl
 have F8:Fm (p::Pt::fp a) H (upd H7 p (.ins A.aH dx (fK n a.q w.1 c1 (c2+c') c3 (c4+c)))):=((F5.trans F6.tail).trans (Fm.of S7)).trans (Fm.upd ar);generalize upd H7 p (.ins A.aH dx (fK n a.q w.1 c1 (c2+c') c3 (c4+c)))=H8 at L8 p8 n8 F8;dsimp only;lk;refine zX ?_;lk;refine ⟨p,A.aH,dx,_,_,rfl,p8,ct.kc,ct.k6,fK6,?_⟩;lk;refine ⟨q,us,rfl,n8 (S7 _ _ gq) (λ_ _ _ z=>nomatch z),λv hv=>⟨n8 (S7 _ _ (oks v hv).1) (λ_ _ _ z=>nomatch z),n8 (S7 _ _ (oks v hv).2) (λ_ _ _ z=>nomatch z)⟩,hlu,λc'' H9 S9=>?_⟩;have p9:=S9 _ _ p8;refine ⟨c3,c'',rfl,rfl,dx,_,p9,fKl,?_⟩;rw [fKp6];dsimp only;lk;have q9:=S9 _ _ (n8 (S7 _ _ gq) (λ_ _ _ z=>nomatch z));refine k q _ ts' as' R' _ ((aE (fA q9 p9)).trans q9) ⟨⟨w,_,_,_,_,hw,aD⟩,(L8.same S9).inst p9 Ko Ko,V6,J6,h.tp⟩ ?_ ?_ ((F8.trans (Fm.of S9)).trans (Fm.upd ar))
 .rw [hk6,← eu1,← eu2,xj];rfl
 .refine ((P6.same S7).keep λb o _ _ h3 _ e=>S9 _ _ (n8 e h3)).keep λb o _ _ h3 _ e=>?_;rw [aE];exact e;rintro rfl;rw [p9] at e;cases e;exact h3 _ _ _ rfl
variable {X:EC}
def bL (K:aa) (C:ah) (X:EC):Sp:=λvs H Q E=>(∃ (n i:Nat),vs=[.int n,.int i]/\i<n/\Q .non H)\/∃ (n:Nat) (v:V),vs=[.int n,v]/\Th v/\iE n v=false/\E (.ref X.eF) none H
def tS:Ln (bL K C X) 2:=by
 rintro vs H Q E (⟨n,i,rfl,_⟩|⟨n,i,rfl,_⟩)<;>rfl
theorem tT:Rx (bL K C X) (λE=>gS K C X E (fV K C)) qg:=by
 rintro vs H Q E (⟨n,i,rfl,hi,k⟩|⟨n,v,rfl,hv,hp,k⟩)
 .unfold gS;lk;refine ⟨n,.int i,rfl,.int _,?_⟩;rw [MS hi];refine ⟨true,rfl,?_⟩;refine gI ?_;lk;exact k
 .unfold gS;lk;refine ⟨n,v,rfl,hv,?_⟩;rw [hp];refine ⟨false,rfl,?_⟩;refine jX ?_;exact k
def bM (K:aa) (C:ah) (X:EC):Sp:=λvs H Q E=>(∃ (n i j:Nat),vs=[.int n,.int i,.int j]/\i<n/\j<n/\Q .non H)\/∃ (n:Nat) (v u:V),vs=[.int n,v,u]/\Th v/\Th u/\(iE n v && iE n u)=false/\E (.ref X.eF) none H
def sI:Ln (bM K C X) 3:=by
 rintro vs H Q E (⟨n,i,j,rfl,_⟩|⟨n,i,j,rfl,_⟩)<;>rfl
theorem sJ:Rx (bM K C X) (λE=>gB K C E (bL K C X)) tP:=by
 rintro vs H Q E (⟨n,i,j,rfl,hi,hj,k⟩|⟨n,v,u,rfl,hv,hu,hp,k⟩)
 .unfold gB;lk;refine .inl ⟨n,i,rfl,hi,?_⟩;lk;refine .inl ⟨n,j,rfl,hj,?_⟩;exact k
 .unfold gB;lk
  cases h1:iE n v with
  | false=>exact .inr ⟨n,v,rfl,hv,h1,k⟩
  | true =>
   obtain ⟨i,hi,rfl⟩:=qm h1;refine .inl ⟨n,i,rfl,hi,?_⟩;lk;rw [h1,BU] at hp;exact .inr ⟨n,u,rfl,hu,hp,k⟩
def bV (K:aa) (C:ah) (X:EC):Sp:=λvs H Q E=>(∃ (n i j:Nat),vs=[.int n,.int i,.int j]/\i<n/\j<n/\i≠j/\Q .non H)\/(∃ (n:Nat) (v u:V),vs=[.int n,v,u]/\Th v/\Th u/\(iE n v && iE n u)=false/\E (.ref X.eF) none H) \/
 ∃ (n i:Nat),vs=[.int n,.int i,.int i]/\i<n/\E (.ref X.Alike) none H
def vh:Ln (bV K C X) 3:=by
 rintro vs H Q E (⟨n,i,j,rfl,_⟩|⟨n,i,j,rfl,_⟩|⟨n,i,rfl,_⟩)<;>rfl
theorem vi:Rx (bV K C X) (λE=>fR K C X E (bM K C X)) tP:=by
 rintro vs H Q E (⟨n,i,j,rfl,hi,hj,hij,k⟩|⟨n,v,u,rfl,hv,hu,hp,k⟩|⟨n,i,rfl,hi,k⟩)
 .unfold fR;lk;refine .inl ⟨n,i,j,rfl,hi,hj,?_⟩;lk;refine wx (λz=>absurd (j4.mp z) (by lia)) λ_=>?_;lk;exact k
 .unfold fR;lk;exact .inr ⟨n,v,u,rfl,hv,hu,hp,k⟩
 .unfold fR;lk;refine .inl ⟨n,i,i,rfl,hi,hi,?_⟩;lk;refine wx (λ_=>?_) λz=>absurd rfl z;exact k
def V8 (X:EC) (n:Nat) (kvs:List (List gn×V)) (v u:V) (put:Bool) (D:ah):Prop :=
 (D=X.eF/\Th v/\Th u/\(iE n v && iE n u)=false)\/(D=X.Alike/\∃ i:Nat,i<n/\v=.int i/\u=.int i) \/
 ∃ x y:Nat,v=.int x/\u=.int y/\x<n/\y<n/\x≠y/\(gH kvs (pk (min x y) (max x y))).isSome=put/\D=if put then X.yE else X.tH
def zZ (K:aa) (C:ah) (X:EC):Sp:=λvs H _ E=>∃ (n:Nat) (d D:ah) (kvs:List (List gn×V)) (v u:V),vs=[.int n,.ref d,v,u]/\H d=some (.dT kvs)/\V8 X n kvs v u true D/\∀ H',bS H H'->E (.ref D) none H'
theorem G7:Rx (zZ K C X) (λE=>oQ K C X E (bV K C X) (dN K C)) Mz:=by
 rintro vs H Q E ⟨n,d,D,kvs,v,u,rfl,hd,Cs,k⟩;have k0:=k H λ_ _ e=>e;unfold oQ;lk
 rcases Cs with ⟨rfl,hv,hu,hp⟩|⟨rfl,i,hi,rfl,rfl⟩|⟨x,y,rfl,rfl,hx,hy,hxy,hk,rfl⟩
 .exact .inr (.inl ⟨n,v,u,rfl,hv,hu,hp,k0⟩)
 .exact .inr (.inr ⟨n,i,rfl,hi,k0⟩)
 .refine .inl ⟨n,x,y,rfl,hx,hy,hxy,?_⟩;lk;refine ⟨x,y,rfl,λp hp=>?_⟩;lk;have S:=bS.cc (o:=.tup [.int (min x y:Nat),.int (max x y:Nat)]) hp;refine .inr ⟨d,_,rfl,wU.t (k:=pk (min x y) (max x y)) (S _ _ hd) aD,?_⟩;refine ⟨_,rfl,?_⟩;rw [show (if false=true then !(gH kvs (pk (min x y) (max x y))).isSome else (gH kvs (pk (min x y) (max x y))).isSome)=true from hk];exact jX (DO (k _ S))
def ff (K:aa) (C:ah) (X:EC):Sp:=λvs H _ E=>∃ (n:Nat) (d D:ah) (kvs:List (List gn×V)) (v u:V),vs=[.int n,.ref d,v,u]/\H d=some (.dT kvs)/\V8 X n kvs v u false D/\∀ H',bS H H'->E (.ref D) none H'
theorem yw:Rx (ff K C X) (λE=>jP K C X E (bV K C X) (dN K C)) Mz:=by
 rintro vs H Q E ⟨n,d,D,kvs,v,u,rfl,hd,Cs,k⟩;have k0:=k H λ_ _ e=>e;unfold jP;lk
 rcases Cs with ⟨rfl,hv,hu,hp⟩|⟨rfl,i,hi,rfl,rfl⟩|⟨x,y,rfl,rfl,hx,hy,hxy,hk,rfl⟩
 .exact .inr (.inl ⟨n,v,u,rfl,hv,hu,hp,k0⟩)
 .exact .inr (.inr ⟨n,i,rfl,hi,k0⟩)
 .refine .inl ⟨n,x,y,rfl,hx,hy,hxy,?_⟩;lk;refine ⟨x,y,rfl,λp hp=>?_⟩;lk;have S:=bS.cc (o:=.tup [.int (min x y:Nat),.int (max x y:Nat)]) hp;refine .inr ⟨d,_,rfl,wU.t (k:=pk (min x y) (max x y)) (S _ _ hd) aD,?_⟩;refine ⟨_,rfl,?_⟩;rw [show (if true=true then !(gH kvs (pk (min x y) (max x y))).isSome else (gH kvs (pk (min x y) (max x y))).isSome)=true from by rw [hk];rfl];exact jX (DO (k _ S))
def cw (K:aa) (C:ah) (X:EC):Sp:=λvs H _ E=>∃ (p dx l:ah) (n:Nat) (as:List ah) (R:Nat->List Int) (v u:V),vs=[.ref p,v,u]/\CT K C/\WA C H p dx l n as R/\Th v/\Th u/\(iE n v && iE n u)=false/\E (.ref X.eF) none H
def z3:Rx (cw K C X) (λE=>kr K C E (bM K C X)) jb:=by
 rintro vs H Q E ⟨p,dx,l,n,as,R,v,u,rfl,ct,W,hv,hu,hp,k⟩;unfold kr;k_go;refine ⟨p,C,dx,_,_,rfl,W.ob,ct.cl,ct.n,u9 _ _,?_⟩;lk;exact .inr ⟨n,v,u,rfl,hv,hu,hp,k⟩
def gM (K:aa) (C:ah) (X:EC):Sp:=cw K C X
def Ft:Ln (gM K C X) 3:=(by walk_at "l")
def Fv:Rx (gM K C X) (λE=>nG K C E (cw K C X) (iP K C)) jb:=by
 rintro vs H Q E ⟨p,dx,l,n,as,R,v,u,rfl,ct,W,hv,hu,hp,k⟩;unfold nG;k_in;refine ⟨p,dx,_,rfl,W.ob,ip _ _,?_⟩;lk;exact ⟨p,dx,l,n,as,R,v,u,rfl,ct,W,hv,hu,hp,k⟩
def fX (K:aa) (C:ah) (X:EC):Sp:=λvs H _ E=>∃ (p dx l:ah) (n:Nat) (as:List ah) (R:Nat->List Int) (v:V),vs=[.ref p,v]/\CT K C/\WA C H p dx l n as R/\Th v/\iE n v=false/\E (.ref X.eF) none H
def Bx:Rx (fX K C X) (λE=>lu K C E (bL K C X)) sk:=by
 rintro vs H Q E ⟨p,dx,l,n,as,R,v,rfl,ct,W,hv,hp,k⟩;unfold lu;k_go;refine ⟨p,C,dx,_,_,rfl,W.ob,ct.cl,ct.n,u9 _ _,?_⟩;lk;exact .inr ⟨n,v,rfl,hv,hp,k⟩
def V9 (H:Hp) (v:V):Prop:=Th v/\MT v=false\/∃ (a:ah) (xs:List V),v=.ref a/\H a=some (.lst xs)
def ji (K:aa) (C:ah) (A:CA) (X:EC):Sp:=λvs H _ E=>∃ (p:ah) (v:V),vs=[.ref p,v]/\V9 H v/\E (.ref X.kC) none H
theorem wG:Rx (ji K C A X) (λE=>jh K C A X E (bR K C A) (dv K C)) rh:=by
 rintro vs H Q E ⟨p,v,rfl,hc,k⟩;unfold jh;lk
 rcases hc with ⟨hv,hc⟩|⟨a,xs,rfl,ha⟩
 .refine .inl ⟨v,rfl,hv,?_⟩;rw [hc];exact ⟨_,rfl,jX (DO k)⟩
 .exact .inr ⟨a,xs,rfl,ha,_,rfl,jX (DO k)⟩
section
variable {X:EC}
def xF (K:aa) (C:ah) (A:CA) (X:EC):Sp:=λvs H _ E=>∃ (p dx:ah) (a:AL) (n T:Nat) (ts:List Ti) (as:Nat->List ah) (R:Nat->Nat->List Int) (v u:V) (D:ah),vs=[.ref p,v,u]/\wD K C A/\KP C A H p dx a n T ts as R/\V8 X n (kl ts) v u false D/\∀ H',bS H H'->E (.ref D) none H'
theorem Fw {s1 s2 s3 s4 s5:Sp}:Rx (xF K C A X) (λE=>nH K C A E (ff K C X) s1 s2 s3 s4 s5) QM:=by
 rintro vs H Q E ⟨p,dx,a,n,T,ts,as,R,v,u,D,rfl,ct,h,Cs,k⟩;obtain ⟨w,c1,c2,c3,c4,hw,hp⟩:=h.ob;unfold nH;k_go;refine ⟨p,A.aH,dx,_,_,rfl,hp,ct.kc,ct.k1,fK1,?_⟩;lk;refine jv ?_;refine jv ?_;lk;refine ⟨p,A.aH,dx,_,_,rfl,hp,ct.kc,ct.k2,ZV,?_⟩;refine ⟨a.q,A.bE,a.dq,_,_,rfl,h.lv.ob,ct.lc,ct.l1,Ub,?_⟩;lk;exact ⟨n,a.d1,D,kl ts,v,u,rfl,h.lv.e1,Cs,k⟩
def nj (K:aa) (C:ah) (A:CA) (X:EC):Sp:=λvs H _ E=>∃ (p dx:ah) (a:AL) (n T:Nat) (ts:List Ti) (as:Nat->List ah) (R:Nat->Nat->List Int) (v u:V),vs=[.ref p,v,u]/\wD K C A/\KP C A H p dx a n T ts as R/\Th v/\Th u/\(iE n v && iE n u)=false/\E (.ref X.eF) none H
theorem z4:Rx (nj K C A X) (λE=>kx K C A E (cw K C X)) jb:=by
 rintro vs H Q E ⟨p,dx,a,n,T,ts,as,R,v,u,rfl,ct,h,hv,hu,hpl,k⟩;obtain ⟨w,c1,c2,c3,c4,hw,hp⟩:=h.ob;have W:=h.lv.wa 0 w hw;unfold kx;lk;refine m6 ?_;refine jv ?_;lk;refine ⟨p,A.aH,dx,_,_,rfl,hp,ct.kc,ct.k3,fK3,?_⟩;refine ⟨w.1,w.2.1,_,rfl,W.ob,ip _ _,?_⟩;lk;exact ⟨w.1,w.2.1,w.2.2,n,as 0,R 0,v,u,rfl,ct.w,W,hv,hu,hpl,k⟩
def qJ (K:aa) (C:ah) (A:CA) (X:EC):Sp:=nj K C A X
def Fx:Ln (qJ K C A X) 3:=(by walk_at "l")
theorem Fy:Rx (qJ K C A X) (λE=>nI K C A E (gM K C X)) jb:=by
 rintro vs H Q E ⟨p,dx,a,n,T,ts,as,R,v,u,rfl,ct,h,hv,hu,hpl,k⟩;obtain ⟨w,c1,c2,c3,c4,hw,hp⟩:=h.ob;have W:=h.lv.wa 0 w hw;unfold nI;lk;refine m6 ?_;refine jv ?_;lk;refine ⟨p,A.aH,dx,_,_,rfl,hp,ct.kc,ct.k3,fK3,?_⟩;refine ⟨w.1,w.2.1,_,rfl,W.ob,ip _ _,?_⟩;lk;exact ⟨w.1,w.2.1,w.2.2,n,as 0,R 0,v,u,rfl,ct.w,W,hv,hu,hpl,k⟩
def vj (K:aa) (C:ah) (A:CA) (X:EC):Sp:=λvs H _ E=>∃ (p dx:ah) (a:AL) (n T:Nat) (ts:List Ti) (as:Nat->List ah) (R:Nat->Nat->List Int) (v:V),vs=[.ref p,v]/\wD K C A/\KP C A H p dx a n T ts as R/\Th v/\iE n v=false/\E (.ref X.eF) none H
theorem Dj:Rx (vj K C A X) (λE=>mB K C A E (fX K C X)) sk:=by
 rintro vs H Q E ⟨p,dx,a,n,T,ts,as,R,v,rfl,ct,h,hv,hpl,k⟩;obtain ⟨w,c1,c2,c3,c4,hw,hp⟩:=h.ob;have W:=h.lv.wa 0 w hw;unfold mB;lk;refine m6 ?_;refine jv ?_;lk;refine ⟨p,A.aH,dx,_,_,rfl,hp,ct.kc,ct.k3,fK3,?_⟩;refine ⟨w.1,w.2.1,_,rfl,W.ob,ip _ _,?_⟩;lk;exact ⟨w.1,w.2.1,w.2.2,n,as 0,R 0,v,rfl,ct.w,W,hv,hpl,k⟩
end
variable {X:EC}
theorem Fz {α β:Type} {f:α->β}{m l:List β}(h:m.Perm l):∀ us:List α,m=us.map f->∃ us':List α,us'.Perm us/\l=us'.map f:=by
 induction h with
 | nil=>exact λus e=>⟨us,.refl _,e⟩
 | cons x _ ih =>
  intro us e
  match us,e with
  | u::us,e =>
   obtain ⟨e1,e2⟩:=i4 e;obtain ⟨us',h1,h2⟩:=ih us e2
   exact ⟨u::us',h1.cons u,by rw [e1,h2];rfl⟩
 | swap x y l =>
  intro us e
  match us,e with
  | u::v::us,e =>
   obtain ⟨e1,e2⟩:=i4 e;obtain ⟨e2,e3⟩:=i4 e2
   exact ⟨v::u::us,.swap _ _ _,by rw [e1,e2,e3];rfl⟩
 | trans _ _ ih1 ih2 =>
  intro us e;obtain ⟨us1,h1,e1⟩:=ih1 us e;obtain ⟨us2,h2,e2⟩:=ih2 us1 e1;exact ⟨us2,h2.trans h1,e2⟩
def MW {l m:List Int}(h:l.Perm m):l.sum=m.sum:=by
 induction h with
 | nil=>rfl
 | cons x _ ih=>simp [ih]
 | swap x y l=>simp;lia
 | trans _ _ h1 h2=>rw [h1,h2]
def MX (H:Hp) (u:Ti×ah):Prop:=H u.2=some (.tup [.int u.1.x,.int u.1.y,.int u.1.dj,.bl u.1.wd])
def Wa (u:Ti×ah):V:=.ref u.2
inductive qK (K:aa) (C:ah) (A:CA) (vs:List V) (H:Hp) (Q:VK) (E:XK):Prop
 | mk (p dx a:_) (n T:Nat) (ts as R:_):vs=[.ref p]->wD K C A->KP C A H p dx a n T ts as R->ts.length<64->(∀ (q:ah) (us:List (Ti×ah)) (o:iW) (H':Hp),H q=none->H' q=some (.lst (us.map Wa))->(∀ u∈us,MX H' u)->(us.map (·.1)).Perm ts->H' a.d1=some (.frz o (.dT (kl ts)))->bf a.d1 H H'->Q (.ref q) H')->qK K C A vs H Q E
inductive gJ (K:aa) (C:ah) (A:CA) (vs:List V) (H:Hp) (Q:VK) (E:XK):Prop
 | mk (p dx a:_) (n T:Nat) (ts as R:_):vs=[.ref p]->wD K C A->KP C A H p dx a n T ts as R->ts.length<64->(∀ (q:ah) (us:List (Ti×ah)) (H':Hp),H q=none->H' q=some (.lst (us.map Wa))->(∀ u∈us,MX H' u)->(us.map (·.1)).Perm ts->bS H H'->Q (.ref q) H')->gJ K C A vs H Q E
theorem FA:∀ vs H Q E,gJ K C A vs H Q E->qK K C A vs H (Yj H Q) E:=by
 rintro vs H Q E ⟨p,dx,a,n,T,ts,as,R,rfl,ct,h,hl,k⟩;refine ⟨p,dx,a,n,T,ts,as,R,rfl,ct,h,hl,λq us o H' hq gq fl pm gd B=>.inr ⟨a.d1,o,kl ts,(λo' u' e=>by rw [h.lv.e1] at e;cases e),gd,?_⟩⟩;have hqd:q≠a.d1:=Ne.symm (aJ h.lv.e1 hq);refine k q us _ hq (by rw [aE hqd];exact gq) (λu hu=>(aE (fA (fl u hu) gd)).trans (fl u hu)) pm λb ob e=>?_
 by_cases hb:b=a.d1
 .subst hb;rw [aD,← h.lv.e1,e]
 .rw [aE hb];exact B _ _ e hb
theorem FB:Rn (qK K C A) (zO K C A (cB K C A)) oE:=by
 rintro vs H Q E ⟨p,dx,a,n,T,ts,as,R,rfl,ct,h,hl,k⟩;obtain ⟨w,c1,c2,c3,c4,hw,hp⟩:=h.ob;have hnd:=h.iv.nd;unfold zO;lk;refine Zx ?_;refine jv ?_;refine jv ?_;lk;refine ⟨p,A.aH,dx,_,_,rfl,hp,ct.kc,ct.k2,ZV,?_⟩;refine ⟨a.q,A.bE,a.dq,_,_,rfl,h.lv.ob,ct.lc,ct.l1,Ub,?_⟩;refine ⟨a.d1,kl ts,rfl,.inl ⟨h.lv.e1,λo=>?_⟩⟩;have g1:(upd H a.d1 (.frz o (.dT (kl ts)))) a.d1=some (.frz o (.dT (kl ts))):=aD;have B1:bf a.d1 H (upd H a.d1 (.frz o (.dT (kl ts)))):=bf.upd;generalize upd H a.d1 (.frz o (.dT (kl ts)))=H1 at g1 B1;have p1:=B1 _ _ hp (fA hp h.lv.e1);have q1:=B1 _ _ h.lv.ob (fA h.lv.ob h.lv.e1);have w1:=B1 _ _ h.lv.e2 (Ne.symm h.lv.Rk);intro acc hacc;refine oO (n:=ts.length) (λt ys H4=>H4 acc=some (.lst ys)/\bS H1 H4/\∃ us:List (Ti×ah),ys=us.map Wa/\us.map (·.1)=ts.take t/\∀ u∈us,MX H4 u) (λZ=>∃ o,Z=[o,some (.ref p)]) ⟨aD,bS.cc hacc,[],rfl,rfl,λz hz=>nomatch hz⟩ ⟨_,rfl⟩ ?_ ?_ ?_ ?_
 .rintro t ys H4 ⟨e,_⟩;exact e
 .rintro ys H4 ⟨g4,S4,us,rfl,hu,fl⟩;refine ⟨⟨by rw [sE];exact aB _,S4 _ _ g1⟩,?_⟩;rw [cg (aB _)] at hu
  have hul:us.length=ts.length:=by have:=congrArg eW hu;simpa using this
  lk;refine ⟨acc,us.map (λu=>([(u.1.x:Int),(u.1.y:Int),(u.1.dj:Int),b2i u.1.wd],u.2)),[false,false,true],rfl,by rw [bz];exact dh.of g4,λz hz=>?_,by rw [af];lia,λl zs' hl4 hperm _=>?_⟩
  .obtain ⟨u,hum,rfl⟩:=bo.mp hz;exact ⟨_,fl u hum,.int _ (.int _ (.int _ (.bl _ .nil)))⟩
  obtain ⟨us',hp',rfl⟩:=Fz hperm.symm us rfl
  have hlf:H l=none:=by
   cases z:H l with
   | none=>rfl
   | some ob =>
    by_cases hb:l=a.d1
    .rw [hb,S4 _ _ g1] at hl4;cases hl4
    .rw [S4 _ _ (B1 _ _ z hb)] at hl4;cases hl4
  have U:∀ {b:ah}{u:HO}{xs:List V},H4 b=some u->(upd H4 l (.lst xs)) b=some u:=λe=>by rw [aE (aJ e hl4)];exact e
  refine k l us' o _ hlf (by rw [aD,bz];rfl) (λu hum=>U (fl u (hp'.mem_iff.mp hum))) (by rw [← hu];exact hp'.map _) (U (S4 _ _ g1)) λb ob e hb=>U (S4 _ _ (B1 _ _ e hb))
 .rintro t ys H4 ht ⟨_,S4,_⟩;exact ⟨by rw [sE];exact ht,S4 _ _ g1⟩
 .rintro t ys σ' H4 x H5 ht ⟨g4,S4,us,rfl,hu,fl⟩ ⟨o',rfl⟩ ⟨eH,key,v,b,hk,ex,hb⟩;subst eH ex
  obtain ⟨u,hu',eu⟩:∃ u,ts[t]?=some u/\(pk u.x u.y,V.int u.dj)=(key,v):=by
   have hk:(ts.map λt=>(pk t.x t.y,V.int t.dj))[t]?=some (key,v):=hk;rw [aG] at hk;exact fZ.mp hk
  cases eu;have hum:=aM hu';lk;refine jX ?_;refine m6 ?_;refine jv ?_;lk;refine ⟨p,A.aH,dx,_,_,rfl,S4 _ _ p1,ct.kc,ct.k2,ZV,?_⟩;refine ⟨a.q,a.dq,_,rfl,S4 _ _ q1,ZT,?_⟩;lk;refine ⟨a.q,a.dq,a.d1,a.d2,a.d3,a.L,b,kl ts,kw ts,u.x,u.y,_,_,rfl,ct,S4 _ _ q1,.inr ⟨o,S4 _ _ g1⟩,.inl (S4 _ _ w1),hb,i0 (f:=λt=>V.int t.dj) hnd hum,i0 (f:=λt=>V.bl t.wd) hnd hum,λr hr=>?_⟩;generalize eu_:upd _ r _=H6;obtain ⟨T,gr⟩:=news eu_ hr
  have hul:us.length=t:=by
   have:=congrArg eW hu;rw [af,bO] at this;lia
  refine ⟨T _ _ g4,eL (m:=100) (by rw [af];lia),lN.mk' ht ⟨_,rfl⟩ ⟨aD,λb' ob e=>by rw [aE (aJ e hacc)];exact T _ _ (S4 _ _ e),us++[(u,r)],by simp [Wa],?_,λz hz'=>?_⟩⟩
  .rw [aP,hu,ft,hu'];rfl
  .have tn:∀ {z:Ti×ah},MX H6 z->MX (upd H6 acc (.lst (us.map Wa++[.ref r]))) z:=λ{z} e=>(aE (fA e (T _ _ g4))).trans e
   rcases aT.mp hz' with hz'|hz'
   .exact tn (T _ _ (fl z hz'))
   .rw [aC.mp hz'];exact tn gr
inductive fW (K:aa) (C:ah) (A:CA) (vs:List V) (H:Hp) (Q:VK) (E:XK):Prop
 | mk (p dx a:_) (n T:Nat) (ts as R w:_) (c1 c2 c3 c4:Int):vs=[.ref p]->wD K C A->KP C A H p dx a n T ts as R->H p=some (.ins A.aH dx (fK n a.q w c1 c2 c3 c4))->ts.length<64->(∀ (q:ah) (H':Hp),H q=none->H' q=some (.tup [.int c1,.int c2,.int c3,.int c4,.int (ts.map λt=>(T:Int)-t.dj).sum])->bS H H'->Q (.ref q) H')->fW K C A vs H Q E
theorem By:Rn (fW K C A) (tu K C A (fh K C) (gJ K C A)) oE:=by
 rintro vs H Q E ⟨p,dx,a,n,T,ts,as,R,w,c1,c2,c3,c4,rfl,ct,h,hp,hl,k⟩;unfold tu;k_go;refine ⟨p,A.aH,dx,_,_,rfl,hp,ct.kc,ct.k4,fK4,?_⟩;k_go;refine ⟨p,A.aH,dx,_,_,rfl,hp,ct.kc,ct.k5,fK5,?_⟩;k_go;refine ⟨p,A.aH,dx,_,_,rfl,hp,ct.kc,ct.k6,fK6,?_⟩;k_go;refine ⟨p,A.aH,dx,_,_,rfl,hp,ct.kc,ct.k7,fK7,?_⟩;k_go;refine ⟨p,A.aH,dx,_,_,rfl,hp,ct.kc,ct.k1,fK1,?_⟩;k_in;refine ⟨p,dx,_,rfl,hp,Ko,?_⟩;lk;refine ⟨p,dx,a,n,T,ts,as,R,rfl,ct,h,hl,λq us H1 hq gq fl pm S1=>?_⟩;lk
 have hul:us.length=ts.length:=by have:=pm.length_eq;rwa [af] at this
 refine ⟨n,q,us.map (λu=>((u.1.dj:Int),u.2)),rfl,by rw [bz];exact gq,λz hz=>let ⟨u,hu,e⟩:=bo.mp hz;e▸⟨_,_,_,fl u hu⟩,by rw [af];lia,λc H2 hc S2=>?_⟩;have ec:=hc T h.tp;rw [bz] at ec
 have es:c=(ts.map λt=>(T:Int)-t.dj).sum:=by
  rw [ec,← MW (pm.map _),bz];rfl
 rw [es];lk;refine ⟨oq,λr hr=>?_⟩;have S12:=S1.trans S2;exact k r _ (S12.free hr) aD (S12.trans (bS.cc hr))
variable {X:EC}
def tlf (R:Nat->List Int):Nat->List (Int×Int)
 | 0=>[]
 | i+1=>tlf R i++if (R i).head?=some (i:Int) then ups (R i) else []
theorem Q4 {R:Nat->List Int}{t:Int×Int}:∀ {i:Nat},t∈tlf R i->∃ j,j<i/\t∈ups (R j)
 | 0,h=>nomatch h
 | i+1,h=>by
  rcases aT.mp h with h|h
  .obtain ⟨j,h1,h2⟩:=Q4 h;exact ⟨j,by lia,h2⟩
  .by_cases c:(R i).head?=some (i:Int)
   .rw [if_pos c] at h;exact ⟨i,by lia,h⟩
   .rw [if_neg c] at h;cases h
inductive mx (K:aa) (C:ah) (vs:List V) (H:Hp) (Q:VK) (E:XK):Prop
 | mk (p dx l:_) (n:Nat) (as R:_):vs=[.ref p]->CT K C->WA C H p dx l n as R->Wd n R->n<=60->(∀ q (zs:List Zt) H',bS H H'->H' q=some (.lst (zs.map kM))->(∀ z∈zs,iL H' z)->(zs.map zP).Perm (tlf R n)->zs.length<64->Q (.ref q) H')->mx K C vs H Q E
structure Td (n:Nat) (R:Nat->List Int) (H H1:Hp) (tl:ah) (i:Nat) (zs:List Zt) (ds:List Int):Prop where
 at_:H1 tl=some (.lst (zs.map kM))
 pr:∀ z∈zs,iL H1 z
 sm:bS H H1
 e:zs.map zP=tlf R i
 dn:ds.Nodup
 dm:∀ x,x∈ds↔∃ j,j<i/\j<n/\(R j).head?=some (j:Int)/\x∈R j
 len:zs.length<=ds.length
theorem G8:Rn (mx K C) (zM K C (cY K C)) ["self","told","place","row"]:=by
 rintro vs H Q E ⟨p,dx,l,n,as,R,rfl,ct,W,D,hn,k⟩;unfold zM;lk;refine ⟨oq,λtl htl=>?_⟩;generalize eu_:upd _ tl _=H0;obtain ⟨S0,g0⟩:=news eu_ htl;have W0:=W.same S0;lk;unfold uP;k_ne;refine Ym ?_;k_go;refine ⟨p,C,dx,_,_,rfl,W0.ob,ct.cl,ct.rows,iR _ _,?_⟩;lk;refine ⟨l,_,rfl,dh.of W0.rl,Vv (K:=K) (a:=l) (xs:=as.map V.ref) (λi Z H1=>∃ zs ds o2 o3,Z=[some (.ref p),some (.ref tl),o2,o3]/\Td n R H H1 tl i zs ds) ⟨[],[],_,_,rfl,⟨g0,(λz hz=>nomatch hz),S0,rfl,jr,λx=>⟨nofun,λ⟨j,hj,_⟩=>by lia⟩,aB _⟩⟩ ?_ ?_ ?_⟩
 .rintro i Z H1 _ ⟨zs,ds,o2,o3,rfl,T⟩;exact dh.of (T.sm _ _ W.rl)
 .rintro i x q Z H1 hi hq ⟨zs,ds,o2,o3,rfl,T⟩;obtain ⟨ra,hra,ex⟩:=gm hi;subst ex
  have hin:i<n:=by rw [← W.len];exact (av.mp hra).1
  generalize eu_:upd _ q _=H2;obtain ⟨S1,g1⟩:=news eu_ hq;have hrow:=S1 _ _ (T.sm _ _ (W.at_ i ra hra))
  obtain ⟨x0,hx0,hx0'⟩:∃ x,(R i)[0]?=some x/\(R i).head?=some x:=by
   cases h:R i with
   | nil=>exact absurd h (D.r i hin).ne
   | cons x t=>exact ⟨x,rfl,rfl⟩
  have hlen:=D.len hin;refine A9 (.of g1) rfl ?_;lk;refine IL (dh.of hrow) (j:=0) rfl hx0 ?_;lk;refine wx (λe=>?_) λe=>?_
  .have e:x0=(i:Int):=j4.mp e;subst e;have gt2:=S1 _ _ T.at_;lk;refine ⟨.inl ⟨rfl,_,dh.of gt2⟩,?_⟩;lk;refine ⟨ra,R i,rfl,dh.of hrow,by lia,λal1 H3 ws S3 hal gal pal eal=>?_⟩;lk;have S13:=S1.trans S3;have gt3:=S13 _ _ T.at_;refine .inl ⟨⟨_,dh.of gal⟩,λacc hacc=>?_⟩
   have hwl:ws.length+1<=2*n:=by have:=congrArg eW eal;rw [af,J3] at this;lia
   refine oO (n:=ws.length) (λt ys H'=>∃ vs:List Zt,ys=vs.map kM/\vs.map zP=((ws.map zP).take t).filter (λu=>decide (u.1<u.2))/\H' acc=some (.lst ys)/\bS H3 H'/\∀ v∈vs,iL H' v) (λZ=>∃ o o1,Z=[o,o1]) ⟨[],rfl,by simp,aD,bS.cc hacc,(λz hz=>nomatch hz)⟩ ⟨_,_,rfl⟩ ?_ ?_ ?_ ?_
   .rintro t ys H' ⟨_,_,_,h,_⟩;exact h
   .rintro ys H4 ⟨vs,rfl,ev,g4,S4,pv⟩;refine ⟨⟨_,S4.seq (dh.of gal),by rw [af];exact aB _⟩,?_⟩;rw [show ws.length=(ws.map zP).length by rw [af],GI,eal] at ev;have ev:vs.map zP=ups (R i):=ev
    have hvl:2*vs.length+1=(R i).length:=by have:=(D.r i hin).YR;rw [← ev,af] at this;exact this
    obtain ⟨es,q1,q2,q3⟩:=(D.r i hin).cnt;have gt4:=S4 _ _ gt3
    have hds:=few T.dn λx hx=>by
     obtain ⟨j,_,hj,_,hx'⟩:=(T.dm x).mp hx;obtain ⟨j',h1,h2,_⟩:=D.Ly j hj x hx';exact ⟨j',h1,h2⟩
    have hzl:=T.len;lk;refine acM gt4 g4 (du (m:=1000) (by rw [af,af];lia)) ?_
    have keep:∀ b o,b≠tl->H4 b=some o->(upd H4 tl (.lst (zs.map kM++vs.map kM))) b=some o:=λb o hb e=>by rw [aE hb];exact e
    have S14:=S13.trans S4
    have ntl:∀ {b:ah}{ys:List V},H4 b=some (.tup ys)->b≠tl:=λe z=>by rw [z,gt4] at e;cases e
    have dis:∀ x,x∈R i->∀ j,j<i->j<n->(R j).head?=some (j:Int)->x∉R j:=λx hx j hj hjn hh hx'=>by
     have e:=D.same hin hjn hx hx';rw [e,hh] at hx0';have:=aV hx0';lia
    refine ⟨zs++vs,ds++es,_,_,rfl,⟨by rw [aD,aP],λz hz=>?_,λb o e=>keep b o (aJ e htl) (S14 _ _ (T.sm _ _ e)),?_,?_,λx=>?_,by rw [br,br];lia⟩⟩
    .rcases aT.mp hz with hz|hz
     .have e:=S14 _ _ (T.pr z hz);exact keep _ _ (ntl e) e
     .have e:=pv z hz;exact keep _ _ (ntl e) e
    .rw [aP,T.e,ev];exact congrArg (tlf R i++·) (if_pos hx0').symm
    .rw [fu];refine ⟨T.dn,q1,λx hx y hy e=>?_⟩;subst e;obtain ⟨j,hj,hjn,hh,hm⟩:=(T.dm x).mp hx;exact dis x ((q2 x).mp hy) j hj hjn hh hm
    .rw [aT,T.dm,q2]
     constructor
     .rintro (⟨j,h2,h3⟩|h2)
      .exact ⟨j,by lia,h3⟩
      .exact ⟨i,by lia,hin,hx0',h2⟩
     .rintro ⟨j,h2,h3,h4,h5⟩
      by_cases hj:j=i
      .subst hj;exact .inr h5
      .exact .inl ⟨j,by lia,h3,h4,h5⟩
   .rintro t ys H4 ht ⟨vs,rfl,ev,g4,S4,pv⟩;exact ⟨_,_,S4.seq (dh.of gal),by rw [aG,aw ht];rfl⟩
   .rintro t ys σ' H4 x H5 ht ⟨vs,rfl,ev,g4,S4,pv⟩ ⟨o,o1,rfl⟩ ⟨eH,ex⟩;subst eH;have hw:=ex _ (S4.seq (dh.of gal));rw [aG,aw ht] at hw;have hw:=(aV hw).symm;subst hw;have hpw:=S4 _ _ (pal _ (di ht))
    have etk:(ws.map zP).take (t+1)=(ws.map zP).take t++[zP ws[t]]:=by rw [LD,aG,aw ht];rfl
    refine A9 (.of hpw) rfl ?_;lk;refine wx (λc=>?_) λc=>?_
    .lk;refine ⟨oq,λu hu=>?_⟩;generalize eu_:upd _ u _=H6;obtain ⟨T1,u1⟩:=news eu_ hu
     have hvle:vs.length<=ws.length:=by
      have:=congrArg eW ev;rw [af] at this;have h2:=dE (λu:Int×Int=>decide (u.1<u.2)) ((ws.map zP).take t);rw [bO,af] at h2;lia
     have nac:∀ {b:ah}{ys:List V},H6 b=some (.tup ys)->b≠acc:=λe z=>by rw [z,T1 _ _ g4] at e;cases e
     refine ⟨T1 _ _ g4,eL (m:=1000) (by rw [af];lia),lN.mk' ht ⟨_,_,rfl⟩ ⟨vs++[(ws[t].1,ws[t].2.1,u)],by simp [kM],?_,aD,λb o e=>by rw [aE (aJ e hacc)];exact T1 _ _ (S4 _ _ e),λv hv=>?_⟩⟩
     .rw [etk,eY,aP,ev];simp [zP,c]
     .rcases aT.mp hv with hv|hv
      .have e:=T1 _ _ (pv v hv)
       show (upd H6 acc _) _=_
       rw [aE (nac e)];exact e
      .rw [aC.mp hv]
       show (upd H6 acc _) _=_
       rw [aE (nac u1)];exact u1
    .exact lN.mk' ht ⟨_,_,rfl⟩ ⟨vs,rfl,by rw [etk,eY,ev];simp [zP,c],g4,S4,pv⟩
  .lk;refine ⟨zs,ds,_,_,rfl,⟨S1 _ _ T.at_,λz hz=>S1 _ _ (T.pr z hz),T.sm.trans S1,?_,T.dn,λx=>?_,T.len⟩⟩
   .rw [T.e];exact ((congrArg (tlf R i++·) (if_neg λz=>e (by rw [hx0'] at z;rw [aV z]))).trans (mH _)).symm
   .rw [T.dm];refine ⟨λ⟨j,h1,h2⟩=>⟨j,by lia,h2⟩,λ⟨j,h1,h2,h3,h4⟩=>⟨j,?_,h2,h3,h4⟩⟩
    rcases Nat.lt_succ_iff_lt_or_eq.mp h1 with h|h
    .exact h
    .subst h;rw [hx0'] at h3;exact absurd (by rw [aV h3]) e
 .rintro Z H1 ⟨zs,ds,o2,o3,rfl,T⟩;rw [af,W.len] at T
  have hds:=few T.dn λx hx=>by
   obtain ⟨j,_,hj,_,hx'⟩:=(T.dm x).mp hx;obtain ⟨j',h1,h2,_⟩:=D.Ly j hj x hx';exact ⟨j',h1,h2⟩
  have hzl:=T.len;lk;refine ⟨tl,zs.map (λz=>(([z.1,z.2.1],z.2.2):Zn)),[false],rfl,by rw [bz];exact dh.of T.at_,λz hz=>?_,by rw [af];lia,λq zs' hq hperm _=>?_⟩
  .obtain ⟨u,hu,rfl⟩:=bo.mp hz;exact ⟨_,T.pr u hu,.int _ (.int _ .nil)⟩
  obtain ⟨us,hp,rfl⟩:=Fz hperm.symm zs rfl;have S2:=bS.cc (o:=.lst ((us.map (λz=>(([z.1,z.2.1],z.2.2):Zn))).map mj)) hq;exact k q us _ (T.sm.trans S2) (by rw [aD,bz];rfl) (λz hz=>S2 _ _ (T.pr z (hp.mem_iff.mp hz))) (T.e▸hp.map zP) (by rw [hp.length_eq];lia)
def wsum (g:Int->Int->Int) (n:Nat) (R:Nat->List Int):Int:=((tlf R n).map λt=>g t.1 t.2).sum
inductive eM (K:aa) (C:ah) (A:CA) (vs:List V) (H:Hp) (Q:VK) (E:XK):Prop
 | mk (p dx a:_) (n T:Nat) (ts as R:_):vs=[.ref p]->wD K C A->KP C A H p dx a n T ts as R->n<=60->ts.length<64->(∀ H',bS H H'->Q (.int (wsum a.g n (R 0))) H')->eM K C A vs H Q E
theorem wH:Rn (eM K C A) (pL K C A (mx K C)) oE:=by
 rintro vs H Q E ⟨p,dx,a,n,T,ts,as,R,rfl,ct,h,hn,hl,k⟩;obtain ⟨w,c1,c2,c3,c4,hw,hp⟩:=h.ob;have W:=h.lv.wa 0 w hw;have D:=h.lv.wd 0 (bA _);unfold pL;lk;refine m6 ?_;refine jv ?_;lk;refine ⟨p,A.aH,dx,_,_,rfl,hp,ct.kc,ct.k3,fK3,?_⟩;refine ⟨w.1,w.2.1,_,rfl,W.ob,ip _ _,?_⟩;lk;refine ⟨w.1,w.2.1,w.2.2,n,as 0,R 0,rfl,ct.w,W,D,hn,λq zs H1 S1 gq pr pm hzl=>?_⟩;have h1:=h.same S1;obtain ⟨w',d1,d2,d3,d4,hw',hp1⟩:=h1.ob;refine ⟨q,rfl,.inl ⟨⟨_,dh.of gq⟩,λacc hacc=>?_⟩⟩;refine DL (K:=K) zs (λ_=>true) (λz=>.int (a.g z.1 z.2.1)) (λZ=>∃ o,Z=[o,some (.ref p)]) (by rw [af]) (dh.of gq) hacc ⟨_,rfl⟩ (by rw [af];lia) ?_ λH2 S2 g2=>?_
 .rintro i z x σ' H' G G' hz hx S' ⟨o,rfl⟩ hG hG';rw [aG,hz] at hx;cases hx;have hzm:=aM hz;obtain ⟨j,hj,hm⟩:=Q4 (pm.mem_iff.mp (aW (f:=zP) hzm));obtain ⟨hlt,hm⟩:=Yv.mp hm;obtain ⟨u,hu,_,_,e⟩:=(h.iv.ed 0 (bA _) _ _).mp ⟨j,hj,hm⟩;obtain ⟨l1,_,_⟩:=h.iv.lt u hu;have hlt:z.1<z.2.1:=hlt
  obtain ⟨e1,e2⟩:(u.x:Int)=z.1/\(u.y:Int)=z.2.1:=by
   rcases e with e|e<;>obtain ⟨e1,e2⟩:=cW e
   .exact ⟨e1.symm,e2.symm⟩
   .have e1:z.1=u.y:=e1;have e2:z.2.1=u.x:=e2;lia
  lk;refine jX ?_;refine jv ?_;refine jv ?_;lk;refine ⟨p,A.aH,dx,_,_,rfl,S' _ _ hp1,ct.kc,ct.k2,ZV,?_⟩;refine ⟨a.q,A.bE,a.dq,_,_,rfl,S' _ _ h1.lv.ob,ct.lc,ct.l3,fL3,?_⟩;lk;refine .inr ⟨a.d3,.int (a.g z.1 z.2.1),rfl,.inr ⟨kv a.g ts,[bp z.1,bp z.2.1],z.2.2,.inl (S' _ _ h1.lv.e3),rfl,S' _ _ (pr z hzm),?_⟩,?_⟩
  .rw [← e1,← e2];exact (i0 (f:=λt=>V.int (a.g t.x t.y)) h.iv.nd hu).symm
  exact hG rfl _ ⟨_,rfl⟩
 rw [Xh.mpr λ_ _=>rfl] at g2;lk;refine ⟨acc,zs.map λz=>a.g z.1 z.2.1,rfl,by rw [bz];exact dh.of g2,?_⟩
 have e:(zs.map λz=>a.g z.1 z.2.1).sum=wsum a.g n (R 0):=by
  have pm:=pm.map λt:Int×Int=>a.g t.1 t.2;rw [bz] at pm;exact MW pm
 rw [e];exact k _ (S1.trans S2)
variable {X:EC}
theorem KP.lt1 (h:KP C A H p dx a n T ts as R) (hP:oJ Pt H) (F:Fm (p::fp a) H H'):oJ Pt H' :=
 hP.keep λb o h1 h2 h3 _ e=>F b o (λz=>by
  rcases aq.mp z with rfl|z
  .obtain ⟨fs,hp⟩:=h.p0;rw [hp] at e;cases e;exact h3 _ _ _ rfl
  .exact h.lv.out e h1 (λ_ _=>h2 _) z) e
theorem KP.gv (h:KP C A H p dx a n T [] as R) (g:Int->Int->Int):KP C A H p dx { a with g:=g } n T [] as R:=⟨h.ob,⟨h.lv.ob,h.lv.e1,h.lv.e2,h.lv.e3,h.lv.ls,h.lv.len,h.lv.wa,h.lv.wd,h.lv.n1,h.lv.Rk,h.lv.Ue,h.lv.WO,h.lv.nl,h.lv.nL⟩,h.iv,h.jn,h.tp⟩
abbrev Tr:=Nat×Nat×Int×ah
def lo (t:Tr):Nat:=min t.1 t.2.1
def up (t:Tr):Nat:=max t.1 t.2.1
def sL (t:Tr):Int×Int:=((lo t:Int),(up t:Int))
def GB (t:Tr):List gn×V:=(pk (lo t) (up t),.int t.2.2.1)
def fk:List gn->Int×Int
 | [bp x,bp y]=>(x,y)
 | _=>(0,0)
def Wb (t:Tr):V:=.ref t.2.2.2
def Wc (n:Nat) (H:Hp) (t:Tr):Prop:=H t.2.2.2=some (.tup [.int t.1,.int t.2.1,.int t.2.2.1])/\t.1≠t.2.1/\t.1<n/\t.2.1<n
def Q5 {kvs:List (List gn×V)}{k:List gn}(h:k∉kvs.map (·.1)):gH kvs k=none:=by
 cases e:gH kvs k with
 | none=>rfl
 | some v=>exact absurd (X4 e) h
def Ks (kvs:List (List gn×V)) (x y:Int):Int:=match gH kvs [bp x,bp y] with|some (.int w)=>w|_=>0
inductive bu (K:aa) (C:ah) (A:CA) (Pt:ah) (vs:List V) (H:Hp) (Q:VK) (E:XK):Prop
 | mk (p dx W:_) (n:Nat) (ts:List Tr):vs=[.ref p,.int n,.ref W]->H p=some (.ins A.aH dx [])->wD K C A->1<=n->n<=60->H W=some (.lst (ts.map Wb))->(∀ t∈ts,Wc n H t)->(ts.map λt=>(GB t).1).Nodup->ts.length<64->oJ Pt H->(∀ (a:AL) (T:Nat) (us:List Ti) (as:Nat->List ah) (R:Nat->Nat->List Int) H',KP C A H' p dx a n T us as R->(us.map Ti.key).Perm (ts.map sL)->oJ Pt H'->(∀ b∈a.L::fp a,H b=none)->(∀ b o,b≠p->b≠Pt->H b=some o->H' b=some o)->Q .non H')->bu K C A Pt vs H Q E
theorem tU:Rn (bu K C A Pt) (nY K C A (dg K C A) (cO K C Pt) (iZ K C) (cb K C A)) Yw:=by
 rintro vs H Q E ⟨p,dx,W,n,ts,rfl,hp,ct,hn1,hn2,hW,htr,hnd,hlen,hT,k⟩;unfold nY;lk;refine ⟨p,dx,n,rfl,hp,ct,hn1,by lia,λa T as H1 h1 B1 fr1=>?_⟩;have pP:p≠Pt:=hT.ne hp (λ_ z=>nomatch z)
 have ni:∀ {b:ah}{o:HO},H b=some o->(∀ x y z,o≠.ins x y z)->H1 b=some o:=λ{b o} e hno=>B1 _ _ e λz=>by rw [z,hp] at e;cases e;exact hno _ _ _ rfl
 have hW1:=ni hW (λ_ _ _ z=>nomatch z)
 have htr1:∀ t∈ts,Wc n H1 t:=λt ht=>⟨ni (htr t ht).1 (λ_ _ _ z=>nomatch z),(htr t ht).2⟩
 have hT1:oJ Pt H1:=hT.keep λb o _ _ h3 _ e=>ni e h3;have h1:=h1.gv (Ks (ts.map GB));have ef:fp { a with g:=Ks (ts.map GB) }=fp a:=rfl;have hg:(AL.g { a with g:=Ks (ts.map GB) })=Ks (ts.map GB):=rfl;have fr1:∀ b∈({ a with g:=Ks (ts.map GB) }:AL).L::fp { a with g:=Ks (ts.map GB) },H b=none:=fr1;generalize ({ a with g:=Ks (ts.map GB) }:AL)=a at h1 hg fr1;lk;refine sG λdW hdW=>?_;lk;have S2:=bS.cc (o:=.dT []) hdW;have gd:(upd H1 dW (.dT [])) dW=some (.dT []):=aD;have nd:dW∉fp a:=h1.lv.Dz hdW;generalize upd H1 dW (.dT [])=H2 at S2 gd;unfold mv;lk
 refine .inl ⟨⟨_,dh.of (S2 _ _ hW1)⟩,jt (K:=K) (a:=W) (xs:=ts.map Wb)
  (λi Z H3=>bf dW H2 H3/\H3 dW=some (.dT ((ts.take i).map GB))/\∃ o4 o5 o6 o7,Z=[some (.ref p),some (.int n),some (.ref W),some (.ref dW),o4,o5,o6,o7])
  ⟨bf.refl _ _,gd,_,_,_,_,rfl⟩ ?_ ?_ ?_⟩
 .rintro i Z H3 _ ⟨B,_⟩;exact dh.of (B _ _ (S2 _ _ hW1) (fA (S2 _ _ hW1) gd))
 .rintro i z Z H3 hi ⟨B,g3,o4,o5,o6,o7,rfl⟩;obtain ⟨t,ht,rfl⟩:=gm hi;have hm:=aM ht;obtain ⟨b0,b3,b1,b2⟩:=htr1 t hm;have g2:=S2 _ _ b0;have g4:=B _ _ g2 (fA g2 gd);refine ⟨t.2.2.2,_,rfl,mX.of g4,rfl,?_⟩;lk
  have et:ts.take (i+1)=ts.take i++[t]:=by rw [ft,ht];rfl
  have hkn:pk (lo t) (up t)∉((ts.take i).map GB).map (·.1):=λhmem=>by
   have h2:((ts.take i++[t]).map λt=>(GB t).1).Nodup:=by rw [← et];exact ((DU _ _).map _).nodup hnd
   rw [aP,fu] at h2;rw [bz] at hmem;exact h2.2.2 _ hmem _ ar rfl
  refine ⟨n,t.1,t.2.1,dW,_,rfl,b1,b2,b3,g3,Q5 hkn,λr hr=>?_⟩;lk;have nr:dW≠r:=aJ g3 hr;refine .inr ⟨dW,_,rfl,AC.t (k:=pk (lo t) (up t)) (by rw [aE nr];exact g3) aD (eL (m:=100) (by rw [af,bO];lia)),?_⟩;refine ⟨λb o e hb=>?_,?_,_,_,_,_,rfl⟩
  .have e3:=B b o e hb;rw [aE hb,aE (aJ e3 hr)];exact e3
  .rw [aD,uu _ (Q5 hkn),et,aP];rfl
 .rintro Z H3 ⟨B3,g3,o4,o5,o6,o7,rfl⟩;rw [cg (by rw [af];exact aB _)] at g3;have S13:bS H1 H3:=λb o e=>B3 _ _ (S2 _ _ e) (aJ e hdW);have h3:=h1.same S13;have hT3:oJ Pt H3:=hT1.same S13;unfold mw;lk
  have hkeys:(ts.map GB).map (·.1)=ts.map λt=>(GB t).1:=by rw [bz];rfl
  have hvT:∀ t∈ts,gH (ts.map GB) (pk (lo t) (up t))=some (.int t.2.2.1):=λt ht=>by
   obtain ⟨j,hj⟩:=bN.mp (aW (f:=GB) ht);exact uz (by rw [hkeys];exact hnd) hj
  have hwT:∀ t∈ts,Ks (ts.map GB) (lo t:Nat) (up t:Nat)=t.2.2.1:=λt ht=>by
   unfold Ks;rw [show gH (ts.map GB) [bp ((lo t:Nat):Int),bp ((up t:Nat):Int)]=some (.int t.2.2.1) from hvT t ht]
  refine ⟨dW,dW,ts.map GB,rfl,g3,hT3,.inr ⟨ts.map GB,a.g,g3,λq hq=>?_,by rw [af];lia,λl zs H4 hl S4 hT4 hz pm=>?_⟩⟩
  .obtain ⟨t,ht,rfl⟩:=bo.mp hq;exact ⟨(lo t:Nat),(up t:Nat),rfl,by rw [hg,hwT t ht];exact hvT t ht⟩
  have hzt:∀ z∈zs,∃ t∈ts,z.1=[a.g (lo t:Nat) (up t:Nat),(lo t:Int),(up t:Int)]/\H4 z.2=some (.tup [.int (lo t:Nat),.int (up t:Nat)]):=λz hzm=>by
   obtain ⟨x,y,e1,e2⟩:=hz z hzm;have hk:([bp (z.1.getD 1 0),bp (z.1.getD 2 0)]:List gn)∈(ts.map GB).map (·.1):=pm.mem_iff.mp (aW (f:=λz:Zn=>([bp (z.1.getD 1 0),bp (z.1.getD 2 0)]:List gn)) hzm);rw [hkeys] at hk;obtain ⟨t,ht,et⟩:=bo.mp hk;rw [e1] at et;have et:([bp ((lo t:Nat):Int),bp ((up t:Nat):Int)]:List gn)=[bp x,bp y]:=et
   injection et with ex et
   injection et with ey _
   injection ex with ex
   injection ey with ey
   subst ex ey;exact ⟨t,ht,e1,e2⟩
  have hzl:zs.length=ts.length:=by have:=pm.length_eq;simpa using this
  have hnz:(zs.map λz:Zn=>([bp (z.1.getD 1 0),bp (z.1.getD 2 0)]:List gn)).Nodup:=pm.nodup_iff.mpr (by rw [hkeys];exact hnd);have S5:=bS.cc (o:=.lst (zs.map mj)) hl;have gl:(upd H4 l (.lst (zs.map mj))) l=some (.lst (zs.map mj)):=aD
  have h4:KP C A H4 p dx a n T [] as _:=let ⟨w,c1,c2,c3,c4,hw,hp⟩:=h3.ob;⟨⟨w,c1,c2,c3,c4,hw,S4 _ _ pP hp⟩,h3.lv.WZ hT3 S4,h3.iv,h3.jn,h3.tp⟩
  have nl:l∉fp a:=h4.lv.Dz hl;have g5:=S4 _ _ (hT3.ne g3 (λ_ z=>nomatch z)) g3;generalize upd H4 l (.lst (zs.map mj))=H5 at S5 gl;have h5:=h4.same S5;have hT5:=hT4.same S5;have g5:=S5 _ _ g5
  have tup5:∀ {b:ah}{xs:List V}{H6:Hp},H5 b=some (.tup xs)->Fm (p::fp a) H5 H6->H6 b=some (.tup xs):=λe F=>F _ _ (λz=>by
   obtain ⟨fs,hp⟩:=h5.p0
   exact (aq.mp z).elim (fA e hp) (h5.lv.yH e)) e
  have out5:∀ {b:ah}{o:HO}{H6:Hp},H5 b=some o->(∀ x y z,o≠.ins x y z)->b∉fp a->Fm (p::fp a) H5 H6->H6 b=some o:=λ{b o H6} e hno hb F=>F _ _ (λz=>(aq.mp z).elim (λz=>by
   obtain ⟨fs,hp⟩:=h5.p0
   rw [z,hp] at e;cases e;exact hno _ _ _ rfl) hb) e
  refine ⟨l,rfl,.inl ⟨⟨_,dh.of gl⟩,jt (K:=K) (a:=l) (xs:=zs.map mj)
   (λi Z H6=>∃ (us:List Ti) (as:Nat->List ah) (R:Nat->Nat->List Int),KP C A H6 p dx a n T us as R/\us.map Ti.key=(zs.take i).map (λz=>(z.1.getD 1 0,z.1.getD 2 0))/\Fm (p::fp a) H5 H6/\∃ o4 o5 o6 o7,Z=[some (.ref p),some (.int n),some (.ref W),some (.ref dW),o4,o5,o6,o7])
   ⟨[],as,_,h5,rfl,Fm.refl,_,_,_,_,rfl⟩ ?_ ?_ ?_⟩⟩
  .rintro i Z H6 _ ⟨us,as6,R,h6,ku,F,_⟩;exact dh.of (out5 gl (λ_ _ _ z=>nomatch z) nl F)
  .rintro i zv Z H6 hi ⟨us,as6,R,h6,ku,F,o4,o5,o6,o7,rfl⟩;obtain ⟨z,hzi,rfl⟩:=gm hi;have hzm:=aM hzi;obtain ⟨t,ht,e1,e2⟩:=hzt z hzm;have e6:=tup5 (S5 _ _ e2) F;have d6:=out5 g5 (λ_ _ _ z=>nomatch z) nd F;obtain ⟨_,b3,b1,b2⟩:=htr1 t ht
   have hlu:lo t<up t:=by unfold lo up;lia
   have hun:up t<n:=by unfold up;lia
   obtain ⟨w,c1,c2,c3,c4,hw,hp6⟩:=h6.ob;have hilt:i<zs.length:=(av.mp hzi).1
   have hul:us.length=i:=by have:=congrArg eW ku;rw [af,af,bO] at this;lia
   have ez:zs.take (i+1)=zs.take i++[z]:=by rw [ft,hzi];rfl
   have hnew:((lo t:Int),(up t:Int))∉us.map Ti.key:=λhmem=>by
    rw [ku] at hmem;obtain ⟨z',hz',e'⟩:=bo.mp hmem
    have h2:((zs.take i++[z]).map λz:Zn=>([bp (z.1.getD 1 0),bp (z.1.getD 2 0)]:List gn)).Nodup:=by rw [← ez];exact ((DU _ _).map _).nodup hnz
    rw [aP,fu] at h2;obtain ⟨q1,q2⟩:=cW e';exact h2.2.2 _ (aW hz') _ ar (by rw [q1,q2];show _=([bp (z.1.getD 1 0),bp (z.1.getD 2 0)]:List gn);rw [e1];rfl)
   k_in;refine ⟨p,dx,_,rfl,hp6,Ko,?_⟩;lk;refine .inr ⟨dW,.int (a.g (lo t:Nat) (up t:Nat)),rfl,.inr ⟨ts.map GB,pk (lo t) (up t),z.2,.inl d6,rfl,e6,by rw [hg,hwT t ht];exact (hvT t ht).symm⟩,?_⟩;lk;refine ⟨p,dx,a,n,T,us,as6,R,z.2,lo t,up t,rfl,ct,h6,by lia,hlu,hun,e6,hnew,by lia,λb us7 as7 R7 H7 h7 hk7 F7=>?_⟩;refine ⟨_,as7,R7,h7,?_,F.trans F7,_,_,_,_,rfl⟩;rw [ez,aP,hk7,ku]
   show _++[((lo t:Int),(up t:Int))]=_++[(z.1.getD 1 0,z.1.getD 2 0)]
   rw [e1];rfl
  .rintro Z H6 ⟨us,as6,R,h6,ku,F,_⟩;rw [cg (by rw [af];exact aB _)] at ku;refine k a T us as6 R H6 h6 ?_ (h5.lt1 hT5 F) fr1 λb o hb hbP e=>?_
   .have:=pm.map fk;rw [bz,bz,bz] at this;rw [ku];exact this
   refine F _ _ (λz=>(aq.mp z).elim hb λz=>aJ e (fr1 b (ag _ z)) rfl) (S5 _ _ (S4 _ _ hbP (S13 _ _ (B1 _ _ e hb))))
variable {X:EC}
inductive b9 (K:aa) (C:ah) (vs:List V) (H:Hp) (Q:VK) (E:XK):Prop
 | mk (a:_) (ns:List Int) (k:Nat):vs=[.ref a,.int k]->dh K H a (ns.map V.int)->(∀ z:Int,Q (.int z) H)->b9 K C vs H Q E
def Bz:Rn (b9 K C) (sZ K C) QO:=by
 rintro vs H Q E ⟨a,ns,k,rfl,hS,q⟩;unfold sZ;lk;refine Ox hS ?_;lk;refine wx (λh=>?_) λh=>?_
 .lk
  have hk:k<ns.length:=by lia
  refine IL hS rfl (aw hk) ?_;exact q _
 .lk;exact q _
variable {X:EC}
def em (hn:0<n) (x:Int):∃ j:Nat,x%(n:Int)=(j:Int)/\j<n:=by
 have h1:=Int.emod_nonneg x (show (n:Int)≠0 by lia);have h2:=Int.emod_lt_of_pos x (show (0:Int)<n by lia);exact ⟨(x%(n:Int)).toNat,by lia,by lia⟩
def BA {t u:TS}{D:r9}{Z:L2.St}(P:L2.St->Hp->Prop) (rest:∀ σ' H',P σ' H'->u D σ' H') (h:(∀ σ' H',P σ' H'->u D σ' H')->t { D with nx:=u D } Z H):bH t u D Z H:=h rest
theorem x_pk {xs:List V}(h:0<xs.length) (z:Int) (k:∀ v∈xs,Q v (upd H p (.lst xs))):eU K (.ref p) (.int (z%(xs.length:Int))) (upd H p (.lst xs)) Q:=by
 obtain ⟨j,ej,hj⟩:=em h z;rw [ej];exact nR (dh.of aD) (fE (j:=j) rfl (aw hj)) (k _ (di hj))
inductive Tq:V->Prop
 | int (i:Int):Tq (.int i)
 | tru:Tq (.bl true)
 | non:Tq .non
 | zer:Tq (.str "0")
def Tq.th {v:V}(h:Tq v):Th v:=by
 cases h
 .exact .int _
 .exact .bl _
 .exact .non
 .exact .str _
theorem Tq.rep {v:V}(h:Tq v):∃ d,Rep K H d v/\yi d:=by
 cases h with
 | int i=>exact ⟨.int i,by simp only [Rep],by simp [iK],by simp [i5]⟩
 | tru=>exact ⟨.bool true,by simp only [Rep],by simp [iK],by simp [i5]⟩
 | non=>exact ⟨.none,by simp only [Rep],by simp [iK],by simp [i5]⟩
 | zer=>exact ⟨.str "0",by simp only [Rep],by simp only [iK];decide +kernel,by simp [i5]⟩
def Tq.eq {v u:V}(hv:Tq v) (hu:Tq u) (k:∀ b,Q (.bl b) H):lR K v u H Q:=by
 obtain ⟨d,h1,h2⟩:=hv.rep (K:=K) (H:=H);obtain ⟨d',h3,h4⟩:=hu.rep (K:=K) (H:=H);exact Zw h1 h3 h2 h4 (k _)
inductive jJ (K:aa) (C:ah) (vs:List V) (H:Hp) (Q:VK) (E:XK):Prop
 | mk (c:Int) (n:Nat):vs=[.int c,.int n]->1<=n->(∀ v H',Tq v->bS H H'->Q v H')->jJ K C vs H Q E
theorem FC:Rn (jJ K C) (xu K C) ZQ:=by
 rintro vs H Q E ⟨c,n,rfl,hn,k⟩
 have p30:(0:Int)<10^(30:Int).toNat:=by decide
 unfold xu;lk;refine wx (λ_=>?_) λ_=>?_
 .lk;refine ⟨oq,λp hp=>?_⟩;lk;refine x_pk (xs:=[_,_,_,_,_]) (by simp) (c/9) λv hv=>k v _ ?_ (bS.cc hp);simp only [aq,cq,or_false] at hv
  rcases hv with rfl|rfl|rfl|rfl|rfl
  .exact .int _
  .exact .int _
  .exact .tru
  .exact .non
  .exact .zer
 .lk;exact k _ _ (.int _) (bS.refl _)
inductive cI (K:aa) (C:ah) (vs:List V) (H:Hp) (Q:VK) (E:XK):Prop
 | mk (c:Int) (n:Nat):vs=[.int c,.int n]->1<=n->(∀ (t:ah) (v u:V) H',Tq v->Tq u->bS H H'->H' t=some (.tup [v,u])->Q (.ref t) H')->cI K C vs H Q E
theorem G9:Rn (cI K C) (zH K C (jJ K C)) ZN:=by
 rintro vs H Q E ⟨c,n,rfl,hn,k⟩;unfold zH;lk;refine ⟨c,n,rfl,hn,λv H1 hv S1=>?_⟩;lk;refine ⟨_,n,rfl,hn,λu H2 hu S2=>?_⟩;have S12:=S1.trans S2;lk;refine wx (λ_=>?_) λ_=>?_
 .lk;exact ⟨oq,λt ht=>k t v v _ hv hv (S12.trans (bS.cc ht)) aD⟩
 k_ne
 with_reducible refine BA (λZ H3=>H3=H2/\Z=[some (.int c),some (.int n),some v,some u]) ?_ λgo=>?_
 .rintro Z H3 ⟨rfl,rfl⟩;lk;exact ⟨oq,λt ht=>k t v u _ hv hu (S12.trans (bS.cc ht)) aD⟩
 .lk
  refine hv.eq hu λb=>⟨_,rfl,?_⟩
  cases b with
  | false=>exact gI (gI (go _ _ ⟨rfl,rfl⟩))
  | true =>
   refine jX ?_;lk;refine wx (λ_=>?_) λ_=>go _ _ ⟨rfl,rfl⟩;lk;exact ⟨oq,λt ht=>k t v _ _ hv (.int _) (S12.trans (bS.cc ht)) aD⟩
inductive dZ (K:aa) (C:ah) (vs:List V) (H:Hp) (Q:VK) (E:XK):Prop
 | mk (n:Nat) (v:_):vs=[.int n,v]->Th v->Q (.bl (iE n v)) H->dZ K C vs H Q E
theorem z6:Rn (dZ K C) (rA K C) QP:=by
 rintro vs H Q E ⟨n,v,rfl,hv,k⟩;unfold rA;lk
 cases hv with
 | int i =>
  refine qZ (.int i) U1 ?_;lk;refine jX ?_;lk;refine qZ (.int i) U2 ?_;lk;refine jX ?_;lk;refine wx (λh=>?_) λh=>?_
  .lk
   have:iE n (.int i)=decide (i<n):=by show (decide (0<=i) && decide (i<n))=_;rw [decide_eq_true h,BU]
   rw [← this];exact k
  .have:iE n (.int i)=false:=by show (decide (0<=i) && decide (i<n))=_;rw [decide_eq_false h,yR]
   rw [← this];exact k
 | bl b =>
  refine qZ (.bl b) U3 ?_;lk;refine jX ?_;lk;refine qZ (.bl b) U4 ?_;lk;refine gI ?_
  exact k
 | non =>
  refine qZ .non U5 ?_;lk;refine gI ?_
  exact k
 | str x =>
  refine qZ (.str x) U6 ?_;lk;refine gI ?_;exact k
def flt (n:Nat) (v u:V):bq:=if (iE n v && iE n u)=true then (if v=u then "alike" else "none") else "place"
inductive bG (K:aa) (C:ah) (vs:List V) (H:Hp) (Q:VK) (E:XK):Prop
 | mk (n:Nat) (v u:_):vs=[.int n,v,u]->Th v->Th u->Q (.str (flt n v u)) H->bG K C vs H Q E
theorem FD:Rn (bG K C) (xy K C (dZ K C)) QN:=by
 rintro vs H Q E ⟨n,v,u,rfl,hv,hu,k⟩;unfold flt at k;unfold xy;lk;refine ⟨n,v,rfl,hv,?_⟩
 cases h1:iE n v with
 | false =>
  refine ⟨false,rfl,jX (jX ?_)⟩;lk
  rw [h1] at k;exact k
 | true =>
  refine ⟨true,rfl,gI ?_⟩;lk;refine ⟨n,u,rfl,hu,?_⟩
  cases h2:iE n u with
  | false =>
   refine ⟨false,rfl,jX ?_⟩;lk
   rw [h1,h2] at k;exact k
  | true =>
   refine ⟨true,rfl,gI ?_⟩;rw [h1,h2,if_pos (by rfl)] at k;obtain ⟨i,hi,rfl⟩:=qm h1;obtain ⟨j,hj,rfl⟩:=qm h2;lk;refine wx (λe=>?_) λe=>?_
   .lk;rw [if_pos e] at k;exact k
   .lk;rw [if_neg e] at k;exact k
variable {X:EC}
def ZW {i j:bq}(h:Q (.bl (decide (V.str i=V.str j))) H):lR K (.str i) (.str j) H Q:=.inl ⟨rfl,h⟩
def ada {i j:bq}(h:Q (.bl (!decide (V.str i=V.str j))) H):CY K (.str i) (.str j) H Q:=.inl ⟨rfl,h⟩
def tW (X:EC) (D:ah) (w:bq):Prop:=(D=X.eF/\w="place")\/(D=X.Alike/\w="alike")\/(D=X.yE/\w="tied")\/(D=X.tH/\w="tie")\/(D=X.kC/\w="count")
section
variable {X:EC}{mg:bq->Option ai}
theorem qo {a D Zzq:ah}{b:Bool}{xs:List V}{w:bq}{Dn:r9}(i:Lc K D) (kk:bZ K (.ref D) (.ref Zzq)=some b) (ha:H a=some (QF a (.ref D))) (hl:H l=some (.lst xs)) (hx:xs.length<100)
  (k:∀ H',H' a=some (QF a (.ref D))->H' l=some (.lst (xs++if b then [.str w] else []))->bf l H H'->Dn.nx [some (.ref a),some (.ref l)] H') :
  gR (lS K (qC (uB K) (aj (ak 0) (aj (tC (.ref Zzq)) aQ)))) (dr (AQ K "list" iG (ak 1) (aj (tC (.str w)) aQ))) eC Dn [some (.ref a),some (.ref l)] H:=by
 refine Zq (Zs (x_cb (Ou (Zp rfl (Ou (x_c (Zr (abk ha i kk ⟨b,rfl,?_⟩))))))))
 cases b with
 | false=>exact gI (k H ha (by rw [hl];simp) λ_ _ e _=>e)
 | true =>
  refine jX ?_;lk;refine ⟨.inl ⟨rfl,_,dh.of hl⟩,?_⟩;lk;exact qY hl (eL (m:=100) hx) (k _ ((aE (fA ha hl)).trans ha) aD bf.upd)
inductive fj (K:aa) (C:ah) (X:EC) (vs:List V) (H:Hp) (Q:VK) (E:XK):Prop
 | mk (a D:_) (w:bq):vs=[.ref a]->H a=some (QF a (.ref D))->tW X D w->(∀ q H',bS H H'->H q=none->H' q=some (.lst [.str w])->Q (.ref q) H')->fj K C X vs H Q E
theorem FE (T:vZ K mg C A X):Rn (fj K C X) (nF K C X) VN:=by
 rintro vs H Q E ⟨a,D,w,rfl,ha,hD,k⟩
 obtain ⟨b1,b2,b3,b4,b5,F,e⟩:∃ b1 b2 b3 b4 b5:Bool,XF K X.kC X.eF X.Alike X.vN X.yE X.tH X.CP X.CN X.kg D b1 b2 b3 b4 b5 /\
   ((((((((([]:List V)++if b1 then [.str "count"] else [])++if b2 then [.str "place"] else [])++if b3 then [.str "alike"] else [])++if false then [.str "joined"] else [])++if b4 then [.str "tied"] else [])++if b5 then [.str "tie"] else [])++if false then [.str "row"] else [])++if false then [.str "fixed"] else [])=[.str w]:=by
  rcases hD with ⟨rfl,rfl⟩|⟨rfl,rfl⟩|⟨rfl,rfl⟩|⟨rfl,rfl⟩|⟨rfl,rfl⟩
  .exact ⟨_,_,_,_,_,T.lE,rfl⟩
  .exact ⟨_,_,_,_,_,T.pU,rfl⟩
  .exact ⟨_,_,_,_,_,T.sR,rfl⟩
  .exact ⟨_,_,_,_,_,T.pV,rfl⟩
  .exact ⟨_,_,_,_,_,T.lF,rfl⟩
 have i:Lc K D:=⟨F.ex,F.it,F.ga,F.gt,F.ha,T.xhn,T.WI,F.hm⟩
 have sh:∀ {xs:List V}{b:Bool}{w:bq}{m:Nat},xs.length<=m->(xs++if b then [V.str w] else []).length<=m+1:=λ{xs b w m} h=>by
  cases b with
  | false=>rw [if_neg (by decide),mH];exact tM h
  | true=>rw [if_pos rfl,br];exact jH h
 unfold nF;lk;refine ⟨oq,λl hl=>?_⟩;generalize eu_:upd _ l _=H0;obtain ⟨S0,g0⟩:=news eu_ hl;k_ne;have l1:=sh (xs:=[]) (b:=b1) (w:="count") (aB 0);have l2:=sh (b:=b2) (w:="place") l1;have l3:=sh (b:=b3) (w:="alike") l2;have l4:=sh (b:=false) (w:="joined") l3;have l5:=sh (b:=b4) (w:="tied") l4;have l6:=sh (b:=b5) (w:="tie") l5;have l7:=sh (b:=false) (w:="row") l6
 with_reducible refine pC ?_
 refine qo i F.k1 (S0 _ _ ha) g0 (by decide) λH1 a1 g1 B1=>?_
 with_reducible refine pC ?_
 refine qo i F.k2 a1 g1 (aY l1 (by decide)) λH2 a2 g2 B2=>?_
 with_reducible refine pC ?_
 refine qo i F.k3 a2 g2 (aY l2 (by decide)) λH3 a3 g3 B3=>?_
 with_reducible refine pC ?_
 refine qo i F.k4 a3 g3 (aY l3 (by decide)) λH4 a4 g4 B4=>?_
 with_reducible refine pC ?_
 refine qo i F.k5 a4 g4 (aY l4 (by decide)) λH5 a5 g5 B5=>?_
 with_reducible refine pC ?_
 refine qo i F.k6 a5 g5 (aY l5 (by decide)) λH6 a6 g6 B6=>?_
 with_reducible refine pC ?_
 refine qo i F.k7 a6 g6 (aY l6 (by decide)) λH7 a7 g7 B7=>?_
 with_reducible refine pC ?_
 refine qo i F.k8 a7 g7 (aY l7 (by decide)) λH8 a8 g8 B8=>?_;rw [e] at g8;lk;refine ⟨a,D,"ValueError",true,rfl,a8,i,F.k9,⟨true,rfl,gI ?_⟩⟩;lk
 exact k l H8 (λb o e=>by
  have hb:=aJ e hl
  exact B8 _ _ (B7 _ _ (B6 _ _ (B5 _ _ (B4 _ _ (B3 _ _ (B2 _ _ (B1 _ _ (S0 _ _ e) hb) hb) hb) hb) hb) hb) hb) hb) hl g8
def tW.ok {D:ah}{w:bq}(h:tW X D w):PyData.strOk w=true:=by
 rcases h with ⟨_,rfl⟩|⟨_,rfl⟩|⟨_,rfl⟩|⟨_,rfl⟩|⟨_,rfl⟩<;>decide +kernel
theorem tW.em (T:vZ K mg C A X) {D:ah}{w:bq}(h:tW X D w):xg K (.ref D) (.ref X.kg)=some true:=by
 rcases h with ⟨rfl,_⟩|⟨rfl,_⟩|⟨rfl,_⟩|⟨rfl,_⟩|⟨rfl,_⟩
 .exact T.lE.em
 .exact T.pU.em
 .exact T.sR.em
 .exact T.pV.em
 .exact T.lF.em
def WM (ws:List bq):Prop:=ws=[]\/∃ w,ws=[w]/\PyData.strOk w=true
theorem WM.rep {ws:List bq}(h:WM ws) {H:Hp}{b:ah}(e:H b=some (.lst (ws.map V.str))):∃ d,Rep K H d (.ref b)/\yi d/\d=.list (ws.map PyData.str):=by
 rcases h with rfl|⟨w,rfl,ok⟩
 .exact ⟨_,.lst (dh.of e) .nil,v3 [],rfl⟩
 .refine ⟨.list [.str w],?_,⟨by simp [iK,f9,ok],by simp [i5,ik]⟩,rfl⟩;simp only [Rep];refine ⟨b,_,rfl,dh.of e,?_⟩;simp only [fF,Rep];exact ⟨_,_,rfl,rfl,rfl⟩
theorem WM.eq {ws:List bq}(h:WM ws) {H:Hp}{b c:ah}{Q:VK}(e:H b=some (.lst (ws.map V.str))) (e':H c=some (.lst (ws.map V.str))) (k:Q (.bl true) H):lR K (.ref b) (.ref c) H Q:=by
 obtain ⟨d,h1,h2,rfl⟩:=h.rep (K:=K) e;obtain ⟨_,h3,h4,rfl⟩:=h.rep (K:=K) e';refine Zw h1 h3 h2 h4 ?_;rw [yP _ h2.lay];exact k
theorem WM.ne {ws:List bq}(h:WM ws) {H:Hp}{b c:ah}{Q:VK}(e:H b=some (.lst (ws.map V.str))) (e':H c=some (.lst (ws.map V.str))) (k:Q (.bl false) H):CY K (.ref b) (.ref c) H Q:=by
 obtain ⟨d,h1,h2,rfl⟩:=h.rep (K:=K) e;obtain ⟨_,h3,h4,rfl⟩:=h.rep (K:=K) e';refine Qr h1 h3 h2 h4 ?_;rw [yP _ h2.lay];exact k
end
variable {X:EC}
abbrev Tg:=V×V×Int×ah
def tV (t:Tg):V:=.ref t.2.2.2
def FF (H:Hp) (t:Tg):Prop:=H t.2.2.2=some (.tup [t.1,t.2.1,.int t.2.2.1])/\Tq t.1/\Tq t.2.1
def nV:V->Nat
 | .int i=>i.toNat
 | _=>0
def qL (x:Nat):nV (.int x)=x:=by show (x:Int).toNat=x;lia
def qM (t:Tg):Tr:=(nV t.1,nV t.2.1,t.2.2.1,t.2.2.2)
theorem nu (n:Nat) (v u:V):(flt n v u="place"/\(iE n v && iE n u)=false)\/(flt n v u="alike"/\∃ i:Nat,i<n/\v=.int i/\u=.int i)\/(flt n v u="none"/\∃ i j:Nat,i<n/\j<n/\i≠j/\v=.int i/\u=.int j):=by
 unfold flt
 cases h:iE n v && iE n u with
 | false=>exact .inl ⟨rfl,rfl⟩
 | true =>
  rw [eG] at h;obtain ⟨i,hi,rfl⟩:=qm h.1;obtain ⟨j,hj,rfl⟩:=qm h.2;rw [if_pos rfl]
  by_cases e:V.int (i:Int)=V.int (j:Int)
  .rw [if_pos e]
   have e':i=j:=by have:=V.int.inj e;lia
   subst e';exact .inr (.inl ⟨rfl,i,hi,rfl,rfl⟩)
  .rw [if_neg e];exact .inr (.inr ⟨rfl,i,j,hi,hj,λz=>e (by rw [z]),rfl,rfl⟩)
def Cs (n:Nat):List (Int×Int)->List Tg->List bq
 | _,[]=>[]
 | seen,t::r=>if flt n t.1 t.2.1="none" then (if sL (qM t)∈seen then ["tied"] else Cs n (seen++[sL (qM t)]) r) else [flt n t.1 t.2.1]
theorem Kt (n:Nat):∀ (ts:List Tg) (seen:List (Int×Int)),WM (Cs n seen ts)
 | [],_=>.inl rfl
 | t::r,seen=>by
  unfold Cs
  by_cases c:flt n t.1 t.2.1="none"
  .rw [if_pos c]
   by_cases q:sL (qM t)∈seen
   .rw [if_pos q];exact .inr ⟨_,rfl,by decide +kernel⟩
   .rw [if_neg q];exact Kt n r _
  .rw [if_neg c];refine .inr ⟨_,rfl,?_⟩
   rcases nu n t.1 t.2.1 with ⟨e,_⟩|⟨e,_⟩|⟨e,_⟩
   .rw [e];decide +kernel
   .rw [e];decide +kernel
   .exact absurd e c
def Uc (f:Tr->V) (us:List Tr):List (List gn×V):=us.map λu=>(pk (lo u) (up u),f u)
theorem OY {t u:Tr}:pk (lo t) (up t)=pk (lo u) (up u)↔sL t=sL u:=by
 unfold pk sL
 constructor
 .intro e
  injection e with e1 e
  injection e with e2 _
  injection e1 with e1
  injection e2 with e2
  rw [e1,e2]
 .intro e;obtain ⟨e1,e2⟩:=cW e;rw [e1,e2]
theorem OZ (f:Tr->V) (us:List Tr) (t:Tr):(gH (Uc f us) (pk (lo t) (up t))).isSome=decide (sL t∈us.map sL):=by
 rw [← pB,eZ,oK,decide_eq_true_iff];unfold Uc
 constructor
 .rintro ⟨q,hq,e⟩;obtain ⟨u,hu,rfl⟩:=bo.mp hq;exact bo.mpr ⟨u,hu,OY.mp (of_decide_eq_true e)⟩
 .intro h;obtain ⟨u,hu,e⟩:=bo.mp h;exact ⟨_,aW hu,decide_eq_true (OY.mpr e)⟩
theorem FG {f:Tr->V}{us:List Tr}{t:Tr}(h:sL t∉us.map sL):gH (Uc f us) (pk (lo t) (up t))=none:=by
 have:=OZ f us t
 cases e:gH (Uc f us) (pk (lo t) (up t)) with
 | none=>rfl
 | some v=>rw [e,decide_eq_false h] at this;cases this
section
variable {X:EC}{mg:bq->Option ai}
theorem tW.one {D D':ah}{w:bq}(h:tW X D w) (h':tW X D' w):D=D':=by
 rcases h with ⟨rfl,rfl⟩|⟨rfl,rfl⟩|⟨rfl,rfl⟩|⟨rfl,rfl⟩|⟨rfl,rfl⟩<;>rcases h' with ⟨rfl,e⟩|⟨rfl,e⟩|⟨rfl,e⟩|⟨rfl,e⟩|⟨rfl,e⟩<;>first|rfl|exact absurd e (by decide +kernel)
def jj (K:aa) (C:ah) (A:CA) (X:EC):Sp:=λvs H _ E=>∃ (p dx W D:ah) (v:V) (ts:List Tg) (w:bq),vs=[.ref p,v,.ref W]/\H p=some (.ins A.aH dx [])/\wD K C A/\H W=some (.lst (ts.map tV))/\(∀ t∈ts,FF H t)/\ts.length<=60/\tW X D w /\
 ((V9 H v/\w="count")\/∃ n:Nat,v=.int n/\1<=n/\n<=60/\Cs n [] ts=[w])/\∀ H',(∀ b o,b≠p->H b=some o->H' b=some o)->E (.ref D) none H'
theorem rJ {s1 s2:Sp}:Rx (jj K C A X) (λE=>il K C A E (J0 (dg K C A) (ji K C A X)) s1 (J0 (iZ K C) (zZ K C X)) s2) Yw:=by
 rintro vs H Q E ⟨p,dx,W,D,v,ts,w,rfl,hp,ct,hW,htr,hlen,hdw,hc,k⟩;unfold il;lk
 rcases hc with ⟨hc,rfl⟩|⟨n,rfl,hn1,hn2,hdue⟩
 .refine .inr ⟨p,v,rfl,hc,?_⟩;rw [← hdw.one (.inr (.inr (.inr (.inr ⟨rfl,rfl⟩))))];exact k H λ_ _ _ e=>e
 refine .inl ⟨p,dx,n,rfl,hp,ct,hn1,by lia,λa T as H1 h1 B1 fr1=>?_⟩
 have ni:∀ {b:ah}{o:HO},H b=some o->(∀ x y z,o≠.ins x y z)->H1 b=some o:=λ{b o} e hno=>B1 _ _ e λz=>by rw [z,hp] at e;cases e;exact hno _ _ _ rfl
 have hW1:=ni hW (λ_ _ _ z=>nomatch z);lk;refine sG λdW hdW=>?_;lk;generalize eu_:upd _ dW _=H2;obtain ⟨S2,gd⟩:=news eu_ hdW;have fr:∀ {H3 H':Hp},bf dW H2 H3->bS H3 H'->∀ b o,b≠p->H b=some o->H' b=some o:=λB S b o hb e=>S _ _ (B _ _ (S2 _ _ (B1 _ _ e hb)) (aJ (B1 _ _ e hb) hdW));unfold lh;lk
 refine .inl ⟨⟨_,dh.of (S2 _ _ hW1)⟩,jt (K:=K) (a:=W) (xs:=ts.map tV)
  (λi Z H3=>bf dW H2 H3/\H3 dW=some (.dT (Uc (λu=>.int u.2.2.1) ((ts.take i).map qM)))/\Cs n (((ts.take i).map qM).map sL) (ts.drop i)=[w]/\∃ o4 o5 o6 o7,Z=[some (.ref p),some (.int n),some (.ref W),some (.ref dW),o4,o5,o6,o7])
  ⟨bf.refl _ _,gd,hdue,_,_,_,_,rfl⟩ ?_ ?_ ?_⟩
 .rintro i Z H3 _ ⟨B,_⟩;exact dh.of (B _ _ (S2 _ _ hW1) (fA (S2 _ _ hW1) gd))
 .rintro i z Z H3 hi ⟨B,g3,hd,o4,o5,o6,o7,rfl⟩;obtain ⟨t,ht,rfl⟩:=gm hi;have hm:=aM ht;have hil:=(av.mp ht).1;obtain ⟨b0,q1,q2⟩:=htr t hm;have g2:=S2 _ _ (ni b0 (λ_ _ _ z=>nomatch z));have g4:=B _ _ g2 (fA g2 gd)
  have et:ts.take (i+1)=ts.take i++[t]:=by rw [ft,ht];rfl
  have ed:ts.drop i=t::ts.drop (i+1):=by rw [gQ hil,(av.mp ht).2]
  rw [ed] at hd;unfold Cs at hd;refine ⟨t.2.2.2,_,rfl,mX.of g4,rfl,?_⟩;lk
  rcases nu n t.1 t.2.1 with ⟨ef,hpl⟩|⟨ef,x,hx,e1,e2⟩|⟨ef,x,y,hx,hy,hxy,e1,e2⟩
  .rw [ef,if_neg (by decide +kernel)] at hd;obtain rfl:=(i4 hd).1;obtain rfl:=hdw.one (.inl ⟨rfl,rfl⟩);exact .inr ⟨n,dW,X.eF,_,t.1,t.2.1,rfl,g3,.inl ⟨rfl,q1.th,q2.th,hpl⟩,λH' S=>k H' (fr B S)⟩
  .rw [ef,if_neg (by decide +kernel)] at hd;obtain rfl:=(i4 hd).1;obtain rfl:=hdw.one (.inr (.inl ⟨rfl,rfl⟩));exact .inr ⟨n,dW,X.Alike,_,t.1,t.2.1,rfl,g3,.inr (.inl ⟨rfl,x,hx,e1,e2⟩),λH' S=>k H' (fr B S)⟩
  .rw [ef,if_pos rfl] at hd
   have elo:min x y=lo (qM t):=by unfold lo qM;rw [e1,e2,qL,qL]
   have eup:max x y=up (qM t):=by unfold up qM;rw [e1,e2,qL,qL]
   by_cases hk:sL (qM t)∈((ts.take i).map qM).map sL
   .rw [if_pos hk] at hd;obtain rfl:=(i4 hd).1;obtain rfl:=hdw.one (.inr (.inr (.inl ⟨rfl,rfl⟩)));exact .inr ⟨n,dW,X.yE,_,t.1,t.2.1,rfl,g3,.inr (.inr ⟨x,y,e1,e2,hx,hy,hxy,by rw [elo,eup,OZ,decide_eq_true hk],rfl⟩),λH' S=>k H' (fr B S)⟩
   .rw [if_neg hk] at hd;refine .inl ⟨n,x,y,dW,_,by rw [e1,e2];rfl,hx,hy,hxy,g3,by rw [elo,eup];exact FG hk,λr hr=>?_⟩;rw [elo,eup];lk;have nr:dW≠r:=aJ g3 hr;refine .inr ⟨dW,_,rfl,AC.t (k:=pk (lo (qM t)) (up (qM t))) (by rw [aE nr];exact g3) aD (eL (m:=100) (by unfold Uc;rw [af,af,bO];lia)),?_⟩;refine ⟨λb o e hb=>?_,?_,?_,_,_,_,_,rfl⟩
    .have e3:=B b o e hb;rw [aE hb,aE (aJ e3 hr)];exact e3
    .rw [aD,uu _ (FG hk),et,aP];unfold Uc;rw [aP];rfl
    .rw [et,aP,aP];exact hd
 .rintro Z H3 ⟨B3,g3,hd,_⟩;rw [af,aan] at hd;cases hd
end
variable {X:EC}
section
variable {X:EC}{mg:bq->Option ai}
theorem O0 {cT:ai}{i N:Nat}{tb:XK->TS}{th:TS}{D:r9}{Z:L2.St}(h:∃ E:XK,tb E D Z H/\∀ cls H2 (σ':L2.St),E cls none H2->σ'.length=N->∃ Dc:ah,cls=.ref Dc/\xg K cls cT=some true/\∀ a,H2 a=none->th { nx:=λσ2 H'=>D.nx (σ2.set i none) H',rt:=D.rt } (σ'.set i (some (.ref a))) (upd H2 a (QF a cls))):Mw K cT i N tb th D Z H:=h
theorem MY:∀ {ts:List Tg}{seen:List (Int×Int)},Cs n seen ts=[]->(∀ t∈ts,∃ x y:Nat,x<n/\y<n/\x≠y/\t.1=.int x/\t.2.1=.int y)/\((ts.map qM).map sL).Nodup/\∀ k∈(ts.map qM).map sL,k∉seen
 | [],_,_=>⟨(λt ht=>nomatch ht),jr,(λt ht=>nomatch ht)⟩
 | t::r,seen,h=>by
  unfold Cs at h
  rcases nu n t.1 t.2.1 with ⟨e,_⟩|⟨e,_⟩|⟨e,x,y,hx,hy,hxy,e1,e2⟩
  .rw [e,if_neg (by decide +kernel)] at h;cases h
  .rw [e,if_neg (by decide +kernel)] at h;cases h
  .rw [e,if_pos rfl] at h
   by_cases q:sL (qM t)∈seen
   .rw [if_pos q] at h;cases h
   .rw [if_neg q] at h;obtain ⟨h1,h2,h3⟩:=MY h;refine ⟨λu hu=>?_,?_,λk hk=>?_⟩
    .rcases aq.mp hu with rfl|hu
     .exact ⟨x,y,hx,hy,hxy,e1,e2⟩
     .exact h1 u hu
    .exact bg.mpr ⟨λhm=>h3 _ hm (bx _ ar),h2⟩
    .rcases aq.mp hk with rfl|hk
     .exact q
     .exact λz=>h3 k hk (cz _ z)
theorem We {ts:List Tg}(htr:∀ t∈ts,FF H t) (h:∀ t∈ts,∃ x y:Nat,x<n/\y<n/\x≠y/\t.1=.int x/\t.2.1=.int y):∀ t∈ts.map qM,Wc n H t:=λt ht=>by
 obtain ⟨u,hu,rfl⟩:=bo.mp ht;obtain ⟨x,y,hx,hy,hxy,e1,e2⟩:=h u hu
 have a1:(qM u).1=x:=by unfold qM;rw [e1,qL]
 have a2:(qM u).2.1=y:=by unfold qM;rw [e2,qL]
 refine ⟨?_,by rw [a1,a2];exact hxy,by rw [a1];exact hx,by rw [a2];exact hy⟩;rw [a1,a2,← e1,← e2];exact (htr u hu).1
def ZX {us:List Tr}(h:(us.map sL).Nodup):(us.map λt=>(GB t).1).Nodup:=kJ.mpr ((kJ.mp h).imp λq e=>q (OY.mp e))
theorem ZY {w:bq}:∀ {ts:List Tg}{seen:List (Int×Int)},Cs n seen ts=[w]->tW X (if w="place" then X.eF else if w="alike" then X.Alike else X.yE) w
 | [],_,h=>nomatch h
 | t::r,seen,h=>by
  unfold Cs at h
  rcases nu n t.1 t.2.1 with ⟨e,_⟩|⟨e,_⟩|⟨e,_⟩
  .rw [e,if_neg (by decide +kernel)] at h;cases h;exact .inl ⟨if_pos rfl,rfl⟩
  .rw [e,if_neg (by decide +kernel)] at h;cases h;exact .inr (.inl ⟨by rw [if_neg (by decide +kernel),if_pos rfl],rfl⟩)
  .rw [e,if_pos rfl] at h
   by_cases q:sL (qM t)∈seen
   .rw [if_pos q] at h;cases h;exact .inr (.inr (.inl ⟨by rw [if_neg (by decide +kernel),if_neg (by decide +kernel)],rfl⟩))
   .rw [if_neg q] at h;exact ZY h
inductive cE (K:aa) (C:ah) (A:CA) (X:EC) (Pt:ah) (vs:List V) (H:Hp) (Q:VK) (E:XK):Prop
 | mk (v W:_) (ts:List Tg) (ws:List bq):vs=[v,.ref W]->wD K C A->H W=some (.lst (ts.map tV))->(∀ t∈ts,FF H t)->ts.length<=60->oJ Pt H->((V9 H v/\ws=[("count":bq)])\/∃ n:Nat,v=.int n/\1<=n/\n<=60/\ws=Cs n [] ts)->(∀ q H',H' q=some (.lst (ws.map V.str))->oJ Pt H'->(∀ b o,b≠Pt->H b=some o->H' b=some o)->Q (.ref q) H')->cE K C A X Pt vs H Q E
theorem Hj (T:vZ K mg C A X):Rn (cE K C A X Pt) (zI K C A X (J0 (bu K C A Pt) (jj K C A X)) (fj K C X)) ZK:=by
 rintro vs H Q E ⟨v,W,ts,ws,rfl,ct,hW,htr,hlen,hP,hc,k⟩;unfold zI;lk;refine ⟨oq,λl hl=>?_⟩;generalize eu_:upd _ l _=H1;obtain ⟨S1,g1⟩:=news eu_ hl;have P1:=hP.same S1;k_ne
 with_reducible refine pC ?_
 refine O0 ⟨λcls _ H2=>∃ (D:ah) (w:bq),cls=.ref D/\tW X D w/\ws=[w]/\bS H1 H2,?_,?_⟩
 .lk;refine Kn ?_;lk;intro p dx hp hdx _
  have S3:bS H1 (upd (upd H1 dx (.own p)) p (.ins A.aH dx [])):=λb o e=>by rw [aE (aJ e hp),aE (aJ e hdx)];exact e
  have p3:(upd (upd H1 dx (.own p)) p (.ins A.aH dx [])) p=some (.ins A.aH dx []):=aD;generalize upd (upd H1 dx (.own p)) p (.ins A.aH dx [])=H3 at S3 p3;have S03:=S1.trans S3
  have htr3:∀ t∈ts,FF H3 t:=λt ht=>⟨S03 _ _ (htr t ht).1,(htr t ht).2⟩
  have ref:∀ (D:ah) (w:bq),tW X D w->ws=[w]->((V9 H3 v/\w="count")\/∃ n:Nat,v=.int n/\1<=n/\n<=60/\Cs n [] ts=[w])->jj K C A X [.ref p,v,.ref W] H3 (λ_ _=>False) (λcls _ H2=>∃ (D:ah) (w:bq),cls=.ref D/\tW X D w/\ws=[w]/\bS H1 H2):=λD w hdw ew hd=>⟨p,dx,W,D,v,ts,w,rfl,p3,ct,S03 _ _ hW,htr3,hlen,hdw,hd,λH' fr=>⟨D,w,rfl,hdw,ew,λb o e=>fr b o (aJ e hp) (S3 _ _ e)⟩⟩
  rcases hc with ⟨hc,rfl⟩|⟨n,rfl,hn1,hn2,rfl⟩
  .exact .inr (ref X.kC "count" (.inr (.inr (.inr (.inr ⟨rfl,rfl⟩)))) rfl (.inl ⟨hc.imp id λ⟨a,xs,e1,e2⟩=>⟨a,xs,e1,S03 _ _ e2⟩,rfl⟩))
  .rcases Kt n ts [] with e|⟨w,e,_⟩
   .obtain ⟨h1,h2,_⟩:=MY e;refine .inl ⟨p,dx,W,n,ts.map qM,rfl,p3,ct,hn1,hn2,by rw [bz];exact S03 _ _ hW,We htr3 h1,ZX h2,by rw [af];lia,P1.same S3,λa T us as R H4 h4 _ P4 _ kp=>⟨rfl,?_⟩⟩;rw [e] at k;have fr:∀ b o,b≠Pt->H1 b=some o->H4 b=some o:=λb o hb e=>kp b o (aJ e hp) hb (S3 _ _ e);lk;exact k l H4 (fr _ _ (P1.ne g1 (λ_ z=>nomatch z)) g1) P4 λb o hb e=>fr b o hb (S1 _ _ e)
   .have hw:tW X (if w="place" then X.eF else if w="alike" then X.Alike else X.yE) w:=ZY e;exact .inr (ref _ w hw e (.inr ⟨n,rfl,hn1,hn2,e⟩))
 .rintro cls H2 σ' ⟨D,w,rfl,hdw,rfl,S2⟩ hs;refine ⟨D,rfl,hdw.em T,λb hb=>?_⟩;generalize eu_:upd _ b _=H3;obtain ⟨S3,g3⟩:=news eu_ hb
  match σ',hs with
  | [o0,o1,o2,o3],_ =>
   lk;refine ⟨b,D,w,rfl,g3,hdw,λq H4 S4 hq g4=>?_⟩;have S24:=S2.trans (S3.trans S4);lk;exact k q H4 g4 (P1.same S24) λb o _ e=>S24 _ _ (S1 _ _ e)
inductive cj (K:aa) (C:ah) (vs:List V) (H:Hp) (Q:VK) (E:XK):Prop
 | mk (n:Nat) (W:_) (ts:List Tg):vs=[.int n,.ref W]->H W=some (.lst (ts.map tV))->(∀ t∈ts,FF H t)->ts.length<=60->(∀ q H',bS H H'->H' q=some (.lst ((Cs n [] ts).map V.str))->Q (.ref q) H')->cj K C vs H Q E
theorem Dk:Rn (cj K C) (uM K C (bG K C)) ZD:=by
 rintro vs H Q E ⟨n,W,ts,rfl,hW,htr,hlen,k⟩;generalize hws:Cs n [] ts=ws at k;unfold uM;lk;refine sG λd hd=>?_;generalize eu_:upd _ d _=H1;obtain ⟨S1,g1⟩:=news eu_ hd;lk;unfold rB;lk;have hW1:=S1 _ _ hW;have nW:W≠d:=fA hW1 g1;have sm:∀ {H3:Hp},bf d H1 H3->bS H H3:=λB b o e=>B _ _ (S1 _ _ e) (aJ e hd)
 refine .inl ⟨⟨_,dh.of hW1⟩,jt (K:=K) (a:=W) (xs:=ts.map tV)
  (λi Z H3=>bf d H1 H3/\H3 d=some (.dT (Uc (λ_=>.bl true) ((ts.take i).map qM)))/\Cs n (((ts.take i).map qM).map sL) (ts.drop i)=ws/\∃ o3 o4 o5 o6,Z=[some (.int n),some (.ref W),some (.ref d),o3,o4,o5,o6])
  ⟨bf.refl _ _,g1,hws,_,_,_,_,rfl⟩ ?_ ?_ ?_⟩
 .rintro i Z H3 _ ⟨B,_⟩;exact dh.of (B _ _ hW1 nW)
 .rintro i z Z H3 hi ⟨B,g3,hdu,o3,o4,o5,o6,rfl⟩;obtain ⟨t,ht,rfl⟩:=gm hi;have hm:=aM ht;have hil:=(av.mp ht).1;obtain ⟨b0,q1,q2⟩:=htr t hm;have g4:=sm B _ _ b0
  have et:ts.take (i+1)=ts.take i++[t]:=by rw [ft,ht];rfl
  have ed:ts.drop i=t::ts.drop (i+1):=by rw [gQ hil,(av.mp ht).2]
  rw [ed] at hdu;unfold Cs at hdu;refine ⟨t.2.2.2,_,rfl,mX.of g4,rfl,?_⟩;lk;refine ⟨n,t.1,t.2.1,rfl,q1.th,q2.th,?_⟩;lk;refine ada ⟨_,rfl,?_⟩
  by_cases c:flt n t.1 t.2.1="none"
  .rw [if_pos c] at hdu;rw [decide_eq_true (congrArg V.str c)];refine gI ?_
   obtain ⟨x,y,hx,hy,hxy,e1,e2⟩:∃ x y:Nat,x<n/\y<n/\x≠y/\t.1=.int x/\t.2.1=.int y:=by
    rcases nu n t.1 t.2.1 with ⟨e,_⟩|⟨e,_⟩|⟨e,h⟩
    .rw [e] at c;exact absurd c (by decide +kernel)
    .rw [e] at c;exact absurd c (by decide +kernel)
    .exact h
   have elo:min x y=lo (qM t):=by unfold lo qM;rw [e1,e2,qL,qL]
   have eup:max x y=up (qM t):=by unfold up qM;rw [e1,e2,qL,qL]
   rw [e1,e2]
   have em1:(if (y:Int)<x then (y:Int) else x)=((lo (qM t):Nat):Int):=by rw [← elo];split<;>lia
   have em2:(if (y:Int)>x then (y:Int) else x)=((up (qM t):Nat):Int):=by rw [← eup];split<;>lia
   lk;rw [em1,em2];refine ⟨oq,λr hr=>?_⟩;generalize eu_:upd _ r _=H5;obtain ⟨S5,g5⟩:=news eu_ hr;have d5:=S5 _ _ g3;lk;refine .inr ⟨d,_,rfl,wU.t (k:=pk (lo (qM t)) (up (qM t))) d5 g5,⟨_,rfl,?_⟩⟩;rw [show (if false=true then !(gH (Uc (λ_=>V.bl true) ((ts.take i).map qM)) (pk (lo (qM t)) (up (qM t)))).isSome else (gH (Uc (λ_=>V.bl true) ((ts.take i).map qM)) (pk (lo (qM t)) (up (qM t)))).isSome)=decide (sL (qM t)∈((ts.take i).map qM).map sL) from OZ _ _ _];refine wx (λhk=>?_) λhk=>?_
   .rw [if_pos hk] at hdu;lk;refine ⟨oq,λq hq=>?_⟩;refine k q _ ((sm B).trans (S5.trans (bS.cc hq))) ?_;rw [← hdu];exact aD
   .rw [if_neg hk] at hdu;lk;rw [em1,em2];refine ⟨oq,λr2 hr2=>?_⟩;generalize eu_:upd _ r2 _=H6;obtain ⟨S6,g6⟩:=news eu_ hr2;refine .inr ⟨d,_,rfl,AC.t (k:=pk (lo (qM t)) (up (qM t))) (S6 _ _ d5) g6 (eL (m:=100) (by unfold Uc;rw [af,af,bO];lia)),?_⟩;refine ⟨λb o e hb=>?_,?_,?_,_,_,_,_,rfl⟩
    .rw [aE hb];exact S6 _ _ (S5 _ _ (B b o e hb))
    .rw [aD,uu _ (FG hk),et,aP];unfold Uc;rw [aP];rfl
    .rw [et,aP,aP];exact hdu
  .rw [if_neg c] at hdu;rw [decide_eq_false (λz=>c (V.str.inj z))];refine jX ?_;lk;refine ⟨oq,λq hq=>?_⟩;refine k q _ ((sm B).trans (bS.cc hq)) ?_;rw [← hdu];exact aD
 .rintro Z H3 ⟨B,g3,hdu,o3,o4,o5,o6,rfl⟩;rw [af,aan] at hdu;lk;refine ⟨oq,λq hq=>?_⟩;refine k q _ ((sm B).trans (bS.cc hq)) ?_;rw [← hdu];exact aD
end
variable {X:EC}
section
variable {X:EC}{mg:bq->Option ai}
inductive j7 (K:aa) (C:ah) (A:CA) (X:EC) (Pt:ah) (vs:List V) (H:Hp) (Q:VK) (E:XK):Prop
 | mk (p dx a:_) (n T:Nat) (ts as R v u:_):vs=[.ref p,v,u]->wD K C A->KP C A H p dx a n T ts as R->n<=60->ts.length<64->oJ Pt H->((∃ (D:ah) (w:bq),V8 X n (kl ts) v u false D/\tW X D w/\∀ q H',bS H H'->H' q=some (.lst [.str w])->Q (.ref q) H')\/∃ x y:Nat,x<n/\y<n/\x≠y/\v=.int x/\u=.int y/\(((min x y:Nat):Int),((max x y:Nat):Int))∈ts.map Ti.key/\∀ q ts' as' R' H',KP C A H' p dx a n T ts' as' R'->ts'.map Ti.key=(ts.map Ti.key).filter (λk=>decide (k≠(((min x y:Nat):Int),((max x y:Nat):Int))))->oJ Pt H'->Fm (p::Pt::fp a) H H'->H' q=some (.lst [])->Q (.ref q) H')->j7 K C A X Pt vs H Q E
theorem Ku (T:vZ K mg C A X):Rn (j7 K C A X Pt) (Cn K C A X (J0 (vg K C A Pt) (xF K C A X)) (fj K C X)) ZG:=by
 rintro vs H Q E ⟨p,dx,a,n,Tp,ts,as,R,v,u,rfl,ct,h,hn,hlen,hP,hc⟩;unfold Cn;lk;refine ⟨oq,λl hl=>?_⟩;generalize eu_:upd _ l _=H1;obtain ⟨S1,g1⟩:=news eu_ hl;have P1:=hP.same S1;have h1:=h.same S1;obtain ⟨w0,c1,c2,c3,c4,hw,hp⟩:=h1.ob;k_ne
 with_reducible refine pC ?_
 refine O0 ⟨λcls _ H2=>∃ (D:ah) (w:bq),cls=.ref D/\tW X D w/\bS H1 H2/\∀ q H',bS H H'->H' q=some (.lst [.str w])->Q (.ref q) H',?_,?_⟩
 .k_in;refine ⟨p,dx,_,rfl,hp,Ko,?_⟩;lk
  rcases hc with ⟨D,w,Cs,hdw,k⟩|⟨x,y,hx,hy,hxy,rfl,rfl,hk,k⟩
  .exact .inr ⟨p,dx,a,n,Tp,ts,as,R,v,u,D,rfl,ct,h1,Cs,λH' S=>⟨D,w,rfl,hdw,S,k⟩⟩
  .refine .inl ⟨p,dx,a,n,Tp,ts,as,R,x,y,rfl,ct,h1,hn,hx,hy,hxy,hk,hlen,P1,λq xs ts' as' R' H' gq h' ek P' F'=>?_⟩;lk;refine k l ts' as' R' H' h' ek P' ((Fm.of S1).trans F') (F' _ _ (λz=>?_) g1)
   rcases aq.mp z with z|z
   .exact (fA g1 hp) z
   .exact (aq.mp z).elim (P1.ne g1 (λ_ z=>nomatch z)) (h.lv.Dz hl)
 .rintro cls H2 σ' ⟨D,w,rfl,hdw,S2,k⟩ hs;refine ⟨D,rfl,hdw.em T,λb hb=>?_⟩;generalize eu_:upd _ b _=H3;obtain ⟨S3,g3⟩:=news eu_ hb
  match σ',hs with
  | [o0,o1,o2,o3,o4],_ =>
   lk;refine ⟨b,D,w,rfl,g3,hdw,λq H4 S4 hq g4=>?_⟩;lk;exact k q H4 (S1.trans (S2.trans (S3.trans S4))) g4
def wq (b:Bool):List bq:=if b then [] else ["place"]
def Wg (b:Bool):WM (wq b):=by
 cases b
 .exact .inr ⟨_,rfl,by decide +kernel⟩
 .exact .inl rfl
inductive iY (K:aa) (C:ah) (A:CA) (X:EC) (vs:List V) (H:Hp) (Q:VK) (E:XK):Prop
 | mk (p dx a:_) (n T:Nat) (ts as R:_) (w:Int) (v u:_) (b:Bool):vs=[.ref p,.int w,v,u]->wD K C A->KP C A H p dx a n T ts as R->n<=60->Th v->Th u->((w=2/\b=iE n v)\/((w=0\/w=1)/\b=(iE n v && iE n u)))->(∀ q H',bS H H'->H' q=some (.lst ((wq b).map V.str))->Q (.ref q) H')->iY K C A X vs H Q E
theorem FH (T:vZ K mg C A X):Rn (iY K C A X) (xA K C A X (J0 (pQ K C A) (nj K C A X)) (fj K C X) (J0 (vf K C A) (qJ K C A X)) (J0 (sH K C A) (vj K C A X))) ZE:=by
 rintro vs H Q E ⟨p,dx,a,n,Tp,ts,as,R,w,v,u,b,rfl,ct,h,hn,hv,hu,hb,k⟩;unfold xA;lk;refine ⟨oq,λl hl=>?_⟩;generalize eu_:upd _ l _=H1;obtain ⟨S1,g1⟩:=news eu_ hl;have h1:=h.same S1;obtain ⟨w0,c1,c2,c3,c4,hw,hp⟩:=h1.ob;have hdw:tW X X.eF "place":=.inl ⟨rfl,rfl⟩;k_ne
 with_reducible refine pC ?_
 refine O0 ⟨λcls _ H2=>cls=.ref X.eF/\bS H1 H2/\b=false,?_,?_⟩
 .have fin:b=true->∀ {H2:Hp},bS H1 H2->Q (.ref l) H2:=λeb {H2} S=>k l H2 (S1.trans S) (by rw [eb];exact S _ _ g1)
  have two:b=(iE n v && iE n u)->b=true->∃ x y:Nat,x<n/\y<n/\v=.int x/\u=.int y:=λe eb=>by
   rw [eb] at e;have e:=e.symm;rw [eG] at e;obtain ⟨x,hx,e1⟩:=qm e.1;obtain ⟨y,hy,e2⟩:=qm e.2;exact ⟨x,y,hx,hy,e1,e2⟩
  lk;refine wx (λc=>?_) λc=>?_
  .have c:w=0:=V.int.inj c
   have hb:b=(iE n v && iE n u):=by
    rcases hb with ⟨e,_⟩|⟨_,e⟩
    .lia
    .exact e
   k_in;refine ⟨p,dx,_,rfl,hp,Ko,?_⟩;lk
   cases eb:b with
   | false=>exact .inr ⟨p,dx,a,n,Tp,ts,as,R,v,u,rfl,ct,h1,hv,hu,hb.symm.trans eb,rfl,λ_ _ e=>e,rfl⟩
   | true =>
    obtain ⟨x,y,hx,hy,rfl,rfl⟩:=two hb eb;refine .inl ⟨p,dx,a,n,Tp,ts,as,R,x,y,rfl,ct,h1,hx,hy,?_⟩;lk;exact fin eb λ_ _ e=>e
  .lk;refine wx (λc'=>?_) λc'=>?_
   .have c':w=1:=V.int.inj c'
    have hb:b=(iE n v && iE n u):=by
     rcases hb with ⟨e,_⟩|⟨_,e⟩
     .lia
     .exact e
    k_in;refine ⟨p,dx,_,rfl,hp,Ko,?_⟩;lk
    cases eb:b with
    | false=>exact .inr ⟨p,dx,a,n,Tp,ts,as,R,v,u,rfl,ct,h1,hv,hu,hb.symm.trans eb,rfl,λ_ _ e=>e,rfl⟩
    | true =>
     obtain ⟨x,y,hx,hy,rfl,rfl⟩:=two hb eb;refine .inl ⟨p,dx,a,n,Tp,ts,as,R,x,y,rfl,ct,h1,hn,hx,hy,?_,λq H' S=>?_⟩
     .lk;exact fin eb λ_ _ e=>e
     .lk;exact fin eb S
   .have hb:b=iE n v:=by
     rcases hb with ⟨_,e⟩|⟨e|e,_⟩
     .exact e
     .exact absurd (congrArg V.int e) c
     .exact absurd (congrArg V.int e) c'
    k_in;refine ⟨p,dx,_,rfl,hp,Ko,?_⟩;lk
    cases eb:b with
    | false=>exact .inr ⟨p,dx,a,n,Tp,ts,as,R,v,rfl,ct,h1,hv,hb.symm.trans eb,rfl,λ_ _ e=>e,rfl⟩
    | true =>
     obtain ⟨x,hx,rfl⟩:=qm (hb.symm.trans eb);refine .inl ⟨p,dx,a,n,Tp,ts,as,R,x,rfl,ct,h1,hn,hx,λq ks hq _ _=>?_⟩;lk;exact fin eb (bS.cc hq)
 .rintro cls H2 σ' ⟨rfl,S2,eb⟩ hs;refine ⟨X.eF,rfl,hdw.em T,λb' hb'=>?_⟩;have S3:=bS.cc (o:=QF b' (.ref X.eF)) hb';have g3:(upd H2 b' (QF b' (.ref X.eF))) b'=some (QF b' (.ref X.eF)):=aD;generalize upd H2 b' (QF b' (.ref X.eF))=H3 at S3 g3
  match σ',hs with
  | [o0,o1,o2,o3,o4,o5],_ =>
   lk;refine ⟨b',_,"place",rfl,g3,hdw,λq H4 S4 hq g4=>?_⟩;lk;exact k q H4 (S1.trans (S2.trans (S3.trans S4))) (by rw [eb];exact g4)
inductive fP (K:aa) (C:ah) (A:CA) (X:EC) (vs:List V) (H:Hp) (Q:VK) (E:XK):Prop
 | mk (p dx a:_) (n T:Nat) (ts as R v u:_):vs=[.ref p,.int n,v,u]->wD K C A->KP C A H p dx a n T ts as R->n<=60->Th v->Th u->(∀ H',bS H H'->Q (.bl true) H')->fP K C A X vs H Q E
theorem yx:Rn (fP K C A X) (ql K C A (dZ K C) (iY K C A X)) ZI:=by
 rintro vs H Q E ⟨p,dx,a,n,Tp,ts,as,R,v,u,rfl,ct,h,hn,hv,hu,k⟩;unfold ql;lk;refine ⟨oq,λl hl=>?_⟩;generalize eu_:upd _ l _=H1;obtain ⟨S1,g1⟩:=news eu_ hl;k_ne
 with_reducible refine BA (λZ H2=>∃ d,bS H H2/\H2 d=some (.lst ((wq (iE n v)).map V.str))/\Z=[some (.ref p),some (.int n),some v,some u,some (.ref d)]) ?_ λgo=>?_
 rotate_left
 .lk;refine ⟨n,v,rfl,hv,?_⟩
  cases e:iE n v with
  | true=>exact ⟨true,rfl,gI (go _ _ ⟨l,S1,by rw [e];exact g1,rfl⟩)⟩
  | false =>
   refine ⟨false,rfl,jX ?_⟩;lk;refine ⟨oq,λd hd=>?_⟩;k_ne;exact go _ _ ⟨d,S1.trans (bS.cc hd),by rw [e];exact aD,rfl⟩
 rintro Z H2 ⟨d,S2,g2,rfl⟩;lk;refine ⟨p,dx,a,n,Tp,ts,as,R,2,v,u,_,rfl,ct,h.same S2,hn,hv,hu,.inl ⟨rfl,rfl⟩,λq H3 S3 g3=>?_⟩;have S03:=S2.trans S3;lk;refine (Wg _).ne g3 (S3 _ _ g2) ⟨_,rfl,gI ?_⟩;k_ne
 with_reducible refine BA (λZ H4=>∃ d,bS H H4/\H4 d=some (.lst ((wq (iE n v && iE n u)).map V.str))/\Z=[some (.ref p),some (.int n),some v,some u,some (.ref d)]) ?_ λgo=>?_
 rotate_left
 .lk;refine ⟨n,u,rfl,hu,?_⟩
  cases e:iE n u with
  | true=>exact ⟨true,rfl,gI (go _ _ ⟨d,S03,by rw [e,Bool.and_true];exact S3 _ _ g2,rfl⟩)⟩
  | false =>
   refine ⟨false,rfl,jX ?_⟩;lk;refine ⟨oq,λd hd=>?_⟩;k_ne;exact go _ _ ⟨d,S03.trans (bS.cc hd),by rw [e,LA];exact aD,rfl⟩
 rintro Z H4 ⟨d,S4,g4,rfl⟩;lk;refine ⟨p,dx,a,n,Tp,ts,as,R,0,v,u,_,rfl,ct,h.same S4,hn,hv,hu,.inr ⟨.inl rfl,rfl⟩,λq H5 S5 g5=>?_⟩;lk;refine (Wg _).eq g5 (S5 _ _ g4) ⟨_,rfl,jX ?_⟩;have S05:=S4.trans S5;lk;refine ⟨p,dx,a,n,Tp,ts,as,R,1,v,u,_,rfl,ct,h.same S05,hn,hv,hu,.inr ⟨.inr rfl,rfl⟩,λq H6 S6 g6=>?_⟩;lk;exact (Wg _).eq g6 (S6 _ _ (S5 _ _ g4)) (k _ (S05.trans S6))
end
variable {X:EC}
theorem KP.fm (h:KP C A H p dx a n T ts as R) (hP:oJ Pt H) (F:Fm (p::Pt::fp a) H H') {b:ah}{o:HO}(e:H b=some o) (h2:∀ x y z,o≠.ins x y z) (h3:∀ ps,o≠.tbl ps) (h4:b∉fp a):H' b=some o:=F _ _ (λz=>by
 obtain ⟨_,hp⟩:=h.p0
 rcases aq.mp z with rfl|z
 .rw [hp] at e;cases e;exact h2 _ _ _ rfl
 .exact (aq.mp z).elim (hP.ne e h3) h4) e
theorem KP.set (h:KP C A H p dx a n T ts as R) {d:ah}{u u':List (List gn×V)}(hd:H d=some (.dT u)) (hn:d∉a.L::fp a):KP C A (upd H d (.dT u')) p dx a n T ts as R:=by
 obtain ⟨w,c1,c2,c3,c4,hw,hp⟩:=h.ob
 have nd:∀ {b:ah}{o:HO},H b=some o->(∀ ks,o≠.dT ks)->(upd H d (.dT u')) b=some o:=λ{b o} e q=>by rw [aE];exact e;rintro rfl;rw [hd] at e;cases e;exact q _ rfl
 refine ⟨⟨w,c1,c2,c3,c4,hw,nd hp (λ_ z=>nomatch z)⟩,h.lv.keep (X:=[d]) (Fm.upd ar) (λx f e ⟨c,q,g,ef,_⟩ _ hm=>?_) (λb hb hm=>hn (ag _ (aC.mp hm▸hb))) (λhm=>hn (aC.mp hm▸ar)) (λb r _ e hm=>?_),h.iv,h.jn,h.tp⟩
 .rw [aC.mp hm,hd,ef] at e;cases e
 .rw [aC.mp hm,hd] at e;cases e
def oJ.set (hP:oJ Pt H) {d:ah}{u u':List (List gn×V)}(hd:H d=some (.dT u)):oJ Pt (upd H d (.dT u')):=hP.keep λb o h1 _ _ _ e=>by rw [aE];exact e;rintro rfl;rw [hd] at e;cases e;exact h1 _ rfl
theorem aby {q:ah}{α:Type} {f:α->V}{ws:List α}(g:H q=some (.lst (ws.map f))) (k:∀ H',bS H H'->Q (.bl (!ws.isEmpty)) H'):(l8 aQ) [] H λy H2=>abm K (.ref q) y H2 Q:=by
 lk;refine ⟨oq,λe he=>?_⟩;have S:=bS.cc (o:=.lst []) he;have g1:(upd H e (.lst [])) e=some (.lst []):=aD;have k:=k _ S;generalize upd H e (.lst [])=H1 at S g1 k
 cases ws with
 | nil=>exact .inl (Qr (.lst (dh.of (S _ _ g)) .nil) (.lst (dh.of g1) .nil) (v3 []) (v3 []) k)
 | cons u ws=>exact .inr ⟨q,e,_,_,rfl,rfl,S _ _ g,g1,by simp,k⟩
abbrev Pg:=V×V×ah
def wI (t:Pg):V:=.ref t.2.2
def MZ (H:Hp) (t:Pg):Prop:=H t.2.2=some (.tup [t.1,t.2.1])/\Tq t.1/\Tq t.2.1
def kd (ps:List (Int×Int)):List (List gn×V):=ps.map λp=>([bp p.1,bp p.2],.bl true)
def ZZ {p q:Int×Int}:([bp p.1,bp p.2]:List gn)=[bp q.1,bp q.2]↔p=q:=by
 constructor
 .intro e
  injection e with e1 e
  injection e with e2 _
  injection e1 with e1
  injection e2 with e2
  exact Ul e1 e2
 .intro e;rw [e]
theorem Q6 (ps:List (Int×Int)) (x y:Nat):(gH (kd ps) (pk x y)).isSome=decide (((x:Int),(y:Int))∈ps):=by
 rw [← pB,eZ,oK,decide_eq_true_iff];unfold kd
 constructor
 .rintro ⟨q,hq,e⟩;obtain ⟨u,hu,rfl⟩:=bo.mp hq;have e:u=((x:Int),(y:Int)):=ZZ.mp (of_decide_eq_true e);exact e▸hu
 .exact λh=>⟨_,aW h,decide_eq_true rfl⟩
theorem YB (ps:List (Int×Int)) (x y:Nat):pq (kd ps) (pk x y)=kd (ps.filter λk=>decide (k≠((x:Int),(y:Int)))):=by
 unfold pq kd;rw [xj]
 congr 1
 refine Zc λu _=>?_
 by_cases c:u=((x:Int),(y:Int))
 .subst c;simp [pk]
 .have:¬ ([bp u.1,bp u.2]:List gn)=pk x y:=λe=>c (ZZ.mp e);simp [c,this]
def ahD (c1 c2 c3 c4 c5 w:Int):PyData:=.tuple [.tuple [.int c1,.int c2,.int c3,.int c4,.int c5],.int w]
def Kv (c1 c2 c3 c4 c5 w:Int):yi (ahD c1 c2 c3 c4 c5 w):=⟨by simp [ahD,iK,f9],by simp [ahD,i5,ik]⟩
theorem Wh {z q:ah}{c1 c2 c3 c4 c5 w:Int}(hz:H z=some (.tup [.ref q,.int w])) (hq:H q=some (.tup [.int c1,.int c2,.int c3,.int c4,.int c5])):Rep K H (ahD c1 c2 c3 c4 c5 w) (.ref z):=.tup (.of hz) (.cons (.tup (.of hq) (.cons (.int _) (.cons (.int _) (.cons (.int _) (.cons (.int _) (.cons (.int _) .nil)))))) (.cons (.int _) .nil))
theorem lex2 {a b c d:Int}(h:iI [c,d] [a,b]=false):xl (a,b) (c,d):=by
 unfold iI at h
 by_cases e:c=a
 .rw [if_pos e] at h;unfold iI at h
  by_cases e':d=b
  .exact .inr ⟨e.symm,by show b<=d;lia⟩
  .rw [if_neg e'] at h;have:=of_decide_eq_false h;exact .inr ⟨e.symm,by show b<=d;lia⟩
 .rw [if_neg e] at h;have:=of_decide_eq_false h;exact .inl (by show a<c;lia)
def YC {L M:List (Int×Int)}(p:L.Perm M) (h1:L.Pairwise xl) (h2:M.Pairwise xl):L=M:=by
 refine p.eq_of_pairwise (λa b _ _ q1 q2=>?_) h1 h2;unfold xl at q1 q2;exact Ul (by lia) (by lia)
theorem Wi:∀ {ys:List V}{us:List (Ti×ah)},ys.length=us.length->(∀ (i:Nat) (y:V),ys[i]?=some y->∃ u c,us[i]?=some u/\y=.ref c/\H c=some (.tup [.int u.1.x,.int u.1.y]))->∃ zs:List Zt,ys=zs.map kM/\(∀ z∈zs,iL H z)/\zs.map zP=us.map λu=>u.1.key
 | [],[],_,_=>⟨[],rfl,(λz hz=>nomatch hz),rfl⟩
 | y::ys,u::us,hl,h=>by
  obtain ⟨u',c,e1,rfl,hc⟩:=h 0 y rfl;cases e1
  obtain ⟨zs,e,hz,ez⟩:=Wi (ys:=ys) (us:=us) (by simpa using hl) λi y hy=>by simpa using h (i+1) y (by simpa using hy)
  refine ⟨((u.1.x:Int),(u.1.y:Int),c)::zs,by rw [e];rfl,λz hm=>?_,by rw [cn,cn,ez];rfl⟩
  rcases aq.mp hm with rfl|hm
  .exact hc
  .exact hz z hm
section
variable {X:EC}
structure Dd (C:ah) (A:CA) (Pt p dx d P:ah) (a:AL) (n T:Nat) (vs:List Pg) (ts:List Ti) (ps:List (Int×Int)) (H:Hp):Prop where
 kp:∃ as R,KP C A H p dx a n T ts as R
 hP:oJ Pt H
 hd:H d=some (.dT (kd ps))
 pm:ps.Perm (ts.map Ti.key)
 len:ts.length<64
 g:H P=some (.lst (vs.map wI))
 fl:∀ t∈vs,MZ H t
theorem Dd.same {d P:ah}{vs:List Pg}{ps:List (Int×Int)}(h:Dd C A Pt p dx d P a n T vs ts ps H) (S:bS H H'):Dd C A Pt p dx d P a n T vs ts ps H' :=
 ⟨let ⟨s,r,k⟩:=h.kp;⟨s,r,k.same S⟩,h.hP.same S,S _ _ h.hd,h.pm,h.len,S _ _ h.g,λt ht=>⟨S _ _ (h.fl t ht).1,(h.fl t ht).2⟩⟩
inductive cD (K:aa) (C:ah) (A:CA) (X:EC) (Pt:ah) (vs:List V) (H:Hp) (Q:VK) (E:XK):Prop
 | mk (p dx d P a:_) (n T:Nat) (ws:List Pg) (ts:_) (ps:List (Int×Int)):vs=[.ref p,.int n,.ref P,.ref d]->wD K C A->Dd C A Pt p dx d P a n T ws ts ps H->n<=60->d∉a.L::fp a->P∉fp a->(∀ H',Q (.bl true) H')->cD K C A X Pt vs H Q E
abbrev sgD (p:ah) (n:Int) (P d:ah) (v u:V) (f:bq) (dl:ah) (o8 o9:Option V):L2.St:=[some (.ref p),some (.int n),some (.ref P),some (.ref d),some v,some u,some (.str f),some (.ref dl),o8,o9]
theorem FI:Rn (cD K C A X Pt) (xB K C A (bG K C) (fW K C A) (eM K C A) (j7 K C A X Pt) (fP K C A X) (gJ K C A)) nl_5:=by
 rintro vs H Q E ⟨p,dx,d,P,a,n,T,ws,ts0,ps0,rfl,ct,h0,hn,dn,Pn,k⟩;unfold xB;k_ne;unfold tj;lk;refine .inl ⟨⟨_,dh.of h0.g⟩,jt (K:=K) (a:=P) (xs:=ws.map wI) (λi Z H3=>∃ ts ps o4 o5 o6 o7 o8 o9,Dd C A Pt p dx d P a n T ws ts ps H3/\Z=[some (.ref p),some (.int n),some (.ref P),some (.ref d),o4,o5,o6,o7,o8,o9]) ⟨ts0,ps0,_,_,_,_,_,_,h0,rfl⟩ ?_ ?_ ?_⟩
 .rintro i Z H3 _ ⟨ts,ps,_,_,_,_,_,_,h3,_⟩;exact dh.of h3.g
 .rintro i z Z H3 hi ⟨ts,ps,o4,o5,o6,o7,o8,o9,h3,rfl⟩;obtain ⟨t,ht,rfl⟩:=gm hi;obtain ⟨b0,q1,q2⟩:=h3.fl t (aM ht);obtain ⟨v,u,ta⟩:=t;refine ⟨ta,_,rfl,mX.of b0,rfl,?_⟩;lk;refine ⟨n,v,u,rfl,q1.th,q2.th,?_⟩;lk;refine ⟨oq,λdl hdl=>?_⟩;generalize eu_:upd _ dl _=H4;obtain ⟨S4,g4⟩:=news eu_ hdl;have h4:=h3.same S4;k_ne
  with_reducible refine BA (λZ H5=>∃ (dl:ah) (ps':List (Int×Int)) (o8:Option V),oJ Pt H5/\H5 d=some (.dT (kd ps'))/\H5 P=some (.lst (ws.map wI))/\(∀ t∈ws,MZ H5 t)/\(∃ as R,KP C A H5 p dx a n T ts as R) /\
   ((∃ (D:ah) (w:bq),V8 X n (kl ts) v u false D/\tW X D w/\H5 dl=some (.lst [.str w])/\ps'=ps)\/∃ x y:Nat,x<n/\y<n/\x≠y/\v=.int x/\u=.int y/\(((min x y:Nat):Int),((max x y:Nat):Int))∈ts.map Ti.key/\H5 dl=some (.lst [])/\ps'=ps.filter (λk=>decide (k≠(((min x y:Nat):Int),((max x y:Nat):Int)))))/\Z=sgD p n P d v u (flt n v u) dl o8 o9) ?_ λgo=>?_
  rotate_left
  .lk;refine ZW ⟨_,rfl,?_⟩
   rcases nu n v u with ⟨ef,hpl⟩|⟨ef,x,hx,e1,e2⟩|⟨ef,x,y,hx,hy,hxy,e1,e2⟩
   .rw [ef] at g4 ⊢;rw [decide_eq_false λz=>absurd (V.str.inj z) (by decide +kernel)];exact gI (go _ _ ⟨dl,ps,_,h4.hP,h4.hd,h4.g,h4.fl,h4.kp,.inl ⟨_,_,.inl ⟨rfl,q1.th,q2.th,hpl⟩,.inl ⟨rfl,rfl⟩,g4,rfl⟩,by rw [ef];rfl⟩)
   .rw [ef] at g4 ⊢;rw [decide_eq_false λz=>absurd (V.str.inj z) (by decide +kernel)];exact gI (go _ _ ⟨dl,ps,_,h4.hP,h4.hd,h4.g,h4.fl,h4.kp,.inl ⟨_,_,.inr (.inl ⟨rfl,x,hx,e1,e2⟩),.inr (.inl ⟨rfl,rfl⟩),g4,rfl⟩,by rw [ef];rfl⟩)
   .rw [ef];rw [decide_eq_true rfl];subst e1 e2;refine jX ?_;lk;refine ⟨oq,λd2 hd2=>?_⟩;generalize eu_:upd _ d2 _=H5;obtain ⟨S5,g5⟩:=news eu_ hd2;lk;rw [show (if (y:Int)<x then (y:Int) else x)=((min x y:Nat):Int) by split<;>lia,show (if (y:Int)>x then (y:Int) else x)=((max x y:Nat):Int) by split<;>lia];refine ⟨oq,λr hr=>?_⟩;generalize eu_:upd _ r _=H6;obtain ⟨S6,g6⟩:=news eu_ hr;have h6:=h4.same (S5.trans S6);obtain ⟨as6,R6,k6⟩:=h6.kp;lk;refine .inr ⟨d,_,rfl,wU.t (k:=pk (min x y) (max x y)) h6.hd g6,⟨_,rfl,?_⟩⟩;rw [show (if false=true then !(gH (kd ps) (pk (min x y) (max x y))).isSome else (gH (kd ps) (pk (min x y) (max x y))).isSome)=decide ((((min x y:Nat):Int),((max x y:Nat):Int))∈ps) from Q6 _ _ _];refine wx (λhk=>?_) λhk=>?_
    .have hv:∃ o,gH (kd ps) (pk (min x y) (max x y))=some o:=rZ.mp (by rw [Q6,decide_eq_true hk]);obtain ⟨o,hv⟩:=hv;lk;refine ⟨oq,λd3 hd3=>?_⟩;generalize eu_:upd _ d3 _=H7;obtain ⟨S7,g7⟩:=news eu_ hd3;have h7:=h6.same S7;obtain ⟨as7,R7,k7⟩:=h7.kp
     have nd:∀ {b:ah}{o:HO}{u:List (List gn×V)},H7 b=some o->(∀ ks,o≠.dT ks)->(upd H7 d (.dT u)) b=some o:=λ{b o u} e q=>by rw [aE];exact e;rintro rfl;rw [h7.hd] at e;cases e;exact q _ rfl
     lk;refine ⟨.inr (.inr (.inl ⟨rfl,.inr ⟨_,h7.hd⟩⟩)),?_⟩;lk;refine ⟨d,_,pk (min x y) (max x y),r,o,rfl,rfl,h7.hd,S7 _ _ g6,hv,?_⟩;rw [YB];exact go _ _ ⟨d3,_,_,h7.hP.set h7.hd,aD,nd h7.g (λ_ z=>nomatch z),λt ht=>⟨nd (h7.fl t ht).1 (λ_ z=>nomatch z),(h7.fl t ht).2⟩,⟨_,_,k7.set h7.hd dn⟩,.inr ⟨x,y,hx,hy,hxy,rfl,rfl,h7.pm.mem_iff.mp hk,nd g7 (λ_ z=>nomatch z),rfl⟩,by rw [ef];rfl⟩
    .refine go _ _ ⟨d2,ps,_,h6.hP,h6.hd,h6.g,h6.fl,h6.kp,.inl ⟨_,_,.inr (.inr ⟨x,y,rfl,rfl,hx,hy,hxy,?_,rfl⟩),.inr (.inr (.inr (.inl ⟨rfl,rfl⟩))),S6 _ _ g5,rfl⟩,by rw [ef];rfl⟩;rw [Q3 λhm=>hk (h6.pm.mem_iff.mpr hm)];rfl
  rintro Z H5 ⟨dl,ps',o8,P5,d5,gP5,fl5,⟨as5,R5,k5⟩,hc,rfl⟩;obtain ⟨w0,c1,c2,c3,c4,hw,hp5⟩:=k5.ob;k_in;refine ⟨p,dx,_,rfl,hp5,Ko,?_⟩;lk;refine ⟨p,dx,a,n,T,ts,as5,R5,w0.1,c1,c2,c3,c4,rfl,ct,k5,hp5,h4.len,λac H6 hac gac S6=>?_⟩;have k6:=k5.same S6;generalize hc5:(ts.map λt=>(T:Int)-t.dj).sum=c5 at gac;k_in;refine ⟨p,dx,_,rfl,S6 _ _ hp5,Ko,?_⟩;lk;refine ⟨p,dx,a,n,T,ts,as5,R5,rfl,ct,k6,hn,h4.len,λH7 S7=>?_⟩;lk;refine ⟨oq,λza hza=>?_⟩;generalize eu_:upd _ za _=H8;obtain ⟨S8,g8⟩:=news eu_ hza;have S78:=S7.trans S8;have S58:=S6.trans S78;have ga8:=S78 _ _ gac;have k8:=k5.same S58;have P8:=P5.same S58;k_ne
  with_reducible refine BA (λZ H9=>∃ (ts':List Ti) (wd:List bq),Dd C A Pt p dx d P a n T ws ts' ps' H9/\H9 dl=some (.lst (wd.map V.str))/\(wd=[]\/bS H8 H9/\ts'=ts)/\Z=sgD p n P d v u (flt n v u) dl o8 (some (.ref za))) ?_ λgo=>?_
  rotate_left
  .lk
   rcases hc with ⟨D,w,Cs,hdw,gdl,rfl⟩|⟨x,y,hx,hy,hxy,rfl,rfl,hk,gdl,rfl⟩
   .refine ⟨p,dx,a,n,T,ts,as5,R5,v,u,rfl,ct,k8,hn,h4.len,P8,.inl ⟨D,w,Cs,hdw,λq H9 S9 g9=>?_⟩⟩;have S59:=S58.trans S9;lk;refine WM.ne (ws:=[w]) (.inr ⟨w,rfl,hdw.ok⟩) g9 (S59 _ _ gdl) ⟨_,rfl,gI ?_⟩;lk;refine ⟨p,dx,a,n,T,ts,as5,R5,v,u,rfl,ct,k5.same S59,hn,q1.th,q2.th,λH10 S10=>⟨true,rfl,gI ?_⟩⟩;have S5A:=S59.trans S10;exact go _ _ ⟨ts,[w],⟨⟨_,_,k5.same S5A⟩,P5.same S5A,S5A _ _ d5,h4.pm,h4.len,S5A _ _ gP5,λt ht=>⟨S5A _ _ (fl5 t ht).1,(fl5 t ht).2⟩⟩,S5A _ _ gdl,.inr ⟨S9.trans S10,rfl⟩,rfl⟩
   .refine ⟨p,dx,a,n,T,ts,as5,R5,.int x,.int y,rfl,ct,k8,hn,h4.len,P8,.inr ⟨x,y,hx,hy,hxy,rfl,rfl,hk,λq ts' as' R' H9 k9 ek P9 F9 g9=>?_⟩⟩
    have nfa:dl∉fp a:=λhm=>by
     rcases k5.lv.kind hm with ⟨ks,e⟩|⟨bs,hl,e⟩
     .rw [gdl] at e;cases e
     .rw [gdl] at e;have n1:=k5.lv.n1
      cases bs with
      | nil=>rw [← hl] at n1;cases n1
      | cons b bs=>cases e
    have kf:∀ {b:ah}{o:HO},H5 b=some o->(∀ x y z,o≠.ins x y z)->(∀ ps,o≠.tbl ps)->b∉fp a->H9 b=some o:=λe h2 h3 h4=>k8.fm P8 F9 (S58 _ _ e) h2 h3 h4;have gdl9:=kf gdl (λ_ _ _ z=>nomatch z) (λ_ z=>nomatch z) nfa;lk;refine WM.ne (ws:=[]) (.inl rfl) g9 gdl9 ⟨_,rfl,gI ?_⟩;lk;refine ⟨p,dx,a,n,T,ts',as',R',.int x,.int y,rfl,ct,k9,hn,q1.th,q2.th,λH10 S10=>⟨true,rfl,gI ?_⟩⟩
    have h9:Dd C A Pt p dx d P a n T ws ts' (ps.filter λk=>decide (k≠(((min x y:Nat):Int),((max x y:Nat):Int)))) H9:=by
     refine ⟨⟨_,_,k9⟩,P9,kf d5 (λ_ _ _ z=>nomatch z) (λ_ z=>nomatch z) (λz=>dn (ag _ z)),by rw [ek];exact h4.pm.filter _,?_,kf gP5 (λ_ _ _ z=>nomatch z) (λ_ z=>nomatch z) Pn,λt ht=>⟨kf (fl5 t ht).1 (λ_ _ _ z=>nomatch z) (λ_ z=>nomatch z) (k5.lv.yH (fl5 t ht).1),(fl5 t ht).2⟩⟩;have:=congrArg eW ek;rw [af] at this;have:=dE (λk=>decide (k≠(((min x y:Nat):Int),((max x y:Nat):Int)))) (ts.map Ti.key);rw [af] at this;have:=h4.len;lia
    exact go _ _ ⟨ts',[],h9.same S10,S10 _ _ gdl9,.inl rfl,rfl⟩
  rintro Z H9 ⟨ts',wd,h9,gd9,hs9,rfl⟩
  with_reducible refine BA (λZ H10=>Dd C A Pt p dx d P a n T ws ts' ps' H10/\Z=sgD p n P d v u (flt n v u) dl o8 (some (.ref za))) ?_ λgo=>?_
  rotate_left
  .k_ne;k_ne;k_ne;k_ne;k_ne
   refine aby gd9 λH10 S10=>⟨_,rfl,?_⟩
   rcases hs9 with rfl|⟨S89,rfl⟩
   .exact gI (gI (go _ _ ⟨h9.same S10,rfl⟩))
   .have SA:=S89.trans S10;have kA:=k8.same SA;have pA:=SA _ _ (S58 _ _ hp5)
    cases wd with
    | nil=>exact gI (gI (go _ _ ⟨h9.same S10,rfl⟩))
    | cons w wd =>
     refine jX ?_;k_in;refine ⟨p,dx,_,rfl,pA,Ko,?_⟩;lk;refine ⟨p,dx,a,n,T,ts',as5,R5,w0.1,c1,c2,c3,c4,rfl,ct,kA,pA,h4.len,λac2 HB hac2 gac2 SB=>?_⟩;rw [hc5] at gac2;k_in;refine ⟨p,dx,_,rfl,SB _ _ pA,Ko,?_⟩;lk;refine ⟨p,dx,a,n,T,ts',as5,R5,rfl,ct,kA.same SB,hn,h4.len,λHC SC=>?_⟩;lk;refine ⟨oq,λzb hzb=>?_⟩;generalize eu_:upd _ zb _=HD;obtain ⟨SD,gD⟩:=news eu_ hzb;have SCD:=SC.trans SD;have SAD:=SA.trans (SB.trans SCD);lk;refine Qr (Wh gD (SCD _ _ gac2)) (Wh (SAD _ _ g8) (SAD _ _ ga8)) (Kv _ _ _ _ _ _) (Kv _ _ _ _ _ _) ?_;rw [yP _ (Kv _ _ _ _ _ _).lay];exact ⟨_,rfl,gI (go _ _ ⟨h9.same (S10.trans (SB.trans SCD)),rfl⟩)⟩
  rintro Z H10 ⟨h10,rfl⟩;obtain ⟨asA,RA,kA⟩:=h10.kp;obtain ⟨w1,b1,b2,b3,b4,hw1,hpA⟩:=kA.ob;k_in;refine ⟨p,dx,_,rfl,hpA,Ko,?_⟩;lk;refine ⟨p,dx,a,n,T,ts',asA,RA,rfl,ct,kA,h10.len,λq us HB hq gq fl pm SB=>?_⟩
  have hul:us.length=ts'.length:=by have:=pm.length_eq;rwa [af] at this
  have hl64:=h10.len;refine ⟨q,rfl,.inl ⟨⟨_,dh.of gq⟩,λacc hacc=>?_⟩⟩;refine y9 (λi y H=>∃ u c,us[i]?=some u/\y=.ref c/\H c=some (.tup [.int u.1.x,.int u.1.y])) (λZ=>∃ o,Z=[o]) (dh.of gq) hacc ⟨_,rfl⟩ (by rw [af];lia) (λi y H1 H2 ws g B ⟨u,c,e1,e2,e3⟩=>⟨u,c,e1,e2,B _ _ e3 (fA e3 g)⟩) (λi x σ' H' G hi hx S' hσ go=>?_) λys HC hyl gy SC hys=>?_
  .obtain ⟨o,rfl⟩:=hσ;obtain ⟨u,hu,rfl⟩:=gm hx;have r:=S' _ _ (fl u (aM hu));lk;refine kY (mX.of r) (v:=.int u.1.x) rfl ?_;lk;refine kY (mX.of r) (v:=.int u.1.y) rfl ?_;refine ⟨oq,λc hc=>?_⟩;exact go _ _ _ ⟨_,rfl⟩ (bS.cc hc) ⟨u,c,hu,rfl,aD⟩
  rw [af] at hyl;obtain ⟨zs,rfl,pz,ez⟩:=Wi hyl hys;rw [af] at hyl;lk;refine ⟨acc,zs.map (λz=>(([z.1,z.2.1],z.2.2):Zn)),[false],rfl,by rw [bz];exact dh.of gy,λz hz=>?_,by rw [af];lia,λl zs' hl hperm hso=>?_⟩
  .obtain ⟨z',hz',rfl⟩:=bo.mp hz;exact ⟨_,pz z' hz',.int _ (.int _ .nil)⟩
  obtain ⟨zs1,hp1,rfl⟩:=Fz hperm.symm zs rfl;have SD:=bS.cc (o:=.lst ((zs1.map (λz=>(([z.1,z.2.1],z.2.2):Zn))).map mj)) hl
  have gD:(upd HC l (.lst ((zs1.map (λz=>(([z.1,z.2.1],z.2.2):Zn))).map mj))) l=some (.lst (zs1.map kM)):=by rw [aD,bz];rfl
  generalize upd HC l (.lst ((zs1.map (λz=>(([z.1,z.2.1],z.2.2):Zn))).map mj))=HD at SD gD;have S0D:bS H10 HD:=SB.trans (SC.trans SD)
  have hpl:ps'.length=ts'.length:=by have:=h10.pm.length_eq;rwa [af] at this
  lk;refine ⟨d,kd ps',rfl,S0D _ _ h10.hd,λq hq=>?_,by unfold kd;rw [af];lia,λl2 zs2 hl2 pz2 pm2 so2=>?_⟩
  .obtain ⟨k,hk,rfl⟩:=bo.mp hq;exact ⟨k.1,k.2,rfl⟩
  have SE:=bS.cc (o:=.lst (zs2.map kM)) hl2
  have e:zs1.map zP=zs2.map zP:=by
   refine YC ?_ (kJ.mpr ((kJ.mp hso).imp λh=>lex2 h)) (kJ.mpr so2)
   have a1:(zs1.map zP).Perm (ts'.map Ti.key):=by
    refine (hp1.map zP).trans ?_;rw [ez];have:=pm.map Ti.key
    rwa [bz] at this
   have a2:=pm2.map fk;unfold kd at a2;rw [bz,bz,bz] at a2;have a2:(zs2.map zP).Perm (ps'.map id):=a2;rw [List.map_id] at a2;exact a1.trans (h10.pm.symm.trans a2.symm)
  refine Qr (Kb (SE _ _ gD) λz hz=>SE _ _ (SD _ _ (pz z (hp1.mem_iff.mp hz)))) (Kb aD λz hz=>SE _ _ (pz2 z hz)) (v3 _) (v3 _) ?_;rw [abr e];exact ⟨_,rfl,gI ⟨ts',ps',_,_,_,_,_,_,h10.same (S0D.trans SE),rfl⟩⟩
 .rintro Z H3 ⟨ts,ps,o4,o5,o6,o7,o8,o9,h3,rfl⟩;lk;exact k _
end
theorem O1:∀ {ys:List V},(∀ (i:Nat) (y:V),ys[i]?=some y->∃ t,y=wI t/\MZ H t)->∃ ws:List Pg,ys=ws.map wI/\∀ t∈ws,MZ H t
 | [],_=>⟨[],rfl,(λz hz=>nomatch hz)⟩
 | y::ys,h=>by
  obtain ⟨t,rfl,ht⟩:=h 0 y rfl;obtain ⟨ws,e,hz⟩:=O1 (ys:=ys) λi y hy=>h (i+1) y (by simpa using hy);refine ⟨t::ws,by rw [e];rfl,λz hm=>?_⟩
  rcases aq.mp hm with rfl|hm
  .exact ht
  .exact hz z hm
section
variable {X:EC}
theorem adb {s1 s2 s3 s5 s6 s7:Sp}{D:r9}{s q:ah}{cs:List Int}{z:Int}(hn1:1<=n) (hq:H q=some (.lst (cs.map V.int))) (hl:H l=some (.lst [])) (nq:q≠l) (hc:cs.length<=20)
  (fin:∀ (ts:List Tg) H' o5 o6 o7,bf l H H'->H' l=some (.lst (ts.map tV))->(∀ t∈ts,FF H' t)->ts.length<=20->D.nx [some (.ref s),some (.int z),some (.int n),some (.ref q),some (.ref l),o5,o6,o7,none,none,none,none,none,none] H') :
  Fi K C A s1 s2 s3 (cI K C) s5 s6 s7 D [some (.ref s),some (.int z),some (.int n),some (.ref q),some (.ref l),none,none,none,none,none,none,none,none,none] H:=by
 have p30:(0:Int)<10^(30:Int).toNat:=by decide
 have hpw:LM 10 30:=⟨by decide,by decide,by decide⟩
 unfold Fi;lk;refine Ox (dh.of hq) ?_;lk;refine ⟨by lia,by lia,RM (λi Z H1=>∃ (ts:List Tg) (o5 o6 o7:Option V),Z=[some (.ref s),some (.int z),some (.int n),some (.ref q),some (.ref l),o5,o6,o7,none,none,none,none,none,none]/\bf l H H1/\H1 l=some (.lst (ts.map tV))/\(∀ t∈ts,FF H1 t)/\ts.length=i) ⟨[],_,_,_,rfl,bf.refl _ _,hl,(λz hz=>nomatch hz),rfl⟩ ?_ ?_⟩
 .rintro i Z H1 hi ⟨ts,o5,o6,o7,rfl,B,g,ht,hi'⟩
  have hil:i<cs.length:=by lia
  have q1:=B _ _ hq nq;have g0:=aw hil;lk;refine IL (dh.of q1) (j:=i) (by lia) g0 ?_;lk;refine ⟨_,n,rfl,hn1,λt v u H2 hv hu S2 g2=>?_⟩;refine A9 (.of g2) rfl ?_;lk;refine ⟨.inl ⟨rfl,_,dh.of (S2 _ _ g)⟩,?_⟩;lk;refine IL (dh.of (S2 _ _ q1)) (j:=i) (by lia) g0 ?_;lk;refine ⟨oq,λr hr=>?_⟩;generalize eu_:upd _ r _=H3;obtain ⟨S3,g3⟩:=news eu_ hr;have S13:=S2.trans S3;have l3:=S13 _ _ g;lk;refine qY l3 (eL (m:=100) (by rw [af];lia)) ?_
  have nl:∀ {b:ah}{xs:List V},H3 b=some (.tup xs)->(upd H3 l (.lst (ts.map tV++[.ref r]))) b=some (.tup xs):=λ{b xs} e=>by rw [aE];exact e;rintro rfl;rw [l3] at e;cases e
  refine ⟨ts++[(v,u,cs[i]%10^(30:Int).toNat,r)],_,_,_,rfl,λb o e hb=>by rw [aE hb];exact S13 _ _ (B _ _ e hb),by rw [aD,aP];rfl,λt hm=>?_,by rw [br,hi'];rfl⟩
  rcases aT.mp hm with hm|hm
  .exact ⟨nl (S13 _ _ (ht t hm).1),(ht t hm).2⟩
  .rw [aC.mp hm];exact ⟨nl g3,hv,hu⟩
 .rintro Z H1 ⟨ts,o5,o6,o7,rfl,B,g,ht,hi'⟩;exact fin ts H1 _ _ _ B g ht (by lia)
theorem ade {s1 s2 s3 s4 s5 s6:Sp}{D:r9}{s q d w:ah}{z:Int}{ts:List Tg}{o5 o6 o7 o8:Option V}(hl:H l=some (.lst (ts.map tV))) (ht:∀ t∈ts,FF H t) (hd:H d=some (.dT [])) (hw:H w=some (.lst [])) (nl:l≠w) (hlen:ts.length<=20)
  (fin:∀ (gs:List Tr) H' o6 o7 o11,(∀ b o,b≠d->b≠w->H b=some o->H' b=some o)->H' d=some (.dT (kd (gs.map sL)))->H' w=some (.lst (gs.map Wb))->(∀ t∈gs,Wc n H' t)->(gs.map sL).Nodup->gs.length<=20->D.nx [some (.ref s),some (.int z),some (.int n),some (.ref q),some (.ref l),o5,o6,o7,o8,some (.ref d),some (.ref w),o11,none,none] H') :
  Fj K C A s1 s2 s3 s4 s5 s6 (bG K C) D [some (.ref s),some (.int z),some (.int n),some (.ref q),some (.ref l),o5,o6,o7,o8,some (.ref d),some (.ref w),none,none,none] H:=by
 have nld:l≠d:=fA hl hd;unfold Fj;lk;refine .inl ⟨⟨_,dh.of hl⟩,jt (K:=K) (a:=l) (xs:=ts.map tV) (λi Z H3=>∃ (gs:List Tr) (o6 o7 o11:Option V),Z=[some (.ref s),some (.int z),some (.int n),some (.ref q),some (.ref l),o5,o6,o7,o8,some (.ref d),some (.ref w),o11,none,none]/\(∀ b o,b≠d->b≠w->H b=some o->H3 b=some o)/\H3 d=some (.dT (kd (gs.map sL)))/\H3 w=some (.lst (gs.map Wb))/\(∀ t∈gs,Wc n H3 t)/\(gs.map sL).Nodup/\gs.length<=i) ⟨[],_,_,_,rfl,λ_ _ _ _ e=>e,hd,hw,(λz hz=>nomatch hz),jr,aB _⟩ ?_ ?_ ?_⟩
 .rintro i Z H3 _ ⟨gs,_,_,_,_,B,_⟩;exact dh.of (B _ _ nld nl hl)
 .rintro i v Z H3 hi ⟨gs,o6,o7,o11,rfl,B,d3,w3,tr,nd,hgl⟩;obtain ⟨t,hti,rfl⟩:=gm hi;have hil:=(av.mp hti).1;obtain ⟨b0,q1,q2⟩:=ht t (aM hti);have g4:=B _ _ (fA b0 hd) (fA b0 hw) b0;refine ⟨t.2.2.2,_,rfl,mX.of g4,rfl,?_⟩;lk;refine ⟨n,t.1,t.2.1,rfl,q1.th,q2.th,?_⟩;lk;refine ZW ⟨_,rfl,?_⟩
  rcases nu n t.1 t.2.1 with ⟨ef,_⟩|⟨ef,_⟩|⟨ef,x,y,hx,hy,hxy,e1,e2⟩
  .rw [ef,decide_eq_false λz=>absurd (V.str.inj z) (by decide +kernel)];exact gI (gI ⟨gs,_,_,_,rfl,B,d3,w3,tr,nd,by lia⟩)
  .rw [ef,decide_eq_false λz=>absurd (V.str.inj z) (by decide +kernel)];exact gI (gI ⟨gs,_,_,_,rfl,B,d3,w3,tr,nd,by lia⟩)
  .rw [ef,decide_eq_true rfl,e1,e2]
   have em1:(if (y:Int)<x then (y:Int) else x)=((min x y:Nat):Int):=by split<;>lia
   have em2:(if (y:Int)>x then (y:Int) else x)=((max x y:Nat):Int):=by split<;>lia
   refine jX ?_;lk;rw [em1,em2];refine ⟨oq,λr hr=>?_⟩;generalize eu_:upd _ r _=H5;obtain ⟨S5,g5⟩:=news eu_ hr;have d5:=S5 _ _ d3;lk;refine .inr ⟨d,_,rfl,wU.t (k:=pk (min x y) (max x y)) d5 g5,⟨_,rfl,?_⟩⟩;rw [show (if true=true then !(gH (kd (gs.map sL)) (pk (min x y) (max x y))).isSome else (gH (kd (gs.map sL)) (pk (min x y) (max x y))).isSome)=!decide ((((min x y:Nat):Int),((max x y:Nat):Int))∈gs.map sL) from congrArg (!·) (Q6 _ _ _)]
   by_cases hk:(((min x y:Nat):Int),((max x y:Nat):Int))∈gs.map sL
   .rw [decide_eq_true hk];exact gI ⟨gs,_,_,_,rfl,λb o h1 h2 e=>S5 _ _ (B b o h1 h2 e),d5,S5 _ _ w3,λt ht=>⟨S5 _ _ (tr t ht).1,(tr t ht).2⟩,nd,by lia⟩
   .rw [decide_eq_false hk];refine jX ?_
    have hv:gH (kd (gs.map sL)) (pk (min x y) (max x y))=none:=by
     have:=Q6 (gs.map sL) (min x y) (max x y);rw [decide_eq_false hk] at this;exact Option.not_isSome_iff_eq_none.mp (by rw [this];decide)
    lk;rw [em1,em2];refine ⟨oq,λr2 hr2=>?_⟩;generalize eu_:upd _ r2 _=H6;obtain ⟨S6,g6⟩:=news eu_ hr2;have d6:=S6 _ _ d5;have S36:=S5.trans S6;refine .inr ⟨d,_,rfl,AC.t (k:=pk (min x y) (max x y)) d6 g6 (eL (m:=100) (by unfold kd;rw [af,af];lia)),?_⟩
    have n7:∀ {b:ah}{o:HO},H3 b=some o->(∀ ks,o≠.dT ks)->(upd H6 d (.dT (qV (kd (gs.map sL)) (pk (min x y) (max x y)) (.bl true)))) b=some o:=λ{b o} e q=>by rw [aE];exact S36 _ _ e;rintro rfl;rw [d3] at e;cases e;exact q _ rfl
    have B7:∀ {b:ah}{o:HO},b≠d->H3 b=some o->(upd H6 d (.dT (qV (kd (gs.map sL)) (pk (min x y) (max x y)) (.bl true)))) b=some o:=λ{b o} h e=>by rw [aE h];exact S36 _ _ e
    have d7:(upd H6 d (.dT (qV (kd (gs.map sL)) (pk (min x y) (max x y)) (.bl true)))) d=some (.dT (kd (gs.map sL++[(((min x y:Nat):Int),((max x y:Nat):Int))]))):=by rw [aD,uu _ hv];unfold kd;rw [aP];rfl
    generalize upd H6 d (.dT (qV (kd (gs.map sL)) (pk (min x y) (max x y)) (.bl true)))=H7 at n7 B7 d7;lk;refine ⟨.inl ⟨rfl,_,dh.of (n7 w3 (λ_ z=>nomatch z))⟩,?_⟩;lk;refine ⟨oq,λr3 hr3=>?_⟩;generalize eu_:upd _ r3 _=H8;obtain ⟨S8,g8⟩:=news eu_ hr3;have w8:=S8 _ _ (n7 w3 (λ_ z=>nomatch z));lk;refine qY w8 (eL (m:=100) (by rw [af];lia)) ?_
    have n9:∀ {b:ah}{o:HO},H8 b=some o->(∀ ks,o≠.lst ks)->(upd H8 w (.lst (gs.map Wb++[.ref r3]))) b=some o:=λ{b o} e q=>by rw [aE];exact e;rintro rfl;rw [w8] at e;cases e;exact q _ rfl
    have eky:sL ((x,y,t.2.2.1,r3):Tr)=(((min x y:Nat):Int),((max x y:Nat):Int)):=rfl;refine ⟨gs++[(x,y,t.2.2.1,r3)],_,_,_,rfl,λb o h1 h2 e=>by rw [aE h2];exact S8 _ _ (B7 h1 (B b o h1 h2 e)),by rw [aP];exact n9 (S8 _ _ d7) (λ_ z=>nomatch z),by rw [aD,aP];rfl,λt hm=>?_,?_,by rw [br,yb];lia⟩
    .rcases aT.mp hm with hm|hm
     .exact ⟨n9 (S8 _ _ (n7 (tr t hm).1 (λ_ z=>nomatch z))) (λ_ z=>nomatch z),(tr t hm).2⟩
     .rw [aC.mp hm];exact ⟨n9 g8 (λ_ z=>nomatch z),hxy,hx,hy⟩
    .rw [aP,fu];refine ⟨nd,bg.mpr ⟨cq,jr⟩,λa ha b hb e=>hk ?_⟩;rw [qS,aC,eky] at hb;rw [← hb,← e];exact ha
 .rintro Z H3 ⟨gs,o6,o7,o11,rfl,B,d3,w3,tr,nd,hgl⟩;rw [af] at hgl;exact fin gs H3 _ _ _ B d3 w3 tr nd (by lia)
end
inductive FJ (K:aa) (Pt1:ah) (vs:List V) (H:Hp) (Q:VK) (E:XK):Prop
 | mk (a:_) (ns:List Int):vs=[.ref a]->dh K H a (ns.map V.int)->ns.length<=63->oJ Pt1 H->(∀ H',Q (.bl true) H')->FJ K Pt1 vs H Q E
theorem YD {X:EC}{Pt1:ah}(ct:wD K C A):Rn (FJ K Pt1) (V1 K C A (b9 K C) (bu K C A Pt1) (cD K C A X Pt1) (cI K C) (cE K C A X Pt1) (cj K C) (bG K C)) nl_1:=by
 rintro vs H Q E ⟨s,ns,rfl,hS,_,hP,k⟩
 have p30:(0:Int)<10^(30:Int).toNat:=by decide
 have hpw:LM 10 30:=⟨by decide,by decide,by decide⟩
 unfold V1;lk;refine ⟨s,ns,0,rfl,hS,λz=>?_⟩;obtain ⟨m,em',hm⟩:=em (n:=20) (by lia) (z/5);have em':z/5%20=(m:Int):=em';lk;rw [em',show (1:Int)+(m:Int)=((m+1:Nat):Int) by lia];refine JN hS (j:=2) (j':=22) rfl rfl λq hq=>?_;generalize hcs:(ns.drop 2).take (22-2)=cs
 have hcl:cs.length<=20:=by rw [← hcs,bO];lia
 generalize eu_:upd _ q _=H1;obtain ⟨S1,g1⟩:=news eu_ hq;lk;refine ⟨oq,λl hl=>?_⟩;generalize eu_:upd _ l _=H2;obtain ⟨S2,g2⟩:=news eu_ hl;k_ne
 with_reducible refine pC ?_
 refine adb (by lia) (S2 _ _ g1) g2 (aJ g1 hl) hcl λts H3 o5 o6 o7 B3 g3 t3 hl3=>?_;have S12:∀ b o,H b=some o->H3 b=some o:=λb o e=>B3 _ _ (S2 _ _ (S1 _ _ e)) (aJ (S1 _ _ e) hl);have P3:oJ Pt1 H3:=hP.same S12
 with_reducible refine pC ?_
 lk;refine wx (λ_=>?_) λ_=>?_
 .lk;refine ⟨oq,λl7 hl7=>?_⟩;generalize eu_:upd _ l7 _=H4;obtain ⟨S4,g4⟩:=news eu_ hl7;lk;refine ⟨oq,λso hso=>?_⟩;lk;refine x_pk (xs:=[_,_,_,_,_,_]) (by simp) (z/5) λv hv=>?_;have S5:=bS.cc (o:=.lst [.int (-(z/30%10^(30:Int).toNat)),.int (201+z/30%10^(30:Int).toNat),.bl true,.non,.str "7",.ref l7]) hso;generalize upd H4 so _=H5 at S5;have S35:=S4.trans S5;have hz:=Int.emod_nonneg (z/30) (Int.ne_of_gt p30)
  have hc:V9 H5 v:=by
   simp only [aq,cq,or_false] at hv
   rcases hv with rfl|rfl|rfl|rfl|rfl|rfl
   .exact .inl ⟨.int _,by unfold MT;rw [T9,decide_eq_false_iff_not,decide_eq_false_iff_not];lia⟩
   .exact .inl ⟨.int _,by unfold MT;rw [T9,decide_eq_false_iff_not,decide_eq_false_iff_not];lia⟩
   .exact .inl ⟨.bl _,rfl⟩
   .exact .inl ⟨.non,rfl⟩
   .exact .inl ⟨.str _,rfl⟩
   .exact .inr ⟨l7,_,rfl,S5 _ _ g4⟩
  lk;refine ⟨v,l,ts,_,rfl,ct,S35 _ _ g3,λt ht=>⟨S35 _ _ (t3 t ht).1,(t3 t ht).2⟩,by lia,P3.same S35,.inl ⟨hc,rfl⟩,λw H6 g6 P6 B6=>?_⟩;lk;refine ⟨oq,λc hc=>?_⟩;have S7:=bS.cc (o:=.lst [.str "count"]) hc;exact WM.eq (ws:=["count"]) (.inr ⟨_,rfl,by decide +kernel⟩) (S7 _ _ g6) aD (k _)
 have nlt:l≠Pt1:=P3.ne g3 (λ_ z=>nomatch z)
 have tup:∀ {H':Hp},(∀ b o,b≠Pt1->H3 b=some o->H' b=some o)->∀ t∈ts,FF H' t:=λS t ht=>⟨S _ _ (P3.ne (t3 t ht).1 (λ_ z=>nomatch z)) (t3 t ht).1,(t3 t ht).2⟩
 lk;refine ⟨_,l,ts,_,rfl,ct,g3,t3,by lia,P3,.inr ⟨m+1,rfl,by lia,by lia,rfl⟩,λw1 H4 g4 P4 B4=>?_⟩;lk;refine ⟨m+1,l,ts,rfl,B4 _ _ nlt g3,tup B4,by lia,λw2 H5 S5 g5=>?_⟩;refine (Kt _ _ _).ne (S5 _ _ g4) g5 ⟨_,rfl,gI ?_⟩;lk;have B5:∀ b o,b≠Pt1->H3 b=some o->H5 b=some o:=λb o h e=>S5 _ _ (B4 b o h e);have P5:=P4.same S5;have tr:∀ t∈ts.reverse,t∈ts:=λt ht=>List.mem_reverse.mp ht
 have tl:ts.reverse.length<=60:=by rw [Xa];lia
 refine ⟨l,_,rfl,dh.of (B5 _ _ nlt g3),λr1 hr1=>?_⟩;have S6:=bS.cc (o:=.lst (ts.map tV).reverse) hr1
 have g6:(upd H5 r1 (.lst (ts.map tV).reverse)) r1=some (.lst (ts.reverse.map tV)):=by rw [aD,aao]
 generalize upd H5 r1 (.lst (ts.map tV).reverse)=H6 at S6 g6;have B6:∀ b o,b≠Pt1->H3 b=some o->H6 b=some o:=λb o h e=>S6 _ _ (B5 b o h e);have P6:=P5.same S6;lk;refine ⟨_,r1,ts.reverse,_,rfl,ct,g6,λt ht=>tup B6 t (tr t ht),tl,P6,.inr ⟨m+1,rfl,by lia,by lia,rfl⟩,λw3 H7 g7 P7 C7=>?_⟩;have B7:∀ b o,b≠Pt1->H3 b=some o->H7 b=some o:=λb o h e=>C7 _ _ h (B6 b o h e);lk;refine ⟨l,_,rfl,dh.of (B7 _ _ nlt g3),λr2 hr2=>?_⟩;have S8:=bS.cc (o:=.lst (ts.map tV).reverse) hr2
 have g8:(upd H7 r2 (.lst (ts.map tV).reverse)) r2=some (.lst (ts.reverse.map tV)):=by rw [aD,aao]
 generalize upd H7 r2 (.lst (ts.map tV).reverse)=H8 at S8 g8;have B8:∀ b o,b≠Pt1->H3 b=some o->H8 b=some o:=λb o h e=>S8 _ _ (B7 b o h e);lk;refine ⟨m+1,r2,ts.reverse,rfl,g8,λt ht=>tup B8 t (tr t ht),tl,λw4 H9 S9 g9=>?_⟩;refine (Kt _ _ _).ne (S9 _ _ (S8 _ _ g7)) g9 ⟨_,rfl,gI ?_⟩;have B9:∀ b o,b≠Pt1->H3 b=some o->H9 b=some o:=λb o h e=>S9 _ _ (B8 b o h e);have P9:=P7.same (S8.trans S9);have t9:=tup B9;have l9:=B9 _ _ nlt g3
 clear tup tr tl B4 B5 B6 B7 B8 C7 t3 B3 S12 S6 S5 S8 S9 P4 P5 P6 P7 g4 g5 g6 g7 g8 g9
 lk;refine sG λd hd=>?_;generalize eu_:upd _ d _=Ha;obtain ⟨Sa,ga⟩:=news eu_ hd;lk;refine ⟨oq,λw hw=>?_⟩;generalize eu_:upd _ w _=Hb;obtain ⟨Sb,gb⟩:=news eu_ hw;have Sab:=Sa.trans Sb;have la:=Sa _ _ l9;k_ne
 with_reducible refine pC ?_
 refine ade (Sb _ _ la) (λt ht=>⟨Sab _ _ (t9 t ht).1,(t9 t ht).2⟩) (Sb _ _ ga) gb (aJ la hw) (by lia) λgs Hc o6 o7 o11 Bc dc wc trc nd hgl=>?_;have lc:=Bc _ _ (fA (Sb _ _ la) (Sb _ _ ga)) (aJ la hw) (Sb _ _ la)
 have tc:∀ t∈ts,FF Hc t:=λt ht=>⟨Bc _ _ (fA (Sab _ _ (t9 t ht).1) (Sb _ _ ga)) (fA (Sab _ _ (t9 t ht).1) gb) (Sab _ _ (t9 t ht).1),(t9 t ht).2⟩
 have Pc:oJ Pt1 Hc:=(P9.same Sab).keep λb o h1 h2 _ _ e=>Bc _ _ (λz=>by rw [z,Sb _ _ ga] at e;cases e;exact h1 _ rfl) (λz=>by rw [z,gb] at e;cases e;exact h2 _ rfl) e;lk;refine Kn ?_;lk;intro p dx hp hdx _
 have T0:bS Hc (upd (upd Hc dx (.own p)) p (.ins A.aH dx [])):=λb o e=>by rw [aE (aJ e hp),aE (aJ e hdx)];exact e
 have p3:(upd (upd Hc dx (.own p)) p (.ins A.aH dx [])) p=some (.ins A.aH dx []):=aD;generalize upd (upd Hc dx (.own p)) p (.ins A.aH dx [])=Hd at T0 p3;refine ⟨p,dx,w,m+1,gs,rfl,p3,ct,by lia,by lia,T0 _ _ wc,λt ht=>⟨T0 _ _ (trc t ht).1,(trc t ht).2⟩,ZX nd,by lia,Pc.same T0,λa T us as R He ke pm Pe fre frm=>⟨rfl,?_⟩⟩;have Be:∀ b o,b≠Pt1->Hc b=some o->He b=some o:=λb o h e=>frm b o (aJ e hp) h (T0 _ _ e);have de:=Be _ _ (Pc.ne dc (λ_ z=>nomatch z)) dc;have le:=Be _ _ (Pc.ne lc (λ_ z=>nomatch z)) lc
 have te:∀ t∈ts,FF He t:=λt ht=>⟨Be _ _ (Pc.ne (tc t ht).1 (λ_ z=>nomatch z)) (tc t ht).1,(tc t ht).2⟩
 have dn:d∉a.L::fp a:=λhm=>by
  have:=fre d hm;rw [T0 _ _ dc] at this;cases this
 have hul:us.length<=20:=by
  have:=pm.length_eq;rw [af,af] at this;lia
 lk;refine .inl ⟨⟨_,dh.of le⟩,λa1 ha1=>?_⟩
 have cst:∀ {acc:ah}(i:Nat) (y:V) (H1 H2:Hp) (ws:List V),H1 acc=some (.lst ws)->bf acc H1 H2->(∃ t,y=wI t/\MZ H1 t)->∃ t,y=wI t/\MZ H2 t:=λi y H1 H2 ws g B ⟨t,e2,e3,e4⟩=>⟨t,e2,B _ _ e3 (fA e3 g),e4⟩
 refine y9 (λi y H=>∃ t,y=wI t/\MZ H t) (λZ=>∃ o,Z=[o]) (dh.of le) ha1 ⟨_,rfl⟩ (by rw [af];lia) cst (λi x σ' H' G hi hx S' hσ go=>?_) λys Hf hyl gf Sf hys=>?_
 .obtain ⟨o,rfl⟩:=hσ;obtain ⟨u,hu,rfl⟩:=gm hx;obtain ⟨b0,q1,q2⟩:=te u (aM hu);have r:=S' _ _ b0;lk;refine kY (mX.of r) (v:=u.2.1) rfl ?_;lk;refine kY (mX.of r) (v:=u.1) rfl ?_;refine ⟨oq,λc hc=>?_⟩;exact go _ _ _ ⟨_,rfl⟩ (bS.cc hc) ⟨(u.2.1,u.1,c),rfl,aD,q2,q1⟩
 obtain ⟨ws1,rfl,pg1⟩:=O1 hys;rw [af,af] at hyl;have lf:=Sf _ _ le;lk;refine ⟨_,rfl,l,_,rfl,dh.of lf,λst ys hst hyl2 hym=>?_⟩;generalize eu_:upd _ st _=Hg;obtain ⟨Sg,gg⟩:=news eu_ hst;rw [af] at hyl2;have Seg:=Sf.trans Sg;refine ⟨st,rfl,.inl ⟨⟨_,dh.of gg⟩,λa2 ha2=>?_⟩⟩;refine y9 (λi y H=>∃ t,y=wI t/\MZ H t) (λZ=>∃ o,Z=[o]) (dh.of gg) ha2 ⟨_,rfl⟩ (by lia) cst (λi x σ' H' G hi hx S' hσ go=>?_) λzs Hh hzl gh Sh hzs=>?_
 .obtain ⟨o,rfl⟩:=hσ;obtain ⟨u,hu,rfl⟩:=bo.mp (hym x (aM hx));obtain ⟨b0,q1,q2⟩:=te u hu;have r:=S' _ _ (Seg _ _ b0);lk;refine kY (mX.of r) (v:=u.1) rfl ?_;lk;refine kY (mX.of r) (v:=u.2.1) rfl ?_;refine ⟨oq,λc hc=>?_⟩;exact go _ _ _ ⟨_,rfl⟩ (bS.cc hc) ⟨(u.1,u.2.1,c),rfl,aD,q1,q2⟩
 obtain ⟨ws2,rfl,pg2⟩:=O1 hzs;rw [af] at hzl;have Sfh:=Sg.trans Sh;refine Zv (Sfh _ _ gf) gh (du (m:=100) (by rw [af,af];lia)) λP hP=>?_;have Si:=bS.cc (o:=.lst (ws1.map wI++ws2.map wI)) hP
 have gi:(upd Hh P (.lst (ws1.map wI++ws2.map wI))) P=some (.lst ((ws1++ws2).map wI)):=by rw [aD,aP]
 generalize upd Hh P (.lst (ws1.map wI++ws2.map wI))=Hi at Si gi;have Seh:=Seg.trans Sh;have Sei:=Seh.trans Si;lk;refine ⟨p,dx,d,P,a,m+1,T,ws1++ws2,us,gs.map sL,rfl,ct,⟨⟨as,R,ke.same Sei⟩,Pe.same Sei,Sei _ _ de,pm.symm,by lia,gi,λt ht=>?_⟩,by lia,dn,(ke.same Seh).lv.Dz hP,k⟩
 rcases aT.mp ht with ht|ht
 .exact ⟨Si _ _ (Sfh _ _ (pg1 t ht).1),(pg1 t ht).2⟩
 .exact ⟨Si _ _ (pg2 t ht).1,(pg2 t ht).2⟩
end K55
namespace K55
local macro_rules | `(tactic| walk_at "oz")=>`(tactic| first|exact rfl|with_reducible assumption|exact ju|exact .inl rfl|exact .inr rfl|exact qA _|exact λ_=>rfl|exact λ_ _=>rfl|(exact .inr (.inl rfl))|(exact .inr (.inr rfl))|exact dS|assumption|decide|exact hZ.mono (by assumption) (by decide)|exact hZ.units (by assumption)|with_unfolding_all rfl)
local macro_rules | `(tactic| walk_at "oc")=>`(tactic| first|exact IK|exact Es|exact RO rfl|exact RN rfl|exact si|exact call_lenT|exact JV rfl|exact call_max1 rfl)
local macro_rules | `(tactic| walk_at "op")=>`(tactic| first|exact y6|exact UD|exact A4|exact XI|exact aaB|exact UF|exact LN|exact aco|exact acp|exact yj (hZ.units (by assumption))|exact Er (hZ.units (by assumption))|exact UW (hZ.units (by assumption))|exact IJ (hZ.units (by assumption))|exact op_eqL (hZ.units (by assumption))|exact abn (hZ.units (by assumption)))
local macro_rules | `(tactic| walk_at "ob")=>`(tactic| first|exact BootT.len|exact BootT.hU|exact BootT.min|exact BootT.max|exact BootT.Et|exact BootT.list|exact BootT.tuple|exact BootT.bool)
local macro_rules | `(tactic| walk_at "om")=>`(tactic| first|exact vZ.Z4 (by assumption)|exact vZ.fq (by assumption)|exact vZ.YV (by assumption)|exact vZ.adx (by assumption)|exact vZ.ado (by assumption)|exact vZ.rP (by assumption)|exact vZ.WQ (by assumption)|exact vZ.b_tuple (by assumption)|exact vZ.abK (by assumption))
local macro_rules | `(tactic| walk_at "ok")=>`(tactic| first|exact vZ.sQ (by assumption)|exact vZ.v5 (by assumption)|exact vZ.ka (by assumption))
local macro_rules | `(tactic| walk_at "o1")=>`(tactic| first
 | (with_reducible first|exact c8|refine aS ?_|refine aA ?_ ?_|refine dH ?_|refine fI ?_ ?_ ?_|exact eS|exact Ut|exact D5|exact bU|refine Jv ?_|refine UJ ?_|refine qB ?_|exact Qk|refine Ql ?_|exact vV|exact LW|refine AZ ?_ ?_|refine D6 ?_|refine Oe ?_ ?_|refine Ze ?_ ?_|refine Qe ?_|refine Uv ?_)
 | ((with_reducible refine dU ?_ ?hs);(case hs=>exact rfl))
 | ((with_reducible refine j6 ?hN ?_ ?hi ?hx ?hs ?hf);(case hN|hi|hx|hs|hf=>walk_at "oz"))
 | ((with_reducible refine ac0 ?_ ?_ ?hK ?hs);(case hK|hs=>exact rfl))
 | ((with_reducible refine Uy ?_ ?_ ?hs ?hw ?h1);(case hs|hw|h1=>exact rfl))
 | ((with_reducible refine pv _ ?hN ?hv ?hd ?hc);(case hN|hv|hd|hc=>walk_at "oz"))
 | ((with_reducible refine oC ?ho ?_ ?_);(case ho=>walk_at "op"))
 | ((with_reducible refine qU ?hr ?_ ?_ ?hs);(case hr=>exact A8 (hZ.units (by assumption)));(case hs=>exact λ_ _=>rfl))
 | ((with_reducible refine nC ?ho ?_ ?_ ?hm);(case ho=>walk_at "op");(case hm=>walk_at "oz"))
 | ((with_reducible refine Jx ?ho ?_ ?_ ?hm);(case ho=>walk_at "op");(case hm=>walk_at "oz"))
 | ((with_reducible refine aK ?_ ?_ ?hs);(case hs=>exact rfl))
 | ((with_reducible refine acZ ?_ ?hK ?hb);(case hK|hb=>exact rfl))
 | ((with_reducible refine acY ?_ ?hK ?he);(case hK=>exact rfl);(case he=>exact λ_=>rfl))
 | ((with_reducible refine LQ ?hr ?_ ?_ ?_);(case hr=>first|exact Qp|exact sl_tup))
 | ((with_reducible refine acX ?_ ?hK);(case hK=>exact rfl))
 | ((with_reducible refine RK ?hg ?hm ?_ ?hs);(case hg|hs=>exact rfl);(case hm=>walk_at "om"))
 | ((with_reducible refine pi_range2 ?hg ?hm ?_ ?hs ?ht);(case hg|hs|ht=>exact rfl);(case hm=>walk_at "om"))
 | ((with_reducible refine iC ?hN ?hi ?hx ?hf);(case hN|hi|hx|hf=>walk_at "oz"))
 | ((with_reducible refine Ux ?_ ?_ ?hs ?ha);(case hs=>exact Zo (hZ.units (by assumption)));(case ha=>exact λ_=>rfl))
 | ((with_reducible refine ac1 ?hc ?_ ?hK ?hn ?hs);(case hc|hK|hn|hs=>exact rfl))
 | ((with_reducible refine gp ?_ ?_ ?hs);(case hs=>exact rfl))
 | ((with_reducible refine' DJ ?hg ?hm ?hv ?hr ?hn ?hd);(case hg|hr=>exact rfl);(case hm=>walk_at "om");(case hv=>walk_at "ob");(case hn|hd=>decide))
 | ((with_reducible refine' gA ?hc ?hg ?hm ?hv ?_ ?hn ?hd ?he ?hp);(case hc=>walk_at "oc");(case hg|he|hp=>exact rfl);(case hm=>walk_at "om");(case hv=>walk_at "ob");(case hn|hd=>decide))
 | ((with_reducible refine' Gz ?c ?hr ?hg ?hx ?_ ?hd ?he ?hp);(case c=>first|with_reducible assumption|assumption);(case hr=>walk_at "oz");(case hg|he|hp=>exact rfl);(case hx=>exact ju);(case hd=>decide))
 | ((with_reducible refine' SK ?c ?cl ?hr ?_ ?hx ?_ ?hs ?hp ?ht);(case c=>first|with_reducible assumption|assumption);(case cl=>walk_at "ok");(case hr=>walk_at "oz");(case hx=>exact ju);(case hs|hp|ht=>exact rfl))
 | ((with_reducible refine' pcm0 ?c ?cl ?hr ?_ ?hx ?ht);(case c=>first|with_reducible assumption|assumption);(case cl=>walk_at "ok");(case hr=>walk_at "oz");(case hx=>exact ju);(case ht=>exact rfl))
 | ((with_reducible refine' o_bm ?pa ?sl ?ty ?hm ?_ ?_ ?hK ?hb ?hf ?hl ?hs ?hp);(case pa=>exact bD);(case sl=>exact cG);(case ty=>exact cH);(case hm=>exact iO);(case hK|hb|hf|hl|hs|hp=>exact rfl))
 | with_reducible refine PW.pt ?_
 | (refine qz ?hp ?hc ?_ ?_ ?_ ?hs;(case hp=>exact dS);(case hc=>exact rfl);(case hs=>exact λ_=>rfl))
 | (refine D8 ?hp ?_ ?_;(case hp=>exact dS)))
local macro_rules | `(tactic| w_up)=>`(tactic| repeat' walk_at "o1")
theorem abz {l:tK}{w:cU}{K:aa}{h:cJ}{mg:bq->Option ai}{fa:ah}(X:K.In h) (G:h.Ns bw mg) (hfa:mg "law"=some (.ref fa)) {c1 Pt1:ah}{C A_Levels A_Lightest A_Kept:ah}
  (Kw:bJ K bw "Wood"=some (some (.ref C))) (Kx:jc K C Rq=true) (Kz:jZ K C=true) (KA:mQ K C=true) (KB:bh K (.ref C) "__setattr__"=some (some (.builtin "object.__setattr__"))) (KC:lO K C=true) (KD:dD K (.ref C)=true)
  (vR:bh K (.ref C) "n"=some none)
  (oo:bh K (.ref C) "rows"=some none)
  (BB:bJ K bw "Levels"=some (some (.ref A_Levels))) (BC:jc K A_Levels Rq=true) (BD:jZ K A_Levels=true) (BE:mQ K A_Levels=true) (BF:bh K (.ref A_Levels) "__setattr__"=some (some (.builtin "object.__setattr__"))) (BG:lO K A_Levels=true) (BH:dD K (.ref A_Levels)=true)
  (iV:bh K (.ref A_Levels) "level_of"=some none)
  (iF:bh K (.ref A_Levels) "weight_of"=some none)
  (jy:bh K (.ref A_Levels) "wooden"=some none)
  (kb:bh K (.ref A_Levels) "woods"=some none)
  (vm:bJ K bw "Lightest"=some (some (.ref A_Lightest))) (vn:jc K A_Lightest Rq=true) (vo:jZ K A_Lightest=true) (vp:mQ K A_Lightest=true) (vq:bh K (.ref A_Lightest) "__setattr__"=some (some (.builtin "object.__setattr__"))) (n5:lO K A_Lightest=true) (n6:dD K (.ref A_Lightest)=true)
  (jA:bh K (.ref A_Lightest) "came"=some none)
  (iT:bh K (.ref A_Lightest) "levels"=some none)
  (iU:bh K (.ref A_Lightest) "looked"=some none)
  (jz:bh K (.ref A_Lightest) "lost"=some none)
  (mE:bh K (.ref A_Lightest) "n"=some none)
  (i7:bh K (.ref A_Lightest) "risen"=some none)
  (jx:bh K (.ref A_Lightest) "wood"=some none)
  {X_Alike:ah}(ax_Alike:bJ K bw "Alike"=some (some (.ref X_Alike)))
  {X_Fixed:ah}(ax_Fixed:bJ K bw "Fixed"=some (some (.ref X_Fixed)))
  {X_Joined:ah}(ax_Joined:bJ K bw "Joined"=some (some (.ref X_Joined)))
  {X_NoCount:ah}(ax_NoCount:bJ K bw "NoCount"=some (some (.ref X_NoCount)))
  {X_NoPlace:ah}(ax_NoPlace:bJ K bw "NoPlace"=some (some (.ref X_NoPlace)))
  {X_NoRow:ah}(ax_NoRow:bJ K bw "NoRow"=some (some (.ref X_NoRow)))
  {X_NoTie:ah}(ax_NoTie:bJ K bw "NoTie"=some (some (.ref X_NoTie)))
  {X_TieError:ah}(ax_TieError:bJ K bw "TieError"=some (some (.ref X_TieError)))
  {X_Tied:ah}(ax_Tied:bJ K bw "Tied"=some (some (.ref X_Tied)))
  (pU:XF K X_NoCount X_NoPlace X_Alike X_Joined X_Tied X_NoTie X_NoRow X_Fixed X_TieError X_Alike false false true false false)
  (lF:XF K X_NoCount X_NoPlace X_Alike X_Joined X_Tied X_NoTie X_NoRow X_Fixed X_TieError X_NoCount true false false false false)
  (lE:XF K X_NoCount X_NoPlace X_Alike X_Joined X_Tied X_NoTie X_NoRow X_Fixed X_TieError X_NoPlace false true false false false)
  (pV:XF K X_NoCount X_NoPlace X_Alike X_Joined X_Tied X_NoTie X_NoRow X_Fixed X_TieError X_NoTie false false false false true)
  (sR:XF K X_NoCount X_NoPlace X_Alike X_Joined X_Tied X_NoTie X_NoRow X_Fixed X_TieError X_Tied false false false true false)
  (xhn:j0 K (.builtin "object.__class__") "__get__"=some (some (.builtin "getset_descriptor.__get__"))) (WI:uf K (.builtin "object.__class__")=some true)
  (KE:bJ K bw "Kept"=some (some (.ref A_Kept)))
  (FK:rW K mg "is_whole" IX zq)
  (FL:rW K mg "is_count" IY zq)
  (FM:rW K mg "is_place" IZ qg)
  (Z0:rW K mg "top" stop ["n"])
  (M0:rW K mg "tie_of" QW zm)
  (M1:rW K mg "credit" QX MB)
  (Q7:rW K mg "rises" VP Cb)
  (Q8:rW K mg "looks" VQ Cb)
  (xG:rW K mg "steps_along" zr ["row"])
  (M3:rW K mg "turned" QY ["row","a"])
  (Jj:rW K mg "spliced" MC ["row","other","a","b"])
  (M4:rW K mg "parted" QZ MA)
  (M5:rW K mg "way_in" Q0 MA)
  (jQ:rW K mg "refuse_no_place" m7 qg)
  (jk:rW K mg "refuse_no_places" mq tP)
  (ky:rW K mg "refuse_no_pair" ow tP)
  (yz:rW K mg "in_order" Bj EW)
  (xH:rW K mg "ends_within" zt QU)
  (rK:rW K mg "new_tie" EX Ca)
  (mD:rW K mg "standing_tie" qF Ca)
  (vt:rW K mg "_law_cell_at" xm QO)
  (z7:rW K mg "_law_place" Cc QR)
  (Ct:rW K mg "_law_pair" EY QR)
  (tw:rW K mg "_law_is_place" uC QP)
  (z8:rW K mg "_law_fault" Cd QN)
  (z9:rW K mg "_law_words" uD ["_law_e"])
  (Cu:rW K mg "_law_made" EZ QS)
  (FN:rW K mg "_law_out" I0 ["_law_wood","_law_a","_law_b"])
  (Aa:rW K mg "_law_asked" Ce ZL)
  (xI:rW K mg "_law_due_of" zu QS)
  (rL:rW K mg "_law_questions" sW ZO)
  (Ab:rW K mg "_law_deeds" Cg ZJ)
  (Q9:rW K mg "law" slaw QV)
  (tD:kB K C "__init__" "Wood.__init__" uE rh)
  (Cv:kB K C "keep" "Wood.keep" E1 ["self","row"])
  (Cw:kB K C "link" "Wood.link" E3 jb)
  (FO:kB K C "cut" "Wood.cut" Ja jb)
  (nJ:kB K C "joined" "Wood.joined" sr jb)
  (oR:kB K C "group" "Wood.group" uF sk)
  (Cy:kB K C "size" "Wood.size" E4 sk)
  (sM:kB K C "way" "Wood.way" Bk jb)
  (Cz:kB K C "ties" "Wood.ties" E5 oE)
  (qp:kB K A_Levels "__init__" "Levels.__init__" rj rh)
  (Ac:kB K A_Levels "add" "Levels.add" Ci zl)
  (vv:kB K A_Levels "adopt" "Levels.adopt" xn wA)
  (xJ:kB K A_Levels "lift" "Levels.lift" zw wA)
  (xK:kB K A_Levels "drop" "Levels.drop" zx wA)
  (qq:kB K A_Levels "at_level" "Levels.at_level" rk ["self","level","wooden"])
  (xM:kB K A_Levels "told" "Levels.told" zy wA)
  (og:kB K A_Levels "lesser_side" "Levels.lesser_side" oF QQ)
  (xN:kB K A_Levels "look" "Levels.look" zA QQ)
  (xO:kB K A_Levels "take" "Levels.take" zB wA)
  (cN:kB K A_Kept "__init__" "Kept.__init__" pE rh)
  (vw:kB K A_Lightest "receive" "Kept.receive" xo zl)
  (pR:kB K A_Lightest "out" "Kept.out" Bl jb)
  (lj:kB K A_Lightest "joined" "Kept.joined" su jb)
  (pS:kB K A_Lightest "way" "Kept.way" Bn jb)
  (oh:kB K A_Lightest "side" "Kept.side" yn sk)
  (CB:kB K A_Lightest "ties" "Kept.ties" E6 oE)
  (vz:kB K A_Lightest "account" "Kept.account" xp oE)
  (ie:kB K A_Lightest "__init__" "Lightest.__init__" lD VO)
  (qr:kB K A_Lightest "weight" "Lightest.weight" rm oE)
  {f_K:ah}(e_K:cN.f=f_K) (g_K:j0 K (.ref A_Kept) "__getattribute__"=some (some (.builtin "type.__getattribute__"))) (r_K:Xx K A_Kept (.type "type")=true) (t_K:Xy K (.ref A_Kept) (.type "type") "__init__"=some (.val (.ref f_K)))
  (yA:yz.d.code=.ref c1)
  (sN:bJ K bw "ValueError"=some none)
  (O2:bJ K bw "bool"=some none)
  (vA:bJ K bw "enumerate"=some none)
  (Wj:bJ K bw "int"=some none)
  (sO:bJ K bw "isinstance"=some none)
  (Wk:bJ K bw "len"=some none)
  (O3:bJ K bw "list"=some none)
  (Wl:bJ K bw "max"=some none)
  (Wm:bJ K bw "min"=some none)
  (KF:bJ K bw "range"=some none)
  (Wn:bJ K bw "set"=some none)
  (FP:bJ K bw "sorted"=some none)
  (Wo:bJ K bw "sum"=some none)
  (Wp:bJ K bw "zip"=some none)
  {Hk:Z9}(qN:bJ K bw "MOST_PLACES"=some (some (.int 200 Hk)))
  : ∃ fd:fM,(∀ (s:ay) (v:ai),DT s fd ⟨[v],[]⟩ [("_law_script",v)])/\∀ base:cJ,K.In base->base.Ns bw mg->oX base c1 Pt1->base.BuiltinsAt mg Pt1->gN l.prog w K mg base vW 13 fa fd QV (FJ K Pt1):=by
 have e:=Q9.law hfa;subst e
 have T:vZ K mg C (⟨A_Levels,A_Lightest,A_Kept⟩:CA) (⟨X_Alike,X_Fixed,X_Joined,X_NoCount,X_NoPlace,X_NoRow,X_NoTie,X_TieError,X_Tied⟩:EC):=⟨⟨Kx,Kz,KA,KB⟩,eh X G Kw,vR,oo,⟨BC,BD,BE,BF⟩,eh X G BB,iV,iF,jy,kb,⟨vn,vo,vp,vq⟩,eh X G vm,jA,iT,iU,jz,mE,i7,jx,eh X G KE,eh X G ax_Alike,eh X G ax_Fixed,eh X G ax_Joined,eh X G ax_NoCount,eh X G ax_NoPlace,eh X G ax_NoRow,eh X G ax_NoTie,eh X G ax_TieError,eh X G ax_Tied,pU,lF,lE,pV,sR,xhn,WI,cQ X G sN,cQ X G O2,cQ X G vA,cQ X G Wj,cQ X G sO,cQ X G Wk,cQ X G O3,cQ X G Wl,cQ X G Wm,cQ X G KF,cQ X G Wn,cQ X G FP,cQ X G Wo,cQ X G Wp,⟨_,eh X G qN⟩⟩
 have ct:wD K C (⟨A_Levels,A_Lightest,A_Kept⟩:CA):=⟨⟨T.sQ,T.vR,T.oo⟩,T.v5,T.iV,T.jy,T.iF,T.kb,T.ka,T.mE,T.iT,T.jx,T.jA,T.iU,T.i7,T.jz⟩
 refine ⟨Q9.d,λs v=>Q9.bt s [v] rfl,λbase _ _ CH1 B1=>?_⟩;have FQ:=FK.jR l.prog w base (FK.F.lV (len:=Kc) (k:=0) ON (@Kd K C) λhr nd=>aS (dH (AZ (gA Es rfl T.fq BootT.hU (aK (pv 0) (aK (DJ rfl T.Z5 BootT.int rfl) bU))) (D6 (Uw (by w_up))))));have Z1:=Z0.jR l.prog w base (Z0.F.lV (k:=0) VR (@Yy K C) λhr nd=>aA (by w_up) (aA (by w_up) (aA (D8 dS (by w_up) (aA (Og (i:=1) VR.nd rfl (Or.inl rfl) eS XJ) (aS (Og (i:=2) VR.nd rfl (Or.inl rfl) eS XN)))) (by w_up))));have nZ:=M0.jR l.prog w base (M0.F.lV (k:=0) VS (@OW K C) λhr nd=>aS (dH (qT (by w_up) (by w_up) (by w_up))));have zT:=Q7.jR l.prog w base (Q7.F.lV (k:=0) Yx (@SR K C) λhr nd=>aS (dH (gA (Bg rfl) rfl T.WU BootT.sum (aK (lq GQ (ys:=[]) [] rfl (lC (pv 0)) trivial (λ_ _ _=>A2 rfl (gp (iC (show (GQ:List bq).Nodup by decide +kernel)) (gp (iC (show (GQ:List bq).Nodup by decide +kernel)) (gp (iC (show (GQ:List bq).Nodup by decide +kernel)) (gp (iC (show (GQ:List bq).Nodup by decide +kernel)) vV))))) (λ_ _ _=>mf) (λ_ _ _=>(by w_up))) bU))));have xP:=xG.jR l.prog w base (xG.F.lV (k:=0) GR (@C5 K C) λhr nd=>aS (dH (Yi rfl rfl T.WQ rfl T.adt (by w_up))));have M6:=M3.jR l.prog w base (M3.F.lV (k:=0) MD (@OU K C) λhr nd=>aA (j6 MD.nd (kX bD fG je (rg hr.units) (pv 0) (by w_up))) (by w_up));have ng:=yz.jR l.prog w base (MO yz.F T yA CH1 B1 (by walk_at "l") Km);have xQ:=xH.jR l.prog w base (xH.F.lV (k:=0) GS (@C8 K C) λhr nd=>aS (dH (gA IK rfl T.Z4 BootT.len (aK (lq ["place"] (ys:=["side"]) [1] rfl (lC (pv 0)) ⟨rfl,.inl rfl,rfl,trivial⟩ (λ_ _ _=>iC (show (["place","side"]:List bq).Nodup by decide +kernel)) (λ_ _ _=>qX (by w_up)) (λ_ _ _=>(pv 0))) bU))));have vB:=vt.jR l.prog w base (vt.F.lV (k:=0) E8 (@Bz K C) λhr nd=>aA (by w_up) (by w_up));have Ad:=z7.jR l.prog w base (z7.F.lV (k:=0) J7 (@FC K C) λhr nd=>aA (by w_up) (aA (fI (by w_up) (aS (dH (qU (A8 hr.units) (qB (aK (oC UD (LL Ec eS) (oC A4 (by w_up) (oC Eb eS eS))) (aK (oC y6 (pv 1) (oC A4 (by w_up) (oC Eb eS eS))) (aK Ut (aK D5 (aK iB bU)))))) (by w_up) (λ_ _=>rfl)))) c8) (by w_up)));have tE:=tw.jR l.prog w base (tw.F.lV (k:=0) CZ (@z6 K C) λhr nd=>aS (dH (AZ (gA Es rfl T.fq BootT.hU (aK (pv 1) (aK (DJ rfl T.Z5 BootT.int rfl) bU))) (AZ (Uw (by w_up)) (D6 (Eg LN UF eS (pv 1) (pv 0)))))));have eE:=z9.caln l.prog w base (GW z9.F T (by walk_at "l") (FE T));have jw:=tD.WW l.prog w base KC KD (tD.F.lV (mg:=mg) (k:=0) C2 (@zV K C) λhr nd=>aA (by w_up) (aS (pj (pv 0) (lq ["place"] (ys:=[]) [] rfl (by w_up) trivial (λ_ _ _=>iC (show (["place"]:List bq).Nodup by decide +kernel)) (λ_ _ _=>mf) (λ_ _ _=>(by w_up))) rfl)));have CC:=Cv.jR l.prog w base (Cv.F.lV (mg:=mg) (k:=0) MG (@G2 K C) λhr nd=>aS (qz dS rfl (lC (pv 1)) (by w_up) (by w_up)));have lg:=xM.jR l.prog w base (xM.F.lV (mg:=mg) (k:=0) GV (@C9 K C ⟨A_Levels,A_Lightest,A_Kept⟩) λhr nd=>aS (dH (by w_up)));have pN:=FL.jR l.prog w base (FL.F.lV (len:=Kj) (k:=1) OO (@Kk K C) λhr nd=>aS (dH (AZ (by w_up) (D6 (Eg LN LN eS (pv 0) (lY rfl T.Ii.choose_spec ⟨_,rfl⟩))))));have pM:=FM.jR l.prog w base (FM.F.lV (k:=1) OP (@Ke K C) λhr nd=>aS (dH (AZ (by w_up) (D6 (Eg LN UF eS (pv 1) (pv 0))))));have uZ:=M1.jR l.prog w base (M1.F.lV (k:=1) VT (@OX K C) λhr nd=>aS (dH (gA (Bg rfl) rfl T.WU BootT.sum (aK (lq ["a","b","level","in_wood"] (ys:=["n"]) [0] rfl (lC (pv 1)) ⟨rfl,.inl rfl,rfl,trivial⟩ (λ_ _ _=>A2 rfl (gp (iC (show (QL:List bq).Nodup by decide +kernel)) (gp (iC (show (QL:List bq).Nodup by decide +kernel)) (gp (iC (show (QL:List bq).Nodup by decide +kernel)) (gp (iC (show (QL:List bq).Nodup by decide +kernel)) vV))))) (λ_ _ _=>mf) (λ_ _ _=>(by w_up))) bU))));have zS:=Q8.jR l.prog w base (Q8.F.lV (k:=1) Q1 (@SS K C) λhr nd=>aA (JI (i:=1) GQ (ys:=[]) [] rfl Q1.nd rfl rfl (lC (pv 0)) trivial (λ_ _ _=>A2 rfl (gp (iC (show (GQ:List bq).Nodup by decide +kernel)) (gp (iC (show (GQ:List bq).Nodup by decide +kernel)) (gp (iC (show (GQ:List bq).Nodup by decide +kernel)) (gp (iC (show (GQ:List bq).Nodup by decide +kernel)) vV))))) (λ_ _ _=>qX (aax (XA (pv 3)))) (λ_ _ _=>(pv 3))) (aS (dH (qT (by w_up) (by w_up) (by w_up)))));have Jk:=Jj.jR l.prog w base (Jj.F.lV (k:=1) Jb (@MR K C) λhr nd=>aA (j6 Jb.nd (kX bD fG je (rg hr.units) (pv 0) (by w_up))) (by w_up));have M7:=M4.jR l.prog w base (M4.F.lV (k:=1) E7 (@OT K C) λhr nd=>aA (by w_up) (aA (j6 E7.nd (kX bD fG je (rg hr.units) (pv 3) (by w_up))) (aA (j6 E7.nd (kX bD fG je (rg hr.units) (pv 3) (by w_up))) (aA (by w_up) (aA (by w_up) (aA (by w_up) (aA (by w_up) (aS (dH (qT (by w_up) (by w_up) (by w_up)))))))))));have uY:=M5.jR l.prog w base (M5.F.lV (k:=1) VU (@OV K C) λhr nd=>aA (by w_up) (aA (by w_up) (aA (qz dS rfl (lC (LQ Qp (pv 3) Qk (Ql (oC y6 (kX bD fG je (rg hr.units) (pv 3) (by w_up)) eS)))) (by w_up) (aS (fI (PW.pt (Oe (by w_up) (Qe (nC (yj hr.units) (qU (A8 hr.units) (pv 4) (LL Ec eS) (λ_ _=>rfl)) (pv 5) (qA _))))) (aS (dU (aaG bD PySem.F.slot_list_pop PySem.F.type_list_pop aaI (pv 4)))) (by w_up)))) (by w_up))));have CD:=Ct.jR l.prog w base (Ct.F.lV (k:=1) ME (@G9 K C) λhr nd=>aA (by w_up) (by w_up));have Ae:=z8.jR l.prog w base (z8.F.lV (k:=1) J8 (@FD K C) λhr nd=>aA (fI (by w_up) (aS (dH iB)) c8) (aA (fI (by w_up) (aS (dH iB)) c8) (aS (dH iB))));have CF:=Cz.jR l.prog w base (Cz.F.lV (mg:=mg) (k:=1) MJ (@G8 K C) λhr nd=>aA (by w_up) (aA (qz dS rfl (Yn rfl T.NM (by w_up)) (by w_up) (aS (fI (by w_up) (aS (dU (kX bD PySem.F.slot_list_extend PySem.F.type_list_extend RV (pv 1) (aK (lq zm (ys:=[]) [] rfl (by w_up) trivial (λ_ _ _=>A2 rfl (gp (iC (show (zm:List bq).Nodup by decide +kernel)) (gp (iC (show (zm:List bq).Nodup by decide +kernel)) vV))) (λ_ _ _=>qX (by w_up)) (λ_ _ _=>(by w_up))) bU)))) c8))) (by w_up)));have qt:=qq.jR l.prog w base (gN.Tn (qq.F.lV (mg:=mg) (k:=1) qi (@ve K C ⟨A_Levels,A_Lightest,A_Kept⟩ Pt1) λhr nd=>aA (JI (i:=3) ["tie"] (ys:=["level","self"]) [1,0] rfl qi.nd rfl rfl (Zy (by w_up)) ⟨rfl,.inl rfl,rfl,⟨rfl,.inl rfl,rfl,trivial⟩⟩ (λ_ _ _=>iC (show (["tie","level","self"]:List bq).Nodup by decide +kernel)) (λ_ _ _=>qX (by w_up)) (λ_ _ _=>(pv 0))) (aS (dH (Gz ng hr.m rfl ju (aK (lq ["tie"] (ys:=["wooden","self"]) [2,0] rfl (lC (pv 3)) ⟨rfl,.inl rfl,rfl,⟨rfl,.inl rfl,rfl,trivial⟩⟩ (λ_ _ _=>iC (show (["tie","wooden","self"]:List bq).Nodup by decide +kernel)) (λ_ _ _=>qX (by w_up)) (λ_ _ _=>(pv 0))) (by w_up)))))) vd);have CG:=CB.jR l.prog w base (gN.Tn (CB.F.lV (mg:=mg) (k:=1) MK (@FB K C ⟨A_Levels,A_Lightest,A_Kept⟩) λhr nd=>aS (dH (gA si rfl T.rP BootT.Et (aK (lq ["tie"] (ys:=oE) [0] rfl (Zy (by w_up)) ⟨rfl,.inl rfl,rfl,trivial⟩ (λ_ _ _=>iC (show (["tie","self"]:List bq).Nodup by decide +kernel)) (λ_ _ _=>mf) (λ_ _ _=>(by w_up))) bU)))) FA);have qu:=jQ.jR l.prog w base (jQ.F.lV (k:=2) qh (@wC K C) λhr nd=>aS (fI (by w_up) (aS pf) c8));have qO:=xI.jR l.prog w base (xI.F.lV (k:=2) GT (Dk (K:=K) (C:=C)) λhr nd=>aA (by w_up) (aA (qz dS rfl (lC (pv 1)) (by w_up) (aA (by w_up) (aA (fI (nC (Er hr.units) (pv 6) iB (qA _)) (by w_up) c8) (aA (fI (by w_up) (aS (dH (qB (aK iB bU)))) c8) (by w_up))))) (by w_up)));have dF:=qp.WW l.prog w base BG BH (qp.F.lV (mg:=mg) (k:=2) zF (@wF K C ⟨A_Levels,A_Lightest,A_Kept⟩) λhr nd=>aA (by w_up) (aA (by w_up) (aA (by w_up) (aS (pj (pv 0) (lq ["level"] (ys:=["n"]) [1] rfl (by w_up) ⟨rfl,.inl rfl,rfl,trivial⟩ (λ_ _ _=>iC (show (["level","n"]:List bq).Nodup by decide +kernel)) (λ_ _ _=>mf) (λ_ _ _=>yY jw.m jw.G hr.m rfl T.YT jw.b .nil ju (by w_up))) rfl)))));have vC:=vz.jR l.prog w base (vz.F.lV (mg:=mg) (k:=2) Fe (@By K C ⟨A_Levels,A_Lightest,A_Kept⟩) λhr nd=>aS (dH (by w_up)));have qv:=qr.jR l.prog w base (qr.F.lV (mg:=mg) (k:=2) zG (@wH K C ⟨A_Levels,A_Lightest,A_Kept⟩) λhr nd=>aS (dH (gA (Bg rfl) rfl T.WU BootT.sum (aK (lq ["tie"] (ys:=oE) [0] rfl (by w_up) ⟨rfl,.inl rfl,rfl,trivial⟩ (λ_ _ _=>iC (show (["tie","self"]:List bq).Nodup by decide +kernel)) (λ_ _ _=>mf) (λ_ _ _=>(by w_up))) bU))));have fb:=jQ.jR l.prog w base (uX jQ.F T pM tS tT);have pT:=jk.jR l.prog w base (jk.F.lV (k:=3) pF (@u7 K C) λhr nd=>aA (by w_up) (by w_up));have sP:=oR.jR l.prog w base (oR.F.lV (mg:=mg) (k:=3) zE (@Fo K C) λhr nd=>aA (by w_up) (aS (dH (EK rfl rfl T.rP rfl T.Z6 (by w_up)))));have CI:=Cy.jR l.prog w base (Cy.F.lV (mg:=mg) (k:=3) MI (@G5 K C) λhr nd=>aA (by w_up) (by w_up));have fB:=jk.jR l.prog w base (tQ jk.F T fb sI sJ);have pO:=oR.jR l.prog w base (C4 oR.F T fb (by walk_at "l") Bx);have rM:=ky.jR l.prog w base (ky.F.lV (k:=4) rn (@yu K C) λhr nd=>aA (by w_up) (aS (fI (by w_up) (aS pf) c8)));have xR:=nJ.jR l.prog w base (nJ.F.lV (mg:=mg) (k:=4) xq (@C6 K C) λhr nd=>aA (by w_up) (by w_up));have oi:=og.jR l.prog w base (og.F.lV (mg:=mg) (k:=4) uH (@sF K C ⟨A_Levels,A_Lightest,A_Kept⟩) λhr nd=>aA (by w_up) (aS (dH (SK sP T.sQ hr.m (pv 3) ju (aK (qT (by w_up) (by w_up) (by w_up)) bU)))));have tF:=cN.F.lV (P:=l.prog) (w:=w) (base:=base) (mg:=mg) (k:=4) sX (@zY K C ⟨A_Levels,A_Lightest,A_Kept⟩) λhr nd=>aA (fI (by w_up) (aS pf) c8) (aA (by w_up) (aA (pj (pv 0) (yY dF.m dF.G hr.m rfl T.Jp dF.b .nil ju (by w_up)) rfl) (by w_up)))
 have oz:VD l.prog w K mg base vW 5 A_Kept "__init__" rh (dg K C (⟨A_Levels,A_Lightest,A_Kept⟩:CA)):=⟨cN.f,cN.d,tF,.type "type",g_K,r_K,(by rw [e_K];exact t_K),cN.F.kp,cN.b⟩
 have CJ:=oh.F.lV (P:=l.prog) (w:=w) (base:=base) (mg:=mg) (k:=4) Cj (@G6 K C ⟨A_Levels,A_Lightest,A_Kept⟩) λhr nd=>aS (dH (by w_up));have CK:=oh.jR l.prog w base CJ;have gF:=ky.jR l.prog w base (wB ky.F T fB vh vi);have iQ:=nJ.jR l.prog w base (Bs nJ.F T fB (by walk_at "l") z3);have qw:=yt cN.F T dF pN (by walk_at "l") wG
 have Ra:VD l.prog w K mg base (rV l.prog w) 5 A_Kept "__init__" rh (ji K C (⟨A_Levels,A_Lightest,A_Kept⟩:CA) (⟨X_Alike,X_Fixed,X_Joined,X_NoCount,X_NoPlace,X_NoRow,X_NoTie,X_TieError,X_Tied⟩:EC)):=⟨cN.f,cN.d,qw,.type "type",g_K,r_K,(by rw [e_K];exact t_K),cN.F.kp,cN.b⟩
 have xS:=Fk oh.F T pO (by walk_at "l") Dj;have Xk:=oh.jR l.prog w base xS
 have mC:VD l.prog w K mg base (rV l.prog w) 5 A_Kept "__init__" rh (J0 (dg K C (⟨A_Levels,A_Lightest,A_Kept⟩:CA)) (ji K C (⟨A_Levels,A_Lightest,A_Kept⟩:CA) (⟨X_Alike,X_Fixed,X_Joined,X_NoCount,X_NoPlace,X_NoRow,X_NoTie,X_TieError,X_Tied⟩:EC))):=⟨cN.f,cN.d,gN.orx (m:=5) tF qw (by decide) (by decide),.type "type",g_K,r_K,(by rw [e_K];exact t_K),cN.F.kp,cN.b⟩
 have Hl:=oh.jR l.prog w base (gN.orx (m:=5) CJ xS (by decide) (by decide));have Jl:=rK.F.lV (P:=l.prog) (w:=w) (base:=base) (mg:=mg) (k:=5) Bo (@MV K C) λhr nd=>aA (by w_up) (aA (by w_up) (aA (fI (by w_up) (aS pf) c8) (by w_up)));have Jm:=rK.jR l.prog w base Jl;have vD:=mD.jR l.prog w base (mD.F.lV (k:=5) pG (@Bu K C) λhr nd=>aA (by w_up) (aA (by w_up) (aA (fI (by w_up) (aS pf) c8) (by w_up))));have CL:=Cw.jR l.prog w base (Cw.F.lV (mg:=mg) (k:=5) MH (@G4 K C) λhr nd=>aA (by w_up) (aA (fI (by w_up) (aS pf) c8) (by w_up)));have FR:=FO.jR l.prog w base (FO.F.lV (mg:=mg) (k:=5) OR (@Ki K C) λhr nd=>aA (by w_up) (aA (fI (by w_up) (aS pf) c8) (by w_up)));have FS:=sM.jR l.prog w base (sM.F.lV (mg:=mg) (k:=5) E9 (@Kh K C) λhr nd=>aS (dH (qT (by w_up) (by w_up) D5)));have xU:=lj.F.lV (P:=l.prog) (w:=w) (base:=base) (mg:=mg) (k:=5) xt (@Di K C ⟨A_Levels,A_Lightest,A_Kept⟩) λhr nd=>aS (dH (by w_up));have xV:=lj.jR l.prog w base xU;have sC:=sM.jR l.prog w base (GZ sM.F T iQ uY Ft Fv);have CM:=Ka rK.F T gF nZ (by walk_at "l") G7;have Z2:=rK.jR l.prog w base CM;have nc:=mD.jR l.prog w base (zQ mD.F T gF nZ (by walk_at "l") yw);have tG:=Bt lj.F T iQ (by walk_at "l") z4;have Ud:=lj.jR l.prog w base tG;have u6:=rK.jR l.prog w base (gN.orx (m:=6) Jl CM (by decide) (by decide));have Dl:=lj.jR l.prog w base (gN.orx (m:=6) xU tG (by decide) (by decide));have vE:=vv.jR l.prog w base (vv.F.lV (mg:=mg) (k:=6) Fb (@Bv K C ⟨A_Levels,A_Lightest,A_Kept⟩) λhr nd=>aA (by w_up) (by w_up));have xW:=xJ.jR l.prog w base (xJ.F.lV (mg:=mg) (k:=6) GU (@Da K C ⟨A_Levels,A_Lightest,A_Kept⟩) λhr nd=>aA (X3 (aY (BQ (by decide) _) hr.units) (by w_up) (pv 1) eS uo (λ_ _ _=>rfl)) (by w_up));have xX:=xK.jR l.prog w base (xK.F.lV (mg:=mg) (k:=6) xr (@De K C ⟨A_Levels,A_Lightest,A_Kept⟩) λhr nd=>aA (dU (kX lW nN nO (DM hr.units) (by w_up) (by w_up))) (aA (j6 xr.nd (kX lW nN nO (DM hr.units) (by w_up) (by w_up))) (aS (fI (mi (kX lW nN nO (DM hr.units) (by w_up) (by w_up)) (λ_=>rfl)) (by w_up) c8))));have FT:=pS.F.lV (P:=l.prog) (w:=w) (base:=base) (mg:=mg) (k:=6) Fd (@Kq K C ⟨A_Levels,A_Lightest,A_Kept⟩) λhr nd=>aS (dH (by w_up));have FU:=pS.jR l.prog w base FT;have Ag:=G1 pS.F T sC Fx Fy;have YE:=pS.jR l.prog w base Ag;have KG:=pS.jR l.prog w base (gN.orx (m:=7) FT Ag (by decide) (by decide));have Ah:=Aa.jR l.prog w base (Aa.F.lV (k:=7) sv (FH (K:=K) (C:=C) (A:=⟨A_Levels,A_Lightest,A_Kept⟩) (X:=⟨X_Alike,X_Fixed,X_Joined,X_NoCount,X_NoPlace,X_NoRow,X_NoTie,X_TieError,X_Tied⟩) T) λhr nd=>aA (by w_up) (aA (J1 (i:=5) (λ_ E=>aS (fI (by w_up) (aS (dU (SK Dl T.ka hr.m (pv 0) Mv (by w_up)))) (aS (fI (by w_up) (aS (dU (SK KG T.ka hr.m (pv 0) Mv (by w_up)))) (aS (dU (SK Hl T.ka hr.m (pv 0) Mv (by w_up)))))))) rfl ⟨rfl,rfl⟩ rfl T.yF sv.nd rfl rfl (λ_=>aS (j6 sv.nd (EN eE.G hr.nm rfl eE.m eE.kp eE.b (by w_up))))) (by w_up)));have Ai:=Ac.jR l.prog w base (Ac.F.lV (mg:=mg) (k:=7) J9 (@Fq K C ⟨A_Levels,A_Lightest,A_Kept⟩) λhr nd=>aA (by w_up) (by w_up));have xY:=xN.jR l.prog w base (xN.F.lV (mg:=mg) (k:=7) qG (@Dg K C ⟨A_Levels,A_Lightest,A_Kept⟩ Pt1) λhr nd=>aA (Uz (i:=3) qG.nd rfl (Or.inr rfl) (by w_up)) (aA (JI (i:=4) ["other"] (ys:=["side"]) [3] rfl qG.nd rfl rfl (by w_up) ⟨rfl,.inl rfl,rfl,trivial⟩ (λ_ _ _=>iC (show (["other","side"]:List bq).Nodup by decide +kernel)) (λ_ _ _=>qX (by w_up)) (λ_ _ _=>(pv 0))) (by w_up)));have rN:=rL.jR l.prog w base (rL.F.lV (k:=8) m8 (yx (K:=K) (C:=C) (A:=⟨A_Levels,A_Lightest,A_Kept⟩) (X:=⟨X_Alike,X_Fixed,X_Joined,X_NoCount,X_NoPlace,X_NoRow,X_NoTie,X_TieError,X_Tied⟩)) λhr nd=>aA (by w_up) (aA (fI (by w_up) (aS (j6 m8.nd (qB (aK iB bU)))) c8) (aA (by w_up) (aA (fI (by w_up) (aS (j6 m8.nd (qB (aK iB bU)))) c8) (by w_up)))));have lb:=xO.jR l.prog w base (xO.F.lV (mg:=mg) (k:=8) qH (@Dh K C ⟨A_Levels,A_Lightest,A_Kept⟩ Pt1) λhr nd=>aA (by w_up) (aA (by w_up) (aA (by w_up) (aA (by w_up) (aA (D8 dS (by w_up) (aA (by w_up) (aA (j6 qH.nd (aaw (aav (qU (A8 hr.units) (qU (A8 hr.units) (pv 4) (LL Ec eS) (λ_ _=>rfl)) eS (λ_ _=>rfl))))) (aS (Og (i:=2) qH.nd rfl (Or.inl rfl) eS XM))))) (by w_up))))));have j9:=vw.jR l.prog w base (vw.F.lV (mg:=mg) (k:=8) Fc (@Bw K C ⟨A_Levels,A_Lightest,A_Kept⟩) λhr nd=>aA (mZ (pv 0) eS uo) (by w_up));have FV:=pR.F.lV (P:=l.prog) (w:=w) (base:=base) (mg:=mg) (k:=9) sx (@Kr K C ⟨A_Levels,A_Lightest,A_Kept⟩ Pt1) λhr nd=>aA (by w_up) (aA (mZ (pv 0) (by w_up) uo) (aA (by w_up) (aA (mZ (pv 0) (by w_up) uo) (aA (mZ (pv 0) (by w_up) uo) (by w_up)))));have FW:=pR.jR l.prog w base FV;have oH:=ie.F.lV (P:=l.prog) (w:=w) (base:=base) (mg:=mg) (k:=9) d8 (@tU K C ⟨A_Levels,A_Lightest,A_Kept⟩ Pt1) λhr nd=>aA (dU (pcb oz hr.m (lY rfl T.Rg rfl) ju (aK (pv 0) (aK (pv 1) bU)))) (by w_up);have ig:=ie.WW l.prog w base n5 n6 oH;have Aj:=G0 pR.F T nc uZ lb zS zT lg (by walk_at "l") Fw;have YF:=pR.jR l.prog w base Aj;have mW:=sD ie.F T mC ng u6 j9 (by walk_at "l") rJ;have Lx:=ie.WW l.prog w base n5 n6 mW;have jL:=ie.WW l.prog w base n5 n6 (gN.orx (m:=10) oH mW (by decide) (by decide));have KH:=pR.jR l.prog w base (gN.orx (m:=10) FV Aj (by decide) (by decide));have FX:=FN.jR l.prog w base (FN.F.lV (k:=10) yo (Ku (K:=K) (C:=C) (A:=⟨A_Levels,A_Lightest,A_Kept⟩) (X:=⟨X_Alike,X_Fixed,X_Joined,X_NoCount,X_NoPlace,X_NoRow,X_NoTie,X_TieError,X_Tied⟩) (Pt:=Pt1) T) λhr nd=>aA (by w_up) (aA (J1 (i:=4) (λ_ E=>aS (dU (SK KH T.ka hr.m (pv 0) Mv (by w_up)))) rfl ⟨rfl,rfl⟩ rfl T.yF yo.nd rfl rfl (λ_=>aS (j6 yo.nd (EN eE.G hr.nm rfl eE.m eE.kp eE.b (by w_up))))) (by w_up)));have vF:=Cu.jR l.prog w base (Cu.F.lV (k:=11) uG (Hj (K:=K) (C:=C) (A:=⟨A_Levels,A_Lightest,A_Kept⟩) (X:=⟨X_Alike,X_Fixed,X_Joined,X_NoCount,X_NoPlace,X_NoRow,X_NoTie,X_TieError,X_Tied⟩) (Pt:=Pt1) T) λhr nd=>aA (by w_up) (aA (J1 (i:=3) (λ_ E=>aS (dU (yY jL.m jL.G hr.m rfl T.CO jL.b .nil Mv (by w_up)))) rfl ⟨rfl,rfl⟩ rfl T.yF uG.nd rfl rfl (λ_=>aS (j6 uG.nd (EN eE.G hr.nm rfl eE.m eE.kp eE.b (by w_up))))) (by w_up)));have Ak:=Ab.jR l.prog w base (Ab.F.lV (k:=11) zD (FI (K:=K) (C:=C) (A:=⟨A_Levels,A_Lightest,A_Kept⟩) (X:=⟨X_Alike,X_Fixed,X_Joined,X_NoCount,X_NoPlace,X_NoRow,X_NoTie,X_TieError,X_Tied⟩) (Pt:=Pt1)) λhr nd=>aA (qz dS rfl (lC (pv 2)) (by w_up) (aA (by w_up) (aA (by w_up) (aA (fI (nC (yj hr.units) (pv 6) iB (qA _)) (aA (j6 zD.nd (qB (aK iB bU))) (aA (by w_up) (aS (fI (by w_up) (aA (by w_up) (aS (dU (kX lW nN nO (DM hr.units) (pv 3) (by w_up))))) c8)))) c8) (aA (by w_up) (aA (by w_up) (aA (by w_up) (aS (fI (nC (Er hr.units) (gA si rfl T.rP BootT.Et (aK (lq IW (ys:=[]) [] rfl (by w_up) trivial (λ_ _ _=>iC (show (IW:List bq).Nodup by decide +kernel)) (λ_ _ _=>mf) (λ_ _ _=>(by w_up))) bU)) (by w_up) (qA _)) (by w_up) c8))))))))) (by w_up));exact Q9.F.lV (k:=12) MF (YD (X:=⟨X_Alike,X_Fixed,X_Joined,X_NoCount,X_NoPlace,X_NoRow,X_NoTie,X_TieError,X_Tied⟩) ct) λhr nd=>aA (by w_up) (aA (by w_up) (aA (by w_up) (aA (by w_up) (aA (qz dS rfl (by w_up) (iC MF.nd) (aA (by w_up) (aS (dU (kX bD cG cH iO (pv 4) (aK (UJ (aK (pv 6) (aK (pv 7) (aK (oC A4 (by w_up) (oC Eb eS eS)) bU)))) bU)))))) (aA (fI (by w_up) (aA (j6 MF.nd (qB (aK (LL Ec (oC A4 (by w_up) (oC Eb eS eS))) (aK (oC y6 eS (oC A4 (by w_up) (oC Eb eS eS))) (aK Ut (aK D5 (aK iB (by w_up)))))))) (aS (dH (Jx (yj hr.units) (by w_up) (qB (aK iB bU)) (qA _))))) c8) (aA (fI (PW.pt (Ze (by w_up) (Uv (nC (Er hr.units) (Gz vF hr.m rfl ju (aK (pv 2) (aK (UY (pv 4)) bU))) (Gz qO hr.m rfl ju (aK (pv 2) (aK (UY (pv 4)) bU))) (qA _))))) (by w_up) c8) (aA (by w_up) (aA (by w_up) (aA (qz dS rfl (lC (pv 4)) (by w_up) (aS (fI (PW.pt (Oe (nC (yj hr.units) (by w_up) iB (qA _)) (by w_up))) (by w_up) c8))) (aA (j6 MF.nd (yY ig.m ig.G hr.m rfl T.CO ig.b .nil ju (by w_up))) (aA (j6 MF.nd (oC y6 (lq IW (ys:=[]) [] rfl (lC (pv 4)) trivial (λ_ _ _=>iC (show (IW:List bq).Nodup by decide +kernel)) (λ_ _ _=>mf) (λ_ _ _=>(by w_up))) (lq IW (ys:=[]) [] rfl (lC (VH (pv 4))) trivial (λ_ _ _=>iC (show (IW:List bq).Nodup by decide +kernel)) (λ_ _ _=>mf) (λ_ _ _=>(by w_up))))) (by w_up))))))))))))
theorem walk {l:tK}{q:bQ}{loose:List bq}{XP:(bq->Option ai)->cJ->Prop}{YP:cU->cJ->Prop}{d dy1:DefRec}{K:Params->aa}{c1 Pt1:ah}(hn:l.most=some 63) (hdf:d.params.defaults=[])
  (hY:∀ (w:cU) (h:cJ),YP w h->(K w.params).In h)
  (hrec1:(recsOf q).find? (λe=>e.name == ("in_order":bq))=some dy1) (htab1:∀ w:cU,PySem.W.tabIn (K w.params) "in_order"=some (c1,Pt1))
  (hnt:∀ w:cU,PySem.W.noTabs (K w.params)=true)
  (F:∀ (w:cU) (mg:bq->Option ai) (fa:ah) (h:cJ),(K w.params).In h->h.Ns bw mg->mg d.name=some (.ref fa) ->
   ∃ fd:fM,(∀ (s:ay) (u:ai),DT s fd ⟨[u],[]⟩ [("_law_script",u)])/\∀ base:cJ,(K w.params).In base->base.Ns bw mg->oX base c1 Pt1->base.BuiltinsAt mg Pt1->gN l.prog w (K w.params) mg base vW 13 fa fd QV (FJ (K w.params) Pt1)) :
  W8 q loose XP YP l.row.toRowW d [] (λf vs=>W9 f vs):=by
 have m1:(c1,Pt1)∈[(c1,Pt1)]:=ar;refine L2.VE (n:=63) (k:=13) (x:="_law_script") (Ps:=[(c1,Pt1)]) (sp:=λw=>FJ (K w.params) Pt1) hn (by decide) hdf ⟨rfl,by decide,by decide⟩ hY (λp hp=>?_) hnt (λw mg fa h a b c=>?_) (λ_ _ a ns hl hT hS=>⟨a,ns,rfl,hS,hl,.inl (hT _ m1),λ_=>rfl⟩) λ_ _ _ _ z=>z
 .rw [aC.mp hp];exact ⟨_,dy1,hrec1,htab1⟩
 .obtain ⟨fd,q1,q2⟩:=F w mg fa h a b c;exact ⟨fd,q1,λbase i1 i2 hP=>q2 base i1 i2 (hP _ m1).1 (hP _ m1).2⟩
end K55
end
end
local macro_rules | `(tactic| walk_at "b1")=>`(tactic| exact λ_ _ _ _ _ _=>L2.m1 λ_=>rfl)
local macro_rules | `(tactic| walk_at "b2")=>`(tactic| exact λ_ _ _ _ _ _=>L2.m2 λ_ _=>rfl)
local macro_rules | `(tactic| walk_at "b3")=>`(tactic| exact λ_ _ _ _ _ _=>L2.m3 λ_ _ _=>rfl)
local macro_rules | `(tactic| walk_at "b4")=>`(tactic| exact λ_ _ _ _ _ _=>L2.m4 λ_ _ _ _=>rfl)
local macro_rules | `(tactic| walk_at "b5")=>`(tactic| exact λ_ _ _ _ _ _ us hl=>match us,hl with|[_,_,_,_,_],_=>rfl)
structure PySem.W.Fast:Prop where(tw3175659344225383040 tw7335246620238142251 tw10545541166586885864 tw15674638480959295094 tw8144358815655032331 tw703467651093456784 tw2094964400695265292 tw12742368516127704032 tw9699895134213884046 tw3957683867857449946 tw3208764239168844370 tw12278200849733812482 tw8955759494184218973 tw3287482943947268985 tw12611285197821271591 tw9599244009621233572 tw13921896320644585294 tw7751613260593945105 tw6916184677230120229 tw13835993463383438077 tw4092586644563020437 tw9779736132095140521 tw9014578466349416017 tw5412661443662700355 tw15280981189956153113 tw4703937791354883407 tw13405787005653742485 tw13998532640203930006 tw8507690826349258661 tw7912419812980807347 tw17437619692943021266 tw17695073505528852999 tw9292730543088284604 tw7506991248575276948 tw1576157735155913820 tw6798705428105087687 tw9151101526229057215 tw16282023243316955768 tw558201420966951027 tw8346535752710730739 tw1747273365405683053 tw15778647575828706570 tw3684808139806002300 tw11462228855966597554 tw12543557381788916589 tw6560987956968299867 tw25710138428182253 tw1498356249241461323 tw11634285332730226599 tw2225075672113401119 tw813920405276974915 tw16238187702590569683 tw3781808321056207904 tw10644468788858632799 tw8002204435596982696 tw8997352174750465573 tw6922302887545772605 tw10313971758535935959 tw6937893372752241717 tw17871319946926235637 tw5288972327959818223 tw1305583779560652877 tw16187894971000910682 tw6088587783254251488 tw12771910539458409426 tw15326201209413607931 tw786202109494139026 tw10446458998518330146 tw2216511614478617872 tw8039722636215835372 tw3318978455847698342 tw11368250716415089820 tw16571582944916551705 tw4254239490358315513 tw654871805104925272 tw2597910134464194996 tw8124912142129076154 tw16321523981106262505 tw15120398296566556998 tw17195805273279888811 tw11778610798510016605 tw12238364144038801645 tw596658478034278558 tw8758809432637773612 tw588107504010042184 tw14190403961089984216 tw6447707763868293485 tw5947797928772413095 tw3242954429286658042 tw417887067648802115 tw14116705862395128667 tw15142793829652408400 tw635375075075492343 tw10373695051768532644 tw16513923609070848081 tw7505316508701574619 tw12878406270224943278 tw10603184296622670284 tw15818918898357588138 tw17677086940290478677 tw3897133447123666958 tw4314460185365349370 tw14698430050525418882 tw6116050378551642829 tw1595592113259818944 tw5811394110319842747 tw14706519576906913146 tw13901695220620012591 tw7760268533869783240 tw1607273037180947016 tw16600255976471326094 tw11090531607768570579 tw15147194773948850824 tw3754765636482995583 tw2660668095702691804 tw1799368719426084304 tw9469642736474923757 tw10870094736667589720 tw836720891407511231 tw9821660142624092204 tw345600704161329503 tw4896353542613552406 tw378279542104919069 tw3231299584459193341 tw13873897436853596541 tw2033942686923864045 tw2448227909891355049 tw7510053565185957279 tw4098405586731785986 tw3380461263335867983 tw476601892397350075 tw13071186649804741246 tw17607963707456879151 tw1061743025043309394 tw15165486860278789613 tw9277317354758689689 tw6400128623927635806 tw11691266850198888226 tw13743301925008246767 tw14896411552797593212 tw2956490650938403279 tw5275587886967939098 tw10017449921740710623 tw10197194960564808348 tw4506834596497706855 tw12614835021941680163 tw10699569342207032307 tw3527665980244086677 tw4271605081908385212 tw7972017551586138596 tw406942906827673169 tw675940928033065684 tw10552621834415168319 tw9921960024303818932 tw10850187081406903751 tw18111530868104659041 tw3921779913491247631 tw6370510620549884899 tw6276966655113399481 tw16739729514925616084 tw8917005781830052729 tw15439608229950640293 tw7971993770946624339 tw4154150990578960067 tw6657065254765227639 tw10101005975408706437 tw11171989323903637199 tw17260648533692414674 tw14961263738473291368 tw6966619906387369570 tw3139461727069865578 tw2374178034804379491 tw5398383681202312361 tw562900327500385067 tw8723005775130625395 tw14008658490186871635 tw1427975729509889697 tw6203694085447347274 tw10710915273230765268 tw18088996278169211353 tw11682949583974353899 tw12118792235768286206 tw16834481866643102919 tw16135027896758775069 tw3704713896403025939 tw3681372367951824479 tw17398776751077053015 tw5892696230009634307 tw17312683061665181830 tw11151862486872394819 tw5946257175092780253 tw18412984123518830513 tw184640927358590474 tw1281987587436951643 tw14354757686274297028 tw11809126788305168277 tw16021946555503806467 tw13919524246536441103 tw5300250377979639901 tw12819612455223158303 tw7268993463067671715 tw8816341159355984858 tw9148255643048819949 tw7615886360516434921 tw16502436255558808206 tw2269184994223084418 tw12975087947700434475 tw18096824073214972873 tw14368376560667398440 tw9505543170623035013 tw18073571816776584045 tw7544461166024444055 tw16384250273453891869 tw8610295512146747995 tw2538141009069621708 tw11701734263269889222 tw12070325413045654025 tw9048642162533343962 tw2841776728975804452 tw11050410716578860759 tw12991496008061520386 tw12236676499500403062 tw14818802592388968740 tw15156497931417196208 tw7223108114674443137 tw12058497286859830253 tw14366319949583566133 tw12445320673201070840 tw6152230828348418468 tw5127888220435868591 tw11747985891888395029 tw18429823910718629535 tw14053051835864810388 tw13986613164217321729 tw11872861715838012058 tw2347449797228767974 tw991291094815947617 tw3736702151041275962 tw2631650171370536660 tw15468645752364898177 tw1689297314741368033 tw13389118816497864535 tw7848542499606057136 tw64352345695061837 tw10268340556344891642 tw5583787793001819118 tw471221333953068026 tw8968683497383781593 tw1959967101624818543 tw10009337730804235923 tw10767408744161808278 tw16260589356222511049 tw4855104050896763950 tw2263470571971733263 tw10709392402029302798 tw10384119947605467122 tw6412126619636989168 tw11129669338123741703 tw1609283084454548964 tw1267909611655818723 tw9812562902806004537 tw5135663796135500924 tw2068868683308533333 tw14073778335311934771 tw13034008136633125112 tw9283628893728152789 tw12842423669958755024 tw12648899653962313943 tw2912324302179469891 tw4364145083968687444 tw10356000325308399466 tw11001416465118765985 tw5306415417288726294 tw266084162895521887 tw17557178780798425214 tw13188881274423957571 tw5586830476777490902 tw10594411995842812402 tw15230124341923702375 tw734696874371697443 tw1045336941554936210 tw6598250887588077434 tw12371213884254276675 tw11467191805630172047 tw7780499727773027007 tw4202315193246479635 tw6830119376970488662 tw7867805602300308979 tw5658080147641755608 tw6756704457701053585 tw15559967914546296964 tw7737650448800781530 tw11814391646202132080 tw1040285940100035209 tw10754418882212828095 tw2316755277120140582 tw12828308249514280379 tw16255026539810859346 tw3099451413331150848 tw15405114186281691156 tw3115690751903223616 tw3073750669284197067 tw11697421766455362345 tw6176215671040703756 tw8092508720124150640 tw10842892992315367982 tw4716097713683253905 tw18003909410072828640 tw12750841074499132642 tw5066437823072734618 tw11242103714413472715 tw10021002184836797734 tw4974134531719919440 tw4199408756610769385 tw17249317412745833841 tw14024979805894100695 tw17129223116449036687 tw10962668011494275428 tw1854686490510906134 tw240016521245092111 tw9195185784648402862 tw323671063410801272 tw12822661217839285923 tw16182092670532025658 tw13290635074039343758 tw12055668860426577764 tw15081719190842413191 tw14057870744036845331 tw5494530770791407496 tw12133712514661792055 tw4863001608588112387 tw1818813644223822832 tw9546650890714765330 tw7726492208489472133 tw16629736182397508163 tw2906453279527791969 tw6360568641304141058 tw14924297717085790063 tw507593424111803611 tw4786266244850575434 tw9108187945859424603 tw424150761027356560 tw16499239364841395367 tw51310790964462132 tw18044266090252679754 tw13270932372789094228 tw2670352130509022086 tw11427654701025246011 tw6156065603435953389 tw9091048280992130154 tw8020063590593158243 tw17722012395400069606 tw8556904944016061639 tw449248388164428157 tw6382177014076467298 tw13339050497293229157 tw7824215731727622905 tw12810776497768706431 tw10813086213326734666 tw10200020668821306267 tw6906813224284889604 tw2548950874292143752 tw1162146587953487668 tw8625646138447912908 tw10305079951955799279 tw5252895402457510626 tw3156704584416609329 tw6538585154912324949 tw593944909056840829 tw17855493507632066585 tw5745345190562232050 tw483267112790946781 tw13084068707602296616 tw5206864566170788094 tw8030252520632808956 tw13900367959748289367 tw7633401278619569018 tw9516220128047888175 tw5315542762524658102 tw8791062219106445302 tw18285566015732874357 tw1243438219912578592 tw6678857983488120889 tw3250733498411562446 tw18036787695397302010 tw4716089753977013186 tw4783818286135617166 tw4460342604781032038 tw17518603148123842814 tw14408598411325435576 tw4813899320933489583 tw6089345164986003366 tw13681901927838206933 tw1197830745637450470 tw10081746120083679689 tw6960513735399566669 tw3452676932582693592 tw10600149832394387908 tw15932897602113724529 tw11157049106733640114 tw18194883858365694257 tw1910780545170499351 tw7334953796349456580 tw16494525987942795279 tw5257211718173374047 tw16365310882655667196 tw18022410467673307284 tw7505569928490086598 tw11160939718094094180 tw11265817601310028425 tw17062580668447151240 tw15896232610606114332 tw9854296516661282778 tw8129653042749018600 tw18292062360892416456 tw17198387308322801685 tw4273515068761598566 tw1500410745332837263 tw17487586610107047758 tw6300840955250961482 tw7990319099540599713 tw12042728881250293807 tw2921917516815031647 tw13448369965695657803 tw6894905814791536451 tw16215043372402284683 tw6282101176668414490 tw7284049958954138616 tw665065961862587071 tw11145655640651323836 tw15943151548304967927 tw1432868132670472638 tw866645189437077705 tw10038385917399878943 tw13925469027860637964 tw10355104609647031073 tw17919762624193623456 tw6925140773115032443 tw2883793815286075307 tw9511833659405714275 tw3045202820771471967 tw12077998849004144042 tw6952611429389462108 tw12099455612505015706 tw8174233385163676049 tw17827141835432863886 tw7692071922471180520 tw4934683310124708890 tw7725627799821829945 tw13097477163820672423 tw5350662804567176695 tw6134456602582507284 tw6669915498056339016 tw13933222721411356051 tw17998551523642085024 tw2127265162512562865 tw2677255808653976521 tw3129909079832917129 tw2282556523248579318 tw3556985165576551326 tw2434553868109889655 tw12174660631916618137 tw5081015201403777793 tw2544924855833469661 tw18403331643363222441 tw9055580763018718045 tw3008268038187382852 tw14088238418931027665 tw15286945386214126611 tw6800458308678542932 tw10490210534047534500 tw12762111447277429528 tw8484176566902338737 tw17089000313457298462 tw5013940713545896622 tw17860496404508720028 tw6101236828110731534 tw917178401493853045 tw10271070950865642895 tw13583939766007634414 tw13565707897325057713 tw17252987995208140373 tw15314743016305716840 tw2734446761713671105 tw11327117661993250995 tw1503073913496125323 tw18000246271240324262 tw9000238677112870164 tw10775652148571250166 tw6298788125043820619 tw7427068769398446902 tw10163467543441112830 tw210147906794702417 tw7499825976449175767 tw1832844775244344354 tw10559782297115754855 tw832877805191907599 tw10949331410697939589 tw12388411668312494413 tw1764394120537726842 tw9560427612651490980 tw12740379980783491392 tw5238288656780768408 tw4818858333736190219 tw5049239072025193735 tw8892736318719464501 tw16571395336187256577 tw16464219610242635715 tw6118099037441806100 tw14844067094129227082 tw4936263470567474029 tw8677283439120745708 tw16207959698090476043 tw5729958535105066263 tw17974399531831488404 tw6037901723277820371 tw3519039827118339027 tw15354858018327715505 tw2355665206951001038 tw1603752094813200974 tw16349988921157924109 tw17180424075946727131 tw6328497169364898069 tw14310060525141002380 tw9212454432822763107 tw16879764844829831218 tw11542365476332144813 tw12038067542195350846 tw4543143503932344724 tw613179943935075760 tw14706369772711677353 tw17141283698302173658 tw15088679527877526105 tw10309507534873430188 tw2278151529839586417 tw18137715168373265771 tw1742847009756458694 tw1774998952660997840 tw395617957977185433 tw990131689042174405 tw17715939124580364598 tw4380400233716037058 tw17541552793240453759 tw11113641049586390133 tw6354386361685431928 tw16794346857698935895 tw16907736055079667826 tw16207859053181659730 tw17615995621859456367 tw9744175863774844216 tw10428089593831208332 tw12154935356944718344 tw5391904572639238124 tw6267584790245317981 tw2601476456555488052 tw1573476248633370491 tw1339703332842200836 tw7755249616064888440 tw9472456004089509881 tw4226936232716241540 tw10625091853337219138 tw7032668994901797640 tw414026707666934057 tw4211818883704212667 tw320856646626646625 tw16929413456327379691:True)
open PySem PySem.W PyProof.Rows
theorem PySem.Challenge.cw_tiewood_k55_what_a_lightest_refuses_holds : PySem.Challenge.rw_tiewood_k55_what_a_lightest_refuses.Holds := by
  w_on;o_law;k_head;(case hw=>w_witness2)
  k_fill
  refine' K55.walk (l:=PySem.Challenge.rw_tiewood_k55_what_a_lightest_refuses) rfl rfl (λw h Y=>PySem.W.km_in_of Y) ?hrec1 ?htab1 ?hnt ?F
  case hrec1=>exact rfl
  case htab1=>intro w;exact rfl
  case hnt=>intro w;exact rfl
  case F =>
    intro w mg fa h KX G hmg;refine' K55.abz KX G hmg ?Kw ?Kx ?Kz ?KA ?KB ?KC ?KD ?vR ?oo ?BB ?BC ?BD ?BE ?BF ?BG ?BH ?iV ?iF ?jy ?kb ?vm ?vn ?vo ?vp ?vq ?n5 ?n6 ?jA ?iT ?iU ?jz ?mE ?i7 ?jx ?ax_Alike ?ax_Fixed ?ax_Joined ?ax_NoCount ?ax_NoPlace ?ax_NoRow ?ax_NoTie ?ax_TieError ?ax_Tied ?pU ?lF ?lE ?pV ?sR ?xhn ?WI ?KE (L2.wy KX G ?O4 ?O5 ?FQ ?O6 (by walk_at "b1")) (L2.wy KX G ?O7 ?O8 ?pN ?O9 (by walk_at "b1")) (L2.wy KX G ?Pa ?Pb ?pM ?Pd (by walk_at "b2")) (L2.wy KX G ?adf ?adg ?Z1 ?adh (by walk_at "b1")) (L2.wy KX G ?Wq ?Wr ?nZ ?Ws (by walk_at "b2")) (L2.wy KX G ?Wt ?Wu ?uZ ?Wv (by walk_at "b2")) (L2.wy KX G ?YG ?YH ?zT ?YI (by walk_at "b1")) (L2.wy KX G ?YJ ?YK ?zS ?YL (by walk_at "b1")) (L2.wy KX G ?Hm ?Hn ?xP ?Ho (by walk_at "b1")) (L2.wy KX G ?Ww ?Wx ?M6 ?Wy (by walk_at "b2")) (L2.wy KX G ?SU ?SV ?Jk ?SW (by walk_at "b4")) (L2.wy KX G ?Wz ?WB ?M7 ?WC (by walk_at "b3")) (L2.wy KX G ?WD ?WE ?uY ?WG (by walk_at "b3")) (L2.wy KX G ?Al ?Am ?qu ?An (by walk_at "b2")) (L2.wy KX G ?yB ?yC ?pT ?yD (by walk_at "b3")) (L2.wy KX G ?BI ?BJ ?rM ?BK (by walk_at "b3")) (L2.wy KX G ?Ph ?Pi ?ng ?Pj (by walk_at "b2")) (L2.wy KX G ?Hq ?Hr ?xQ ?Hs (by walk_at "b2")) (L2.wy KX G ?SX ?SY ?Jm ?SZ (by walk_at "b4")) (L2.wy KX G ?FY ?FZ ?vD ?F0 (by walk_at "b4")) (L2.wy KX G ?Ga ?Gb ?vB ?Gc (by walk_at "b2")) (L2.wy KX G ?KI ?KJ ?Ad ?KL (by walk_at "b2")) (L2.wy KX G ?M8 ?M9 ?CD ?Na (by walk_at "b2")) (L2.wy KX G ?Dm ?Do ?tE ?Dp (by walk_at "b2")) (L2.wy KX G ?KM ?KN ?Ae ?KO (by walk_at "b3")) (L2.wy KX G ?KQ ?KR ?eE ?KU (by walk_at "b1")) (L2.wy KX G ?Nb ?Nc ?vF ?Nd (by walk_at "b2")) (L2.wy KX G ?Pk ?Pl ?FX ?Po (by walk_at "b3")) (L2.wy KX G ?KW ?KY ?Ah ?KZ (by walk_at "b4")) (L2.wy KX G ?Ht ?Hu ?qO ?Hv (by walk_at "b2")) (L2.wy KX G ?BL ?BM ?rN ?BN (by walk_at "b4")) (L2.wy KX G ?K0 ?K1 ?Ak ?K2 (by walk_at "b4")) (L2.wy KX G ?adi ?adj ?adk ?adl (by walk_at "b1")) (L2.zh ?Dq ?Ds ?Dt ?jw ?Du (by walk_at "b2")) (L2.zh ?Ng ?Nh ?Ni ?CC ?Nj (by walk_at "b2")) (L2.zh ?Nk ?Nl ?Nm ?CL ?Nn (by walk_at "b3")) (L2.zh ?Pp ?Pq ?Pr ?FR ?Pu (by walk_at "b3")) (L2.zh ?Hw ?Hx ?Hy ?xR ?Hz (by walk_at "b3")) (L2.zh ?K3 ?K4 ?K5 ?sP ?K6 (by walk_at "b2")) (L2.zh ?Np ?Nq ?Nr ?CI ?Nt (by walk_at "b2")) (L2.zh ?Pw ?Px ?Py ?FS ?Pz (by walk_at "b3")) (L2.zh ?Nu ?Nv ?Nw ?CF ?Nx (by walk_at "b1")) (L2.zh ?Ao ?Ap ?Aq ?dF ?Ar (by walk_at "b2")) (L2.zh ?K7 ?K8 ?K9 ?Ai ?La (by walk_at "b3")) (L2.zh ?Gd ?Ge ?Gg ?vE ?Gh (by walk_at "b2")) (L2.zh ?HA ?HE ?HF ?xW ?HG (by walk_at "b2")) (L2.zh ?HH ?HI ?HJ ?xX ?HK (by walk_at "b2")) (L2.zh ?As ?Au ?Av ?qt ?Aw (by walk_at "b3")) (L2.zh ?HL ?HM ?HN ?lg ?HP (by walk_at "b2")) (L2.zh ?vG ?vH ?vI ?oi ?vJ (by walk_at "b3")) (L2.zh ?HQ ?HR ?HS ?xY ?HU (by walk_at "b3")) (L2.zh ?HV ?HW ?HX ?lb ?HY (by walk_at "b2")) (L2.zh ?Dv ?Dw ?Dx ?oz ?Dy (by walk_at "b2")) (L2.zh ?Gi ?Gj ?Gk ?j9 ?Gm (by walk_at "b3")) (L2.zh ?PB ?PD ?PF ?FW ?PH (by walk_at "b3")) (L2.zh ?HZ ?Ia ?Ib ?xV ?Ic (by walk_at "b3")) (L2.zh ?PJ ?PK ?PL ?FU ?PN (by walk_at "b3")) (L2.zh ?Ny ?Nz ?NA ?CK ?NB (by walk_at "b2")) (L2.zh ?NC ?ND ?NF ?CG ?NG (by walk_at "b1")) (L2.zh ?Gn ?Gp ?Gq ?vC ?Gr (by walk_at "b1")) (L2.zh ?wJ ?wK ?wL ?ig ?wM (by walk_at "b3")) (L2.zh ?Ax ?Ay ?Az ?qv ?AA (by walk_at "b1")) ?e_K ?g_K ?r_K ?t_K ?yA ?sN ?O2 ?vA ?Wj ?sO ?Wk ?O3 ?Wl ?Wm ?KF ?Wn ?FP ?Wo ?Wp ?qN
    case Kw|Kx|Kz|KA|KB|KC|KD|vR|oo|BB|BC|BD|BE|BF|BG|BH|iV|iF|jy|kb|vm|vn|vo|vp|vq|n5|n6|jA|iT|iU|jz|mE|i7|jx|ax_Alike|ax_Fixed|ax_Joined|ax_NoCount|ax_NoPlace|ax_NoRow|ax_NoTie|ax_TieError|ax_Tied|xhn|WI|KE|O4|O5|FQ|O6|O7|O8|pN|O9|Pa|Pb|pM|Pd|adf|adg|Z1|adh|Wq|Wr|nZ|Ws|Wt|Wu|uZ|Wv|YG|YH|zT|YI|YJ|YK|zS|YL|Hm|Hn|xP|Ho|Ww|Wx|M6|Wy|SU|SV|Jk|SW|Wz|WB|M7|WC|WD|WE|uY|WG|Al|Am|qu|An|yB|yC|pT|yD|BI|BJ|rM|BK|Ph|Pi|ng|Pj|Hq|Hr|xQ|Hs|SX|SY|Jm|SZ|FY|FZ|vD|F0|Ga|Gb|vB|Gc|KI|KJ|Ad|KL|M8|M9|CD|Na|Dm|Do|tE|Dp|KM|KN|Ae|KO|KQ|KR|eE|KU|Nb|Nc|vF|Nd|Pk|Pl|FX|Po|KW|KY|Ah|KZ|Ht|Hu|qO|Hv|BL|BM|rN|BN|K0|K1|Ak|K2|adi|adj|adk|adl|Dq|Ds|Dt|jw|Du|Ng|Nh|Ni|CC|Nj|Nk|Nl|Nm|CL|Nn|Pp|Pq|Pr|FR|Pu|Hw|Hx|Hy|xR|Hz|K3|K4|K5|sP|K6|Np|Nq|Nr|CI|Nt|Pw|Px|Py|FS|Pz|Nu|Nv|Nw|CF|Nx|Ao|Ap|Aq|dF|Ar|K7|K8|K9|Ai|La|Gd|Ge|Gg|vE|Gh|HA|HE|HF|xW|HG|HH|HI|HJ|xX|HK|As|Au|Av|qt|Aw|HL|HM|HN|lg|HP|vG|vH|vI|oi|vJ|HQ|HR|HS|xY|HU|HV|HW|HX|lb|HY|Dv|Dw|Dx|oz|Dy|Gi|Gj|Gk|j9|Gm|PB|PD|PF|FW|PH|HZ|Ia|Ib|xV|Ic|PJ|PK|PL|FU|PN|Ny|Nz|NA|CK|NB|NC|ND|NF|CG|NG|Gn|Gp|Gq|vC|Gr|wJ|wK|wL|ig|wM|Ax|Ay|Az|qv|AA=>k_is
    case pU|lF|lE|pV|sR=>exact ⟨L2.exK rfl rfl (L2.nsq rfl rfl rfl rfl rfl rfl) (L2.nsq rfl rfl rfl rfl rfl rfl),rfl,by k_is,by k_is,by k_is,by k_is,rfl,rfl,rfl,rfl,rfl,rfl,rfl,rfl,rfl,rfl⟩
    case e_K|yA=>exact rfl
    case g_K|r_K|t_K|sN|O2|vA|Wj|sO|Wk|O3|Wl|Wm|KF|Wn|FP|Wo|Wp|qN=>k_is
