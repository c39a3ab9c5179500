import PyProof.Rows.All
import Wide.All
import OpenK.AllK
import Wide.FinOn
import Lean
import PyProof.EqAt
import PyProof.EqKinds
import PyProof.TupleCall
import KE.KMinKey
import KE.KLam
import PyProof.Rows.CallKwBuiltin
import PyProof.Rows.Range3
import PyProof.Rows.SeqMore2
import PyProof.SeqI3
import KE.KSortTup
import PyProof.ZipIter
import KE.KItemsList
import KE.KDictList
import KE.KRevIter
import PyProof.Rows.SetFrom
import PyProof.EnumMake
import PyProof.EnumStmt
import PyProof.EnumFor
import KE.KTryMore
import KE.KTryOn
import KE.KSortKey
import PyProof.ListRange
import PyProof.Rows.SumAny
import KE.KSortTup
import PySem.Challenge.RW_tiewood_k64_whole_all_taken_out
set_option Elab.async false
set_option linter.all false
set_option maxRecDepth 100000
set_option maxHeartbeats 0
open PySem.W renaming Frag->aa,findIn->bG,mg_none_of->cm,nsIn->cJ,keepIn->dN,kia_one->eK,emptyDict->eZ,CodeHd->ic,instObj->ig,fnOf->il,plainGet->iK,hasDictIn->jl,makesIn->j8,plainOver->kQ,kitOne->kR,mg_of->l7,callWith_K->nJ,codeIn->nM,OpenLaw->qt,isFn->qA,methodCall_KW->sU,lookIn->tZ,plainGet_of->vB,kla_obj->xE,methodObj->yH,specialIn->yJ,takerIn->CL,kat_cons->G5,kat_yes->G6,cellsFrom_some->JW,tabObj->JY,kitx_list->Ov,kitx_dict->Ow,handedIn->Ri,WalkO->Rj,tabIn->Rt,readsIn->RJ,findCls->RK
open PySem renaming wpAny_bind->ae,Addr->ag,Value->aj,wpAny_pure->ar,Shared->ax,wpAny->aK,model->aL,sizeLine->aU,starEach->bu,Program->bB,Str->bD,mainGlobals->bM,World->ck,rawInt->cz,wpAny_holding->cI,Heap->cK,Around->cM,bootBuiltins->cV,compareOp->c8,wpAny_call_entry->c9,wpAny_newObj_type->dk,Stmt->dB,wpAny_mono->dH,wpAny_callSpecial?_slot->dS,wpAny_Call_Name_kw->dZ,eval->eJ,FuncData->fz,codeAny_builtin->fR,backTo->fS,cLine->gY,wpAny_attempt->ij,wpAny_askSetting->ip,Builtin->iB,wpAny_truthy_bool->iN,wpAny_setState_of->iO,sysModules->iY,pyNext->iZ,plainId_quiet->i7,wpAny_rule->i9,wpAny_setField->jh,Obj->jk,wpAny_typeNameOfWhole_keyiter->jx,holding->jC,tupleKind_room_in1->jD,wpAny_passesOwn->jJ,wpAny_ite_split->jK,behindInMarks->jL,codeAny->jS,mem_of_lookup->jX,wpAny_loadName_local->ke,tupleKind->kJ,wpAny_setEntries_of->kU,binaryOp->lB,wpAny_typeNameOf_keyiter->lE,SetTable->lF,NameKind->mH,intKind->mI,codeAny_mono->mJ,wpAny_dictEntries->mM,wpAny_fieldsOf->mN,firstArgMember->mO,builtinLookup_eq_fast->nF,assignEach->nI,Arguments->nK,wpAny_isInstance->nN,wpAny_newList->oh,keywordEach->oA,sliceBounds->oB,wpAny_updateSeq->pE,Scope->pH,standAt->qb,wpAny_Name->qz,recursionLimit->qB,Pos->sT,foldedSetIterable->tD,sizeLine_eq->tE,wpAny_field->tF,wpAny_standAt->tY,attributeBase->t7,IsPair->ue,getMethod->vC,relayAll->vD,scanBound->vE,wpAny_nextOf_list_item->xF,wpAny_execs_nil->xM,letOwnedTupleGo->xN,typeLookup_type->xO,Operator->Aa,bindArgs->Ab,backToKw->Ad,wpAny_pyIter_keyiter->Ae,ZipApart->Ag,wpAny_newTuple->Ah,isSubtype_stop->Ai,layNew->Ak,swapsWith->As,inplaceOp->Au,collect->Aw,pickOrder->Ax,seqItems?->Ay,wpAny_Tuple_spliced->CM,wpAny_load->El,rule->Em,setsByText->Ep,BindsTo->GT,valueAt->GV,atKey->GW,callerA->GX,wpAny_pyIter_list->GY,wpAny_pyIter_slot->G1,fits_of_scanBound->G2,Env->He,assign->JV,updateSeq->JZ,Fin->Kd,wpAny_of_eq->Ke,Within->LG,wpAny_specialOf->LI,wpAny_dictEpoch->LJ,setNext->MY,pyIter->N0,Result->N2,wpAny_call->N3,callWith->N4,call_meets->N6,wpAny_runValue->Oa,isSubtype_type->Oc,slotArgs->Od,setEntries->Oe,checkCount->Oh,call->Rk,wpAny_handled->Rp,bindL->RB,bindC->RC,Tok->TF,Keyword->TH,wpAny_typeOf->TJ,newExc->TK,wpAny_isTrue_Compare1->UZ,wpAny_nextOf_list_end->U5,wpAny_notOrdered_dict->U7,wpAny_isOneOf_keyiter->U8,seqIndex_of->WI,wpAny_newFunctionEnv->WJ,wpAny_letGo->WK,wpAny_throw->WM,intItems->WU,Sem->Xb,wpAny_loadName_cell->Xd,wpAny_loadName_free->Xe
open List renaming length_map->af,mem_cons_of_mem->ai,mem_cons->au,mem_cons_self->aw,getElem?_eq_getElem->ay,getElem?_map->aA,mem_singleton->aC,getElem?_eq_some_iff->aD,size_toArray->aI,mem_of_getElem?->aN,mem_append->aS,map_cons->aW,mem_map_of_mem->aX,map_append->aZ,nodup_cons->bb,length_append->bg,mem_map->bo,mem_iff_getElem?->bC,mem_append_right->bH,length_cons->bI,length_take->bS,take_of_length_le->bT,map_map->cf,lookup_cons->cG,not_mem_nil->cH,getLast?_append->cO,length_drop->cW,append_assoc->df,lookup->dC,length_filter_le->dF,getElem?_eq_none->dG,getElem?_append_right->dQ,mem_filter->dR,length->eD,nodup_append->eE,filter_append->eS,count_eq_zero->eT,mem_append_left->eU,take_add_one->fo,getElem?_append_left->fA,take_append_drop->fD,perm_append_comm->fE,eq_nil_or_concat->fF,concat_eq_append->fG,idxOf_lt_length_iff->fW,sum_cons->fX,pairwise_append->gb,pairwise_map->gA,count_append->gB,range->hV,drop_eq_getElem_cons->iw,filter_eq_self->iQ,eq_nil_of_length_eq_zero->jc,zip_cons_cons->jf,mem_of_mem_head?->jy,count_cons_self->jM,filter_cons->jT,getElem_mem->jV,pairwise_iff_getElem->jY,map_congr_left->j9,filter_sublist->ka,find?_cons->kK,getElem?_take->kM,append_of_mem->kN,getLast?_cons->kO,map_singleton->kP,getElem?_cons_zero->kT,mem_range->lK,getElem?_set_self->lL,replicate->lM,nodup_nil->lN,drop_of_length_le->lO,length_replicate->mj,map_take->mL,length_nil->nC,mem_filterMap->oE,getElem?_drop->oF,getElem?_zip_eq_some->pI,take_sublist->qc,ext_getElem?->qd,length_range->qe,any_eq_true->qE,pairwise_singleton->qF,length_pos_of_mem->tJ,append_eq_nil_iff->tK,append_inj_right'->tL,append_nil->ua,of_mem_zip->ub,forIn_cons->ud,length_zip->uf,count_cons->uh,filter_map->ui,getElem?_zipWith->uY,getElem?_set_ne->vG,filterMap_cons->xK,getElem_idxOf->zA,count_pos_iff->zB,map_nil->Av,reverse_perm->Az,perm_middle->CY,dropLast_concat_getLast->Fn,drop_zero->Hh,forIn_nil->Hi,nodup_iff_pairwise_ne->Hm,mem_of_find?_eq_some->J0,any_cons->Kb,map_drop->Kc,length_erase_of_mem->Ki,getElem?_replicate->LH,getElem?_cons_succ->LK,eraseIdx_cons_succ->LL,pairwise_lt_range->MW,any_map->M0,length_singleton->N7,countP_mono_left->N9,getElem?_toArray->Og,singleton_append->Oi,length_eraseIdx->Oz,mem_iff_getElem->OA,mem_of_mem_take->OB,nodup_iff_count->OC,drop_eq_nil_iff->OD,length_pos_iff->Ru,map_eq_nil_iff->Rw,find?_eq_none->RF,drop_sublist->TY,all_eq_true->U3,countP_cons->U4,take_length->Va,map_snd_zip->Vb,cons_append->Vc,take_append->Vd,mem_flatMap->Ve,find?_some->WL,head?_cons->WY,idxOf_cons->WZ,sum_append->W4,take_succ->Xh,drop_drop->Xi
open Nat renaming le_refl->ak,zero_le->aM,ne_of_lt->a6,lt_of_lt_of_le->bp,lt_of_le_of_lt->bz,le_trans->bA,ne_of_gt->dt,lt_irrefl->fk,le_add_right->g9,le_succ->iG,lt_succ_self->i4,le_of_eq->jW,le_of_lt->lZ,le_of_not_lt->mK,mul_le_mul_right->nz,lt_succ_of_lt->qu,succ_le_succ->sW,min_eq_left->uX,pow_le_pow_right->xH,add_le_add_left->yK,min_eq_right->En,lt_trans->N8,add_comm->Oj,pow_succ->Ol,le_zero->Rv,le_succ_of_le->U6,min_le_left->Xg
open PySem.Heap renaming get?_push_of_some->aq,lt_size->aH,get?_push_size->aJ,get?_update_other->bE,get?_update_self->bR,SameBut->gQ,size_push->iR,size_update->qG,get?_none_of_le->Ou,ExtBut->Oy
open PySem.Value renaming ref->aB,none->eP,type->eQ,int->fj,bool->ow,str->qy,float->NZ,isStrOf->Xc
open Array renaming length_toList->aP,getElem?_eq_getElem->cb,getElem?_eq_some_iff->cB,getElem?_toList->dD,perm_iff_toList_perm->fh,toList_append->gJ,getElem?_eq_none->gO,size_push->ir,toList_inj->jQ,toList_map->ml,reverse_append->mS,size_append->pJ,append_assoc->yI,toList_push->Aj,toList_zip->CN,getElem?_reverse->LM,reverse_reverse->MZ,forIn_toList->Ro,getD->Rq
open PyProof.Rows renaming wpS_bind->aR,Keyed->aT,wpS_pure->bf,seqObj->b8,pendingOf->cN,callWith_type1->dw,SortSt->dz,IntsAre->eN,wpS_forRange->fB,wpS_modify->iA,failedOf->iP,SortKind->ji,listUpdate_at->lD,get?_update_seq->lQ,elem'->l8,arrOf->mQ,wpS_mono->mR,IsTup->oz,wpS_get->qf,minRun'->tI,envOfC->uc,reverseSlice'_eq->vF,callWith_builtin1->vH,wpS->vK,AllBare->xC,subscriptTail_builtinR->xD,entry_list_sort->xQ,slot_list_sort->Al,reverseSlice'->CZ,listItems_at->G0,wpS_lift->G7,plain_sorted->G8,entry_sorted->G9,seqEpoch_at->Kg,kind_sorted->Kh,Subscript_->N5,Constant_none->Rh,lt_int->RA,tuples'->TR,minRun'_succ->TU,call_function_entry_kw->TX,iadd_int->U0,mirror_size->WV,binarySort'->WW,mergeAt'->WX,getElem?_mirror_all->Xj,wpAny_call_entry_kw->Xk
open Option.some renaming inj->a7,injEq->fQ
open PyProof.Rows.SortSt renaming mk'->a9
open Option renaming map_eq_some_iff->br,map->xP,isSome_map->zy,map_some->CV,bind_eq_some_iff->J1,bind_eq_bind->Ob,isNone_some->Ox,getD_none->RD,getD_some->RE,pure_def->TN
open Bool renaming false_ne_true->bx,false_eq_true->bW,eq_iff_iff->iz,and_eq_true->jU
open PySem.NameKind renaming free->bL,cell->gI
open PySem.Obj renaming mapSeq->bO,data_mapFields->de,isFreed_of_fields->jE,mapFields->mU,cls_mapFields->qv,putSet->ug,data_mapDictKeys->xG,isFreed_of_dict->RG
open Sum renaming inl->bP,inr->CK
open PySem.F renaming plainAttrs_list->cF,plain_extend_loop->dU,slot_list_append->fO,type_list_append->fP,slot_list_index->f9,type_list_index->kg,plainAttrs_dict->qg,slot_dict_pop->sX,type_dict_pop->sY,slot_dict_getitem->Fg,args_list_index_2->Fk,entry_extend_loop->Fl,args_tuple_add_2->GU,entry_list_index->GZ,entry_tuple_add->Hg,slot_tuple_add->JX
open Prod.mk renaming inj->cS,injEq->vL
open Int renaming le_trans->cZ,le_of_lt->fZ,toNat_natCast->gF,pow_succ->l0,le_refl->nv,not_lt->pF,emod_lt_of_pos->pG,zero_add->CO,emod_nonneg->Ha,mul_comm->Om,emod_eq_of_lt->Vg,natCast_add->Xl
open PySem.Heap.SameBut renaming update->c6
open PySem.SetTable renaming below->dm,grown->iJ,has->Hk,orStandIn->MX,relaid->Rr,fresh->RH,slot->TL,laid->TM,fits->TQ
open PySem.Around renaming under_plainId->dO,under->Ka
open PySem.PyData renaming eqv->d7,depthAll->ft,canLayAll0->iq,depth->lb,canLay0->Fi,int->Fj
open PySem.PassesOwn renaming never->eF
open PySem.Builtin.SmallTypes renaming ownedTupleIsFree->fN,nextOf->i6
open PySem.Builtin.List renaming listExtendWith->gf,listUpdate->iu,listLengthHint->i8,listSameRef->jF,listTooLong->nE,listItems->CW
open False renaming elim->gX
open PySem.Calls renaming spliced_cons->gZ,spliced_nil->lC,Name_function_global->GS,call_function_entry->Hl
open PySem.Str renaming ofString->iH,empty->MU
open True renaming intro->iI
open PySem.SeqAt.EqAt renaming int_int->iL
open ForInStep renaming yield->i5
open List.Perm renaming cons->kL,append_left->lg,refl->sV,eq_nil->On
open List.cons renaming inj->lP
open PySem.SetTable.below renaming go->mP
open List.Pairwise renaming nil->mT
open PySem.Builtin.Dict_items renaming ownsTuple->tG
open PySem.SetTable.probe renaming go->tH
open List.Sublist renaming map->vJ
open PySem.Paired renaming length->xB
open PySem.Builtin.Dict renaming showsAll->Eo
open PySem.pickOrder renaming go->G4
open Prod renaming ext->Hj
open Sum.inl renaming inj->LF
open PySem.Code renaming isFrame->MV
open PyProof.Rows.IntsAre renaming int_at->RI
open StateT renaming run_pure->TV
open PySem.SetTable.Met.empty renaming injEq->U9
open PySem.Builtin.Frozenset renaming newClass->WN,updateFrom->WO,slot0->WQ,addrOf->WR,sizeOf->WS
open PySem.W.KatTups renaming cons->WT
section
open PySem PySem.Spec PyProof.Rows
namespace L2
variable {s s':ax}{pos p pos' apos:sT}{x m qual name:bD}{A:cM}{pins:List (ag×jk)}{u v:aj}{a C b dx f L it:ag}{h h' g base:cK}{K:aa}{w:ck}{E Q:aj->ax->Prop}{e tg c:Expr}{P prog:bB}{us:List aj}{k t' i n:Nat}{es:List Expr}{o:jk}{op:CmpOp}{M:Model}{pl:Xb Bool}{ps N:List bD}{kindOf:bD->Option mH}{ch fp:List ag}{body:List dB}{mA mg:bD->Option aj}{kw:List (bD×aj)}{fd:fz}{g':Array GenState}{d':Drawn}{lo j:Int}{outer:List He}{scope:pH}
abbrev gG:=Sum Int bD
def AA:gG->aj->Bool
 | .inl k,v=>Value.isInt k v
 | .inr x,v=>Xc x v
def ZT (w:ck):gG->Int
 | .inl k=>hashInt k
 | .inr x=>hashStr w x
theorem gE:∀ {k:gG}{v:aj},AA k v=true->(∃ i t,k=bP i/\v=fj i t)\/(∃ x t,k=CK x/\v=qy x t)
 | .inl i,v,h=>by
  obtain ⟨t,e⟩:=Value.isInt_shape (k:=i) (v:=v) h
  exact .inl ⟨i,t,rfl,e⟩
 | .inr x,v,h=>by
  obtain ⟨t,e⟩:=Value.isStrOf_shape (x:=x) (v:=v) h;exact .inr ⟨x,t,rfl,e⟩
theorem M1 (i:Int) (t:TF):AA (.inl i) (.int i t)=true:=by simp [AA,Value.isInt]
theorem M3 (x:bD) (t:TF):AA (.inr x) (.str x t)=true:=by simp [AA,Xc]
theorem Vh (a b:Int):decide ((bP a:gG)=bP b)=(a == b):=by
 by_cases e:a=b
 .subst e;simp
 .have h:¬ (bP a:gG)=bP b:=λq=>e (LF q);rw [decide_eq_false h];exact (beq_eq_false_iff_ne.mpr e).symm
theorem Vi (a b:bD):decide ((CK a:gG)=CK b)=decide (a=b):=by
 by_cases e:a=b
 .subst e;simp
 .have h:¬ (CK a:gG)=CK b:=λq=>e (Sum.inr.inj q);rw [decide_eq_false h,decide_eq_false e]
theorem Vj (a:Int) (b:bD):decide ((bP a:gG)=CK b)=false:=decide_eq_false (λq=>nomatch q)
theorem Vk (a:bD) (b:Int):decide ((CK a:gG)=bP b)=false:=decide_eq_false (λq=>nomatch q)
def fi (prog:bB) (w:ck):PySem.KeyKind prog w gG where
 is:=AA
 hash:=ZT w
 inj:=λv a b ha hb=>by
  rcases gE ha with ⟨i,t,rfl,rfl⟩|⟨x,t,rfl,rfl⟩
  .rcases gE hb with ⟨j,u,rfl,e⟩|⟨y,u,rfl,e⟩
   .injection e with e1 _;rw [e1]
   .exact nomatch e
  .rcases gE hb with ⟨j,u,rfl,e⟩|⟨y,u,rfl,e⟩
   .exact nomatch e
   .injection e with e1 _;rw [e1]
 byValue:=λk v h=>by
  rcases gE h with ⟨i,t,rfl,rfl⟩|⟨x,t,rfl,rfl⟩<;>rfl
 pyHash:=λhv h=>by
  rcases gE hv with ⟨i,t,rfl,rfl⟩|⟨x,t,rfl,rfl⟩
  .exact wpAny_pyHash_int h
  .exact wpAny_pyHash_str h
 eqBool:=λhu hv h=>by
  rcases gE hu with ⟨i,t,rfl,rfl⟩|⟨x,t,rfl,rfl⟩
  .rcases gE hv with ⟨j,u,rfl,rfl⟩|⟨y,u,rfl,rfl⟩
   .rw [Vh] at h;exact wpAny_eqBool_int h
   .rw [Vj] at h;exact SeqAt.EqAt.int_str i t y u _ _ _ _ h
  .rcases gE hv with ⟨j,u,rfl,rfl⟩|⟨y,u,rfl,rfl⟩
   .rw [Vk] at h;exact SeqAt.EqAt.str_int x t j u _ _ _ _ h
   .rw [Vi] at h;exact wpAny_eqBool_str h
 «strs»:=λk x t v h=>by
  rcases gE h with ⟨i,u,rfl,e⟩|⟨y,u,rfl,e⟩
  .exact nomatch e
  .injection e with e1 _
   subst e1;cases v<;>rfl
theorem Hn (prog:bB) (w:ck) (i:Int) (t:TF):(fi prog w).is (.inl i) (.int i t)=true:=M1 i t
theorem Ho (prog:bB) (w:ck) (x:bD) (t:TF):(fi prog w).is (.inr x) (.str x t)=true:=M3 x t
inductive V where
 | non|bl (b:Bool)|int (i:Int)|str (x:bD)|byt (b:Array UInt8)|flt (b:UInt64)|ref (a:ag)|ty (n:String)
 deriving DecidableEq
def RelV:V->aj->Prop
 | .non,u=>u=eP
 | .bl b,u=>u=ow b
 | .int i,u=>∃ t,u=fj i t
 | .str x,u=>∃ t,u=qy x t
 | .byt b,u=>∃ t,u=Value.bytes b t
 | .flt b,u=>∃ t,u=NZ b t
 | .ref a,u=>u=aB a
 | .ty n,u=>u=eQ n
abbrev Vals:List V->List aj->Prop:=Paired RelV
theorem Vals.length {xs:List V}(r:Vals xs us):xs.length=us.length:=xB r
theorem Vals.get:∀ {xs:List V}{us:List aj}{i:Nat}{x:V},Vals xs us->xs[i]?=some x->∃ u,us[i]?=some u/\RelV x u
 | _,_,_,_,.nil,e=>by simp at e
 | _,_,0,_,.cons r _,e=>by simp at e;subst e;exact ⟨_,rfl,r⟩
 | _,_,i+1,x,.cons _ t,e=>by
  obtain ⟨u,h1,h2⟩:=Vals.get (i:=i) (x:=x) t (by simpa using e);exact ⟨u,by simpa using h1,h2⟩
theorem Vals.set {x:V}(r:RelV x u):∀ {xs:List V}{us:List aj}(i:Nat),Vals xs us->Vals (xs.set i x) (us.set i u)
 | _,_,_,.nil=>.nil
 | _,_,0,.cons _ t=>.cons r t
 | _,_,i+1,.cons q t=>.cons q (Vals.set r i t)
theorem Vals.append:∀ {xs ys:List V}{us ws:List aj},Vals xs us->Vals ys ws->Vals (xs++ys) (us++ws)
 | _,_,_,_,.nil,s=>s
 | _,_,_,_,.cons r t,s=>.cons r (Vals.append t s)
theorem Vals.take:∀ {xs:List V}{us:List aj}(n:Nat),Vals xs us->Vals (xs.take n) (us.take n)
 | _,_,0,_=>.nil
 | _,_,_+1,.nil=>.nil
 | _,_,n+1,.cons r t=>.cons r (Vals.take n t)
theorem Vals.drop:∀ {xs:List V}{us:List aj}(n:Nat),Vals xs us->Vals (xs.drop n) (us.drop n)
 | _,_,0,r=>r
 | _,_,_+1,.nil=>.nil
 | _,_,n+1,.cons _ t=>Vals.drop n t
def sS:Option V->Option aj->Prop
 | some v,some u=>RelV v u
 | none,none=>True
 | _,_=>False
def KV {κ:Type}:List (κ×V)->List (κ×aj)->Prop:=Paired λ(p:κ×V) (q:κ×aj)=>p.1=q.1/\RelV p.2 q.2
def kV:gG->V
 | .inl i=>.int i
 | .inr x=>.str x
inductive HO where
  | lst (xs:List V)
  | tup (xs:List V)
  | dK (kvs:List (gG×V))|dT (kvs:List (List gG×V))
  | set (S:Int->Bool) (n:Nat)
  | ins (C dx:ag) (fs:List (bD×V))
  | own (x:ag)
  | xd (fs:List (bD×V))
  | met (f x:ag)
  | rng (lo hi:Int)
  | frz (o:jk) (u:HO)
  | tbl (ps:Array aj)
  | ext (φ:cK->Prop)
abbrev Hp:=ag->Option HO
def upd (H:Hp) (a:ag) (o:HO):Hp:=λb=>if b=a then some o else H b
theorem aE {H:Hp}{o:HO}:upd H a o a=some o:=by unfold upd;rw [if_pos rfl]
theorem aG {H:Hp}{o:HO}(h:b≠a):upd H a o b=H b:=by unfold upd;rw [if_neg h]
theorem gK {H:Hp}{o u:HO}(h:H a=some o) (h':H b=some u) (d:o≠u:=by intro z;cases z):a≠b:=by
 intro e;subst e;rw [h] at h';exact d (a7 h')
theorem aQ {H:Hp}{o:HO}(h:H a=some o) (h':H b=none):a≠b:=by
 intro e;subst e;rw [h] at h';cases h'
section
variable (P:bB) (w:ck)
def eX (H:Hp) (h:cK) (a:ag):HO->Prop
 | .lst xs=>xs.length<=aU/\∃ (its:List aj) (n:Nat),Vals xs its/\h.get? a=some { cls:=.type "list",data:=.seq its.toArray n }
 | .tup xs=>xs.length<=aU/\∃ its:List aj,Vals xs its/\oz h a its.toArray
 | .dK kvs=>kvs.length<=aU/\(a == iY)=false/\∃ vs,KV kvs vs/\h.DictOf (fi P w) a vs
 | .dT kvs=>kvs.length<=aU/\(a == iY)=false/\∃ xs:List (List gG×ag×aj),
   Paired (λ(p:List gG×V) (q:List gG×ag×aj)=>p.1=q.1/\H q.2.1=some (.tup (p.1.map kV))/\RelV p.2 q.2.2) kvs xs /\
   ∃ o es ep,h.get? a=some o/\o.ExactDict/\o.data=.dict es ep/\es.toList=xs.map (entryOfKey (kJ (fi P w)))/\(xs.map (·.1)).Nodup
 | .set S n=>h.SetOf (mI P w) a S n
 | .ins C dx fs=>H dx=some (.own a)/\fs.length<=1000/\dx≠a/\h.get? a=some (ig C dx) /\
   ∃ mA,h.Ns1 dx mA/\(∀ f,sS (fs.lookup f) (mA f))/\LG mA (fs.map (·.1))
 | .own _=>∃ o,h.get? a=some o
 | .xd fs=>∃ mA,h.Ns1 a mA/\∀ f,sS (fs.lookup f) (mA f)
 | .rng lo hi=>∃ t u v,h.get? a=some { cls:=.type "range",data:=.fields #[.int lo t,.int hi u,.int 1 v] }
 | .frz o u=>h.get? a=some o/\eX H h a u
 | .tbl ps=>h.get? a=some { cls:=.none,data:=.fields ps }
 | .met f x=>h.get? a=some (yH (.ref f) (.ref x))
 | .ext φ=>φ h/\(∃ o,h.get? a=some o)/\∀ h1 h2:cK,φ h1->(∀ o,h1.get? a=some o->h2.get? a=some o)->φ h2
def qx (H:Hp) (h:cK):Prop:=∀ a o,H a=some o->eX P w H h a o
end
section
variable {H H':Hp}{o:HO}
theorem eX.lt (x:eX P w H h a o):a<h.objs.size:=by
 cases o with
 | lst xs=>obtain ⟨_,_,_,_,e⟩:=x;exact aH e
 | tup xs=>obtain ⟨_,_,_,p⟩:=x;exact p.lt
 | dK kvs=>obtain ⟨_,_,_,_,o,_,_,e,_⟩:=x;exact aH e
 | dT kvs=>obtain ⟨_,_,_,_,o,_,_,e,_⟩:=x;exact aH e
 | set S n=>obtain ⟨o,_,_,_,e,_⟩:=x;exact aH e
 | ins C dx fs=>obtain ⟨_,_,_,e,_⟩:=x;exact aH e
 | own y=>obtain ⟨_,e⟩:=x;exact aH e
 | xd fs=>obtain ⟨_,⟨_,_,_,e,_⟩,_⟩:=x;exact aH e
 | rng lo hi=>obtain ⟨_,_,_,e⟩:=x;exact aH e
 | frz ob u=>obtain ⟨e,_⟩:=x;exact aH e
 | tbl ps=>exact aH (show h.get? a=some _ from x)
 | met f y=>exact aH (show h.get? a=some _ from x)
 | ext φ=>obtain ⟨_,⟨_,e⟩,_⟩:=x;exact aH e
theorem Paired.NW {α β:Type} {F G:α->β->Prop}:∀ {l₁:List α} {l₂:List β},Paired F l₁ l₂->(∀ a b,F a b->G a b)->Paired G l₁ l₂
 | _,_,.nil,_=>.nil
 | _,_,.cons r t,f=>.cons (f _ _ r) (Paired.NW t f)
theorem eX.yF (x:eX P w H h a o) (k:∀ b u,(b=a\/H b=some (.own a))->h.get? b=some u->h'.get? b=some u)
  (ho:∀ b,H b=some (.own a)->H' b=some (.own a)) (ht:∀ b xs,H b=some (.tup xs)->H' b=some (.tup xs)):eX P w H' h' a o:=by
 induction o with
 | lst xs=>obtain ⟨z,its,n,r,e⟩:=x;exact ⟨z,its,n,r,k _ _ (.inl rfl) e⟩
 | tup xs=>obtain ⟨z,its,r,ob,e,c⟩:=x;exact ⟨z,its,r,ob,k _ _ (.inl rfl) e,c⟩
 | dK kvs=>obtain ⟨z,y,vs,r,ob,es,ep,e,c⟩:=x;exact ⟨z,y,vs,r,ob,es,ep,k _ _ (.inl rfl) e,c⟩
 | dT kvs =>
  obtain ⟨z,y,xs,r,ob,es,ep,e,c⟩:=x
  exact ⟨z,y,xs,Paired.NW r λp q z=>⟨z.1,ht _ _ z.2.1,z.2.2⟩,ob,es,ep,k _ _ (.inl rfl) e,c⟩
 | set S n=>obtain ⟨ob,es,ep,t,e,c⟩:=x;exact ⟨ob,es,ep,t,k _ _ (.inl rfl) e,c⟩
 | ins C dx fs =>
  obtain ⟨d,z,ne,e,mA,⟨od,es,ep,e2,c⟩,r⟩:=x
  exact ⟨ho _ d,z,ne,k _ _ (.inl rfl) e,mA,⟨od,es,ep,k _ _ (.inr d) e2,c⟩,r⟩
 | own y=>obtain ⟨ob,e⟩:=x;exact ⟨ob,k _ _ (.inl rfl) e⟩
 | xd fs=>obtain ⟨mA,⟨od,es,ep,e,c⟩,r⟩:=x;exact ⟨mA,⟨od,es,ep,k _ _ (.inl rfl) e,c⟩,r⟩
 | rng lo hi=>obtain ⟨t,u,v,e⟩:=x;exact ⟨t,u,v,k _ _ (.inl rfl) e⟩
 | frz ob u ih=>obtain ⟨e,q⟩:=x;exact ⟨k _ _ (.inl rfl) e,ih q⟩
 | tbl ps =>
  have e:h.get? a=some { cls:=.none,data:=.fields ps }:=x
  show h'.get? a=some { cls:=.none,data:=.fields ps }
  exact k a _ (.inl rfl) e
 | met f y =>
  have e:h.get? a=some (yH (.ref f) (.ref y)):=x
  show h'.get? a=some (yH (.ref f) (.ref y))
  exact k a _ (.inl rfl) e
 | ext φ=>obtain ⟨p,⟨o,e⟩,st⟩:=x;exact ⟨st _ _ p λo q=>k _ _ (.inl rfl) q,⟨o,k _ _ (.inl rfl) e⟩,st⟩
theorem qx.lt (x:qx P w H h) (e:H a=some o):a<h.objs.size:=(x a o e).lt
theorem qx.fresh (x:qx P w H h) (e:h.objs.size<=a):H a=none:=by
 cases q:H a with
 | none=>rfl
 | some u=>exact absurd (bp (x.lt q) e) (fk _)
theorem qx.kept (x:qx P w H h) (k:∀ b u,h.get? b=some u->h'.get? b=some u):qx P w H h':=λa o e =>
 (x a o e).yF (λb u _ q=>k b u q) (λ_ q=>q) λ_ _ q=>q
theorem qx.laid (x:qx P w H h) (k:∀ b u,h.get? b=some u->h'.get? b=some u) (hp:h.objs.size<=a) (new:eX P w (upd H a o) h' a o):qx P w (upd H a o) h':=λb u e=>by
 have hn:=x.fresh hp
 by_cases hb:b=a
 .subst hb;rw [aE] at e;cases e;exact new
 .rw [aG hb] at e
  exact (x b u e).yF (λc v _ q=>k c v q) (λc q=>by rw [aG (aQ q hn)];exact q) λc xs q=>by rw [aG (aQ q hn)];exact q
end
def Rd (H:Hp) (a:ag) (u:HO):Prop:=H a=some u\/∃ o,H a=some (.frz o u)
theorem Rd.ok {H:Hp}{u:HO}(r:Rd H a u) (x:qx P w H h):eX P w H h a u:=by
 rcases r with r|⟨o,r⟩
 .exact x a u r
 .obtain ⟨_,q⟩:=x a _ r;exact q
def Xm:Option HO->Prop
 | some (.lst _)=>True
 | some (.dK _)=>True
 | some (.dT _)=>True
 | some (.set _ _)=>True
 | some (.ins _ _ _)=>True
 | some (.ext _)=>True
 | _=>False
section
variable {H:Hp}{x e:ag}{o':HO}
theorem qx.write (ok:qx P w H h) (mu:Xm (H x)) (he:e=x\/H e=some (.own x)) (k:∀ b u,b≠e->h.get? b=some u->h'.get? b=some u) (heo:∃ u,h'.get? e=some u)
  (new:eX P w (upd H x o') h' x o'):qx P w (upd H x o') h':=λb u q=>by
 have nown:∀ c y,H c=some (.own y)->c≠x:=λc y r z=>by subst z;rw [r] at mu;exact mu
 have ntup:∀ c xs,H c=some (.tup xs)->c≠x:=λc xs r z=>by subst z;rw [r] at mu;exact mu
 by_cases hb:b=x
 .subst hb;rw [aE] at q;cases q;exact new
 .rw [aG hb] at q
  by_cases hbe:b=e
  .have q':H b=some (.own x):=by
    rcases he with z|z
    .exact absurd (hbe.trans z) hb
    .rw [hbe];exact z
   rw [q] at q';cases q';obtain ⟨v,hv⟩:=heo;exact ⟨v,by rw [hbe];exact hv⟩
  .refine (ok b u q).yF (λc v hc r=>k c v ?_ r) (λc r=>by rw [aG (nown c b r)];exact r) λc xs r=>by rw [aG (ntup c xs r)];exact r
   rcases hc with rfl|hc
   .exact hbe
   .rintro rfl
    rcases he with z|z
    .exact nown c b hc z
    .rw [hc] at z;cases z;exact hb rfl
end
structure Un (fs ex:List ag) (H H':Hp) (h h':cK):Prop where
 keep:∀ b o,h.get? b=some o->H b=none->b∉fs->b∉ex->h'.get? b=some o
 slot:∀ b o,h.get? b=some o->H b=none->b∈fs->b∉ex->∃ sl,h'.get? b=some { o with slots:=sl }
 free:∀ b o,h.get? b=some o->H b=none->b∉ex->H' b=none
 there:∀ b o,h.get? b=some o->b∉ex->∃ o',h'.get? b=some o'
 Eg:∀ b xs,H b=some (.tup xs)->H' b=some (.tup xs)
 CG:∀ b o u,H b=some (.frz o u)->H' b=some (.frz o u)
 CI:∀ b ps,H b=some (.tbl ps)->∃ more,H' b=some (.tbl (ps++more))
section
variable {fs fs' ex ex':List ag}{H H1 H2:Hp}{h1 h2:cK}{x e:ag}{o:HO}
theorem Un.any (u:Un fs ex H H1 h h1) {b:ag}{ob:jk}(q:h.get? b=some ob) (n:H b=none) (hx:b∉ex):∃ sl,h1.get? b=some { ob with slots:=sl }:=by
 by_cases hb:b∈fs
 .exact u.slot b ob q n hb hx
 .exact ⟨ob.slots,u.keep b ob q n hb hx⟩
theorem Un.kept (k:∀ b u,h.get? b=some u->h'.get? b=some u):Un fs ex H H h h' :=
 ⟨λb ob q _ _ _=>k b ob q,λb ob q _ _ _=>⟨ob.slots,k b ob q⟩,λ_ _ _ n _=>n,λb ob q _=>⟨ob,k b ob q⟩,λ_ _ q=>q,λ_ _ _ q=>q,λ_ ps q=>⟨#[],by rw [q];simp⟩⟩
theorem Un.refl:Un fs ex H H h h:=Un.kept λ_ _ q=>q
theorem Un.laid (k:∀ b u,h.get? b=some u->h'.get? b=some u) (hp:h.objs.size<=a) (hn:H a=none):Un fs ex H (upd H a o) h h' where
 keep:=λb u q _ _ _=>k b u q
 slot:=λb u q _ _ _=>⟨u.slots,k b u q⟩
 free:=λb u q n _=>by rw [aG (a6 (bp (aH q) hp))];exact n
 there:=λb u q _=>⟨u,k b u q⟩
 Eg:=λb xs q=>by rw [aG (aQ q hn)];exact q
 CG:=λb u xs q=>by rw [aG (aQ q hn)];exact q
 CI:=λb ps q=>⟨#[],by rw [aG (aQ q hn),q];simp⟩
theorem Un.write (mu:Xm (H x)) (he:e=x\/H e=some (.own x)) (k:∀ b u,b≠e->h.get? b=some u->h'.get? b=some u) (heo:∃ u,h'.get? e=some u):Un fs ex H (upd H x o) h h':=by
 have hx:∀ b,H b=none->b≠x:=λb n z=>by subst z;rw [n] at mu;exact mu
 have hb:∀ b,H b=none->b≠e:=λb n z=>by
  subst z
  rcases he with r|r
  .exact hx b n r
  .rw [n] at r;cases r
 have hm:∀ b u,H b=some u->¬ Xm (some u)->b≠x:=λb u q nm z=>by subst z;rw [q] at mu;exact nm mu
 refine ⟨λb u q n _ _=>k b u (hb b n) q,λb u q n _ _=>⟨u.slots,k b u (hb b n) q⟩,λb u q n _=>by rw [aG (hx b n)];exact n,λb u q _=>?_,
  λb xs q=>by rw [aG (hm b _ q λz=>z)];exact q,λb u xs q=>by rw [aG (hm b _ q λz=>z)];exact q,λb ps q=>⟨#[],by rw [aG (hm b _ q λz=>z),q];simp⟩⟩
 by_cases hbe:b=e
 .subst hbe;exact heo
 .exact ⟨u,k b u hbe q⟩
end
def Zi (h:cK) (H:Hp):List ag:=(hV h.objs.size).filter λa=>(H a).isSome
def AB (h:cK) (H:Hp):cK:=PySem.W.hideAll h (Zi h H)
theorem M4 (h:cK) (H:Hp):(AB h H).objs.size=h.objs.size:=PySem.W.hideAll_size _ _
theorem OE {H:Hp}(e:h.get? b=some o) (n:H b=none):(AB h H).get? b=some o :=
 PySem.W.hideAll_get _ e λhm=>by
  have q:(H b).isSome=true:=(dR.mp hm).2;rw [n] at q;simp at q
theorem RL {H:Hp}(e:(AB h H).get? b=some o):h.get? b=some o/\H b=none:=by
 have e':h.get? b=some o:=PySem.W.of_hideAll (Zi h H) e;refine ⟨e',?_⟩
 cases q:H b with
 | none=>rfl
 | some x =>
  have hm:b∈Zi h H:=dR.mpr ⟨lK.mpr (aH e'),by simp [q]⟩;have z:(AB h H).get? b=none:=PySem.W.hideAll_none (Zi h H) hm;rw [z] at e;cases e
def sZ (g h:cK) (L:ag):List (ag×jk):=(hV h.objs.size).filterMap λa=>if a=L\/(g.get? a).isSome=true then none else (h.get? a).map λo=>(a,o)
theorem yL (h1:a≠L) (h2:g.get? a=none) (h3:h.get? a=some o):(a,o)∈sZ g h L :=
 oE.mpr ⟨a,lK.mpr (aH h3),by simp [h1,h2,h3]⟩
theorem AC {p:ag×jk}(hp:p∈sZ g h L):p.1≠L/\g.get? p.1=none/\h.get? p.1=some p.2:=by
 obtain ⟨b,_,e⟩:=oE.mp hp
 split at e
 .cases e
 .rename_i hn
  cases q:h.get? b with
  | none=>rw [q] at e;simp at e
  | some u =>
   rw [q] at e;simp only [CV,fQ] at e;subst e;refine ⟨λz=>hn (.inl z),?_,q⟩
   show g.get? b=none
   cases r:g.get? b with
   | none=>rfl
   | some v=>exact (hn (.inr (by simp [r]))).elim
theorem OF:News g L h (sZ g h L):=λp hp=>let ⟨a,b,c⟩:=AC hp;⟨c,a,b⟩
structure Mod (K:aa) (mg:bD->Option aj) (base:cK):Prop where
 Xa:K.In base
 glob:base.Ns bM mg
 blt:∃ mb,base.Ns builtinsNs mb/\∀ x:bD,x≠"__name__"->mb x=cV x
 nolimit:base.NoLimit
structure Cx where
 prog:bB
 w:ck
 K:aa
 mg:bD->Option aj
 base:cK
 A:cM
 N:List bD
 s₀:ax
 H₀:Hp
 env:He
 outer:List He
 stack:List He
 ex:List ag
 fn:bD->Bool
 calm:Bool
 pn:List (ag×jk)
 xe:aj->ax->Prop
def NU (l:List He):List ag:=l.filterMap (·.frame)
abbrev Cx.fs (X:Cx):List ag:=NU X.outer
def Zj (sc:pH) (x:bD):Prop:=sc.names.lookup x=some .local\/sc.names.lookup x=some .cell\/sc.names.lookup x=some .free
def Loc (sc:pH) (x:bD):Prop:=sc.names.lookup x=some .local\/sc.names.lookup x=some .cell
def Look (env:He) (h:cK) (m:bD->Option aj) (x:bD) (u:aj):Prop :=
 (env.kindOf x=some .local/\m x=some u)\/((env.kindOf x=some .cell\/env.kindOf x=some .free)/\∃ c,env.cells.lookup x=some c/\h.IsCell c (some u))
structure Cx.Ok (X:Cx):Prop where
 mod:Mod X.K X.mg X.base
 kind:X.env.scope.kind=.function
 glob:X.env.globals=bM
 blt:X.env.builtins=builtinsNs
 above:X.s₀.heap.objs.size<=X.env.locals
 inj:∀ x y c,X.env.cells.lookup x=some c->X.env.cells.lookup y=some c->x=y
 has:∀ x,(X.env.kindOf x=some .cell\/X.env.kindOf x=some .free)->∃ c,X.env.cells.lookup x=some c
 W9:∀ x c,X.fn x=true->X.env.cells.lookup x=some c->X.s₀.heap.objs.size<=c
 hd:X.calm=true->X.A.handled=none
 frames:X.A.frames=some X.stack
 YL:X.stack=X.outer\/(X.stack=X.env::X.outer/\X.env.frame=some X.env.locals)
 Zz:∀ b∈X.ex,b≠X.env.locals/\∀ x c,X.env.cells.lookup x=some c->c≠b
 bs:∀ b o,X.base.get? b=some o->X.s₀.heap.get? b=some o/\X.H₀ b=none
 Q9:X.base.objs.size<=X.s₀.heap.objs.size
 NV:∀ b o,X.base.get? b=some o->b∉X.ex
 NT:∀ b∈X.ex,b∉X.fs
 yE:X.s₀.heap.FunFrames X.base X.outer
 UU:∀ b∈X.fs,X.H₀ b=none
structure Inv (X:Cx) (pins:List (ag×jk)) (Z:List (Option V)) (H:Hp) (s:ax):Prop where
 ok:X.Ok
 os:s.os=X.s₀.os
 bare:xC s.gens
 base:Un X.fs X.ex X.H₀ H X.s₀.heap s.heap
 loc:∃ m,s.heap.Ns X.env.locals m/\∀ (i:Nat) (x:bD) (v:V),X.N[i]?=some x->Z[i]?=some (some v)->Zj X.env.scope x->∃ u,RelV v u/\Look X.env s.heap m x u
 cell:∀ x c,X.env.cells.lookup x=some c->∃ v,s.heap.IsCell c v
 free:H X.env.locals=none
 sQ:∀ x c,X.env.cells.lookup x=some c->H c=none
 pin:∀ p∈X.pn++pins,s.heap.get? p.1=some p.2/\H p.1=none/\p.1≠X.env.locals/\p.1∉X.fs/\∀ v,p.2.data≠.cell v
 eY:qx X.prog X.w H s.heap
 len:Z.length=X.N.length
section
variable {X:Cx}{Z:List (Option V)}{H H':Hp}
theorem Cx.Ok.nofr (ok:X.Ok) {b:ag}{o:jk}(e:X.base.get? b=some o):b∉X.fs:=λhb=>by
 have:=(ok.yE.mem hb).1;rw [e] at this;cases this
theorem Inv.bs (I:Inv X pins Z H s):∀ b o,X.base.get? b=some o->s.heap.get? b=some o/\H b=none:=λb o e =>
 ⟨I.base.keep b o (I.ok.bs b o e).1 (I.ok.bs b o e).2 (I.ok.nofr e) (I.ok.NV b o e),I.base.free b o (I.ok.bs b o e).1 (I.ok.bs b o e).2 (I.ok.NV b o e)⟩
theorem Inv.bk (I:Inv X pins Z H s):∀ b o,X.base.get? b=some o->s.heap.get? b=some o:=λb o e=>(I.bs b o e).1
theorem Inv.mod (I:Inv X pins Z H s):Mod X.K X.mg X.base:=I.ok.mod
theorem Inv.xJ (I:Inv X pins Z H s):X.K.In s.heap:=I.ok.mod.Xa.keeps I.bk
theorem Inv.fr (I:Inv X pins Z H s):∃ m,Fr X.base X.env.locals s.heap m :=
 let ⟨m,hn,_⟩:=I.loc
 ⟨m,hn,I.bk,bA I.ok.Q9 I.ok.above⟩
theorem Inv.lt (I:Inv X pins Z H s):X.env.locals<s.heap.objs.size:=let ⟨_,hn,_⟩:=I.loc;hn.lt
theorem Inv.sz (I:Inv X pins Z H s):X.s₀.heap.objs.size<=s.heap.objs.size:=bA I.ok.above (lZ I.lt)
theorem Inv.nofs (I:Inv X pins Z H s) {a:ag}(h:s.heap.objs.size<=a):a∉X.fs:=λhb=>by
 obtain ⟨_,o,ho,_⟩:=I.ok.yE.mem hb;exact absurd (bp (aH ho) (bA I.sz h)) (fk _)
theorem Inv.WH (I:Inv X pins Z H s):∀ x c,X.env.cells.lookup x=some c->c≠X.env.locals:=λx c e z=>by
 obtain ⟨v,o,ho,hd⟩:=I.cell x c e;obtain ⟨m,⟨o',es,ep,ho',hd',_⟩,_⟩:=I.loc;rw [z,ho'] at ho;cases ho;rw [hd'] at hd;cases hd
theorem Inv.yE (I:Inv X pins Z H s):s.heap.FunFrames X.base X.outer:=by
 have all:∀ (l:List He),(∀ b∈NU l,b∈X.fs)->X.s₀.heap.FunFrames X.base l->s.heap.FunFrames X.base l:=by
  intro l
  induction l with
  | nil=>intro _ _;trivial
  | cons env r ih =>
   intro hs hl;obtain ⟨hk,⟨L,o,hf,hn,ho,hd⟩,hr⟩:=hl;have hL:L∈X.fs:=hs L (by unfold NU;rw [xK,hf];exact aw);obtain ⟨sl,e⟩:=I.base.slot L o ho (I.ok.UU L hL) hL λz=>I.ok.NT L z hL;exact ⟨hk,⟨L,_,hf,hn,e,hd⟩,ih (λb hb=>hs b (by unfold NU;rw [xK,hf];exact ai _ hb)) hr⟩
 exact all X.outer (λ_ hb=>hb) I.ok.yE
theorem Inv.stack (I:Inv X pins Z H s):s.heap.FunFrames X.base X.stack:=by
 rcases I.ok.YL with e|⟨e,hf⟩
 .rw [e];exact I.yE
 .rw [e];obtain ⟨m,hn,_⟩:=I.loc;refine .cons (by rw [I.ok.kind];decide) hf hn ?_ I.yE;exact Ou (bA I.ok.Q9 I.ok.above)
theorem Inv.Ly (I:Inv X pins Z H s):∀ b∈NU X.stack,b∈X.env.locals::X.fs:=λb hb=>by
 rcases I.ok.YL with e|⟨e,hf⟩
 .rw [e] at hb;exact ai _ hb
 .rw [e] at hb;unfold NU at hb;rw [xK,hf] at hb;exact hb
theorem Inv.MR (I:Inv X pins Z H s):∀ b∈NU X.stack,H b=none:=λb hb=>by
 rcases au.mp (I.Ly b hb) with e|hb
 .rw [e];exact I.free
 .obtain ⟨_,o,ho,_⟩:=I.ok.yE.mem hb;exact I.base.free b o ho (I.ok.UU b hb) λz=>I.ok.NT b z hb
theorem Inv.step (I:Inv X pins Z H s)
  (hch:∀ b∈ch,(b∈X.ex\/X.s₀.heap.objs.size<=b)/\b≠X.env.locals/\(∀ x c,X.env.cells.lookup x=some c->c≠b)/\∀ p∈X.pn++pins,p.1≠b)
  (keep:∀ b o,b≠X.env.locals->b∉X.fs->b∉ch->s.heap.get? b=some o->H b=none->h'.get? b=some o)
  (slot:∀ b o,b≠X.env.locals->b∈X.fs->b∉ch->s.heap.get? b=some o->H b=none->∃ sl,h'.get? b=some { o with slots:=sl }) (free:∀ b o,b∉ch->s.heap.get? b=some o->H b=none->H' b=none)
  (there:∀ b o,b∉ch->s.heap.get? b=some o->∃ o',h'.get? b=some o')
  (Eg:∀ b xs,H b=some (.tup xs)->H' b=some (.tup xs)) (CG:∀ b o u,H b=some (.frz o u)->H' b=some (.frz o u)) (CI:∀ b ps,H b=some (.tbl ps)->∃ more,H' b=some (.tbl (ps++more)))
  (ns:∀ m,s.heap.Ns X.env.locals m->h'.Ns X.env.locals m) (eY:qx X.prog X.w H' h') (hg:xC g') :
  Inv X pins Z H' { s with heap:=h',gens:=g',drawn:=d',toks:=t' }:=by
 have neL:∀ b o,X.s₀.heap.get? b=some o->b≠X.env.locals:=λb o e=>a6 (bp (aH e) I.ok.above)
 have neC:∀ b o,X.s₀.heap.get? b=some o->b∉X.ex->b∉ch:=λb o e hx hb=>by
  rcases (hch b hb).1 with z|z
  .exact hx z
  .exact absurd (bp (aH e) z) (fk _)
 have cellK:∀ x c,X.env.cells.lookup x=some c->∀ v,s.heap.IsCell c v->h'.IsCell c v:=λx c e v ⟨o,ho,hd⟩=>by
  have nch:c∉ch:=λz=>(hch c z).2.2.1 x c e rfl
  by_cases hc:c∈X.fs
  .obtain ⟨sl,q⟩:=slot c o (I.WH x c e) hc nch ho (I.sQ x c e);exact ⟨_,q,hd⟩
  .exact ⟨o,keep c o (I.WH x c e) hc nch ho (I.sQ x c e),hd⟩
 refine ⟨I.ok,I.os,hg,⟨λb o e n hb hx=>?_,λb o e n hb hx=>?_,λb o e n hx=>?_,λb o e hx=>?_,λb xs e=>Eg b xs (I.base.Eg b xs e),λb o xs e=>CG b o xs (I.base.CG b o xs e),λb ps e=>?_⟩,?_,λx c e=>?_,?_,λx c e=>?_,λp hp=>?_,eY,I.len⟩
 .exact keep b o (neL b o e) hb (neC b o e hx) (I.base.keep b o e n hb hx) (I.base.free b o e n hx)
 .obtain ⟨sl,e1⟩:=I.base.slot b o e n hb hx;obtain ⟨sl',e2⟩:=slot b _ (neL b o e) hb (neC b o e hx) e1 (I.base.free b o e n hx);exact ⟨sl',e2⟩
 .obtain ⟨o',e1⟩:=I.base.there b o e hx;exact free b o' (neC b o e hx) e1 (I.base.free b o e n hx)
 .obtain ⟨o',e1⟩:=I.base.there b o e hx;exact there b o' (neC b o e hx) e1
 .obtain ⟨m1,e1⟩:=I.base.CI b ps e;obtain ⟨m2,e2⟩:=CI b _ e1;exact ⟨m1++m2,by rw [e2,yI]⟩
 .obtain ⟨m,hn,hl⟩:=I.loc;refine ⟨m,ns m hn,λi x v e1 e2 e3=>?_⟩;obtain ⟨u,r,l⟩:=hl i x v e1 e2 e3;refine ⟨u,r,?_⟩
  rcases l with l|⟨k,c,e,z⟩
  .exact .inl l
  .exact .inr ⟨k,c,e,cellK x c e _ z⟩
 .obtain ⟨v,z⟩:=I.cell x c e;exact ⟨v,cellK x c e v z⟩
 .obtain ⟨m,⟨o,_,_,ho,_⟩,_⟩:=I.loc;exact free _ o (λz=>(hch _ z).2.1 rfl) ho I.free
 .obtain ⟨v,o,ho,hd⟩:=I.cell x c e;exact free c o (λz=>(hch c z).2.2.1 x c e rfl) ho (I.sQ x c e)
 .obtain ⟨e,n,ne,nf,d⟩:=I.pin p hp;have nch:p.1∉ch:=λz=>(hch p.1 z).2.2.2 p hp rfl;exact ⟨keep p.1 p.2 ne nf nch e n,free p.1 p.2 nch e n,ne,nf,d⟩
theorem Inv.un (I:Inv X pins Z H s) (u:Un X.fs [] H H' s.heap h') (eY:qx X.prog X.w H' h'):Inv X pins Z H' { s with heap:=h',toks:=t' }:=by
 obtain ⟨m,⟨o,es,ep,ho,r⟩,_⟩:=id I.loc;obtain ⟨sl,hL⟩:=u.any ho I.free (by simp)
 exact I.step (g':=s.gens) (d':=s.drawn) (ch:=[]) (λ_ z=>nomatch z) (λb o _ hb _ e n=>u.keep b o e n hb (by simp)) (λb o _ hb _ e n=>u.slot b o e n hb (by simp)) (λb o _ e n=>u.free b o e n (by simp)) (λb o _ e=>u.there b o e (by simp)) u.Eg u.CG u.CI (λm' hm=>by
  obtain ⟨o',es',ep',ho',r'⟩:=hm;rw [ho] at ho';cases ho'
  exact ⟨_,es',ep',hL,r'⟩) eY I.bare
theorem Inv.call (I:Inv X pins Z H s) (u:Un (NU X.stack) ch H H' s.heap h') (eY:qx X.prog X.w H' h') (hg:xC g')
  (hch:∀ b∈ch,(b∈X.ex\/X.s₀.heap.objs.size<=b)/\b≠X.env.locals/\(∀ x c,X.env.cells.lookup x=some c->c≠b)/\∀ p∈X.pn++pins,p.1≠b) :
  Inv X pins Z H' { s with heap:=h',gens:=g',drawn:=d',toks:=t' }:=by
 obtain ⟨m,⟨o,es,ep,ho,r⟩,_⟩:=id I.loc;obtain ⟨sl,hL⟩:=u.any ho I.free λz=>(hch _ z).2.1 rfl
 exact I.step (ch:=ch) hch (λb o hL hb hc e n=>u.keep b o e n (λz=>(au.mp (I.Ly b z)).elim hL hb) hc) (λb o _ _ hc e n=>u.any e n hc) (λb o hc e n=>u.free b o e n hc) (λb o hc e=>u.there b o e hc) u.Eg u.CG u.CI (λm' hm=>by
  obtain ⟨o',es',ep',ho',r'⟩:=hm;rw [ho] at ho';cases ho'
  exact ⟨_,es',ep',hL,r'⟩) eY hg
theorem Inv.turned (I:Inv X pins Z H s) (k:∀ b o,b≠it->s.heap.get? b=some o->h'.get? b=some o) (hn:H it=none) (hL:it≠X.env.locals)
  (h1:it∈X.ex\/X.s₀.heap.objs.size<=it) (h2:∀ x c,X.env.cells.lookup x=some c->c≠it) (h3:∀ p∈X.pn++pins,p.1≠it):Inv X pins Z H { s with heap:=h',toks:=t' }:=by
 have nit:∀ b u,H b=some u->b≠it:=λb u e z=>by rw [z,hn] at e;cases e
 refine I.step (g':=s.gens) (d':=s.drawn) (ch:=[it]) (λb hb=>?_) (λb o _ _ hc e _=>k b o (λz=>hc (by simp [z])) e) (λb o _ _ hc e _=>⟨o.slots,k b o (λz=>hc (by simp [z])) e⟩) (λ_ _ _ _ n=>n)
  (λb o hc e=>⟨o,k b o (λz=>hc (by simp [z])) e⟩) (λ_ _ e=>e) (λ_ _ _ e=>e) (λb ps e=>⟨#[],by rw [e];simp⟩) (λm hm=>?_) (λb u e=>?_) I.bare
 .have e:b=it:=by simpa using hb
  subst e;exact ⟨h1,hL,h2,h3⟩
 .obtain ⟨o,es,ep,ho,r⟩:=hm;exact ⟨o,es,ep,k _ o (Ne.symm hL) ho,r⟩
 .refine (I.eY b u e).yF (λc v hc q=>k c v ?_ q) (λ_ q=>q) λ_ _ q=>q
  rcases hc with z|z
  .rw [z];exact nit b u e
  .exact nit c _ z
theorem Inv.tok (I:Inv X pins Z H s) (t:Nat):Inv X pins Z H { s with toks:=t }:=I.un (h':=s.heap) (t':=t) Un.refl I.eY
theorem Inv.kept (I:Inv X pins Z H s) (k:∀ b u,s.heap.get? b=some u->h'.get? b=some u):Inv X pins Z H { s with heap:=h',toks:=t' }:=I.un (Un.kept k) (I.eY.kept k)
theorem Inv.laid {o:HO}(I:Inv X pins Z H s) (k:∀ b u,s.heap.get? b=some u->h'.get? b=some u) (hp:s.heap.objs.size<=a) (new:eX X.prog X.w (upd H a o) h' a o) :
  Inv X pins Z (upd H a o) { s with heap:=h',toks:=t' }:=I.un (Un.laid k hp (I.eY.fresh hp)) (I.eY.laid k hp new)
theorem Inv.write {x e:ag}{o:HO}(I:Inv X pins Z H s) (mu:Xm (H x)) (he:e=x\/H e=some (.own x)) (k:∀ b u,b≠e->s.heap.get? b=some u->h'.get? b=some u) (heo:∃ u,h'.get? e=some u)
  (new:eX X.prog X.w (upd H x o) h' x o):Inv X pins Z (upd H x o) { s with heap:=h',toks:=t' }:=I.un (Un.write mu he k heo) (I.eY.write mu he k heo new)
theorem Inv.MT {pins':List (ag×jk)}(I:Inv X pins Z H s) (h:∀ p∈pins',s.heap.get? p.1=some p.2/\H p.1=none/\p.1≠X.env.locals/\p.1∉X.fs/\∀ v,p.2.data≠.cell v):Inv X pins' Z H s :=
 ⟨I.ok,I.os,I.bare,I.base,I.loc,I.cell,I.free,I.sQ,λp hp=>(aS.mp hp).elim (λz=>I.pin p (eU _ z)) (h p),I.eY,I.len⟩
theorem Hq (hN:N.Nodup) {i j:Nat}{x:bD}(a:N[i]?=some x) (b:N[j]?=some x):i=j:=by
 obtain ⟨h1,e1⟩:=aD.mp a;obtain ⟨h2,e2⟩:=aD.mp b;exact (List.getElem_inj hN).mp (e1.trans e2.symm)
theorem Er {v:V}{Q:Unit->ax->Prop}(I:Inv X pins Z H s) (hN:X.N.Nodup) (hi:X.N[i]?=some x) (hx:Loc X.env.scope x) (r:RelV v u)
  (h:∀ s',Inv X pins (Z.set i (some v)) H s'->(∃ a,gQ a s.heap s'.heap/\(a=X.env.locals\/X.env.cells.lookup x=some a))->Q () s') (hf:X.fn x=true\/X.env.scope.names.lookup x=some .local:=by first|exact .inl rfl|exact .inr rfl|assumption):aK M A (storeName X.env x u) Q E s:=by
 obtain ⟨m,hn,hl⟩:=id I.loc
 have hcls:(X.env.scope.kind == .class || (X.env.scope.kind == .module && X.env.locals != X.env.globals))=false:=by rw [I.ok.kind];rfl
 have hiσ:i<Z.length:=by rw [I.len];exact (aD.mp hi).1
 have WH:=I.WH
 have tracked:∀ {a:ag}{h':cK},(∃ o,s.heap.get? a=some o/\H a=none)->gQ a s.heap h'->qx X.prog X.w H h':=λ{a h'} ha hs b ob e=>by
  obtain ⟨_,_,hfree⟩:=ha;refine (I.eY b ob e).yF (λc w' hc q=>(hs.2 c ?_).trans q) (λ_ q=>q) λ_ _ q=>q;rintro rfl
  rcases hc with rfl|hc
  .rw [hfree] at e;cases e
  .rw [hfree] at hc;cases hc
 rcases hx with hk|hk
 .refine wpAny_storeName_local hk hn (λh' hn' hs=>?_) hcls;obtain ⟨oL,_,_,hoL,_⟩:=id hn;refine h _ ⟨I.ok,I.os,I.bare,⟨λb o e n hb hx=>?_,λb o e n hb hx=>?_,I.base.free,λb o e hx=>?_,I.base.Eg,I.base.CG,I.base.CI⟩,⟨_,hn',λj y v' e1 e2 e3=>?_⟩,λy c e=>?_,I.free,I.sQ,λp hp=>?_,tracked ⟨oL,hoL,I.free⟩ hs,by simpa using I.len⟩ ⟨_,hs,.inl rfl⟩
  .exact (hs.2 b (a6 (bp (aH e) I.ok.above))).trans (I.base.keep b o e n hb hx)
  .obtain ⟨sl,e1⟩:=I.base.slot b o e n hb hx;exact ⟨sl,(hs.2 b (a6 (bp (aH e) I.ok.above))).trans e1⟩
  .obtain ⟨o',e1⟩:=I.base.there b o e hx;exact ⟨o',(hs.2 b (a6 (bp (aH e) I.ok.above))).trans e1⟩
  .by_cases hj:j=i
   .subst hj;rw [hi] at e1;cases e1;rw [lL hiσ] at e2;cases e2;exact ⟨u,r,.inl ⟨hk,by simp⟩⟩
   .rw [vG (Ne.symm hj)] at e2;obtain ⟨u',r',q⟩:=hl j y v' e1 e2 e3;refine ⟨u',r',?_⟩
    rcases q with ⟨k,e⟩|⟨k,c,e,z⟩
    .refine .inl ⟨k,?_⟩;have:y≠x:=λe=>hj (Hq hN e1 (e▸hi));simp [this,e]
    .exact .inr ⟨k,c,e,z.sameBut hs (WH y c e)⟩
  .obtain ⟨w',z⟩:=I.cell y c e;exact ⟨w',z.sameBut hs (WH y c e)⟩
  .obtain ⟨e,n,ne,nf,d⟩:=I.pin p hp;exact ⟨(hs.2 p.1 ne).trans e,n,ne,nf,d⟩
 .have hfn:X.fn x=true:=by
   rcases hf with z|z
   .exact z
   .rw [z] at hk;cases hk
  obtain ⟨c,hc⟩:=I.ok.has x (.inl hk);obtain ⟨w',z⟩:=I.cell x c hc;refine wpAny_storeName_cell I.ok.kind hk hc z (λh' hc' hs=>?_);obtain ⟨oc,hoc,hocd⟩:=id z;refine h { s with heap:=h' } ⟨I.ok,I.os,I.bare,⟨λb o e n hb hx=>?_,λb o e n hb hx=>?_,I.base.free,λb o e hx=>?_,I.base.Eg,I.base.CG,I.base.CI⟩,⟨m,hn.sameBut hs (Ne.symm (WH x c hc)),λj y v' e1 e2 e3=>?_⟩,λy c' e=>?_,I.free,I.sQ,λp hp=>?_,tracked ⟨oc,hoc,I.sQ x c hc⟩ hs,by simpa using I.len⟩ ⟨c,hs,.inr hc⟩
  .exact (hs.2 b (a6 (bp (aH e) (I.ok.W9 x c hfn hc)))).trans (I.base.keep b o e n hb hx)
  .obtain ⟨sl,e1⟩:=I.base.slot b o e n hb hx;exact ⟨sl,(hs.2 b (a6 (bp (aH e) (I.ok.W9 x c hfn hc)))).trans e1⟩
  .obtain ⟨o',e1⟩:=I.base.there b o e hx;exact ⟨o',(hs.2 b (a6 (bp (aH e) (I.ok.W9 x c hfn hc)))).trans e1⟩
  .by_cases hj:j=i
   .subst hj;rw [hi] at e1;cases e1;rw [lL hiσ] at e2;cases e2;exact ⟨u,r,.inr ⟨.inl hk,c,hc,hc'⟩⟩
   .rw [vG (Ne.symm hj)] at e2;obtain ⟨u',r',q⟩:=hl j y v' e1 e2 e3;refine ⟨u',r',?_⟩
    rcases q with q|⟨k,c',e,z'⟩
    .exact .inl q
    .refine .inr ⟨k,c',e,z'.sameBut hs ?_⟩;rintro rfl;exact hj (Hq hN e1 (I.ok.inj _ _ _ e hc▸hi))
  .by_cases hcc:c'=c
   .subst hcc;exact ⟨_,hc'⟩
   .obtain ⟨w2,z2⟩:=I.cell y c' e;exact ⟨w2,z2.sameBut hs hcc⟩
  .obtain ⟨e,n,ne,nf,d⟩:=I.pin p hp;refine ⟨(hs.2 p.1 ?_).trans e,n,ne,nf,d⟩;intro q;rw [q,hoc] at e;have q':oc=p.2:=a7 e;exact d w' (by rw [← q'];exact hocd)
theorem AD {v:V}{Q:Unit->ax->Prop}(I:Inv X pins Z H s) (hN:X.N.Nodup) (hi:X.N[i]?=some x) (hx:Loc X.env.scope x) (r:RelV v u)
  (h:∀ s',Inv X pins (Z.set i (some v)) H s'->Q () s') (hf:X.fn x=true\/X.env.scope.names.lookup x=some .local:=by first|exact .inl rfl|exact .inr rfl|assumption):aK M A (storeName X.env x u) Q E s :=
 Er I hN hi hx r (λs' I' _=>h s' I') hf
theorem Inv.YO (I:Inv X pins Z H s) (ho:s'.os=s.os) (u:Un (NU X.stack) ch H H' s.heap s'.heap) (eY:qx X.prog X.w H' s'.heap) (hg:xC s'.gens)
  (hch:∀ b∈ch,(b∈X.ex\/X.s₀.heap.objs.size<=b)/\b≠X.env.locals/\(∀ x c,X.env.cells.lookup x=some c->c≠b)/\∀ p∈X.pn++pins,p.1≠b):Inv X pins Z H' s':=by
 obtain ⟨h',g',d',t',o'⟩:=s';have e:o'=s.os:=ho;subst e;exact I.call (g':=g') (t':=t') (d':=d') u eY hg hch
end
abbrev XK:=aj->Option ag->Hp->Prop
abbrev St:=List (Option V)
abbrev VK:=V->Hp->Prop
abbrev TE:=St->Hp->VK->Prop
abbrev TT:=St->Hp->(Bool->Hp->Prop)->Prop
abbrev TA:=St->Hp->(List V->Hp->Prop)->Prop
structure tM where
 nx:St->Hp->Prop
 rt:VK
 bk:St->Hp->Prop:=λ_ _=>False
 ct:St->Hp->Prop:=λ_ _=>False
abbrev TS:=tM->St->Hp->Prop
def EP (X:Cx) (pins:List (ag×jk)) (Z:St) (Q:VK) (u:aj) (s':ax):Prop:=∃ v H',Inv X pins Z H' s'/\RelV v u/\Q v H'
def TP (X:Cx) (pins:List (ag×jk)) (Z:St) (Q:Bool->Hp->Prop) (b:Bool) (s':ax):Prop:=∃ H',Inv X pins Z H' s'/\Q b H'
def AP (X:Cx) (pins:List (ag×jk)) (Z:St) (Q:List V->Hp->Prop) (us:List aj) (s':ax):Prop:=∃ vs H',Inv X pins Z H' s'/\Vals vs us/\Q vs H'
def SP (X:Cx) (pins:List (ag×jk)) (D:tM) (f:Flow) (s':ax):Prop :=
 match f with
 | .next=>∃ σ' H',Inv X pins σ' H' s'/\D.nx σ' H'
 | .brk=>∃ σ' H',Inv X pins σ' H' s'/\D.bk σ' H'
 | .cont=>∃ σ' H',Inv X pins σ' H' s'/\D.ct σ' H'
 | .ret u=>∃ v σ' H',Inv X pins σ' H' s'/\RelV v u/\D.rt v H'
def PE (X:Cx) (e:Expr) (t:TE):Prop :=
 ∀ (pins:List (ag×jk)) (s:ax) (Z:St) (H:Hp) (Q:VK),Inv X pins Z H s->t Z H Q->aK (aL X.prog X.w) X.A (eJ e X.env) (EP X pins Z Q) X.xe s
def PT (X:Cx) (e:Expr) (t:TT):Prop :=
 ∀ (pins:List (ag×jk)) (s:ax) (Z:St) (H:Hp) (Q:Bool->Hp->Prop),Inv X pins Z H s->t Z H Q->aK (aL X.prog X.w) X.A (isTrue e X.env (eJ e X.env)) (TP X pins Z Q) X.xe s
def PW (X:Cx) (e:Expr) (t:TT):Prop :=
 ∀ (whole:Xb aj) (pins:List (ag×jk)) (s:ax) (Z:St) (H:Hp) (Q:Bool->Hp->Prop),Inv X pins Z H s->t Z H Q->aK (aL X.prog X.w) X.A (isTrue e X.env whole) (TP X pins Z Q) X.xe s
theorem PW.pt {X:Cx}{t:TT}(h:PW X e t):PT X e t:=h _
def PA (X:Cx) (es:List Expr) (t:TA):Prop :=
 ∀ (pos:sT) (pins:List (ag×jk)) (s:ax) (Z:St) (H:Hp) (Q:List V->Hp->Prop),Inv X pins Z H s->t Z H Q->aK (aL X.prog X.w) X.A (spliced (fS pos (bu es X.env))) (AP X pins Z Q) X.xe s
def PS (X:Cx) (st:dB) (t:TS):Prop :=
 ∀ (pins:List (ag×jk)) (s:ax) (Z:St) (H:Hp) (D:tM),Inv X pins Z H s->t D Z H->aK (aL X.prog X.w) X.A (exec st X.env) (SP X pins D) X.xe s
def J8 (X:Cx) (st:List dB) (t:TS):Prop :=
 ∀ (pins:List (ag×jk)) (s:ax) (Z:St) (H:Hp) (D:tM),Inv X pins Z H s->t D Z H->aK (aL X.prog X.w) X.A (execs st X.env) (SP X pins D) X.xe s
theorem gR {α:Type} {t:Xb α}{Q Q':α->ax->Prop}(h:aK M A t Q E s) (hQ:∀ a s,Q a s->Q' a s):aK M A t Q' E s:=dH h hQ λ_ _ x=>x
section
variable {X:Cx}
def ao (i:Nat):TE:=λZ H Q=>∃ v,Z[i]?=some (some v)/\Q v H
def tC (v:V):TE:=λ_ H Q=>Q v H
theorem Vl (hN:X.N[i]?=some x) (hv:Zj X.env.scope x) (hd:(x == ("__debug__":bD))=false:=by decide) (hcd:(x == ("__classdict__":bD))=false:=by decide):PE X (.Name x pos) (ao i):=by
 intro pins s Z H Q I h;obtain ⟨v,e,h⟩:=h;obtain ⟨m,hn,hl⟩:=I.loc;obtain ⟨u,r,l⟩:=hl i x v hN e hv
 have fin:EP X pins Z Q u s:=⟨v,H,I,r,h⟩
 rcases l with ⟨hk,hm⟩|⟨hk,c,hc,hcell⟩
 .exact qz (ke I.ok.kind hk hn hm fin) hd
 .rcases hk with hk|hk
  .exact qz (Xd I.ok.kind hk hc hcell fin) hd
  .exact qz (Xe I.ok.kind hk hc hcell fin hcd) hd
theorem cp {i j pos}:PE X (.Constant (.int i) j pos) (tC (.int i)):=λ_ _ _ H _ I h=>wpAny_Constant_int ⟨.int i,H,I.tok _,⟨_,rfl⟩,h⟩
theorem Xn {b j pos}:PE X (.Constant (.bool b) j pos) (tC (.bl b)):=λ_ _ _ H _ I h=>Constant_bool ⟨.bl b,H,I,rfl,h⟩
theorem Vm {j pos}:PE X (.Constant .none j pos) (tC .non):=λ_ _ _ H _ I h=>Rh ⟨.non,H,I,rfl,h⟩
def Gl (X:Cx) (x:bD):Prop:=X.env.kindOf x=some .globalImplicit
theorem Fo {Z:St}{H:Hp}(I:Inv X pins Z H s) (hg:Gl X x) (hm:X.mg x=some u) (h:Q u s)
  (hd:(x == ("__debug__":bD))=false:=by decide):aK (aL X.prog X.w) X.A (eJ (.Name x pos) X.env) Q E s :=
 GS I.ok.kind hg (Calls.loadGlobal_global (by rw [I.ok.glob];exact I.mod.glob.keeps I.bk) hm h) hd
theorem l9 {Z:St}{H:Hp}(I:Inv X pins Z H s) (hg:Gl X x) (hm:X.mg x=none) (hv:cV x=some u) (h:Q u s)
  (hn:x≠"__name__":=by decide) (hd:(x == ("__debug__":bD))=false:=by decide):aK (aL X.prog X.w) X.A (eJ (.Name x pos) X.env) Q E s:=by
 obtain ⟨mb,h1,h2⟩:=I.mod.blt;exact GS I.ok.kind hg (Calls.loadGlobal_builtin (by rw [I.ok.glob];exact I.mod.glob.keeps I.bk) hm (by rw [I.ok.blt];exact h1.keeps I.bk) ((h2 x hn).trans hv) h) hd
theorem LN {v:V}(hg:Gl X x) (hm:X.mg x=some u) (r:RelV v u) (hd:(x == ("__debug__":bD))=false:=by decide):PE X (.Name x pos) (tC v) :=
 λ_ _ _ H _ I h=>Fo I hg hm ⟨v,H,I,r,h⟩ hd
theorem Fp {v:V}(hg:Gl X x) (hm:X.mg x=none) (hv:cV x=some u) (r:RelV v u) (hn:x≠"__name__":=by decide) (hd:(x == ("__debug__":bD))=false:=by decide):PE X (.Name x pos) (tC v) :=
 λ_ _ _ H _ I h=>l9 I hg hm hv ⟨v,H,I,r,h⟩ hn hd
variable {a b:Expr}{ta tb:TE}
def PC (X:Cx) (op:CmpOp) (a b:Expr) (t:TE):Prop :=
 ∀ (pins:List (ag×jk)) (s:ax) (Z:St) (H:Hp) (Q:VK),Inv X pins Z H s->t Z H Q ->
  aK (aL X.prog X.w) X.A (eJ a X.env) (λv s₁=>aK (aL X.prog X.w) X.A (eJ b X.env) (λu s₂=>aK (aL X.prog X.w) X.A (c8 op v u) (EP X pins Z Q) X.xe s₂) X.xe s₁) X.xe s
theorem Hr (b:Expr) {op:CmpOp}(h:op≠.In) (h2:op≠.NotIn):jL op b=false:=by
 have e1:(op == CmpOp.In)=false:=by cases op<;>first|rfl|exact absurd rfl h
 have e2:(op == CmpOp.NotIn)=false:=by cases op<;>first|rfl|exact absurd rfl h2
 cases b<;>simp [jL,e1,e2]
def RM (ta:TE):TE:=λZ H Q=>ta Z H λx H1=>Q (.bl (decide (x=.non))) H1
def LO (ta:TE):TE:=λZ H Q=>ta Z H λx H1=>Q (.bl (!decide (x=.non))) H1
theorem RelV.JT {x:V}(r:RelV x v):(v == eP)=decide (x=.non):=by
 cases x with
 | non=>cases r;rfl
 | bl _=>cases r;rfl
 | int _=>obtain ⟨t,rfl⟩:=r;rfl
 | str _=>obtain ⟨t,rfl⟩:=r;rfl
 | byt _=>obtain ⟨t,rfl⟩:=r;rfl
 | flt _=>obtain ⟨t,rfl⟩:=r;rfl
 | ref _=>cases r;rfl
 | ty _=>cases r;rfl
theorem OG {j pos'} (ha:PE X a ta):PC X .Is a (.Constant .none j pos') (RM ta):=by
 intro pins s Z H Q I h;refine gR (ha pins s Z H _ I h) λv s1 ⟨x,H1,I1,r1,q1⟩=>?_;exact Rh (is_none_gen ⟨.bl _,H1,I1,by rw [r1.JT];rfl,q1⟩)
theorem LP {j pos'} (ha:PE X a ta):PC X .IsNot a (.Constant .none j pos') (LO ta):=by
 intro pins s Z H Q I h;refine gR (ha pins s Z H _ I h) λv s1 ⟨x,H1,I1,r1,q1⟩=>?_;exact Rh (isnot_none_gen ⟨.bl _,H1,I1,by rw [r1.JT];rfl,q1⟩)
def tB (t:TE):TT:=λZ H Q=>t Z H λx H1=>∃ c,x=.bl c/\Q c H1
theorem OH {t:TE}(h:PC X op a b t) (h1:jL op b=false:=by first|exact Hr _ (by decide) (by decide)|rfl):PE X (.Compare a [op] [b] pos) t:=λpins s Z H Q I hw=>wpAny_Compare1 (h pins s Z H Q I hw) h1
theorem OI {t:TE}(h:PC X op a b t) (h1:jL op b=false:=by first|exact Hr _ (by decide) (by decide)|rfl):PT X (.Compare a [op] [b] pos) (tB t):=by
 intro pins s Z H Q I hw;refine UZ (gR (h pins s Z H _ I hw) λv s1 h1=>gR h1 λu s2 h2=>gR h2 λc s3 ⟨x,H1,I1,r1,q1⟩=>?_) h1;obtain ⟨d,rfl,q⟩:=q1;cases r1;exact iN ⟨H1,I1,q⟩
variable {tA tB':TT}{rest:List Expr}
def xR (t u:TT):TT:=λZ H Q=>t Z H λc H1=>if c=true then u Z H1 Q else Q false H1
def LQ (t u:TT):TT:=λZ H Q=>t Z H λc H1=>if c=true then Q true H1 else u Z H1 Q
def Hs (t:TT):TT:=λZ H Q=>t Z H λc H1=>Q (!c) H1
theorem pK (ha:PT X a tA):PW X (.BoolOp .And [a] pos) tA:=by
 intro wh pins s Z H Q I h;refine isTrue_and (gR (ha pins s Z H Q I h) λc s1 e=>?_)
 cases c with
 | true=>exact isTrue_and_nil e
 | false=>exact e
theorem Fs (ha:PT X a tA):PW X (.BoolOp .Or [a] pos) tA:=by
 intro wh pins s Z H Q I h;refine isTrue_or (gR (ha pins s Z H Q I h) λc s1 e=>?_)
 cases c with
 | false=>exact isTrue_or_nil e
 | true=>exact e
theorem qH (ha:PT X a tA) (hb:PW X (.BoolOp .And (b::rest) pos) tB'):PW X (.BoolOp .And (a::b::rest) pos) (xR tA tB'):=by
 intro wh pins s Z H Q I h;refine isTrue_and (gR (ha pins s Z H _ I h) λc s1 ⟨H1,I1,q1⟩=>?_)
 cases c with
 | true=>exact hb wh pins s1 Z H1 Q I1 q1
 | false=>exact ⟨H1,I1,q1⟩
theorem Ht (ha:PT X a tA) (hb:PW X (.BoolOp .Or (b::rest) pos) tB'):PW X (.BoolOp .Or (a::b::rest) pos) (LQ tA tB'):=by
 intro wh pins s Z H Q I h;refine isTrue_or (gR (ha pins s Z H _ I h) λc s1 ⟨H1,I1,q1⟩=>?_)
 cases c with
 | true=>exact ⟨H1,I1,q1⟩
 | false=>exact hb wh pins s1 Z H1 Q I1 q1
theorem Vn (ha:PT X a tA):PT X (.UnaryOp .Not a pos) (Hs tA):=by
 intro pins s Z H Q I h;exact isTrue_not (ha pins s Z H (λc H1=>Q (!c) H1) I h)
def qI (ta tb:TE):TE:=λZ H Q=>ta Z H λx H1=>∃ c,x=.bl c/\if c=true then tb Z H1 Q else Q (.bl false) H1
def LR (ta:TE):TE:=λZ H Q=>ta Z H λx H1=>∃ c,x=.bl c/\Q (.bl (!c)) H1
theorem uZ {op} {t:TE}(h:PE X a t):PE X (.BoolOp op [a] pos) t:=λpins s Z H Q I hw=>BoolOp_one (h pins s Z H Q I hw)
theorem qJ (ha:PE X a ta) (hb:PE X (.BoolOp .And (b::rest) pos) tb):PE X (.BoolOp .And (a::b::rest) pos) (qI ta tb):=by
 intro pins s Z H Q I h;refine BoolOp_and (gR (ha pins s Z H _ I h) λv s1 ⟨x,H1,I1,r1,q1⟩=>?_);obtain ⟨c,rfl,q1⟩:=q1;cases r1;refine iN ?_
 cases c with
 | true=>exact hb pins s1 Z H1 Q I1 q1
 | false=>exact ⟨.bl false,H1,I1,rfl,q1⟩
theorem OJ (ha:PE X a ta):PE X (.UnaryOp .Not a pos) (LR ta):=by
 intro pins s Z H Q I h;refine UnaryOp_ (gR (ha pins s Z H _ I h) λv s1 ⟨x,H1,I1,r1,q1⟩=>?_);obtain ⟨c,rfl,q1⟩:=q1;cases r1;exact not_of (iN ⟨.bl (!c),H1,I1,rfl,q1⟩)
def W5 (t:TT) (ta tb:TE):TE:=λZ H Q=>t Z H λc H1=>if c=true then ta Z H1 Q else tb Z H1 Q
theorem vM (hc:PT X c tA) (ha:PE X a ta) (hb:PE X b tb):PE X (.IfExp c a b pos) (W5 tA ta tb):=by
 intro pins s Z H Q I h;refine wpAny_IfExp (gR (hc pins s Z H _ I h) λd s1 ⟨H1,I1,q1⟩=>?_)
 cases d with
 | true=>exact ha pins s1 Z H1 Q I1 q1
 | false=>exact hb pins s1 Z H1 Q I1 q1
end
def cL (K:aa) (H:Hp) (a:ag) (xs:List V):Prop :=
 Rd H a (.lst xs) \/
  ∃ (o:jk) (its:Array aj) (n:Nat),K.lookup a=some o/\o.cls=.type "list"/\o.dict=none/\o.data=.seq its n/\its.size<=aU/\Vals xs its.toList
def ie (K:aa) (H:Hp) (a:ag) (xs:List V):Prop :=
 Rd H a (.tup xs) \/
  ∃ (o:jk) (its:Array aj) (n:Nat),K.lookup a=some o/\o.cls=.type "tuple"/\o.data=.seq its n/\its.size<=aU/\Vals xs its.toList
def ZU:aj->Option V
 | .none=>some .non
 | .bool b=>some (.bl b)
 | .int i _=>some (.int i)
 | .str x _=>some (.str x)
 | .bytes b _=>some (.byt b)
 | .float b _=>some (.flt b)
 | .ref a=>some (.ref a)
 | .type n=>some (.ty n)
 | _=>none
theorem RelV.abs {x:V}(r:RelV x u):ZU u=some x:=by
 cases x with
 | non=>cases r;rfl
 | bl _=>cases r;rfl
 | int _=>obtain ⟨t,rfl⟩:=r;rfl
 | str _=>obtain ⟨t,rfl⟩:=r;rfl
 | byt _=>obtain ⟨t,rfl⟩:=r;rfl
 | flt _=>obtain ⟨t,rfl⟩:=r;rfl
 | ref _=>cases r;rfl
 | ty _=>cases r;rfl
theorem RelV.inj {x y:V}(r:RelV x u) (q:RelV y u):x=y:=a7 (r.abs.symm.trans q.abs)
theorem Vals.inj {xs ys:List V}(h:Vals xs us):Vals ys us->xs=ys:=by
 induction h generalizing ys with
 | nil=>intro q;cases q;rfl
 | cons r _ ih =>
  intro q
  cases q with
  | cons r' t'=>rw [r.inj r',ih t']
section
variable {X:Cx}{Z:St}{H:Hp}{xs ys:List V}
theorem cL.of (h:H a=some (.lst xs)):cL K H a xs:=.inl (.inl h)
theorem ie.of (h:H a=some (.tup xs)):ie K H a xs:=.inl (.inl h)
theorem Inv.list (I:Inv X pins Z H s) (h:cL X.K H a xs):∃ its:List aj,Vals xs its/\PlainL s.heap a its.toArray/\xs.length<=aU:=by
 rcases h with h|⟨o,its,n,hk,hc,hd,hs,hz,r⟩
 .obtain ⟨z,its,n,r,e⟩:=h.ok I.eY;exact ⟨its,r,⟨_,n,e,rfl,rfl,rfl⟩,z⟩
 .refine ⟨its.toList,r,⟨o,n,I.xJ a o hk,hc,hd,by simpa using hs⟩,?_⟩;have e:=r.length;simp only [aP] at e;lia
theorem Inv.tuple (I:Inv X pins Z H s) (h:ie X.K H a xs):∃ its:List aj,Vals xs its/\oz s.heap a its.toArray/\xs.length<=aU:=by
 rcases h with h|⟨o,its,n,hk,hc,hs,hz,r⟩
 .obtain ⟨z,its,r,p⟩:=h.ok I.eY;exact ⟨its,r,p,z⟩
 .refine ⟨its.toList,r,⟨o,I.xJ a o hk,hc,n,by simpa using hs⟩,?_⟩;have e:=r.length;simp only [aP] at e;lia
theorem Inv.JO (I:Inv X pins Z H s) (h:cL X.K H a xs) (h':cL X.K H a ys):xs=ys:=by
 obtain ⟨its,r,⟨o,n,e,_,_,d⟩,_⟩:=I.list h;obtain ⟨its',r',⟨o',n',e',_,_,d'⟩,_⟩:=I.list h';rw [e] at e';cases e';rw [d] at d'
 injection d' with d1 _
 have:its=its':=by simpa using congrArg Array.toList d1
 subst this;exact r.inj r'
theorem Inv.NR (I:Inv X pins Z H s) (h:ie X.K H a xs) (h':ie X.K H a ys):xs=ys:=by
 obtain ⟨its,r,⟨o,e,_,n,d⟩,_⟩:=I.tuple h;obtain ⟨its',r',⟨o',e',_,n',d'⟩,_⟩:=I.tuple h';rw [e] at e';cases e';rw [d] at d'
 injection d' with d1 _
 have:its=its':=by simpa using congrArg Array.toList d1
 subst this;exact r.inj r'
end
abbrev Cx.Ek (X:Cx) (E:aj->ax->Prop):Cx:={ X with xe:=E }
abbrev Cx.UV (X:Cx):Cx:=X.Ek λ_ _=>False
theorem Cx.Ok.Ek {X:Cx}(ok:X.Ok) (E:aj->ax->Prop):(X.Ek E).Ok :=
 ⟨ok.mod,ok.kind,ok.glob,ok.blt,ok.above,ok.inj,ok.has,ok.W9,ok.hd,ok.frames,ok.YL,ok.Zz,ok.bs,ok.Q9,ok.NV,ok.NT,ok.yE,ok.UU⟩
theorem Cx.Ok.sP {X:Cx}(ok:(X.Ek E).Ok):X.Ok :=
 ⟨ok.mod,ok.kind,ok.glob,ok.blt,ok.above,ok.inj,ok.has,ok.W9,ok.hd,ok.frames,ok.YL,ok.Zz,ok.bs,ok.Q9,ok.NV,ok.NT,ok.yE,ok.UU⟩
section
variable {X:Cx}{Z:St}{H:Hp}
theorem Inv.Ek (I:Inv X pins Z H s) (E:aj->ax->Prop):Inv (X.Ek E) pins Z H s:=⟨I.ok.Ek E,I.os,I.bare,I.base,I.loc,I.cell,I.free,I.sQ,I.pin,I.eY,I.len⟩
theorem Inv.sP (I:Inv (X.Ek E) pins Z H s):Inv X pins Z H s:=⟨I.ok.sP,I.os,I.bare,I.base,I.loc,I.cell,I.free,I.sQ,I.pin,I.eY,I.len⟩
theorem SP.sP {D:tM}{f:Flow}(h:SP (X.Ek E) pins D f s'):SP X pins D f s':=by
 cases f with
 | next=>obtain ⟨σ',H',I,q⟩:=h;exact ⟨σ',H',I.sP,q⟩
 | brk=>obtain ⟨σ',H',I,q⟩:=h;exact ⟨σ',H',I.sP,q⟩
 | cont=>obtain ⟨σ',H',I,q⟩:=h;exact ⟨σ',H',I.sP,q⟩
 | ret u=>obtain ⟨v,σ',H',I,r,q⟩:=h;exact ⟨v,σ',H',I.sP,r,q⟩
theorem J8.UV {st:List dB}{t:TS}(h:J8 X.UV st t):J8 X st t:=λpins s Z H D I hw =>
 dH (h pins s Z H D (I.Ek _) hw) (λ_ _ q=>q.sP) λ_ _ z=>gX z
end
section
variable {X:Cx}{st:dB}{rest:List dB}{t u:TS}{te:TE}
def fT:TS:=λD Z H=>D.nx Z H
def bU (t u:TS):TS:=λD Z H=>t { D with nx:=u D } Z H
theorem gm:J8 X [] fT:=λ_ _ Z H _ I h=>xM ⟨Z,H,I,h⟩
theorem aF (h1:PS X st t) (h2:J8 X rest u):J8 X (st::rest) (bU t u):=by
 intro pins s Z H D I h;refine wpAny_execs_cons (gR (h1 pins s Z H { D with nx:=u D } I h) λf s1 q=>?_)
 cases f with
 | next =>
  obtain ⟨σ',H',I',q⟩:=q
  exact h2 pins s1 σ' H' D I' q
 | ret v=>exact q
 | brk=>exact q
 | cont=>exact q
theorem bX (h1:PS X st t):J8 X [st] t:=by
 intro pins s Z H D I h;refine wpAny_execs_cons (gR (h1 pins s Z H D I h) λf s1 q=>?_)
 cases f with
 | next=>exact xM q
 | ret v=>exact q
 | brk=>exact q
 | cont=>exact q
theorem Inv.quiet {Z:St}{H:Hp}(I:Inv X pins Z H s):interactive X.env=false:=by simp [interactive,I.ok.kind]
def fq (te:TE):TS:=λD Z H=>te Z H λ_ H1=>D.nx Z H1
theorem mC (he:PE X e te) (hs:As e none pos.line X.env=pure false:=by rfl):PS X (.Expr e pos) (fq te):=by
 intro pins s Z H D I h;exact wpAny_Expr_any (gR (he pins s Z H _ I h) λv s1 ⟨x,H1,I1,r1,q1⟩=>⟨Z,H1,I1,q1⟩) I.quiet hs
def fg (te:TE):TS:=λD Z H=>te Z H D.rt
theorem fH (he:PE X e te):PS X (.Return (some e) pos) (fg te):=by
 intro pins s Z H D I h;exact wpAny_Return_some (gR (he pins s Z H _ I h) λv s1 ⟨x,H1,I1,r1,q1⟩=>⟨x,Z,H1,I1,r1,q1⟩)
def ja (c:TT) (t u:TS):TS:=λD Z H=>c Z H λb H1=>if b=true then t D Z H1 else u D Z H1
theorem kh {a b:List dB}{tc:TT}(hc:PT X c tc) (ha:J8 X a t) (hb:J8 X b u):PS X (.If c a b pos) (ja tc t u):=by
 intro pins s Z H D I h;refine wpAny_If (gR (hc pins s Z H _ I h) λd s1 ⟨H1,I1,q1⟩=>?_)
 cases d with
 | true=>exact ha pins s1 Z H1 D I1 q1
 | false=>exact hb pins s1 Z H1 D I1 q1
def qK:TS:=λ_ _ _=>False
theorem mV:PS X st qK:=λ_ _ _ _ _ _ h=>h.elim
end
abbrev TG:=V->St->Hp->(St->Hp->Prop)->Prop
abbrev Ry:=List V->St->Hp->(St->Hp->Prop)->Prop
def PG (X:Cx) (target:Expr) (t:TG):Prop :=
 ∀ (pins:List (ag×jk)) (s:ax) (Z:St) (H:Hp) (v:V) (u:aj) (Q:St->Hp->Prop),Inv X pins Z H s->RelV v u->t v Z H Q ->
  aK (aL X.prog X.w) X.A (JV target X.env u) (λ_ s'=>∃ σ' H',Inv X pins σ' H' s'/\Q σ' H') X.xe s
def Xo (X:Cx) (ts:List Expr) (t:Ry):Prop :=
 ∀ (pins:List (ag×jk)) (s:ax) (Z:St) (H:Hp) (vs:List V) (us:List aj) (Q:St->Hp->Prop),Inv X pins Z H s->Vals vs us->t vs Z H Q ->
  aK (aL X.prog X.w) X.A (assignInOrder ((nI ts X.env).map (·.2)) us) (λ_ s'=>∃ σ' H',Inv X pins σ' H' s'/\Q σ' H') X.xe s
abbrev RN:=V->V->V->Hp->(Hp->Prop)->Prop
def RO (X:Cx) (t:RN):Prop :=
 ∀ (pins:List (ag×jk)) (s:ax) (Z:St) (H:Hp) (o i v:V) (ov iv u:aj) (Q:Hp->Prop),Inv X pins Z H s->RelV o ov->RelV i iv->RelV v u->t o i v H Q ->
  aK (aL X.prog X.w) X.A (setItem ov iv u) (λ_ s'=>∃ H',Inv X pins Z H' s'/\Q H') X.xe s
abbrev Zk:=V->V->Hp->VK->Prop
def PIp (X:Cx) (op:Aa) (t:Zk):Prop :=
 ∀ (pins:List (ag×jk)) (s:ax) (Z:St) (H:Hp) (x y:V) (v u:aj) (Q:VK),Inv X pins Z H s->RelV x v->RelV y u->t x y H Q ->
  aK (aL X.prog X.w) X.A (Au op v u) (EP X pins Z Q) X.xe s
section
variable {X:Cx}
def bj (i:Nat):TG:=λv Z H Q=>Q (Z.set i (some v)) H
theorem RP (hN:X.N.Nodup) (hi:X.N[i]?=some x) (hx:Loc X.env.scope x) (hf:X.fn x=true\/X.env.scope.names.lookup x=some .local:=by first|exact .inl rfl|exact .inr rfl|assumption):PG X (.Name x pos) (bj i):=by
 intro pins s Z H v u Q I r h;exact wpAny_assign_Name (AD I hN hi hx r (λs' I'=>⟨_,H,I',h⟩) hf)
def Hu:Ry:=λvs Z H Q=>vs=[]/\Q Z H
def jN (t:TG) (u:Ry):Ry:=λvs Z H Q=>∃ v r,vs=v::r/\t v Z H λσ' H'=>u r σ' H' Q
theorem vN:Xo X [] Hu:=by
 intro pins s Z H vs us Q I r h;obtain ⟨e,h⟩:=h;subst e;cases r;exact assignInOrder_nil ⟨Z,H,I,h⟩
theorem gL {t:TG}{u:Ry}(h1:PG X e t) (h2:Xo X es u)
  (hs:(nI (e::es) X.env).map (·.2)=JV e X.env::(nI es X.env).map (·.2):=by rfl):Xo X (e::es) (jN t u):=by
 intro pins s Z H vs us Q I r h;obtain ⟨v,vr,e1,h⟩:=h;subst e1
 cases r with
 | cons r rr =>
  rw [hs];refine assignInOrder_cons (gR (h1 pins s Z H _ _ _ I r h) λ_ s1 ⟨σ1,H1,I1,q1⟩=>?_);exact h2 pins s1 σ1 H1 _ _ Q I1 rr q1
def Ft (K:aa) (n:Nat) (t:Ry):TG:=λv Z H Q=>∃ a xs,v=.ref a/\ie K H a xs/\xs.length=n/\t xs Z H Q
theorem AE {t:Ry}(hc:X.calm=true) (h:Xo X es t)
  (hn:(nI es X.env).length=n:=by rfl) (hst:(nI es X.env).findIdx? (·.1)=none:=by rfl):PG X (.Tuple es k pos) (Ft X.K n t):=by
 intro pins s Z H v u Q I r hw;obtain ⟨a,xs,e1,hq,hl,hw⟩:=hw;subst e1;cases r;obtain ⟨its,rv,ht,hz⟩:=I.tuple hq;refine assign_Tuple_tuple (I.ok.hd hc) ht (by simp [hn,← hl,rv.length]) hst λh' hx=>?_;have I1:Inv X pins Z H { s with heap:=h' }:=I.kept (t':=s.toks) λb o e=>hx b o (a6 (aH e)) e;exact h pins _ Z H xs _ Q I1 (by simpa using rv) hw
def Hv (to ti:TE) (t:RN):TG:=λv Z H Q=>to Z H λo H1=>ti Z H1 λi H2=>t o i v H2 λH3=>Q Z H3
theorem Vo {o i:Expr}{to ti:TE}{t:RN}(ho:PE X o to) (hi:PE X i ti) (hs:RO X t)
  (ha:∀ v,JV (.Subscript o i pos) X.env v=(do
   let ov ← jC [v] (eJ o X.env)
   let iv ← jC [v,ov] (eJ i X.env)
   qb pos
   jC [v,ov,iv] (setItem ov iv v)
   release [v,ov,iv] []):=by intro _;rfl):PG X (.Subscript o i pos) (Hv to ti t):=by
 intro pins s Z H v u Q I r h;rw [ha];refine ae (cI (gR (ho pins s Z H _ I h) λov s1 ⟨x,H1,I1,r1,q1⟩=>?_));refine ae (cI (gR (hi pins s1 Z H1 _ I1 q1) λiv s2 ⟨y,H2,I2,r2,q2⟩=>?_));refine ae (tY (ae (cI (gR (hs pins s2 Z H2 x y v ov iv u _ I2 r1 r2 r q2) λ_ s3 ⟨H3,I3,q3⟩=>?_))));exact wpAny_release ⟨Z,H3,I3,q3⟩
def dg (te:TE) (g:TG):TS:=λD Z H=>te Z H λx H1=>g x Z H1 D.nx
theorem Vp {te:TE}{g:TG}(he:PE X e te) (hg:PG X tg g) (hs:swapsWithSole [tg] e pos.line X.env=pure false:=by rfl) (hw:swappedStores [tg] e X.env=pure none:=by rfl)
  (h1:(nI [tg] X.env).map (·.2)=[JV tg X.env]:=by rfl):PS X (.Assign [tg] e pos) (dg te g):=by
 intro pins s Z H D I h;refine wpAny_Assign_stores (gR (he pins s Z H _ I h) λv s1 ⟨x,H1,I1,r1,q1⟩=>?_) hs hw;rw [h1];exact gR (hg pins s1 Z H1 x v _ I1 r1 q1) λ_ s2 q=>q
theorem xS {te:TE}(hN:X.N.Nodup) (hi:X.N[i]?=some x) (hx:Loc X.env.scope x) (he:PE X e te) (hs:As e (some (.Name x pos')) pos.line X.env=pure false:=by rfl) (hf:X.fn x=true\/X.env.scope.names.lookup x=some .local:=by first|exact .inl rfl|exact .inr rfl|assumption) :
  PS X (.Assign [.Name x pos'] e pos) (dg te (bj i)):=by
 intro pins s Z H D I h;refine wpAny_Assign_Name (gR (he pins s Z H _ I h) λv s1 ⟨y,H1,I1,r1,q1⟩=>?_) hs;exact AD I1 hN hi hx r1 (λs2 I2=>⟨_,H1,I2,q1⟩) hf
def Kj (i:Nat) (te:TE) (ti:Zk):TS:=λD Z H=>∃ x,Z[i]?=some (some x)/\te Z H λy H1=>ti x y H1 λz H2=>D.nx (Z.set i (some z)) H2
theorem AF {te:TE}{op:Aa}{ti:Zk}(hN:X.N.Nodup) (hi:X.N[i]?=some x) (hx:Loc X.env.scope x) (he:PE X e te) (ho:PIp X op ti) (hf:X.fn x=true\/X.env.scope.names.lookup x=some .local:=by first|exact .inl rfl|exact .inr rfl|assumption) :
  PS X (.AugAssign (.Name x pos') op e pos) (Kj i te ti):=by
 intro pins s Z H D I h;obtain ⟨v,e1,h⟩:=h;obtain ⟨m,hn,hl⟩:=I.loc
 have vis:Zj X.env.scope x:=by rcases hx with k|k;exact .inl k;exact .inr (.inl k)
 obtain ⟨u,r,l⟩:=hl i x v hi e1 vis;refine wpAny_AugAssign_Name ?_
 have go:aK (aL X.prog X.w) X.A (eJ e X.env) (λw s₂=>aK (aL X.prog X.w) X.A (Au op u w) (λr s₃=>aK (aL X.prog X.w) X.A (storeName X.env x r) (λ_=>SP X pins D .next) X.xe s₃) X.xe s₂) X.xe s:=by
  refine gR (he pins s Z H _ I h) λw s1 ⟨y,H1,I1,r1,q1⟩=>?_;refine gR (ho pins s1 Z H1 v y u w _ I1 r r1 q1) λz s2 ⟨zv,H2,I2,r2,q2⟩=>?_;exact AD I2 hN hi hx r2 (λs3 I3=>⟨_,H2,I3,q2⟩) hf
 rcases l with ⟨hk,hm⟩|⟨hk,c,hc,hcell⟩
 .exact ke I.ok.kind hk hn hm go
 .rcases hk with hk|hk
  .exact Xd I.ok.kind hk hc hcell go
  .rcases hx with k|k
   .have:X.env.scope.names.lookup x=some .free:=hk;rw [k] at this;cases this
   .have:X.env.scope.names.lookup x=some .free:=hk;rw [k] at this;cases this
end
section
variable {X:Cx}
def AG (c:TT) (tb:TS):TS:=λD Z H=>∃ W:Nat->St->Hp->Prop,(∃ m,W m Z H)/\∀ m Z H,W m Z H ->
 c Z H λb H1=>if b=true then ∃ N:St->Hp->Prop,(∀ σ' H',N σ' H'->∃ m',m'<m/\W m' σ' H')/\tb { D with nx:=N,ct:=N,bk:=D.nx } Z H1 else D.nx Z H1
theorem vO {tc:TT}{tb:TS}(hp:PassesOwn (aL X.prog X.w) X.A X.env X.xe) (hc:PT X c tc) (hb:J8 X body tb):PS X (.While c body [] pos) (AG tc tb):=by
 intro pins s Z H D I h;obtain ⟨W,⟨m0,w0⟩,turn⟩:=h;refine wpAny_While (codeAny_whileLoop (λn s'=>∃ σ' H',Inv X pins σ' H' s'/\W n σ' H') ?_ m0 ⟨Z,H,I,w0⟩);rintro n s1 ⟨σ1,H1,I1,w1⟩;refine jJ hp (gR (hc pins s1 σ1 H1 _ I1 (turn n σ1 H1 w1)) λb s2 ⟨H2,I2,q2⟩=>?_)
 cases b with
 | true =>
  obtain ⟨N,hN,q2⟩:=q2;rw [if_pos rfl];refine jJ hp (gR (hb pins s2 σ1 H2 _ I2 q2) λf s3 q3=>?_)
  cases f with
  | next =>
   obtain ⟨σ3,H3,I3,n3⟩:=q3;obtain ⟨m',hm,w3⟩:=hN σ3 H3 n3
   exact ⟨m',hm,σ3,H3,I3,w3⟩
  | cont =>
   obtain ⟨σ3,H3,I3,n3⟩:=q3;obtain ⟨m',hm,w3⟩:=hN σ3 H3 n3
   exact ⟨m',hm,σ3,H3,I3,w3⟩
  | brk=>exact q3
  | ret v=>exact q3
 | false =>
  rw [if_neg bx];exact xM ⟨σ1,H2,I2,q2⟩
end
structure It where
 go:Nat->Hp->Prop
 J7:Nat->Hp->V->Hp->Prop
 stop:Nat->Hp->Prop
def xU (X:Cx) (pins:List (ag×jk)) (H:Hp) (b:ag):Prop :=
 H b=none/\b≠X.env.locals/\b∉X.fs/\(b∈X.ex\/X.s₀.heap.objs.size<=b)/\(∀ x c,X.env.cells.lookup x=some c->c≠b)/\∀ p∈X.pn++pins,p.1≠b
theorem Inv.JQ {X:Cx}{Z:St}{H H':Hp}(I:Inv X pins Z H s) (hb:s.heap.objs.size<=b) (hn:H' b=none):xU X pins H' b:=by
 refine ⟨hn,dt (bp I.lt hb),I.nofs hb,.inr (bA I.sz hb),λx c e z=>?_,λp hp z=>?_⟩
 .obtain ⟨v,q⟩:=I.cell x c e;exact absurd (bp q.lt (by rw [z];exact hb)) (fk _)
 .exact absurd (bp (aH (I.pin p hp).1) (by rw [z];exact hb)) (fk _)
structure Kk (P:bB) (w:ck) (K:aa) (tg:Expr) (J:It) (fp:List ag) (it:ag) (tn:Nat->cK->Prop):Prop where
 mem:it∈fp
 obj:∀ i h,tn i h->∀ b∈fp,∃ o,h.get? b=some o/\∀ v,o.data≠.cell v
 keep:∀ i h h',tn i h->(∀ b∈fp,∀ o,h.get? b=some o->h'.get? b=some o)->tn i h'
 item:∀ (X:Cx),X.prog=P->X.w=w->X.K=K->X.calm=true->∀ (i:Nat) (pins:List (ag×jk)) (s:ax) (Z:St) (H:Hp) (E:aj->ax->Prop),Inv X pins Z H s->(∀ b∈fp,xU X pins H b)->tn i s.heap->J.go i H ->
  aK (aL P w) X.A (iZ (.ref it)) (λr s1=>∃ u,r=some u /\
   aK (aL P w) X.A (xN tg (.ref it) u) (λ_ s2=>∃ x H',Inv X pins Z H' s2/\RelV x u/\J.J7 i H x H'/\tn (i+1) s2.heap/\∀ b∈fp,H' b=none) E s1) E s
 done:∀ (X:Cx),X.prog=P->X.w=w->X.K=K->X.calm=true->∀ (i:Nat) (pins:List (ag×jk)) (s:ax) (Z:St) (H:Hp) (E:aj->ax->Prop),Inv X pins Z H s->(∀ b∈fp,xU X pins H b)->tn i s.heap->J.stop i H ->
  aK (aL P w) X.A (iZ (.ref it)) (λr s1=>r=none/\Inv X pins Z H s1) E s
 self:∀ (A:cM) (i:Nat) (s:ax) (Q:aj->ax->Prop) (E:aj->ax->Prop),tn i s.heap->Q (.ref it) s->aK (aL P w) A (N0 (.ref it)) Q E s
abbrev TI:=St->Hp->(It->Hp->Prop)->Prop
def PIE (X:Cx) (pins:List (ag×jk)) (Z:St) (tg:Expr) (R:It->Hp->Prop) (itv:aj) (s2:ax):Prop :=
 ∃ (it:ag) (fp:List ag) (tn:Nat->cK->Prop) (J:It) (H':Hp),itv=.ref it/\Inv X pins Z H' s2/\Kk X.prog X.w X.K tg J fp it tn/\tn 0 s2.heap/\(∀ b∈fp,xU X pins H' b)/\R J H'
def PI (X:Cx) (tg iter:Expr) (wi:TI):Prop :=
 ∀ (pins:List (ag×jk)) (s:ax) (Z:St) (H:Hp) (R:It->Hp->Prop),Inv X pins Z H s->wi Z H R ->
  aK (aL X.prog X.w) X.A (eJ iter X.env) (λv s1=>aK (aL X.prog X.w) X.A (N0 v) (PIE X pins Z tg R) X.xe s1) X.xe s
theorem Hw {n:String}{vs:Array aj}{Q:Unit->ax->Prop}(ho:s.heap.get? it=some o) (hc:o.cls=.type n) (hd:o.data=.fields vs)
    (hn:["enumerate","zip","dict_itemiterator","dict_reverseitemiterator","odict_iterator","itertools.zip_longest","itertools.pairwise"].contains n=false) (hQ:Q () s):aK M A (xN tg (.ref it) u) Q E s:=by
  unfold xN
  cases tg<;>first
    | exact ar hQ
    | (cases u<;>first
        | exact ar hQ
        | (refine ae (El ho ?_)
           rw [hc,hd]
           show aK M A (if (["enumerate","zip","dict_itemiterator","dict_reverseitemiterator","odict_iterator","itertools.zip_longest","itertools.pairwise"].contains n && vs[0]? == some (cz _))=true then _ else _) Q E s
           rw [if_neg (by intro h;rw [hn,Bool.false_and] at h;cases h)]
           exact ar hQ))
def Oo (K:aa) (a:ag):It :=
 ⟨λi H=>∃ xs x,cL K H a xs/\xs[i]?=some x,λi H x H'=>H'=H/\∀ xs,cL K H a xs->xs[i]?=some x,λi H=>∃ xs,cL K H a xs/\xs.length<=i⟩
def W6 (K:aa) (a:ag):It :=
 ⟨λi H=>∃ xs x,ie K H a xs/\xs[i]?=some x,λi H x H'=>H'=H/\∀ xs,ie K H a xs->xs[i]?=some x,λi H=>∃ xs,ie K H a xs/\xs.length<=i⟩
def OL (lo:Int) (n:Nat):It:=⟨λi _=>i<n,λi H x H'=>H'=H/\x=.int (lo+i),λi _=>n<=i⟩
theorem M5 (a it:ag):Kk P w K tg (Oo K a) [it] it (λi h=>h.IsListIter it a i) where
 mem:=by simp
 obj:=λi h st b hb=>by
  have e:b=it:=by simpa using hb
  subst e;obtain ⟨o,e,c,d⟩:=st;exact ⟨o,e,λv z=>by rw [d] at z;cases z⟩
 keep:=λi h h' st k=>st.at λo e=>k it (by simp) o e
 item:=by
  intro X hP hw hK hc i pins s Z H E I hf st hg;subst hP hw hK;obtain ⟨xs,x,hq,hx⟩:=hg;obtain ⟨its,rv,p,hz⟩:=I.list hq;obtain ⟨u,hu,ru⟩:=rv.get hx;obtain ⟨f0,f1,f2,f3,f4,f5⟩:=hf it (by simp);refine wpAny_pyNext_list_item st p.isList (x:=u) (by simpa using hu) λh' st' sb=>?_;have I1:Inv X pins Z H { s with heap:=h' }:=I.turned (t':=s.toks) (λb o hb e=>(sb.2 b hb).trans e) f0 f1 f3 f4 f5;obtain ⟨o,e,c,d⟩:=id st';exact ⟨u,rfl,Hw (s:={ s with heap:=h' }) e c d (by decide) ⟨x,H,I1,ru,⟨rfl,λys hy=>by rw [I.JO hy hq];exact hx⟩,st',λb hb=>(hf b hb).1⟩⟩
 done:=by
  intro X hP hw hK hc i pins s Z H E I hf st hg;subst hP hw hK;obtain ⟨xs,hq,hx⟩:=hg;obtain ⟨its,rv,p,hz⟩:=I.list hq;obtain ⟨f0,f1,f2,f3,f4,f5⟩:=hf it (by simp);have hl:=rv.length
  exact wpAny_pyNext_list_end (I.ok.hd hc) st p.isList (by simp;lia) λh' eb=>⟨rfl,I.turned (t':=s.toks) (λb o hb e=>eb b o hb e) f0 f1 f3 f4 f5⟩
 self:=λ_ _ _ _ _ st h=>wpAny_pyIter_listiter st h
theorem Kl (a it:ag):Kk P w K tg (W6 K a) [it] it (λi h=>h.IsTupleIter it a i) where
 mem:=by simp
 obj:=λi h st b hb=>by
  have e:b=it:=by simpa using hb
  subst e;obtain ⟨o,e,c,d⟩:=st;exact ⟨o,e,λv z=>by rw [d] at z;cases z⟩
 keep:=λi h h' st k=>st.at λo e=>k it (by simp) o e
 item:=by
  intro X hP hw hK hc i pins s Z H E I hf st hg;subst hP hw hK;obtain ⟨xs,x,hq,hx⟩:=hg;obtain ⟨its,rv,p,hz⟩:=I.tuple hq;obtain ⟨u,hu,ru⟩:=rv.get hx;obtain ⟨f0,f1,f2,f3,f4,f5⟩:=hf it (by simp);refine wpAny_pyNext_tuple_item st (show s.heap.IsTuple a its.toArray from p) (x:=u) (by simpa using hu) λh' st' sb=>?_;have I1:Inv X pins Z H { s with heap:=h' }:=I.turned (t':=s.toks) (λb o hb e=>(sb.2 b hb).trans e) f0 f1 f3 f4 f5;obtain ⟨o,e,c,d⟩:=id st';exact ⟨u,rfl,Hw (s:={ s with heap:=h' }) e c d (by decide) ⟨x,H,I1,ru,⟨rfl,λys hy=>by rw [I.NR hy hq];exact hx⟩,st',λb hb=>(hf b hb).1⟩⟩
 done:=by
  intro X hP hw hK hc i pins s Z H E I hf st hg;subst hP hw hK;obtain ⟨xs,hq,hx⟩:=hg;obtain ⟨its,rv,p,hz⟩:=I.tuple hq;obtain ⟨f0,f1,f2,f3,f4,f5⟩:=hf it (by simp);have hl:=rv.length
  exact wpAny_pyNext_tuple_end (I.ok.hd hc) st (show s.heap.IsTuple a its.toArray from p) (by simp;lia) λh' eb=>⟨rfl,I.turned (t':=s.toks) (λb o hb e=>eb b o hb e) f0 f1 f3 f4 f5⟩
 self:=λ_ _ _ _ _ st h=>wpAny_pyIter_tupleiter st h
theorem Km (it:ag) (lo:Int) (n:Nat):Kk P w K tg (OL lo n) [it] it (λi h=>IsRangeIter h it (lo+(i:Nat)*1) ((n:Int)-(i:Nat)) 1) where
 mem:=by simp
 obj:=λi h st b hb=>by
  have e:b=it:=by simpa using hb
  subst e
  exact ⟨_,st,λv z=>by
   have z':Data.fields _=Data.cell v:=z
   cases z'⟩
 keep:=λi h h' st k=>k it (by simp) _ st
 item:=by
  intro X hP hw hK hc i pins s Z H E I hf st hg;subst hP hw hK;obtain ⟨f0,f1,f2,f3,f4,f5⟩:=hf it (by simp);have W:=Walks.range (prog:=X.prog) (w:=X.w) (I.ok.hd hc) it lo 1 n;refine W.item i s _ _ hg st λv h' tk hv st' kk=>?_;obtain ⟨t,rfl⟩:=hv;have I1:Inv X pins Z H { s with heap:=h',toks:=tk }:=I.turned (λb o hb e=>kk b o (by simpa using hb) e) f0 f1 f3 f4 f5;refine ⟨_,rfl,Hw (s:={ s with heap:=h',toks:=tk }) (n:="range_iterator") st' rfl rfl (by decide) ⟨.int (lo+i),H,I1,⟨t,?_⟩,⟨rfl,rfl⟩,st',λb hb=>(hf b hb).1⟩⟩;rw [Int.mul_one]
 done:=by
  intro X hP hw hK hc i pins s Z H E I hf st hg;subst hP hw hK;obtain ⟨f0,f1,f2,f3,f4,f5⟩:=hf it (by simp)
  exact wpAny_pyNext_range_end (I.ok.hd hc) st (by have:n<=i:=hg;lia) λh' eb=>⟨rfl,I.turned (t':=s.toks) (λb o hb e=>eb b o hb e) f0 f1 f3 f4 f5⟩
 self:=λ_ _ _ _ _ st h=>wpAny_pyIter_rangeiter st h
section
variable {X:Cx}
theorem Hx {Z:St}{H:Hp}{R:It->Hp->Prop}{hi:Int}{t u v:TF}{tk:Nat}(I:Inv X pins Z H s) (h1:-(2^62)<=lo) (h2:lo<2^62) (h3:-(2^62)<=hi) (h4:hi<2^62)
  (q:R (OL lo (hi-lo).toNat) H):aK (aL X.prog X.w) X.A (N0 (.ref s.heap.objs.size)) (PIE X pins Z tg R) E { s with heap:=s.heap.push { cls:=.type "range",data:=.fields #[.int lo t,.int hi u,.int 1 v] },toks:=tk }:=by
 refine wpAny_pyIter_range (IsRange.new ..) (small_one h1 h2 h3 h4) ?_;have I1:Inv X pins Z H { s with heap:=s.heap.push { cls:=.type "range",data:=.fields #[.int lo t,.int hi u,.int 1 v] },toks:=tk }:=I.kept λb o e=>aq _ e
 refine ⟨(s.heap.push { cls:=.type "range",data:=.fields #[.int lo t,.int hi u,.int 1 v] }).objs.size,[(s.heap.push { cls:=.type "range",data:=.fields #[.int lo t,.int hi u,.int 1 v] }).objs.size],_,_,H,rfl,
  I1.kept (t':=tk) λb o e=>aq _ e,Km _ lo (hi-lo).toNat,?_,λb hb=>?_,q⟩
 .have e1:lo+((0:Nat):Int)*1=lo:=by simp
  have e2:(((hi-lo).toNat:Nat):Int)-((0:Nat):Int)=Builtin.Range.rangeSize lo hi 1:=by rw [rangeSize_one];split<;>lia
  show IsRangeIter _ _ (lo+((0:Nat):Int)*1) ((((hi-lo).toNat:Nat):Int)-((0:Nat):Int)) 1
  rw [e1,e2];exact aJ _ rfl
 .have e:b=(s.heap.push { cls:=.type "range",data:=.fields #[.int lo t,.int hi u,.int 1 v] }).objs.size:=by simpa using hb
  subst e;exact I1.JQ (ak _) (I1.eY.fresh (ak _))
def vP (ta:TA):TI:=λZ H R=>ta Z H λvs H1=>∃ j:Int,vs=[.int j]/\-(2^62)<=j/\j<2^62/\R (OL 0 j.toNat) H1
def Hy (ta:TA):TI:=λZ H R=>ta Z H λvs H1=>∃ i j:Int,vs=[.int i,.int j]/\(-(2^62)<=i/\i<2^62/\-(2^62)<=j/\j<2^62)/\R (OL i (j-i).toNat) H1
theorem Es {a:Expr}{ta:TA}(hg:Gl X "range") (hm:X.mg "range"=none) (ha:PA X [a] ta) (hs:bu [a] X.env=[(false,eJ a X.env)]:=by rfl):PI X tg (.Call (.Name "range" p) [a] [] pos) (vP ta):=by
 intro pins s Z H R I h;refine Call_ (l9 I hg hm boot_range (dw (gR (ha pos pins s Z H _ I h) λus s1 ⟨vs,H1,I1,r1,q1⟩=>?_) hs rfl));obtain ⟨j,e,q1,q2,q⟩:=q1;subst e
 cases r1 with
 | cons r rr =>
  cases rr;obtain ⟨t,rfl⟩:=r;exact call_range_1 (Hx I1 (by lia) (by lia) q1 q2 (by simpa using q))
theorem Et {a b:Expr}{ta:TA}(hg:Gl X "range") (hm:X.mg "range"=none) (ha:PA X [a,b] ta) (hs:bu [a,b] X.env=[(false,eJ a X.env),(false,eJ b X.env)]:=by rfl) (hs2:bu [b] X.env=[(false,eJ b X.env)]:=by rfl) :
  PI X tg (.Call (.Name "range" p) [a,b] [] pos) (Hy ta):=by
 intro pins s Z H R I h;refine Call_ (l9 I hg hm boot_range (dw (gR (ha pos pins s Z H _ I h) λus s1 ⟨vs,H1,I1,r1,q1⟩=>?_) (by rw [hs,hs2]) (by rw [hs2];rfl)));obtain ⟨i,j,e,⟨q1,q2,q3,q4⟩,q⟩:=q1;subst e
 cases r1 with
 | cons r rr =>
  cases rr with
  | cons r' rr =>
   cases rr;obtain ⟨t,rfl⟩:=r;obtain ⟨t',rfl⟩:=r';exact call_range_2 (Hx I1 q1 q2 q3 q4 q)
def qL (wi:TI) (g:TG) (tb:TS):TS:=λD Z H=>wi Z H λJ H1=>∃ W:Nat->Nat->St->Hp->Prop,(∃ m,W 0 m Z H1)/\∀ i m Z H,W i m Z H ->
 (J.stop i H/\D.nx Z H)\/(J.go i H/\∃ N:St->Hp->Prop,(∀ σ' H',N σ' H'->∃ m',m'<m/\W (i+1) m' σ' H')/\∀ x H',J.J7 i H x H'->g x Z H' λσ2 H2=>tb { D with nx:=N,ct:=N,bk:=D.nx } σ2 H2)
def AH (fp:List ag) (h:cK):List (ag×jk):=fp.filterMap λb=>(h.get? b).map λo=>(b,o)
theorem pL (hb:b∈fp) (e:h.get? b=some o):(b,o)∈AH fp h:=oE.mpr ⟨b,hb,by rw [e];rfl⟩
theorem M6 {p:ag×jk}(hp:p∈AH fp h):p.1∈fp/\h.get? p.1=some p.2:=by
 obtain ⟨b,hb,e⟩:=oE.mp hp
 cases q:h.get? b with
 | none=>rw [q] at e;cases e
 | some o =>
  rw [q] at e;have e':(b,o)=p:=a7 e;subst e';exact ⟨hb,q⟩
theorem Inv.pinned {Z:St}{H:Hp}(I:Inv X pins Z H s) (hf:∀ b∈fp,xU X pins H b) (ho:∀ b∈fp,∃ o,s.heap.get? b=some o/\∀ v,o.data≠.cell v):Inv X (pins++AH fp s.heap) Z H s :=
 I.MT λp hp=>(aS.mp hp).elim (λz=>I.pin p (bH _ z)) λz=>by
  obtain ⟨hb,e⟩:=M6 z;obtain ⟨f0,f1,f2,_⟩:=hf p.1 hb;obtain ⟨o,e',d⟩:=ho p.1 hb;rw [e] at e';cases e';exact ⟨e,f0,f1,f2,d⟩
theorem Inv.xu {pl:List (ag×jk)}{Z:St}{H:Hp}(I:Inv X (pins++pl) Z H s):Inv X pins Z H s:=I.MT λp hp=>I.pin p (bH _ (eU _ hp))
theorem xV {iter:Expr}{wi:TI}{g:TG}{tb:TS}(hp:PassesOwn (aL X.prog X.w) X.A X.env X.xe) (hc:X.calm=true) (hi:PI X tg iter wi) (hg:PG X tg g) (hb:J8 X body tb)
  (hs:∀ x,tD iter X.env x=pure x:=by intro _;rfl):PS X (.For tg iter body [] pos) (qL wi g tb):=by
 intro pins s Z H D I h;refine wpAny_For (gR (hi pins s Z H _ I h) λv s1 h1=>gR h1 λitv s2 h2=>?_) hs;obtain ⟨it,fp,tn,J,H2,e,I2,T,st2,f2,W,⟨m0,w0⟩,turn⟩:=h2;subst e
 -- what stays true of the iterator's objects through the Kn
 have stat:∀ {H':Hp},(∀ b∈fp,H' b=none)->∀ b∈fp,xU X pins H' b:=λhn b hb=>⟨hn b hb,(f2 b hb).2⟩
 refine codeAny_forLoop_any (λn s'=>∃ i σ' H',Inv X pins σ' H' s'/\tn i s'.heap/\(∀ b∈fp,H' b=none)/\W i n σ' H') ?_ m0 ⟨0,Z,H2,I2,st2,λb hb=>(f2 b hb).1,w0⟩;rintro n s3 ⟨i,σ3,H3,I3,st3,fr3,w3⟩
 rcases turn i n σ3 H3 w3 with ⟨stop,qn⟩|⟨go,N,hN,step⟩
 .refine jJ hp (gR (T.done X rfl rfl rfl hc i pins s3 σ3 H3 X.xe I3 (stat fr3) st3 stop) λr s4 ⟨hr,I4⟩=>?_);subst hr;exact xM ⟨σ3,H3,I4,qn⟩
 .refine jJ hp (gR (T.item X rfl rfl rfl hc i pins s3 σ3 H3 X.xe I3 (stat fr3) st3 go) λr s4 ⟨u,hr,h4⟩=>?_);subst hr;refine jJ hp (gR h4 λ_ s5 ⟨x,H5,I5,r5,y5,st5,fr5⟩=>?_);have I5':=I5.pinned (stat fr5) (T.obj _ _ st5);refine jJ hp (gR (hg _ s5 σ3 H5 x u _ I5' r5 (step x H5 y5)) λ_ s6 ⟨σ6,H6,I6,q6⟩=>?_);refine jJ hp (gR (hb _ s6 σ6 H6 _ I6 q6) λf s7 q7=>?_)
  have again:∀ {σ7:St}{H7:Hp},Inv X (pins++AH fp s5.heap) σ7 H7 s7->N σ7 H7->∃ m,m<n/\∃ i σ' H',Inv X pins σ' H' s7/\tn i s7.heap/\(∀ b∈fp,H' b=none)/\W i m σ' H':=λ{σ7 H7} I7 n7=>by
   obtain ⟨m',hm,w7⟩:=hN σ7 H7 n7;refine ⟨m',hm,i+1,σ7,H7,I7.xu,T.keep _ _ _ st5 λb hb o e=>(I7.pin (b,o) (bH _ (bH _ (pL hb e)))).1,λb hb=>?_,w7⟩;obtain ⟨o,e,d⟩:=T.obj _ _ st5 b hb;exact (I7.pin (b,o) (bH _ (bH _ (pL hb e)))).2.1
  cases f with
  | next=>obtain ⟨σ7,H7,I7,n7⟩:=q7;exact again I7 n7
  | cont=>obtain ⟨σ7,H7,I7,n7⟩:=q7;exact again I7 n7
  | brk=>obtain ⟨σ7,H7,I7,q7⟩:=q7;exact ⟨σ7,H7,I7.xu,q7⟩
  | ret v=>obtain ⟨x7,σ7,H7,I7,r7,q7⟩:=q7;exact ⟨x7,σ7,H7,I7.xu,r7,q7⟩
end
theorem lR {xs:List V}{g:TG}{tb:TS}{D:tM}{Z:St}{H:Hp}(Pv:Nat->St->Hp->Prop) (h0:Pv 0 Z H) (hl:∀ i Z H,i<=xs.length->Pv i Z H->cL K H a xs)
  (hs:∀ i x Z H,xs[i]?=some x->Pv i Z H->g x Z H λσ2 H2=>tb { D with nx:=Pv (i+1),ct:=Pv (i+1),bk:=D.nx } σ2 H2) (hd:∀ Z H,Pv xs.length Z H->D.nx Z H) :
  ∃ W:Nat->Nat->St->Hp->Prop,(∃ m,W 0 m Z H)/\∀ i m Z H,W i m Z H ->
   ((Oo K a).stop i H/\D.nx Z H)\/((Oo K a).go i H/\∃ N:St->Hp->Prop,(∀ σ' H',N σ' H'->∃ m',m'<m/\W (i+1) m' σ' H')/\∀ x H',(Oo K a).J7 i H x H'->g x Z H' λσ2 H2=>tb { D with nx:=N,ct:=N,bk:=D.nx } σ2 H2):=by
 refine ⟨λi m Z H=>m=xs.length-i/\i<=xs.length/\Pv i Z H,⟨xs.length,by simp,aM _,h0⟩,?_⟩;rintro i m Z H ⟨rfl,hi,p⟩;have q:=hl i Z H hi p
 by_cases hlt:i<xs.length
 .refine .inr ⟨⟨xs,xs[i],q,by simp [hlt]⟩,Pv (i+1),λσ' H' p'=>⟨xs.length-(i+1),by lia,rfl,hlt,p'⟩,λx H' y=>?_⟩;obtain ⟨e,y⟩:=y;subst e;exact hs i x Z _ (y xs q) p
 .have e:i=xs.length:=by lia
  subst e;exact .inl ⟨⟨xs,q,ak _⟩,hd Z H p⟩
theorem RQ {xs:List V}{g:TG}{tb:TS}{D:tM}{Z:St}{H:Hp}(Pv:Nat->St->Hp->Prop) (h0:Pv 0 Z H) (hl:∀ i Z H,i<=xs.length->Pv i Z H->ie K H a xs)
  (hs:∀ i x Z H,xs[i]?=some x->Pv i Z H->g x Z H λσ2 H2=>tb { D with nx:=Pv (i+1),ct:=Pv (i+1),bk:=D.nx } σ2 H2) (hd:∀ Z H,Pv xs.length Z H->D.nx Z H) :
  ∃ W:Nat->Nat->St->Hp->Prop,(∃ m,W 0 m Z H)/\∀ i m Z H,W i m Z H ->
   ((W6 K a).stop i H/\D.nx Z H)\/((W6 K a).go i H/\∃ N:St->Hp->Prop,(∀ σ' H',N σ' H'->∃ m',m'<m/\W (i+1) m' σ' H')/\∀ x H',(W6 K a).J7 i H x H'->g x Z H' λσ2 H2=>tb { D with nx:=N,ct:=N,bk:=D.nx } σ2 H2):=by
 refine ⟨λi m Z H=>m=xs.length-i/\i<=xs.length/\Pv i Z H,⟨xs.length,by simp,aM _,h0⟩,?_⟩;rintro i m Z H ⟨rfl,hi,p⟩;have q:=hl i Z H hi p
 by_cases hlt:i<xs.length
 .refine .inr ⟨⟨xs,xs[i],q,by simp [hlt]⟩,Pv (i+1),λσ' H' p'=>⟨xs.length-(i+1),by lia,rfl,hlt,p'⟩,λx H' y=>?_⟩;obtain ⟨e,y⟩:=y;subst e;exact hs i x Z _ (y xs q) p
 .have e:i=xs.length:=by lia
  subst e;exact .inl ⟨⟨xs,q,ak _⟩,hd Z H p⟩
theorem oG {g:TG}{tb:TS}{D:tM}{Z:St}{H:Hp}(Pv:Nat->St->Hp->Prop) (h0:Pv 0 Z H)
  (hs:∀ i Z H,i<n->Pv i Z H->g (.int (lo+i)) Z H λσ2 H2=>tb { D with nx:=Pv (i+1),ct:=Pv (i+1),bk:=D.nx } σ2 H2) (hd:∀ Z H,Pv n Z H->D.nx Z H) :
  ∃ W:Nat->Nat->St->Hp->Prop,(∃ m,W 0 m Z H)/\∀ i m Z H,W i m Z H ->
   ((OL lo n).stop i H/\D.nx Z H)\/((OL lo n).go i H/\∃ N:St->Hp->Prop,(∀ σ' H',N σ' H'->∃ m',m'<m/\W (i+1) m' σ' H')/\∀ x H',(OL lo n).J7 i H x H'->g x Z H' λσ2 H2=>tb { D with nx:=N,ct:=N,bk:=D.nx } σ2 H2):=by
 refine ⟨λi m Z H=>m=n-i/\i<=n/\Pv i Z H,⟨n,by simp,aM _,h0⟩,?_⟩;rintro i m Z H ⟨rfl,hi,p⟩
 by_cases hlt:i<n
 .refine .inr ⟨hlt,Pv (i+1),λσ' H' p'=>⟨n-(i+1),by lia,rfl,hlt,p'⟩,λx H' y=>?_⟩;obtain ⟨e,y⟩:=y;subst e y;exact hs i Z _ hlt p
 .have e:i=n:=by lia
  subst e;exact .inl ⟨ak _,hd Z H p⟩
abbrev R2:=V->V->Hp->VK->Prop
def oC (X:Cx) (f:aj->aj->Xb aj) (r:R2):Prop :=
 ∀ (pins:List (ag×jk)) (s:ax) (Z:St) (H:Hp) (x y:V) (v u:aj) (Q:VK),Inv X pins Z H s->RelV x v->RelV y u->r x y H Q ->
  aK (aL X.prog X.w) X.A (f v u) (EP X pins Z Q) X.xe s
def ZV (X:Cx) (f:aj->Xb aj) (r:V->Hp->VK->Prop):Prop :=
 ∀ (pins:List (ag×jk)) (s:ax) (Z:St) (H:Hp) (x:V) (v:aj) (Q:VK),Inv X pins Z H s->RelV x v->r x H Q ->
  aK (aL X.prog X.w) X.A (f v) (EP X pins Z Q) X.xe s
def k8 (X:Cx) (f:aj) (r:List V->Hp->VK->Prop):Prop :=
 ∀ (pins:List (ag×jk)) (s:ax) (Z:St) (H:Hp) (xs:List V) (us:List aj) (Q:VK),Inv X pins Z H s->Vals xs us->r xs H Q ->
  aK (aL X.prog X.w) X.A (call f us) (EP X pins Z Q) X.xe s
def ZW (X:Cx) (r:V->Hp->(Bool->Hp->Prop)->Prop):Prop :=
 ∀ (pins:List (ag×jk)) (s:ax) (Z:St) (H:Hp) (x:V) (v:aj) (Q:Bool->Hp->Prop),Inv X pins Z H s->RelV x v->r x H Q ->
  aK (aL X.prog X.w) X.A (truthy v) (TP X pins Z Q) X.xe s
def bY (r:R2) (ta tb:TE):TE:=λZ H Q=>ta Z H λx H1=>tb Z H1 λy H2=>r x y H2 Q
def Zm (r:V->Hp->VK->Prop) (ta:TE):TE:=λZ H Q=>ta Z H λx H1=>r x H1 Q
def rI (C:Int->Int->Prop) (g:Int->Int->V):R2:=λx y H Q=>∃ i j,x=.int i/\y=.int j/\C i j/\Q (g i j) H
def nA (g:Int->Int->V):R2:=λx y H Q=>∃ i j,x=.int i/\y=.int j/\Q (g i j) H
def rU (g:Int->V):V->Hp->VK->Prop:=λx H Q=>∃ i,x=.int i/\Q (g i) H
section
variable {X:Cx}{a b:Expr}{ta tb tc:TE}
theorem Vq (ha:PE X a ta) (hb:PE X b tb) {pins:List (ag×jk)}{s:ax}{Z:St}{H:Hp}{R:V->V->Hp->Prop}(I:Inv X pins Z H s)
  (h:ta Z H λx H1=>tb Z H1 λy H2=>R x y H2) {Q:aj->ax->Prop}{f:aj->aj->Xb aj}
  (hf:∀ v u s2 x y H2,Inv X pins Z H2 s2->RelV x v->RelV y u->R x y H2->aK (aL X.prog X.w) X.A (f v u) Q X.xe s2) :
  aK (aL X.prog X.w) X.A (eJ a X.env) (λv s₁=>aK (aL X.prog X.w) X.A (eJ b X.env) (λu s₂=>aK (aL X.prog X.w) X.A (f v u) Q X.xe s₂) X.xe s₁) X.xe s:=by
 refine gR (ha pins s Z H _ I h) λv s1 ⟨x,H1,I1,r1,q1⟩=>?_;refine gR (hb pins s1 Z H1 _ I1 q1) λu s2 ⟨y,H2,I2,r2,q2⟩=>?_;exact hf v u s2 x y H2 I2 r1 r2 q2
theorem fU {op:Aa}{r:R2}(ho:oC X (lB op) r) (ha:PE X a ta) (hb:PE X b tb):PE X (.BinOp a op b pos) (bY r ta tb):=by
 intro pins s Z H Q I h;exact wpAny_BinOp (Vq ha hb I h λv u s2 x y H2 I2 rx ry q=>ho pins s2 Z H2 x y v u Q I2 rx ry q)
theorem TZ {op:UnaryOp}{r:V->Hp->VK->Prop}(ho:ZV X (unaryOp op) r) (ha:PE X a ta):PE X (.UnaryOp op a pos) (Zm r ta):=by
 intro pins s Z H Q I h;exact UnaryOp_ (gR (ha pins s Z H _ I h) λv s1 ⟨x,H1,I1,r1,q1⟩=>ho pins s1 Z H1 x v Q I1 r1 q1)
theorem Xp {f:aj->aj->Xb aj}{C:Int->Int->Prop}{g:Int->Int->Int}
  (Em:∀ (i j:Int) (t u:TF) (s:ax) (Q:aj->ax->Prop) (E:aj->ax->Prop),C i j->Q (.int (g i j) s.toks) { s with toks:=s.toks+1 }->aK (aL X.prog X.w) X.A (f (.int i t) (.int j u)) Q E s) :
  oC X f (rI C λi j=>.int (g i j)):=by
 intro pins s Z H x y v u Q I rx ry h;obtain ⟨i,j,rfl,rfl,hc,q⟩:=h;obtain ⟨t,rfl⟩:=rx;obtain ⟨t',rfl⟩:=ry;exact Em i j t t' s _ _ hc ⟨.int (g i j),H,I.tok _,⟨_,rfl⟩,q⟩
theorem RR {f:aj->aj->Xb aj}{g:Int->Int->Int}
  (Em:∀ (i j:Int) (t u:TF) (s:ax) (Q:aj->ax->Prop) (E:aj->ax->Prop),Q (.int (g i j) s.toks) { s with toks:=s.toks+1 }->aK (aL X.prog X.w) X.A (f (.int i t) (.int j u)) Q E s) :
  oC X f (nA λi j=>.int (g i j)):=by
 intro pins s Z H x y v u Q I rx ry h;obtain ⟨i,j,rfl,rfl,q⟩:=h;obtain ⟨t,rfl⟩:=rx;obtain ⟨t',rfl⟩:=ry;exact Em i j t t' s _ _ ⟨.int (g i j),H,I.tok _,⟨_,rfl⟩,q⟩
theorem RT {f:aj->aj->Xb aj}{g:Int->Int->Bool}
  (Em:∀ (i j:Int) (t u:TF) (s:ax) (Q:aj->ax->Prop) (E:aj->ax->Prop),Q (.bool (g i j)) s->aK (aL X.prog X.w) X.A (f (.int i t) (.int j u)) Q E s) :
  oC X f (nA λi j=>.bl (g i j)):=by
 intro pins s Z H x y v u Q I rx ry h;obtain ⟨i,j,rfl,rfl,q⟩:=h;obtain ⟨t,rfl⟩:=rx;obtain ⟨t',rfl⟩:=ry;exact Em i j t t' s _ _ ⟨.bl (g i j),H,I,rfl,q⟩
def OM (i j:Int):Prop:=0<=j/\j<=1000000/\i.natAbs<2^64
def xt (i j:Int):Prop:=(-(2^64)<i/\i<2^64)\/(-(2^64)<j/\j<2^64)
theorem xt.ok {i:Int}(h:xt i j):IntMulOk i j:=by
 rcases h with ⟨h1,h2⟩|⟨h1,h2⟩
 .exact .of_left (intBits_le_64 h1 h2)
 .exact .of_right (intBits_le_64 h1 h2)
theorem Vr:oC X (lB .Add) (nA λi j=>.int (i+j)):=RR λ_ _ _ _ _ _ _ q=>add_int q
theorem AI:oC X (lB .Sub) (nA λi j=>.int (i-j)):=RR λ_ _ _ _ _ _ _ q=>sub_int q
theorem Ko:oC X (lB .Mult) (rI xt λi j=>.int (i*j)):=Xp λ_ _ _ _ _ _ _ hc q=>mul_int q hc.ok
theorem u6:oC X (lB .Mod) (rI (λ_ j=>0<j) λi j=>.int (i%j)):=Xp λi j _ _ _ _ _ hc q=>by
 have h1:(0:Int)<j:=hc;exact mod_int' (by lia) (by rw [Int.fmod_eq_emod_of_nonneg i (by lia)];exact q)
theorem Fv:oC X (lB .Pow) (rI OM λi j=>.int (i^j.toNat)):=Xp λ_ _ _ _ _ _ _ hc q=>pow_int_small hc.1 hc.2.1 hc.2.2 q
theorem Fw:oC X (Au .Add) (nA λi j=>.int (i+j)):=RR λ_ _ _ _ _ _ _ q=>U0 q
theorem RU:oC X (Au .Sub) (nA λi j=>.int (i-j)):=RR λ_ _ _ _ _ _ _ q=>isub_int q
theorem RV:oC X (Au .Mult) (rI xt λi j=>.int (i*j)):=Xp λ_ _ _ _ _ _ _ hc q=>imul_int q hc.ok
theorem unI {f:aj->Xb aj}{g:Int->Int}
  (Em:∀ (i:Int) (t:TF) (s:ax) (Q:aj->ax->Prop) (E:aj->ax->Prop),Q (.int (g i) s.toks) { s with toks:=s.toks+1 }->aK (aL X.prog X.w) X.A (f (.int i t)) Q E s) :
  ZV X f (rU λi=>.int (g i)):=by
 intro pins s Z H x v Q I rx h;obtain ⟨i,rfl,q⟩:=h;obtain ⟨t,rfl⟩:=rx;exact Em i t s _ _ ⟨.int (g i),H,I.tok _,⟨_,rfl⟩,q⟩
theorem ON:ZV X (unaryOp .USub) (rU λi=>.int (-i)):=unI λ_ _ _ _ _ q=>neg_int q
end
def Xq:V->V->Bool
 | .non,.non=>true | .non,.int _=>true | .int _,.non=>true | .non,.bl _=>true | .bl _,.non=>true | .non,.str _=>true | .str _,.non=>true
 | .int _,.int _=>true | .bl _,.bl _=>true | .str _,.str _=>true | .byt _,.byt _=>true
 | .int _,.str _=>true | .str _,.int _=>true | .bl _,.str _=>true | .str _,.bl _=>true
 | _,_=>false
def rEq:R2:=λx y H Q=>Xq x y=true/\Q (.bl (decide (x=y))) H
def rNe:R2:=λx y H Q=>Xq x y=true/\Q (.bl (!decide (x=y))) H
theorem LS {i:Int}:decide (V.int i=V.int j)=(i == j):=by
 rw [iz];simp
theorem OO {i j:Bool}:decide (V.bl i=V.bl j)=(i == j):=by
 rw [iz];simp
theorem LU {i j:bD}:decide (V.str i=V.str j)=(i == j):=by
 rw [iz];simp
theorem LW {i j:Array UInt8}:decide (V.byt i=V.byt j)=(i.toList == j.toList):=by
 rw [iz];cases i;cases j;simp
section
variable {X:Cx}{a b:Expr}{ta tb tc:TE}
theorem eO {Z:St}{H:Hp}{Q:VK}{k k':Bool}(I:Inv X pins Z H s) (q:Q (.bl k) H) (e:k=k'):EP X pins Z Q (.bool k') s:=by
 subst e;exact ⟨.bl k,H,I,rfl,q⟩
theorem Xr:oC X (c8 .Eq) rEq:=by
 intro pins s Z H x y v u Q I rx ry h;obtain ⟨hs,q⟩:=h
 cases x with
 | non =>
  cases rx
  cases y with
  | non=>cases ry;exact PySem.EqNone.eq_none_none (eO I q (by simp))
  | bl j=>cases ry;exact PySem.EqNone.eq_none_bool (eO I q (by simp))
  | int j=>obtain ⟨t',rfl⟩:=ry;exact PySem.EqNone.eq_none_int (eO I q (by simp))
  | str j=>obtain ⟨t',rfl⟩:=ry;exact PySem.EqNone.eq_none_str (eO I q (by simp))
  | _=>exact absurd (show false=true from hs) bx
 | bl i =>
  cases rx
  cases y with
  | non=>cases ry;exact PySem.EqNone.eq_bool_none (eO I q (by simp))
  | bl j=>cases ry;exact eq_bool (eO I q OO)
  | str j=>obtain ⟨t',rfl⟩:=ry;exact PySem.EqMixed.eq_bool_str (eO I q (by simp))
  | _=>exact absurd (show false=true from hs) bx
 | int i =>
  obtain ⟨t,rfl⟩:=rx
  cases y with
  | non=>cases ry;exact PySem.EqNone.eq_int_none (eO I q (by simp))
  | int j=>obtain ⟨t',rfl⟩:=ry;exact eq_int (eO I q LS)
  | str j=>obtain ⟨t',rfl⟩:=ry;exact PySem.EqMixed.eq_int_str (eO I q (by simp))
  | _=>exact absurd (show false=true from hs) bx
 | str i =>
  obtain ⟨t,rfl⟩:=rx
  cases y with
  | non=>cases ry;exact PySem.EqNone.eq_str_none (eO I q (by simp))
  | bl j=>cases ry;exact PySem.EqMixed.eq_str_bool (eO I q (by simp))
  | int j=>obtain ⟨t',rfl⟩:=ry;exact PySem.EqMixed.eq_str_int (eO I q (by simp))
  | str j=>obtain ⟨t',rfl⟩:=ry;exact eq_str (eO I q LU)
  | _=>exact absurd (show false=true from hs) bx
 | byt i =>
  obtain ⟨t,rfl⟩:=rx
  cases y with
  | byt j=>obtain ⟨t',rfl⟩:=ry;exact PySem.W.eq_bytes (eO I q LW)
  | _=>exact absurd (show false=true from hs) bx
 | _=>cases y<;>exact absurd (show false=true from hs) bx
theorem Xs:oC X (c8 .NotEq) rNe:=by
 intro pins s Z H x y v u Q I rx ry h;obtain ⟨hs,q⟩:=h
 cases x with
 | non =>
  cases rx
  cases y with
  | non=>cases ry;exact PySem.EqNone.ne_none_none (eO I q (by simp))
  | bl j=>cases ry;exact PySem.EqNone.ne_none_bool (eO I q (by simp))
  | int j=>obtain ⟨t',rfl⟩:=ry;exact PySem.EqNone.ne_none_int (eO I q (by simp))
  | str j=>obtain ⟨t',rfl⟩:=ry;exact PySem.EqNone.ne_none_str (eO I q (by simp))
  | _=>exact absurd (show false=true from hs) bx
 | bl i =>
  cases rx
  cases y with
  | non=>cases ry;exact PySem.EqNone.ne_bool_none (eO I q (by simp))
  | bl j=>cases ry;exact ne_bool (eO I q (congrArg not OO))
  | str j=>obtain ⟨t',rfl⟩:=ry;exact PySem.EqMixed.ne_bool_str (eO I q (by simp))
  | _=>exact absurd (show false=true from hs) bx
 | int i =>
  obtain ⟨t,rfl⟩:=rx
  cases y with
  | non=>cases ry;exact PySem.EqNone.ne_int_none (eO I q (by simp))
  | int j=>obtain ⟨t',rfl⟩:=ry;exact ne_int (eO I q (congrArg not LS))
  | str j=>obtain ⟨t',rfl⟩:=ry;exact PySem.EqMixed.ne_int_str (eO I q (by simp))
  | _=>exact absurd (show false=true from hs) bx
 | str i =>
  obtain ⟨t,rfl⟩:=rx
  cases y with
  | non=>cases ry;exact PySem.EqNone.ne_str_none (eO I q (by simp))
  | bl j=>cases ry;exact PySem.EqMixed.ne_str_bool (eO I q (by simp))
  | int j=>obtain ⟨t',rfl⟩:=ry;exact PySem.EqMixed.ne_str_int (eO I q (by simp))
  | str j=>obtain ⟨t',rfl⟩:=ry;exact ne_str (eO I q (congrArg not LU))
  | _=>exact absurd (show false=true from hs) bx
 | byt i =>
  obtain ⟨t,rfl⟩:=rx
  cases y with
  | byt j=>obtain ⟨t',rfl⟩:=ry;exact PySem.W.ne_bytes (eO I q (congrArg not LW))
  | _=>exact absurd (show false=true from hs) bx
 | _=>cases y<;>exact absurd (show false=true from hs) bx
theorem Hz:oC X (c8 .Lt) (nA λi j=>.bl (decide (i<j))):=RT λ_ _ _ _ _ _ _ q=>RA q
theorem LX:oC X (c8 .LtE) (nA λi j=>.bl (decide (i<=j))):=RT λ_ _ _ _ _ _ _ q=>le_int q
theorem T3:oC X (c8 .Gt) (nA λi j=>.bl (decide (j<i))):=RT λ_ _ _ _ _ _ _ q=>gt_int q
theorem T7:oC X (c8 .GtE) (nA λi j=>.bl (decide (j<=i))):=RT λ_ _ _ _ _ _ _ q=>ge_int q
theorem oC.or {f:aj->aj->Xb aj}{r r':R2}(h:oC X f r) (h':oC X f r'):oC X f (λx y H Q=>r x y H Q\/r' x y H Q):=by
 intro pins s Z H x y v u Q I rx ry q
 rcases q with q|q
 .exact h pins s Z H x y v u Q I rx ry q
 .exact h' pins s Z H x y v u Q I rx ry q
theorem jm (b:Expr) {op:CmpOp}(h:op≠.In:=by decide) (h2:op≠.NotIn:=by decide):jL op b=false:=by
 have e1:(op == CmpOp.In)=false:=by cases op<;>first|rfl|exact absurd rfl h
 have e2:(op == CmpOp.NotIn)=false:=by cases op<;>first|rfl|exact absurd rfl h2
 cases b<;>simp [jL,e1,e2]
theorem RW {r:R2}(ho:oC X (c8 op) r) (ha:PE X a ta) (hb:PE X b tb) (hm:jL op b=false):PE X (.Compare a [op] [b] pos) (bY r ta tb):=by
 intro pins s Z H Q I h;exact wpAny_Compare1 (Vq ha hb I h λv u s2 x y H2 I2 rx ry q=>ho pins s2 Z H2 x y v u Q I2 rx ry q) hm
def cX (t:TE):TT:=λZ H Q=>t Z H λx H'=>∃ k,x=.bl k/\Q k H'
theorem gP {r:R2}(ho:oC X (c8 op) r) (ha:PE X a ta) (hb:PE X b tb) (hm:jL op b=false):PT X (.Compare a [op] [b] pos) (cX (bY r ta tb)):=by
 intro pins s Z H Q I h
 refine UZ (gR (ha pins s Z H _ I h) λv s1 ⟨x,H1,I1,r1,q1⟩=>gR (hb pins s1 Z H1 _ I1 q1) λu s2 ⟨y,H2,I2,r2,q2⟩ =>
  gR (ho pins s2 Z H2 x y v u _ I2 r1 r2 q2) λc s3 ⟨z,H3,I3,r3,k,e,q3⟩=>?_) hm
 subst e;cases r3;exact iN ⟨H3,I3,q3⟩
def Fx (r r':R2) (ta tb tc:TE):TE:=λZ H Q=>ta Z H λx H1=>tb Z H1 λy H2=>r x y H2 λz H3=>∃ k,z=.bl k /\
 (if k=true then tc Z H3 λw' H4=>r' y w' H4 Q else Q (.bl false) H3)
theorem HD {op':CmpOp}{r r':R2}(ho:oC X (c8 op) r) (ho':oC X (c8 op') r') (ha:PE X a ta) (hb:PE X b tb) (hc:PE X c tc)
  (hm:lastMarks [op,op'] [b,c]=false:=by with_unfolding_all rfl):PE X (.Compare a [op,op'] [b,c] pos) (Fx r r' ta tb tc):=by
 intro pins s Z H Q I h
 refine Compare_chain (gR (ha pins s Z H _ I h) λv s1 ⟨x,H1,I1,r1,q1⟩=>chain_link (gR (hb pins s1 Z H1 _ I1 q1) λu s2 ⟨y,H2,I2,r2,q2⟩ =>
  gR (ho pins s2 Z H2 x y v u _ I2 r1 r2 q2) λd s3 ⟨z,H3,I3,r3,k,e,q3⟩=>?_)) hm
 subst e;cases r3;refine iN ?_
 cases k with
 | false=>exact ite_ff ⟨.bl false,H3,I3,rfl,q3⟩
 | true=>exact ite_tt (chain_last (gR (hc pins s3 Z H3 _ I3 q3) λw' s4 ⟨z',H4,I4,r4,q4⟩=>ho' pins s4 Z H4 y z' u w' Q I4 r2 r4 q4))
def RX (K:aa) (x:V) (H:Hp) (k:Bool):Prop :=
 match x with
 | .non=>k=false
 | .bl b=>k=b
 | .int i=>k=(i != 0)
 | .str y=>y.length<=aU/\k=((y.length:Int) != 0)
 | .byt y=>y.size<=aU/\k=((y.size:Int) != 0)
 | .ref p=>(∃ xs,cL K H p xs/\k=!xs.isEmpty)\/(∃ xs,ie K H p xs/\k=!xs.isEmpty)\/∃ kvs,H p=some (.dK kvs)/\k=!kvs.isEmpty
 | _=>False
theorem Kp {κ:Type} {kvs:List (κ×V)}{vs:List (κ×aj)}(r:KV kvs vs):(!vs.isEmpty)=!kvs.isEmpty:=by
 cases r<;>rfl
theorem AJ {xs:List V}{its:List aj}(r:Vals xs its):(!its.toArray.isEmpty)=!xs.isEmpty:=by
 cases r<;>simp
theorem qM:(aU:Nat)<2^63:=by rw [tE];decide
theorem Vs:ZW X (λx H Q=>∃ k,RX X.K x H k/\Q k H):=by
 intro pins s Z H x v Q I rx h;obtain ⟨k,e,q⟩:=h;have hl:=qM;have hs:aU=16777216:=tE
 cases x with
 | non =>
  cases rx;have e':k=false:=e;subst e'
  exact truthy_none ⟨H,I,q⟩
 | bl b =>
  cases rx;have e':k=b:=e;subst e'
  exact iN ⟨H,I,q⟩
 | int i =>
  obtain ⟨t,rfl⟩:=rx;have e':k=(i != 0):=e;subst e'
  exact PySem.P.truthy_int ⟨H,I,q⟩
 | str y =>
  obtain ⟨t,rfl⟩:=rx;obtain ⟨hy,e'⟩:y.length<=aU/\k=((y.length:Int) != 0):=e;subst e'
  exact PySem.P.truthy_str (by lia) ⟨H,I.tok _,q⟩
 | byt y =>
  obtain ⟨t,rfl⟩:=rx;obtain ⟨hy,e'⟩:y.size<=aU/\k=((y.size:Int) != 0):=e;subst e'
  exact PySem.W.truthy_bytes (by lia) ⟨H,I.tok _,q⟩
 | ref p =>
  cases rx;have e':(∃ xs,cL X.K H p xs/\k=!xs.isEmpty)\/(∃ xs,ie X.K H p xs/\k=!xs.isEmpty)\/∃ kvs,H p=some (.dK kvs)/\k=!kvs.isEmpty:=e
  rcases e' with ⟨xs,hx,e'⟩|⟨xs,hx,e'⟩|⟨kvs,hx,e'⟩
  .subst e';obtain ⟨its,r,pl,hz⟩:=I.list hx;have hlen:=r.length;exact wpAny_truthy_list pl.isList (by simp only [aI];lia) ⟨H,I.tok _,by rw [AJ r];exact q⟩
  .subst e';obtain ⟨its,r,pl,hz⟩:=I.tuple hx;have hlen:=r.length;exact truthy_tuple pl (by simp only [aI];lia) ⟨H,I.tok _,by rw [AJ r];exact q⟩
  .subst e';obtain ⟨hz,hS,vs,r,m⟩:kvs.length<=aU/\(p == iY)=false/\∃ vs,KV kvs vs/\s.heap.DictOf (fi X.prog X.w) p vs:=I.eY p _ hx;have hlen:kvs.length=vs.length:=xB r
   exact wpAny_truthy_dict hS m (by lia) ⟨H,I.tok _,by rw [Kp r];exact q⟩
 | _=>exact (show False from e).elim
theorem OP (ha:PE X a ta) (he:∀ whole,isTrue a X.env whole=(do let v ← whole;qb a.pos;jC [v] (truthy v))) :
  PT X a (λZ H Q=>ta Z H λx H'=>∃ k,RX X.K x H' k/\Q k H'):=by
 intro pins s Z H Q I h;exact isTrue_plain (gR (ha pins s Z H _ I h) λv s1 ⟨x,H1,I1,r1,q1⟩=>Vs pins s1 Z H1 x v Q I1 r1 q1) (he _)
theorem vals1 {x:V}(r:Vals [x] us):∃ u,us=[u]/\RelV x u:=by
 cases r with
 | cons r1 r2=>cases r2;exact ⟨_,rfl,r1⟩
theorem vals2 {x y:V}(r:Vals [x,y] us):∃ u w',us=[u,w']/\RelV x u/\RelV y w':=by
 cases r with
 | cons r1 r2 =>
  cases r2 with
  | cons r3 r4=>cases r4;exact ⟨_,_,rfl,r1,r3⟩
theorem M7 (hc:X.calm=true):k8 X (.builtin "max") (λxs H Q=>∃ i j,xs=[.int i,.int j]/\Q (.int (if j>i then j else i)) H):=by
 intro pins s Z H xs us Q I r h;obtain ⟨i,j,rfl,q⟩:=h;obtain ⟨u,w',rfl,⟨t,rfl⟩,⟨t',rfl⟩⟩:=vals2 r
 refine max_two_ints (I.ok.hd hc) λh' tk k=>⟨_,H,I.kept k,?_,q⟩
 by_cases hj:j>i
 .rw [if_pos hj,if_pos hj];exact ⟨_,rfl⟩
 .rw [if_neg hj,if_neg hj];exact ⟨_,rfl⟩
theorem M8 (hc:X.calm=true):k8 X (.builtin "min") (λxs H Q=>∃ i j,xs=[.int i,.int j]/\Q (.int (if j<i then j else i)) H):=by
 intro pins s Z H xs us Q I r h;obtain ⟨i,j,rfl,q⟩:=h;obtain ⟨u,w',rfl,⟨t,rfl⟩,⟨t',rfl⟩⟩:=vals2 r
 refine min_two_ints (I.ok.hd hc) λh' tk k=>⟨_,H,I.kept k,?_,q⟩
 by_cases hj:j<i
 .rw [if_pos hj,if_pos hj];exact ⟨_,rfl⟩
 .rw [if_neg hj,if_neg hj];exact ⟨_,rfl⟩
theorem Eu:k8 X (.type "int") (λxs H Q=>(∃ i,xs=[.int i]/\Q (.int i) H)\/∃ k,xs=[.bl k]/\Q (.int (if k then 1 else 0)) H):=by
 intro pins s Z H xs us Q I r h
 rcases h with ⟨i,rfl,q⟩|⟨k,rfl,q⟩
 .obtain ⟨u,rfl,t,rfl⟩:=vals1 r;exact call_int_int ⟨.int i,H,I,⟨_,rfl⟩,q⟩
 .obtain ⟨u,rfl,r1⟩:=vals1 r;cases r1;exact call_int_bool ⟨.int (if k then 1 else 0),H,I.tok _,⟨_,rfl⟩,q⟩
end
structure LD (h:cK) (x dx C:ag) (mA:bD->Option aj):Prop where
 obj:h.get? x=some (ig C dx)
 ns:h.Ns1 dx mA
 ne:dx≠x
theorem M9 (n:h.Ns1 dx mA):∃ od,h.get? dx=some od/\∀ name,tZ name od=some (mA name):=by
 obtain ⟨o,es,ep,ho,hd,hk,_,hm⟩:=n;refine ⟨o,ho,λname=>?_⟩;have e:=hm name;unfold nsFind findBy at e;rw [← Array.find?_toList] at e;unfold tZ;rw [hd];dsimp only
 split
 .rename_i y q
  rw [q] at e;exact congrArg some e
 .rename_i q
  rw [q] at e
  have a:es.toList.any (·.refKey)=false:=by
   rw [List.any_eq_false];intro y hy;obtain ⟨z,t,hkey⟩:=hk y (Array.mem_toList_iff.mp hy);simp [DictEntry.refKey,hkey]
  have a':¬ es.toList.any (·.refKey)=true:=by rw [a];exact bx
  rw [if_neg a'];exact congrArg some e
theorem LD.look {x:ag}(I:LD h x dx C mA):∃ od,PySem.W.InstAt h x (ig C dx) C (some od)/\∀ name,tZ name od=some (mA name) :=
 let ⟨od,ho,hl⟩:=M9 I.ns
 ⟨od,⟨I.obj,rfl,rfl,ho⟩,hl⟩
section
variable {x:ag}
theorem RY {expr:Bool}(X:K.In s.heap) (I:LD s.heap x dx C mA) (hg:iK K C name=true) (hh:jl K C=true)
  (ha:bG K (.ref C) name=some none) (hv:mA name=some v) (hv':Ri v=true) (h:Q v { s with toks:=s.toks+1 }) :
  aK (aL prog w) A (getAttr (.ref x) name expr) Q E s:=by
 obtain ⟨od,J,hl⟩:=I.look;exact PySem.W.get_value X J (vB hg).1 (PySem.W.findObj_own hh ha rfl (by rw [hl,hv])) hv' h
theorem OQ {Q:aj×List aj->ax->Prop}(X:K.In s.heap) (I:LD s.heap x dx C mA) (hg:iK K C name=true)
  (hf:bG K (.ref C) name=some (some (.ref f))) (ht:qA K (.ref f)=true) (hv:mA name=none) (h:Q (.ref f,[.ref x]) s) :
  aK (aL prog w) A (vC (.ref x) name pl) Q E s:=by
 obtain ⟨od,J,hl⟩:=I.look;exact PySem.W.method_fn X J (vB hg).1 (vB hg).2 hf (beq_iff_eq.mp ht) (by show (tZ name od).map (·.isSome)=some false;rw [hl,hv];rfl) h
theorem RZ {ns:List bD}{Q:Unit->ax->Prop}(X:K.In s.heap) (I:LD s.heap x dx C mA)
  (hs:bG K (.ref C) "__setattr__"=some (some (.builtin "object.__setattr__"))) (hp:kQ K C=true) (ht:CL K C name=some none) (hh:jl K C=true)
  (hw:LG mA ns) (hsz:ns.length<=aU)
  (h:∀ h',LD h' x dx C (λy=>if y=name then some v else mA y)->gQ dx s.heap h'->Q () { s with heap:=h',toks:=s.toks+2 }) :
  aK (aL prog w) A (setAttr (.ref x) name v) Q E s:=by
 obtain ⟨od,J,hl⟩:=I.look;refine PySem.W.set_plain X J hs (PySem.W.osa_open (s:={ s with toks:=s.toks+1 }) (r:=none) X J hp ht λb=>?_);obtain ⟨cd,hc,hd'⟩:=PySem.W.any_some hh;have hx:s.heap.get? x=some ⟨.ref C,some dx,.plain,#[]⟩:=I.obj;refine ae (ar (ae (ae (wpAny_loadPart hx (ae (PySem.W.Looks.here (s:={ s with toks:=s.toks+1 }) (PySem.W.looks_clsIn X hc) ?_))))));rw [hd'];refine ar (a:=some dx) (ae (ar (ae ?_)));refine wpAny_nsSet1 (s:={ s with toks:=s.toks+1 }) I.ns λh' hn2 hs2=>?_;obtain ⟨oD,esD,epD,hoD,hdD,hcD⟩:=hn2.count (PySem.Within.cons name v hw);refine ae (wpAny_lookBehind hoD (by rw [hdD];exact pastItsLine_dict (bA hcD (by rw [bI];lia))) ?_);exact ar (h _ ⟨(hs2.2 _ (Ne.symm I.ne)).trans I.obj,hn2,I.ne⟩ hs2)
theorem OR {R:N2->ax->Prop}{vs:List aj}(X:K.In s.heap) (hm:j8 K C=true)
  (hi:bG K (.ref C) "__init__"=some (some (.ref f))) (hf:PySem.W.typeIn K (.ref f)=some (.type "function"))
  (h:jS (aL prog w) (A.under (.builtin "type.__call__" ⟨.ref C::vs,kw⟩)) (.call (.ref f) ⟨.ref (s.heap.objs.size+1)::vs,kw⟩) (PySem.W.InitBack (s.heap.objs.size+1) R)
   { s with heap:=(s.heap.push eZ).push (ig C s.heap.objs.size) }) :
  jS (aL prog w) A (.call (.ref C) ⟨vs,kw⟩) R s:=by
 obtain ⟨hh,g,d,t,os⟩:=s;exact PySem.W.make_core (PySem.W.makes_of X hm) (PySem.W.looks_findIn X hi) (λself=>PySem.W.bind_fn X self hf) (.inl rfl) h
end
def dP (f:bD) (v:V):List (bD×V)->List (bD×V)
 | []=>[(f,v)]
 | (g,x)::r=>if g=f then (g,v)::r else (g,x)::dP f v r
theorem e9 (f g:bD) (v:V):∀ fs:List (bD×V),(dP f v fs).lookup g=if g=f then some v else fs.lookup g
 | []=>by
  show dC g [(f,v)]=_
  by_cases h:g=f
  .have hb:(g == f)=true:=beq_iff_eq.mpr h;simp only [dC,hb,if_pos h]
  .have hb:(g == f)=false:=beq_eq_false_iff_ne.mpr h
   simp only [dC,hb,if_neg h]
 | (k,x)::r=>by
  have ih:=e9 f g v r;rw [show dP f v ((k,x)::r)=(if k=f then (k,v)::r else (k,x)::dP f v r) from rfl]
  by_cases hk:k=f
  .rw [if_pos hk]
   by_cases h:g=k
   .have hb:(g == k)=true:=beq_iff_eq.mpr h;simp only [dC,hb,if_pos (h.trans hk)]
   .have hb:(g == k)=false:=beq_eq_false_iff_ne.mpr h;simp only [dC,hb,if_neg (λe:g=f=>h (e.trans hk.symm))]
  .rw [if_neg hk]
   by_cases h:g=k
   .have hb:(g == k)=true:=beq_iff_eq.mpr h;simp only [dC,hb,if_neg (λe:g=f=>hk (h.symm.trans e))]
   .have hb:(g == k)=false:=beq_eq_false_iff_ne.mpr h;simp only [dC,hb];exact ih
theorem xW (f:bD) (v:V):∀ fs:List (bD×V),f∈(dP f v fs).map (·.1)/\∀ g,g∈fs.map (·.1)->g∈(dP f v fs).map (·.1)
 | []=>⟨by simp [dP],λg h=>by simp at h⟩
 | (k,x)::r=>by
  obtain ⟨i1,i2⟩:=xW f v r;rw [show dP f v ((k,x)::r)=(if k=f then (k,v)::r else (k,x)::dP f v r) from rfl]
  by_cases hk:k=f
  .rw [if_pos hk];subst hk;exact ⟨by simp,λg h=>by simpa using h⟩
  .rw [if_neg hk];refine ⟨?_,λg h=>?_⟩
   .rw [aW];exact ai _ i1
   .rw [aW] at h ⊢
    rcases au.mp h with e|e
    .exact au.mpr (.inl e)
    .exact ai _ (i2 g e)
theorem yM (f:bD) (v:V):∀ fs:List (bD×V),(dP f v fs).length<=fs.length+1
 | []=>by simp [dP]
 | (k,x)::r=>by
  have ih:=yM f v r;rw [show dP f v ((k,x)::r)=(if k=f then (k,v)::r else (k,x)::dP f v r) from rfl]
  by_cases hk:k=f
  .rw [if_pos hk,bI,bI];lia
  .rw [if_neg hk,bI,bI];lia
theorem sS.some_of {v:V}{o:Option aj}(r:sS (some v) o):∃ u,o=some u/\RelV v u:=by
 cases o with
 | none=>exact (show False from r).elim
 | some u=>exact ⟨u,rfl,r⟩
theorem sS.none_of {o:Option aj}(r:sS none o):o=none:=by
 cases o with
 | none=>rfl
 | some u=>exact (show False from r).elim
theorem Na {v:V}(r:RelV v u):Ri u=true:=by
 cases v with
 | non=>cases (show u=eP from r);rfl
 | bl b=>cases (show u=ow b from r);rfl
 | int i=>obtain ⟨t,e⟩:=(show ∃ t,u=fj i t from r);cases e;rfl
 | str x=>obtain ⟨t,e⟩:=(show ∃ t,u=qy x t from r);cases e;rfl
 | byt b=>obtain ⟨t,e⟩:=(show ∃ t,u=Value.bytes b t from r);cases e;rfl
 | flt b=>obtain ⟨t,e⟩:=(show ∃ t,u=NZ b t from r);cases e;rfl
 | ref a=>cases (show u=aB a from r);rfl
 | ty n=>cases (show u=eQ n from r);rfl
section
variable {H H':Hp}{fs fs':List (bD×V)}
theorem Am (eY:qx P w H h) (e:H a=some (.ins C dx fs)):∃ mA,LD h a dx C mA/\(∀ f,sS (fs.lookup f) (mA f))/\LG mA (fs.map (·.1))/\fs.length<=1000/\H dx=some (.own a):=by
 obtain ⟨d,z,ne,ob,mA,n,r,q⟩:=(show eX P w H h a (.ins C dx fs) from eY a _ e)
 exact ⟨mA,⟨ob,n,ne⟩,r,q,z,d⟩
end
structure CU (K:aa) (C:ag):Prop where
 pg:iK K C MU=true
 hd:jl K C=true
 po:kQ K C=true
 sa:bG K (.ref C) "__setattr__"=some (some (.builtin "object.__setattr__"))
theorem CU.get (c:CU K C) (f:bD):iK K C f=true:=c.pg
def dA (K:aa) (C:ag) (f:bD):Prop:=bG K (.ref C) f=some none
theorem dA.YS {f:bD}(n:dA K C f):CL K C f=some none:=by
 unfold CL;rw [show bG K (.ref C) f=some none from n]
 rfl
structure R3 (K:aa) (C:ag) (m:bD) (f:ag):Prop where
 at_:bG K (.ref C) m=some (some (.ref f))
 fn:qA K (.ref f)=true
 kp:dN K (.ref f)=true
section
variable {X:Cx}{Z:St}{H:Hp}{fs:List (bD×V)}{f:bD}{v:V}
theorem AK {b:Bool}(I:Inv X pins Z H s) (e:H a=some (.ins C dx fs)) (c:CU X.K C) (n:dA X.K C f) (l:fs.lookup f=some v)
  (h:∀ u s',Inv X pins Z H s'->RelV v u->Q u s'):aK (aL X.prog X.w) A (getAttr (.ref a) f b) Q E s:=by
 obtain ⟨mA,O,r,_,_,_⟩:=Am I.eY e;obtain ⟨u,hu,ru⟩:=sS.some_of (v:=v) (o:=mA f) (by rw [← l];exact r f);exact RY I.xJ O (c.get f) c.hd n hu (Na ru) (h u _ (I.tok _) ru)
theorem AM {g:ag}{Q:aj×List aj->ax->Prop}(I:Inv X pins Z H s) (e:H a=some (.ins C dx fs)) (c:CU X.K C) (k:R3 X.K C m g) (l:fs.lookup m=none)
  (h:Q (.ref g,[.ref a]) s):aK (aL X.prog X.w) A (vC (.ref a) m pl) Q E s:=by
 obtain ⟨mA,O,r,_,_,_⟩:=Am I.eY e;have hn:mA m=none:=sS.none_of (by rw [← l];exact r m);exact OQ I.xJ O (c.get m) k.at_ k.fn hn h
theorem AN {y:V}{Q:Unit->ax->Prop}(I:Inv X pins Z H s) (e:H a=some (.ins C dx fs)) (c:CU X.K C) (n:dA X.K C f) (hl:fs.length<1000) (ry:RelV y u)
  (h:∀ s',Inv X pins Z (upd H a (.ins C dx (dP f y fs))) s'->Q () s'):aK (aL X.prog X.w) A (setAttr (.ref a) f u) Q E s:=by
 obtain ⟨mA,O,r,wi,_,ho⟩:=Am I.eY e
 have hz:(fs.map (·.1)).length<=aU:=by rw [af,tE];lia
 refine RZ I.xJ O c.sa c.po n.YS c.hd wi hz λh' O' sb=>h _ ?_
 have hd:∃ o,h'.get? dx=some o:=let ⟨o,_,_,e',_⟩:=O'.ns;⟨o,e'⟩
 refine I.write (x:=a) (e:=dx) (by rw [e];exact iI) (.inr ho) (λb q hb z=>(sb.2 b hb).trans z) hd ?_;refine ⟨by rw [aG O.ne];exact ho,?_,O.ne,O'.obj,_,O'.ns,λg=>?_,λg hg=>?_⟩
 .have:=yM f y fs;lia
 .show sS ((dP f y fs).lookup g) (if g=f then some u else mA g)
  rw [e9]
  by_cases q:g=f
  .rw [if_pos q,if_pos q];exact ry
  .rw [if_neg q,if_neg q];exact r g
 .by_cases q:g=f
  .rw [q];exact (xW f y fs).1
  .refine (xW f y fs).2 g (wi g λz=>hg ?_)
   show (if g=f then some u else mA g)=none
   rw [if_neg q];exact z
theorem Inv.made (I:Inv X pins Z H s):Inv X pins Z (upd (upd H s.heap.objs.size (.own (s.heap.objs.size+1))) (s.heap.objs.size+1) (.ins C s.heap.objs.size []))
  { s with heap:=(s.heap.push eZ).push (ig C s.heap.objs.size) }:=by
 have e1:(s.heap.push eZ).get? s.heap.objs.size=some eZ:=aJ s.heap rfl
 have e2:((s.heap.push eZ).push (ig C s.heap.objs.size)).get? (s.heap.objs.size+1)=some (ig C s.heap.objs.size):=by
  have:=aJ (s.heap.push eZ) (o:=ig C s.heap.objs.size) rfl
  rwa [iR] at this
 have e3:(s.heap.push eZ).Ns s.heap.objs.size (λ_=>none):=⟨eZ,#[],_,e1,rfl,(λe he=>absurd he (by simp)),λ_=>rfl⟩
 have I1:=I.laid (a:=s.heap.objs.size) (o:=.own (s.heap.objs.size+1)) (h':=s.heap.push eZ) (t':=s.toks) (λb u q=>aq _ q) (ak _) ⟨_,e1⟩;refine I1.laid (a:=s.heap.objs.size+1) (o:=.ins C s.heap.objs.size []) (t':=s.toks) (λb u q=>aq _ q) (jW (iR _ _)) ?_;have ne:s.heap.objs.size≠s.heap.objs.size+1:=a6 (i4 _);refine ⟨by rw [aG ne,aE],aM _,ne,e2,λ_=>none,(Heap.Ns1.of_empty e3).at λo q=>aq _ q,λ_=>iI,λy hy=>absurd rfl hy⟩
theorem R5 {env:He}{f:bD}(hb:t7 e f env (eJ e env)=eJ e env)
  (h:aK (aL prog w) A (eJ e env) (λo s₁=>aK (aL prog w) A (getAttr o f true) Q E s₁) E s):aK (aL prog w) A (eJ (.Attribute e f pos) env) Q E s :=
 Attribute_any_ h (by rw [arm_eval_Attribute,hb])
end
def eG (K:aa) (ta:TE) (f:bD):TE:=λZ H Q=>ta Z H λx H1=>∃ a C dx fs v,x=.ref a/\H1 a=some (.ins C dx fs)/\CU K C/\dA K C f/\fs.lookup f=some v/\Q v H1
def tN (K:aa) (ta tv:TE) (f:bD):TS:=λD Z H=>tv Z H λy H1=>ta Z H1 λx H2=>∃ a C dx fs,x=.ref a/\H2 a=some (.ins C dx fs)/\CU K C/\dA K C f/\fs.length<1000 /\
 D.nx Z (upd H2 a (.ins C dx (dP f y fs)))
def Vt (X:Cx) (op:Aa) (rd:V->V->Hp->VK->Prop):Prop :=
 ∀ (pins:List (ag×jk)) (s:ax) (Z:St) (H:Hp) (x y:V) (u v:aj) (Q:VK),Inv X pins Z H s->RelV x u->RelV y v->rd x y H Q->aK (aL X.prog X.w) X.A (Au op u v) (EP X pins Z Q) X.xe s
def tj (K:aa) (ta tv:TE) (rd:V->V->Hp->VK->Prop) (f:bD):TS:=λD Z H=>ta Z H λx H1=>∃ a C dx fs v,x=.ref a/\H1 a=some (.ins C dx fs)/\CU K C/\dA K C f/\fs.lookup f=some v /\
 tv Z H1 λy H2=>rd v y H2 λz H3=>∃ dx' fs',H3 a=some (.ins C dx' fs')/\fs'.length<1000/\D.nx Z (upd H3 a (.ins C dx' (dP f z fs')))
section
variable {X:Cx}{o value:Expr}{f:bD}{tpos:sT}{ta tv:TE}
theorem Vu (he:PE X e ta) (hb:t7 e f X.env (eJ e X.env)=eJ e X.env):PE X (.Attribute e f pos) (eG X.K ta f):=by
 intro pins s Z H Q I h;refine R5 hb (gR (he pins s Z H _ I h) λu s1 ⟨x,H1,I1,rx,a,C,dx,fs,v,ex,ea,c,n,l,q⟩=>?_);subst ex;obtain rfl:u=aB a:=rx
 exact AK I1 ea c n l λu' s2 I2 ru=>⟨v,H1,I2,ru,q⟩
theorem Fy (ha:PE X o ta) (hv:PE X value tv) (hs:As value (some (.Attribute o f pos')) pos.line X.env=pure false):PS X (.Assign [.Attribute o f pos'] value pos) (tN X.K ta tv f):=by
 intro pins s Z H D I h;refine plainObj_wpAny_Assign_Attribute (gR (hv pins s Z H _ I h) λu s1 ⟨y,H1,I1,ry,q⟩=>gR (ha pins s1 Z H1 _ I1 q) λov s2 ⟨x,H2,I2,rx,a,C,dx,fs,ex,ea,c,n,l,q2⟩=>?_) hs;subst ex;obtain rfl:ov=aB a:=rx
 exact AN I2 ea c n l ry λs3 I3=>⟨Z,_,I3,q2⟩
theorem tm {op:Aa}{rd:V->V->Hp->VK->Prop}(ha:PE X o ta) (hv:PE X value tv) (hop:Vt X op rd):PS X (.AugAssign (.Attribute o f tpos) op value pos) (tj X.K ta tv rd f):=by
 intro pins s Z H D I h;refine wpAny_AugAssign_AttributeAny (gR (ha pins s Z H _ I h) λov s1 ⟨x,H1,I1,rx,a,C,dx,fs,v,ex,ea,c,n,l,q⟩=>?_);subst ex;obtain rfl:ov=aB a:=rx;refine AK I1 ea c n l λu s2 I2 ru=>gR (hv pins s2 Z H1 _ I2 q) λw3 s3 ⟨y,H2,I3,ry,q3⟩=>gR (hop pins s3 Z H2 v y u w3 _ I3 ru ry q3) λw4 s4 ⟨z,H3,I4,rz,dx',fs',ea',l',q4⟩=>?_
 exact AN I4 ea' c n l' rz λs5 I5=>⟨Z,_,I5,q4⟩
def Nb:V->V->Hp->VK->Prop:=λx y H Q=>∃ i j,x=.int i/\y=.int j/\Q (.int (i+j)) H
theorem AO:Vt X .Add Nb:=by
 rintro pins s Z H x y u v Q I rx ry ⟨i,j,rfl,rfl,q⟩
 obtain ⟨t,rfl⟩:=(show ∃ t,u=fj i t from rx)
 obtain ⟨t',rfl⟩:=(show ∃ t',v=fj j t' from ry)
 exact U0 ⟨.int (i+j),H,I.tok _,⟨_,rfl⟩,q⟩
end
section
variable {X:Cx}{Z:St}{H:Hp}{c:aj}{b:Bool}
inductive vQ (K:aa) (H:Hp):V->aj->Prop where
 | non:vQ K H .non (.type "NoneType")
 | bl (x:Bool):vQ K H (.bl x) (.type "bool")
 | int (i:Int):vQ K H (.int i) (.type "int")
 | str (x:bD):vQ K H (.str x) (.type "str")
 | flt (x:UInt64):vQ K H (.flt x) (.type "float")
 | lst {a:ag}{xs:List V}(e:H a=some (.lst xs)):vQ K H (.ref a) (.type "list")
 | frz {a:ag}{o:jk}{xs:List V}(e:H a=some (.frz o (.lst xs))):vQ K H (.ref a) (.type "list")
 | tup {a:ag}{xs:List V}(e:H a=some (.tup xs)):vQ K H (.ref a) (.type "tuple")
 | dK {a:ag}{kvs:List (gG×V)}(e:H a=some (.dK kvs)):vQ K H (.ref a) (.type "dict")
 | dT {a:ag}{kvs:List (List gG×V)}(e:H a=some (.dT kvs)):vQ K H (.ref a) (.type "dict")
 | ins {a C dx:ag}{fs:List (bD×V)}(e:H a=some (.ins C dx fs)) (cl:CU K C) (ha:bG K (.ref C) "__class__"=some (some (.builtin "object.__class__")))
   (hn:yJ K (.builtin "object.__class__") "__get__"=some (some (.builtin "getset_descriptor.__get__"))) (htk:PySem.W.takesIn K (.builtin "object.__class__")=some true)
   (hm:PySem.W.mroIn K C (.type "object")=some true):vQ K H (.ref a) (.ref C)
theorem Nc {x:V}{t:aj}(I:Inv X pins Z H s) (rx:RelV x u) (ty:vQ X.K H x t) (e:kR X.K t c=some b) (h:∀ tk,Q (.bool b) { s with toks:=tk }) :
  aK (aL X.prog X.w) A (call (.builtin "isinstance") [u,c]) Q E s:=by
 cases ty with
 | non=>cases (show u=eP from rx);exact eK PySem.W.kitx_none I.xJ iI e (λz=>nomatch z) h
 | bl y=>cases (show u=ow y from rx);exact eK PySem.W.kitx_bool I.xJ iI e (λz=>nomatch z) h
 | int i=>obtain ⟨t,q⟩:=(show ∃ t,u=fj i t from rx);cases q;exact eK PySem.W.kitx_int I.xJ iI e (λz=>nomatch z) h
 | str y=>obtain ⟨t,q⟩:=(show ∃ t,u=qy y t from rx);cases q;exact eK PySem.W.kitx_str I.xJ iI e (λz=>nomatch z) h
 | flt y=>obtain ⟨t,q⟩:=(show ∃ t,u=NZ y t from rx);cases q;exact eK PySem.W.kitx_float I.xJ iI e (λz=>nomatch z) h
 | @lst a xs ea =>
  cases (show u=aB a from rx)
  obtain ⟨_,_,n,_,h1⟩:=(show eX X.prog X.w H s.heap a (.lst xs) from I.eY a _ ea)
  exact eK Ov I.xJ ⟨_,h1,rfl⟩ e (λz=>nomatch z) h
 | @frz a ob xs ea =>
  cases (show u=aB a from rx)
  obtain ⟨_,_,_,n,_,h1⟩:=(show eX X.prog X.w H s.heap a (.frz ob (.lst xs)) from I.eY a _ ea)
  exact eK Ov I.xJ ⟨_,h1,rfl⟩ e (λz=>nomatch z) h
 | @tup a xs ea =>
  cases (show u=aB a from rx)
  obtain ⟨_,_,_,p⟩:=(show eX X.prog X.w H s.heap a (.tup xs) from I.eY a _ ea)
  obtain ⟨o,h1,h2,_⟩:=p
  exact eK PySem.W.kitx_tuple I.xJ ⟨o,h1,h2⟩ e (λz=>nomatch z) h
 | @dK a kvs ea =>
  cases (show u=aB a from rx)
  obtain ⟨_,_,vs,_,p⟩:=(show eX X.prog X.w H s.heap a (.dK kvs) from I.eY a _ ea)
  obtain ⟨o,es,ep,h1,h2,_⟩:=p
  exact eK Ow I.xJ ⟨o,h1,h2.1⟩ e (λz=>nomatch z) h
 | @dT a kvs ea =>
  cases (show u=aB a from rx)
  obtain ⟨_,_,xs,_,o,es,ep,h1,h2,_⟩:=(show eX X.prog X.w H s.heap a (.dT kvs) from I.eY a _ ea)
  exact eK Ow I.xJ ⟨o,h1,h2.1⟩ e (λz=>nomatch z) h
 | @ins a C dx fs ea cl ha hn htk hm =>
  cases (show u=aB a from rx);obtain ⟨mA,O,_⟩:=Am I.eY ea;obtain ⟨od,J,_⟩:=O.look;exact eK (PySem.W.kitx_own (cl.get _) cl.hd ha hn htk hm) I.xJ J e (λz=>nomatch z) h
end
structure gU (k:Nat) (A:cM):Prop where
 hd:A.handled=none
 dp:A.depth+3*k+5<qB
 un:A.units+16*k+200<gY
theorem gU.mono {j:Nat}(r:gU k A) (h:j<=k):gU j A:=⟨r.hd,by have:=r.dp;lia,by have:=r.un;lia⟩
theorem gU.deeper (r:gU (k+1) A) (env:He):gU k (A.deeper env) :=
 ⟨r.hd,by have:=r.dp;show A.depth+1+3*k+5<_;lia,by have:=r.un;show A.units+3+16*k+200<_;lia⟩
theorem Kq:(A.under (.builtin "type.__call__" ⟨.ref C::us,kw⟩)).depth=A.depth+1:=by
 first|rfl|simp [Ka,Code.weight,Code.isCreation,Code.isGuard,Code.isCaller,Code.frames,MV,guardIds]
theorem Kr:(A.under (.builtin "type.__call__" ⟨.ref C::us,kw⟩)).units=A.units+1:=by
 first|rfl|simp [Ka,Code.cUnits,Code.frames,MV]
theorem gU.make (r:gU (k+1) A) (C:ag) (us:List aj) (kw:List (bD×aj)):gU k (A.under (.builtin "type.__call__" ⟨.ref C::us,kw⟩)) :=
 ⟨r.hd,by have:=r.dp;rw [Kq];lia,by have:=r.un;rw [Kr];lia⟩
theorem gU.depth (r:gU k A):A.depth<qB:=by have:=r.dp;lia
theorem gU.units (r:gU k A):A.units+64<gY:=by have:=r.un;lia
def aY:TA:=λ_ H Q=>Q [] H
def av (ta:TE) (tr:TA):TA:=λZ H Q=>ta Z H λx H1=>tr Z H1 λxs H2=>Q (x::xs) H2
section
variable {X:Cx}{te:TE}{t:TA}
theorem dI:PA X [] aY:=λ_ _ _ _ H Q I h=>lC ⟨[],H,I,.nil,h⟩
theorem b9 (ha:PE X e te) (hr:PA X es t) (hs:bu (e::es) X.env=(false,eJ e X.env)::bu es X.env:=by rfl):PA X (e::es) (av te t):=by
 intro pos pins s Z H Q I h;rw [hs]
 show aK _ _ (spliced ((false,eJ e X.env)::fS pos (bu es X.env))) _ _ s
 refine gZ (gR (ha pins s Z H _ I h) λu s1 ⟨x,H1,I1,r1,q1⟩=>?_)
 exact gR (hr pos pins s1 Z H1 _ I1 q1) λus s2 ⟨xs,H2,I2,r2,q2⟩=>⟨x::xs,H2,I2,.cons r1 r2,q2⟩
def lh (t:TA):TE:=λZ H Q=>t Z H λxs H1=>xs.length<=aU/\∀ p,H1 p=none->Q (.ref p) (upd H1 p (.tup xs))
def u7 (t:TA):TE:=λZ H Q=>t Z H λxs H1=>xs.length<=aU/\∀ p,H1 p=none->Q (.ref p) (upd H1 p (.lst xs))
theorem qN {x1} (h:PA X es t):PE X (.Tuple es x1 pos) (lh t):=by
 intro pins s Z H Q I hq;refine CM (gR (h pos pins s Z H _ I hq) λus s1 ⟨xs,H1,I1,r,z,q⟩=>⟨by rw [← r.length];exact z,?_⟩);have hf:H1 s1.heap.objs.size=none:=I1.eY.fresh (ak _);refine ⟨.ref s1.heap.objs.size,upd H1 s1.heap.objs.size (.tup xs),I1.laid (t':=s1.toks) (λb u e=>aq _ e) (ak _) ?_,rfl,q _ hf⟩;exact ⟨z,us,r,⟨_,aJ _ rfl,rfl,_,rfl⟩⟩
theorem Kt (h:PA X es t):PE X (.List es pos) (u7 t):=by
 intro pins s Z H Q I hq;refine wpAny_List_spliced (gR (h pos pins s Z H _ I hq) λus s1 ⟨xs,H1,I1,r,z,q⟩=>⟨by rw [← r.length];exact z,?_⟩);have hf:H1 s1.heap.objs.size=none:=I1.eY.fresh (ak _);refine ⟨.ref s1.heap.objs.size,upd H1 s1.heap.objs.size (.lst xs),I1.laid (t':=s1.toks) (λb u e=>aq _ e) (ak _) ?_,rfl,q _ hf⟩;exact ⟨z,us,0,r,aJ _ rfl⟩
end
abbrev Sp:=List V->Hp->VK->XK->Prop
abbrev HE:=List He->Hp->ax->XK->aj->ax->Prop
structure Lz (P:bB) (w:ck) (K:aa) (mg:bD->Option aj) (base:cK) (A:cM) (outer:List He) (s:ax) (H:Hp):Prop where
 frames:A.frames=some outer
 mod:Mod K mg base
 bs:∀ b o,base.get? b=some o->s.heap.get? b=some o/\H b=none
 Q9:base.objs.size<=s.heap.objs.size
 yE:s.heap.FunFrames base outer
 UU:∀ b∈NU outer,H b=none
 eY:qx P w H s.heap
 bare:xC s.gens
def CE (outer:List He) (P:bB) (w:ck) (H:Hp) (s:ax) (Q:VK) (u:aj) (s':ax):Prop :=
 ∃ v H',s'.os=s.os/\xC s'.gens/\Un (NU outer) [] H H' s.heap s'.heap/\qx P w H' s'.heap/\RelV v u/\Q v H'
def CR (CX:HE) (outer:List He) (P:bB) (w:ck) (H:Hp) (s:ax) (Q:VK) (E:XK) (r:N2) (s':ax):Prop :=
 match r with
 | .ok (.ret u)=>CE outer P w H s Q u s'
 | .ok _=>False
 | .error e=>CX outer H s E e s'
structure kF (P:bB) (w:ck) (K:aa) (mg:bD->Option aj) (base:cK) (CX:HE) (k:Nat) (f:ag) (fd:fz) (ps:List bD) (sp:Sp):Prop where
 len:∀ vs H Q E,sp vs H Q E->vs.length=ps.length
 run:∀ (A:cM) (outer:List He) (s:ax) (H:Hp) (args:Args) (us:List aj) (vs:List V) (Q:VK) (E:XK),gU k A->Lz P w K mg base A outer s H->GT s fd args (ps.zip us)->Vals vs us->sp vs H Q E ->
  jS (aL P w) A (.call (.ref f) args) (CR CX outer P w H s Q E) s
theorem Lz.make {H:Hp}(e:Lz P w K mg base A outer s H) (C:ag) (us:List aj) (kw:List (bD×aj)) :
  Lz P w K mg base (A.under (.builtin "type.__call__" ⟨.ref C::us,kw⟩)) outer s H:=⟨by first|exact e.frames|(simpa [Ka,Code.envs,MV,pushEnvs] using e.frames),e.mod,e.bs,e.Q9,e.yE,e.UU,e.eY,e.bare⟩
section
variable {X:Cx}{Z:St}{H:Hp}
theorem Inv.YR (I:Inv X pins Z H s):Lz X.prog X.w X.K X.mg X.base X.A X.stack s H :=
 ⟨I.ok.frames,I.ok.mod,I.bs,bA I.ok.Q9 I.sz,I.stack,I.MR,I.eY,I.bare⟩
theorem Inv.after {Q:VK}(I:Inv X pins Z H s) (h:CE X.stack X.prog X.w H s Q u s'):EP X pins Z Q u s':=by
 obtain ⟨v,H',os,bare,un,eY,r,q⟩:=h;obtain ⟨hh,g,d,t,os'⟩:=s';obtain rfl:os'=s.os:=os;exact ⟨v,H',I.call (h':=hh) (g':=g) (d':=d) (t':=t) (ch:=[]) un eY bare (λb z=>absurd z (by simp)),r,q⟩
end
def cR (sp:Sp) (dvs:List V) (E:XK) (t:TA):TE:=λZ H Q=>t Z H λvs H1=>sp (vs++dvs) H1 Q E
def fc (C:ag) (m:bD) (sp:Sp) (dvs:List V) (E:XK) (ta:TE) (t:TA):TE:=λZ H Q=>ta Z H λx H1=>∃ a dx fs,x=.ref a/\H1 a=some (.ins C dx fs)/\fs.lookup m=none /\
 t Z H1 λvs H2=>sp (x::(vs++dvs)) H2 Q E
def HF (C:ag) (sp:Sp) (dvs:List V) (E:XK) (t:TA):TE:=λZ H Q=>t Z H λvs H1=>∀ x dx,H1 x=none->H1 dx=none->dx≠x ->
 sp (.ref x::(vs++dvs)) (upd (upd H1 dx (.own x)) x (.ins C dx [])) (λv H2=>v=.non/\Q (.ref x) H2) E
def Binds (K:aa) (fd:fz) (ps:List bD) (ds:List aj):Prop :=
 ∀ (s:ax) (us:List aj),K.In s.heap->(us++ds).length=ps.length->GT s fd ⟨us,[]⟩ (ps.zip (us++ds))
theorem Binds.all (h:∀ us:List aj,us.length=ps.length->Ab fd ⟨us,[]⟩=pure (ps.zip us)):Binds K fd ps []:=λs us _ hl=>by
 rw [ua] at hl ⊢;exact .of_eq (h us hl)
def mW (CX:HE) (X:Cx) (E:XK):Prop:=∀ (pins:List (ag×jk)) (Z:St) (H:Hp) (s:ax) (e:aj) (s':ax),Inv X pins Z H s->CX X.stack H s E e s'->X.xe e s'
section
variable {X:Cx}{CX:HE}{sp:Sp}{dvs:List V}{ds:List aj}{E:XK}{o:Expr}{ta:TE}{t:TA}
theorem Fz {Z:St}{H:Hp}{Q:VK}{vs:List V}(F:kF X.prog X.w X.K X.mg X.base CX k f fd ps sp) (hr:gU k X.A) (hb:Binds X.K fd ps ds) (hd:Vals dvs ds) (hx:mW CX X E)
  (I:Inv X pins Z H s) (r:Vals vs us) (h:sp (vs++dvs) H Q E):aK (aL X.prog X.w) X.A (call (.ref f) us) (EP X pins Z Q) X.xe s:=by
 have r2:Vals (vs++dvs) (us++ds):=r.append hd
 have hl:(us++ds).length=ps.length:=by rw [← r2.length];exact F.len _ _ _ _ h
 refine N3 (mJ (F.run X.A X.stack s H ⟨us,[]⟩ (us++ds) (vs++dvs) Q E hr I.YR (hb s us I.xJ hl) r2 h) λr s' hq=>?_)
 cases r with
 | error e=>exact hx pins Z H s e s' I hq
 | ok fl =>
  cases fl with
  | ret u=>exact I.after hq
  | next=>exact gX hq
  | brk=>exact gX hq
  | cont=>exact gX hq
theorem R6 (F:kF X.prog X.w X.K X.mg X.base CX k f fd ps sp) (hr:gU k X.A) (hg:Gl X x) (hm:X.mg x=some (.ref f)) (hk:dN X.K (.ref f)=true) (hb:Binds X.K fd ps ds) (hd:Vals dvs ds) (hx:mW CX X E)
  (ha:PA X (e::es) t) (hdb:(x == ("__debug__":bD))=false:=by decide) (he:bu (e::es) X.env=(false,eJ e X.env)::bu es X.env:=by rfl) (hpl:(fS pos (bu es X.env)).any (·.1)=false:=by rfl) :
  PE X (.Call (.Name x p) (e::es) [] pos) (cR sp dvs E t):=by
 intro pins s Z H Q I h;refine dZ (Fo I hg hm ?_ hdb);refine nJ (h₀:=X.base) I.ok.mod.Xa hk (gR (ha pos pins s Z H _ I h) λus s1 ⟨vs,H1,I1,r,q⟩=>⟨I1.xJ,?_⟩) he hpl;exact Fz F hr hb hd hx I1 r q
theorem R9 (he:PE X o ta) (c:CU X.K C) (hm:R3 X.K C m f) (F:kF X.prog X.w X.K X.mg X.base CX k f fd ps sp) (hr:gU k X.A) (hb:Binds X.K fd ps ds) (hd:Vals dvs ds) (hx:mW CX X E) (ha:PA X (e::es) t)
  (hst:bu (e::es) X.env=(false,eJ e X.env)::bu es X.env:=by rfl) (hpl:(fS pos (bu es X.env)).any (·.1)=false:=by rfl)
  (ht:eJ (.Call (.Attribute o m apos) (e::es) [] pos) X.env=(do
   let ov ← eJ o X.env
   qb apos.atName
   let (f,first) ← jC [ov] (vC ov m pl)
   N4 pos f first (fS pos (bu (e::es) X.env)) (Ad pos (oA [] X.env))):=by rfl) :
  PE X (.Call (.Attribute o m apos) (e::es) [] pos) (fc C m sp dvs E ta t):=by
 intro pins s Z H Q I h;refine sU (pl:=pl) (gR (he pins s Z H _ I h) λu s1 ⟨x,H1,I1,rx,a,dx,fs,ex,ea,l,q⟩=>?_) ht;subst ex;obtain rfl:u=aB a:=rx;refine AM I1 ea c hm l ?_;refine nJ (first:=[.ref a]) (h₀:=X.base) I.ok.mod.Xa hm.kp (gR (ha pos pins s1 Z H1 _ I1 q) λus s2 ⟨vs,H2,I2,r,q2⟩=>⟨I2.xJ,?_⟩) hst hpl;exact Fz (us:=.ref a::us) (vs:=.ref a::vs) F hr hb hd hx I2 (.cons rfl r) q2
theorem OS (he:PE X o ta) (c:CU X.K C) (hm:R3 X.K C m f) (F:kF X.prog X.w X.K X.mg X.base CX k f fd ps sp) (hr:gU k X.A) (hb:Binds X.K fd ps ds) (hd:Vals dvs ds) (hx:mW CX X E)
  (ht:eJ (.Call (.Attribute o m apos) [] [] pos) X.env=(do
   let ov ← eJ o X.env
   qb apos.atName
   let (f,first) ← jC [ov] (vC ov m pl)
   N4 pos f first (fS pos (bu [] X.env)) (Ad pos (oA [] X.env))):=by rfl) :
  PE X (.Call (.Attribute o m apos) [] [] pos) (fc C m sp dvs E ta aY):=by
 intro pins s Z H Q I h;refine sU (pl:=pl) (gR (he pins s Z H _ I h) λu s1 ⟨x,H1,I1,rx,a,dx,fs,ex,ea,l,q⟩=>?_) ht;subst ex;obtain rfl:u=aB a:=rx;refine AM I1 ea c hm l ?_;exact PySem.W.callWith_K0 (first:=[.ref a]) I1.xJ hm.kp (Fz (us:=[.ref a]) (vs:=[.ref a]) F hr hb hd hx I1 (.cons rfl .nil) q)
structure Mk (K:aa) (C f:ag):Prop where
 makes:j8 K C=true
 init:bG K (.ref C) "__init__"=some (some (.ref f))
 fn:qA K (.ref f)=true
 kp:dN K (.ref C)=true
theorem OT {Z:St}{H:Hp}{Q:VK}{vs:List V}(M:Mk X.K C f) (F:kF X.prog X.w X.K X.mg X.base CX k f fd ps sp) (hr:gU (k+1) X.A) (hb:Binds X.K fd ps ds) (hd:Vals dvs ds)
  (hx:mW CX X E) (I:Inv X pins Z H s) (r:Vals vs us)
  (h:∀ x dx,H x=none->H dx=none->dx≠x->sp (.ref x::(vs++dvs)) (upd (upd H dx (.own x)) x (.ins C dx [])) (λv H2=>v=.non/\Q (.ref x) H2) E) :
  aK (aL X.prog X.w) X.A (call (.ref C) us) (EP X pins Z Q) X.xe s:=by
 have hq:=h (s.heap.objs.size+1) s.heap.objs.size (I.eY.fresh (iG _)) (I.eY.fresh (ak _)) (a6 (i4 _));have I2:=Inv.made (C:=C) I;have r2:Vals (V.ref (s.heap.objs.size+1)::(vs++dvs)) (aB (s.heap.objs.size+1)::(us++ds)):=.cons rfl (r.append hd)
 have hl:(aB (s.heap.objs.size+1)::us++ds).length=ps.length:=by
  have e:=r2.length;rw [F.len _ _ _ _ hq] at e;exact e.symm
 refine N3 (OR (f:=f) I.xJ M.makes M.init (beq_iff_eq.mp M.fn) (mJ (F.run _ X.stack _ _ ⟨aB (s.heap.objs.size+1)::us,[]⟩ (aB (s.heap.objs.size+1)::(us++ds)) _ _ E (hr.make C us [])
  (I2.YR.make C us []) (hb _ (aB (s.heap.objs.size+1)::us) I2.xJ hl) r2 hq) λr s' hq'=>?_))
 cases r with
 | error e=>exact hx pins Z _ _ e s' I2 hq'
 | ok fl =>
  cases fl with
  | ret u =>
   obtain ⟨v,H',I3,rv,ev,q3⟩:=I2.after hq';subst ev
   exact ⟨rv,⟨V.ref (s.heap.objs.size+1),H',I3,rfl,q3⟩⟩
  | next=>exact gX hq'
  | brk=>exact gX hq'
  | cont=>exact gX hq'
theorem FA (M:Mk X.K C f) (F:kF X.prog X.w X.K X.mg X.base CX k f fd ps sp) (hr:gU (k+1) X.A) (hg:Gl X x) (hm:X.mg x=some (.ref C)) (hb:Binds X.K fd ps ds) (hd:Vals dvs ds) (hx:mW CX X E)
  (ha:PA X (e::es) t) (hdb:(x == ("__debug__":bD))=false:=by decide) (he:bu (e::es) X.env=(false,eJ e X.env)::bu es X.env:=by rfl) (hpl:(fS pos (bu es X.env)).any (·.1)=false:=by rfl) :
  PE X (.Call (.Name x p) (e::es) [] pos) (HF C sp dvs E t):=by
 intro pins s Z H Q I h;refine dZ (Fo I hg hm ?_ hdb);refine nJ (h₀:=X.base) I.ok.mod.Xa M.kp (gR (ha pos pins s Z H _ I h) λus s1 ⟨vs,H1,I1,r,q⟩=>⟨I1.xJ,?_⟩) he hpl;exact OT M F hr hb hd hx I1 r q
end
section
variable {X:Cx}{CX:HE}{ks:List bD}{sp:Sp}{E:XK}{kpos:sT}{o:Expr}{kws:List TH}{te ta:TE}{t tk:TA}{nm:Option bD}
variable {g:List aj->List aj->List aj}{gV:List V->List V->List V}
end
structure bK (N P:List bD) (sc:pH):Prop where
 kind:sc.kind=.function
 co:sc.isCoroutine=false
 gen:sc.isGenerator=false
 nd:N.Nodup
 pre:N.take P.length=P
 par:∀ x∈P,sc.names.lookup x=some .local\/sc.names.lookup x=some .cell
 WD:∀ y∈sc.names,y.2≠.free
theorem Ew:∀ {binds:List (bD×aj)}{m:bD->Option aj},(∀ v,(x,v)∉binds)->RB kindOf binds m x=m x
 | [],_,_=>rfl
 | (n,v)::r,m,h=>by
  unfold RB;rw [Ew λw hw=>h w (ai _ hw)]
  split
  .have:x≠n:=by rintro rfl;exact h v aw
   simp [this]
  .rfl
theorem Ex:∀ {binds:List (bD×aj)}{m:bD->Option aj},(∀ v,(x,v)∉binds)->RC kindOf binds m x=m x
 | [],_,_=>rfl
 | (n,v)::r,m,h=>by
  unfold RC;rw [Ex λw hw=>h w (ai _ hw)]
  split
  .rfl
  .have:x≠n:=by rintro rfl;exact h v aw
   simp [this]
theorem Ey:∀ {P:List bD}{vs:List aj}{i:Nat}{m:bD->Option aj},P.Nodup->P[i]?=some x->vs[i]?=some v->kindOf x=some .local ->
  RB kindOf (P.zip vs) m x=some v
 | [],_,_,_,_,h,_,_=>by simp at h
 | _::_,[],_,_,_,_,h,_=>by simp at h
 | p::P,w::vs,0,m,nd,h1,h2,hk=>by
  simp at h1 h2;subst h1;subst h2
  show RB kindOf ((p,w)::P.zip vs) m p=_
  unfold RB;rw [Ew λv hv=>(bb.mp nd).1 (ub hv).1,if_pos hk]
  simp
 | p::P,w::vs,i+1,m,nd,h1,h2,hk=>by
  show RB kindOf ((p,w)::P.zip vs) m x=_
  unfold RB;exact Ey (i:=i) (bb.mp nd).2 (by simpa using h1) (by simpa using h2) hk
theorem Ez:∀ {P:List bD}{vs:List aj}{i:Nat}{m:bD->Option aj},P.Nodup->P[i]?=some x->vs[i]?=some v->kindOf x≠some .local ->
  RC kindOf (P.zip vs) m x=some v
 | [],_,_,_,_,h,_,_=>by simp at h
 | _::_,[],_,_,_,_,h,_=>by simp at h
 | p::P,w::vs,0,m,nd,h1,h2,hk=>by
  simp at h1 h2;subst h1;subst h2
  show RC kindOf ((p,w)::P.zip vs) m p=_
  unfold RC;rw [Ex λv hv=>(bb.mp nd).1 (ub hv).1,if_neg hk]
  simp
 | p::P,w::vs,i+1,m,nd,h1,h2,hk=>by
  show RC kindOf ((p,w)::P.zip vs) m x=_
  unfold RC;exact Ez (i:=i) (bb.mp nd).2 (by simpa using h1) (by simpa using h2) hk
def start (N:List bD) (vs:List V):St:=vs.map some++lM (N.length-vs.length) none
def FC (CX:HE) (P:bB) (w:ck) (K:aa) (mg:bD->Option aj) (base:cK) (N:List bD) (qual:bD) (scope:pH) (f:ag) (cd:aj) (A:cM) (outer:List He) (s:ax) (H:Hp) (E:XK):Cx where
 prog:=P
 w:=w
 K:=K
 mg:=mg
 base:=base
 A:=A.deeper (uc qual scope s.heap.objs.size f cd)
 N:=N
 s₀:=s
 H₀:=H
 env:=uc qual scope s.heap.objs.size f cd
 outer:=outer
 stack:=uc qual scope s.heap.objs.size f cd::outer
 ex:=[]
 calm:=true
 fn:=λ_=>true
 pn:=[]
 xe:=λe s'=>aK (aL P w) (A.deeper (uc qual scope s.heap.objs.size f cd)) (leaving (uc qual scope s.heap.objs.size f cd) e) (λ_ s''=>CX outer H s E e s'') (λe' s''=>CX outer H s E e' s'') s'
theorem HG {sc:pH}(h:sc.names.lookup x=some .cell):∃ c,(cellsFrom n sc.names []).lookup x=some c:=by
 have q:=JW sc.names n [] (.inl h);exact Option.isSome_iff_exists.mp q
theorem Nd {CX:HE}{cd:aj}{s1:ax}{H:Hp}{E:XK}{vs:List V}
  (S:bK N ps scope) (hd:A.handled=none) (e0:Lz P w K mg base A outer s H) (hl:vs.length=ps.length) (r:Vals vs us)
  (x:InCallC s s.heap.objs.size (RB (uc qual scope s.heap.objs.size f cd).kindOf (ps.zip us) λ_=>none) (cellsFrom (s.heap.objs.size+1) scope.names []) (RC (uc qual scope s.heap.objs.size f cd).kindOf (ps.zip us) λ_=>none) s1) :
  Inv (FC CX P w K mg base N qual scope f cd A outer s H E) [] (start N vs) H s1:=by
 have hpl:ps.length<=N.length:=by have:=congrArg eD S.pre;rw [bS] at this;lia
 obtain ⟨h1,tk,rfl,hk⟩:=x.done;have noA:∀ b:ag,b∉(FC CX P w K mg base N qual scope f cd A outer s H E).ex:=λb z=>absurd (show b∈([]:List ag) from z) (by simp)
 refine ⟨⟨e0.mod,S.kind,rfl,rfl,ak _,λy z c h1 h2=>?_,λy hy=>?_,λy c _ h=>?_,λ_=>hd,Around.frames_deeper e0.frames,.inr ⟨rfl,rfl⟩,λb z=>absurd z (noA b),e0.bs,e0.Q9,λb _ _=>noA b,λb z=>absurd z (noA b),e0.yE,e0.UU⟩,
  rfl,e0.bare,Un.kept hk,⟨_,x.toInCall.ns,λi y v h1 h2 h3=>?_⟩,λy c h=>⟨_,x.cell y c h⟩,e0.eY.fresh (ak _),λy c h=>?_,λp hp=>absurd (show p∈([]:List (ag×jk)) from hp) (by simp),e0.eY.kept hk,?_⟩
 .exact name_of_addr x.apart (jX h1) (jX h2)
 .have hy:scope.names.lookup y=some .cell\/scope.names.lookup y=some .free:=hy
  rcases hy with hy|hy
  .exact HG hy
  .exact absurd rfl (S.WD _ (jX hy))
 .exact lZ (x.above y c (jX h))
 .have hi:i<vs.length:=by
   unfold start at h2
   by_cases hi:i<vs.length
   .exact hi
   .rw [dQ (by simpa using hi)] at h2;rw [LH] at h2
    split at h2<;>cases h2
  have ha:vs[i]?=some v:=by
   unfold start at h2;rw [fA (by simpa using hi),aA] at h2
   cases e:vs[i]? with
   | none=>rw [e] at h2;cases h2
   | some a=>rw [e] at h2;cases h2;rfl
  obtain ⟨u,hu,rv⟩:=r.get ha
  have hp:ps[i]?=some y:=by
   rw [← S.pre,List.getElem?_take_of_lt (by lia)];exact h1
  have ndP:ps.Nodup:=by rw [← S.pre];exact S.nd.sublist (qc _ _)
  refine ⟨u,rv,?_⟩
  rcases S.par y (aN hp) with k|k
  .exact .inl ⟨k,Ey ndP hp hu k⟩
  .obtain ⟨c,e⟩:=HG (n:=s.heap.objs.size+1) k;refine .inr ⟨.inl k,c,e,?_⟩;have q:=x.cell y c e;rw [Ez ndP hp hu (by show scope.names.lookup y≠_;rw [k];decide)] at q;exact q
 .exact e0.eY.fresh (lZ (x.above y c (jX h)))
 .unfold start
  show _=N.length
  rw [bg,af,mj];lia
theorem T8 {CX:HE}{params:nK}{dV kV doc pm nB ct oc:aj}{an od:Option ag}
  {osl:Array (Option aj)}{N ps:List bD}{sp:Sp}(lk:K.lookup f=some ⟨oc,od,.func (il name qual params body scope dV kV doc pm an nB ct),osl⟩) (hcd:nM K nB qual=true) (S:bK N ps scope)
  (len:∀ vs H Q E,sp vs H Q E->vs.length=ps.length)
  (hbody:∀ (A:cM) (outer:List He) (s:ax) (H:Hp) (vs:List V) (Q:VK) (E:XK),gU k (A.deeper (uc qual scope s.heap.objs.size f nB))->sp vs H Q E ->
   ∃ t,J8 (FC CX P w K mg base N qual scope f nB A outer s H E) body t/\t { nx:=λ_ H'=>Q .non H',rt:=Q } (start N vs) H) :
  kF P w K mg base CX (k+1) f (il name qual params body scope dV kV doc pm an nB ct) ps sp:=by
 refine ⟨len,λA outer s H args us vs Q E hr e0 hb r hsp=>?_⟩;have hl:=len _ _ _ _ hsp;have KX:K.In s.heap:=e0.mod.Xa.keeps λb o e=>(e0.bs b o e).1;have lim:s.heap.NoLimit:=e0.mod.nolimit.keeps λb o e=>(e0.bs b o e).1
 have hkind:∀ y∈ps.zip us,scope.names.lookup y.1=some .local\/(scope.names.lookup y.1=some .cell/\((cellsFrom (s.heap.objs.size+1) scope.names []).lookup y.1).isSome=true):=λ⟨n,v⟩ hy=>by
  rcases S.par n (ub hy).1 with q|q
  .exact .inl q
  .exact .inr ⟨q,JW _ _ _ (.inl q)⟩
 refine codeAny_call_function hr.depth (KX _ _ lk) rfl S.co S.gen rfl (PySem.W.codeRec_of KX hcd) (hb _ _ _ _ ?_);refine wpAny_newFunctionEnv_cells S.kind hkind λenv he s1 x=>?_;subst he;refine ⟨lim.keeps x.toInCall.keep,codeAny_func ?_⟩;obtain ⟨t,ht,hq⟩:=hbody A outer s H vs Q E (hr.deeper _) hsp;have I:Inv (FC CX P w K mg base N qual scope f nB A outer s H E) [] (start N vs) H s1:=Nd S hr.hd e0 hl r x;refine dH (ht [] s1 (start N vs) H _ I hq) (λfl s' hs=>?_) λe s' hs=>hs
 have fin:∀ {σ':St}{H':Hp}{v:V}{u:aj},Inv (FC CX P w K mg base N qual scope f nB A outer s H E) [] σ' H' s'->RelV v u->Q v H'->CE outer P w H s Q u s' :=
  λ{σ' H' v u} J rv q=>⟨v,H',J.os,J.bare,J.base,J.eY,rv,q⟩
 cases fl with
 | ret u =>
  obtain ⟨v,σ',H',J,rv,q⟩:=hs
  exact fin J rv q
 | next =>
  obtain ⟨σ',H',J,q⟩:=hs
  exact fin (v:=V.non) (u:=eP) J rfl q
 | brk =>
  obtain ⟨_,_,_,q⟩:=hs
  exact gX q
 | cont =>
  obtain ⟨_,_,_,q⟩:=hs;exact gX q
section
variable {X:Cx}{t:TA}{id T:String}{r:List V->Hp->VK->Prop}
def l5 (r:List V->Hp->VK->Prop) (t:TA):TE:=λZ H Q=>t Z H λvs H1=>r vs H1 Q
theorem iS (hc:k8 X (.builtin id) r) (hg:Gl X x) (hm:X.mg x=none) (hv:cV x=some (.builtin id)) (ha:PA X (e::es) t) (hn:x≠"__name__":=by decide) (hdb:(x == ("__debug__":bD))=false:=by decide)
  (he:bu (e::es) X.env=(false,eJ e X.env)::bu es X.env:=by rfl) (hpl:(fS pos (bu es X.env)).any (·.1)=false:=by rfl):PE X (.Call (.Name x p) (e::es) [] pos) (l5 r t):=by
 intro pins s Z H Q I h;refine dZ (l9 I hg hm hv ?_ hn hdb);exact vH (gR (ha pos pins s Z H _ I h) λus s1 ⟨vs,H1,I1,r1,q1⟩=>hc pins s1 Z H1 vs us Q I1 r1 q1) he hpl
theorem xX (hc:k8 X (.type T) r) (hg:Gl X x) (hm:X.mg x=none) (hv:cV x=some (.type T)) (ha:PA X (e::es) t) (hn:x≠"__name__":=by decide) (hdb:(x == ("__debug__":bD))=false:=by decide)
  (he:bu (e::es) X.env=(false,eJ e X.env)::bu es X.env:=by rfl) (hpl:(fS pos (bu es X.env)).any (·.1)=false:=by rfl):PE X (.Call (.Name x p) (e::es) [] pos) (l5 r t):=by
 intro pins s Z H Q I h;refine dZ (l9 I hg hm hv ?_ hn hdb);exact dw (gR (ha pos pins s Z H _ I h) λus s1 ⟨vs,H1,I1,r1,q1⟩=>hc pins s1 Z H1 vs us Q I1 r1 q1) he hpl
end
end L2
namespace HT
open PySem PyProof.Rows
variable {Q:aj->ax->Prop}
def lexLt:List Int->List Int->Bool
 | [],[]=>false
 | [],_::_=>true
 | _::_,[]=>false
 | x::xs,y::ys=>if x=y then lexLt xs ys else decide (x<y)
theorem AQ (x y:Int) (xs ys:List Int):lexLt (x::xs) (y::ys)=if x=y then lexLt xs ys else decide (x<y):=rfl
theorem C2:lexLt [] []=false:=rfl
theorem AR (y:Int) (ys:List Int):lexLt [] (y::ys)=true:=rfl
theorem AS (x:Int) (xs:List Int):lexLt (x::xs) []=false:=rfl
theorem OU (A:cM) (s:ax) (a:Int) (t:TF) (c:Int) (u:TF):∃ e,SeqAt.EqAt A s (.int a t) (.int c u) e/\(e=true↔a=c) :=
 ⟨(a == c),iL a t c u,by simp⟩
theorem OV (A:cM) (s:ax) (a:Int) (t:TF) (c:Int) (u:TF) (prog:bB) (w:ck) (E:aj->ax->Prop) (Q:aj->ax->Prop) (h:Q (.bool (decide (a<c))) s) :
  aK (aL prog w) A (richCompare .Lt (.int a t) (.int c u)) Q E s :=
 (RA h:aK (aL prog w) A (c8 .Lt (.int a t) (.int c u)) Q E s)
section
open PySem.SeqAt
open PySem.AutoSeq1 (wpAny_loadPart')
open PySem.MeetsSeq PySem.MeetsSeq2 PySem.MeetsSeq3
theorem C3 (l b:ag) (items items2:Array aj) (n n2:Nat) (dd dd2:Option ag) (sl sl2:Array (Option aj)) (ns ms:List Int) (hi:eN items.toList ns) (hj:eN items2.toList ms) :
  Meets (iB.«tuple.__lt__» ⟨[.ref l,.ref b],[]⟩)
   (λ_ R s=>s.heap.get? l=some { cls:=.type "tuple",dict:=dd,data:=.seq items n,slots:=sl }/\s.heap.get? b=some { cls:=.type "tuple",dict:=dd2,data:=.seq items2 n2,slots:=sl2 } /\
    R (.ok (.ret (.bool (lexLt ns ms)))) s) :=
 .of_wp λprog w A R s h=>by
  obtain ⟨hp,g,d,tk,os⟩:=s;obtain ⟨hl,hb,h⟩:=h;have f2:=AutoSeq1.sub_tuple_tuple
  have z1:items.size=ns.length:=by rw [← hi.length];simp
  have z2:items2.size=ms.length:=by rw [← hj.length];simp
  wp_walk using wpAny_loadPart' hl,wpAny_loadPart' hb,wpAny_forIn_list _ (λrest b s'=>b.1=none/\s'=⟨hp,g,d,tk,os⟩/\∃ (vs ws:List aj) (ns' ms':List Int),rest=vs.zip ws /\
   eN vs ns'/\eN ws ms'/\ns'.length+items2.size=ms'.length+items.size/\R (.ok (.ret (.bool (lexLt ns' ms')))) ⟨hp,g,d,tk,os⟩) _
  case turn =>
   rintro ⟨y,x⟩ rest b s' ⟨hb',rfl,vs,ws,ns',ms',hz,hvi,hwi,hlen,hR⟩
   cases hvi with
   | nil=>rw [List.zip_nil_left] at hz;cases hz
   | cons a t hvi' =>
    cases hwi with
    | nil=>rw [List.zip_nil_right] at hz;cases hz
    | cons c u hwi' =>
     rw [jf] at hz
     injection hz with hyx hrest
     injection hyx with hy hx
     subst hy hx;rw [AQ] at hR;simp only [bI] at hlen;obtain ⟨e,he,hiff⟩:=OU A.in1 ⟨hp,g,d,tk,os⟩ a t c u;refine ae (he prog w _ _ ?_)
     cases e with
     | true =>
      rw [if_pos (hiff.mp rfl)] at hR
      wp_walk
      exact ⟨rfl,rfl,_,_,_,_,hrest,hvi',hwi',by lia,hR⟩
     | false =>
      rw [if_neg (λq=>absurd (hiff.mpr q) bx)] at hR;have hri:=OV A.in1 ⟨hp,g,d,tk,os⟩ a t c u prog w
      wp_walk using hri
      exact ⟨_,rfl,by simpa using hR⟩
  case fin =>
   rintro ⟨b1,b2⟩ s' ⟨hb',rfl,vs,ws,ns',ms',hz,hvi,hwi,hlen,hR⟩;simp only at hb';subst hb'
   have hv:lexLt ns' ms'=decide (items.size<items2.size):=by
    cases hvi with
    | nil =>
     cases hwi with
     | nil =>
      simp only [nC] at hlen;rw [C2]
      exact (decide_eq_false (by lia)).symm
     | cons c u hw =>
      simp only [nC,bI] at hlen;rw [AR]
      exact (decide_eq_true (by lia)).symm
    | cons a t hv =>
     cases hwi with
     | nil =>
      simp only [nC,bI] at hlen;rw [AS]
      exact (decide_eq_false (by lia)).symm
     | cons c u hw =>
      rw [jf] at hz;cases hz
   rw [hv] at hR
   wp_walk
   exact ⟨_,rfl,by simpa [Builtin.Tuple.tupleCompareSizes] using hR⟩
  case h =>
   exact ⟨rfl,rfl,items.toList,items2.toList,ns,ms,rfl,hi,hj,by lia,h⟩
end
section
variable {prog:bB}{w:ck}{A:cM}{E:aj->ax->Prop}{s:ax}
theorem Ku {l b:ag}{items items2:Array aj}{ns ms:List Int}(hl:oz s.heap l items) (hb:oz s.heap b items2) (hi:eN items.toList ns) (hj:eN items2.toList ms)
  (hu:A.units<gY) (h:Q (.bool (lexLt ns ms)) s):aK (aL prog w) A (c8 .Lt (.ref l) (.ref b)) Q E s:=by
 obtain ⟨⟨cls,dd,data,sl⟩,ho,hc,n,hd⟩:=id hl;obtain ⟨⟨cls2,dd2,data2,sl2⟩,ho2,hc2,n2,hd2⟩:=id hb;simp only at hc hd hc2 hd2;subst hc hd hc2 hd2
 exact richCompare_meets_room (op:=.Lt) ⟨_,ho,rfl⟩ ⟨_,ho2,rfl⟩ PySem.F.slot_tuple_lt PySem.F.entry_tuple_lt (PySem.F.args_tuple_lt_2 _ _) (C3 l b items items2 n n2 dd dd2 sl sl2 ns ms hi hj)
  ⟨ho,ho2,show ow (lexLt ns ms)≠Value.notImplemented/\Q (.bool (lexLt ns ms)) s from ⟨(λx=>nomatch x),h⟩⟩ hu
theorem Sa {t b:ag}{vs ws:List aj}(ht:oz s.heap t vs.toArray) (hb:oz s.heap b ws.toArray) (hv:vs≠[])
  (h1:ws=[]->Q (.ref t) s) (h2:ws≠[]->Q (.ref s.heap.objs.size) { s with heap:=s.heap.push { cls:=.type "tuple",data:=.seq (vs++ws).toArray } })
  (hsz:vs.length+ws.length<=aU):aK (aL prog w) A (lB .Add (.ref t) (.ref b)) Q E s:=by
 obtain ⟨⟨cls,dd,data,sl⟩,ho,hc,n,hd⟩:=id ht;obtain ⟨⟨cls2,dd2,data2,sl2⟩,ho2,hc2,n2,hd2⟩:=id hb;simp only at hc hd hc2 hd2;subst hc hd hc2 hd2
 have e:vs.toArray++ws.toArray=(vs++ws).toArray:=by simp
 by_cases hw:ws=[]
 .exact concat_meets ⟨_,ho,rfl⟩ ⟨_,ho2,rfl⟩ noFill_tuple_add seq_tuple_add JX Hg (GU _ _)
   (tuple_addW1 t b vs.toArray ws.toArray n n2 dd dd2 sl sl2 (by simpa using hv) (by simp [hw])) ⟨ho,ho2,h1 hw⟩
 .refine concat_meets ⟨_,ho,rfl⟩ ⟨_,ho2,rfl⟩ noFill_tuple_add seq_tuple_add JX Hg (GU _ _)
   (tuple_addW2 t b vs.toArray ws.toArray n n2 dd dd2 sl sl2 (by simpa using hv) (by simpa using hw) (by rw [aI,aI];exact hsz)) ⟨ho,ho2,?_⟩
  rw [e];exact h2 hw
def Hb (n d:Nat):Option Int->Nat
 | none=>d
 | some v=>if v<0 then (v+(n:Int)).toNat else min v.toNat n
theorem HH (n d:Nat):Hb n d none=d:=rfl
theorem Sb (n d k:Nat):Hb n d (some (k:Int))=min k n:=by
 show (if (k:Int)<0 then ((k:Int)+(n:Int)).toNat else min (k:Int).toNat n)=min k n
 rw [if_neg (by lia),gF]
end
end HT
namespace L2
variable {H H':Hp}{X:Cx}{s:ax}{pins:List (ag×jk)}{Z:St}{a b p:ag}{w:ck}{A:cM}{E Q:aj->ax->Prop}{P:bB}{u:aj}{xs ys:List V}{n t' j:Nat}{o:Option V}{y x v:V}{e:Expr}{pos apos cpos:sT}{its us its':List aj}{i:Int}{r:R2}{T:String}{h':cK}
abbrev TO:=St->Hp->(Option Int->Hp->Prop)->Prop
def PO (X:Cx) (e:Option Expr) (t:TO):Prop :=
 ∀ (pins:List (ag×jk)) (s:ax) (Z:St) (H:Hp) (Q:Option Int->Hp->Prop),Inv X pins Z H s->t Z H Q ->
  aK (aL X.prog X.w) X.A (evalPart e X.env) (λu s'=>∃ o H',Inv X pins Z H' s'/\IsPart u o/\Q o H') X.xe s
def jd:TO:=λ_ H Q=>Q none H
def kW (t:TE):TO:=λZ H Q=>t Z H λx H1=>∃ i,x=.int i/\Q (some i) H1
theorem intsAre_of {ns:List Int}:∀ {us:List aj},Vals (ns.map V.int) us->eN us ns:=by
 induction ns with
 | nil=>intro us r;rw [Av] at r;cases r;exact .nil
 | cons n ns ih =>
  intro us r;rw [aW] at r
  cases r with
  | cons r1 r2 =>
   obtain ⟨t,e⟩:=r1;subst e;exact .cons n t (ih r2)
section
variable {te:TE}{lo hi:Option Expr}{tl th:TO}{p2:sT}
theorem vR:PO X none jd:=by
 intro pins s Z H Q I h;rw [evalPart_none];exact ar ⟨none,H,I,.none,h⟩
theorem vS (h:PE X e te):PO X (some e) (kW te):=by
 intro pins s Z H Q I hw;rw [evalPart_some];refine gR (h pins s Z H _ I hw) λu s1 ⟨x,H1,I1,r1,q1⟩=>?_;obtain ⟨i,rfl,q⟩:=q1;obtain ⟨t,rfl⟩:=r1;exact ⟨some i,H1,I1,.int i t,q⟩
def SlR (X:Cx) (r:V->Option Int->Option Int->Hp->VK->Prop):Prop :=
 ∀ (pins:List (ag×jk)) (s:ax) (Z:St) (H:Hp) (x:V) (v vl vu:aj) (lo hi:Option Int) (sl:ag) (Q:VK),Inv X pins Z H s->RelV x v->s.heap.IsSliceOf sl vl vu .none->IsPart vl lo->IsPart vu hi->r x lo hi H Q ->
  ∃ T id,typeLookup (.type T) "__getitem__"=pure (some (.builtin id))/\s.TypeIs v T/\aK (aL X.prog X.w) X.A (getItem v (.ref sl)) (EP X pins Z Q) X.xe s
def J2 (r:V->Option Int->Option Int->Hp->VK->Prop) (te:TE) (tl th:TO):TE:=λZ H Q=>te Z H λx H1=>tl Z H1 λl H2=>th Z H2 λu H3=>r x l u H3 Q
theorem qO {r:V->Option Int->Option Int->Hp->VK->Prop}(hr:SlR X r) (he:PE X e te) (hl:PO X lo tl) (hu:PO X hi th):PE X (.Subscript e (.Slice lo hi none p2) pos) (J2 r te tl th):=by
 intro pins s Z H Q I h;refine N5 (gR (he pins s Z H _ I h) λv s1 ⟨x,H1,I1,r1,q1⟩=>?_);refine wpAny_Slice (gR (hl pins s1 Z H1 _ I1 q1) λvl s2 ⟨l,H2,I2,pl,q2⟩=>gR (hu pins s2 Z H2 _ I2 q2) λvu s3 ⟨u,H3,I3,pu,q3⟩=>?_);rw [evalPart_none];refine ar ?_;have I4:Inv X pins Z H3 { s3 with heap:=s3.heap.push { cls:=.type "slice",data:=.fields #[vl,vu,.none] } }:=I3.kept (t':=s3.toks) λb ob q=>aq _ q;obtain ⟨T,id,hT,ht,hg⟩:=hr pins { s3 with heap:=s3.heap.push { cls:=.type "slice",data:=.fields #[vl,vu,.none] } } Z H3 x v vl vu l u s3.heap.objs.size Q I4 r1 (Heap.IsSliceOf.new ..) pl pu q3
 show aK (aL X.prog X.w) X.A (subscriptTail e (.Slice lo hi none p2) v (.ref s3.heap.objs.size)) (EP X pins Z Q) X.xe { s3 with heap:=s3.heap.push { cls:=.type "slice",data:=.fields #[vl,vu,.none] } }
 exact tail_any (ops:=[.ref s3.heap.objs.size,v]) ht hT hg (by with_unfolding_all rfl)
def AU (xs:List V) (lo hi:Option Int):List V:=(xs.drop (HT.Hb xs.length 0 lo)).take (HT.Hb xs.length xs.length hi-HT.Hb xs.length 0 lo)
theorem HI (xs:List V) (lo hi:Option Int):(AU xs lo hi).length<=xs.length:=by
 unfold AU;rw [bS,cW];lia
def OW (K:aa):R2:=λx y H Q=>∃ a b xs ys,x=.ref a/\y=.ref b/\ie K H a xs/\ie K H b ys/\xs≠[]/\xs.length+ys.length<=aU /\
 (ys=[]->Q (.ref a) H)/\(ys≠[]->∀ p,H p=none->Q (.ref p) (upd H p (.tup (xs++ys))))
theorem Vals.GR (r:Vals xs us):us=[]↔xs=[]:=by
 cases r with
 | nil=>simp
 | cons _ _=>simp
theorem LY:oC X (lB .Add) (OW X.K):=by
 intro pins s Z H x y v u Q I rx ry h;obtain ⟨a,b,xs,ys,rfl,rfl,ha,hb,hx,hz,q1,q2⟩:=h;cases rx;cases ry;obtain ⟨its,r1,p1,_⟩:=I.tuple ha;obtain ⟨its2,r2,p2,_⟩:=I.tuple hb;refine HT.Sa p1 p2 (λz=>hx (r1.GR.mp z)) (λz=>⟨.ref a,H,I,rfl,q1 (r2.GR.mp z)⟩) (λz=>?_) (by rw [← r1.length,← r2.length];exact hz);refine ⟨.ref s.heap.objs.size,_,I.laid (t':=s.toks) (o:=.tup (xs++ys)) (λb ob q=>aq _ q) (ak _) ?_,rfl,q2 (λw=>z (r2.GR.mpr w)) _ (I.eY.fresh (ak _))⟩;exact ⟨by rw [bg];exact hz,_,r1.append r2,IsTup.new _ _⟩
end
def Oq (n:Nat) (i:Int):Option Nat:=if 0<=i then (if i<n then some i.toNat else none) else if -(n:Int)<=i then some (i+n).toNat else none
def Os {α:Type} (xs:List α) (i:Int):Option α:=(Oq xs.length i).bind λj=>xs[j]?
theorem LZ (h:Oq n i=some j):seqIndex? i n=some j/\j<n/\-(n:Int)<=i/\i<n:=by
 unfold Oq at h
 by_cases h0:0<=i
 .rw [if_pos h0] at h
  by_cases h1:i<n
  .rw [if_pos h1] at h;have e:i.toNat=j:=a7 h;exact ⟨by rw [WI h0 h1,e],by lia,by lia,h1⟩
  .rw [if_neg h1] at h;cases h
 .rw [if_neg h0] at h
  by_cases h1:-(n:Int)<=i
  .rw [if_pos h1] at h;have e:(i+n).toNat=j:=a7 h;exact ⟨by rw [seqIndex_neg (by lia) h1,e],by lia,h1,by lia⟩
  .rw [if_neg h1] at h;cases h
theorem L0 {α:Type} {xs:List α}{v:α}(h:Os xs i=some v):∃ j,seqIndex? i xs.length=some j/\xs[j]?=some v/\j<xs.length/\-(xs.length:Int)<=i/\i<xs.length:=by
 unfold Os at h
 cases e:Oq xs.length i with
 | none=>rw [e] at h;cases h
 | some j =>
  rw [e] at h;obtain ⟨h1,h2,h3,h4⟩:=LZ e;exact ⟨j,h1,h,h2,h3,h4⟩
theorem Sd {α:Type} {xs:List α}{v:α}(h:xs[j]?=some v):Os xs (j:Int)=some v:=by
 have hj:j<xs.length:=(aD.mp h).1
 have e:Oq xs.length (j:Int)=some j:=by
  unfold Oq;rw [if_pos (by lia),if_pos (by lia)];simp
 unfold Os;rw [e];exact h
theorem HJ {α:Type} (xs:List α) (v:α):Os (xs++[v]) (-1)=some v:=by
 have hl:(xs++[v]).length=xs.length+1:=by simp
 have e:Oq (xs++[v]).length (-1)=some xs.length:=by
  unfold Oq;rw [hl,if_neg (by decide),if_pos (by lia)]
  congr 1
  lia
 unfold Os;rw [e]
 show (xs++[v])[xs.length]?=some v
 simp
def Se (b:Expr):Prop:=∀ o i,subscripted b false o i=operate [o,i] (getItem o i)
def Tx (X:Cx) (r:R2):Prop :=
 ∀ (value slice:Expr) (pins:List (ag×jk)) (s:ax) (Z:St) (H:Hp) (x y:V) (v u:aj) (Q:VK),Inv X pins Z H s->RelV x v->RelV y u->r x y H Q ->
  subscripted slice false v u=operate [v,u] (getItem v u)->aK (aL X.prog X.w) X.A (subscriptTail value slice v u) (EP X pins Z Q) X.xe s
def MtR (X:Cx) (id:String) (r:V->List V->Hp->VK->Prop):Prop :=
 ∀ (pins:List (ag×jk)) (s:ax) (Z:St) (H:Hp) (x:V) (xs:List V) (v:aj) (us:List aj) (Q:VK),Inv X pins Z H s->RelV x v->Vals xs us->r x xs H Q ->
  aK (aL X.prog X.w) X.A (call (.builtin id) (v::us)) (EP X pins Z Q) X.xe s
section
variable {a b:Expr}{ta tb:TE}
theorem Tx.or {r':R2}(h:Tx X r) (h':Tx X r'):Tx X (λx y H Q=>r x y H Q\/r' x y H Q):=by
 intro value slice pins s Z H x y v u Q I rx ry q hs
 rcases q with q|q
 .exact h value slice pins s Z H x y v u Q I rx ry q hs
 .exact h' value slice pins s Z H x y v u Q I rx ry q hs
theorem HK (hr:Tx X r) (ha:PE X a ta) (hb:PE X b tb) (hs:Se b):PE X (.Subscript a b pos) (bY r ta tb):=by
 intro pins s Z H Q I h;exact N5 (Vq ha hb I h λv u s2 x y H2 I2 rx ry q=>hr a b pins s2 Z H2 x y v u Q I2 rx ry q (hs _ _))
def Xt (K:aa):R2:=λx y H Q=>∃ p xs i v,x=.ref p/\y=.int i/\cL K H p xs/\Os xs i=some v/\Q v H
def Xu (K:aa):R2:=λx y H Q=>∃ p xs i v,x=.ref p/\y=.int i/\ie K H p xs/\Os xs i=some v/\Q v H
theorem Sg:Tx X (Xt X.K):=by
 intro value slice pins s Z H x y v u Q I rx ry h hs;obtain ⟨p,xs,i,z,rfl,rfl,hq,he,q⟩:=h;cases rx;obtain ⟨t,rfl⟩:=ry;obtain ⟨its,r,pl,hz⟩:=I.list hq;obtain ⟨j,h1,h2,h3,h4,h5⟩:=L0 he;obtain ⟨w,ew,rw'⟩:=r.get h2;have hl:=r.length;have hn:=qM
 have fin:EP X pins Z Q w s:=⟨z,H,I,rw',q⟩
 by_cases h0:0<=i
 .have hj:i.toNat=j:=by
   rw [WI h0 h5] at h1;exact a7 h1
  exact item_listR pl.isList h0 (by lia) (by rw [hj];simpa using ew) fin hs
 .have hj:(i+(its.toArray.size:Int)).toNat=j:=by
   rw [seqIndex_neg (by lia) h4] at h1;rw [aI,← hl];exact a7 h1
  exact xD (x:=w) pl.isList.typeIs slot_list_getitem.lookup
   (wpAny_getItem_list_neg (Q:=λr s'=>r=w/\EP X pins Z Q r s') pl.isList (by lia) (by rw [aI]<;>lia) (by lia) (by rw [hj];simpa using ew) ⟨rfl,fin⟩) hs
theorem Vv:Tx X (Xu X.K):=by
 intro value slice pins s Z H x y v u Q I rx ry h hs;obtain ⟨p,xs,i,z,rfl,rfl,hq,he,q⟩:=h;cases rx;obtain ⟨t,rfl⟩:=ry;obtain ⟨its,r,pl,hz⟩:=I.tuple hq;obtain ⟨j,h1,h2,h3,h4,h5⟩:=L0 he;obtain ⟨w,ew,rw'⟩:=r.get h2;have hl:=r.length;have hn:=qM
 have fin:EP X pins Z Q w s:=⟨z,H,I,rw',q⟩
 exact xD (x:=w) pl.typeIs slot_tuple_getitem.lookup
  (getItem_tuple (j:=j) (Q:=λr s'=>r=w/\EP X pins Z Q r s') pl (by lia) (by lia) (by rw [aI,← hl];exact h1) (by simpa using ew) ⟨rfl,fin⟩) hs
theorem Kv (its:List aj) (n j:Nat) (u:aj):bO (·.setIfInBounds j u) { cls:=.type "list",data:=.seq its.toArray n }={ cls:=.type "list",data:=.seq (its.set j u).toArray n }:=by
 simp [bO]
theorem Inv.lst (I:Inv X pins Z H s) (h:H p=some (.lst xs)) :
  ∃ (its:List aj) (n:Nat),Vals xs its/\s.heap.get? p=some { cls:=.type "list",data:=.seq its.toArray n }/\xs.length<=aU:=by
 obtain ⟨z,its,n,r,e⟩:=I.eY p _ h;exact ⟨its,n,r,e,z⟩
theorem Inv.Wx {n':Nat}{f:jk->jk}(I:Inv X pins Z H s) (h:H p=some (.lst xs))
  (ho:s.heap.get? p=some { cls:=.type "list",data:=.seq its.toArray n }) (hf:f { cls:=.type "list",data:=.seq its.toArray n }={ cls:=.type "list",data:=.seq its'.toArray n' }) (r:Vals ys its') (hz:ys.length<=aU) (t:Nat) :
  Inv X pins Z (upd H p (.lst ys)) { s with heap:=s.heap.update p f,toks:=t }:=by
 have e:(s.heap.update p f).get? p=some { cls:=.type "list",data:=.seq its'.toArray n' }:=by
  rw [bR f ho (by rw [hf]<;>rfl),hf]
 refine I.write (x:=p) (e:=p) (by rw [h];trivial) (.inl rfl) (λb u hb q=>(bE _ _ (Ne.symm hb)).trans q) ⟨_,e⟩ ?_;exact ⟨hz,its',n',r,e⟩
def T9:V->V->V->Hp->(Hp->Prop)->Prop:=λo i v H Q=>∃ p xs k j,o=.ref p/\i=.int k/\H p=some (.lst xs)/\Oq xs.length k=some j/\Q (upd H p (.lst (xs.set j v)))
theorem OX:RO X T9:=by
 intro pins s Z H o i v ov iv u Q I ro ri rv h;obtain ⟨p,xs,k,j,rfl,rfl,hp,hj,q⟩:=h;cases ro;obtain ⟨t,rfl⟩:=ri;obtain ⟨its,n,r,ho,hz⟩:=I.lst hp;obtain ⟨h1,h2,h3,h4⟩:=LZ hj;have hl:=r.length;have hn:=qM
 have I':Inv X pins Z (upd H p (.lst (xs.set j v))) { s with heap:=s.heap.update p (bO (·.setIfInBounds j u)) } :=
  I.Wx hp ho (Kv its n j u) (r.set rv j) (by rw [List.length_set];exact hz) s.toks
 by_cases h0:0<=k
 .have hk:k.toNat=j:=by
   rw [WI h0 h4] at h1;exact a7 h1
  exact PySem.W.ki_setAt ho h0 (by lia) (by rw [aI,← hl];exact h4) (by rw [hk];exact ⟨_,I',q⟩)
 .have hk:(k+(its.toArray.size:Int)).toNat=j:=by
   rw [seqIndex_neg (by lia) h3] at h1;rw [aI,← hl];exact a7 h1
  exact PySem.W.ki_setBack ho (by lia) (by rw [aI,← hl];exact h3) (by lia) (by rw [hk];exact ⟨_,I',q⟩)
theorem FD (lo hi:Option Int) (n:Nat):(oB lo hi none n).1=((HT.Hb n 0 lo:Nat):Int)/\(oB lo hi none n).2.1=((HT.Hb n n hi:Nat):Int)/\(oB lo hi none n).2.2=1:=by
 refine ⟨?_,?_,rfl⟩
 .cases lo with
  | none=>simp [oB,HT.Hb]
  | some i =>
   simp only [oB,HT.Hb,RD,show (1:Int)>0 by decide,if_true]
   by_cases h:i<0
   .simp only [h,if_true]<;>lia
   .simp only [h,if_false]<;>lia
 .cases hi with
  | none=>simp [oB,HT.Hb]
  | some i =>
   simp only [oB,HT.Hb,RD,show (1:Int)>0 by decide,if_true]
   by_cases h:i<0
   .simp only [h,if_true]<;>lia
   .simp only [h,if_false]<;>lia
theorem C4 (its:List aj) (lo hi:Option Int):slicePick its.toArray lo hi none=((its.drop (HT.Hb its.length 0 lo)).take (HT.Hb its.length its.length hi-HT.Hb its.length 0 lo)).toArray:=by
 obtain ⟨h1,h2,h3⟩:=FD lo hi its.toArray.size;unfold slicePick;rw [h1,h2,h3];simp only [sliceRange_one,pick_run,aI]<;>rfl
def pM (K:aa):V->Option Int->Option Int->Hp->VK->Prop:=λx lo hi H Q=>∃ a xs,x=.ref a/\cL K H a xs/\∀ p,H p=none->Q (.ref p) (upd H p (.lst (AU xs lo hi)))
theorem vT:SlR X (pM X.K):=by
 intro pins s Z H x v vl vu lo hi sl Q I rx hs pl pu h;obtain ⟨a,xs,rfl,hx,q⟩:=h;cases rx;obtain ⟨its,r,ht,hz⟩:=I.list hx;have hlen:=r.length;refine ⟨"list",_,slot_list_getitem.lookup,ht.isList.typeIs,?_⟩;refine wpAny_getItem_list_slice ht.isList hs pl pu .none (by simp) ?_ (by rw [aI]<;>lia);rw [C4,← hlen];refine ⟨.ref s.heap.objs.size,_,I.laid (t':=s.toks) (o:=.lst (AU xs lo hi)) (λb ob q=>aq _ q) (ak _) ?_,rfl,q _ (I.eY.fresh (ak _))⟩;exact ⟨bA (HI xs lo hi) hz,_,0,(r.drop (HT.Hb xs.length 0 lo)).take (HT.Hb xs.length xs.length hi-HT.Hb xs.length 0 lo),aJ _ rfl⟩
theorem FE:k8 X (.builtin "len") (λxs H Q=>∃ p ys,xs=[.ref p]/\(cL X.K H p ys\/ie X.K H p ys)/\Q (.int ys.length) H):=by
 intro pins s Z H xs us Q I r h;obtain ⟨p,ys,rfl,hq,q⟩:=h;obtain ⟨u,rfl,rx⟩:=vals1 r;cases rx;have hn:=qM
 rcases hq with hq|hq
 .obtain ⟨its,r',pl,hz⟩:=I.list hq;have hlen:=r'.length;exact Calls.call_len_list pl.isList (by simp only [aI]<;>lia) ⟨.int ys.length,H,I.tok _,⟨s.toks+1,by rw [aI,hlen]⟩,q⟩
 .obtain ⟨its,r',pl,hz⟩:=I.tuple hq;have hlen:=r'.length;exact len_tuple pl (by simp only [aI]<;>lia) ⟨.int ys.length,H,I.tok _,⟨s.toks+1,by rw [aI,hlen]⟩,q⟩
theorem k8.or {f:aj}{r r':List V->Hp->VK->Prop}(h:k8 X f r) (h':k8 X f r'):k8 X f (λxs H Q=>r xs H Q\/r' xs H Q):=by
 intro pins s Z H xs us Q I rs q
 rcases q with q|q
 .exact h pins s Z H xs us Q I rs q
 .exact h' pins s Z H xs us Q I rs q
theorem FF:k8 X (.type "list") (λxs H Q=>∃ p ys,xs=[.ref p]/\(cL X.K H p ys\/ie X.K H p ys)/\∀ l,H l=none->Q (.ref l) (upd H l (.lst ys))):=by
 intro pins s Z H xs us Q I r h;obtain ⟨p,ys,rfl,hq,q⟩:=h;obtain ⟨u,rfl,rx⟩:=vals1 r;cases rx
 have fin:∀ (its:List aj),Vals ys its->ys.length<=aU->∀ (h':cK) (c':Nat),(∀ b o',s.heap.get? b=some o'->h'.get? b=some o') ->
   h'.get? s.heap.objs.size=some { cls:=.type "list",dict:=none,data:=.seq its.toArray c',slots:=#[] }->EP X pins Z Q (.ref s.heap.objs.size) { s with heap:=h' }:=λits r' hz h' c' kp e =>
  ⟨.ref s.heap.objs.size,_,I.laid (t':=s.toks) kp (ak _) (show eX X.prog X.w _ h' _ (.lst ys) from ⟨hz,its,c',r',e⟩),rfl,q _ (I.eY.fresh (ak _))⟩
 rcases hq with hq|hq
 .obtain ⟨its,r',pl,hz⟩:=I.list hq;have hlen:=r'.length;obtain ⟨o,ho,hc,n,hd⟩:=pl.isList;exact call_list_seq p (.inl rfl) ho hc hd (λh' c' kp e=>fin its r' hz h' c' kp e) (by simp only [aI]<;>lia)
 .obtain ⟨its,r',pl,hz⟩:=I.tuple hq;have hlen:=r'.length;obtain ⟨o,ho,hc,n,hd⟩:=pl;exact call_list_seq p (.inr rfl) ho hc hd (λh' c' kp e=>fin its r' hz h' c' kp e) (by simp only [aI]<;>lia)
def ZX (K:aa) (T:String) (x:V) (H:Hp):Prop:=match x with
 | .str _=>T="str"
 | .int _=>T="int"
 | .ref p=>(T="list"/\∃ xs,cL K H p xs)\/(T="tuple"/\∃ o,K.lookup p=some o/\o.cls=.type "tuple"/\o.dict=none) \/
   (T="dict"/\((∃ kvs,H p=some (.dK kvs))\/∃ kvs,H p=some (.dT kvs)))\/(T="set"/\∃ S n,H p=some (.set S n))
 | _=>False
theorem Vw {v:aj}(I:Inv X pins Z H s) (r:RelV x v) (ty:ZX X.K T x H) :
  s.TypeIs v T/\∀ a,v=.ref a->∃ ob,s.heap.get? a=some ob/\ob.dict=none:=by
 cases x with
 | str z =>
  obtain ⟨t,rfl⟩:=r;cases (show T="str" from ty)
  exact ⟨typeIs_str s z t,λ_ e=>nomatch e⟩
 | int i =>
  obtain ⟨t,rfl⟩:=r;cases (show T="int" from ty)
  exact ⟨typeIs_int s i t,λ_ e=>nomatch e⟩
 | ref p =>
  cases r
  rcases ty with ⟨rfl,xs,hq⟩|⟨rfl,o,hk,hc,hd⟩|⟨rfl,hk⟩|⟨rfl,S,n,hk⟩
  .obtain ⟨its,_,pl,_⟩:=I.list hq;refine ⟨pl.isList.typeIs,λa e=>?_⟩;cases e;obtain ⟨o,n,e,c,hd,_⟩:=pl;exact ⟨o,e,hd⟩
  .refine ⟨⟨o,I.xJ p o hk,hc⟩,λa e=>?_⟩;cases e;exact ⟨o,I.xJ _ o hk,hd⟩
  .have z:∃ o,s.heap.get? p=some o/\o.ExactDict:=by
    rcases hk with ⟨kvs,hk⟩|⟨kvs,hk⟩
    .obtain ⟨_,_,_,_,o,_,_,e,ex,_⟩:=I.eY p _ hk;exact ⟨o,e,ex⟩
    .obtain ⟨_,_,_,_,o,_,_,e,ex,_⟩:=I.eY p _ hk;exact ⟨o,e,ex⟩
   obtain ⟨o,e,ex⟩:=z;refine ⟨⟨o,e,ex.1⟩,λa e2=>?_⟩;cases e2;exact ⟨o,e,ex.2.1⟩
  .obtain ⟨o,_,_,_,e,ex,_⟩:=I.eY p _ hk;refine ⟨⟨o,e,ex.1⟩,λa e2=>?_⟩;cases e2
   exact ⟨o,e,ex.2.1⟩
 | _=>exact gX ty
def CP (K:aa) (T:String) (r:V->List V->Hp->VK->Prop) (to:TE) (t:TA):TE:=λZ H Q=>to Z H λx H1=>ZX K T x H1/\t Z H1 λxs H2=>r x xs H2 Q
variable {o:Expr}{es:List Expr}{to:TE}{t:TA}{name:bD}{id:String}{r:V->List V->Hp->VK->Prop}
theorem nO (pa:PlainAttrs T) (slot:Slot T name id) (hty:typeOf (.builtin id)=pure (.type "method_descriptor")) (hm:MtR X id r) (ho:PE X o to) (ha:PA X (e::es) t)
  (hbase:t7 o name X.env (eJ o X.env)=eJ o X.env:=by rfl)
  (hfew:((fS cpos (bu (e::es) X.env)).all (λx=>!x.1) && (Ad cpos (oA [] X.env)).all (λx=>x.1.isSome)
   && decide ((e::es).length+([]:List TH).length+(if ([]:List TH).isEmpty then 0 else 1)<30))=true:=by rfl)
  (hline:(apos.endLine == cpos.line)=true:=by rfl) (hs:bu (e::es) X.env=(false,eJ e X.env)::bu es X.env:=by rfl) (hplain:(fS cpos (bu es X.env)).any (·.1)=false:=by rfl) :
  PE X (.Call (.Attribute o name apos) (e::es) [] cpos) (CP X.K T r to t):=by
 intro pins s Z H Q I h;refine wpAny_Call_method_late hbase hfew hline rfl (gR (ho pins s Z H _ I h) λv s1 ⟨x,H1,I1,r1,ty,q1⟩=>?_);obtain ⟨h1,h2⟩:=Vw I1 r1 ty;refine ⟨T,id,pa,slot,hty,h1,h2,?_⟩;have hA:=ha cpos pins s1 Z H1 _ I1 q1;rw [hs] at hA ⊢;refine Calls.callWith_builtin (by show (false || (fS cpos (bu es X.env)).any (·.1))=false;rw [hplain]<;>rfl) (Calls.evalArgs_plain ?_);exact gR hA λus s2 ⟨vs,H2,I2,r2,q2⟩=>hm pins s2 Z H2 x vs v us Q I2 r1 r2 q2
end
def Rz (X:Cx) (id:String) (r:V->List V->Hp->VK->Prop):Prop :=
 ∀ (pins:List (ag×jk)) (s:ax) (Z:St) (H:Hp) (x:V) (xs:List V) (v:aj) (us:List aj) (Q:VK),Inv X pins Z H s->RelV x v->Vals xs us->r x xs H Q ->
  aK (aL X.prog X.w) X.A (call (.builtin id) (v::us)) (EP X pins Z Q) X.xe s
theorem Vals.one (h:Vals [x] us):∃ u,us=[u]/\RelV x u:=by
 cases h with
 | cons r t=>cases t;exact ⟨_,rfl,r⟩
section
variable {l:ag}{zs:List V}
theorem Inv.YX {f:Array aj->Array aj}(I:Inv X pins Z H s) (hH:H l=some (.lst xs))
  (e:s.heap.get? l=some { cls:=.type "list",data:=.seq its.toArray n }) (hf:f its.toArray=its'.toArray) (hv:Vals ys its') (hz:ys.length<=aU) :
  Inv X pins Z (upd H l (.lst ys)) { s with heap:=s.heap.update l (bO f),toks:=t' }:=by
 have q:=PySem.IsL.update e f;rw [hf] at q;refine I.write (x:=l) (e:=l) (by rw [hH];exact trivial) (.inl rfl) (λb' u hb hu=>(bE s.heap (bO f) (Ne.symm hb)).trans hu) ⟨_,q⟩ ?_;exact ⟨hz,its',_,hv,q⟩
theorem Inv.YK (I:Inv X pins Z H s) (hv:Vals ys its) (hz:ys.length<=aU) :
  Inv X pins Z (upd H s.heap.objs.size (.lst ys)) { s with heap:=s.heap.push { cls:=.type "list",data:=.seq its.toArray },toks:=t' } :=
 I.laid (λ_ _ q=>aq _ q) (ak _) ⟨hz,its,0,hv,aJ _ rfl⟩
theorem Inv.fresh (I:Inv X pins Z H s):H s.heap.objs.size=none:=I.eY.fresh (ak _)
theorem Inv.Rb (I:Inv X pins Z H s) (hH:H l=some (.lst xs)):xs.length<=aU/\∃ (its:List aj) (n:Nat),Vals xs its/\xs.length=its.length/\s.heap.get? l=some { cls:=.type "list",data:=.seq its.toArray n }:=by
 obtain ⟨z,its,n,r,e⟩:=I.eY l _ hH;exact ⟨z,its,n,r,r.length,e⟩
theorem OY (h:n<=aU):nE n=false:=by
 unfold nE;exact decide_eq_false (by lia)
end
def jz:V->List V->Hp->VK->Prop:=λx vs H Q=>∃ l xs y,x=.ref l/\vs=[y]/\H l=some (.lst xs)/\xs.length<aU/\Q .non (upd H l (.lst (xs++[y])))
theorem lj:Rz X "list.append" jz:=by
 intro pins s Z H x vs v us Q I rx rv h;obtain ⟨l,xs,y,rfl,rfl,hH,hz,q⟩:=h;cases rx;obtain ⟨u,rfl,ru⟩:=rv.one;obtain ⟨z,its,n,r,hl,e⟩:=I.Rb hH;refine N6 F.slot_list_append ⟨_,e,rfl⟩ F.entry_list_append (F.args_list_append_2 _ _) (PySem.list_append l its.toArray n u (by rw [aI];lia)) ⟨e,?_⟩;refine ⟨.non,_,I.YX (its':=its++[u]) hH e (by simp) (r.append (.cons ru .nil)) ?_,rfl,q⟩;rw [bg,N7];lia
def FG:V->List V->Hp->VK->Prop:=λx vs H Q=>∃ l b xs zs,x=.ref l/\vs=[.ref b]/\H l=some (.lst xs)/\H b=some (.lst zs)/\xs.length+zs.length<=aU/\Q .non (upd H l (.lst (xs++zs)))
theorem Ng:Rz X "list.extend" FG:=by
 intro pins s Z H x vs v us Q I rx rv h;obtain ⟨l,b,xs,zs,rfl,rfl,hH,hB,hz,q⟩:=h;cases rx;obtain ⟨u,rfl,ru⟩:=rv.one;cases ru;obtain ⟨z,its,n,r,hl,e⟩:=I.Rb hH;obtain ⟨z2,its2,n2,r2,hl2,e2⟩:=I.Rb hB
 have hsz:its.toArray.size+its2.toArray.size<=aU:=by rw [aI,aI];lia
 have hlong:¬ (!its.toArray.isEmpty && nE (its.toArray.size+its2.toArray.size))=true:=by
  rw [OY hsz,Bool.and_false];exact bx
 refine N6 F.slot_list_extend ⟨_,e,rfl⟩ F.entry_list_extend (F.args_list_extend_2 _ _)
  (AutoSeq1.list_extend_list_list_0 l its.toArray n b its2.toArray n2 hlong (by rw [aI];lia) (by lia)) ⟨e,e2,?_⟩
 refine ⟨.non,_,I.YX (its':=its++its2) hH e (by simp) (r.append r2) ?_,rfl,q⟩;rw [bg];lia
def Xv:R2:=λx y H Q=>∃ l b xs zs,x=.ref l/\y=.ref b/\H l=some (.lst xs)/\H b=some (.lst zs)/\xs.length+zs.length<=aU/\∀ p,H p=none->Q (.ref p) (upd H p (.lst (xs++zs)))
theorem Vx:oC X (lB .Add) Xv:=by
 intro pins s Z H x y v u Q I rx ry h;obtain ⟨l,b,xs,zs,rfl,rfl,hH,hB,hz,q⟩:=h;cases rx;cases ry;obtain ⟨z,its,n,r,hl,e⟩:=I.Rb hH;obtain ⟨z2,its2,n2,r2,hl2,e2⟩:=I.Rb hB;refine PySem.P.add_list e e2 ?_ (by rw [aI,aI];lia)
 have ea:its.toArray++its2.toArray=(its++its2).toArray:=by simp
 rw [ea];exact ⟨.ref _,_,I.YK (t':=s.toks) (r.append r2) (by rw [bg];lia),rfl,q _ I.fresh⟩
section
variable {prog:bB}
end
section
variable {κ:Type} [DecidableEq κ]
def jb (kvs:List (κ×V)) (k:κ):Option V:=(kvs.find? λkv=>decide (kv.1=k)).map (·.2)
def tO (kvs:List (κ×V)) (k:κ) (v:V):List (κ×V) :=
 if (kvs.any λkv=>decide (kv.1=k))=true then kvs.map (λkv=>if kv.1=k then (kv.1,v) else kv) else kvs++[(k,v)]
def oH (kvs:List (κ×V)) (k:κ):List (κ×V):=kvs.filter λkv=>decide (kv.1≠k)
theorem qP {p:κ×V}{r:List (κ×V)}{k:κ}(e:p.1=k):jb (p::r) k=some p.2:=by simp [jb,kK,e]
theorem oI {p:κ×V}{r:List (κ×V)}{k:κ}(e:¬ p.1=k):jb (p::r) k=jb r k:=by simp [jb,kK,e]
theorem qQ (k:κ):∀ kvs:List (κ×V),(kvs.any λkv=>decide (kv.1=k))=(jb kvs k).isSome
 | []=>rfl
 | p::r=>by
  rw [Kb]
  by_cases e:p.1=k
  .simp only [qP e,decide_eq_true e,Bool.true_or,Option.isSome_some]
  .rw [oI e,decide_eq_false e,Bool.false_or];exact qQ k r
theorem yN (kvs:List (κ×V)) (k:κ) (v:V):(tO kvs k v).length<=kvs.length+1:=by
 unfold tO
 split
 .rw [af];lia
 .rw [bg,bI,nC];lia
theorem HL {kvs:List (κ×V)}{k:κ}(v:V) (h:jb kvs k=none):tO kvs k v=kvs++[(k,v)]:=by
 unfold tO;rw [qQ,h];exact if_neg (by decide)
theorem sS.pD {u:Option aj}(r:sS o u):o.isSome=u.isSome:=by
 cases o with
 | none=>cases u with
  | none=>rfl
  | some _=>exact (show False from r).elim
 | some _=>cases u with
  | none=>exact (show False from r).elim
  | some _=>rfl
theorem KV.val {kvs:List (κ×V)}{vs:List (κ×aj)}(r:KV kvs vs) (k:κ):sS (jb kvs k) (GV vs k):=by
 unfold KV at r
 induction r with
 | nil=>exact iI
 | @cons p q ps qs h t ih =>
  obtain ⟨h1,h2⟩:=h
  by_cases e:p.1=k
  .have e':q.1=k:=h1.symm.trans e
   have b:GV (q::qs) k=some q.2:=by simp [GV,kK,e']
   rw [qP e,b];exact h2
  .have e':¬ q.1=k:=λz=>e (h1.trans z)
   have b:GV (q::qs) k=GV qs k:=by simp [GV,kK,e']
   rw [oI e,b];exact ih
theorem KV.any {kvs:List (κ×V)}{vs:List (κ×aj)}(r:KV kvs vs) (k:κ):(kvs.any λkv=>decide (kv.1=k))=vs.any λkv=>decide (kv.1=k):=by
 unfold KV at r
 induction r with
 | nil=>rfl
 | cons h t ih=>rw [Kb,Kb,ih,h.1]
theorem KV.Wz {kvs:List (κ×V)}{vs:List (κ×aj)}(r:KV kvs vs) (k:κ) {y:V}{u:aj}(ry:RelV y u) :
  KV (kvs.map λkv=>if kv.1=k then (kv.1,y) else kv) (vs.map λkv=>if kv.1=k then (kv.1,u) else kv):=by
 unfold KV at r ⊢
 induction r with
 | nil=>exact .nil
 | @cons p q ps qs h t ih =>
  rw [aW,aW];refine .cons ?_ ih;obtain ⟨h1,h2⟩:=h
  by_cases e:p.1=k
  .rw [if_pos e,if_pos (h1.symm.trans e)];exact ⟨h1,ry⟩
  .rw [if_neg e,if_neg (λz=>e (h1.trans z))];exact ⟨h1,h2⟩
theorem KV.put {kvs:List (κ×V)}{vs:List (κ×aj)}(r:KV kvs vs) (k:κ) {y:V}{u:aj}(ry:RelV y u):KV (tO kvs k y) (stored vs k u):=by
 unfold tO stored;rw [r.any k]
 by_cases e:(vs.any λkv=>decide (kv.1=k))=true
 .rw [if_pos e,if_pos e];exact r.Wz k ry
 .rw [if_neg e,if_neg e];exact Paired.snoc r ⟨rfl,ry⟩
theorem KV.length {kvs:List (κ×V)}{vs:List (κ×aj)}(r:KV kvs vs):kvs.length=vs.length:=xB r
end
theorem HM {k:gG}(r:RelV (kV k) u):(fi P w).is k u=true:=by
 cases k with
 | inl i=>obtain ⟨t,e⟩:=(show ∃ t,u=fj i t from r);subst e;exact Hn P w i t
 | inr x=>obtain ⟨t,e⟩:=(show ∃ t,u=qy x t from r);subst e;exact Ho P w x t
theorem EA:∀ {ks:List gG}{us:List aj},Vals (ks.map kV) us->ItemsAre (fi P w) ks us
 | [],_,r=>by rw [Av] at r;cases r;exact .nil
 | k::ks,_,r=>by
  rw [aW] at r
  cases r with
  | cons h t=>exact .cons (HM h) (EA t)
abbrev KT (H:Hp):List (List gG×V)->List (List gG×ag×aj)->Prop:=Paired λp q=>p.1=q.1/\H q.2.1=some (.tup (p.1.map kV))/\RelV p.2 q.2.2
theorem KT.val {kvs:List (List gG×V)}{xs:List (List gG×ag×aj)}(r:KT H kvs xs) (k:List gG):sS (jb kvs k) ((GW xs k).map (·.2)):=by
 induction r with
 | nil=>exact iI
 | @cons p q ps qs h t ih =>
  obtain ⟨h1,_,h2⟩:=h
  by_cases e:p.1=k
  .have e':q.1=k:=h1.symm.trans e
   have b:GW (q::qs) k=some q.2:=by simp [GW,kK,e']
   rw [qP e,b];exact h2
  .have e':¬ q.1=k:=λz=>e (h1.trans z)
   have b:GW (q::qs) k=GW qs k:=by simp [GW,kK,e']
   rw [oI e,b];exact ih
theorem KT.Wz {kvs:List (List gG×V)}{xs:List (List gG×ag×aj)}(r:KT H kvs xs) (k:List gG) {y:V}{u:aj}(ry:RelV y u) :
  KT H (kvs.map λkv=>if kv.1=k then (kv.1,y) else kv) (xs.map (putAt k u)):=by
 induction r with
 | nil=>exact .nil
 | @cons p q ps qs h t ih =>
  rw [aW,aW];refine .cons ?_ ih;obtain ⟨h1,h2,h3⟩:=h;unfold putAt
  by_cases e:p.1=k
  .rw [if_pos e,if_pos (h1.symm.trans e)];exact ⟨h1,h2,ry⟩
  .rw [if_neg e,if_neg (λz=>e (h1.trans z))];exact ⟨h1,h2,h3⟩
theorem KT.put {kvs:List (List gG×V)}{xs:List (List gG×ag×aj)}(r:KT H kvs xs) (k:List gG) {b:ag}{y:V}{u:aj}(hb:H b=some (.tup (k.map kV))) (ry:RelV y u) :
  KT H (tO kvs k y) (storedH xs k b u):=by
 have e:(kvs.any λkv=>decide (kv.1=k))=(GW xs k).isSome:=by
  rw [qQ,(r.val k).pD,zy]
 unfold tO storedH;rw [e]
 by_cases q:(GW xs k).isSome=true
 .rw [if_pos q,if_pos q];exact r.Wz k ry
 .rw [if_neg q,if_neg q];exact Paired.snoc r ⟨rfl,hb,ry⟩
theorem KT.keeps {kvs:List (List gG×V)}{xs:List (List gG×ag×aj)}(r:KT H kvs xs) (ht:∀ b ys,H b=some (.tup ys)->H' b=some (.tup ys)):KT H' kvs xs :=
 Paired.NW r λ_ _ z=>⟨z.1,ht _ _ z.2.1,z.2.2⟩
section
variable {h:cK}
theorem Ua {u:HO}(ok:qx P w H h) (e:Rd H a u):eX P w H h a u:=e.ok ok
theorem EB {kvs:List (gG×V)}(ok:qx P w H h) (e:Rd H a (.dK kvs)):kvs.length<=aU/\(a == iY)=false/\∃ vs,KV kvs vs/\h.DictOf (fi P w) a vs :=
 show eX P w H h a (.dK kvs) from Ua ok e
theorem Ub {kvs:List (gG×V)}(ok:qx P w H h) (e:H a=some (.dK kvs)):kvs.length<=aU/\(a == iY)=false/\∃ vs,KV kvs vs/\h.DictOf (fi P w) a vs:=EB ok (.inl e)
theorem qR {ks:List gG}(ok:qx P w H h) (e:H a=some (.tup (ks.map kV))):(kJ (fi P w)).is h ks a:=by
 obtain ⟨_,its,r,o,h1,h2,n,h3⟩:=(show eX P w H h a (.tup (ks.map kV)) from ok a _ e)
 exact ⟨o,its.toArray,n,h1,h2,h3,by simpa using EA r⟩
theorem EC {kvs:List (List gG×V)}(ok:qx P w H h) (e:Rd H a (.dT kvs)):kvs.length<=aU/\(a == iY)=false /\
  ∃ xs,KT H kvs xs/\h.DictOfH (kJ (fi P w)) a xs:=by
 obtain ⟨z,y,xs,r,o,es,ep,h1,h2,h3,h4,h5⟩:=(show eX P w H h a (.dT kvs) from Ua ok e)
 refine ⟨z,y,xs,r,o,es,ep,h1,h2,h3,h4,λx hx=>?_,h5⟩
 have all:∀ {l:List (List gG×V)}{m:List (List gG×ag×aj)},KT H l m->∀ x∈m,(kJ (fi P w)).is h x.1 x.2.1:=by
  intro l m q
  induction q with
  | nil=>intro x hx;exact nomatch hx
  | @cons p q ps qs hq t ih =>
   intro x hx
   rcases au.mp hx with e|hx
   .subst e;exact qR ok (by rw [← hq.1];exact hq.2.1)
   .exact ih x hx
 exact all r x hx
theorem Xw {kvs:List (List gG×V)}(ok:qx P w H h) (e:H a=some (.dT kvs)):kvs.length<=aU/\(a == iY)=false /\
  ∃ xs,KT H kvs xs/\h.DictOfH (kJ (fi P w)) a xs:=EC ok (.inl e)
end
def CJ (H:Hp) (a:ag) (y:V) (r:Option V):Prop :=
 (∃ kvs k,Rd H a (.dK kvs)/\y=kV k/\r=jb kvs k)\/∃ kvs k b,Rd H a (.dT kvs)/\y=.ref b/\H b=some (.tup (k.map kV))/\r=jb kvs k
def CC (H:Hp) (a:ag) (y v:V) (H':Hp):Prop :=
 (∃ kvs k,H a=some (.dK kvs)/\y=kV k/\kvs.length<aU/\H'=upd H a (.dK (tO kvs k v))) \/
 ∃ kvs k b,H a=some (.dT kvs)/\y=.ref b/\H b=some (.tup (k.map kV))/\kvs.length<aU/\H'=upd H a (.dT (tO kvs k v))
theorem CJ.t {kvs:List (List gG×V)}{k:List gG}(e:H a=some (.dT kvs)) (eb:H b=some (.tup (k.map kV))):CJ H a (.ref b) (jb kvs k):=.inr ⟨kvs,k,b,.inl e,rfl,eb,rfl⟩
theorem CC.t {kvs:List (List gG×V)}{k:List gG}(e:H a=some (.dT kvs)) (eb:H b=some (.tup (k.map kV))) (hl:kvs.length<aU) :
  CC H a (.ref b) v (upd H a (.dT (tO kvs k v))):=.inr ⟨kvs,k,b,e,rfl,eb,hl,rfl⟩
section
variable {r:aj}
theorem Inv.big (I:Inv X pins Z H s):iY<s.heap.objs.size:=by
 have h:bM<s.heap.objs.size:=(I.mod.glob.keeps I.bk).lt;exact N8 (by decide) h
theorem ED (hu:A.units+1<gY) (I:Inv X pins Z H s) (g:CJ H a y (some v)) (ry:RelV y u) (h:∀ w' s',Inv X pins Z H s'->RelV v w'->Q w' s') :
  aK (aL X.prog X.w) A (getItem (.ref a) u) Q E s:=by
 rcases g with ⟨kvs,k,e,ey,l⟩|⟨kvs,k,b,e,ey,eb,l⟩
 .subst ey;obtain ⟨z,hd,vs,rel,dd⟩:=EB I.eY e;obtain ⟨w',hw,rw'⟩:=sS.some_of (v:=v) (o:=GV vs k) (by rw [l];exact rel.val k);exact wpAny_getItem_of (HM ry) dd.mapOf hw (h w' _ (I.tok _) rw')
 .subst ey;cases (show u=aB b from ry);obtain ⟨z,hd,xs,rel,dd⟩:=EC I.eY e;obtain ⟨w',hw,rw'⟩:=sS.some_of (v:=v) (o:=(GW xs k).map (·.2)) (by rw [l];exact rel.val k);obtain ⟨p,hp,hp2⟩:=br.mp hw;refine wpAny_getItem_heap (jD hu) (qR I.eY eb) dd hp ?_;rw [hp2];exact h w' _ (I.tok _) rw'
theorem ZY (hu:A.units+1<gY) (I:Inv X pins Z H s) (g:CJ H a y o) (ry:RelV y u) (h:∀ s',Inv X pins Z H s'->Q (.bool o.isSome) s') :
  aK (aL X.prog X.w) A (c8 .In u (.ref a)) Q E s:=by
 rcases g with ⟨kvs,k,e,ey,l⟩|⟨kvs,k,b,e,ey,eb,l⟩
 .subst ey;obtain ⟨z,hd,vs,rel,dd⟩:=EB I.eY e;refine wpAny_in_of (HM ry) hd dd.mapOf ?_;rw [← (rel.val k).pD,← l];exact h _ (I.tok _)
 .subst ey;cases (show u=aB b from ry);obtain ⟨z,hd,xs,rel,dd⟩:=EC I.eY e;refine wpAny_in_heap (jD hu) (qR I.eY eb) hd dd ?_;have q:=(rel.val k).pD;rw [zy] at q;rw [← q,← l];exact h _ (I.tok _)
theorem Si (hu:A.units+1<gY) (I:Inv X pins Z H s) (g:CJ H a y o) (ry:RelV y u) (h:∀ s',Inv X pins Z H s'->Q (.bool (!o.isSome)) s') :
  aK (aL X.prog X.w) A (c8 .NotIn u (.ref a)) Q E s:=by
 rcases g with ⟨kvs,k,e,ey,l⟩|⟨kvs,k,b,e,ey,eb,l⟩
 .subst ey;obtain ⟨z,hd,vs,rel,dd⟩:=EB I.eY e;refine wpAny_notIn_of (HM ry) hd dd.mapOf ?_;rw [← (rel.val k).pD,← l];exact h _ (I.tok _)
 .subst ey;cases (show u=aB b from ry);obtain ⟨z,hd,xs,rel,dd⟩:=EC I.eY e;refine wpAny_notIn_heap (jD hu) (qR I.eY eb) hd dd ?_;have q:=(rel.val k).pD;rw [zy] at q;rw [← q,← l];exact h _ (I.tok _)
theorem FH {ob:HO}(I:Inv X pins Z H s) (mu:Xm (H a)) (hs:gQ a s.heap h') (he:∃ q,h'.get? a=some q) (new:eX X.prog X.w (upd H a ob) h' a ob) :
  Inv X pins Z (upd H a ob) { s with heap:=h',toks:=t' } :=
 I.write (x:=a) (e:=a) mu (.inl rfl) (λb q hb z=>(hs.2 b hb).trans z) he new
theorem Vy {kvs:List (gG×V)}{vs:List (gG×aj)}(z:kvs.length<=aU) (hd:(a == iY)=false) (rel:KV kvs vs) (dd:h'.DictOf (fi P w) a vs) :
  eX P w H' h' a (.dK kvs):=⟨z,hd,vs,rel,dd⟩
theorem EE {Q:Unit->ax->Prop}(hu:A.units+1<gY) (I:Inv X pins Z H s) (g:CC H a y v H') (ry:RelV y u) (rv:RelV v r) (h:∀ s',Inv X pins Z H' s'->Q () s') :
  aK (aL X.prog X.w) A (setItem (.ref a) u r) Q E s:=by
 rcases g with ⟨kvs,k,e,ey,l,eH⟩|⟨kvs,k,b,e,ey,eb,l,eH⟩
 .subst ey eH;obtain ⟨z,hd,vs,rel,dd⟩:=Ub I.eY e
  have hz:vs.length<=aU:=by rw [← rel.length];exact z
  have hl:(tO kvs k v).length<=aU:=by have:=yN kvs k v;lia
  refine wpAny_setItem_pairs (hsz:=hz) (HM ry) dd λh' dd' hs=>h _ ?_
  have he:∃ q,h'.get? a=some q:=let ⟨q,_,_,hq,_⟩:=dd';⟨q,hq⟩
  exact FH I (by rw [e];exact iI) hs he (Vy hl hd (rel.put k rv) dd')
 .subst ey eH;cases (show u=aB b from ry);obtain ⟨z,hd,xs,rel,dd⟩:=Xw I.eY e
  have hz:xs.length<=aU:=by rw [← xB rel];exact z
  have hl:(tO kvs k v).length<=aU:=by have:=yN kvs k v;lia
  refine wpAny_setItem_heap (hsz:=hz) (jD hu) (qR I.eY eb) dd λh' dd' hs=>h _ ?_;obtain ⟨q,es,ep,hq,h2,h3,h4,_,h5⟩:=dd';refine FH I (by rw [e];exact iI) hs ⟨q,hq⟩ ⟨hl,hd,_,(rel.put k eb rv).keeps λc ys ec=>?_,q,es,ep,hq,h2,h3,h4,h5⟩;rw [aG (gK ec e (λz=>nomatch z))];exact ec
end
section
variable {kvs:List (gG×V)}{k:gG}
theorem Xx (I:Inv X pins Z H s) (e:Rd H a (.dK kvs)) (h:∀ t s',Inv X pins Z H s'->Q (.int kvs.length t) s'):aK (aL X.prog X.w) A (call (.builtin "len") [.ref a]) Q E s:=by
 obtain ⟨z,hd,vs,rel,dd⟩:=EB I.eY e;refine call_len_dict hd dd (by rw [← rel.length];rw [tE] at z;lia) ?_;rw [← rel.length];exact h _ _ (I.tok _)
end
theorem HN (I:Inv X pins Z H s) (g:CJ H a y o):s.TypeIs (.ref a) "dict":=by
 rcases g with ⟨kvs,k,e,_,_⟩|⟨kvs,k,b,e,_,_,_⟩
 .obtain ⟨_,_,vs,_,dd⟩:=EB I.eY e;exact dd.typeIs
 .obtain ⟨_,_,xs,_,dd⟩:=EC I.eY e;exact dd.typeIs
def Uc (td ty tv:TE) (rd:V->V->Hp->VK->Prop):TS:=λD Z H=>td Z H λx H1=>ty Z H1 λy H2=>∃ a v,x=.ref a/\CJ H2 a y (some v) /\
 tv Z H2 λy2 H3=>rd v y2 H3 λz H4=>∃ H5,CC H4 a y z H5/\D.nx Z H5
section
variable {o i value:Expr}{pos' tpos:sT}{td ty tv:TE}
theorem Sj {op:Aa}{rd:V->V->Hp->VK->Prop}(hu:X.A.units+1<gY) (ho:PE X o td) (hi:PE X i ty) (hv:PE X value tv) (hop:Vt X op rd)
  (ha:∀ ov iv new,augStore i ov iv new=(do jC [new,ov,iv] (setItem ov iv new);release [new,ov,iv] [];pure .next)):PS X (.AugAssign (.Subscript o i tpos) op value pos) (Uc td ty tv rd):=by
 intro pins s Z H D I h;refine wpAny_AugAssign_SubscriptAny (gR (ho pins s Z H _ I h) λu s1 ⟨x,H1,I1,rx,q1⟩=>gR (hi pins s1 Z H1 _ I1 q1) λiv s2 ⟨y,H2,I2,ry,a,v,ex,g,q2⟩=>?_) ha;subst ex;obtain rfl:u=aB a:=rx;refine ED hu I2 g ry λw' s3 I3 rw'=>gR (hv pins s3 Z H2 _ I3 q2) λw2 s4 ⟨y2,H3,I4,ry2,q3⟩=>gR (hop pins s4 Z H3 v y2 w' w2 _ I4 rw' ry2 q3) λw3 s5 ⟨z,H4,I5,rz,H5,g5,q4⟩=>?_
 exact EE hu I5 g5 ry rz λs6 I6=>⟨Z,H5,I6,q4⟩
end
theorem OZ (h:cK) (hb:iY<h.objs.size):eX P w H (h.push { cls:=.type "dict",data:=.dict #[] }) h.objs.size (.dT []) :=
 ⟨aM _,beq_eq_false_iff_ne.mpr (Ne.symm (a6 hb)),[],.nil,_,#[],0,aJ _ rfl,⟨rfl,rfl,rfl⟩,rfl,rfl,lN⟩
def xY:TE:=λ_ H Q=>∀ p,H p=none->Q (.ref p) (upd H p (.dT []))
theorem O0:PE X (.Dict [] [] pos) xY:=λpins s Z H Q I h =>
 wpAny_Dict_empty ⟨.ref s.heap.objs.size,_,I.laid (a:=s.heap.objs.size) (o:=.dT []) (t':=s.toks) (λ_ _ q=>aq _ q) (ak _) (OZ s.heap I.big),rfl,h _ (I.eY.fresh (ak _))⟩
section
variable {d:V}{r:aj}
end
section
variable {o f:Expr}{td ty tx:TE}
end
section
variable {kvs:List (gG×V)}
end
end L2
namespace Att
open PySem PySem.W PySem.Calls PyProof.Rows
theorem zC {P:Params}{h:cK}:∀ (ns:List Int) (vs:List aj),WellAll P h vs (ns.map WData.int)->eN vs ns:=by
 intro ns
 induction ns with
 | nil =>
  intro vs w;rw [Av] at w;cases w
  exact .nil
 | cons n ns ih =>
  intro vs w;rw [aW] at w
  cases w with
  | cons a b =>
   cases a;exact .cons _ _ (ih _ b)
theorem Nh {l:qt}{n:Nat}(hn:l.most=some n) {P:Params}{h:cK}{args:List WData}{vals:List aj}
  (hpre:l.row.toRowW.claim.pre args=true) (hwl:WellAll P h vals args) :
  ∃ a vs ns,vals=[aB a]/\args=[WData.list (ns.map WData.int)]/\h.get? a=some { cls:=.type "list",data:=.seq vs.toArray }/\eN vs ns/\ns.length<=n:=by
 have hsh:WShape.hasAll [] args [.list .int]=true:=(pre_splitW hpre).1;have hc:l.pre.holds [] { args:=args }=true:=(pre_splitW hpre).2;obtain ⟨d,r,rfl,h1,h2⟩:=hasAllW_cons hsh;obtain rfl:=hasAllW_nil h2;obtain ⟨xs,rfl,h3⟩:=hasW_list h1;obtain ⟨ns,rfl⟩:=items_int h3
 have hlen:ns.length<=n:=by
  unfold OpenLaw.pre at hc
  have h4:(WTm.not (.lt (.lit (.int (n:Int))) (.len (.arg 0)))).holds [] { args:=[.list (ns.map .int)] }=true:=by
   have h4:=(holds_andW hc).1;rw [hn] at h4;exact h4
  have h5:=condW_of h4 (w_not (w_lt w_lit (w_len_list (w_arg rfl))));rw [af] at h5;refine mK λq=>?_
  have q':(n:Int)<((ns.length:Nat):Int):=by lia
  first
   | (rw [decide_eq_true q'] at h5;exact absurd h5 (by decide))
   | (simp at h5;lia)
 cases hwl with
 | cons w1 w2 =>
  cases w2
  cases w1 with
  | list ho hall=>exact ⟨_,_,ns,rfl,rfl,ho,zC ns _ hall,hlen⟩
theorem Ni (l:qt) (args:List WData):l.row.toRowW.claim.post args (.bool true) args=true :=
 postW_of (r:=l.row.toRowW) (X:=(true == true))
  (show WShape.has [] (.bool true) .bool=true by first|rfl|decide|simp [WShape.has,WShape.arms,WShape.armsAll])
  (show (WTm.eq .res (.lit (.bool true))).value [] { args:=args,res:=some (.bool true),after:=args }=some (.bool (true == true)) from w_eq_bool (w_res rfl) w_lit) rfl
theorem HP {l:qt}{n:Nat}{q:bB}{loose:List bD}{XP:(bD->Option aj)->cK->Prop}{YP:ck->cK->Prop}{d:DefRec}
  (hn:l.most=some n) (hdf:d.params.defaults=[])
  (call:∀ (w:ck) (s₀ s₁:ax) (mg mb:bD->Option aj) (fa:ag) (o:jk) (pm cd doc:aj) (a:ag) (vs:List aj) (ns:List Int),
   Ground q loose [] XP w s₀ mg mb s₁.heap->YP w s₁.heap ->
   s₁.heap.get? fa=some o->o.data=.func (docDef d.name d.params d.body d.scope pm cd doc)->s₁.heap.CodeRec cd d.name->mg d.name=some (.ref fa) ->
   s₁.heap.get? a=some { cls:=.type "list",data:=.seq vs.toArray }->eN vs ns->ns.length<=n->s₁.gens=#[] ->
   jS (aL l.prog w) GX (.call (.ref fa) ⟨[.ref a],[]⟩) (λr s'=>r=.ok (.ret (.bool true))/\OldK s₁.heap s'.heap/\s'.os=s₁.os/\xC s'.gens) s₁) :
  Rj q loose XP YP l.row.toRowW d [] (λf vs=>Rk f vs):=by
 intro w s₀ s₁ mg mb G Y fa o pm cd doc dV kV ho hd hcd hD hmg hg args vals as hpre hlay hrd hwl hlo;obtain rfl:dV=.none:=Dflts.none hD hdf;obtain rfl:kV=.none:=Dflts.noKw hD;obtain ⟨a,vs,ns,rfl,rfl,hobj,hints,hlen⟩:=Nh hn hpre hwl;refine enter_call (mJ (call w s₀ s₁ mg mb fa o pm cd doc a vs ns G Y ho (fd_plain hd) hcd hmg hobj hints hlen hg) λr s' hq=>?_);obtain ⟨rfl,h2,h3,h4⟩:=hq;exact ⟨.inl ⟨.bool true,.bool true,[],rfl,λ_=>rfl,.bool true,Ni l _,λ_=>⟨mT,λ_ hm=>(nomatch hm)⟩⟩,h2,h3,h4⟩
section
variable {prog:bB}{w:ck}{A:cM}{E:aj->ax->Prop}{s:ax}{K:aa}
end
end Att
namespace L2
variable {H H':Hp}{K:aa}{X:Cx}{xs:List V}{v:V}{scope:pH}{i j:Int}{Z:St}{x qual y:bD}{s:ax}{pins:List (ag×jk)}{p a f:ag}{elt iter tg:Expr}{ifs:List Expr}{pos:sT}{st:dB}{N ps own ys:List bD}{env:He}{ds:List PyData}{fd:fz}{sp:Sp}{cells:List (bD×ag)}{js:List Nat}{g:TG}{te to:TE}{Q:VK}{R:St->Hp->Prop}{w:ck}
theorem xZ:∀ {vs:List aj}{ns:List Int},eN vs ns->Vals (ns.map V.int) vs
 | _,_,.nil=>.nil
 | _,_,.cons n t h=>.cons ⟨t,rfl⟩ (xZ h)
def ee (s:dB) (j:Nat):dB:=match s with
 | .ClassDef _ _ _ body _ _ _ _ _ _ _=>body.getD j (.Pass ⟨0,0,0,0⟩)
 | _=>.Pass ⟨0,0,0,0⟩
def nQ (s:dB):nK:=match s with
 | .FunctionDef _ a _ _ _ _ _ _ _ _=>a
 | _=>{ posonlyargs:=[],args:=[],vararg:=none,kwonlyargs:=[],kw_defaults:=[],kwarg:=none,defaults:=[] }
def jR (s:dB):List dB:=match s with
 | .FunctionDef _ _ b _ _ _ _ _ _ _=>b
 | _=>[]
def aV (s:dB):pH:=match s with
 | .FunctionDef _ _ _ _ _ _ sc _ _ _=>sc
 | _=>{ kind:=.function,names:=[],isGenerator:=false,isCoroutine:=false }
abbrev Hc:HE:=λ_ _ _ _ _ _=>False
abbrev E0:XK:=λ_ _ _=>False
theorem qS:mW Hc X E0:=λ_ _ _ _ _ _ _ h=>h.elim
structure LB (K:aa) (x qual:bD) (st:dB) (f:ag) (fd:fz):Prop where
 ex:∃ (oc:aj) (od:Option ag) (kV doc pm:aj) (an:Option ag) (nB ct:aj) (osl:Array (Option aj)),
  fd=il x qual (nQ st) (jR st) (aV st) .none kV doc pm an nB ct/\K.lookup f=some ⟨oc,od,.func fd,osl⟩/\nM K nB qual=true
 kp:dN K (.ref f)=true
section
variable {P:bB}{mg:bD->Option aj}{base:cK}
theorem LB.ok {k:Nat}(F:LB K x qual st f fd) (S:bK N ps (aV st)) (len:∀ vs H Q E,sp vs H Q E->vs.length=ps.length)
  (hbody:∀ (nB:aj) (A:cM) (outer:List He) (s:ax) (H:Hp) (vs:List V) (Q:VK) (E:XK),gU k (A.deeper (uc qual (aV st) s.heap.objs.size f nB))->sp vs H Q E ->
   ∃ t,J8 (FC Hc P w K mg base N qual (aV st) f nB A outer s H E).UV (jR st) t/\t { nx:=λ_ H'=>Q .non H',rt:=Q } (start N vs) H):kF P w K mg base Hc (k+1) f fd ps sp:=by
 obtain ⟨oc,od,kV,doc,pm,an,nB,ct,osl,rfl,lk,hcd⟩:=F.ex;refine T8 lk hcd S len λA outer s H vs Q E hr hsp=>?_;obtain ⟨t,h,q⟩:=hbody nB A outer s H vs Q E hr hsp;exact ⟨t,h.UV,q⟩
theorem LB.binds (F:LB K x qual st f fd)
  (h:∀ (kV doc pm:aj) (an:Option ag) (nB ct:aj) (us:List aj),us.length=ps.length->Ab (il x qual (nQ st) (jR st) (aV st) .none kV doc pm an nB ct) ⟨us,[]⟩=pure (ps.zip us)):Binds K fd ps []:=by
 obtain ⟨oc,od,kV,doc,pm,an,nB,ct,osl,rfl,lk,hcd⟩:=F.ex;exact .all (h kV doc pm an nB ct)
theorem FI {oc:aj}{od an:Option ag}{osl:Array (Option aj)}{kV doc pm nB ct:aj}(l:K.lookup f=some ⟨oc,od,.func (il x qual (nQ st) (jR st) (aV st) .none kV doc pm an nB ct),osl⟩)
  (c:nM K nB qual=true) (k:dN K (.ref f)=true):LB K x qual st f (il x qual (nQ st) (jR st) (aV st) .none kV doc pm an nB ct):=⟨⟨oc,od,kV,doc,pm,an,nB,ct,osl,rfl,l,c⟩,k⟩
end
theorem pv (i:Nat) {x:bD}{pos:sT}(hN:X.N[i]?=some x:=by rfl) (hv:Zj X.env.scope x:=by first|exact Or.inl rfl|exact Or.inr (Or.inl rfl)|exact Or.inr (Or.inr rfl)) (hd:(x == ("__debug__":bD))=false:=by decide)
  (hcd:(x == ("__classdict__":bD))=false:=by decide):PE X (.Name x pos) (ao i):=Vl hN hv hd hcd
theorem mX {A B:Prop}(h:B):if false=true then A else B:=by
 rw [if_neg bx];exact h
theorem mD {A B:Prop}(h:A):if true=true then A else B:=by
 rw [if_pos rfl];exact h
def bQ (H H':Hp):Prop:=∀ b o,H b=some o->H' b=some o
theorem bQ.trans {H1 H2:Hp}(a:bQ H H1) (b:bQ H1 H2):bQ H H2:=λc o h=>b c o (a c o h)
theorem bQ.free (e:bQ H H') {l:ag}(h:H' l=Option.none):H l=Option.none:=by
 cases q:H l with
 | none=>rfl
 | some o =>
  rw [e l o q] at h;cases h
theorem bQ.seq (e:bQ H H') (h:cL K H a xs):cL K H' a xs:=by
 rcases h with (h|⟨o,h⟩)|h
 .exact .inl (.inl (e _ _ h))
 .exact .inl (.inr ⟨o,e _ _ h⟩)
 .exact .inr h
theorem Nj:k8 X (.builtin "len") (λxs H Q=>∃ a kvs,xs=[V.ref a]/\H a=some (.dK kvs)/\Q (.int kvs.length) H):=by
 intro pins s Z H xs us Q I r h;obtain ⟨a,kvs,rfl,ha,q⟩:=h;obtain ⟨u,rfl,ru⟩:=vals1 r;cases ru
 exact Xx I (.inl ha) λt s' I'=>⟨.int kvs.length,H,I',⟨t,rfl⟩,q⟩
section
variable {κ:Type} [DecidableEq κ]
theorem Sk {kvs:List (κ×V)}{k:κ}(h:jb kvs k=some v):k∈kvs.map (·.1):=by
 have q:(kvs.any λkv=>decide (kv.1=k))=true:=by
  rw [qQ,h]
  all_goals rfl
 obtain ⟨p,hp,e⟩:=qE.mp q;exact bo.mpr ⟨p,hp,of_decide_eq_true e⟩
theorem L3:∀ {l:List κ}{k:κ},l.Nodup->¬ k∈l->(l++[k]).Nodup
 | [],k,_,_=>by simp
 | a::r,k,h,hk=>by
  obtain ⟨h1,h2⟩:=bb.mp h
  show (a::(r++[k])).Nodup
  refine bb.mpr ⟨λm=>?_,L3 h2 λm=>hk (au.mpr (Or.inr m))⟩
  rcases aS.mp m with q|q
  .exact h1 q
  .exact hk (au.mpr (Or.inl (aC.mp q).symm))
theorem Nk {p:κ×V}{r:List (κ×V)}{k:κ}(e:p.1=k):oH (p::r) k=oH r k:=by
 unfold oH;rw [jT,if_neg (by simp [e])]
theorem EF {p:κ×V}{r:List (κ×V)}{k:κ}(e:¬ p.1=k):oH (p::r) k=p::oH r k:=by
 unfold oH;rw [jT,if_pos (by simp [e])]
theorem HQ:∀ {kvs:List (κ×V)}{k:κ},¬ k∈kvs.map (·.1)->oH kvs k=kvs
 | [],_,_=>rfl
 | p::r,k,h=>by
  have h':¬ k∈r.map (·.1):=λm=>by
   obtain ⟨q,hq,e⟩:=bo.mp m;exact h (bo.mpr ⟨q,au.mpr (Or.inr hq),e⟩)
  rw [EF λe=>h (bo.mpr ⟨p,au.mpr (Or.inl rfl),e⟩),HQ h']
end
def nG (cells:List (bD×ag)):List (bD×mH)->List (bD×ag)->List (bD×ag)
 | [],acc=>acc
 | (n,k)::r,acc=>nG cells r (if k == .free then (n,(cells.lookup n).getD 0)::acc else acc)
theorem u9:∀ (names:List (bD×mH)) (acc:List (bD×ag)),(∀ n,(n,bL)∈names->∃ c,env.cells.lookup n=some c) ->
  (forIn names acc λ(x:bD×mH) (r:List (bD×ag))=>(if x.2 == .free then (cellOf env x.1 >>= λc=>pure (i5 ((x.1,c)::r))) else pure (i5 r):Xb (ForInStep (List (bD×ag)))))=pure (nG env.cells names acc)
 | [],acc,_=>rfl
 | (n,k)::r,acc,h=>by
  rw [ud];have hr:∀ n,(n,bL)∈r->∃ c,env.cells.lookup n=some c:=λn hn=>h n (ai _ hn)
  cases hk:k == bL with
  | false =>
   simp only [hk,bW,if_false,pure_bind];rw [u9 r acc hr]
   show _=pure (nG env.cells r (if k == bL then _ else acc))
   rw [hk];rfl
  | true =>
   have e:k=.free:=by simpa using hk
   subst e;obtain ⟨c,hc⟩:=h n aw
   have e2:cellOf env n=pure c:=by unfold cellOf;rw [hc]
   simp only [hk,if_true,e2,pure_bind];rw [u9 r _ hr]
   show _=pure (nG env.cells r (if bL == bL then (n,(env.cells.lookup n).getD 0)::acc else acc))
   rw [hc];rfl
theorem vc (h:∀ n,(n,bL)∈scope.names->∃ c,env.cells.lookup n=some c):closureFor scope env=pure (nG env.cells scope.names []):=by
 have e:=u9 (env:=env) scope.names [] h;unfold closureFor;rw [← bind_pure (pure (nG env.cells scope.names []):Xb _),← e]
theorem jZ {c:ag}:∀ (names:List (bD×mH)) (acc:List (bD×ag)),(∀ n,(n,bL)∈names->∃ c,cells.lookup n=some c) ->
  (nG cells names acc).lookup x=some c->cells.lookup x=some c\/acc.lookup x=some c
 | [],acc,_,h=>.inr h
 | (n,k)::r,acc,hf,h=>by
  have hr:∀ n,(n,bL)∈r->∃ c,cells.lookup n=some c:=λn hn=>hf n (ai _ hn);unfold nG at h
  rcases jZ r _ hr h with z|z
  .exact .inl z
  .cases hk:k == bL with
   | false=>rw [hk] at z;exact .inr z
   | true =>
    have e:k=.free:=by simpa using hk
    subst e;obtain ⟨d,hd⟩:=hf n aw;rw [hk,if_pos rfl,hd] at z
    by_cases hx:x=n
    .subst hx;rw [cG,beq_self_eq_true] at z;exact .inl (by rw [hd];exact z)
    .rw [cG,beq_false_of_ne hx] at z;exact .inr z
theorem vU:∀ (names:List (bD×mH)) (acc:List (bD×ag)),((x,bL)∈names\/∃ c,acc.lookup x=some c)->∃ c,(nG cells names acc).lookup x=some c
 | [],acc,h=>h.elim (λz=>nomatch z) λz=>z
 | (n,k)::r,acc,h=>by
  unfold nG;refine vU r _ ?_
  rcases h with z|⟨c,z⟩
  .rcases au.mp z with e|z
   .have e1:n=x:=(cS e).1.symm;have e2:k=.free:=(cS e).2.symm;subst e1 e2;exact .inr ⟨_,by rw [if_pos (by rfl),cG,beq_self_eq_true]⟩
   .exact .inl z
  .refine .inr ?_
   split
   .rw [cG];cases x == n
    .exact ⟨c,z⟩
    .exact ⟨_,rfl⟩
   .exact ⟨c,z⟩
theorem vV {env:He}{x:bD}{k:mH}:∀ {names:List (bD×mH)},
  (names.map λ(n,k)=>if (k == bL && env.scope.kind == .function && env.kindOf n == some .cell) then (n,gI) else (n,k)).lookup x=some k ->
   ∃ k0,names.lookup x=some k0/\(k=k0\/(k0=.free/\k=.cell))
 | [],h=>by simp at h
 | (n,k1)::r,h=>by
  have ih:=@vV env x k r;have h:dC x ((if (k1 == bL && env.scope.kind == .function && env.kindOf n == some .cell)=true then (n,gI) else (n,k1))::r.map λ(n,k)=>if (k == bL && env.scope.kind == .function && env.kindOf n == some .cell) then (n,gI) else (n,k))=some k:=h
  by_cases hc:(k1 == bL && env.scope.kind == .function && env.kindOf n == some .cell)=true
  .rw [if_pos hc,cG] at h;rw [cG]
   have e:k1=.free:=by
    rw [jU,jU] at hc
    simpa using hc.1.1
   cases hx:x == n with
   | true=>rw [hx] at h;exact ⟨k1,rfl,.inr ⟨e,(a7 h).symm⟩⟩
   | false=>rw [hx] at h;exact ih h
  .rw [if_neg hc,cG] at h;rw [cG]
   cases hx:x == n with
   | true=>rw [hx] at h;exact ⟨k1,rfl,.inl (a7 h).symm⟩
   | false=>rw [hx] at h;exact ih h
theorem yO {env:He}{x:bD}:∀ {names:List (bD×mH)},names.lookup x=some .free ->
  (names.map λ(n,k)=>if (k == bL && env.scope.kind == .function && env.kindOf n == some .cell) then (n,gI) else (n,k)).lookup x=some .free \/
  (names.map λ(n,k)=>if (k == bL && env.scope.kind == .function && env.kindOf n == some .cell) then (n,gI) else (n,k)).lookup x=some .cell
 | [],h=>by simp at h
 | (n,k1)::r,h=>by
  have ih:=@yO env x r
  show dC x ((if (k1 == bL && env.scope.kind == .function && env.kindOf n == some .cell)=true then (n,gI) else (n,k1))::r.map λ(n,k)=>if (k == bL && env.scope.kind == .function && env.kindOf n == some .cell) then (n,gI) else (n,k))=some .free \/
   dC x ((if (k1 == bL && env.scope.kind == .function && env.kindOf n == some .cell)=true then (n,gI) else (n,k1))::r.map λ(n,k)=>if (k == bL && env.scope.kind == .function && env.kindOf n == some .cell) then (n,gI) else (n,k))=some .cell
  rw [cG] at h
  by_cases hc:(k1 == bL && env.scope.kind == .function && env.kindOf n == some .cell)=true
  .rw [if_pos hc,cG]
   cases hx:x == n with
   | true=>exact .inr rfl
   | false=>rw [hx] at h;exact ih h
  .rw [if_neg hc,cG]
   cases hx:x == n with
   | true=>rw [hx] at h;exact .inl h
   | false=>rw [hx] at h;exact ih h
theorem mem_of_lookup {k:mH}:∀ {names:List (bD×mH)},names.lookup x=some k->(x,k)∈names
 | [],h=>by simp at h
 | (n,k1)::r,h=>by
  rw [cG] at h
  cases hx:x == n with
  | true =>
   rw [hx] at h
   have e:x=n:=by simpa using hx
   rw [e,a7 h];exact aw
  | false=>rw [hx] at h;exact ai _ (mem_of_lookup h)
def FJ (X:Cx) (N:List bD) (scope:pH) (s:ax) (H:Hp) (fp:List ag):Cx where
 prog:=X.prog
 w:=X.w
 K:=X.K
 mg:=X.mg
 base:=X.base
 A:=X.A
 N:=N
 s₀:=s
 H₀:=H
 env:=compEnvC scope (nG X.env.cells scope.names []) s.heap.objs.size X.env
 outer:=X.stack
 stack:=X.stack
 ex:=fp
 fn:=λ_=>false
 calm:=X.calm
 pn:=[]
 xe:=λ_ _=>False
def CF (X:Cx) (scope:pH):List Nat->List bD->Prop
 | [],[]=>True
 | j::js,y::ys=>X.N[j]?=some y/\(X.env.kindOf y=some .cell\/X.env.kindOf y=some .free)/\scope.names.lookup y=some .free/\CF X scope js ys
 | _,_=>False
def HR (Z:St) (js:List Nat):St:=js.map λj=>(Z[j]?).join
theorem CF.len:∀ {js:List Nat}{ys:List bD},CF X scope js ys->js.length=ys.length
 | [],[],_=>rfl
 | _::_,_::_,h=>by rw [bI,bI,CF.len h.2.2.2]
 | [],_::_,h=>h.elim
 | _::_,[],h=>h.elim
theorem CF.get:∀ {js:List Nat}{ys:List bD}{i:Nat},CF X scope js ys->ys[i]?=some y->(HR Z js)[i]?=some (some v) ->
  ∃ j:Nat,X.N[j]?=some y/\Z[j]?=some (some v)/\(X.env.kindOf y=some .cell\/X.env.kindOf y=some .free)/\scope.names.lookup y=some .free
 | [],[],i,_,e,_=>by simp at e
 | j::js,z::ys,0,h,e,q=>by
  simp only [kT,fQ] at e;subst e;refine ⟨j,h.1,?_,h.2.1,h.2.2.1⟩
  have q':(Z[j]?).join=some v:=by simpa [HR] using q
  cases hj:Z[j]? with
  | none=>rw [hj] at q';simp at q'
  | some o=>rw [hj] at q';rw [← q'];rfl
 | j::js,z::ys,i+1,h,e,q=>CF.get (i:=i) h.2.2.2 (by simpa using e) (by simpa [HR] using q)
 | [],_::_,_,h,_,_=>h.elim
 | _::_,[],_,h,_,_=>h.elim
section
variable {s':ax}{fp:List ag}
theorem Kw (I:Inv X pins Z H s) (hf:∀ b∈fp,xU X pins H b) (hlt:∀ b∈fp,b<s.heap.objs.size) (hkind:scope.kind=.function) (hcell:∀ y∈scope.names,y.2≠.cell)
  (hfr:∀ n,(n,bL)∈scope.names->∃ c,X.env.cells.lookup n=some c):(FJ X N scope s H fp).Ok where
 mod:=I.mod
 kind:=hkind
 glob:=I.ok.glob
 blt:=I.ok.blt
 above:=ak _
 inj:=λx y c h1 h2=>I.ok.inj x y c ((jZ _ _ hfr h1).resolve_right (by simp)) ((jZ _ _ hfr h2).resolve_right (by simp))
 has:=λx hx=>by
  refine vU _ _ (.inl ?_)
  have key:∀ k,(k=gI\/k=bL)->(relabel scope X.env).names.lookup x=some k->(x,bL)∈scope.names:=λk hk e=>by
   obtain ⟨k0,e0,z⟩:=vV e
   rcases z with z|⟨z,_⟩
   .subst z
    rcases hk with hk|hk
    .subst hk;exact absurd rfl (hcell _ (mem_of_lookup e0))
    .subst hk;exact mem_of_lookup e0
   .subst z;exact mem_of_lookup e0
  rcases hx with hx|hx
  .exact key _ (.inl rfl) hx
  .exact key _ (.inr rfl) hx
 W9:=λx c h=>by cases h
 hd:=I.ok.hd
 frames:=I.ok.frames
 YL:=.inl rfl
 Zz:=λb hb=>⟨a6 (hlt b hb),λx c e=>(hf b hb).2.2.2.2.1 x c ((jZ _ _ hfr e).resolve_right (by simp))⟩
 bs:=I.bs
 Q9:=bA I.ok.Q9 I.sz
 NV:=λb o e hb=>by
  rcases (hf b hb).2.2.2.1 with z|z
  .exact I.ok.NV b o e z
  .exact absurd (bp (aH e) (bA I.ok.Q9 z)) (fk _)
 NT:=λb hb hs=>by
  rcases au.mp (I.Ly b hs) with z|z
  .exact (hf b hb).2.1 z
  .exact (hf b hb).2.2.1 z
 yE:=I.stack
 UU:=I.MR
theorem Sl {h1:cK}{tk:Nat}{m:bD->Option aj}(I:Inv X pins Z H s) (hf:∀ b∈fp,xU X pins H b) (hlt:∀ b∈fp,b<s.heap.objs.size) (hkind:scope.kind=.function)
  (hcell:∀ y∈scope.names,y.2≠.cell) (hfr:∀ n,(n,bL)∈scope.names->∃ c,X.env.cells.lookup n=some c) (hc:CF X scope js ys)
  (hn:h1.Ns s.heap.objs.size m) (hk:∀ b o,s.heap.get? b=some o->h1.get? b=some o) :
  Inv (FJ X (own++ys) scope s H fp) [] (lM own.length none++HR Z js) H { s with heap:=h1,toks:=tk }:=by
 have hcl:∀ x c,(nG X.env.cells scope.names []).lookup x=some c->X.env.cells.lookup x=some c:=λx c e=>(jZ _ _ hfr e).resolve_right (by simp);refine ⟨Kw I hf hlt hkind hcell hfr,rfl,I.bare,Un.kept hk,⟨m,hn,λi x v e1 e2 e3=>?_⟩,λx c e=>?_,I.fresh,λx c e=>I.sQ x c (hcl x c e),(λp hp=>nomatch hp),I.eY.kept hk,?_⟩
 .have e1':(own++ys)[i]?=some x:=e1
  by_cases hi:i<own.length
  .rw [fA (by simpa using hi)] at e2;rw [LH] at e2
   split at e2
   .cases a7 e2
   .cases e2
  .have hi':own.length<=i:=mK hi;rw [dQ hi'] at e1';rw [dQ (by simpa using hi'),mj] at e2;obtain ⟨j,q1,q2,q3,q4⟩:=hc.get e1' e2;obtain ⟨m0,_,hl⟩:=I.loc
   obtain ⟨u,r,l⟩:=hl j x v q1 q2 (by
    rcases q3 with q3|q3
    .exact .inr (.inl q3)
    .exact .inr (.inr q3))
   refine ⟨u,r,.inr ⟨?_,?_⟩⟩
   .rcases yO (env:=X.env) q4 with z|z
    .exact .inr z
    .exact .inl z
   .rcases l with ⟨k,_⟩|⟨_,c,hc1,hc2⟩
    .rcases q3 with q3|q3<;>rw [k] at q3<;>cases a7 q3
    .obtain ⟨d,hd⟩:=vU (cells:=X.env.cells) (x:=x) scope.names [] (.inl (mem_of_lookup q4));have hd':=hcl x d hd;rw [hc1] at hd';cases a7 hd';obtain ⟨o,ho,hod⟩:=hc2;exact ⟨c,hd,o,hk c o ho,hod⟩
 .obtain ⟨v,o,ho,hod⟩:=I.cell x c (hcl x c e);exact ⟨v,o,hk c o ho,hod⟩
 .show (lM own.length none++HR Z js).length=(own++ys).length
  rw [bg,bg,mj,HR,af,hc.len]
theorem O1 {σ':St}(I:Inv X pins Z H s) (hf:∀ b∈fp,xU X pins H b) (J:Inv (FJ X N scope s H fp) [] σ' H' s'):Inv X pins Z H' s' :=
 I.YO (ch:=fp) J.os J.base J.eY J.bare λb hb=>⟨(hf b hb).2.2.2.1,(hf b hb).2.1,(hf b hb).2.2.2.2.1,(hf b hb).2.2.2.2.2⟩
end
section
variable {prog:bB}{A:cM}{R:N2->ax->Prop}
theorem FK {target:Expr}{it acc:aj}(I:Nat->ax->Prop)
  (turn:∀ n s,I n s->aK (aL prog w) A (iZ it) (λr s₁=>match r with
   | none=>R (.ok .next) s₁
   | some v=>aK (aL prog w) A (xN target it v) (λ_ s₁'=>aK (aL prog w) A (JV target env v) (λ_ s₂ =>
     aK (aL prog w) A (forIn ifs true λc r=>if r=true then do let ok ← isTrue c env (eJ c env);pure (i5 ok) else pure (i5 r)) (λok s₃ =>
      if ok=true then aK (aL prog w) A (eJ elt env) (λx s₄ =>
       aK (aL prog w) A (call (.builtin "list.append") [acc,x]) (λ_ s₅=>∃ m,m<n/\I m s₅) (λ_ _=>False) s₄) (λ_ _=>False) s₃
      else ∃ m,m<n/\I m s₃) (λ_ _=>False) s₂) (λ_ _=>False) s₁') (λ_ _=>False) s₁) (λ_ _=>False) s)
  (n:Nat) (h:I n s) :
  jS (aL prog w) A (.compLoop (.ListComp elt [⟨target,iter,ifs,0⟩] scope pos) 0 it acc env) R s:=by
 refine codeAny_loop rfl I (λn s hI=>?_) n h
 show aK _ A ((compTurn (.ListComp elt [⟨target,iter,ifs,0⟩] scope pos) 0 it acc env).onRaise (λx=>do noteFrame x env;theTreesLotGoes x)) _ _ s
 refine wpAny_noted ?_;rw [compTurn_list];refine ae (tY (ae (dH (turn n s hI) (λr s₁ h₁=>?_) λ_ _ h'=>h'.elim)))
 cases r with
 | none=>exact ar h₁
 | some v =>
  refine ae (dH h₁ (λ_ s₁' h₁'=>?_) λ_ _ h'=>h'.elim);refine ae (dH h₁' (λ_ s₂ h₂=>ae (dH h₂ (λok s₃ h₃=>?_) λ_ _ h'=>h'.elim)) λ_ _ h'=>h'.elim)
  cases ok with
  | false=>exact ar ⟨rfl,h₃⟩
  | true =>
   exact ae (ae (dH h₃ (λx s₄ h₄=>ae (dH h₄ (λ_ s₅ h₅=>ar (ar ⟨rfl,h₅⟩)) λ_ _ h'=>h'.elim)) λ_ _ h'=>h'.elim))
end
def O2 (X:Cx) (ifs:List Expr) (t:TT):Prop :=
 ∀ (pins:List (ag×jk)) (s:ax) (Z:St) (H:Hp) (Q:Bool->Hp->Prop),Inv X pins Z H s->t Z H Q ->
  aK (aL X.prog X.w) X.A (forIn ifs true λc r=>if r=true then do let ok ← isTrue c X.env (eJ c X.env);pure (i5 ok) else pure (i5 r)) (TP X pins Z Q) X.xe s
def tP:TT:=λ_ H Q=>Q true H
theorem jo:O2 X [] tP:=λ_ _ _ H _ I h=>wpAny_tests_nil ⟨H,I,h⟩
theorem lS {c:Expr}{t:TT}(h:PT X c t):O2 X [c] t:=λpins s Z H Q I q=>wpAny_tests_one (h pins s Z H Q I q)
def jq (own:Nat) (js:List Nat) (wi:TI) (g:TG) (tt:TT) (te:TE):TE:=λZ H Q=>wi Z H λJ H1=>∀ acc,H1 acc=none ->
 ∃ W:Nat->Nat->List V->St->Hp->Prop,(∃ m,W 0 m [] (lM own none++HR Z js) (upd H1 acc (.lst [])))/\∀ i m ys σ' H',W i m ys σ' H'->H' acc=some (.lst ys) /\
  ((J.stop i H'/\Q (.ref acc) H')\/(J.go i H'/\∀ x H2,J.J7 i H' x H2->g x σ' H2 λσ2 H3=>tt σ2 H3 λb H4 =>
   if b=true then te σ2 H4 λy H5=>H5 acc=some (.lst ys)/\ys.length<aU/\∃ m',m'<m/\W (i+1) m' (ys++[y]) σ2 (upd H5 acc (.lst (ys++[y]))) else ∃ m',m'<m/\W (i+1) m' ys σ2 H4))
theorem HS {wi:TI}{tt:TT}
  {use:Option (aj->Xb Unit)}{Q':aj->ax->Prop}{p:sT}(hcalm:X.calm=true)
  (hi:PI X tg iter wi) (hkind:scope.kind=.function) (hcell:∀ y∈scope.names,y.2≠.cell) (hnames:∀ y∈scope.names,y.2=.local->scope.names.lookup y.1=some .local)
  (hfr:∀ n,(n,bL)∈scope.names->∃ c,X.env.cells.lookup n=some c) (hc:CF X scope js ys)
  (hg:∀ s0 H0 fp,PG (FJ X (own++ys) scope s0 H0 fp) tg g) (ht:∀ s0 H0 fp,O2 (FJ X (own++ys) scope s0 H0 fp) ifs tt) (he:∀ s0 H0 fp,PE (FJ X (own++ys) scope s0 H0 fp) elt te)
  (I:Inv X pins Z H s) (h:jq own.length js wi g tt te Z H Q)
  (hu:∀ (D C:ag) (H':Hp) (s':ax),Inv X pins Z H' s'->Q (.ref D) H'->xU X pins H' C->(∃ m,s'.heap.Ns C m)->compPost (aL X.prog X.w) X.A X.xe use Q' (.ref D) C (.ok .next) s')
  (hs:∀ x,tD iter X.env x=pure x) :
  aK (aL X.prog X.w) X.A (comprehension (.ListComp elt [⟨tg,iter,ifs,0⟩] scope pos) scope X.env p (newList []) false (eJ iter X.env) use) Q' X.xe s:=by
 refine wpAny_comprehension_free (g:=⟨tg,iter,ifs,0⟩) (gs:=[]) rfl hs (vc hfr) hkind hnames (gR (hi pins s Z H _ I h) λv s1 h1=>gR h1 λitv s2 h2=>?_);obtain ⟨it,fp,tn,J,H2,e,I2,T,st2,f2,q⟩:=h2;subst e;refine dk (WJ hcell (by intro y hy;simp at hy) (λh₁ hns₁ hsb₁=>?_) hkind);dsimp only at hns₁ hsb₁ ⊢;have nD:H2 s2.heap.objs.size=none:=I2.fresh;have I3:Inv X pins Z (upd H2 s2.heap.objs.size (.lst [])) { s2 with heap:=s2.heap.push { cls:=.type "list",data:=.seq ([]:List aj).toArray },toks:=s2.toks }:=I2.YK (its:=[]) .nil (aM _)
 have hlt2:∀ b∈fp,b<s2.heap.objs.size:=λb hb=>let ⟨o,e,_⟩:=T.obj _ _ st2 b hb;aH e
 obtain ⟨W,⟨m0,w0⟩,turn⟩:=q _ nD;generalize hs3:({ s2 with heap:=s2.heap.push { cls:=.type "list",data:=.seq ([]:List aj).toArray },toks:=s2.toks }:ax)=s3 at I3
 have hh3:s2.heap.push { cls:=.type "list",dict:=none,data:=.seq ([]:List aj).toArray }=s3.heap:=by rw [← hs3]
 have hsz3:s3.heap.objs.size=s2.heap.objs.size+1:=by rw [← hh3,iR]
 have hlt3:∀ b∈fp,b<s3.heap.objs.size:=λb hb=>by rw [hsz3];exact qu (hlt2 b hb)
 have f3:∀ b∈fp,xU X pins (upd H2 s2.heap.objs.size (.lst [])) b:=λb hb=>⟨by rw [aG (a6 (hlt2 b hb))];exact (f2 b hb).1,(f2 b hb).2⟩
 have fC:xU X pins (upd H2 s2.heap.objs.size (.lst [])) s3.heap.objs.size:=I3.JQ (ak _) I3.fresh;rw [hh3] at hns₁ hsb₁ ⊢;have hk3:∀ b o,s3.heap.get? b=some o->h₁.get? b=some o:=λb o e=>hsb₁.extBut b o (a6 (aH e)) (aq _ e)
 have es4:({ s2 with heap:=h₁,toks:=s2.toks+([]:List (bD×aj)).length }:ax)={ s3 with heap:=h₁,toks:=s2.toks+([]:List (bD×aj)).length }:=by rw [← hs3]
 have I4:=Sl (own:=own) (h1:=h₁) (tk:=s2.toks+([]:List (bD×aj)).length) I3 f3 hlt3 hkind hcell hfr hc hns₁ hk3;have st4:tn 0 h₁:=T.keep _ _ _ st2 λb hb o e=>hk3 b o (by rw [← hh3];exact aq _ e)
 have stat:∀ {H':Hp},(∀ b∈fp,H' b=none)->∀ b∈fp,xU (FJ X (own++ys) scope s3 (upd H2 s2.heap.objs.size (.lst [])) fp) [] H' b:=λhn b hb =>
  ⟨hn b hb,a6 (hlt3 b hb),(Kw (N:=own++ys) I3 f3 hlt3 hkind hcell hfr).NT b hb,.inl hb,λx c e=>((Kw (N:=own++ys) I3 f3 hlt3 hkind hcell hfr).Zz b hb).2 x c e,λp hp=>nomatch hp⟩
 have Kn:∀ s4:ax,s4={ s3 with heap:=h₁,toks:=s2.toks+([]:List (bD×aj)).length } ->
   jS (aL X.prog X.w) X.A (.compLoop (.ListComp elt [⟨tg,iter,ifs,0⟩] scope pos) 0 (.ref it) (.ref s2.heap.objs.size) (compEnvC scope (nG X.env.cells scope.names []) s3.heap.objs.size X.env))
    (compPost (aL X.prog X.w) X.A X.xe use Q' (.ref s2.heap.objs.size) s3.heap.objs.size) s4:=by
  rintro s4 rfl
  refine FK (λn s'=>∃ i ys' σ' H',Inv (FJ X (own++ys) scope s3 (upd H2 s2.heap.objs.size (.lst [])) fp) [] σ' H' s'/\tn i s'.heap/\(∀ b∈fp,H' b=none)/\W i n ys' σ' H') ?_ m0
   ⟨0,[],_,_,I4,st4,λb hb=>(f3 b hb).1,w0⟩
  rintro n s5 ⟨i,ys',σ5,H5,I5,st5,fr5,w5⟩;obtain ⟨hacc,rest⟩:=turn i n ys' σ5 H5 w5
  rcases rest with ⟨stop,qn⟩|⟨go,step⟩
  .refine gR (T.done (FJ X (own++ys) scope s3 (upd H2 s2.heap.objs.size (.lst [])) fp) rfl rfl rfl hcalm i [] s5 σ5 H5 _ I5 (stat fr5) st5 stop) λr s6 ⟨hr,I6⟩=>?_;subst hr;exact hu _ _ H5 s6 (O1 I3 f3 I6) qn ⟨I6.free,fC.2⟩ (let ⟨m,hn,_⟩:=I6.loc;⟨m,hn⟩)
  .refine gR (T.item (FJ X (own++ys) scope s3 (upd H2 s2.heap.objs.size (.lst [])) fp) rfl rfl rfl hcalm i [] s5 σ5 H5 _ I5 (stat fr5) st5 go) λr s6 ⟨u,hr,h6⟩=>?_;subst hr;refine gR h6 λ_ s7 ⟨x,H7,I7,r7,y7,st7,fr7⟩=>?_;have I7':=I7.pinned (stat fr7) (T.obj _ _ st7);refine gR (hg _ _ _ _ s7 σ5 H7 x u _ I7' r7 (step x H7 y7)) λ_ s8 ⟨σ8,H8,I8,q8⟩=>?_;refine gR (ht _ _ _ _ s8 σ8 H8 _ I8 q8) λok s9 ⟨H9,I9,q9⟩=>?_
   have kept:∀ {s10:ax}{σ10:St}{H10:Hp},Inv (FJ X (own++ys) scope s3 (upd H2 s2.heap.objs.size (.lst [])) fp) ([]++AH fp s7.heap) σ10 H10 s10 ->
     Inv (FJ X (own++ys) scope s3 (upd H2 s2.heap.objs.size (.lst [])) fp) [] σ10 H10 s10/\tn (i+1) s10.heap/\∀ b∈fp,H10 b=none:=λ{s10 σ10 H10} I10=>by
    refine ⟨I10.xu,T.keep _ _ _ st7 λb hb o e=>(I10.pin (b,o) (bH _ (bH _ (pL hb e)))).1,λb hb=>?_⟩;obtain ⟨o,e,d⟩:=T.obj _ _ st7 b hb;exact (I10.pin (b,o) (bH _ (bH _ (pL hb e)))).2.1
   cases ok with
   | false =>
    simp only [bW,if_false] at q9 ⊢;obtain ⟨m',hm,w9⟩:=q9;obtain ⟨k1,k2,k3⟩:=kept I9
    exact ⟨m',hm,i+1,ys',σ8,H9,k1,k2,k3,w9⟩
   | true =>
    simp only [if_true] at q9 ⊢;refine gR (he _ _ _ _ s9 σ8 H9 _ I9 q9) λyv s10 ⟨y,H10,I10,r10,a10,l10,m',hm,w10⟩=>?_;refine gR (lj (X:=FJ X (own++ys) scope s3 (upd H2 s2.heap.objs.size (.lst [])) fp) _ s10 σ8 H10 (.ref s2.heap.objs.size) [y] (.ref s2.heap.objs.size) [yv] (λv H'=>v=.non/\H'=upd H10 s2.heap.objs.size (.lst (ys'++[y]))) I10 rfl (.cons r10 .nil) ⟨_,_,_,rfl,rfl,a10,l10,rfl,rfl⟩) λ_ s11 ⟨_,H11,I11,_,_,e11⟩=>?_;subst e11;obtain ⟨k1,k2,k3⟩:=kept I11;exact ⟨m',hm,i+1,_,σ8,_,k1,k2,k3,w10⟩
 have fin:=codeAny_compStart_list (R:=compPost (aL X.prog X.w) X.A X.xe use Q' (.ref s2.heap.objs.size) s3.heap.objs.size) (Kn _ rfl) (T.self X.A 0 { s3 with heap:=h₁,toks:=s2.toks+([]:List (bD×aj)).length } _ _ st4 (Kn _ rfl));rw [← hs3] at fin ⊢;exact fin
theorem qT (I:Inv X pins Z H s) (h:(scope.names.all λy=>y.2 != .free || X.env.kindOf y.1 == some .cell || X.env.kindOf y.1 == some .free)=true) :
  ∀ n,(n,bL)∈scope.names->∃ c,X.env.cells.lookup n=some c:=λn hn=>by
 have q:=U3.mp h _ hn;simp only [bne_self_eq_false,Bool.false_or,Bool.or_eq_true,beq_iff_eq] at q;exact I.ok.has n q
theorem je (own:List bD) {ys:List bD}(js:List Nat) {wi:TI}{g:TG}{tt:TT}{te:TE}(hcalm:X.calm=true)
  (hi:PI X tg iter wi) (hc:CF X scope js ys)
  (hg:∀ s0 H0 fp,PG (FJ X (own++ys) scope s0 H0 fp) tg g) (ht:∀ s0 H0 fp,O2 (FJ X (own++ys) scope s0 H0 fp) ifs tt) (he:∀ s0 H0 fp,PE (FJ X (own++ys) scope s0 H0 fp) elt te)
  (hfr:(scope.names.all λy=>y.2 != .free || X.env.kindOf y.1 == some .cell || X.env.kindOf y.1 == some .free)=true:=by rfl)
  (hkind:scope.kind=.function:=by rfl) (hcell:∀ y∈scope.names,y.2≠.cell:=by decide +kernel) (hnames:∀ y∈scope.names,y.2=.local->scope.names.lookup y.1=some .local:=by decide +kernel)
  (hs:∀ x,tD iter X.env x=pure x:=by intro _;rfl):PE X (.ListComp elt [⟨tg,iter,ifs,0⟩] scope pos) (jq own.length js wi g tt te):=by
 intro pins s Z H Q I h;rw [eval_ListComp];refine HS (use:=none) hcalm hi hkind hcell hnames (qT I hfr) hc hg ht he I h (λD C H' s' I' q fC ⟨m,hn⟩=>⟨m,hn,λh' hs'=>⟨.ref D,H',?_,rfl,q⟩⟩) hs;exact I'.turned (t':=s'.toks) (λb o hb e=>(hs'.2 b hb).trans e) fC.1 fC.2.1 fC.2.2.2.1 fC.2.2.2.2.1 fC.2.2.2.2.2
theorem vW {spos py:sT}{i:Nat}(own:List bD) {ys:List bD}(js:List Nat) {wi:TI}{g:TG}{tt:TT}{te:TE}(hcalm:X.calm=true)
  (hN:X.N.Nodup) (hy:X.N[i]?=some y) (hl:X.env.scope.names.lookup y=some .local)
  (hi:PI X tg iter wi) (hc:CF X scope js ys)
  (hg:∀ s0 H0 fp,PG (FJ X (own++ys) scope s0 H0 fp) tg g) (ht:∀ s0 H0 fp,O2 (FJ X (own++ys) scope s0 H0 fp) ifs tt) (he:∀ s0 H0 fp,PE (FJ X (own++ys) scope s0 H0 fp) elt te)
  (hfr:(scope.names.all λy=>y.2 != .free || X.env.kindOf y.1 == some .cell || X.env.kindOf y.1 == some .free)=true:=by rfl)
  (hsw:As (.ListComp elt [⟨tg,iter,ifs,0⟩] scope pos) (some (.Name y py)) spos.line X.env=pure true:=by rfl)
  (hkind:scope.kind=.function:=by rfl) (hcell:∀ y∈scope.names,y.2≠.cell:=by decide +kernel) (hnames:∀ y∈scope.names,y.2=.local->scope.names.lookup y.1=some .local:=by decide +kernel)
  (hs:∀ x,tD iter X.env x=pure x:=by intro _;rfl) :
  PS X (.Assign [.Name y py] (.ListComp elt [⟨tg,iter,ifs,0⟩] scope pos) spos) (dg (jq own.length js wi g tt te) (bj i)):=by
 intro pins s Z H D I h;rw [exec_Assign_Name_used _ _ _ _ hsw];refine ae (tY (ae ?_))
 show aK _ X.A (do let _ ← comprehension (.ListComp elt [⟨tg,iter,ifs,0⟩] scope pos) scope X.env _ (newList []) false (eJ iter X.env) (some (JV (.Name y py) X.env))) _ _ s
 refine ae (dH (HS (Q:=λx H1=>bj i x Z H1 D.nx) (Q':=λ_ s'=>SP X pins D .next s') (use:=some (JV (.Name y py) X.env)) hcalm hi hkind hcell hnames (qT I hfr) hc hg ht he I h (λDd C H' s' I' q fC ⟨m,hn⟩=>?_) hs) (λ_ s' hq=>ar (ar hq)) λ_ _ e=>e)
 show aK _ X.A (JV (.Name y py) X.env (.ref Dd)) _ _ _
 refine wpAny_assign_Name (Er (v:=.ref Dd) I' hN hy (.inl hl) rfl (λs'' I'' ⟨a,sb,ha⟩=>?_) (.inr hl))
 have hCa:C≠a:=by
  rcases ha with z|z
  .rw [z];exact fC.2.1
  .exact Ne.symm (fC.2.2.2.2.1 _ _ z)
 refine ⟨m,hn.sameBut sb hCa,λh' hs'=>?_⟩;exact ⟨_,H',I''.turned (t':=s''.toks) (λb o hb e=>(hs'.2 b hb).trans e) fC.1 fC.2.1 fC.2.2.2.1 fC.2.2.2.2.1 fC.2.2.2.2.2,q⟩
mutual
def Rep (K:aa) (H:Hp):PyData->V->Prop
 | .none,v=>v=.non
 | .bool b,v=>v=.bl b
 | .int i,v=>v=.int i
 | .str x,v=>v=.str x
 | .list ds,v=>∃ a xs,v=.ref a/\cL K H a xs/\d9 K H ds xs
 | .tuple ds,v=>∃ a xs,v=.ref a/\ie K H a xs/\d9 K H ds xs
 | .dict _,_=>False
def d9 (K:aa) (H:Hp):List PyData->List V->Prop
 | [],vs=>vs=[]
 | d::ds,vs=>∃ v r,vs=v::r/\Rep K H d v/\d9 K H ds r
end
mutual
theorem Rep.reads (I:Inv X pins Z H s):∀ (d:PyData) (v:V) (u:aj),Rep X.K H d v->RelV v u->∃ as,Reads s.heap u d as
 | .none,v,u,h,r=>by
  cases (show v=.non by simpa only [Rep] using h)
  cases (show u=eP from r);exact ⟨_,.none⟩
 | .bool b,v,u,h,r=>by
  cases (show v=.bl b by simpa only [Rep] using h)
  cases (show u=ow b from r);exact ⟨_,.bool b⟩
 | .int i,v,u,h,r=>by
  cases (show v=.int i by simpa only [Rep] using h)
  obtain ⟨t,rfl⟩:=(show ∃ t,u=fj i t from r);exact ⟨_,.int i t⟩
 | .str x,v,u,h,r=>by
  cases (show v=.str x by simpa only [Rep] using h)
  obtain ⟨t,rfl⟩:=(show ∃ t,u=qy x t from r);exact ⟨_,.str x t⟩
 | .list ds,v,u,h,r=>by
  obtain ⟨a,xs,rfl,hq,ha⟩:=(show ∃ a xs,v=.ref a/\cL X.K H a xs/\d9 X.K H ds xs by simpa only [Rep] using h)
  cases (show u=aB a from r);obtain ⟨its,rv,⟨o,n,e1,e2,_,e3⟩,_⟩:=I.list hq;obtain ⟨as,ra⟩:=d9.reads I ds xs its ha rv
  exact ⟨_,.list e1 e2 e3 (by simpa using ra)⟩
 | .tuple ds,v,u,h,r=>by
  obtain ⟨a,xs,rfl,hq,ha⟩:=(show ∃ a xs,v=.ref a/\ie X.K H a xs/\d9 X.K H ds xs by simpa only [Rep] using h)
  cases (show u=aB a from r);obtain ⟨its,rv,⟨o,e1,e2,n,e3⟩,_⟩:=I.tuple hq;obtain ⟨as,ra⟩:=d9.reads I ds xs its ha rv
  exact ⟨_,.tuple e1 e2 e3 (by simpa using ra)⟩
 | .dict _,v,u,h,r=>absurd h (by simp only [Rep];exact λz=>z)
theorem d9.reads (I:Inv X pins Z H s):∀ (ds:List PyData) (vs:List V) (us:List aj),d9 X.K H ds vs->Vals vs us->∃ as,ReadsAll s.heap us ds as
 | [],vs,us,h,r=>by
  cases (show vs=[] by simpa only [d9] using h)
  cases r;exact ⟨_,.nil⟩
 | d::ds,vs,us,h,r=>by
  obtain ⟨v,rr,rfl,h1,h2⟩:=(show ∃ v r,vs=v::r/\Rep X.K H d v/\d9 X.K H ds r by simpa only [d9] using h)
  cases r with
  | cons ru rs =>
   obtain ⟨as,r1⟩:=Rep.reads I d v _ h1 ru;obtain ⟨bs,r2⟩:=d9.reads I ds rr _ h2 rs;exact ⟨_,.cons r1 r2⟩
end
theorem bQ.WE (e:bQ H H') (h:ie K H a xs):ie K H' a xs:=by
 rcases h with (h|⟨o,h⟩)|h
 .exact .inl (.inl (e _ _ h))
 .exact .inl (.inr ⟨o,e _ _ h⟩)
 .exact .inr h
theorem d9.cons {d:PyData}{vs:List V}(h1:Rep K H d v) (h2:d9 K H ds vs):d9 K H (d::ds) (v::vs):=by
 simp only [d9];exact ⟨v,vs,rfl,h1,h2⟩
theorem d9.nil:d9 K H [] []:=by simp only [d9]
theorem Rep.int (i:Int):Rep K H (.int i) (.int i):=by simp only [Rep]
theorem Rep.lst (h:cL K H a xs) (r:d9 K H ds xs):Rep K H (.list ds) (.ref a):=by
 simp only [Rep];exact ⟨a,xs,rfl,h,r⟩
theorem Rep.tup (h:ie K H a xs) (r:d9 K H ds xs):Rep K H (.tuple ds) (.ref a):=by
 simp only [Rep];exact ⟨a,xs,rfl,h,r⟩
theorem d9.ints:∀ (ns:List Int),d9 K H (ns.map .int) (ns.map V.int)
 | []=>d9.nil
 | n::ns=>d9.cons (Rep.int n) (d9.ints ns)
structure vX (d:PyData):Prop where
 lay:d.canLay0=true
 dep:d.depth<=60
def Sn (K:aa) (neg:Bool):R2:=λx y H Q=>∃ dx dy,Rep K H dx x/\Rep K H dy y/\vX dx/\vX dy/\Q (.bl (if neg then !PyData.eqv dx dy else d7 dx dy)) H
theorem Vz (hu:X.A.units+64<gY):oC X (c8 .Eq) (Sn X.K false):=by
 intro pins s Z H x y v u Q I rx ry h;obtain ⟨dx,dy,h1,h2,f1,f2,q⟩:=h;obtain ⟨as,r1⟩:=Rep.reads I dx x v h1 rx;obtain ⟨bs,r2⟩:=Rep.reads I dy y u h2 ry;have:=f1.dep;exact SeqAt.compareEq_reads r1 r2 f1.lay f2.lay (bz (yK (bA (Xg _ _) (bA f1.dep (by decide))) _) hu) ⟨.bl _,H,I,rfl,q⟩
theorem VA (hu:X.A.units+64<gY):oC X (c8 .NotEq) (Sn X.K true):=by
 intro pins s Z H x y v u Q I rx ry h;obtain ⟨dx,dy,h1,h2,f1,f2,q⟩:=h;obtain ⟨as,r1⟩:=Rep.reads I dx x v h1 rx;obtain ⟨bs,r2⟩:=Rep.reads I dy y u h2 ry;exact SeqAt.compareNe_reads r1 r2 f1.lay f2.lay (bz (yK (bA (Xg _ _) (bA f1.dep (by decide))) _) hu) ⟨.bl _,H,I,rfl,q⟩
def jG (K:aa):R2:=λx y H Q=>rEq x y H Q\/Sn K false x y H Q
def zD (K:aa):R2:=λx y H Q=>rNe x y H Q\/Sn K true x y H Q
theorem ll (hu:X.A.units+64<gY):oC X (c8 .Eq) (jG X.K):=Xr.or (Vz hu)
theorem O3 (hu:X.A.units+64<gY):oC X (c8 .NotEq) (zD X.K):=Xs.or (VA hu)
def VB (K:aa) (neg:Bool):R2:=λx y H Q=>∃ d ds,Rep K H d x/\(Rep K H (.list ds) y\/Rep K H (.tuple ds) y)/\vX d/\iq ds=true/\Q (.bl (if neg then !(ds.any λe=>d7 e d) else ds.any λe=>d7 e d)) H
theorem VC (hu:X.A.units+64<gY):oC X (c8 .In) (VB X.K false):=by
 intro pins s Z H x y v u Q I rx ry h;obtain ⟨d,ds,h1,h2,f1,f2,q⟩:=h;obtain ⟨as,r1⟩:=Rep.reads I d x v h1 rx;have hb:X.A.units+1+min (ft ds) d.depth<gY:=bz (by have:=f1.dep;lia) hu
 rcases h2 with h2|h2
 .obtain ⟨bs,r2⟩:=Rep.reads I _ y u h2 ry;exact SeqAt.in_list_reads r2 r1 f2 f1.lay hb ⟨.bl _,H,I,rfl,q⟩
 .obtain ⟨bs,r2⟩:=Rep.reads I _ y u h2 ry;exact SeqAt.in_tuple_reads r2 r1 f2 f1.lay hb ⟨.bl _,H,I,rfl,q⟩
theorem Nl (hu:X.A.units+64<gY):oC X (c8 .NotIn) (VB X.K true):=by
 intro pins s Z H x y v u Q I rx ry h;obtain ⟨d,ds,h1,h2,f1,f2,q⟩:=h;obtain ⟨as,r1⟩:=Rep.reads I d x v h1 rx;have hb:X.A.units+1+min (ft ds) d.depth<gY:=bz (by have:=f1.dep;lia) hu
 rcases h2 with h2|h2
 .obtain ⟨bs,r2⟩:=Rep.reads I _ y u h2 ry;exact SeqAt.notIn_list_reads r2 r1 f2 f1.lay hb ⟨.bl _,H,I,rfl,q⟩
 .obtain ⟨bs,r2⟩:=Rep.reads I _ y u h2 ry;exact SeqAt.notIn_tuple_reads r2 r1 f2 f1.lay hb ⟨.bl _,H,I,rfl,q⟩
def VD (neg:Bool):R2:=λy x H Q=>∃ a o,x=.ref a/\CJ H a y o/\Q (.bl (if neg then !o.isSome else o.isSome)) H
theorem VE (hu:X.A.units+64<gY):oC X (c8 .In) (VD false):=by
 intro pins s Z H y x iv u Q I ry rx h;obtain ⟨a,o,rfl,g,q⟩:=h;cases rx
 exact ZY (bz (by lia) hu) I g ry λs' I'=>⟨.bl _,H,I',rfl,q⟩
theorem Nm (hu:X.A.units+64<gY):oC X (c8 .NotIn) (VD true):=by
 intro pins s Z H y x iv u Q I ry rx h;obtain ⟨a,o,rfl,g,q⟩:=h;cases rx
 exact Si (bz (by lia) hu) I g ry λs' I'=>⟨.bl _,H,I',rfl,q⟩
def AV (K:aa) (neg:Bool):R2:=λx y H Q=>VB K neg x y H Q\/VD neg x y H Q
theorem O4 (hu:X.A.units+64<gY):oC X (c8 .In) (AV X.K false):=(VC hu).or (VE hu)
theorem Nn (hu:X.A.units+64<gY):oC X (c8 .NotIn) (AV X.K true):=(Nl hu).or (Nm hu)
def dE:R2:=λx y H Q=>nA (λi j=>.int (i+j)) x y H Q\/Xv x y H Q
theorem ki:oC X (lB .Add) dE:=Vr.or Vx
def Xy:R2:=λx y H Q=>∃ a v,x=.ref a/\CJ H a y (some v)/\Q v H
theorem So (hu:X.A.units+64<gY):Tx X Xy:=by
 intro value slice pins s Z H x y v u Q I rx ry h hs;obtain ⟨a,z,rfl,g,q⟩:=h;cases rx;exact tail_any (HN I g) Fg.lookup (ED (bz (by lia) hu) I g ry λw' s' I' r'=>⟨z,H,I',r',q⟩) hs
def cY (K:aa):R2:=λx y H Q=>(Xt K x y H Q\/Xu K x y H Q)\/Xy x y H Q
theorem O5 (hu:X.A.units+64<gY):Tx X (cY X.K):=(Sg.or Vv).or (So hu)
def Ud:V->V->V->Hp->(Hp->Prop)->Prop:=λo i v H Q=>∃ a H',o=.ref a/\CC H a i v H'/\Q H'
theorem set_dict (hu:X.A.units+64<gY):RO X Ud:=by
 intro pins s Z H o i v ov iv u Q I ro ri rv h;obtain ⟨a,H',rfl,g,q⟩:=h;cases ro
 exact EE (bz (by lia) hu) I g ri rv λs' I'=>⟨H',I',q⟩
def yP:V->V->V->Hp->(Hp->Prop)->Prop:=λo i v H Q=>T9 o i v H Q\/Ud o i v H Q
theorem Xz (hu:X.A.units+64<gY):RO X yP:=by
 intro pins s Z H o i v ov iv u Q I ro ri rv h
 rcases h with h|h
 .exact OX pins s Z H o i v ov iv u Q I ro ri rv h
 .exact set_dict hu pins s Z H o i v ov iv u Q I ro ri rv h
def ma (K:aa):List V->Hp->VK->Prop:=λxs H Q=>(∃ p ys,xs=[.ref p]/\(cL K H p ys\/ie K H p ys)/\Q (.int ys.length) H)\/(∃ a kvs,xs=[V.ref a]/\H a=some (.dK kvs)/\Q (.int kvs.length) H)
theorem x3:k8 X (.builtin "len") (ma X.K):=FE.or Nj
def Kx (K:aa):List V->Hp->VK->Prop:=λxs H Q=>∃ x T t b,xs=[x,.ty T]/\vQ K H x t/\kR K t (.type T)=some b/\Q (.bl b) H
theorem AW:k8 X (.builtin "isinstance") (Kx X.K):=by
 intro pins s Z H xs us Q I r h;obtain ⟨x,T,t,b,rfl,ty,e,q⟩:=h;obtain ⟨u,w',rfl,ru,rw'⟩:=vals2 r;cases (show w'=eQ T from rw')
 exact Nc I ru ty e λtk=>⟨.bl b,H,I.tok tk,rfl,q⟩
theorem Inv.NU (I:Inv X pins Z H s):∃ m,Fr X.base X.env.locals s.heap m/\News X.base X.env.locals s.heap (sZ X.base s.heap X.env.locals) :=
 let ⟨m,F⟩:=I.fr
 ⟨m,F,OF⟩
def XA (K:aa):List V->Hp->VK->Prop:=λxs H Q=>∃ (p:ag) (bs:List Bool),xs=[.ref p]/\cL K H p (bs.map V.bl)/\Q (.bl (bs.all id)) H
theorem yQ:∀ {bs:List Bool}{us:List aj},Vals (bs.map V.bl) us->LSm.BoolsAre us bs
 | [],_,r=>by cases r;exact .nil
 | b::bs,_,r=>by
  rw [aW] at r
  cases r with
  | cons h t =>
   cases (show _=ow b from h);exact .cons b (yQ t)
theorem O6 (hc:X.calm=true):k8 X (.builtin "all") (XA X.K):=by
 intro pins s Z H xs us Q I r h;obtain ⟨p,bs,rfl,hq,q⟩:=h;obtain ⟨u,rfl,ru⟩:=vals1 r;cases ru;obtain ⟨its,rv,pl,hz⟩:=I.list hq;have hb:=yQ rv;have hl:=pl.isList
 have hlt:p<s.heap.objs.size:=by obtain ⟨_,e,_⟩:=hl;exact aH e
 refine call_all_walk (GY hl ?_)
 refine ⟨s.heap.objs.size,[s.heap.objs.size,p],[s.heap.objs.size],its.toArray.size,_,_,λi=>(bs[i]?).getD true,rfl,Walks.list (A:=X.A.in1) (I.ok.hd hc) _ p (a6 hlt) its.toArray,
  ⟨⟨_,aJ _ rfl,rfl,rfl⟩,hl.push _⟩,λi v s' Q' E' hP hQ=>?_,λh' tk hk=>?_⟩
 .obtain ⟨b,e,rfl⟩:=hb.get i v (by simpa using hP);simp only [e,RE] at hQ;exact iN hQ
 .have e:((hV its.toArray.size).all λi=>(bs[i]?).getD true)=bs.all id:=by
   rw [aI,hb.length];exact LSm.range_all bs
  rw [e];exact ⟨.bl _,H,I.kept (LSm.kept_iter hk),rfl,q⟩
section
variable {D:tM}{ta tb:TE}{t u:TS}{c c':TT}{tA:TA}{QT:Bool->Hp->Prop}{QA:List V->Hp->Prop}
theorem HU (h:t { D with nx:=u D } Z H):bU t u D Z H:=h
theorem XB (h:te Z H λx H1=>g x Z H1 D.nx):dg te g D Z H:=h
theorem L9 {i:Nat}(h:R (Z.set i (some v)) H):bj i v Z H R:=h
theorem VF {ti:TE}{ts:RN}(h:to Z H λo H1=>ti Z H1 λi H2=>ts o i v H2 λH3=>R Z H3):Hv to ti ts v Z H R:=h
theorem Ue {i:Nat}(h:Z[i]?=some (some v)) (k:Q v H):ao i Z H Q:=⟨v,h,k⟩
theorem x_c (k:Q v H):tC v Z H Q:=k
theorem ZZ {r:R2}(h:ta Z H λx H1=>tb Z H1 λy H2=>r x y H2 Q):bY r ta tb Z H Q:=h
theorem Z0 {r:V->Hp->VK->Prop}(h:ta Z H λx H1=>r x H1 Q):Zm r ta Z H Q:=h
theorem XC (h:te Z H D.rt):fg te D Z H:=h
theorem VG (h:te Z H λ_ H1=>D.nx Z H1):fq te D Z H:=h
theorem VH (h:D.nx Z H):fT D Z H:=h
theorem XD (h:c Z H λb H1=>if b=true then t D Z H1 else u D Z H1):ja c t u D Z H:=h
theorem Z7 (h:c Z H λb H1=>if b=true then ta Z H1 Q else tb Z H1 Q):W5 c ta tb Z H Q:=h
theorem VI (h:te Z H λx H'=>∃ k,x=.bl k/\QT k H'):cX te Z H QT:=h
theorem XE (h:c Z H λb H1=>if b=true then c' Z H1 QT else QT false H1):xR c c' Z H QT:=h
theorem Z8 (h:c Z H λb H1=>if b=true then QT true H1 else c' Z H1 QT):LQ c c' Z H QT:=h
theorem XF (h:c Z H λb H1=>QT (!b) H1):Hs c Z H QT:=h
theorem VJ (h:ta Z H λx H1=>∃ c,x=.bl c/\if c=true then tb Z H1 Q else Q (.bl false) H1):qI ta tb Z H Q:=h
theorem VL (h:ta Z H λx H1=>∃ c,x=.bl c/\Q (.bl (!c)) H1):LR ta Z H Q:=h
theorem XG (h:QT true H):tP Z H QT:=h
theorem O7 (h:QA [] H):aY Z H QA:=h
theorem VM (h:te Z H λx H1=>tA Z H1 λxs H2=>QA (x::xs) H2):av te tA Z H QA:=h
theorem XH (h:tA Z H λxs H1=>xs.length<=aU/\∀ p,H1 p=none->Q (.ref p) (upd H1 p (.tup xs))):lh tA Z H Q:=h
theorem XI (h:tA Z H λxs H1=>xs.length<=aU/\∀ p,H1 p=none->Q (.ref p) (upd H1 p (.lst xs))):u7 tA Z H Q:=h
theorem VN {dvs:List V}{E:XK}(h:tA Z H λvs H1=>sp (vs++dvs) H1 Q E):cR sp dvs E tA Z H Q:=h
theorem Z9 {r:List V->Hp->VK->Prop}(h:tA Z H λvs H1=>r vs H1 Q):l5 r tA Z H Q:=h
theorem x_bm {T:String}{r:V->List V->Hp->VK->Prop}(h:to Z H λx H1=>ZX K T x H1/\tA Z H1 λxs H2=>r x xs H2 Q):CP K T r to tA Z H Q:=h
theorem x_sl {r:V->Option Int->Option Int->Hp->VK->Prop}{tl th:TO}(h:te Z H λx H1=>tl Z H1 λl H2=>th Z H2 λu H3=>r x l u H3 Q):J2 r te tl th Z H Q:=h
theorem O8 {R:Option Int->Hp->Prop}(h:R none H):jd Z H R:=h
theorem VO {R:Option Int->Hp->Prop}(h:te Z H λx H1=>∃ i,x=.int i/\R (some i) H1):kW te Z H R:=h
theorem XJ {g:Int->Int->V}(h:Q (g i j) H):nA g (.int i) (.int j) H Q:=⟨i,j,rfl,rfl,h⟩
theorem x_rI {C:Int->Int->Prop}{g:Int->Int->V}(hc:C i j) (h:Q (g i j) H):rI C g (.int i) (.int j) H Q:=⟨i,j,rfl,rfl,hc,h⟩
theorem VP (h:Q (.int (i+j)) H):dE (.int i) (.int j) H Q:=.inl ⟨i,j,rfl,rfl,h⟩
theorem XM (h:Q (.bl (decide (V.int i=V.int j))) H):jG K (.int i) (.int j) H Q:=.inl ⟨rfl,h⟩
theorem XN (h:Q (.bl (!decide (V.int i=V.int j))) H):zD K (.int i) (.int j) H Q:=.inl ⟨rfl,h⟩
theorem j4 (h:cL K H p xs) (e:Os xs i=some v) (k:Q v H):cY K (.ref p) (.int i) H Q:=.inl (.inl ⟨p,xs,i,v,rfl,rfl,h,e,k⟩)
theorem dX (h:ie K H p xs) (e:Os xs i=some v) (k:Q v H):cY K (.ref p) (.int i) H Q:=.inl (.inr ⟨p,xs,i,v,rfl,rfl,h,e,k⟩)
theorem jr (h:cL K H p xs) (k:Q (.int xs.length) H):ma K [.ref p] H Q:=.inl ⟨p,xs,rfl,.inl h,k⟩
theorem VQ (h:ie K H p xs) (k:Q (.int xs.length) H):ma K [.ref p] H Q:=.inl ⟨p,xs,rfl,.inr h,k⟩
theorem oJ {l:ag}{y:V}(h:H l=some (.lst xs)) (hl:xs.length<aU) (k:Q .non (upd H l (.lst (xs++[y])))):jz (.ref l) [y] H Q:=⟨l,xs,y,rfl,rfl,h,hl,k⟩
theorem VR {k:Int}{j:Nat}{R:Hp->Prop}(h:H p=some (.lst xs)) (e:Oq xs.length k=some j) (q:R (upd H p (.lst (xs.set j v)))):yP (.ref p) (.int k) v H R:=.inl ⟨p,xs,k,j,rfl,rfl,h,e,q⟩
theorem qC {p A B:Prop} [Decidable p] (h1:p->A) (h2:¬ p->B):if decide p=true then A else B:=by
 by_cases h:p
 .rw [if_pos (decide_eq_true h)];exact h1 h
 .rw [if_neg (by rw [decide_eq_false h];decide)];exact h2 h
theorem FL {p A B:Prop} [Decidable p] (h1:¬ p->A) (h2:p->B):if (!decide p)=true then A else B:=by
 by_cases h:p
 .rw [if_neg (by rw [decide_eq_true h];decide)];exact h2 h
 .rw [if_pos (by rw [decide_eq_false h];decide)];exact h1 h
theorem lp:(V.int i=V.int j)↔i=j:=⟨λh=>by injection h,λh=>by rw [h]⟩
end
end L2
namespace BootT
open PySem
theorem len:cV "len"=some (.builtin "len"):=by decide +kernel
theorem vd:cV "isinstance"=some (.builtin "isinstance"):=by decide +kernel
theorem AX:cV "sorted"=some (.builtin "sorted"):=by decide +kernel
theorem all:cV "all"=some (.builtin "all"):=by decide +kernel
theorem min:cV "min"=some (.builtin "min"):=by decide +kernel
theorem max:cV "max"=some (.builtin "max"):=by decide +kernel
theorem int:cV "int"=some (.type "int"):=by decide +kernel
theorem bool:cV "bool"=some (.type "bool"):=by decide +kernel
theorem list:cV "list"=some (.type "list"):=by decide +kernel
theorem tuple:cV "tuple"=some (.type "tuple"):=by decide +kernel
end BootT
namespace L2
variable {H:Hp}{K:aa}{Z:St}{n m:Nat}{x y:V}{i j:Int}{g:TG}{xs zs:List V}{ta tl te:TE}{R:St->Hp->Prop}{l c a b:ag}{Q:VK}{tg:Expr}{tt:TT}{D:tM}{wi:TI}{d:PyData}{ds:List PyData}{o:HO}{X:Cx}
def EG:List V->Hp->VK->Prop:=λxs H Q=>∃ i j,xs=[.int i,.int j]/\Q (.int (if j<i then j else i)) H
def EH:List V->Hp->VK->Prop:=λxs H Q=>∃ i j,xs=[.int i,.int j]/\Q (.int (if j>i then j else i)) H
def XO (K:aa):List V->Hp->VK->Prop:=λxs H Q=>∃ p ys,xs=[.ref p]/\(cL K H p ys\/ie K H p ys)/\∀ l,H l=none->Q (.ref l) (upd H l (.lst ys))
def qU (K:aa) (ta:TE):TT:=λZ H Q=>ta Z H λx H'=>∃ k,RX K x H' k/\Q k H'
theorem XQ {Q:Bool->Hp->Prop}(h:ta Z H λx H'=>∃ k,RX K x H' k/\Q k H'):qU K ta Z H Q:=h
section
variable {a:Expr}
theorem O9 (ha:PE X a ta) (he:∀ whole,isTrue a X.env whole=(do let v ← whole;qb a.pos;jC [v] (truthy v))):PT X a (qU X.K ta):=OP ha he
end
def Itd (a:ag) (kvs:List (gG×V)) (o:jk):It :=
 ⟨λi H=>i<kvs.length/\H a=some (.frz o (.dK kvs)),λi H x H'=>H'=H/\∃ k v,kvs[i]?=some (k,v)/\x=kV k,λi H=>kvs.length<=i/\H a=some (.frz o (.dK kvs))⟩
theorem VS {k:gG}{u:aj}(h:AA k u=true):RelV (kV k) u:=by
 rcases gE h with ⟨i,t,rfl,rfl⟩|⟨x,t,rfl,rfl⟩
 .exact ⟨t,rfl⟩
 .exact ⟨t,rfl⟩
theorem KV.get {kvs:List (gG×V)}{vs:List (gG×aj)}(r:KV kvs vs) {i:Nat}{k:gG}{v:V}(e:kvs[i]?=some (k,v)):∃ u,vs[i]?=some (k,u)/\RelV v u:=by
 unfold KV at r
 induction r generalizing i with
 | nil=>simp at e
 | @cons p q ps qs h t ih =>
  cases i with
  | zero =>
   simp at e;subst e;obtain ⟨q1,q2⟩:=q;obtain ⟨h1,h2⟩:=h;simp only at h1 h2;subst h1
   exact ⟨q2,rfl,h2⟩
  | succ i =>
   obtain ⟨u,e1,e2⟩:=ih (by simpa using e);exact ⟨u,by simpa using e1,e2⟩
theorem Np {P:bB}{w:ck}(a it:ag) (o:jk) (kvs:List (gG×V)) (vs:List (gG×aj)) (ep:Nat) (rel:KV kvs vs)
  (od:∀ h:cK,h.get? a=some o->h.DictAt (fi P w) a vs ep):Kk P w K tg (Itd a kvs o) [it] it (λi h=>h.IsKeyIter it a i vs.length ep) where
 mem:=by simp
 obj:=λi h st b hb=>by
  have e:b=it:=by simpa using hb
  subst e;obtain ⟨o,e,c,d⟩:=st;exact ⟨o,e,λv z=>by rw [d] at z;cases z⟩
 keep:=λi h h' st k=>st.at λo e=>k it (by simp) o e
 item:=by
  intro X hP hw hK hc i pins s Z H E I hf st hg;subst hP hw hK;obtain ⟨hlt,hq⟩:=hg
  obtain ⟨e0,_⟩:=(show eX X.prog X.w H s.heap a (.frz o (.dK kvs)) from I.eY a _ hq)
  obtain ⟨⟨k,v⟩,hx⟩:∃ p,kvs[i]?=some p:=⟨kvs[i],by simp [hlt]⟩
  obtain ⟨u,hu,ru⟩:=rel.get hx;obtain ⟨f0,f1,f2,f3,f4,f5⟩:=hf it (by simp);refine wpAny_pyNext_dict_item st (od _ e0) hu λkey h' hkey st' sb=>?_;have I1:Inv X pins Z H { s with heap:=h' }:=I.turned (t':=s.toks) (λb o hb e=>(sb.2 b hb).trans e) f0 f1 f3 f4 f5;obtain ⟨o',e,c,d⟩:=id st';exact ⟨key,rfl,Hw (s:={ s with heap:=h' }) e c d (by decide) ⟨kV k,H,I1,VS hkey,⟨rfl,k,v,hx,rfl⟩,st',λb hb=>(hf b hb).1⟩⟩
 done:=by
  intro X hP hw hK hc i pins s Z H E I hf st hg;subst hP hw hK;obtain ⟨hle,hq⟩:=hg
  obtain ⟨e0,_⟩:=(show eX X.prog X.w H s.heap a (.frz o (.dK kvs)) from I.eY a _ hq)
  obtain ⟨f0,f1,f2,f3,f4,f5⟩:=hf it (by simp);have hl:=rel.length
  exact wpAny_pyNext_dict_end (I.ok.hd hc) st (od _ e0) (by simp;lia) λh' eb=>⟨rfl,I.turned (t':=s.toks) (λb o hb e=>eb b o hb e) f0 f1 f3 f4 f5⟩
 self:=λ_ _ _ _ _ st h=>Ae st h
def md (K:aa) (tl:TE):TI:=λZ H R=>tl Z H λx H1=>∃ a,x=.ref a/\(((∃ xs,cL K H1 a xs)/\R (Oo K a) H1)\/((∃ xs,ie K H1 a xs)/\R (W6 K a) H1) \/
 ∃ kvs,H1 a=some (.dK kvs)/\∀ o,R (Itd a kvs o) (upd H1 a (.frz o (.dK kvs))))
theorem VT {R:It->Hp->Prop}(h:tl Z H λx H1=>∃ a,x=.ref a/\(((∃ xs,cL K H1 a xs)/\R (Oo K a) H1)\/((∃ xs,ie K H1 a xs)/\R (W6 K a) H1) \/
 ∃ kvs,H1 a=some (.dK kvs)/\∀ o,R (Itd a kvs o) (upd H1 a (.frz o (.dK kvs))))):md K tl Z H R:=h
theorem mf {l:Expr}(hl:PE X l tl):PI X tg l (md X.K tl):=by
 intro pins s Z H R I h;refine gR (hl pins s Z H _ I h) λv s1 ⟨x,H1,I1,r1,q1⟩=>?_;obtain ⟨a,e,q1⟩:=q1;subst e;cases r1
 rcases q1 with ⟨⟨xs,hq⟩,q⟩|⟨⟨xs,hq⟩,q⟩|⟨kvs,hq,q⟩
 .obtain ⟨its,rv,p,hz⟩:=I1.list hq;refine GY p.isList ?_;refine ⟨s1.heap.objs.size,[s1.heap.objs.size],_,_,H1,rfl,I1.kept (t':=s1.toks) λb o e=>aq _ e,M5 a _,⟨_,aJ _ rfl,rfl,rfl⟩,λb hb=>?_,q⟩
  have e:b=s1.heap.objs.size:=by simpa using hb
  subst e;exact I1.JQ (ak _) (I1.eY.fresh (ak _))
 .obtain ⟨its,rv,p,hz⟩:=I1.tuple hq;refine wpAny_pyIter_tuple (show s1.heap.IsTuple a its.toArray from p) ?_;refine ⟨s1.heap.objs.size,[s1.heap.objs.size],_,_,H1,rfl,I1.kept (t':=s1.toks) λb o e=>aq _ e,Kl a _,⟨_,aJ _ rfl,rfl,rfl⟩,λb hb=>?_,q⟩
  have e:b=s1.heap.objs.size:=by simpa using hb
  subst e;exact I1.JQ (ak _) (I1.eY.fresh (ak _))
 .obtain ⟨hz,hsys,vs,rel,dd⟩:=Ub I1.eY hq;obtain ⟨ep,da⟩:=dd.dictAt;obtain ⟨ob,es,ho,rr⟩:=id da
  have od:∀ h:cK,h.get? a=some ob->h.DictAt (fi X.prog X.w) a vs ep:=λh e=>⟨ob,es,e,rr⟩
  have un:Un X.fs [] H1 (upd H1 a (.frz ob (.dK kvs))) s1.heap s1.heap:=by
   have hne:∀ b u,H1 b=some u->u≠.dK kvs->b≠a:=λb u e n z=>by subst z;rw [hq] at e;exact n (a7 e).symm
   refine ⟨λb o e _ _ _=>e,λb o e _ _ _=>⟨o.slots,e⟩,λb o e n _=>?_,λb o e _=>⟨o,e⟩,λb ys e=>?_,λb o u e=>?_,λb ps e=>?_⟩
   .rw [aG (λz=>by subst z;rw [hq] at n;cases n)];exact n
   .rw [aG (hne b _ e (by intro z;cases z))];exact e
   .rw [aG (hne b _ e (by intro z;cases z))];exact e
   .exact ⟨#[],by rw [aG (hne b _ e (by intro z;cases z)),e];simp⟩
  have eY:qx X.prog X.w (upd H1 a (.frz ob (.dK kvs))) s1.heap:=λb u e=>by
   by_cases hb:b=a
   .subst hb;rw [aE] at e;cases e;exact ⟨ho,hz,hsys,vs,rel,dd⟩
   .rw [aG hb] at e;refine (I1.eY b u e).yF (λc v _ q=>q) (λc q0=>?_) λc ys q0=>?_
    .rw [aG (λz=>by rw [z,hq] at q0;cases q0)];exact q0
    .rw [aG (λz=>by rw [z,hq] at q0;cases q0)];exact q0
  have I2:Inv X pins Z (upd H1 a (.frz ob (.dK kvs))) { s1 with heap:=s1.heap,toks:=s1.toks }:=I1.un un eY;refine wpAny_pyIter_dict hsys da ?_;refine ⟨s1.heap.objs.size,[s1.heap.objs.size],_,_,_,rfl,I2.kept (t':=s1.toks) λb o e=>aq _ e,Np a _ ob kvs vs ep rel od,⟨_,aJ _ rfl,rfl,rfl⟩,λb hb=>?_,q ob⟩
  have e:b=s1.heap.objs.size:=by simpa using hb
  subst e;exact I2.JQ (ak _) (I2.eY.fresh (ak _))
structure kI (n i:Nat) (S:St->Prop) (Pv:List V->Hp->Prop) (m:Nat) (ys:List V) (Z:St) (H:Hp):Prop where
 m:m=n-i
 le:i<=n
 s:S Z
 p:Pv ys H
theorem kI.mk' {i:Nat}{S:St->Prop}{Pv:List V->Hp->Prop}{ys:List V}(hi:i<n) (s:S Z) (p:Pv ys H):∃ m',m'<n-i/\kI n (i+1) S Pv m' ys Z H:=⟨n-(i+1),by lia,rfl,hi,s,p⟩
theorem mE {σ0:St}{J:It}{acc:ag}{R:Hp->Prop}(Pv:Nat->List V->Hp->Prop) (S:St->Prop) (h0:Pv 0 [] (upd H acc (.lst []))) (s0:S σ0)
  (ha:∀ i ys H,Pv i ys H->H acc=some (.lst ys)) (hst:∀ ys H,Pv n ys H->J.stop n H/\R H) (hgo:∀ i ys H,i<n->Pv i ys H->J.go i H)
  (hs:∀ i ys σ' H x H2,i<n->Pv i ys H->S σ'->J.J7 i H x H2->g x σ' H2 λσ2 H3=>tt σ2 H3 λb H4=>if b=true then te σ2 H4 λy H5=>H5 acc=some (.lst ys)/\ys.length<aU/\∃ m',m'<n-i/\kI n (i+1) S (Pv (i+1)) m' (ys++[y]) σ2 (upd H5 acc (.lst (ys++[y]))) else ∃ m',m'<n-i/\kI n (i+1) S (Pv (i+1)) m' ys σ2 H4) :
  ∃ W:Nat->Nat->List V->St->Hp->Prop,(∃ m,W 0 m [] σ0 (upd H acc (.lst [])))/\∀ i m ys σ' H',W i m ys σ' H'->H' acc=some (.lst ys) /\
  ((J.stop i H'/\R H')\/(J.go i H'/\∀ x H2,J.J7 i H' x H2->g x σ' H2 λσ2 H3=>tt σ2 H3 λb H4 =>
   if b=true then te σ2 H4 λy H5=>H5 acc=some (.lst ys)/\ys.length<aU/\∃ m',m'<m/\W (i+1) m' (ys++[y]) σ2 (upd H5 acc (.lst (ys++[y]))) else ∃ m',m'<m/\W (i+1) m' ys σ2 H4)):=by
 refine ⟨λi m ys σ' H'=>kI n i S (Pv i) m ys σ' H',⟨n,by simp,aM _,s0,h0⟩,?_⟩;rintro i m ys σ' H' ⟨rfl,hi,hS,p⟩;refine ⟨ha i ys H' p,?_⟩
 by_cases hlt:i<n
 .exact .inr ⟨hgo i ys H' hlt p,λx H2 y=>hs i ys σ' H' x H2 hlt p hS y⟩
 .have e:i=n:=by lia
  subst e;exact .inl (hst ys H' p)
structure Pa (Pv:St->Hp->Prop) (μ:St->Hp->Nat) (m:Nat) (Z:St) (H:Hp):Prop where
 m:m=μ Z H
 p:Pv Z H
theorem AY {c:TT}{tb:TS}(Pv:St->Hp->Prop) (μ:St->Hp->Nat) (h0:Pv Z H)
  (hs:∀ Z H,Pv Z H->c Z H λb H1=>if b=true then ∃ N:St->Hp->Prop,(∀ σ' H',N σ' H'->∃ m',m' < μ Z H/\Pa Pv μ m' σ' H')/\tb { D with nx:=N,ct:=N,bk:=D.nx } Z H1 else D.nx Z H1):AG c tb D Z H:=by
 refine ⟨Pa Pv μ,⟨_,rfl,h0⟩,?_⟩;rintro m Z H ⟨rfl,p⟩;exact hs Z H p
def wN (Pv:St->Hp->Prop) (μ:St->Hp->Nat) (b:Nat):St->Hp->Prop:=λZ H=>Pv Z H/\μ Z H<b
theorem Pb {Pv:St->Hp->Prop}{μ:St->Hp->Nat} {b:Nat}:∀ σ' H',wN Pv μ b σ' H'->∃ m',m'<b/\Pa Pv μ m' σ' H':=λσ' H' ⟨p,l⟩=>⟨_,l,rfl,p⟩
section
variable {tb:TE}{t u:TS}{tA:TA}{QT:Bool->Hp->Prop}{QA:List V->Hp->Prop}
theorem Sq {r r':R2}{tc:TE}(h:ta Z H λx H1=>tb Z H1 λy H2=>r x y H2 λz H3=>∃ k,z=.bl k/\(if k=true then tc Z H3 λw' H4=>r' y w' H4 Q else Q (.bl false) H3)):Fx r r' ta tb tc Z H Q:=h
theorem x_rU {g:Int->V}(h:Q (g i) H):rU g (.int i) H Q:=⟨i,rfl,h⟩
theorem XR {i j:Bool}(h:Q (.bl (decide (V.bl i=V.bl j))) H):jG K (.bl i) (.bl j) H Q:=.inl ⟨rfl,h⟩
theorem x_tB (h:te Z H λx H1=>∃ c,x=.bl c/\QT c H1):tB te Z H QT:=h
theorem XS (h:ta Z H λx H1=>Q (.bl (decide (x=.non))) H1):RM ta Z H Q:=h
theorem VU (h:ta Z H λx H1=>Q (.bl (!decide (x=.non))) H1):LO ta Z H Q:=h
theorem VV {R:It->Hp->Prop}(h:tA Z H λvs H1=>∃ j:Int,vs=[.int j]/\-(2^62)<=j/\j<2^62/\R (OL 0 j.toNat) H1):vP tA Z H R:=h
theorem XT {tb:TS}(h:wi Z H λJ H1=>∃ W:Nat->Nat->St->Hp->Prop,(∃ m,W 0 m Z H1)/\∀ i m Z H,W i m Z H ->
 (J.stop i H/\D.nx Z H)\/(J.go i H/\∃ N:St->Hp->Prop,(∀ σ' H',N σ' H'->∃ m',m'<m/\W (i+1) m' σ' H')/\∀ x H',J.J7 i H x H'->g x Z H' λσ2 H2=>tb { D with nx:=N,ct:=N,bk:=D.nx } σ2 H2)):qL wi g tb D Z H:=h
theorem VW {own:Nat}{js:List Nat}(h:wi Z H λJ H1=>∀ acc,H1 acc=none ->
 ∃ W:Nat->Nat->List V->St->Hp->Prop,(∃ m,W 0 m [] (lM own none++HR Z js) (upd H1 acc (.lst [])))/\∀ i m ys σ' H',W i m ys σ' H'->H' acc=some (.lst ys) /\
  ((J.stop i H'/\Q (.ref acc) H')\/(J.go i H'/\∀ x H2,J.J7 i H' x H2->g x σ' H2 λσ2 H3=>tt σ2 H3 λb H4 =>
   if b=true then te σ2 H4 λy H5=>H5 acc=some (.lst ys)/\ys.length<aU/\∃ m',m'<m/\W (i+1) m' (ys++[y]) σ2 (upd H5 acc (.lst (ys++[y]))) else ∃ m',m'<m/\W (i+1) m' ys σ2 H4))):jq own js wi g tt te Z H Q:=h
theorem XU {i:Nat}{ti:Zk}(hx:Z[i]?=some (some x)) (h:te Z H λy H1=>ti x y H1 λz H2=>D.nx (Z.set i (some z)) H2):Kj i te ti D Z H:=⟨x,hx,h⟩
theorem FM {ts:Ry}(h:ie K H a xs) (hn:xs.length=n) (k:ts xs Z H R):Ft K n ts (.ref a) Z H R:=⟨a,xs,rfl,h,hn,k⟩
theorem Sr {gs:Ry}{v:V}{r:List V}(h:g v Z H λσ' H'=>gs r σ' H' R):jN g gs (v::r) Z H R:=⟨v,r,rfl,h⟩
theorem VX (h:R Z H):Hu [] Z H R:=⟨rfl,h⟩
theorem XW (h:H l=some (.lst xs)) (h':H b=some (.lst zs)) (hl:xs.length+zs.length<=aU) (k:Q .non (upd H l (.lst (xs++zs)))):FG (.ref l) [.ref b] H Q:=⟨l,b,xs,zs,rfl,rfl,h,h',hl,k⟩
theorem Ug (h:H l=some (.lst xs)) (h':H b=some (.lst zs)) (hl:xs.length+zs.length<=aU) (k:∀ p,H p=none->Q (.ref p) (upd H p (.lst (xs++zs)))):dE (.ref l) (.ref b) H Q:=.inr ⟨l,b,xs,zs,rfl,rfl,h,h',hl,k⟩
theorem XX (k:Q (.int (if j<i then j else i)) H):EG [.int i,.int j] H Q:=⟨i,j,rfl,k⟩
theorem XY (k:Q (.int (if j>i then j else i)) H):EH [.int i,.int j] H Q:=⟨i,j,rfl,k⟩
theorem HV {T:String}{t:aj}{b:Bool}(ty:vQ K H x t) (e:kR K t (.type T)=some b) (k:Q (.bl b) H):Kx K [x,.ty T] H Q:=⟨x,T,t,b,rfl,ty,e,k⟩
theorem HW {lo hi:Option Int}(h:cL K H a xs) (k:∀ p,H p=none->Q (.ref p) (upd H p (.lst (AU xs lo hi)))):pM K (.ref a) lo hi H Q:=⟨a,xs,rfl,h,k⟩
theorem XZ {dx dy:PyData}(h1:Rep K H dx x) (h2:Rep K H dy y) (f1:vX dx) (f2:vX dy) (k:Q (.bl (d7 dx dy)) H):jG K x y H Q:=.inr ⟨dx,dy,h1,h2,f1,f2,k⟩
theorem Uh {dx dy:PyData}(h1:Rep K H dx x) (h2:Rep K H dy y) (f1:vX dx) (f2:vX dy) (k:Q (.bl (!PyData.eqv dx dy)) H):zD K x y H Q:=.inr ⟨dx,dy,h1,h2,f1,f2,k⟩
theorem AZ (h1:Rep K H d x) (h2:Rep K H (.list ds) y) (f1:vX d) (f2:iq ds=true) (k:Q (.bl (!(ds.any λe=>d7 e d))) H):AV K true x y H Q:=.inl ⟨d,ds,h1,.inl h2,f1,f2,k⟩
theorem X0 (h1:Rep K H d x) (h2:Rep K H (.list ds) y) (f1:vX d) (f2:iq ds=true) (k:Q (.bl (ds.any λe=>d7 e d)) H):AV K false x y H Q:=.inl ⟨d,ds,h1,.inl h2,f1,f2,k⟩
end
theorem Pc:kR K (.type "int") (.type "int")=some true:=by rfl
theorem Pd:kR K (.type "int") (.type "bool")=some false:=by rfl
theorem VY:kR K (.type "tuple") (.type "tuple")=some true:=by rfl
theorem bQ.cC (h:H l=none):bQ H (upd H l o):=λb u e=>by rw [aG (aQ e h)];exact e
def bh (c:ag) (H H':Hp):Prop:=∀ b o,H b=some o->b≠c->H' b=some o
theorem bh.refl (c:ag) (H:Hp):bh c H H:=λ_ _ h _=>h
theorem bh.trans {H1 H2:Hp}(a:bh c H H1) (b:bh c H1 H2):bh c H H2:=λx o h n=>b x o (a x o h n) n
theorem bh.same {H':Hp}(e:bQ H H'):bh c H H':=λb o h _=>e b o h
theorem bh.upd:bh c H (upd H c o):=λb u e n=>by rw [aG n];exact e
theorem eI {α:Type} {xs:List α}{j:Nat}{v:α}(hi:i=(j:Int)) (h:xs[j]?=some v):Os xs i=some v:=by subst hi;exact Sd h
theorem VZ {j:Nat}(hi:i=(j:Int)) (h:j<n):Oq n i=some j:=by
 subst hi;unfold Oq;rw [if_pos (by lia),if_pos (by lia)]
 rfl
theorem bq (h:n<=m) (hm:m<=100000:=by decide):n<=aU:=bA h (bA hm (by rw [tE];decide))
theorem eL (h:n<m) (hm:m<=100000:=by decide):n<aU:=bp h (bA hm (by rw [tE];decide))
mutual
def kj:PyData->Bool
 | .int _=>true
 | .list xs=>jt xs
 | .tuple xs=>jt xs
 | _=>false
def jt:List PyData->Bool
 | []=>true
 | x::xs=>kj x && jt xs
end
mutual
theorem oK:∀ d:PyData,kj d=true->d.canLay0=true
 | .int _,_=>by simp [Fi]
 | .list xs,h=>by simp only [kj] at h;simp only [Fi];exact gp xs h
 | .tuple xs,h=>by simp only [kj] at h;simp only [Fi];exact gp xs h
 | .none,h=>by simp [kj] at h
 | .bool _,h=>by simp [kj] at h
 | .str _,h=>by simp [kj] at h
 | .dict _,h=>by simp [kj] at h
theorem gp:∀ ds:List PyData,jt ds=true->iq ds=true
 | [],_=>by simp [iq]
 | d::ds,h=>by
  simp only [jt,jU] at h;simp only [iq,jU];exact ⟨oK d h.1,gp ds h.2⟩
end
end L2
namespace L2
open PySem.Calls
open PySem.W (kla_fn kla_obj tabObj CodeHd)
variable {pos:sT}{H:Hp}{params:nK}{scope:pH}{X:Cx}
def k9 (Pt:ag) (H H':Hp):Prop:=∀ b o,b≠Pt->H b=some o->H' b=some o
def pC (Pt:ag) (pos:sT) (qual:bD) (H:Hp):Prop :=
 H Pt=some (.tbl #[])\/∃ c' oc vs t,H Pt=some (.tbl #[cz pos.line,cz pos.col,.ref c'])/\H c'=some (.frz oc (.ext λ_=>True))/\oc.data=.fields vs/\vs[1]?=some (qy qual t)
theorem pC.tbl {Pt:ag}{qual:bD}(h:pC Pt pos qual H):∃ ps,H Pt=some (.tbl ps):=by
 rcases h with h|⟨_,_,_,_,h,_⟩
 .exact ⟨_,h⟩
 .exact ⟨_,h⟩
section
variable {pins:List (ag×jk)}{Z:St}{s:ax}{c Pt:ag}
theorem HX {E:aj->ax->Prop}{Q:aj->ax->Prop}{body:Expr}(I:Inv X pins Z H s) (hcode:X.env.code=.ref c) (C:ic X.base c Pt) (B:X.base.BuiltinsAt X.mg Pt)
  (hdef:defaultsOf params X.env=([],[])) (hfr:∀ n,(n,bL)∈scope.names->∃ c,X.env.cells.lookup n=some c) (hT:pC Pt pos (X.env.qual++"<lambda>") H)
  (h:∀ f c' ctv h' tk H2,Inv X pins Z H2 { s with heap:=h',toks:=tk }->h'.get? f=some (xE "<lambda>" (X.env.qual++"<lambda>") params body scope (nG X.env.cells scope.names []) ((X.mg "__name__").getD .none) c' ctv)->h'.CodeRec (.ref c') (X.env.qual++"<lambda>") ->
   k9 Pt H H2->pC Pt pos (X.env.qual++"<lambda>") H2->(∀ b o,b≠Pt->s.heap.get? b=some o->h'.get? b=some o)->Q (.ref f) { s with heap:=h',toks:=tk }) :
  aK (aL X.prog X.w) X.A (eJ (.Lambda params body scope pos) X.env) Q E s:=by
 have hg:s.heap.Ns bM X.mg:=I.mod.glob.keeps I.bk;have C1:=C.keeps I.bk
 have B1:s.heap.BuiltinsAt X.mg Pt:=let ⟨bm,o,b1,b2,b3,b4,b5,b6⟩:=B;⟨bm,o,b1,b2,b3,b4,I.bk _ _ b5,b6⟩
 refine PySem.W.kla_eval hdef ?_
 rcases hT with hT|⟨c',oc,vs,t,hT,hc',hd,hv⟩
 .have hP:s.heap.get? Pt=some (JY #[]):=I.eY Pt _ hT
  have hgP:bM≠Pt:=λq=>by
   obtain ⟨o,es,ep,e,hd,_⟩:=hg;rw [q,hP] at e;cases e;cases hd
  refine PySem.W.kla_makeFunction (mg:=X.mg) (vc hfr) I.ok.glob hg hcode C1 hP trivial rfl hgP B1 λc' ctv h' tk hx hge hlt hrec htb=>?_;obtain ⟨c₂,oc,vs,t,e2,hoc,hd,hv⟩:=id hrec;cases e2;have hn:H c'=none:=I.eY.fresh hge
  have ncP:c'≠Pt:=λq=>by rw [q,hT] at hn;cases hn
  have hL:X.env.locals≠Pt:=λq=>by have:=I.free;rw [q,hT] at this;cases this
  have k:∀ b o,b≠Pt->s.heap.get? b=some o->(h'.push (xE "<lambda>" (X.env.qual++"<lambda>") params body scope (nG X.env.cells scope.names []) ((X.mg "__name__").getD .none) c' ctv)).get? b=some o:=λb o hb e=>aq _ (hx b o hb e);have hP':(h'.push (xE "<lambda>" (X.env.qual++"<lambda>") params body scope (nG X.env.cells scope.names []) ((X.mg "__name__").getD .none) c' ctv)).get? Pt=some (JY #[cz pos.line,cz pos.col,.ref c']):=aq _ htb;have hoc':(h'.push (xE "<lambda>" (X.env.qual++"<lambda>") params body scope (nG X.env.cells scope.names []) ((X.mg "__name__").getD .none) c' ctv)).get? c'=some oc:=aq _ hoc;have hf:(h'.push (xE "<lambda>" (X.env.qual++"<lambda>") params body scope (nG X.env.cells scope.names []) ((X.mg "__name__").getD .none) c' ctv)).get? h'.objs.size=some (xE "<lambda>" (X.env.qual++"<lambda>") params body scope (nG X.env.cells scope.names []) ((X.mg "__name__").getD .none) c' ctv):=aJ _ rfl;generalize h'.push (xE "<lambda>" (X.env.qual++"<lambda>") params body scope (nG X.env.cells scope.names []) ((X.mg "__name__").getD .none) c' ctv)=h2 at k hP' hoc' hf
  have st:∀ b o,b≠Pt->H b=some o->upd (upd H Pt (.tbl #[cz pos.line,cz pos.col,.ref c'])) c' (.frz oc (.ext λ_=>True)) b=some o:=λb o hb e=>by
   rw [aG (aQ e hn),aG hb];exact e
  refine h _ c' ctv h2 tk (upd (upd H Pt (.tbl #[cz pos.line,cz pos.col,.ref c'])) c' (.frz oc (.ext λ_=>True))) ?_ hf ⟨c',oc,vs,t,rfl,hoc',hd,hv⟩ st (.inr ⟨c',oc,vs,t,by rw [aG (Ne.symm ncP)];exact aE,aE,hd,hv⟩) k
  have nP:∀ b,H b=none->b≠Pt:=λb e q=>by rw [q,hT] at e;cases e
  refine I.step (g':=s.gens) (d':=s.drawn) (ch:=[]) (λ_ z=>nomatch z) (λb o _ _ _ e n=>k b o (nP b n) e) (λb o _ _ _ e n=>⟨o.slots,k b o (nP b n) e⟩) (λb o _ e n=>?_) (λb o _ e=>?_) (λb xs e=>?_) (λb o u e=>?_)
   (λb ps e=>?_) (λm' hm'=>?_) (λb u e=>?_) I.bare
  .rw [aG (a6 (bp (aH e) hge)),aG (nP b n)];exact n
  .by_cases hb:b=Pt
   .exact ⟨_,hb▸hP'⟩
   .exact ⟨o,k b o hb e⟩
  .exact st b _ (λq=>by rw [q,hT] at e;cases e) e
  .exact st b _ (λq=>by rw [q,hT] at e;cases e) e
  .by_cases hb:b=Pt
   .subst hb;rw [hT] at e;cases e;exact ⟨#[cz pos.line,cz pos.col,.ref c'],by rw [aG (Ne.symm ncP),aE];simp⟩
   .exact ⟨#[],by rw [st b _ hb e];simp⟩
  .obtain ⟨o,es,ep,e,r⟩:=hm';exact ⟨o,es,ep,k _ o hL e,r⟩
  .by_cases hb:b=c'
   .subst hb;rw [aE] at e;cases e;exact ⟨hoc',trivial,⟨oc,hoc'⟩,λ_ _ _ _=>trivial⟩
   .rw [aG hb] at e
    by_cases hb2:b=Pt
    .subst hb2;rw [aE] at e;cases e;exact hP'
    .rw [aG hb2] at e;refine (I.eY b u e).yF (λd v hc q=>k d v ?_ q) (λd q=>st d _ (λz=>by rw [z,hT] at q;cases q) q) λd xs q=>st d _ (λz=>by rw [z,hT] at q;cases q) q;rintro rfl
     rcases hc with hc|hc
     .exact hb2 hc.symm
     .rw [hT] at hc;cases hc
 .have hP:s.heap.get? Pt=some (JY #[cz pos.line,cz pos.col,.ref c']):=I.eY Pt _ hT;refine PySem.W.kla_makeFunctionHit (mg:=X.mg) (cv:=.ref c') (vc hfr) I.ok.glob hg hcode C1 hP (by simp [TriplesOk,cz]) (by simp [codeAmong,cz]) B1 λctv h' tk hk hsz=>?_;have k:∀ b o,s.heap.get? b=some o->(h'.push (xE "<lambda>" (X.env.qual++"<lambda>") params body scope (nG X.env.cells scope.names []) ((X.mg "__name__").getD .none) c' ctv)).get? b=some o:=λb o e=>aq _ (hk b o e);refine h h'.objs.size c' ctv _ tk H (I.kept k) (aJ _ rfl) ⟨c',oc,vs,t,rfl,k _ _ (I.eY c' _ hc').1,hd,hv⟩ (λ_ _ _ e=>e) (.inr ⟨c',oc,vs,t,hT,hc',hd,hv⟩) λb o _ e=>k b o e
end
section
variable {c Pt:ag}{e:Expr}{tx:TA}{x y:bD}{j:Nat}{p0 p1 p2 p3 lpos kpos:sT}
end
end L2
namespace L2
open PySem.Calls
open PySem.W (tabObj CodeHd noTabs tabIn)
end L2
namespace L2
variable {H H':Hp}{Pt:ag}{p:sT}{q:bD}{K:aa}
theorem LB.okC {P:bB}{w:ck}{mg:bD->Option aj}{base:cK}{x qual:bD}{st:dB}{f:ag}{fd:fz}{N ps:List bD}{k:Nat}{sp:Sp}{nB:aj}(F:LB K x qual st f fd) (hc:fd.code=nB) (S:bK N ps (aV st)) (len:∀ vs H Q E,sp vs H Q E->vs.length=ps.length)
  (hbody:∀ (A:cM) (outer:List He) (s:ax) (H:Hp) (vs:List V) (Q:VK) (E:XK),gU k (A.deeper (uc qual (aV st) s.heap.objs.size f nB))->sp vs H Q E ->
   ∃ t,J8 (FC Hc P w K mg base N qual (aV st) f nB A outer s H E).UV (jR st) t/\t { nx:=λ_ H'=>Q .non H',rt:=Q } (start N vs) H):kF P w K mg base Hc (k+1) f fd ps sp:=by
 obtain ⟨oc,od,kV,doc,pm,an,cdv',ct,osl,rfl,lk,hcd⟩:=F.ex;have e:cdv'=nB:=hc;subst e;refine T8 lk hcd S len λA outer s H vs Q E hr hsp=>?_;obtain ⟨t,h,q⟩:=hbody A outer s H vs Q E hr hsp;exact ⟨t,h.UV,q⟩
theorem pC.same (h:pC Pt p q H) (e:bQ H H'):pC Pt p q H':=by
 rcases h with h|⟨c',oc,vs,t,h1,h2,h3,h4⟩
 .exact .inl (e _ _ h)
 .exact .inr ⟨c',oc,vs,t,e _ _ h1,e _ _ h2,h3,h4⟩
theorem k9.tup (S:k9 Pt H H') (L:pC Pt p q H) {b:ag}{xs:List V}(e:H b=some (.tup xs)):H' b=some (.tup xs):=by
 obtain ⟨ps,h⟩:=L.tbl;exact S b _ (λz=>by rw [z,h] at e;cases e) e
theorem k9.free (S:k9 Pt H H') (L':pC Pt p q H') {b:ag}(e:H' b=none):H b=none:=by
 cases h:H b with
 | none=>rfl
 | some o =>
  obtain ⟨ps,ht⟩:=L'.tbl;rw [S b o (λz=>by rw [z,ht] at e;cases e) h] at e;cases e
section
variable {Z:St}{Q:VK}
theorem mF {σ0:St}{g:TG}{tt:TT}{te:TE}{z acc:ag}{xs:List V}{R:Hp->Prop}{α:Type} (items:List α) (p:α->Bool) (f:α->V) (S:St->Prop) (hlen:items.length=xs.length) (hz:cL K H z xs) (ha:H acc=none) (s0:S σ0) (hs:xs.length<=100000)
  (turn:∀ (i:Nat) (a:α) (x:V) (σ':St) (H':Hp) (G:V->St->Hp->Prop) (G':St->Hp->Prop),items[i]?=some a->xs[i]?=some x->bQ H H'->S σ'->(p a=true->∀ σ2,S σ2->G (f a) σ2 H')->(p a=false->∀ σ2,S σ2->G' σ2 H') ->
   g x σ' H' λσ2 H3=>tt σ2 H3 λb H4=>if b=true then te σ2 H4 λy H5=>G y σ2 H5 else G' σ2 H4)
  (fin:∀ H',bQ H H'->H' acc=some (.lst ((items.filter p).map f))->R H') :
  ∃ W:Nat->Nat->List V->St->Hp->Prop,(∃ m,W 0 m [] σ0 (upd H acc (.lst [])))/\∀ i m ys σ' H',W i m ys σ' H'->H' acc=some (.lst ys) /\
  (((Oo K z).stop i H'/\R H')\/((Oo K z).go i H'/\∀ x H2,(Oo K z).J7 i H' x H2->g x σ' H2 λσ2 H3=>tt σ2 H3 λb H4 =>
   if b=true then te σ2 H4 λy H5=>H5 acc=some (.lst ys)/\ys.length<aU/\∃ m',m'<m/\W (i+1) m' (ys++[y]) σ2 (upd H5 acc (.lst (ys++[y]))) else ∃ m',m'<m/\W (i+1) m' ys σ2 H4)):=by
 refine mE (n:=xs.length) (λi ys H'=>ys=((items.take i).filter p).map f/\H' acc=some (.lst ys)/\bQ H H') S ⟨by simp,aE,bQ.cC ha⟩ s0 ?_ ?_ ?_ ?_
 .rintro i ys H' ⟨_,h,_⟩;exact h
 .rintro ys H' ⟨e,h,S'⟩;refine ⟨⟨_,S'.seq hz,ak _⟩,fin H' S' ?_⟩;rw [h,e,bT (by lia)]
 .rintro i ys H' hi ⟨e,h,S'⟩;exact ⟨_,_,S'.seq hz,ay hi⟩
 .rintro i ys σ' H' x H2 hi ⟨e,h,S'⟩ hσ ⟨e2,hx⟩;subst e2;have hxi:=hx _ (S'.seq hz)
  obtain ⟨a,hai⟩:∃ a,items[i]?=some a:=⟨_,ay (by lia)⟩
  have et:items.take (i+1)=items.take i++[a]:=by rw [fo,hai];rfl
  refine turn i a x σ' H2 _ _ hai hxi S' hσ (λhp σ2 h2=>?_) λhp σ2 h2=>?_
  .refine ⟨h,bz (m:=i) ?_ (bp hi (bq hs)),kI.mk' hi h2 ⟨?_,aE,λb o q=>by rw [aG (aQ q ha)];exact S' _ _ q⟩⟩
   .rw [e,af];exact bA (dF _ _) (by rw [bS];lia)
   .rw [et,e,eS,aZ];simp [hp]
  .refine kI.mk' hi h2 ⟨?_,h,S'⟩;rw [et,e,eS,aZ];simp [hp]
theorem mY:∀ ns:List Int,jt (ns.map .int)=true
 | []=>rfl
 | n::ns=>by simp only [aW,jt,jU];exact ⟨by simp [kj],mY ns⟩
theorem A1:∀ ns:List Int,ft (ns.map .int)<=1
 | []=>by simp [ft]
 | n::ns=>by
  have:=A1 ns;simp only [aW,ft]
  have e:(Fj n).depth<=1:=by simp [lb]
  lia
theorem Nq (ns:List Int):vX (.list (ns.map .int)):=⟨oK _ (by simp only [kj];exact mY ns),by have:=A1 ns;simp only [lb];lia⟩
theorem Pe {a:ag}{ns:List Int}(h:cL K H a (ns.map V.int)):Rep K H (.list (ns.map .int)) (.ref a):=.lst h (d9.ints ns)
end
end L2
namespace BootT
open PySem
theorem sum:cV "sum"=some (.builtin "sum"):=by decide +kernel
theorem zip:cV "zip"=some (.type "zip"):=by decide +kernel
theorem set:cV "set"=some (.type "set"):=by decide +kernel
theorem Nr:cV "enumerate"=some (.type "enumerate"):=by decide +kernel
end BootT
namespace L2
open PySem PySem.Spec PyProof.Rows PySem.SeqAt
section
variable {X:Cx}
def Pg (K:aa):V->List V->Hp->VK->Prop:=λx vs H Q=>∃ (l:ag) (ns:List Int) (k:Int),x=.ref l/\vs=[.int k]/\cL K H l (ns.map V.int)/\k∈ns/\Q (.int (ns.idxOf k:Nat)) H
theorem Ph:Rz X "list.index" (Pg X.K):=by
 intro pins s Z H x vs v us Q I rx rv h;obtain ⟨l,ns,k,rfl,rfl,hq,hk,q⟩:=h;cases rx;obtain ⟨u,rfl,t,rfl⟩:=rv.one;obtain ⟨its,r,pl,hz⟩:=I.list hq;have hi:eN its ns:=intsAre_of r;have hlen:=hi.length;have hl2:=r.length;have hj:ns.idxOf k<ns.length:=fW.mpr hk;have h63:=qM;rw [af] at hz hl2;obtain ⟨⟨cls,dd,data,sl⟩,ho,hc,n,hd⟩:=pl.isList;simp only at hc hd;subst hc hd
 refine N6 f9 ⟨_,ho,rfl⟩ GZ (Fk _ _)
  (list_indexAt l its.toArray n dd sl (.int k t) (isInt k) (ns.idxOf k) (by rw [aI];lia) (by lia) ?_ ?_) ⟨ho,λy hy=>(eq_isInt k t hi y (by simpa using hy)).at _ _,⟨.int _,H,I.tok _,⟨_,rfl⟩,q⟩⟩
 .show isInt k its[ns.idxOf k]=true
  rw [isInt_at k hi _ (by lia) hj]
  simpa using zA hj
 .intro j hjs hlt
  show isInt k its[j]=false
  rw [isInt_at k hi j (by simpa using hjs) (by lia)];exact ne_of_lt_idxOf hlt _
def Ma (K:aa):V->List V->Hp->VK->Prop:=λx vs H Q=>∃ (l:ag) (y:V) (ds:List PyData) (d:PyData) (j:Nat) (ej:PyData),x=.ref l/\vs=[y]/\Rep K H (.list ds) (.ref l)/\Rep K H d y/\vX d/\iq ds=true /\
 ds.length<=aU/\ds[j]?=some ej/\d7 ej d=true/\(∀ m e,m<j->ds[m]?=some e->d7 e d=false)/\Q (.int (j:Nat)) H
theorem Nt (hu:X.A.units+64<gY):Rz X "list.index" (Ma X.K):=by
 intro pins s Z H x vs v us Q I rx rv h;obtain ⟨l,y,ds,d,j,ej,rfl,rfl,hR,hd,hf,hc,hz,hj,he,hno,q⟩:=h;cases rx;obtain ⟨u,rfl,ru⟩:=rv.one;obtain ⟨as,r1⟩:=Rep.reads I _ _ _ hR rfl;obtain ⟨bs,r2⟩:=Rep.reads I d y u hd ru;have h63:=qM;have hdep:=hf.dep;have hjl:j<ds.length:=(aD.mp hj).1
 cases r1 with
 | @list _ o items n _ as2 h1 h2 h3 h4 =>
  obtain ⟨cls,dd,data,sl⟩:=o;have h2':cls=_:=h2;have h3':data=_:=h3;subst h2' h3';have hm:=readsAll_map _ _ _ hc h4
  have hsz:items.size=ds.length:=by rw [← hm,af,aP]
  have at_:∀ (m:Nat) (hm':m<items.size) (e:PyData),ds[m]?=some e->readOf s.heap items[m]=e:=λm hm' e z=>by
   rw [← hm,aA,dD,cb hm'] at z;exact a7 z
  refine N6 f9 ⟨_,h1,rfl⟩ GZ (Fk _ _)
   (list_indexAt l items n dd sl u (λy=>d7 (readOf s.heap y) d) j (by lia) (by lia) ?_ ?_) ⟨h1,items_eqAt h4 r2 hc hf.lay (by lia),⟨.int _,H,I.tok _,⟨_,rfl⟩,q⟩⟩
  .show d7 (readOf s.heap items[j]) d=true
   rw [at_ j (by lia) _ hj];exact he
  .intro m hm' hlt
   obtain ⟨e,z⟩:∃ e,ds[m]?=some e:=⟨_,ay (by lia)⟩
   show d7 (readOf s.heap items[m]) d=false
   rw [at_ m hm' e z];exact hno m e hlt z
theorem Rz.or {id:String}{r r':V->List V->Hp->VK->Prop}(h:Rz X id r) (h':Rz X id r'):Rz X id (λx vs H Q=>r x vs H Q\/r' x vs H Q):=by
 intro pins s Z H x vs v us Q I rx rv z
 rcases z with z|z
 .exact h pins s Z H x vs v us Q I rx rv z
 .exact h' pins s Z H x vs v us Q I rx rv z
def pN (K:aa):V->List V->Hp->VK->Prop:=λx vs H Q=>Pg K x vs H Q\/Ma K x vs H Q
theorem tq (hu:X.A.units+64<gY):Rz X "list.index" (pN X.K):=Ph.or (Nt hu)
variable {tg:Expr}
theorem Mb {K:aa}{l:ag}{ns:List Int}{k:Int}{H:Hp}{Q:VK}(h:cL K H l (ns.map V.int)) (hk:k∈ns) (q:Q (.int (ns.idxOf k:Nat)) H):pN K (.ref l) [.int k] H Q:=.inl ⟨l,ns,k,rfl,rfl,h,hk,q⟩
end
end L2
namespace L2
variable {n j:Nat}{v:Int}{σ0:St}{g:TG}{te:TE}{acc:ag}{R:Hp->Prop}{K:aa}{H:Hp}{Q:VK}
def Ui:List V->Hp->VK->Prop:=λxs H Q=>(∃ i,xs=[.int i]/\Q (.int i) H)\/∃ k,xs=[.bl k]/\Q (.int (if k then 1 else 0)) H
section
variable {a:ag}{xs:List V}{ns:List Int}{i i':Int}{j':Nat}
theorem FN {d:Nat}(h:i=(j:Int)):HT.Hb n d (some i)=min j n:=by subst h;exact HT.Sb n d j
theorem HY (h:i=(j:Int)):AU xs (some i) none=xs.drop j:=by
 unfold AU;rw [FN h,HT.HH]
 by_cases e:j<=xs.length
 .rw [uX e,bT (by rw [cW];lia)]
 .rw [En (by lia),lO (ak _),lO (by lia)];simp
theorem x4 (h:i=(j:Int)):AU xs none (some i)=xs.take j:=by
 unfold AU;rw [FN h,HT.HH,Hh,Nat.sub_zero]
 by_cases e:j<=xs.length
 .rw [uX e]
 .rw [En (by lia),bT (ak _),bT (by lia)]
theorem Ss (h:i=(j:Int)) (h':i'=(j':Int)):AU xs (some i) (some i')=(xs.drop j).take (j'-j):=by
 unfold AU;rw [FN h,FN h']
 by_cases e:j<=xs.length
 .rw [uX e]
  by_cases e':j'<=xs.length
  .rw [uX e']
  .rw [En (by lia),bT (by rw [cW];lia),bT (by rw [cW];lia)]
 .rw [lO (show xs.length<=min j xs.length by lia),lO (show xs.length<=j by lia)];simp
theorem vY (h:cL K H a (ns.map V.int)) (e:i=(j:Int)) (k:∀ p,H p=none->Q (.ref p) (upd H p (.lst ((ns.drop j).map V.int)))):pM K (.ref a) (some i) none H Q :=
 HW h λp hp=>by rw [HY e,← Kc];exact k p hp
theorem Pi (h:cL K H a (ns.map V.int)) (e:i=(j:Int)) (k:∀ p,H p=none->Q (.ref p) (upd H p (.lst ((ns.take j).map V.int)))):pM K (.ref a) none (some i) H Q :=
 HW h λp hp=>by rw [x4 e,← mL];exact k p hp
theorem Mc (h:cL K H a (ns.map V.int)) (e:i=(j:Int)) (e':i'=(j':Int)) (k:∀ p,H p=none->Q (.ref p) (upd H p (.lst (((ns.drop j).take (j'-j)).map V.int)))):pM K (.ref a) (some i) (some i') H Q :=
 HW h λp hp=>by rw [Ss e e',← Kc,← mL];exact k p hp
theorem FO {l b:ag}{ms:List Int}(h:H l=some (.lst (ns.map V.int))) (h':H b=some (.lst (ms.map V.int))) (hl:ns.length+ms.length<=100000) (k:∀ p,H p=none->Q (.ref p) (upd H p (.lst ((ns++ms).map V.int)))):dE (.ref l) (.ref b) H Q :=
 Ug h h' (by rw [af,af];exact bq hl) λp hp=>by rw [← aZ];exact k p hp
theorem Su (h:ns[j]?=some v):(ns.map V.int)[j]?=some (.int v):=by rw [aA,h];rfl
theorem A2 (h:cL K H a (ns.map V.int)) (e:i=(j:Int)) (g:ns[j]?=some v) (k:Q (.int v) H):cY K (.ref a) (.int i) H Q:=j4 h (eI e (Su g)) k
theorem FP (h:cL K H a (ns.map V.int)) (k:Q (.int ns.length) H):ma K [.ref a] H Q:=jr h (by rw [af];exact k)
end
section
variable {Z:St}
theorem Pj {J:It}(E:Nat->V->Hp->Prop) (X:Nat->V->Prop) (S:St->Prop) (ha:H acc=none) (s0:S σ0) (hn:n<=100000)
  (hgo:∀ i H',bQ H H'->i<n->J.go i H') (hstop:∀ H',bQ H H'->J.stop n H') (hy:∀ i H' x H2,bQ H H'->i<n->J.J7 i H' x H2->H2=H'/\X i x)
  (st:∀ i y H1 H2 zs,H1 acc=some (.lst zs)->bh acc H1 H2->E i y H1->E i y H2)
  (turn:∀ (i:Nat) (x:V) (σ':St) (H':Hp) (G:V->St->Hp->Prop),i<n->X i x->bQ H H'->S σ'->(∀ y σ2 H5,S σ2->bQ H' H5->E i y H5->G y σ2 H5)->g x σ' H' λσ2 H3=>te σ2 H3 λy H5=>G y σ2 H5)
  (fin:∀ ys H',ys.length=n->H' acc=some (.lst ys)->bQ H H'->(∀ i y,ys[i]?=some y->E i y H')->R H') :
  ∃ W:Nat->Nat->List V->St->Hp->Prop,(∃ m,W 0 m [] σ0 (upd H acc (.lst [])))/\∀ i m ys σ' H',W i m ys σ' H'->H' acc=some (.lst ys) /\
  ((J.stop i H'/\R H')\/(J.go i H'/\∀ x H2,J.J7 i H' x H2->g x σ' H2 λσ2 H3=>tP σ2 H3 λb H4 =>
   if b=true then te σ2 H4 λy H5=>H5 acc=some (.lst ys)/\ys.length<aU/\∃ m',m'<m/\W (i+1) m' (ys++[y]) σ2 (upd H5 acc (.lst (ys++[y]))) else ∃ m',m'<m/\W (i+1) m' ys σ2 H4)):=by
 refine mE (n:=n) (tt:=tP) (λi ys H'=>ys.length=i/\H' acc=some (.lst ys)/\bQ H H'/\∀ j y,ys[j]?=some y->E j y H') S ⟨rfl,aE,bQ.cC ha,λj y e=>by simp at e⟩ s0 ?_ ?_ ?_ ?_
 .rintro i ys H' ⟨_,h,_⟩;exact h
 .rintro ys H' ⟨e,h,S',hE⟩;exact ⟨hstop H' S',fin ys H' e h S' hE⟩
 .rintro i ys H' hi ⟨e,h,S',hE⟩;exact hgo i H' S' hi
 .rintro i ys σ' H' x H2 hi ⟨e,h,S',hE⟩ hσ hyl;obtain ⟨rfl,hX⟩:=hy i H' x H2 S' hi hyl;have z:=turn i x σ' H2 (λy σ2 H5=>H5 acc=some (.lst ys)/\ys.length<aU/\∃ m',m'<n-i/\kI n (i+1) S (λys H'=>ys.length=i+1/\H' acc=some (.lst ys)/\bQ H H'/\∀ j y,ys[j]?=some y->E j y H') m' (ys++[y]) σ2 (upd H5 acc (.lst (ys++[y])))) hi hX S' hσ ?_
  .exact z
  .intro y σ2 H5 h2 S5 hE5;refine ⟨S5 _ _ h,eL (m:=100000) (by lia),kI.mk' hi h2 ⟨by rw [bg,e];rfl,aE,λb o q=>by rw [aG (aQ q ha)];exact S5 _ _ (S' _ _ q),λj v hv=>?_⟩⟩;have hb:bh acc H5 (upd H5 acc (.lst (ys++[y]))):=bh.upd
   by_cases hj:j<ys.length
   .rw [fA hj] at hv;exact st j v _ _ _ (S5 _ _ h) hb (st j v _ _ _ h (bh.same S5) (hE j v hv))
   .rw [dQ (by lia)] at hv
    have ej:j=i:=by
     by_cases z:j-ys.length=0
     .lia
     .rw [dG (by simp;lia)] at hv;cases hv
    subst ej;rw [e,Nat.sub_self] at hv
    have ev:y=v:=by simpa using hv
    subst ev;exact st j y _ _ _ (S5 _ _ h) hb hE5
theorem HZ {lo:Int}(E:Nat->V->Hp->Prop) (S:St->Prop) (ha:H acc=none) (s0:S σ0) (hn:n<=100000)
  (st:∀ i y H1 H2 zs,H1 acc=some (.lst zs)->bh acc H1 H2->E i y H1->E i y H2)
  (turn:∀ (i:Nat) (σ':St) (H':Hp) (G:V->St->Hp->Prop),i<n->bQ H H'->S σ'->(∀ y σ2 H5,S σ2->bQ H' H5->E i y H5->G y σ2 H5)->g (.int (lo+i)) σ' H' λσ2 H3=>te σ2 H3 λy H5=>G y σ2 H5)
  (fin:∀ ys H',ys.length=n->H' acc=some (.lst ys)->bQ H H'->(∀ i y,ys[i]?=some y->E i y H')->R H') :
  ∃ W:Nat->Nat->List V->St->Hp->Prop,(∃ m,W 0 m [] σ0 (upd H acc (.lst [])))/\∀ i m ys σ' H',W i m ys σ' H'->H' acc=some (.lst ys) /\
  (((OL lo n).stop i H'/\R H')\/((OL lo n).go i H'/\∀ x H2,(OL lo n).J7 i H' x H2->g x σ' H2 λσ2 H3=>tP σ2 H3 λb H4 =>
   if b=true then te σ2 H4 λy H5=>H5 acc=some (.lst ys)/\ys.length<aU/\∃ m',m'<m/\W (i+1) m' (ys++[y]) σ2 (upd H5 acc (.lst (ys++[y]))) else ∃ m',m'<m/\W (i+1) m' ys σ2 H4)) :=
 Pj E (λi x=>x=.int (lo+i)) S ha s0 hn (λi H' _ h=>h) (λH' _=>ak n) (λi H' x H2 _ _ h=>h) st (λi x σ' H' G hi hX S' hσ k=>by subst hX;exact turn i σ' H' G hi S' hσ k) fin
end
end L2
namespace Sx
open PySem.W
variable {n:Nat}{k:Nat->Int}
end Sx
namespace L2
open PySem.W
variable {X:Cx}{h:cK}{a:ag}{m:bD->Option aj}{w:ck}{H:Hp}{o:HO}{s:ax}
theorem V0 {m':bD->Option aj}(x:h.Ns a m) (y:h.Ns a m'):m=m':=by
 obtain ⟨o,es,ep,e,d,_,r⟩:=x;obtain ⟨o',es',ep',e',d',_,r'⟩:=y;rw [e] at e';cases e';rw [d] at d';cases d'
 funext n
 rw [← r n,← r' n]
theorem eX.obj {P:bB}(x:eX P w H h a o):∃ ob,h.get? a=some ob:=by
 cases o with
 | lst xs=>obtain ⟨_,_,_,_,e⟩:=x;exact ⟨_,e⟩
 | tup xs=>obtain ⟨_,_,_,ob,e,_⟩:=x;exact ⟨_,e⟩
 | dK kvs=>obtain ⟨_,_,_,_,ob,_,_,e,_⟩:=x;exact ⟨_,e⟩
 | dT kvs=>obtain ⟨_,_,_,_,ob,_,_,e,_⟩:=x;exact ⟨_,e⟩
 | set S n=>obtain ⟨ob,_,_,_,e,_⟩:=x;exact ⟨_,e⟩
 | ins C dx fs=>obtain ⟨_,_,_,e,_⟩:=x;exact ⟨_,e⟩
 | own y=>exact x
 | xd fs=>obtain ⟨_,⟨ob,_,_,e,_⟩,_⟩:=x;exact ⟨_,e⟩
 | rng lo hi=>obtain ⟨_,_,_,e⟩:=x;exact ⟨_,e⟩
 | frz ob u=>exact ⟨_,x.1⟩
 | tbl ps=>exact ⟨_,x⟩
 | met f y=>exact ⟨_,x⟩
 | ext φ=>exact x.2.1
section
variable {pins:List (ag×jk)}{Z:St}
theorem Inv.Rg {h':cK}{t':Nat}{D:ag}{ob:jk}(I:Inv X pins Z H s) (hm:s.heap.Ns X.env.locals m) (F:Fr X.base X.env.locals h' m)
  (N:News X.base X.env.locals h' ((D,ob)::sZ X.base s.heap X.env.locals)) (hD:∀ q∈sZ X.base s.heap X.env.locals,q.1<D) (new:eX X.prog X.w (upd H D o) h' D o):H D=none/\Inv X pins Z (upd H D o) { s with heap:=h',toks:=t' }:=by
 have nd:=N (D,ob) aw
 have gD:s.heap.get? D=none:=by
  cases q:s.heap.get? D with
  | none=>rfl
  | some u=>exact absurd (hD (D,u) (yL nd.2.1 nd.2.2 q)) (fk _)
 have hn:H D=none:=by
  cases q:H D with
  | none=>rfl
  | some u =>
   obtain ⟨w,e⟩:∃ w,s.heap.get? D=some w:=(I.eY D u q).obj;rw [gD] at e;cases e
 have k:∀ b o,b≠X.env.locals->s.heap.get? b=some o->h'.get? b=some o:=λb o h1 e=>by
  cases q:X.base.get? b with
  | some u =>
   have z:=I.bk b u q;rw [e] at z;cases z
   exact F.keep b _ q
  | none=>exact (N (b,o) (ai _ (yL h1 q e))).1
 have nD:∀ b o,s.heap.get? b=some o->b≠D:=λb o e z=>by rw [z,gD] at e;cases e
 have hH:∀ b u,H b=some u->b≠D:=λb u e=>aQ e hn
 refine ⟨hn,I.step (g':=s.gens) (d':=s.drawn) (ch:=[]) (λ_ z=>nomatch z) (λb o h1 _ _ e _=>k b o h1 e) (λb o h1 _ _ e _=>⟨o.slots,k b o h1 e⟩) (λb o _ e n=>by rw [aG (nD b o e)];exact n) (λb o _ e=>?_)
  (λb _ e=>by rw [aG (hH b _ e)];exact e) (λb _ _ e=>by rw [aG (hH b _ e)];exact e) (λb ps e=>⟨#[],by rw [aG (hH b _ e),e];simp⟩) (λm' hm'=>by rw [← V0 hm hm'];exact F.ns) (λb u e=>?_) I.bare⟩
 .by_cases hb:b=X.env.locals
  .subst hb;obtain ⟨o',_,_,e',_⟩:=F.ns;exact ⟨o',e'⟩
  .exact ⟨o,k b o hb e⟩
 .by_cases hb:b=D
  .subst hb;rw [aE] at e;cases e;exact new
  .rw [aG hb] at e
   refine (I.eY b u e).yF (λc v hc q=>k c v ?_ q) (λc q=>by rw [aG (hH c _ q)];exact q) λc _ q=>by rw [aG (hH c _ q)];exact q
   rintro rfl
   rcases hc with hc|hc
   .rw [← hc,I.free] at e;cases e
   .rw [I.free] at hc;cases hc
end
theorem Ia {α:Type} {p q:α->Bool}:∀ {l:List α}{x:α},(∀ y∈l,p y=true->q y=true)->x∈l->p x=false->q x=true->l.countP p<l.countP q
 | y::l,x,h,hx,h1,h2=>by
  have hl:∀ y∈l,p y=true->q y=true:=λy hy=>h y (ai _ hy);have hle:l.countP p<=l.countP q:=N9 hl;rw [U4,U4]
  rcases au.mp hx with e|hx
  .subst e;rw [h1,h2];simp;lia
  .have hlt:=Ia hl hx h1 h2
   by_cases hp:p y=true
   .rw [if_pos hp,if_pos (h y aw hp)];lia
   .rw [if_neg hp];lia
abbrev Zt:=Int×Int×ag
def zP (z:Zt):Int×Int:=(z.1,z.2.1)
def gH (z:Zt):V:=.ref z.2.2
def jH (H:Hp) (z:Zt):Prop:=H z.2.2=some (.tup [.int z.1,.int z.2.1])
section
variable {prog:bB}{A:cM}
end
theorem EI:∀ zs:List Zt,Vals (zs.map gH) (zs.map λz=>aB z.2.2)
 | []=>.nil
 | z::zs=>.cons rfl (EI zs)
end L2
namespace Zl
open PySem.W
variable {T S:ag}{f:Bool}{oT:jk}{n:Nat}{Q:Bool->ax->Prop}{R:N2->ax->Prop}
section
variable {prog:bB}{w:ck}{A:cM}{E:aj->ax->Prop}{s:ax}{z TI TO i1 i2 l1 l2:ag}{xs ys:Array aj}{k:Nat}
abbrev A3 (h:cK) (z TI TO T:ag) (f:Bool):Prop:=h.get? z=some { cls:=.type "zip",dict:=none,data:=.fields #[cz T,.bool f,.bool false,.ref TI,.ref TO],slots:=#[] }
theorem Ib (hz:A3 s.heap z TI TO T f) (hT:s.heap.get? T=some oT)
  (hQ:∀ h',A3 h' z TI TO T true->gQ z s.heap h'->Q false { s with heap:=h' }):aK (aL prog w) A (fN (.ref z)) Q E s:=by
 unfold fN;refine ae (tF hz rfl (x:=cz T) rfl ?_);unfold cz;dsimp only;refine ae (kdx_alive (a:=T) hT ?_);simp only [Ox,bW,if_false];refine ae (tF hz rfl (x:=.bool f) rfl ?_)
 cases f with
 | true =>
  rw [if_neg (by decide)]
  exact ar (hQ s.heap hz ⟨rfl,λb hb=>rfl⟩)
 | false =>
  rw [if_pos (by decide)];exact ae (wpAny_setField_rec hz (by simp) λh' hz' hs'=>ar (hQ h' hz' hs'))
theorem Pk {x y:aj}{Q:aj->ax->Prop}(D:Ag z TI TO i1 i2 l1 l2) (hz:A3 s.heap z TI TO T f) (hT:s.heap.get? T=some oT) (hTI:ue s.heap TI (.ref i1) (.ref i2))
  (h1:s.heap.IsListIter i1 l1 k) (h2:s.heap.IsListIter i2 l2 k) (hl1:s.heap.IsList l1 xs) (hl2:s.heap.IsList l2 ys) (hx:xs[k]?=some x) (hy:ys[k]?=some y)
  (hQ:∀ h',A3 h' z TI TO T true->h'.IsListIter i1 l1 (k+1)->h'.IsListIter i2 l2 (k+1)->ue h' s.heap.objs.size x y ->
   (∀ c o,c≠z->c≠i1->c≠i2->s.heap.get? c=some o->h'.get? c=some o)->Q (.ref s.heap.objs.size) { s with heap:=h' }) :
  aK (aL prog w) A (iB.«zip.__next__» ⟨[.ref z],[]⟩) (λfin s'=>∃ v,fin=.done (.ret v)/\Q v s') E s:=by
 show aK _ _ (field (.ref z) 2 >>= _) _ _ _
 refine ae (tF hz rfl (x:=.bool false) rfl ?_)
 show aK _ _ (field (.ref z) 3 >>= _) _ _ _
 refine ae (tF hz rfl (x:=.ref TI) rfl (ae (wpAny_seqItems hTI rfl ?_)))
 show aK _ _ (fN (.ref z) >>= _) _ _ _
 refine ae (Ib hz hT λh₀ z₀ s₀=>?_);simp only [bW,if_false];refine ae ?_;rw [← Ro];simp only [ud,Hi];refine ae (ae (cI ?_))
 show aK _ _ (i6 (.ref i1) >>= _) _ _ _
 refine ae (xF (s:={ s with heap:=h₀ }) (h1.extBut s₀.extBut D.i1z) (hl1.extBut s₀.extBut D.l1z) hx λh₁ j₁ s₁=>ar (ar ?_));refine ae (ae (cI ?_))
 show aK _ _ (i6 (.ref i2) >>= _) _ _ _
 refine ae (xF (s:={ s with heap:=h₁ }) ((h2.extBut s₀.extBut D.i2z).extBut s₁.extBut D.i12.symm) ((hl2.extBut s₀.extBut D.l2z).extBut s₁.extBut D.l2i1) hy λh₂ j₂ s₂=>ar (ar (ar ?_)))
 have sz:h₂.objs.size=s.heap.objs.size:=by rw [s₂.1,s₁.1,s₀.1]
 have zz:A3 h₂ z TI TO T true:=s₂.extBut _ _ D.i2z.symm (s₁.extBut _ _ D.i1z.symm z₀);have kp:∀ c o,c≠z->c≠i1->c≠i2->s.heap.get? c=some o->h₂.get? c=some o:=λc o c1 c2 c3 e=>s₂.extBut _ _ c3 (s₁.extBut _ _ c2 (s₀.extBut _ _ c1 e));refine ae (Ah ?_ (by show 2<=aU;exact L2.bq (m:=2) (ak 2)));refine ar ⟨_,rfl,?_⟩
 show Q (.ref h₂.objs.size) { s with heap:=h₂.push { cls:=.type "tuple",data:=.seq #[x,y] } }
 rw [sz];refine hQ _ (aq _ zz) ((Heap.IsListIter.extBut j₁ s₂.extBut D.i12).at λo e=>aq _ e) (j₂.at λo e=>aq _ e) (by rw [← sz];exact aJ _ rfl) λc o c1 c2 c3 e=>aq _ (kp c o c1 c2 c3 e)
theorem Sv {Q:Kd->ax->Prop}(hh:A.handled=none) (D:Ag z TI TO i1 i2 l1 l2) (hz:A3 s.heap z TI TO T f) (hT:s.heap.get? T=some oT) (hTI:ue s.heap TI (.ref i1) (.ref i2))
  (h1:s.heap.IsListIter i1 l1 k) (h2:s.heap.IsListIter i2 l2 k) (hl1:s.heap.IsList l1 xs) (hl2:s.heap.IsList l2 ys) (hend:xs[k]?=none\/ys[k]?=none)
  (hE:∀ h' e,(∀ c o,c≠z->c≠i1->c≠i2->s.heap.get? c=some o->h'.get? c=some o)->(∃ o,h'.get? e=some o/\o.cls=.type "StopIteration")->E (.ref e) { s with heap:=h' }) :
  aK (aL prog w) A (iB.«zip.__next__» ⟨[.ref z],[]⟩) Q E s:=by
 show aK _ _ (field (.ref z) 2 >>= _) _ _ _
 refine ae (tF hz rfl (x:=.bool false) rfl ?_)
 show aK _ _ (field (.ref z) 3 >>= _) _ _ _
 refine ae (tF hz rfl (x:=.ref TI) rfl (ae (wpAny_seqItems hTI rfl ?_)))
 show aK _ _ (fN (.ref z) >>= _) _ _ _
 refine ae (Ib hz hT λh₀ z₀ s₀=>?_);simp only [bW,if_false];refine ae ?_;rw [← Ro];simp only [ud,Hi];refine ae (ae (cI ?_))
 show aK _ _ (i6 (.ref i1) >>= _) _ _ _
 cases hx:xs[k]? with
 | none=>exact ae (U5 (s:={ s with heap:=h₀ }) hh (h1.extBut s₀.extBut D.i1z) (hl1.extBut s₀.extBut D.l1z) hx λh₁ e s₁ he=>hE h₁ e (λc o c1 c2 c3 q=>s₁ _ _ c2 (s₀.extBut _ _ c1 q)) he)
 | some x =>
  have hy:ys[k]?=none:=by rcases hend with q|q;rw [hx] at q;cases q;exact q
  refine ae (xF (s:={ s with heap:=h₀ }) (h1.extBut s₀.extBut D.i1z) (hl1.extBut s₀.extBut D.l1z) hx λh₁ j₁ s₁=>ar (ar ?_));refine ae (ae (cI ?_))
  show aK _ _ (i6 (.ref i2) >>= _) _ _ _
  exact ae (U5 (s:={ s with heap:=h₁ }) hh ((h2.extBut s₀.extBut D.i2z).extBut s₁.extBut D.i12.symm) ((hl2.extBut s₀.extBut D.l2z).extBut s₁.extBut D.l2i1) hy λh₂ e s₂ he =>
   hE h₂ e (λc o c1 c2 c3 q=>s₂ _ _ c3 (s₁.extBut _ _ c2 (s₀.extBut _ _ c1 q))) he)
structure ZS (h:cK) (z TI TO i1 i2 l1 l2 S:ag) (xs ys:Array aj) (k:Nat):Prop where
 zz:(k=0/\IsZip h z TI TO .none/\∃ a b,ue h TO a b)\/∃ T f oT,A3 h z TI TO T f/\h.get? T=some oT/\T≠z/\T≠i1/\T≠i2/\T≠S
 ti:ue h TI (.ref i1) (.ref i2)
 a1:h.IsListIter i1 l1 k
 a2:h.IsListIter i2 l2 k
 b1:h.IsList l1 xs
 b2:h.IsList l2 ys
structure Off (z TI TO i1 i2 l1 l2 S:ag):Prop where
 z:z≠S
 ti:TI≠S
 to:TO≠S
 i1:i1≠S
 i2:i2≠S
 l1:l1≠S
 l2:l2≠S
theorem ZS.keep {h h':cK}(x:ZS h z TI TO i1 i2 l1 l2 S xs ys k) (O:Off z TI TO i1 i2 l1 l2 S) (hk:∀ b o,b≠S->h.get? b=some o->h'.get? b=some o):ZS h' z TI TO i1 i2 l1 l2 S xs ys k where
 zz:=by
  rcases x.zz with ⟨e,hz,a,b,hp⟩|⟨T,f,oT,hz,hT,n1,n2,n3,n4⟩
  .exact .inl ⟨e,hk _ _ O.z hz,a,b,hk _ _ O.to hp⟩
  .exact .inr ⟨T,f,oT,hk _ _ O.z hz,hk _ _ n4 hT,n1,n2,n3,n4⟩
 ti:=hk _ _ O.ti x.ti
 a1:=x.a1.at λo e=>hk _ o O.i1 e
 a2:=x.a2.at λo e=>hk _ o O.i2 e
 b1:=x.b1.at λo e=>hk _ o O.l1 e
 b2:=x.b2.at λo e=>hk _ o O.l2 e
theorem ZS.item {x y:aj}{Q:Option aj->ax->Prop}(D:Ag z TI TO i1 i2 l1 l2) (st:ZS s.heap z TI TO i1 i2 l1 l2 S xs ys k) (hS:S<s.heap.objs.size) (hx:xs[k]?=some x) (hy:ys[k]?=some y)
  (hQ:∀ h',ZS h' z TI TO i1 i2 l1 l2 S xs ys (k+1)->ue h' s.heap.objs.size x y->(∀ c o,c≠z->c≠TO->c≠i1->c≠i2->s.heap.get? c=some o->h'.get? c=some o)->Q (some (.ref s.heap.objs.size)) { s with heap:=h' }) :
  aK (aL prog w) A (iZ (.ref z)) Q E s:=by
 have YV:i1<s.heap.objs.size:=by obtain ⟨_,e,_⟩:=st.a1;exact aH e
 have lt2:i2<s.heap.objs.size:=by obtain ⟨_,e,_⟩:=st.a2;exact aH e
 rcases st.zz with ⟨e,hz,a,b,hp⟩|⟨T,f,oT,hz,hT,n1,n2,n3,n4⟩
 .refine wpAny_pyNext_zip_item D hz st.ti hp st.a1 st.a2 st.b1 st.b2 hx hy λh' q1 q2 q3 q4 q5 q6 q7=>?_;refine hQ h' ⟨.inr ⟨_,false,_,q1,q5,dt (aH hz),dt YV,dt lt2,dt hS⟩,q7 _ _ D.TIz D.TITO D.TIi1 D.TIi2 st.ti,q3,q4,st.b1.at λo e=>q7 _ o D.l1z D.l1TO D.l1i1 D.l1i2 e,st.b2.at λo e=>q7 _ o D.l2z D.l2TO D.l2i1 D.l2i2 e⟩ q5 q7
 .have ty:s.TypeIs (.ref z) "zip":=⟨_,hz,rfl⟩
  unfold iZ
  refine ae (ij (dS (name:=iH "__next__") ty F.slot_zip_next (c9 F.slot_zip_next ty F.entry_zip_next
   (Pk D hz hT st.ti st.a1 st.a2 st.b1 st.b2 hx hy λh' q1 q3 q4 q5 q7=>ar ?_) (F.args_zip_next_1 _))))
  refine hQ h' ⟨.inr ⟨T,true,oT,q1,q7 _ _ n1 n2 n3 hT,n1,n2,n3,n4⟩,q7 _ _ D.TIz D.TIi1 D.TIi2 st.ti,q3,q4,st.b1.at λo e=>q7 _ o D.l1z D.l1i1 D.l1i2 e,st.b2.at λo e=>q7 _ o D.l2z D.l2i1 D.l2i2 e⟩ q5 λc o c1 _ c3 c4 e=>q7 c o c1 c3 c4 e
theorem ZS.done {Q:Option aj->ax->Prop}(hh:A.handled=none) (D:Ag z TI TO i1 i2 l1 l2) (st:ZS s.heap z TI TO i1 i2 l1 l2 S xs ys k) (hend:xs[k]?=none\/ys[k]?=none)
  (hQ:∀ h',(∀ c o,c≠z->c≠TO->c≠i1->c≠i2->s.heap.get? c=some o->h'.get? c=some o)->Q none { s with heap:=h' }):aK (aL prog w) A (iZ (.ref z)) Q E s:=by
 rcases st.zz with ⟨e,hz,a,b,hp⟩|⟨T,f,oT,hz,hT,n1,n2,n3,n4⟩
 .exact wpAny_pyNext_zip_end hh D hz st.ti hp st.a1 st.a2 st.b1 st.b2 hend hQ
 .have ty:s.TypeIs (.ref z) "zip":=⟨_,hz,rfl⟩
  unfold iZ
  refine ae (ij (dS (name:=iH "__next__") ty F.slot_zip_next (c9 F.slot_zip_next ty F.entry_zip_next
   (Sv hh D hz hT st.ti st.a1 st.a2 st.b1 st.b2 hend λh' e hk he=>?_) (F.args_zip_next_1 _))))
  obtain ⟨o,ho,hc⟩:=he;exact ae (nN (T:="StopIteration") (b:=true) ⟨o,ho,hc⟩ Ai (ar (hQ _ λc o c1 _ c3 c4 q=>hk c o c1 c3 c4 q)))
structure Made (h:cK) (lo:ag) (xs ys:Array aj) (as:List ag):Prop where
 up:as.Pairwise (· < ·)
 lo:∀ a∈as,lo<a
 pr:∀ (j:Nat) (a:ag),as[j]?=some a->∃ x y,xs[j]?=some x/\ys[j]?=some y/\ue h a x y
theorem Kn {S:Nat}(hh:A.handled=none) (D:Ag z TI TO i1 i2 l1 l2) (O:Off z TI TO i1 i2 l1 l2 S) (hn:min xs.size ys.size=n) (hn2:n<=100000) (res:aj) (lo:ag) (hlo:z<=lo/\TO<=lo/\i1<=lo/\i2<=lo/\S<=lo) {h₀:cK}
  (hR:∀ h' tk acc c as,(∀ b o,b≠S->b≠z->b≠TO->b≠i1->b≠i2->h₀.get? b=some o->h'.get? b=some o)->h'.get? S=some { cls:=.type "list",dict:=none,data:=.seq acc c,slots:=#[] }->acc.toList=as.map aB->as.length=n->Made h' lo xs ys as->R (.ok (.ret res)) { s with heap:=h',toks:=tk }) :
  ∀ (m i:Nat) (h:cK) (tk c:Nat) (acc:Array aj) (as:List ag),n-i=m->i<=n->ZS h z TI TO i1 i2 l1 l2 S xs ys i->(∀ b o,b≠S->b≠z->b≠TO->b≠i1->b≠i2->h₀.get? b=some o->h.get? b=some o) ->
   h.get? S=some { cls:=.type "list",dict:=none,data:=.seq acc c,slots:=#[] }->acc.toList=as.map aB->as.length=i->Made h lo xs ys as->lo<h.objs.size ->
   jS (aL prog w) A (.builtin "list.extend.loop" ⟨[.ref S,.ref z,res],[]⟩) R { s with heap:=h,toks:=tk }:=by
 intro m
 induction m with
 | zero =>
  intro i h tk c acc as hm hi st kp hS hacc hal hM hlh
  have ei:i=n:=by lia
  subst ei;refine fR Fl ?_;rw [dO dU _]
  show aK _ A.in1 (iZ (.ref z) >>= _) _ _ _
  have hend:xs[i]?=none\/ys[i]?=none:=by
   by_cases q:xs.size<=i
   .exact .inl (gO q)
   .exact .inr (gO (by lia))
  refine ae (ZS.done (s:={ s with heap:=h,toks:=tk }) (A:=A.in1) hh D st hend λh' he=>?_);refine ar (hR h' tk acc c as (λb o b1 b2 b3 b4 b5 e=>he b o b2 b3 b4 b5 (kp b o b1 b2 b3 b4 b5 e)) (he S _ (Ne.symm O.z) (Ne.symm O.to) (Ne.symm O.i1) (Ne.symm O.i2) hS) hacc hal ⟨hM.up,hM.lo,λj a hj=>?_⟩);obtain ⟨x,y,q1,q2,q3⟩:=hM.pr j a hj;have far:∀ {b:ag},b<=lo->a≠b:=λhb=>dt (bz hb (hM.lo a (aN hj)))
  exact ⟨x,y,q1,q2,he a _ (far hlo.1) (far hlo.2.1) (far hlo.2.2.1) (far hlo.2.2.2.1) q3⟩
 | succ m ih =>
  intro i h tk c acc as hm hi st kp hS hacc hal hM hlh
  have hlt:i<n:=by lia
  obtain ⟨x,hx⟩:∃ x,xs[i]?=some x:=⟨_,cb (by lia)⟩
  obtain ⟨y,hy⟩:∃ y,ys[i]?=some y:=⟨_,cb (by lia)⟩
  refine fR Fl ?_;rw [dO dU _]
  show aK _ A.in1 (iZ (.ref z) >>= _) _ _ _
  refine ae (ZS.item (s:={ s with heap:=h,toks:=tk }) (A:=A.in1) D st (aH hS) hx hy λh' st' hp kk=>?_);have hS':=kk S _ (Ne.symm O.z) (Ne.symm O.to) (Ne.symm O.i1) (Ne.symm O.i2) hS
  have hsz:acc.size=i:=by rw [← aP,hacc,af,hal]
  show aK _ A.in1 (JZ S (·.push (aB h.objs.size)) >>= _) _ _ _
  refine ae (pE hS' rfl (ar ⟨i7 dU _,?_⟩) (by rw [hsz];exact L2.bq (m:=100000) (by lia)) (by rw [ir,hsz];exact U6 (L2.bq (m:=100000) (by lia))));have oth:∀ b o,b≠S->h'.get? b=some o->(h'.update S (bO (·.push (aB h.objs.size)))).get? b=some o:=λb o hb e=>(bE _ _ (Ne.symm hb)).trans e;have hnS:h.objs.size≠S:=dt (aH hS);refine ih (i+1) _ tk _ (acc.push (aB h.objs.size)) (as++[h.objs.size]) (by lia) hlt (st'.keep O oth) (λb o b1 b2 b3 b4 b5 e=>oth b o b1 (kk b o b2 b3 b4 b5 (kp b o b1 b2 b3 b4 b5 e))) (bR _ hS' rfl) (by rw [Aj,hacc,aZ];rfl) (by rw [bg,hal];rfl) ⟨?_,λa ha=>?_,λj a hj=>?_⟩ ?_
  .refine gb.mpr ⟨hM.up,qF _ _,λa ha b hb=>?_⟩;rw [aC.mp hb];obtain ⟨j,hj⟩:=bC.mp ha;obtain ⟨_,_,_,_,q⟩:=hM.pr j a hj;exact aH q
  .rcases aS.mp ha with q|q
   .exact hM.lo a q
   .rw [aC.mp q];exact hlh
  .by_cases q:j<as.length
   .rw [fA q] at hj;obtain ⟨x',y',q1,q2,q3⟩:=hM.pr j a hj;have far:∀ {b:ag},b<=lo->a≠b:=λhb=>dt (bz hb (hM.lo a (aN hj)));exact ⟨x',y',q1,q2,oth a _ (far hlo.2.2.2.2) (kk a _ (far hlo.1) (far hlo.2.1) (far hlo.2.2.1) (far hlo.2.2.2.1) q3)⟩
   .rw [dQ (by lia)] at hj
    have ej:j-as.length=0:=by
     by_cases w:j-as.length=0
     .exact w
     .rw [dG (by simp;lia)] at hj;cases hj
    rw [ej] at hj
    have ea:h.objs.size=a:=by simpa using hj
    have ej':j=i:=by lia
    subst ea ej';exact ⟨x,y,hx,hy,oth _ _ hnS hp⟩
  .rw [qG];exact bp hlh (lZ (aH hp))
theorem V1:typeLookup (.type "zip") "__len__"=pure none:=by rw [xO,nF];kernel_rfl
theorem Sx:typeLookup (.type "zip") "__length_hint__"=pure none:=by rw [xO,nF];kernel_rfl
theorem V2 (ty:s.TypeIs (.ref z) "zip") (h:Q true s):aK (aL prog w) A (i8 (.ref z)) Q E s:=by
 unfold i8;refine ae (LI ty V1 ?_);refine ae (LI ty Sx ?_);exact ar h
theorem V3 {S c₀:Nat} {va vb:aj}(hh:A.handled=none) (D:Ag z TI TO i1 i2 l1 l2) (O:Off z TI TO i1 i2 l1 l2 S) (hn:min xs.size ys.size=n) (hn2:n<=100000) (res:aj) (hz:IsZip s.heap z TI TO .none) (hTO:ue s.heap TO va vb)
  (st:ZS s.heap z TI TO i1 i2 l1 l2 S xs ys 0) (hS:s.heap.get? S=some { cls:=.type "list",data:=.seq #[] c₀ })
  (hR:∀ h' tk acc c as,(∀ b o,b≠S->b≠z->b≠TO->b≠i1->b≠i2->s.heap.get? b=some o->h'.get? b=some o)->h'.get? S=some { cls:=.type "list",dict:=none,data:=.seq acc c,slots:=#[] }->acc.toList=as.map aB->as.length=n->Made h' (s.heap.objs.size-1) xs ys as->R (.ok (.ret res)) { s with heap:=h',toks:=tk }) :
  aK (aL prog w) A.in1 (gf (.ref S) (.ref z) res) (λfin s'=>match fin with | .done f=>R (.ok f) s' | .again c'=>c'.quiet=true/\jS (aL prog w) A c' R s') (λe s'=>R (.error e) s') s:=by
 have ty:s.TypeIs (.ref z) "zip":=⟨_,hz,rfl⟩
 have lts:∀ {b:ag}{o:jk},s.heap.get? b=some o->b<=s.heap.objs.size-1:=λe=>Nat.le_sub_one_of_lt (aH e)
 have YV:i1<=s.heap.objs.size-1:=by obtain ⟨_,e,_⟩:=st.a1;exact lts e
 have lt2:i2<=s.heap.objs.size-1:=by obtain ⟨_,e,_⟩:=st.a2;exact lts e
 have pos:0<s.heap.objs.size:=bz (aM _) (aH hz)
 have key:∀ (h:cK) (c₁ tk:Nat),h.objs.size=s.heap.objs.size->(∀ b o,b≠S->s.heap.get? b=some o->h.get? b=some o)->h.get? S=some { cls:=.type "list",data:=.seq #[] c₁ } ->
   jS (aL prog w) A (.builtin "list.extend.loop" ⟨[.ref S,.ref z,res],[]⟩) R { s with heap:=h,toks:=tk }:=λh c₁ tk hsz kp hS₁ =>
  Kn (h₀:=s.heap) hh D O hn hn2 res (s.heap.objs.size-1) ⟨lts hz,lts hTO,YV,lt2,lts hS⟩ hR n 0 h tk c₁ #[] [] rfl (aM _) (st.keep O kp) (λb o b1 _ _ _ _ e=>kp b o b1 e) hS₁ rfl rfl ⟨mT,(λa ha=>nomatch ha),λj a hj=>by simp at hj⟩ (by rw [hsz];exact Nat.sub_lt pos (by decide))
 unfold gf;refine ae (TJ (T:="zip") ty ?_)
 have e1:jF (.ref S) (.ref z)=false:=by simp [jF,Ne.symm O.z]
 have e2:(eQ "zip" == eQ "list")=false:=by decide
 have e3:(eQ "zip" == eQ "tuple")=false:=by decide
 simp only [e1,e2,e3,Bool.or_false,bW,if_false];refine ae (wpAny_pyIter_zip hz (ae (cI (V2 ty ?_))));refine jK (λ_=>ae (i9 (ae ?_))) (λ_=>ar ⟨i7 dU _,key _ c₀ _ rfl (λb o _ e=>e) hS⟩)
 show aK _ _ (JZ S (·.push .none) >>= λ_=>JZ S (·.pop)) _ _ _
 have g₂:=bR (bO (·.push eP)) hS rfl;have g₃:=bR (bO (·.pop)) g₂ rfl;refine ae (pE hS rfl (pE (hz:=by seq_fits) g₂ rfl (ar ⟨i7 dU _,key _ _ _ ?_ (λb o hb e=>?_) g₃⟩)))
 .rw [qG,qG]
 .exact (bE _ _ (Ne.symm hb)).trans ((bE _ _ (Ne.symm hb)).trans e)
theorem Nu {Q:aj->ax->Prop}{va vb:aj}(hh:A.handled=none) (D:Ag z TI TO i1 i2 l1 l2) (hn:min xs.size ys.size=n) (hn2:n<=100000) (hz:IsZip s.heap z TI TO .none) (hTO:ue s.heap TO va vb) (hTI:ue s.heap TI (.ref i1) (.ref i2))
  (a1:s.heap.IsListIter i1 l1 0) (a2:s.heap.IsListIter i2 l2 0) (b1:s.heap.IsList l1 xs) (b2:s.heap.IsList l2 ys)
  (hQ:∀ h' tk acc c as,(∀ b o,b≠z->b≠TO->b≠i1->b≠i2->s.heap.get? b=some o->h'.get? b=some o)->h'.get? s.heap.objs.size=some { cls:=.type "list",dict:=none,data:=.seq acc c,slots:=#[] }->acc.toList=as.map aB->as.length=n->Made h' s.heap.objs.size xs ys as->Q (.ref s.heap.objs.size) { s with heap:=h',toks:=tk }) :
  aK (aL prog w) A (call (.type "list") [.ref z]) Q E s:=by
 refine callType_codes (Q₁:=λobj s₁=>obj=.ref s.heap.objs.size/\s₁={ s with heap:=s.heap.push { cls:=.type "list",data:=.seq #[] } }) PySem.F.called_list (PySem.F.typeCall_list_1 _) PySem.F.entry_list_init (code_list_new _ ⟨rfl,rfl⟩) ?_;rintro obj s₁ ⟨rfl,rfl⟩;have hS:(s.heap.push { cls:=.type "list",data:=.seq #[] }).get? s.heap.objs.size=some { cls:=.type "list",data:=.seq #[] }:=aJ _ rfl;refine ⟨⟨_,hS,rfl⟩,PySem.F.args_list_init_2 _ _,?_⟩;have ne:∀ {b:ag}{o:jk},s.heap.get? b=some o->b≠s.heap.objs.size:=λe=>a6 (aH e)
 have O:Off z TI TO i1 i2 l1 l2 s.heap.objs.size:=⟨ne hz,ne hTI,ne hTO,by obtain ⟨_,e,_⟩:=a1;exact ne e,by obtain ⟨_,e,_⟩:=a2;exact ne e,by obtain ⟨_,e,_⟩:=b1;exact ne e,by obtain ⟨_,e,_⟩:=b2;exact ne e⟩
 show aK _ _ (do let old ← CW (.ref s.heap.objs.size);iu (.ref s.heap.objs.size) (λ_=>#[]);letGo old.toList.reverse;gf (.ref s.heap.objs.size) (.ref z) .none) _ _ _
 refine ae (G0 hS rfl (ae (lD hS rfl (ae (WK ?_)) (aM _) (aM _))));have g₂:=bR (bO (λ_=>(#[]:Array aj))) hS rfl;have kp:∀ b o,s.heap.get? b=some o->((s.heap.push { cls:=.type "list",data:=.seq #[] }).update s.heap.objs.size (bO (λ_=>(#[]:Array aj)))).get? b=some o:=λb o e=>(bE _ _ (Ne.symm (ne e))).trans (aq _ e)
 have sz:((s.heap.push { cls:=.type "list",data:=.seq #[] }).update s.heap.objs.size (bO (λ_=>(#[]:Array aj)))).objs.size-1=s.heap.objs.size:=by rw [qG,iR];rfl
 refine V3 (s:={ s with heap:=(s.heap.push { cls:=.type "list",data:=.seq #[] }).update s.heap.objs.size (bO (λ_=>(#[]:Array aj))) }) (A:=A.in1) hh D O hn hn2 .none (kp _ _ hz) (kp _ _ hTO) ⟨.inl ⟨rfl,kp _ _ hz,_,_,kp _ _ hTO⟩,kp _ _ hTI,a1.at λo e=>kp _ o e,a2.at λo e=>kp _ o e,b1.at λo e=>kp _ o e,b2.at λo e=>kp _ o e⟩ g₂ λh' tk acc c as k1 k2 k3 k4 k5=>?_;have k5':Made h' s.heap.objs.size xs ys as:=sz▸k5;exact ⟨rfl,hQ h' tk acc c as (λb o c1 c2 c3 c4 e=>k1 b o (ne e) c1 c2 c3 c4 (kp b o e)) k2 k3 k4 k5'⟩
end
end Zl
namespace L2
open PySem.W
variable {H H':Hp}{h h':cK}{X:Cx}{Z:St}{d r a:ag}{ks:List aj}{ep n:Nat}{w:ck}{K:aa}{t:TA}{Q:Option aj->ax->Prop}{T:String}{P:Nat->aj->Prop}{OK:cK->Prop}{tg:Expr}{tl:TE}{o:jk}{s:ax}
section
variable {pins:List (ag×jk)}
theorem Inv.grow {t':Nat}(I:Inv X pins Z H s) (k:∀ b u,s.heap.get? b=some u->h'.get? b=some u) (sub:bQ H H') (new:∀ b,b<s.heap.objs.size->H b=none->H' b=none) (ok:qx X.prog X.w H' h'):Inv X pins Z H' { s with heap:=h',toks:=t' } :=
 I.un ⟨λb o e _ _ _=>k b o e,λb o e _ _ _=>⟨o.slots,k b o e⟩,λb o e n _=>new b (aH e) n,λb o e _=>⟨o,k b o e⟩,λb _ e=>sub _ _ e,λb _ _ e=>sub _ _ e,λb ps e=>⟨#[],by rw [sub _ _ e];simp⟩⟩ ok
end
def C5 (H:Hp) (zs:List Zt):Hp:=λb=>match zs.find? (λz=>z.2.2 == b) with|some z=>some (.tup [.int z.1,.int z.2.1])|none=>H b
theorem Pl {zs:List Zt}{b:ag}(h:∀ z∈zs,z.2.2≠b):C5 H zs b=H b:=by
 unfold C5;rw [RF.mpr λz hz=>by simpa using h z hz]
theorem Ic:∀ {zs:List Zt}{z:Zt},(zs.map λz=>z.2.2).Nodup->z∈zs->C5 H zs z.2.2=some (.tup [.int z.1,.int z.2.1])
 | y::zs,z,hn,hz=>by
  unfold C5;rw [aW,bb] at hn
  rcases au.mp hz with e|hz
  .subst e;rw [List.find?_cons_of_pos (by simp)]
  .have hne:¬ (y.2.2 == z.2.2)=true:=λq=>hn.1 (by
    have e:y.2.2=z.2.2:=by simpa using q
    rw [e];exact aX hz)
   rw [List.find?_cons_of_neg (p:=λw:Zt=>w.2.2 == z.2.2) hne];exact Ic hn.2 hz
def Pm (K:aa) (t:TA):TE:=λZ H Q=>t Z H λvs H1=>∃ (a b:ag) (ns ms:List Int),vs=[.ref a,.ref b]/\cL K H1 a (ns.map V.int)/\cL K H1 b (ms.map V.int)/\ns.length<=100000 /\
 ∀ (l:ag) (zs:List Zt) (H2:Hp),bQ H1 H2->H1 l=none->H2 l=some (.lst (zs.map gH))->(∀ z∈zs,jH H2 z)->zs.map zP=ns.zip ms->Q (.ref l) H2
theorem FQ:∀ {vs:List aj}{ns:List Int}{j:Nat}{v:aj},eN vs ns->vs[j]?=some v->∃ i t,ns[j]?=some i/\v=.int i t
 | _,_,0,v,.cons n t r,e=>by simp at e;exact ⟨n,t,rfl,e.symm⟩
 | _,_,j+1,v,.cons n t r,e=>FQ (j:=j) r (by simpa using e)
 | _,_,j,v,.nil,e=>by simp at e
theorem Pn {lo:ag}{xs ys:List aj}{ns ms:List Int}(hx:eN xs ns) (hy:eN ys ms):∀ {as:List ag},(∀ (j:Nat) (a:ag),as[j]?=some a->∃ x y,xs.toArray[j]?=some x/\ys.toArray[j]?=some y/\ue h a x y)->as.length=min ns.length ms.length ->
  ∃ zs:List Zt,zs.map (λz=>z.2.2)=as/\zs.map zP=ns.zip ms/\∀ z∈zs,∃ t u,ue h z.2.2 (.int z.1 t) (.int z.2.1 u):=by
 intro as hp hl;have hlx:=hx.length;have hly:=hy.length;refine ⟨(ns.zip ms).zipWith (λt a=>(t.1,t.2,a)) as,?_,?_,λz hz=>?_⟩
 .apply qd
  intro j;rw [aA,uY]
  by_cases hj:j<as.length
  .rw [ay hj,ay (by rw [uf];lia)];rfl
  .rw [dG (mK hj)];cases (ns.zip ms)[j]?<;>rfl
 .apply qd
  intro j;rw [aA,uY]
  by_cases hj:j<as.length
  .rw [ay hj,ay (by rw [uf];lia)];rfl
  .rw [dG (mK hj),dG (by rw [uf];lia)];rfl
 .obtain ⟨j,hj⟩:=bC.mp hz;rw [uY] at hj
  cases ea:as[j]? with
  | none =>
   rw [ea] at hj
   cases ew:(ns.zip ms)[j]? with
   | none=>rw [ew] at hj;cases hj
   | some w=>rw [ew] at hj;cases hj
  | some a =>
   obtain ⟨x,y,q1,q2,q3⟩:=hp j a ea;obtain ⟨i,t,e1,rfl⟩:=FQ (j:=j) hx (by simpa using q1);obtain ⟨i',u,e2,rfl⟩:=FQ (j:=j) hy (by simpa using q2)
   have ez:(ns.zip ms)[j]?=some (i,i'):=by rw [pI];exact ⟨e1,e2⟩
   rw [ea,ez] at hj;have:z=(i,i',a):=(a7 hj).symm;subst this;exact ⟨t,u,q3⟩
section
variable {x y:Expr}{p1 p2 q1 q2:sT}
theorem Sz (hc:X.calm=true) (hgl:Gl X "list") (hml:X.mg "list"=none) (hgz:Gl X "zip") (hmz:X.mg "zip"=none) (ha:PA X [x,y] t)
  (he:bu [.Call (.Name "zip" p1) [x,y] [] p2] X.env=[(false,eJ (.Call (.Name "zip" p1) [x,y] [] p2) X.env)]:=by rfl) (he2:bu [x,y] X.env=(false,eJ x X.env)::bu [y] X.env:=by rfl) (hpl:(fS p2 (bu [y] X.env)).any (·.1)=false:=by rfl) :
  PE X (.Call (.Name "list" q1) [.Call (.Name "zip" p1) [x,y] [] p2] [] q2) (Pm X.K t):=by
 intro pins s Z H Q I h;refine dZ (l9 I hgl hml BootT.list (dw ?_ he rfl));rw [he]
 show aK _ _ (spliced ((false,eJ (.Call (.Name "zip" p1) [x,y] [] p2) X.env)::fS q2 (bu [] X.env))) _ _ s
 refine gZ (dZ (l9 I hgz hmz BootT.zip (dw (gR (ha p2 pins s Z H _ I h) λus s1 ⟨vs,H1,I1,r1,q⟩=>?_) he2 hpl)));obtain ⟨a,b,ns,ms,rfl,hA,hB,hle,k⟩:=q;obtain ⟨u,v,rfl,ru,rv⟩:=vals2 r1;cases ru;cases rv;obtain ⟨xs,vx,px,_⟩:=I1.list hA;obtain ⟨ys,vy,py,_⟩:=I1.list hB;have ix:=intsAre_of vx;have iy:=intsAre_of vy;have lx:=ix.length;have ly:=iy.length
 have al:a<s1.heap.objs.size:=by obtain ⟨_,e,_⟩:=px.isList;exact aH e
 have bl:b<s1.heap.objs.size:=by obtain ⟨_,e,_⟩:=py.isList;exact aH e
 refine call_zip_2 px.isList py.isList λh' hz hTI hTO j1 j2 hsz hk=>lC ?_;refine Zl.Nu (s:={ s1 with heap:=h' }) (n:=min ns.length ms.length) (I1.ok.hd hc) (zipApart_new al bl) (by rw [aI,aI,lx,ly]) (by lia) hz hTO hTI j1 j2 (px.isList.at λo e=>hk _ o e) (py.isList.at λo e=>hk _ o e) λh2 tk acc c as k1 k2 k3 k4 k5=>?_;obtain ⟨zs,e1,e2,e3⟩:=Pn (lo:=0) ix iy k5.pr k4
 have old:∀ b o,s1.heap.get? b=some o->h2.get? b=some o:=λb o e=>by
  have hb:=aH e;refine k1 b o (a6 (bp hb (g9 _ _))) (a6 (bp hb (g9 _ _))) (a6 hb) (a6 (bp hb (g9 _ _))) (hk b o e)
 have up:∀ z∈zs,h'.objs.size<z.2.2:=λz hz=>k5.lo _ (by rw [← e1];exact aX hz);have hs5:h'.objs.size=s1.heap.objs.size+5:=hsz
 have nd:(zs.map λz=>z.2.2).Nodup:=by rw [e1];exact k5.up.imp λq=>a6 q
 have far:∀ z∈zs,∀ b:ag,b<s1.heap.objs.size->z.2.2≠b:=λz hz b hb=>dt (N8 (bp hb (by rw [hs5];exact g9 _ _)) (up z hz));have lf:∀ b:ag,b<s1.heap.objs.size->b≠h'.objs.size:=λb hb=>a6 (bp hb (by rw [hs5];exact g9 _ _))
 have hold:∀ b:ag,b<s1.heap.objs.size->upd (C5 H1 zs) h'.objs.size (.lst (zs.map gH)) b=H1 b:=λb hb=>by rw [aG (lf b hb),Pl λz hz=>far z hz b hb]
 have S:bQ H1 (upd (C5 H1 zs) h'.objs.size (.lst (zs.map gH))):=λb o e=>by rw [hold b (I1.eY.lt e)];exact e
 have hpair:∀ z∈zs,jH (upd (C5 H1 zs) h'.objs.size (.lst (zs.map gH))) z:=λz hz=>by
  show upd (C5 H1 zs) h'.objs.size (.lst (zs.map gH)) z.2.2=_
  rw [aG (dt (up z hz))];exact Ic nd hz
 have hlz:zs.length<=100000:=by
  have:=congrArg eD e2;rw [af,uf] at this;lia
 have I2:Inv X pins Z (upd (C5 H1 zs) h'.objs.size (.lst (zs.map gH))) { s1 with heap:=h2,toks:=tk }:=I1.grow old S (λb hb n=>by rw [hold b hb];exact n) λb o e=>by
  by_cases hb:b<s1.heap.objs.size
  .rw [hold b hb] at e;exact (I1.eY b o e).yF (λc v _ q=>old c v q) (λc q=>S _ _ q) λc _ q=>S _ _ q
  .by_cases hl:b=h'.objs.size
   .subst hl;rw [aE] at e;cases e;refine ⟨by rw [af];exact bq hlz,acc.toList,c,?_,by rw [Array.toArray_toList];exact k2⟩;rw [k3,← e1,cf];exact EI zs
   .rw [aG hl] at e;unfold C5 at e
    cases w:zs.find? (λz=>z.2.2 == b) with
    | none =>
     rw [w] at e;have e:H1 b=some o:=e;rw [I1.eY.fresh (mK hb)] at e
     cases e
    | some z =>
     rw [w] at e;cases e;have hz':=J0 w
     have eb:z.2.2=b:=by simpa using WL w
     subst eb;obtain ⟨t,u,hp⟩:=e3 z hz';exact ⟨bq (m:=2) (ak 2),[.int z.1 t,.int z.2.1 u],.cons ⟨t,rfl⟩ (.cons ⟨u,rfl⟩ .nil),⟨_,hp,rfl,_,rfl⟩⟩
 exact ⟨.ref h'.objs.size,_,I2,rfl,k _ zs _ S (I1.eY.fresh (by rw [hs5];exact g9 _ _)) aE hpair e2⟩
theorem V4 {Q:VK}(h:t Z H λvs H1=>∃ (a b:ag) (ns ms:List Int),vs=[.ref a,.ref b]/\cL K H1 a (ns.map V.int)/\cL K H1 b (ms.map V.int)/\ns.length<=100000 /\
 ∀ (l:ag) (zs:List Zt) (H2:Hp),bQ H1 H2->H1 l=none->H2 l=some (.lst (zs.map gH))->(∀ z∈zs,jH H2 z)->zs.map zP=ns.zip ms->Q (.ref l) H2):Pm K t Z H Q:=h
end
def yD (h:cK) (d:ag) (ks:List aj) (ep:Nat):Prop:=∃ o es,h.get? d=some o/\o.ExactDict/\o.data=.dict es ep/\es.toList.map (·.key)=ks
theorem yD.at (x:yD h d ks ep) (k:∀ o,h.get? d=some o->h'.get? d=some o):yD h' d ks ep :=
 let ⟨o,es,e,r⟩:=x;⟨o,es,k o e,r⟩
theorem yD.lt (x:yD h d ks ep):d<h.objs.size:=let ⟨_,_,e,_⟩:=x;aH e
section
variable {prog:bB}{A:cM}{E:aj->ax->Prop}{it:ag}{i:Nat}
theorem yD.typeIs (x:yD s.heap d ks ep):s.TypeIs (.ref d) "dict":=let ⟨o,_,e,c,_⟩:=x;⟨o,e,c.1⟩
theorem A4 {Q:aj->ax->Prop}(hd:(d == iY)=false) (x:yD s.heap d ks ep)
  (q:Q (.ref s.heap.objs.size) { s with heap:=s.heap.push { cls:=.type "dict_keyiterator",data:=.fields #[.ref d,.int 0 0,.int ks.length 0,.int ep 0] } }):aK (aL prog w) A (N0 (.ref d)) Q E s:=by
 have hT:=x.typeIs;obtain ⟨o,es,e,c,da,hk⟩:=x
 have hs:es.size=ks.length:=by rw [← hk,af,aP]
 refine G1 hT F.slot_dict_iter (c9 F.slot_dict_iter hT F.entry_dict_iter ?_ (F.args_dict_iter_1 _));unfold iB.«dict.__iter__» Builtin.Dict.dictSlotNone;refine ae (ae (U7 hT ?_))
 show aK _ _ (pure (aB d)) _ _ s
 refine ar ?_
 show aK _ _ (Eo d >>= _) _ _ s
 unfold Eo;rw [if_neg (by rw [hd];exact bx)];refine ae (ar (ae (mM e da (ae (LJ e da ?_)))));refine ae (dk (ar ⟨_,rfl,"dict_keyiterator",_,⟨_,aJ _ rfl,rfl⟩,F.slot_dict_keyiterator_next.lookup,?_⟩))
 simpa [cz,hs] using q
theorem Ie {v:aj}(t:s.heap.IsKeyIter it d i ks.length ep) (x:yD s.heap d ks ep) (hv:ks[i]?=some v)
  (q:∀ h',h'.IsKeyIter it d (i+1) ks.length ep->gQ it s.heap h'->Q (some v) { s with heap:=h' }):aK (aL prog w) A (iZ (.ref it)) Q E s:=by
 have tt:=t.typeIs;obtain ⟨ob,g,gc,gd⟩:=id t;obtain ⟨o,es,e,c,da,hk⟩:=x
 have hs:es.size=ks.length:=by rw [← hk,af,aP]
 have hi:i<es.size:=by rw [hs];exact (aD.mp hv).1
 have ev:es[i].key=v:=by
  rw [← hk,aA] at hv
  simpa [hi] using hv
 unfold iZ;refine ae (ij (dS (name:=iH "__next__") tt F.slot_dict_keyiterator_next (c9 F.slot_dict_keyiterator_next tt F.entry_dict_keyiterator_next ?_ (F.args_dict_keyiterator_next_1 _))));refine ae (ar (ae (ae ?_)))
 first|refine ae (jx tt (ar ?_))|refine ae (lE tt (ar ?_))
 refine ae (mN g gd ?_);simp only [show tG "dict_keyiterator"=false by decide,bW,if_false]
 show aK _ _ (if (aB d == eP)=true then _ else _) _ _ s
 rw [if_neg (show ¬ ((aB d == eP)=true) from bx)];refine ae (ar (ae (mM e da ?_)));rw [if_neg (by rw [hs];simp)];refine ae (ar (ae (LJ e da ?_)));rw [if_neg (by simp)];refine ar ?_;simp only [show ¬ ((i:Int)<0) from by lia,if_false,gF,cb hi];refine ae ?_
 first|refine ae (jx tt (ar ?_))|refine ae (lE tt (ar ?_))
 refine ae (U8 tt ?_)
 show aK _ _ (setField (.ref it) 1 (cz ((i:Int)+1)) >>= _) _ _ s
 refine ae (jh g gd (by simp) ?_)
 have t':(s.heap.update it (mU (·.setIfInBounds 1 (cz ((i:Int)+1))))).IsKeyIter it d (i+1) ks.length ep :=
  ⟨_,bR _ g (jE (de gd _)),(qv ..).trans gc,by rw [de gd];simp [cz]⟩
 refine ae (cI ?_);refine ae (U8 (s:={ s with heap:=s.heap.update it (mU (·.setIfInBounds 1 (cz ((i:Int)+1)))) }) t'.typeIs ?_)
 show aK _ _ (pure es[i].key) _ _ _
 rw [ev];exact ar (ar ⟨_,rfl,ar (q _ t' (c6 ..))⟩)
theorem Md (hh:A.handled=none) (hi:ks.length<=i) (t:s.heap.IsKeyIter it d i ks.length ep) (x:yD s.heap d ks ep) (q:∀ h',Oy it s.heap h'->Q none { s with heap:=h' }):aK (aL prog w) A (iZ (.ref it)) Q E s:=by
 have tt:=t.typeIs;obtain ⟨ob,g,gc,gd⟩:=id t;obtain ⟨o,es,e,c,da,hk⟩:=x
 have hs:es.size=ks.length:=by rw [← hk,af,aP]
 unfold iZ;refine ae (ij (dS (name:=iH "__next__") tt F.slot_dict_keyiterator_next (c9 F.slot_dict_keyiterator_next tt F.entry_dict_keyiterator_next ?_ (F.args_dict_keyiterator_next_1 _))));refine ae (ar (ae (ae ?_)))
 first|refine ae (jx tt (ar ?_))|refine ae (lE tt (ar ?_))
 refine ae (mN g gd ?_);simp only [show tG "dict_keyiterator"=false by decide,bW,if_false]
 show aK _ _ (if (aB d == eP)=true then _ else _) _ _ s
 rw [if_neg (show ¬ ((aB d == eP)=true) from bx)];refine ae (ar (ae (mM e da ?_)));rw [if_neg (by rw [hs];simp)];refine ae (ar (ae (LJ e da ?_)));rw [if_neg (by simp)];refine ar ?_;simp only [show ¬ ((i:Int)<0) from by lia,if_false,gF,gO (bA (jW hs) hi)];refine ae ?_
 first|refine ae (jx tt (ar ?_))|refine ae (lE tt (ar ?_))
 show aK _ _ (setField (.ref it) 0 .none >>= _) _ _ s
 refine ae (jh g gd (by simp) ?_)
 show aK _ _ (TK (.type "StopIteration") [] >>= _) _ _ _
 refine ae ?_;simp only [TK,newTuple];refine ae (dk ?_ (by size_fits));refine ae (m:=mO _ _) (Ke (a:=eP) (by first|rfl|(simp only [mO];rfl)) ?_);refine dk ?_ (by size_fits);simp only [raiseNew];refine ae (Rp ?_);rw [show A.in1.handled=none from hh];refine ae (ar (WM ?_));refine ae (nN (T:="StopIteration") (b:=true) ⟨_,aJ _ rfl,rfl⟩ Ai ?_);exact ar (q _ (((c6 ..).extBut.push _).push _))
theorem Nv (hh:A.handled=none) (I d:ag) (hne:d≠I) (ks:List aj) (ep:Nat):Walks prog w A I [I,d] [I] ks.length (λi v=>ks[i]?=some v) (λi h=>h.IsKeyIter I d i ks.length ep/\yD h d ks ep) where
 sub:=λb hb=>by simp at hb;simp [hb]
 frame:=λ_ _ _ st hk=>⟨st.1.at λo e=>hk I (by simp) o e,st.2.at λo e=>hk d (by simp) o e⟩
 item:=λi s Q E hi st hQ=>by
  have hv:ks[i]?=some ks[i]:=ay hi;refine Ie st.1 st.2 hv λh' t' hs'=>hQ _ h' s.toks hv ⟨t',st.2.at λo e=>hs'.extBut d o hne e⟩ λb o hb e=>hs'.extBut b o (λh=>hb (by simp [h])) e
 done:=λs Q E st hQ=>Md hh (ak _) st.1 st.2 λh' he=>hQ h' s.toks λb o hb e=>he b o (λh=>hb (by simp [h])) e
 self:=λ_ _ _ _ st hQ=>Ae st.1 hQ
theorem SD (lo:(d == iY)=false):KdlSrc prog w "dict" d d ks.length (λi v=>ks[i]?=some v) (λh=>yD h d ks ep) where
 type:=λ_ x=>x.typeIs
 there:=λ_ x=>⟨x.lt,x.lt⟩
 keep:=λ_ _ x hk=>x.at λo e=>hk d (.inl rfl) o e
 notList:=by decide
 notTuple:=by decide
 hint:=λ_ _ _ _ x hq=>kdl_hint_dict x.typeIs hq
 iter:=λ_ _ hh x=>⟨_,_,(λ_ _ hq=>A4 lo x hq),Nv hh _ d (a6 x.lt) ks ep,⟨⟨_,aJ _ rfl,rfl,rfl⟩,x.at λo e=>aq _ e⟩⟩
theorem Po {S:ag}{R:N2->ax->Prop}(K:KdlSrc prog w T r d n P OK) (hh:A.handled=none) (ok:OK s.heap) (h1:S≠r) (h2:S≠d) (hn:n<=aU) (g:s.heap.get? S=some { cls:=.type "list",data:=.seq #[] 0 })
  (q:∀ h' tk acc' c',(∀ b o,b≠S->s.heap.get? b=some o->h'.get? b=some o)->h'.get? S=some { cls:=.type "list",dict:=none,data:=.seq acc' c',slots:=#[] }->ItemsOf P acc' n->R (.ok (.ret (.ref S))) { s with heap:=h',toks:=tk }) :
  jS (aL prog w) A (.builtin "list.__iadd__" ⟨[.ref S,.ref r],[]⟩) R s:=by
 refine fR F.entry_list_iadd ?_;rw [dO F.plain_list_iadd _];exact kdl_extend K hh ok S h1 h2 (.ref S) 0 g q hn
theorem Ig {Q:List aj->ax->Prop}(K:KdlSrc prog w T r d n P OK) (hh:A.handled=none) (ok:OK s.heap) (hn:n<=aU)
  (q:∀ h' tk acc,(∀ b o,s.heap.get? b=some o->h'.get? b=some o)->ItemsOf P acc n->Q acc.toList { s with heap:=h',toks:=tk }):aK (aL prog w) A (Aw (.ref r)) Q E s:=by
 have th:=K.there _ ok;unfold Aw;refine ae (Oa (fR F.entry_proto_collect ?_));rw [dO F.plain_proto_collect _]
 show aK _ A.in1 (newList [] >>= λl=>again (.builtin "list.__iadd__" ⟨[l,.ref r],[]⟩)) _ _ s
 have g:(s.heap.push { cls:=.type "list",data:=.seq ([]:List aj).toArray }).get? s.heap.objs.size=some { cls:=.type "list",data:=.seq #[] 0 }:=aJ _ rfl;refine ae (dk (ar ⟨i7 F.plain_list_iadd _,Po (s:={ s with heap:=s.heap.push { cls:=.type "list",data:=.seq ([]:List aj).toArray } }) K hh (K.keep _ _ ok λb _ o e=>aq _ e) (dt th.1) (dt th.2) hn g λh' tk acc' c' hk hS hacc=>?_⟩))
 show aK _ A (load s.heap.objs.size >>= _) _ _ { s with heap:=h',toks:=tk }
 refine ae (El hS (ar (q h' tk acc' (λb o e=>hk b o (a6 (aH e)) (aq _ e)) hacc)))
theorem Ih {acc:Array aj}(h:ItemsOf (λi v=>ks[i]?=some v) acc ks.length):acc.toList=ks:=by
 apply qd
 intro j
 cases e:acc.toList[j]? with
 | some v=>exact (h.2 j v (by rw [← dD];exact e)).symm
 | none =>
  have:ks.length<=j:=by have:=List.getElem?_eq_none_iff.mp e;rw [aP,h.1] at this;exact this
  exact (dG this).symm
end
theorem Paired.at {α β:Type} {F:α->β->Prop}{l₁:List α} {l₂:List β} (r:Paired F l₁ l₂):∀ {i:Nat}{a:α},l₁[i]?=some a->∃ b,l₂[i]?=some b/\F a b:=by
 induction r with
 | nil=>intro i a e;simp at e
 | cons h t ih =>
  intro i a e
  cases i with
  | zero =>
   simp only [kT,fQ] at e;subst e
   exact ⟨_,rfl,h⟩
  | succ i=>exact ih (by simpa using e)
theorem Paired.len {α β:Type} {F:α->β->Prop}{l₁:List α} {l₂:List β} (r:Paired F l₁ l₂):l₁.length=l₂.length:=by
 induction r with
 | nil=>rfl
 | cons h t ih=>simp [ih]
def X1 (a:ag) (kvs:List (List gG×V)) (o:jk):It :=
 ⟨λi H=>i<kvs.length/\H a=some (.frz o (.dT kvs)),λi H x H'=>H'=H/\∃ k v b,kvs[i]?=some (k,v)/\x=.ref b/\H b=some (.tup (k.map kV)),λi H=>kvs.length<=i/\H a=some (.frz o (.dT kvs))⟩
theorem Me {P:bB}(a it:ag) (o:jk) (kvs:List (List gG×V)) (es:Array DictEntry) (ep:Nat) (hx:o.ExactDict) (hd:o.data=.dict es ep) (hl:es.size=kvs.length) :
  Kk P w K tg (X1 a kvs o) [it] it (λi h=>h.IsKeyIter it a i (es.toList.map (·.key)).length ep) where
 mem:=by simp
 obj:=λi h st b hb=>by
  have e:b=it:=by simpa using hb
  subst e;obtain ⟨o,e,c,d⟩:=st;exact ⟨o,e,λv z=>by rw [d] at z;cases z⟩
 keep:=λi h h' st k=>st.at λo e=>k it (by simp) o e
 item:=by
  intro X hP hw hK hc i pins s Z H E I hf st hg;subst hP hw hK;obtain ⟨hlt,hq⟩:=hg
  obtain ⟨e0,_,_,xs,rel,o',es',ep',e1,e2,e3,e4,e5⟩:=(show eX X.prog X.w H s.heap a (.frz o (.dT kvs)) from I.eY a _ hq)
  rw [e0] at e1;cases e1;rw [hd] at e3
  injection e3 with e3 e3'
  subst e3 e3'
  obtain ⟨⟨k,v⟩,hkv⟩:∃ p,kvs[i]?=some p:=⟨kvs[i],by simp [hlt]⟩
  obtain ⟨q,hq2,rq⟩:=L2.Paired.at rel hkv
  have hkey:(es.toList.map (·.key))[i]?=some (.ref q.2.1):=by rw [e4,cf,aA,hq2];rfl
  obtain ⟨f0,f1,f2,f3,f4,f5⟩:=hf it (by simp);refine Ie st ⟨o,es,e0,hx,hd,rfl⟩ hkey λh' st' sb=>?_;have I1:Inv X pins Z H { s with heap:=h' }:=I.turned (t':=s.toks) (λb o hb e=>(sb.2 b hb).trans e) f0 f1 f3 f4 f5;obtain ⟨o',e,c,d⟩:=id st';exact ⟨_,rfl,Hw (s:={ s with heap:=h' }) e c d (by decide) ⟨.ref q.2.1,H,I1,rfl,⟨rfl,k,v,q.2.1,hkv,rfl,rq.2.1⟩,st',λb hb=>(hf b hb).1⟩⟩
 done:=by
  intro X hP hw hK hc i pins s Z H E I hf st hg;subst hP hw hK;obtain ⟨hle,hq⟩:=hg
  obtain ⟨e0,_⟩:=(show eX X.prog X.w H s.heap a (.frz o (.dT kvs)) from I.eY a _ hq)
  obtain ⟨f0,f1,f2,f3,f4,f5⟩:=hf it (by simp)
  have hn:(es.toList.map (·.key)).length=kvs.length:=by rw [af,aP,hl]
  exact Md (I.ok.hd hc) (by lia) st ⟨o,es,e0,hx,hd,rfl⟩ λh' eb=>⟨rfl,I.turned (t':=s.toks) (λb o hb e=>eb b o hb e) f0 f1 f3 f4 f5⟩
 self:=λ_ _ _ _ _ st h=>Ae st h
def Zo (tl:TE):TI:=λZ H R=>tl Z H λx H1=>∃ a kvs,x=.ref a/\((H1 a=some (.dT kvs)/\∀ o,R (X1 a kvs o) (upd H1 a (.frz o (.dT kvs))))\/∃ o,H1 a=some (.frz o (.dT kvs))/\R (X1 a kvs o) H1)
theorem Uj {R:It->Hp->Prop}(h:tl Z H λx H1=>∃ a kvs,x=.ref a/\((H1 a=some (.dT kvs)/\∀ o,R (X1 a kvs o) (upd H1 a (.frz o (.dT kvs))))\/∃ o,H1 a=some (.frz o (.dT kvs))/\R (X1 a kvs o) H1)):Zo tl Z H R:=h
theorem Uk {l:Expr}(hl:PE X l tl):PI X tg l (Zo tl):=by
 intro pins s Z H R I h;refine gR (hl pins s Z H _ I h) λv s1 ⟨x,H1,I1,r1,q1⟩=>?_;obtain ⟨a,kvs,e,q1⟩:=q1;subst e;cases r1
 rcases q1 with ⟨hq,q⟩|⟨ob,hq,q⟩
 rotate_left
 .obtain ⟨ho,hz,hsys,xs,rel,ob',es,ep,ho',hx,hd,he,hn⟩:=(show eX X.prog X.w H1 s1.heap a (.frz ob (.dT kvs)) from I1.eY a _ hq)
  rw [ho] at ho';cases ho'
  have hl:es.size=kvs.length:=by rw [← aP,he,af,Paired.len rel]
  refine A4 hsys ⟨ob,es,ho,hx,hd,rfl⟩ ?_;refine ⟨s1.heap.objs.size,[s1.heap.objs.size],_,_,_,rfl,I1.kept (t':=s1.toks) λb o e=>aq _ e,Me a _ ob kvs es ep hx hd hl,⟨_,aJ _ rfl,rfl,rfl⟩,λb hb=>?_,q⟩
  have e:b=s1.heap.objs.size:=by simpa using hb
  subst e;exact I1.JQ (ak _) (I1.eY.fresh (ak _))
 obtain ⟨hz,hsys,xs,rel,ob,es,ep,ho,hx,hd,he,hn⟩:=(show eX X.prog X.w H1 s1.heap a (.dT kvs) from I1.eY a _ hq)
 have un:Un X.fs [] H1 (upd H1 a (.frz ob (.dT kvs))) s1.heap s1.heap:=by
  have hne:∀ b u,H1 b=some u->u≠.dT kvs->b≠a:=λb u e n z=>by subst z;rw [hq] at e;exact n (a7 e).symm
  refine ⟨λb o e _ _ _=>e,λb o e _ _ _=>⟨o.slots,e⟩,λb o e n _=>?_,λb o e _=>⟨o,e⟩,λb ys e=>?_,λb o u e=>?_,λb ps e=>?_⟩
  .rw [aG (λz=>by subst z;rw [hq] at n;cases n)];exact n
  .rw [aG (hne b _ e (by intro z;cases z))];exact e
  .rw [aG (hne b _ e (by intro z;cases z))];exact e
  .exact ⟨#[],by rw [aG (hne b _ e (by intro z;cases z)),e];simp⟩
 have nt:∀ c ys,H1 c=some (.tup ys)->(upd H1 a (.frz ob (.dT kvs))) c=some (.tup ys):=λc ys q0=>by
  rw [aG (λz=>by rw [z,hq] at q0;cases q0)];exact q0
 have eY:qx X.prog X.w (upd H1 a (.frz ob (.dT kvs))) s1.heap:=λb u e=>by
  by_cases hb:b=a
  .subst hb;rw [aE] at e;cases e;exact ⟨ho,hz,hsys,xs,Paired.NW rel λp q z=>⟨z.1,nt _ _ z.2.1,z.2.2⟩,ob,es,ep,ho,hx,hd,he,hn⟩
  .rw [aG hb] at e;refine (I1.eY b u e).yF (λc v _ q=>q) (λc q0=>?_) nt;rw [aG (λz=>by rw [z,hq] at q0;cases q0)];exact q0
 have I2:Inv X pins Z (upd H1 a (.frz ob (.dT kvs))) { s1 with heap:=s1.heap,toks:=s1.toks }:=I1.un un eY
 have hl:es.size=kvs.length:=by rw [← aP,he,af,Paired.len rel]
 refine A4 hsys ⟨ob,es,ho,hx,hd,rfl⟩ ?_;refine ⟨s1.heap.objs.size,[s1.heap.objs.size],_,_,_,rfl,I2.kept (t':=s1.toks) λb o e=>aq _ e,Me a _ ob kvs es ep hx hd hl,⟨_,aJ _ rfl,rfl,rfl⟩,λb hb=>?_,q ob⟩
 have e:b=s1.heap.objs.size:=by simpa using hb
 subst e;exact I2.JQ (ak _) (I2.eY.fresh (ak _))
def SE (H:Hp) (Q:VK):VK:=λx H'=>Q x H'\/∃ a o kvs,(∀ o' u',H a≠some (.frz o' u'))/\H' a=some (.frz o (.dT kvs))/\Q x (upd H' a (.dT kvs))
theorem Un.NS {fs ex:List ag}{kvs:List (List gG×V)}(u:Un fs ex H H' h h') (hn:∀ o' u',H a≠some (.frz o' u')) (ha:H' a=some (.frz o (.dT kvs))):Un fs ex H (upd H' a (.dT kvs)) h h' where
 keep:=u.keep
 slot:=u.slot
 free:=λb ob e n hx=>by
  have q:=u.free b ob e n hx;rw [aG (λz=>by rw [z,ha] at q;cases q)];exact q
 there:=u.there
 Eg:=λb xs e=>by
  have q:=u.Eg b xs e;rw [aG (λz=>by rw [z,ha] at q;cases q)];exact q
 CG:=λb ob w e=>by
  have q:=u.CG b ob w e;rw [aG (λz=>hn ob w (by rw [← z];exact e))];exact q
 CI:=λb ps e=>by
  obtain ⟨more,q⟩:=u.CI b ps e;exact ⟨more,by rw [aG (λz=>by rw [z,ha] at q;cases q)];exact q⟩
theorem qx.NS {P:bB}{kvs:List (List gG×V)}(k:qx P w H h) (ha:H a=some (.frz o (.dT kvs))):qx P w (upd H a (.dT kvs)) h:=by
 have nt:∀ c ys,H c=some (.tup ys)->(upd H a (.dT kvs)) c=some (.tup ys):=λc ys q0=>by
  rw [aG (λz=>by rw [z,ha] at q0;cases q0)];exact q0
 intro b u e
 by_cases hb:b=a
 .subst hb;rw [aE] at e;cases e
  obtain ⟨_,hz,hsys,xs,rel,ob,es,ep,r⟩:=(show eX P w H h b (.frz o (.dT kvs)) from k b _ ha)
  exact ⟨hz,hsys,xs,Paired.NW rel λp q z=>⟨z.1,nt _ _ z.2.1,z.2.2⟩,ob,es,ep,r⟩
 .rw [aG hb] at e;refine (k b u e).yF (λc v _ q=>q) (λc q0=>?_) nt;rw [aG (λz=>by rw [z,ha] at q0;cases q0)];exact q0
end L2
namespace BootT
end BootT
namespace L2
open PySem.W
variable {w:ck}{X:Cx}
theorem kF.NS {P:bB}{K:aa}{mg:bD->Option aj}{base:cK}{CX:HE}{k:Nat}{f:ag}{fd:fz}{ps:List bD}{sp sp':Sp}(F:kF P w K mg base CX k f fd ps sp')
  (h:∀ vs H Q E,sp vs H Q E->sp' vs H (SE H Q) E):kF P w K mg base CX k f fd ps sp:=by
 refine ⟨λvs H Q E q=>F.len vs H _ E (h _ _ _ _ q),λA outer s H args us vs Q E hr he hb hv hs=>?_⟩;refine mJ (F.run A outer s H args us vs _ E hr he hb hv (h _ _ _ _ hs)) λr s' q=>?_
 cases r with
 | error e=>exact q
 | ok fl =>
  cases fl with
  | ret u =>
   obtain ⟨v,H',h1,h2,h3,h4,h5,q⟩:=(show CE outer P w H s (SE H Q) u s' from q)
   rcases q with q|⟨a,o,kvs,hn,ha,q⟩
   .exact (show CE outer P w H s Q u s' from ⟨v,H',h1,h2,h3,h4,h5,q⟩)
   .exact (show CE outer P w H s Q u s' from ⟨v,_,h1,h2,h3.NS hn ha,h4.NS ha,h5,q⟩)
  | _=>exact q
theorem Paired.eraseIdx {α β:Type} {F:α->β->Prop}{l₁:List α} {l₂:List β} (r:Paired F l₁ l₂):∀ j,Paired F (l₁.eraseIdx j) (l₂.eraseIdx j):=by
 induction r with
 | nil=>intro j;exact .nil
 | cons h t ih =>
  intro j
  cases j with
  | zero=>exact t
  | succ j=>exact .cons h (ih j)
theorem A5 {κ:Type} [DecidableEq κ] {k:κ}{v:V}:∀ {kvs:List (κ×V)}{j:Nat},(kvs.map (·.1)).Nodup->kvs[j]?=some (k,v)->kvs.eraseIdx j=oH kvs k
 | [],j,_,e=>by simp at e
 | p::r,0,hn,e=>by
  simp only [kT,fQ] at e;subst e;have h1:=(bb.mp hn).1
  rw [Nk rfl,HQ h1];rfl
 | p::r,j+1,hn,e=>by
  simp only [LK] at e;have h1:=(bb.mp hn).1;have hm:k∈r.map (·.1):=bo.mpr ⟨_,aN e,rfl⟩;have hne:¬ p.1=k:=λz=>h1 (by rw [show (λx:κ×V=>x.1) p=k from z];exact hm);rw [EF hne,LL,A5 (bb.mp hn).2 e]
theorem qV {κ:Type} [DecidableEq κ] {k:κ}{v:V}:∀ {kvs:List (κ×V)}{j:Nat},(kvs.map (·.1)).Nodup->kvs[j]?=some (k,v)->jb kvs k=some v
 | [],j,_,e=>by simp at e
 | p::r,0,hn,e=>by
  simp only [kT,fQ] at e;subst e
  exact qP rfl
 | p::r,j+1,hn,e=>by
  simp only [LK] at e;have h1:=(bb.mp hn).1;have hm:k∈r.map (·.1):=bo.mpr ⟨_,aN e,rfl⟩;have hne:¬ p.1=k:=λz=>h1 (by rw [show (λx:κ×V=>x.1) p=k from z];exact hm);rw [oI hne];exact qV (bb.mp hn).2 e
theorem EJ {α β:Type} (f:α->β):∀ (l:List α) (j:Nat),(l.map f).eraseIdx j=(l.eraseIdx j).map f
 | [],_=>by simp
 | a::l,0=>rfl
 | a::l,j+1=>by simp [LL,EJ f l j]
theorem Nw {H:Hp}{kvs:List (List gG×V)}{xs:List (List gG×ag×aj)}(r:KT H kvs xs):kvs.map (·.1)=xs.map (·.1):=by
 induction r with
 | nil=>rfl
 | cons h t ih=>simp [h.1,ih]
def Mg:V->List V->Hp->VK->Prop:=λx vs H Q=>∃ a kvs k b v,x=.ref a/\vs=[.ref b]/\H a=some (.dT kvs)/\H b=some (.tup (k.map kV))/\jb kvs k=some v/\Q v (upd H a (.dT (oH kvs k)))
theorem FR (hu:X.A.units+64<gY):Rz X "dict.pop" Mg:=by
 intro pins s Z H x xs v us Q I rx rs h;obtain ⟨a,kvs,k,b,y,rfl,rfl,ha,hb,hy,q⟩:=h;cases rx;obtain ⟨u,rfl,ru⟩:=vals1 rs;cases ru
 obtain ⟨hz,lo,ys,rel,o,es,ep,e1,e2,e3,e4,e5⟩:=(show eX X.prog X.w H s.heap a (.dT kvs) from I.eY a _ ha)
 have hl:es.size=kvs.length:=by rw [← aP,e4,af,Paired.len rel]
 have hT:s.TypeIs (.ref a) "dict":=⟨o,e1,e2.1⟩
 have hes:es.size<=aU:=by rw [hl];exact hz
 have hkey:=qR (P:=X.prog) (w:=X.w) I.eY hb
 have his:∀ x∈ys,(kJ (fi X.prog X.w)).is s.heap x.1 x.2.1:=λx hx=>by
  obtain ⟨i,hi⟩:=bC.mp hx
  obtain ⟨p,hp⟩:∃ p,kvs[i]?=some p:=⟨kvs[i]'(by rw [Paired.len rel];exact (aD.mp hi).1),by simp⟩
  obtain ⟨x',hx',r1,r2,_⟩:=L2.Paired.at rel hp;rw [hi] at hx';cases hx';rw [← r1];exact qR I.eY r2
 have rel:KT H kvs ys:=rel;have ev:=KT.val rel k;rw [hy] at ev;have hroom:(kJ (fi X.prog X.w)).room X.A.in1:=jD (by lia)
 have hnd:(kvs.map (·.1)).Nodup:=by rw [Nw rel];exact e5
 refine c9 F.slot_dict_pop hT F.entry_dict_pop ?_ (F.args_dict_pop_2 _ _);unfold iB.«dict.pop» Builtin.Dict.keyAndDefault;refine ae (ae (U7 hT ?_))
 show aK _ _ (pure (a,aB b,none)) _ _ s
 refine ar ?_
 have hne:es.isEmpty=false:=by
  cases e:es.isEmpty with
  | false=>rfl
  | true =>
   have:es.size=0:=by simpa [Array.isEmpty] using e
   have:kvs=[]:=jc (by lia);subst this;cases hy
 show aK _ _ (dictEntries a >>= _) _ _ s
 refine ae (mM e1 e3 ?_);simp only [hne,bW,if_false,pure_bind];refine ae ?_;unfold Builtin.Dict.takeOut
 try with_reducible refine cI ?_
 refine ae ((kJ (fi X.prog X.w)).pyHash hroom hkey ?_);refine ae (wpAny_dictFind_heap (s:={ s with toks:=s.toks+(kJ (fi X.prog X.w)).draws k }) hroom hkey e1 e3 e4 his e5 (λhno=>?_) λj p hj=>?_)
 .rw [atKey_none_of_get hno] at ev;exact ev.elim
 .have ep':GW ys k=some p:=atKey_of_get e5 hj;rw [ep'] at ev;have ev:RelV y p.2:=ev;refine ae (mM (s:={ s with toks:=s.toks+(kJ (fi X.prog X.w)).draws k }) e1 e3 ?_);rw [entry_at e4 j,hj];refine ae (wpAny_updateDictKeys (hz:=hes) (s:={ s with toks:=s.toks+(kJ (fi X.prog X.w)).draws k }) e1 e3 (ar ?_));simp only [CV,Ox,bW,if_false];refine ae (WK (ar ⟨_,rfl,y,upd H a (.dT (oH kvs k)),?_,ev,q⟩))
  have hk2:kvs[j]?=some (k,y):=by
   have hjl:j<kvs.length:=by rw [Paired.len rel];exact (aD.mp hj).1
   obtain ⟨x',hx',r1,_⟩:=L2.Paired.at rel (ay hjl);rw [hj] at hx';cases hx'
   have e:kvs[j]?=some (k,kvs[j].2):=by
    rw [ay hjl];have r1:kvs[j].1=k:=r1;exact congrArg some (Hj r1 rfl)
   have:=qV hnd e;rw [hy] at this;rw [e,← a7 this]
  have hrel:KT H (oH kvs k) (ys.eraseIdx j):=by rw [← A5 hnd hk2];exact Paired.eraseIdx rel j
  refine FH I (by rw [ha];exact iI) (c6 ..) ⟨_,bR _ e1 (RG (xG e3 _))⟩
   ⟨bA (dF _ _) hz,lo,_,hrel.keeps λc zs ec=>?_,_,_,ep+1,bR _ e1 (RG (xG e3 _)),e2.mapDictKeys _,xG e3 _,?_,?_⟩
  .rw [aG (gK ec ha (λz=>nomatch z))];exact ec
  .have:(es.eraseIdxIfInBounds j).toList=es.toList.eraseIdx j:=by obtain ⟨l⟩:=es;simp
   rw [this,e4,EJ]
  .exact (vJ _ (List.eraseIdx_sublist _ _)).nodup e5
namespace Rv
section
variable {prog:bB}{A:cM}{E:aj->ax->Prop}{s:ax}{I l:ag}
end
end Rv
section
variable {x:Expr}{t:TA}{p1 p2 q1 q2:sT}
end
end L2
namespace Sw
open PySem
variable {t:lF}{xs:Array Nat}
def yG (xs:Array Nat):Prop:=xs.toList.Pairwise (· < ·)
theorem yG.lt (h:yG xs) {i j a b:Nat}(hij:i<j) (h1:xs[i]?=some a) (h2:xs[j]?=some b):a<b:=by
 rw [← dD] at h1 h2;obtain ⟨hi,e1⟩:=aD.mp h1;obtain ⟨hj,e2⟩:=aD.mp h2;have:=jY.mp h i j hi hj hij;rw [e1,e2] at this;exact this
theorem A6 {j:Nat}(h:yG xs):∀ (fuel lo hi:Nat),lo<=hi->hi<=xs.size->hi-lo<=fuel->(∀ i a,i<lo->xs[i]?=some a->a<j)->(∀ i a,hi<=i->xs[i]?=some a->j<=a) ->
  (mP xs j fuel lo hi<=xs.size/\(∀ i a,i<mP xs j fuel lo hi->xs[i]?=some a->a<j)/\∀ i a,mP xs j fuel lo hi<=i->xs[i]?=some a->j<=a)
 | 0,lo,hi,h1,h2,h3,h4,h5=>by
  have:lo=hi:=by lia
  subst this
  exact ⟨h2,h4,h5⟩
 | fuel+1,lo,hi,h1,h2,h3,h4,h5=>by
  unfold mP
  by_cases c:lo<hi
  .rw [if_pos c]
   have hm:(lo+hi)/2<xs.size:=by lia
   have em:xs[(lo+hi)/2]?=some xs[(lo+hi)/2]:=cb hm
   have eg:xs.getD ((lo+hi)/2) j=xs[(lo+hi)/2]:=by simp [Rq,hm]
   simp only [eg]
   by_cases c2:xs[(lo+hi)/2]<j
   .rw [if_pos c2];refine A6 h fuel _ _ (by lia) h2 (by lia) (λi a hi' ha=>?_) h5
    by_cases e:i=(lo+hi)/2
    .subst e;rw [em] at ha;cases ha;exact c2
    .exact N8 (h.lt (show i<(lo+hi)/2 by lia) ha em) c2
   .rw [if_neg c2];refine A6 h fuel _ _ (by lia) (by lia) (by lia) h4 (λi a hi' ha=>?_)
    by_cases e:i=(lo+hi)/2
    .subst e;rw [em] at ha;cases ha;lia
    .have:=h.lt (show (lo+hi)/2<i by lia) em ha;lia
  .rw [if_neg c]
   have:lo=hi:=by lia
   subst this;exact ⟨h2,h4,h5⟩
theorem A7 (h:yG xs) (j:Nat):dm xs j<=xs.size/\(∀ i a,i<dm xs j->xs[i]?=some a->a<j)/\∀ i a,dm xs j<=i->xs[i]?=some a->j<=a :=
 A6 h _ _ _ (aM _) (ak _) (by lia) (λi a hi=>absurd hi (by lia)) λi a hi ha=>by
  have:=(cB.mp ha).1;lia
theorem Ii (h:yG xs) {k p:Nat}(hk:k=0/\p=0\/∃ k',k=k'+1/\∃ a,xs[k']?=some a/\p=a+1):dm xs p=k:=by
 obtain ⟨h1,h2,h3⟩:=A7 h p
 rcases hk with ⟨rfl,rfl⟩|⟨k',rfl,a,ha,rfl⟩
 .by_cases e:dm xs 0=0
  .exact e
  .have:xs[0]?=some xs[0]:=cb (by lia);have:=h2 0 _ (by lia) this;lia
 .have hk:=(cB.mp ha).1
  rcases Nat.lt_trichotomy (dm xs (a+1)) (k'+1) with c|c|c
  .have:=h3 k' a (by lia) ha;lia
  .exact c
  .have e:xs[k'+1]?=some (xs[k'+1]'(by lia)):=cb (by lia);have q1:=h2 (k'+1) _ c e;have q2:=h.lt (show k'<k'+1 by lia) ha e;lia
theorem yG.insert (h:yG xs) {j:Nat}(hj:xs[dm xs j]?≠some j):yG (SetTable.insertAt xs (dm xs j) j):=by
 obtain ⟨h1,h2,h3⟩:=A7 h j;generalize dm xs j=p at h1 h2 h3 hj;unfold yG;rw [SetTable.toList_insertAt];have e:xs.toList=xs.toList.take p++xs.toList.drop p:=(fD _ _).symm
 have hp:(xs.toList.take p++xs.toList.drop p).Pairwise (· < ·):=by rw [← e];exact h
 rw [gb] at hp;obtain ⟨p1,p2,p3⟩:=hp
 have m1:∀ a∈xs.toList.take p,a<j:=λa ha=>by
  obtain ⟨i,hi⟩:=bC.mp ha;rw [kM] at hi
  split at hi
  .exact h2 i a (by assumption) (by rw [← dD];exact hi)
  .cases hi
 have m2:∀ a∈xs.toList.drop p,j<a:=λa ha=>by
  obtain ⟨i,hi⟩:=bC.mp ha;rw [oF,dD] at hi;have q:=h3 (p+i) a (by lia) hi
  rcases Nat.lt_or_eq_of_le q with q|q
  .exact q
  .subst q
   cases i with
   | zero=>exact absurd hi hj
   | succ i =>
    have e0:xs[p]?=some (xs[p]'(by have:=(cB.mp hi).1;lia)):=cb _;have q1:=h3 p _ (ak _) e0;have q2:=h.lt (show p<p+(i+1) by lia) e0 hi;lia
 rw [gb];refine ⟨p1,List.pairwise_cons.mpr ⟨m2,p2⟩,λa ha b hb=>?_⟩
 rcases au.mp hb with rfl|hb
 .exact m1 a ha
 .exact p3 a ha b hb
structure TI (t:lF):Prop where
 rise:yG t.place
 nod:t.dummies=#[]
theorem Mh (j:Nat):Hk #[] j=false:=by simp [Hk]
theorem Ij (h:TI t) {hashAt:Nat->Int}{hh:Int}:∀ (fuel:Nat) (p:SetTable.Probe) {j:Nat}{d:Option Nat},tH t hashAt hh fuel p=some (.empty j d)->p.dummy=none->d=none/\t.place[dm t.place j]?≠some j
 | 0,p,j,d,e,_=>by simp [tH] at e
 | fuel+1,p,j,d,e,hd=>by
  unfold tH at e
  have adv:(t.advance p).dummy=none:=by unfold SetTable.advance;split<;>exact hd
  cases hs:t.slot p.j with
  | empty =>
   rw [hs] at e;simp only [fQ,U9] at e;obtain ⟨rfl,rfl⟩:=e;refine ⟨hd,λz=>?_⟩;unfold TL at hs
   simp [z] at hs
  | dummy =>
   unfold TL at hs;rw [h.nod] at hs;simp only [Mh] at hs
   split at hs<;>simp at hs
  | live i =>
   rw [hs] at e;simp only at e
   split at e
   .simp at e
   .exact Ij h fuel _ e adv
theorem Ny (h:TI t) {hh:Int}{j:Nat}{b:Bool}(e:t.freeSlot hh=some (j,b)):t.place[dm t.place j]?≠some j:=by
 unfold SetTable.freeSlot at e
 split at e
 .rename_i j' d he
  obtain ⟨e1,e2⟩:=Ij h _ _ he rfl;subst e1;simp at e;rw [← e.1];exact e2
 .cases e
theorem TI.standIn (t:lF) (n:Nat):TI (t.standIn n):=⟨by unfold yG SetTable.standIn;simp only [Array.toList_range];exact MW,rfl⟩
theorem TI.orStandIn (h:TI t) (n:Nat):TI (t.orStandIn n):=by
 unfold MX
 split
 .exact h
 .exact TI.standIn t n
theorem TI.put (h:TI t) {j:Nat}(hj:t.place[dm t.place j]?≠some j):TI (t.put j).1:=by
 refine ⟨h.rise.insert hj,?_⟩
 show (if Hk t.dummies j then _ else t.dummies)=#[]
 rw [h.nod,Mh,if_neg (by decide)]
theorem TI.layNew (h:TI t) (es:Array (Int×aj)) (hh:Int) (x:aj):TI (Ak t es hh x).2.1:=by
 unfold Ak
 split
 .rename_i slot wd he
  exact (h.put (Ny h he)).orStandIn _
 .exact TI.standIn t _
theorem TI.relayAll (es:Array (Int×aj)) (wanted:Nat):TI (vD t es wanted).2.1:=by
 unfold vD
 split
 .rename_i t' order he
  dsimp only
  split
  .unfold Rr TM at he;simp only [Ob,J1,TN,fQ] at he;obtain ⟨owner,_,he⟩:=he;have:=(cS he).1;subst this;refine ⟨?_,rfl⟩
   show ((hV _).filterMap _ |>.map _).toArray.toList.Pairwise _
   rw [List.toList_toArray,List.map_filterMap]
   have:(λx=>xP (λy:Nat×Nat=>y.1) (xP (λy=>(x,y)) (owner.getD x none)))=λx=>xP (λ_=>x) (owner.getD x none):=by funext x;cases owner.getD x none<;>rfl
   refine List.Pairwise.filterMap _ (λa b hab c hc d hd=>?_) MW;cases ha:owner.getD a none<;>rw [ha] at hc<;>simp at hc;cases hb:owner.getD b none<;>rw [hb] at hd<;>simp at hd;lia
  .exact TI.standIn t _
 .exact TI.standIn t _
theorem TI.off (h:TI t):TI { t with plain:=false }:=⟨h.rise,h.nod⟩
theorem TI.fresh (a b:Nat) (c:Bool):TI (RH a b c):=⟨by simp [yG,RH],rfl⟩
theorem Ky (t:lF) (es:Array (Int×aj)) (hh:Int) (x:aj):(Ak t es hh x).2.1.led=t.led:=by
 unfold Ak
 split
 .simp only [MX];split<;>rfl
 .rfl
theorem FS (t:lF) (es:Array (Int×aj)) (wanted:Nat):(vD t es wanted).2.1.led=t.led:=by
 unfold vD
 split
 .rename_i t' order he
  dsimp only
  split
  .unfold Rr TM at he;simp only [Ob,J1,TN,fQ] at he;obtain ⟨owner,_,he⟩:=he;have:=(cS he).1;subst this
   rfl
  .rfl
 .rfl
end Sw
namespace Sw
variable {bt:Bool}{a:ag}{ks:List Int}{h:cK}
def key (e:Int×aj):Int:=match e.2 with | .int i _=>i|_=>0
section
variable {prog:bB}{w:ck}
def SO (prog:bB) (w:ck) (bt:Bool) (h:cK) (a:ag) (ks:List Int):Prop :=
 ∃ o es ep t,h.get? a=some o/\o.ExactSet/\o.data=.set es ep t/\ElemsOf (mI prog w) es.toList/\(∀ e∈es.toList,∃ u,e.2=.int (key e) u)/\es.size<vE/\t.fits es.size=true/\TI t/\t.led=!bt/\ks=es.toList.map key/\ks.Nodup
theorem SO.keep {h':cK}(x:SO prog w bt h a ks) (k:∀ o,h.get? a=some o->h'.get? a=some o):SO prog w bt h' a ks :=
 let ⟨o,es,ep,t,e,r⟩:=x;⟨o,es,ep,t,k o e,r⟩
theorem SO.lt (x:SO prog w bt h a ks):a<h.objs.size:=let ⟨_,_,_,_,e,_⟩:=x;aH e
variable {A:cM}{E:aj->ax->Prop}{s:ax}
theorem Ik {g:Bool->Xb Unit}(hg:∀ (b:Bool) (s₁:ax) (Q':Unit->ax->Prop),Q' () s₁->aK (aL prog w) A (g b) Q' E s₁)
  {a:ag}{o:jk}{es:Array (Int×aj)}{ep:Nat}{t:lF}(ho:s.heap.get? a=some o) (hd:o.data=.set es ep t)
  {es1:Array (Int×aj)}{t2:lF}(hb1:es1.size<vE) (hf2:t2.fits es1.size=true) (ti:TI t2) {wasDummy:Bool}{R:Option Bool->ax->Prop}
  (h:∀ h' es2 ep2 t3,gQ a s.heap h'->h'.get? a=some { o with data:=.set es2 ep2 t3 }->es2.toList.Perm es1.toList->t3.fits es2.size=true->TI t3->t3.led=t2.led->R (some true) { s with heap:=h' }) :
  aK (aL prog w) A (do
    storeSet a es1 t2
    if (!wasDummy && t2.tooFull)=true then do
      g (relayAll t2 es1 (iJ es1.size)).2.2
      storeSet a (relayAll t2 es1 (iJ es1.size)).1 (relayAll t2 es1 (iJ es1.size)).2.1
      pure (some true)
     else pure (some true)) R E s:=by
 refine ae (wpAny_storeSet_of ho hd ?_ (G2 hb1))
 have g1:(s.heap.update a (ug es1 t2)).get? a=some { o with data:=.set es1 (ep+1) t2 }:=by
  have:=bR (ug es1 t2) ho (by rw [putSet_of es1 t2 hd];rfl);rw [putSet_of es1 t2 hd] at this;exact this
 have b1:=c6 s.heap a (ug es1 t2)
 split
 .have hp:=relayAll_perm t2 es1 (iJ es1.size);have hfr:=relayAll_fits t2 es1 (iJ es1.size);have tir:=TI.relayAll (t:=t2) es1 (iJ es1.size);have lr:=FS t2 es1 (iJ es1.size);generalize relayAll t2 es1 (iJ es1.size)=Rl at hp hfr tir lr ⊢;obtain ⟨es2,t3,gave2⟩:=Rl;dsimp only at hp hfr tir lr ⊢
  have hsz:es2.size=es1.size:=by rw [← aP,hp.length_eq,aP]
  refine ae (hg _ _ _ (ae (wpAny_storeSet_of g1 rfl ?_ (G2 (by rw [hsz];exact hb1)))));have g2:((s.heap.update a (ug es1 t2)).update a (ug es2 t3)).get? a=some { o with data:=.set es2 (ep+1+1) t3 }:=bR (ug es2 t3) g1 rfl;exact ar (h _ es2 _ t3 (b1.trans (c6 _ a _)) g2 hp hfr tir lr)
 .exact ar (h _ es1 _ t2 b1 g1 (sV _) hf2 ti rfl)
theorem V5 {k:Int}{u:TF}{Q:Bool->ax->Prop}(hS:SO prog w bt s.heap a ks) (hroom:ks.length+1<vE)
  (h:∀ h' ks' b,gQ a s.heap h'->SO prog w bt h' a ks'->(∀ x,x∈ks'↔x∈ks\/x=k)->ks'.length<=ks.length+1->Q b { s with heap:=h' }) :
  aK (aL prog w) A (setAddHashed a (.int k u) ((mI prog w).hash k)) Q E s:=by
 obtain ⟨o,es,ep,t,ho,hex,hd,hel,hin,hb,hf,ti,hled,rfl,hnd⟩:=hS;have hsc:(fj k u).scannable=true:=rfl;have hkey:(mI prog w).is k (.int k u)=true:=intKind_is _ _ _ _
 have hisk:∀ e∈es.toList,((mI prog w).is k e.2=true↔key e=k):=λe he=>by
  obtain ⟨v,hv⟩:=hin e he;rw [hv,KeyKind.is_eq_decide (intKind_is prog w (key e) v) k,decide_eq_true_iff];exact eq_comm
 unfold setAddHashed setAddHashedIn;refine cI (ae (iO ho hd hf ?_));dsimp only;rw [byScan_of hsc hb hel];simp only [↓reduceIte];unfold setAddByScan;refine ae (ae (i9 (ae (wpAny_setScan_of hkey ho hd hf hel ?_))))
 cases hr:List.findIdx? (λe=>(mI prog w).is k e.2) es.toList with
 | some j =>
  dsimp only;obtain ⟨hj,hpj,_⟩:=List.findIdx?_eq_some_iff_getElem.mp hr;have hm:k∈es.toList.map key:=bo.mpr ⟨es.toList[j],jV hj,(hisk _ (jV hj)).mp hpj⟩;refine ar (ar ?_)
  have e:s={ s with heap:=s.heap }:=by cases s;rfl
  rw [e]
  exact h s.heap _ _ (Heap.SameBut.refl a s.heap) ⟨o,es,ep,t,ho,hex,hd,hel,hin,hb,hf,ti,hled,rfl,hnd⟩ (λx=>⟨.inl,λq=>q.elim id λe=>e▸hm⟩) (iG _)
 | none =>
  dsimp only
  have hnm:k∉es.toList.map key:=λhm=>by
   obtain ⟨e,he,ek⟩:=bo.mp hm;have:=List.findIdx?_eq_none_iff.mp hr e he;rw [(hisk e he).mpr ek] at this;exact Bool.noConfusion this
  have hgw:∀ (b:Bool) {s₁:ax} {Q':Unit->ax->Prop},Q' () s₁->aK (aL prog w) A (match b with|true=>Em "set.scan.the-table-gave-way" | false=>pure ()) Q' E s₁ :=
   λb s₁ Q' hq=>by cases b<;>first|exact ar hq|exact i9 hq
  have hperm:=layNew_perm t es ((mI prog w).hash k) (.int k u);have hfits:=layNew_fits t es ((mI prog w).hash k) (.int k u);have tin:=ti.layNew es ((mI prog w).hash k) (.int k u);have ledn:=Ky t es ((mI prog w).hash k) (.int k u);generalize layNew t es ((mI prog w).hash k) (.int k u)=L at hperm hfits tin ledn ⊢;obtain ⟨es1,t1,wasDummy,gave⟩:=L;dsimp only at hperm hfits tin ledn ⊢;rw [Aj] at hperm
  have hsz1:es1.size=es.size+1:=by rw [← aP,hperm.length_eq,bg,aP];rfl
  rw [af,aP] at hroom
  have hb1:es1.size<vE:=by lia
  refine ae (hgw _ ?_)
  have hend:∀ (h':cK) (es2:Array (Int×aj)) (ep2:Nat) (t2 t3:lF),t2.led=t1.led->gQ a s.heap h'->h'.get? a=some { o with data:=.set es2 ep2 t3 }->es2.toList.Perm es1.toList->t3.fits es2.size=true->TI t3->t3.led=t2.led->Q true { s with heap:=h' }:=by
   intro h' es2 ep2 t2 t3 l2 sb g2 hp2 hf3 ti3 l3;have hpp:=hp2.trans hperm;have hpk:=hpp.map key;rw [aZ] at hpk;have ek:[((mI prog w).hash k,fj k u)].map key=[k]:=rfl;rw [ek] at hpk
   have hs2:es2.size=es.size+1:=by rw [← aP,hp2.length_eq,aP];exact hsz1
   refine h h' (es2.toList.map key) true sb ⟨_,es2,ep2,t3,g2,hex,rfl,(hel.push hkey hsc).perm hpp,λe he=>?_,by lia,hf3,ti3,by rw [l3,l2,ledn,hled],rfl,?_⟩ (λx=>?_) (by rw [af,af,aP,aP];lia)
   .rcases aS.mp (hpp.mem_iff.mp he) with he|he
    .exact hin e he
    .rw [aC.mp he];exact ⟨u,rfl⟩
   .exact hpk.nodup_iff.mpr (L2.L3 hnd hnm)
   .rw [hpk.mem_iff,aS,aC]
  split
  .refine ae ?_;rw [hashByValue_scannable 8 hsc];refine ar ?_;refine Ik (λb s₁ Q' hq=>by cases b<;>first|exact ar hq|exact i9 hq) ho hd hb1 ?_ ?_ ?_
   .split
    .exact hfits
    .exact SetTable.fits_plain_off hfits
   .split
    .exact tin
    .exact tin.off
   .intro h' es2 ep2 t3 q1 q2 q3 q4 q5 q6;dsimp only;refine ar (hend h' es2 ep2 _ t3 ?_ q1 q2 q3 q4 q5 q6)
    split<;>rfl
  .refine ae (ar ?_);simp only [↓reduceIte];refine Ik (λb s₁ Q' hq=>by cases b<;>first|exact ar hq|exact i9 hq) ho hd hb1 hfits tin ?_;intro h' es2 ep2 t3 q1 q2 q3 q4 q5 q6;dsimp only;exact ar (hend h' es2 ep2 _ t3 rfl q1 q2 q3 q4 q5 q6)
end
end Sw
namespace Sw
abbrev bt (w:ck):Bool:=w.params.followText "set-order"
section
variable {prog:bB}{w:ck}{A:cM}{E:aj->ax->Prop}{s:ax}
theorem Pp (a:aj) {Q₁:aj->ax->Prop} (h:Q₁ (.ref s.heap.objs.size) { s with heap:=s.heap.push { cls:=.type "set",dict:=none,data:=.set #[] 0 (.fresh 0 0 (!bt w)) } }) :
  jS (aL prog w) A (.call (.builtin "set.__new__") ⟨[.type "set",a],[]⟩) (wants Q₁ E) s:=by
 refine codeAny_of_tree ?_
 show aK _ A.in1 (do checkBuiltinCall "set.__new__" ⟨[.type "set",a],[]⟩;again (.builtin "set.__new__" ⟨[.type "set",a],[]⟩)) _ _ s
 refine ae (Ke (F.newCall_set_1 a) (ar ⟨i7 F.plain_set_new _,fR F.entry_set_new ?_⟩));rw [dO F.plain_set_new _];unfold iB.«set.__new__» WN;have hsub:=sub_set_self;obtain ⟨hp,g,d,tk,os⟩:=s;dsimp only
 wp_walk
 refine ip (ar ?_);dsimp only;simp only [newObj];refine ae (wpAny_alloc (ar ?_));exact ar h
theorem SF {R:N2->ax->Prop}{I:ag}{fp wr:List ag}{G:Array GenState->Array GenState->Prop}{n:Nat}{P:Nat->aj->Prop}{St:Nat->ax->Prop}(W:WalksS prog w A.in1 I fp wr G n P St) (S:ag) (hSf:S∉fp) (ns:List Int) (hl:ns.length=n) (hval:∀ i v,P i v->∃ k t,ns[i]?=some k/\v=.int k t) (hb:n+1<vE) :
  ∀ (k i:Nat) (s:ax) (ks:List Int),n-i=k->i<=n->St i s->SO prog w (bt w) s.heap S ks->(∀ x,x∈ks↔x∈ns.take i)->ks.length<=i ->
   (∀ s' ks',Moved (S::wr) G s s'->SO prog w (bt w) s'.heap S ks'->(∀ x,x∈ks'↔x∈ns)->ks'.length<=n->R (.ok (.ret .none)) s') ->
   jS (aL prog w) A (.builtin "set.update.loop" ⟨[.ref S,.ref I],[]⟩) R s:=by
 have hSw:S∉wr:=λh=>hSf (W.sub _ h);have hsub:∀ b∈wr,b∈S::wr:=λb hb=>ai _ hb;intro k
 induction k with
 | zero =>
  intro i s ks hk hi hst hS hm0 hle hR
  have hin:i=n:=by lia
  subst hin;refine fR F.entry_set_update_loop ?_;rw [dO F.plain_set_update_loop _]
  show aK _ A.in1 (iZ (.ref I) >>= _) _ _ s
  refine ae (W.done s _ _ hst λs' hm=>?_)
  show aK _ A.in1 (ret eP) _ _ s'
  exact ar (hR s' ks (hm.mono hsub) (hS.keep λo e=>hm.heap S o hSw e) (λx=>by rw [hm0,← hl,Va]) hle)
 | succ k ih =>
  intro i s ks hk hi hst hS hm0 hle hR
  have hlt:i<n:=by lia
  refine fR F.entry_set_update_loop ?_;rw [dO F.plain_set_update_loop _]
  show aK _ A.in1 (iZ (.ref I) >>= _) _ _ s
  refine ae (W.item i s _ _ hlt hst λv s' hP hst' hm=>?_);obtain ⟨c,t,hc,rfl⟩:=hval i v hP
  show aK _ A.in1 (jC [fj c t] (setAdd S (.int c t)) >>= _) _ _ s'
  refine ae (cI ?_);unfold setAdd;refine cI ?_;refine ae ((mI prog w).pyHash (k:=c) (intKind_is _ _ _ _) ?_);refine V5 (s:={ s' with toks:=s'.toks+1 }) (hS.keep λo e=>hm.heap S o hSw e) (by lia) λh' ks' b hsb hS2 hmem hlen=>?_;refine ar ⟨i7 F.plain_set_update_loop _,ih (i+1) _ ks' (by lia) hlt (W.frame _ s' _ _ hst' (iG _) λb hb o e=>?_) hS2 (λx=>?_) (by lia) λs'' ks'' hm'' hS'' hmem'' hlen''=>?_⟩
  .rw [hsb.2 b (λh:b=S=>hSf (by rw [← h];exact hb))];exact e
  .rw [hmem,hm0,Xh,hc,aS];simp
  .refine hR s'' ks'' (Moved.trans W.gtrans ((hm.mono hsub).then_heap (iG _) λb o hb e=>?_) hm'') hS'' hmem'' hlen'';rw [hsb.2 b (λh:b=S=>hb (by rw [h];exact aw))];exact e
theorem Pq {l:ag}{items:Array aj}{ns:List Int}{Q:aj->ax->Prop}(hh:A.handled=none) (hl:s.heap.IsList l items) (hi:eN items.toList ns) (hb:items.size+1<vE)
  (h:∀ (h':cK) (tk:Nat) (ks:List Int),SO prog w (bt w) h' s.heap.objs.size ks->(∀ x,x∈ks↔x∈ns)->ks.length<=items.size->(∀ b o,s.heap.get? b=some o->h'.get? b=some o)->Q (.ref s.heap.objs.size) { s with heap:=h',toks:=tk }) :
  aK (aL prog w) A (call (.type "set") [.ref l]) Q E s:=by
 obtain ⟨c,tl,hmro⟩:=F.called_set.mro;have hmade:=F.called_set.made;have hsub:=F.called_set.sub;refine N3 (codeAny_of_tree ?_)
 show aK _ _ (callAny (.type "set") _) _ _ _
 refine ar ⟨Code.quiet_builtin _ (by decide +kernel),fR F.entry_type_call ?_⟩;rw [Around.under_plain (weight_type_call_type "set" [.ref l] []) rfl];have h1:=F.called_set.notType;have h2:=F.called_set.canCreate;have hct:=F.typeCall_set_1 (.ref l)
 repeat (any_goals (first|assumption|wp_step))
 refine mJ (Pp (.ref l) (E:=E) (Q₁:=λobj s₁=>obj=.ref s.heap.objs.size/\s₁={ s with heap:=s.heap.push { cls:=.type "set",dict:=none,data:=.set #[] 0 (.fresh 0 0 (!bt w)) } }) ⟨rfl,rfl⟩) λr s₁ hr=>?_
 cases r with
 | error e=>exact hr
 | ok fl =>
  cases fl with
  | ret obj =>
   obtain ⟨rfl,rfl⟩:=hr;have hS:(s.heap.push { cls:=.type "set",dict:=none,data:=.set #[] 0 (.fresh 0 0 (!bt w)) }).get? s.heap.objs.size=some { cls:=.type "set",dict:=none,data:=.set #[] 0 (.fresh 0 0 (!bt w)) }:=aJ _ rfl
   have hT:Shared.TypeIs { s with heap:=s.heap.push { cls:=.type "set",dict:=none,data:=.set #[] 0 (.fresh 0 0 (!bt w)) } } (.ref s.heap.objs.size) "set":=⟨_,hS,rfl⟩
   have hli:=F.called_set.init.lookup;have hbi:=F.called_set.init.bind (.ref s.heap.objs.size)
   repeat (any_goals (first|assumption|wp_step))
   refine mJ (codeAny_call_builtin (R:=wants (λr s₂=>r=.none/\∃ h' tk ks,s₂={ s with heap:=h',toks:=tk }/\SO prog w (bt w) h' s.heap.objs.size ks/\(∀ x,x∈ks↔x∈ns)/\ks.length<=items.size/\(∀ b o,s.heap.get? b=some o->h'.get? b=some o)) E) F.called_set.init.plain F.entry_set_init (check_set_init_1 hT ?_)) λr₂ s₂ hr₂=>?_
   .obtain ⟨ol,hol,hcl,nl,hdl⟩:=hl;obtain ⟨ocls,odict,odata,oslots⟩:=ol;simp only at hcl hdl;subst hcl;subst hdl;have hol':(s.heap.push { cls:=.type "set",dict:=none,data:=.set #[] 0 (.fresh 0 0 (!bt w)) }).get? l=some { cls:=.type "list",dict:=odict,data:=.seq items nl,slots:=oslots }:=aq _ hol;have hsls:=F.sub_list_set;have hslf:=F.sub_list_frozenset
    have hne:(eQ "list" == eQ "dict")=false:=by decide
    have hl1:(s.heap.push { cls:=.type "set",dict:=none,data:=.set #[] 0 (.fresh 0 0 (!bt w)) }).IsList l items:=⟨_,hol',rfl,nl,rfl⟩
    unfold iB.«set.__init__» noKeywords WO;generalize hPI:N0=PI
    wp_walk
    subst hPI;refine GY hl1 ?_;refine ae (Oa ?_);have hlS:l<s.heap.objs.size:=aH hol
    have hh3:A.in1.in1.in1.handled=none:=by simp [hh]
    have hneI:l≠(s.heap.push { cls:=.type "set",dict:=none,data:=.set #[] 0 (.fresh 0 0 (!bt w)) }).objs.size:=by
     rw [iR];exact a6 (qu hlS)
    have hSf:s.heap.objs.size∉[(s.heap.push { cls:=.type "set",dict:=none,data:=.set #[] 0 (.fresh 0 0 (!bt w)) }).objs.size,l]:=by
     rw [iR];simp only [au,aC,cH,or_false,not_or];exact ⟨a6 (i4 _),dt hlS⟩
    have hlen:=hi.length;rw [aP] at hlen
    have hval:∀ (i:Nat) (v:aj),items[i]?=some v->∃ k t,ns[i]?=some k/\v=.int k t:=λi v hv=>by
     obtain ⟨t,e⟩:=RI hi i v (by rw [dD];exact hv);have hlt:=(cB.mp hv).1
     have:ns[i]?=some (ns.getD i 0):=by rw [List.getD_eq_getElem?_getD,ay (by lia)];rfl
     exact ⟨_,t,this,e⟩
    refine SF ((Walks.list hh3 _ l hneI items).toS) s.heap.objs.size hSf ns hlen.symm hval hb (items.size-0) 0 _ [] (by lia) (aM _)
     ⟨⟨_,aJ _ rfl,rfl,rfl⟩,(hl1.push _)⟩ ?hS0 (λx=>by simp) (ak _) ?hR
    case hS0 =>
     have hget:((s.heap.push { cls:=.type "set",dict:=none,data:=.set #[] 0 (.fresh 0 0 (!bt w)) }).push { cls:=.type "list_iterator",data:=.fields #[.ref l,.int 0 0] }).get? s.heap.objs.size
       = some { cls:=.type "set",dict:=none,data:=.set #[] 0 (.fresh 0 0 (!bt w)) }:=aq _ hS
     exact ⟨_,#[],0,_,hget,⟨rfl,rfl,rfl⟩,rfl,(λe he=>by simp at he),(λe he=>by simp at he),by decide,rfl,TI.fresh _ _ _,rfl,rfl,lN⟩
    case hR =>
     intro s' ks' hm hS' hmem hlen';obtain ⟨h',g',d',tk',os'⟩:=s';have eg:g'=s.gens:=hm.gens;have ed:d'=s.drawn:=hm.drawn;have eo:os'=s.os:=hm.os;subst eg;subst ed;subst eo
     show aK _ _ _ _ _ _
     refine ar ?_
     show aK _ _ (ret eP) _ _ _
     refine ar ⟨rfl,h',tk',ks',rfl,hS',hmem,hlen',λb o e=>?_⟩;have hb:=aH e;have hb1:b≠s.heap.objs.size:=a6 hb
     have hb2:b≠(s.heap.push { cls:=.type "set",dict:=none,data:=.set #[] 0 (.fresh 0 0 (!bt w)) }).objs.size:=by
      rw [iR];exact a6 (qu hb)
     exact hm.heap b o (by simp only [au,aC,cH,or_false,not_or];exact ⟨hb1,hb2⟩) (aq _ (aq _ e))
   .cases r₂ with
    | error e=>exact hr₂
    | ok fl₂ =>
     cases fl₂ with
     | ret r =>
      obtain ⟨rfl,h',tk,ks,rfl,hS',hm',hl',hk'⟩:=hr₂
      repeat (any_goals (first|assumption|wp_step))
      exact h _ _ _ hS' hm' hl' hk'
     | _=>exact hr₂.elim
  | _=>exact hr.elim
end
end Sw
namespace Sw
variable {i ep n:Nat}{a it:ag}{first:aj}{es:Array (Int×aj)}{t:lF}{vs:List aj}{sl:Nat->Nat}{Q:Option aj->ax->Prop}
theorem Il:Manifest.owners.lookup (String.ofList ['r','o','t','a','r','e','t','i','_','t','e','s'].reverse)=some Manifest.sig_set_iterator:=by kernel_rfl
theorem eV:Slot "set_iterator" "__next__" "set_iterator.__next__" :=
 .of (owner:="set_iterator") (n:="__next__") (by rw [xO,nF];kernel_rfl) (by decide +kernel) (by decide +kernel) (by decide +kernel)
  (by first|exact .inl (by decide +kernel)|exact .inr (by decide +kernel)) (by rw [Oc];kernel_rfl)
theorem lG:entryFor table "set_iterator.__next__"=some iB.«set_iterator.__next__»:=entryFor_of_tree (by kernel_rfl)
theorem mG (a:aj):argsOk "set_iterator.__next__" ⟨[a],[]⟩:=by
 unfold argsOk;rw [signature?_of (id:="set_iterator.__next__") (n:=['_','_','t','x','e','n','_','_']) (o:=['r','o','t','a','r','e','t','i','_','t','e','s']) (by kernel_rfl) Il];kernel_rfl
theorem vZ:Slot "set_iterator" "__iter__" "set_iterator.__iter__" :=
 .of (owner:="set_iterator") (n:="__iter__") (by rw [xO,nF];kernel_rfl) (by decide +kernel) (by decide +kernel) (by decide +kernel)
  (by first|exact .inl (by decide +kernel)|exact .inr (by decide +kernel)) (by rw [Oc];kernel_rfl)
theorem FT (a:aj):argsOk "set_iterator.__iter__" ⟨[a],[]⟩:=by
 unfold argsOk;rw [signature?_of (id:="set_iterator.__iter__") (n:=['_','_','r','e','t','i','_','_']) (o:=['r','o','t','a','r','e','t','i','_','t','e','s']) (by kernel_rfl) Il];kernel_rfl
theorem C6:entryFor table "set_iterator.__iter__"=some iB.«dict_keyiterator.__iter__» :=
 entryFor_alias (id':="dict_keyiterator.__iter__") (by kernel_rfl) rfl (by decide +kernel) (by kernel_rfl)
theorem A8:entryFor table "set.__iter__"=some iB.«frozenset.__iter__» :=
 entryFor_alias (id':="frozenset.__iter__") (by kernel_rfl) rfl (by decide +kernel) (by kernel_rfl)
theorem A9 {α:Type} {l:List α}(h:i<l.length):(l[i]::l.eraseIdx i).Perm l:=by
 rw [List.eraseIdx_eq_take_drop_succ]
 have e:l=l.take i++l[i]::l.drop (i+1):=by rw [List.getElem_cons_drop,fD]
 conv=>rhs;rw [e]
 exact CY.symm
theorem EK {α:Type} (next:Nat->Nat):∀ (fuel k:Nat) (left:List α) (out:Array α),fuel=left.length->(G4 next fuel k left out).toList.Perm (out.toList++left)
 | 0,k,left,out,h=>by
  have:left=[]:=jc h.symm
  subst this;simp [G4]
 | fuel+1,k,left,out,h=>by
  unfold G4;have hlt:next k%left.length<left.length:=Nat.mod_lt _ (by lia);rw [ay hlt];dsimp only;refine (EK next fuel _ _ _ (by rw [Oz];simp [hlt];lia)).trans ?_;rw [Aj,df];refine lg _ ?_;exact A9 hlt
def xA (h:cK) (it:ag) (first:aj) (i:Nat) (a:ag) (n ep:Nat):Prop:=∃ o,h.get? it=some o/\o.cls=.type "set_iterator"/\o.data=.fields #[first,cz i,.ref a,cz n,cz ep]
theorem xA.keep {h h':cK}(x:xA h it first i a n ep) (k:∀ o,h.get? it=some o->h'.get? it=some o):xA h' it first i a n ep:=let ⟨o,e,r⟩:=x;⟨o,k o e,r⟩
def RS (h:cK) (a:ag) (es:Array (Int×aj)) (ep:Nat) (t:lF):Prop:=∃ o,h.get? a=some o/\o.ExactSet/\o.data=.set es ep t/\t.fits es.size=true
theorem RS.keep {h h':cK}(x:RS h a es ep t) (k:∀ o,h.get? a=some o->h'.get? a=some o):RS h' a es ep t:=let ⟨o,e,r⟩:=x;⟨o,k o e,r⟩
section
variable {prog:bB}{w:ck}{A:cM}{E:aj->ax->Prop}{s:ax}
theorem Mi {Q:aj->ax->Prop}(x:xA s.heap it first i a n ep) (h:Q (.ref it) s):aK (aL prog w) A (N0 (.ref it)) Q E s:=by
 have hT:s.TypeIs (.ref it) "set_iterator":=let ⟨o,e,c,_⟩:=x;⟨o,e,c⟩
 refine G1 hT vZ (c9 vZ hT C6 ?_ (FT _))
 show aK _ _ (ret (.ref it)) _ _ s
 exact ar ⟨_,rfl,"set_iterator",_,hT,eV.lookup,h⟩
def Ord (w:ck) (a:ag) (es:Array (Int×aj)) (ep:Nat) (t:lF) (vs:List aj) (sl:Nat->Nat):Prop :=
 sl 0=0/\vs.length=es.size/\((bt w=true/\vs=(Ax (w.params.setOrder a ep) es).toList.map (·.2)/\∀ i,sl i=0) \/
  (bt w=false/\vs=es.toList.map (·.2)/\(!t.plain && decide (es.size>1))=false/\(t.led=true)/\yG t.place/\∀ i p,t.place[i]?=some p->sl (i+1)=p+1))
theorem Nz {v:aj}(x:xA s.heap it (cz (sl i)) i a es.size ep) (r:RS s.heap a es ep t) (o:Ord w a es ep t vs sl) (hv:vs[i]?=some v)
  (q:∀ h',xA h' it (cz (sl (i+1))) (i+1) a es.size ep->gQ it s.heap h'->Q (some v) { s with heap:=h' }):aK (aL prog w) A (iZ (.ref it)) Q E s:=by
 have hT:s.TypeIs (.ref it) "set_iterator":=let ⟨o,e,c,_⟩:=x;⟨o,e,c⟩
 obtain ⟨ob,g,gc,gd⟩:=x;obtain ⟨oa,ra,rx,rd,rf⟩:=r;unfold iZ;refine ae (ij (dS (name:=iH "__next__") hT eV (c9 eV hT lG ?_ (mG _))));unfold iB.«set_iterator.__next__»;refine ae (m:=Od "__next__" 0 _) (ar ?_);refine ae (mN g gd ?_)
 show aK _ _ (Oe a >>= _) _ _ s
 refine ae (kU ra rd rf ?_);rw [if_neg (by simp)]
 show aK _ _ (MY a ((sl i:Nat):Int).toNat ((i:Nat):Int).toNat ((ep:Nat):Int).toNat >>= _) _ _ s
 simp only [gF]
 have nxt:aK (aL prog w) A.in1 (MY a (sl i) i ep) (λz s'=>z=some (v,sl (i+1))/\s'=s) (λ_ _=>False) s:=by
  unfold MY;refine ae (iO ra rd rf ?_);dsimp only;refine ae ?_;unfold Ep;refine ae (ip (ar ?_));obtain ⟨o0,o1,⟨b1,b2,b3⟩|⟨b1,b2,b3,b4,b5,b6⟩⟩:=o
  .have b1':(({ program:=(aL prog w).prog,params:=(aL prog w).w.params }:Setting).params.followText "set-order")=true:=b1;rw [b1'];simp only [↓reduceIte];rw [if_neg (by simp)];refine ae ?_;unfold setWalk;refine ae (iO ra rd rf ?_);dsimp only;refine ae ?_;unfold Ep;refine ae (ip (ar ?_));rw [b1'];simp only [↓reduceIte];refine ae (ip (ar (ar ⟨?_,rfl⟩)));have hv':=hv;rw [b2,aA,dD] at hv'
   show xP (λe=>(e.2,sl i)) (Ax (w.params.setOrder a ep) es)[i]?=_
   obtain ⟨e,he,ev⟩:=br.mp hv';rw [he,b3 i,b3 (i+1)];simp [ev]
  .have b1':(({ program:=(aL prog w).prog,params:=(aL prog w).w.params }:Setting).params.followText "set-order")=false:=b1;rw [b1'];simp only [bW,↓reduceIte];refine jK (λhd=>absurd (show (!t.plain && decide (es.size>1))=true from hd) (by rw [b3];decide)) (λ_=>ae ?_)
   show aK _ _ (if (!t.led && !es.isEmpty)=true then _ else _) _ _ _
   rw [if_neg (by rw [b4];simp)];refine ar (ar ⟨?_,rfl⟩)
   have hlt:i<es.size:=by rw [← o1];exact (aD.mp hv).1
   have hfs:t.place.size=es.size:=by
    have:=rf;unfold TQ at this;simp at this;exact this.1
   have hp:t.place[i]?=some (t.place[i]'(by lia)):=cb _
   have hbel:dm t.place (sl i)=i:=by
    refine Ii b5 ?_
    cases i with
    | zero=>exact .inl ⟨rfl,o0⟩
    | succ k =>
     have hk:t.place[k]?=some (t.place[k]'(by lia)):=cb _;exact .inr ⟨k,rfl,_,hk,b6 k _ hk⟩
   rw [hbel,hp,b6 i _ hp];rw [b2,aA,dD] at hv;obtain ⟨e,he,ev⟩:=br.mp hv;rw [he];obtain ⟨e1,e2⟩:=e;simp at ev;simp [ev]
 refine ae (dH nxt (λz s' hz=>?_) λ_ _ x=>x.elim);obtain ⟨rfl,rfl⟩:=hz;dsimp only;have g1:=bR (mU (·.setIfInBounds 0 (cz ((sl (i+1):Nat):Int)))) g (jE (de gd _));refine ae (jh g gd (by simp) (ae (jh g1 (de gd _) (by simp) ?_)));have g2:=bR (mU (·.setIfInBounds 1 (cz ((i:Int)+1)))) g1 (jE (de (de gd _) _));refine ar ⟨_,rfl,ar (q _ ⟨_,g2,(qv ..).trans ((qv ..).trans gc),?_⟩ ((c6 ..).trans (c6 ..)))⟩;rw [de (de gd _)];simp [cz]
theorem Pr (hh:A.handled=none) (x:xA s.heap it (cz (sl vs.length)) vs.length a es.size ep) (r:RS s.heap a es ep t) (o:Ord w a es ep t vs sl)
  (q:∀ h',Oy it s.heap h'->Q none { s with heap:=h' }):aK (aL prog w) A (iZ (.ref it)) Q E s:=by
 have hT:s.TypeIs (.ref it) "set_iterator":=let ⟨o,e,c,_⟩:=x;⟨o,e,c⟩
 obtain ⟨ob,g,gc,gd⟩:=x;obtain ⟨oa,ra,rx,rd,rf⟩:=r;unfold iZ;refine ae (ij (dS (name:=iH "__next__") hT eV (c9 eV hT lG ?_ (mG _))));unfold iB.«set_iterator.__next__»;refine ae (m:=Od "__next__" 0 _) (ar ?_);refine ae (mN g gd ?_)
 show aK _ _ (Oe a >>= _) _ _ s
 refine ae (kU ra rd rf ?_);rw [if_neg (by simp)]
 show aK _ _ (MY a ((sl vs.length:Nat):Int).toNat ((vs.length:Nat):Int).toNat ((ep:Nat):Int).toNat >>= _) _ _ s
 simp only [gF]
 have nxt:aK (aL prog w) A.in1 (MY a (sl vs.length) vs.length ep) (λz s'=>z=none/\s'=s) (λ_ _=>False) s:=by
  unfold MY;refine ae (iO ra rd rf ?_);dsimp only;refine ae ?_;unfold Ep;refine ae (ip (ar ?_));obtain ⟨o0,o1,⟨b1,b2,b3⟩|⟨b1,b2,b3,b4,b5,b6⟩⟩:=o
  .have b1':(({ program:=(aL prog w).prog,params:=(aL prog w).w.params }:Setting).params.followText "set-order")=true:=b1;rw [b1'];simp only [↓reduceIte];rw [if_neg (by simp)];refine ae ?_;unfold setWalk;refine ae (iO ra rd rf ?_);dsimp only;refine ae ?_;unfold Ep;refine ae (ip (ar ?_));rw [b1'];simp only [↓reduceIte];refine ae (ip (ar (ar ⟨?_,rfl⟩)))
   show xP (λe=>(e.2,sl vs.length)) (Ax (w.params.setOrder a ep) es)[vs.length]?=_
   rw [gO (by have h:=o1;rw [b2,af,aP] at h;rw [o1];exact jW h)]
   rfl
  .have b1':(({ program:=(aL prog w).prog,params:=(aL prog w).w.params }:Setting).params.followText "set-order")=false:=b1;rw [b1'];simp only [bW,↓reduceIte];refine jK (λhd=>absurd (show (!t.plain && decide (es.size>1))=true from hd) (by rw [b3];decide)) (λ_=>ae ?_)
   show aK _ _ (if (!t.led && !es.isEmpty)=true then _ else _) _ _ _
   rw [if_neg (by rw [b4];simp)];refine ar (ar ⟨?_,rfl⟩)
   have hfs:t.place.size=es.size:=by
    have:=rf;unfold TQ at this;simp at this;exact this.1
   have hbel:dm t.place (sl vs.length)=vs.length:=by
    refine Ii b5 ?_
    cases e:vs.length with
    | zero=>exact .inl ⟨rfl,o0⟩
    | succ k =>
     have hk:t.place[k]?=some (t.place[k]'(by lia)):=cb _;exact .inr ⟨k,rfl,_,hk,b6 k _ hk⟩
   rw [hbel,gO (by lia)]
 refine ae (dH nxt (λz s' hz=>?_) λ_ _ x=>x.elim);obtain ⟨rfl,rfl⟩:=hz;dsimp only;refine ae (jh g gd (by simp) ?_)
 show aK _ _ (TK (.type "StopIteration") [] >>= _) _ _ _
 refine ae ?_;simp only [TK,newTuple];refine ae (dk ?_ (by size_fits));refine ae (m:=mO _ _) (Ke (a:=eP) (by first|rfl|(simp only [mO];rfl)) ?_);refine dk ?_ (by size_fits);simp only [raiseNew];refine ae (Rp ?_);rw [show A.in1.handled=none from hh];refine ae (ar (WM ?_));refine ae (nN (T:="StopIteration") (b:=true) ⟨_,aJ _ rfl,rfl⟩ Ai ?_);exact ar (q _ (((c6 ..).extBut.push _).push _))
theorem NA (hh:A.handled=none) (I a:ag) (hne:a≠I) {vs:List aj}{sl:Nat->Nat}(o:Ord w a es ep t vs sl) :
  Walks prog w A I [I,a] [I] vs.length (λi v=>vs[i]?=some v) (λi h=>xA h I (cz (sl i)) i a es.size ep/\RS h a es ep t) where
 sub:=λb hb=>by simp at hb;simp [hb]
 frame:=λ_ _ _ st hk=>⟨st.1.keep λo e=>hk I (by simp) o e,st.2.keep λo e=>hk a (by simp) o e⟩
 item:=λi s Q E hi st hQ=>by
  have hv:vs[i]?=some vs[i]:=ay hi;exact Nz st.1 st.2 o hv λh' x' hs'=>hQ _ h' s.toks hv ⟨x',st.2.keep λo e=>hs'.extBut a o hne e⟩ λb o hb e=>hs'.extBut b o (λh=>hb (by simp [h])) e
 done:=λs Q E st hQ=>Pr hh st.1 st.2 o λh' he=>hQ h' s.toks λb o hb e=>he b o (λh=>hb (by simp [h])) e
 self:=λ_ _ _ _ st hQ=>Mi st.1 hQ
end
end Sw
namespace Sw
variable {T:ag}{ord:List Nat}{vs:List aj}{Q:Option aj->ax->Prop}
section
variable {prog:bB}{w:ck}{A:cM}{E:aj->ax->Prop}{s:ax}{it a:ag}{es:Array (Int×aj)}{ep n:Nat}{t:lF}
theorem NB {M:Model}{src:Source}{k:Nat}{Q:Nat->ax->Prop}(hk:k≠0) (h:∀ i d,i<k->Q i { s with drawn:=d }):aK M A (choose src k) Q E s :=
 λΓ p hΓ=>⟨hk,h _ _ (Nat.mod_lt _ (Nat.pos_of_ne_zero hk))⟩
theorem Mj {α:Type}:∀ (k:Nat) (xs:List α) {s:ax}{Q:List α->ax->Prop},xs.length=k->(∀ ys d,ys.Perm xs->Q ys { s with drawn:=d })->aK (aL prog w) A (drawOrder k xs) Q E s
 | 0,xs,s,Q,hl,h=>by
  have:xs=[]:=jc hl;subst this
  exact ar (h [] s.drawn (sV _))
 | k+1,[],s,Q,hl,h=>by simp at hl
 | k+1,x::xs,s,Q,hl,h=>by
  unfold drawOrder;refine ae (NB (by simp) λi d hi=>?_);rw [ay hi];dsimp only;refine ae (Mj k _ (by rw [Oz,if_pos hi];lia) λys d' hp=>ar (h _ d' ?_));exact (hp.cons _).trans (A9 hi)
structure Dr (h:cK) (T:ag) (es:Array (Int×aj)) (ord:List Nat) (vs:List aj):Prop where
 tup:∃ o,h.get? T=some o/\o.data=.seq (ord.map λ(i:Nat)=>cz (i:Int)).toArray 0
 len:vs.length=ord.length
 at_:∀ (i:Nat) p,ord[i]?=some p->∃ e,es[p]?=some e/\vs[i]?=some e.2
theorem SG {i:Nat}{v:aj}(x:xA s.heap it (.ref T) i a es.size ep) (r:RS s.heap a es ep t) (o:Dr s.heap T es ord vs) (hv:vs[i]?=some v)
  (q:∀ h',xA h' it (.ref T) (i+1) a es.size ep->gQ it s.heap h'->Q (some v) { s with heap:=h' }):aK (aL prog w) A (iZ (.ref it)) Q E s:=by
 have hT:s.TypeIs (.ref it) "set_iterator":=let ⟨o,e,c,_⟩:=x;⟨o,e,c⟩
 obtain ⟨ob,g,gc,gd⟩:=x;obtain ⟨oa,ra,rx,rd,rf⟩:=r;obtain ⟨⟨ot,gt,gtd⟩,ol,oat⟩:=o
 have hi:i<ord.length:=by rw [← ol];exact (aD.mp hv).1
 obtain ⟨e,he,hve⟩:=oat i _ (ay hi);rw [hv] at hve;cases hve;unfold iZ;refine ae (ij (dS (name:=iH "__next__") hT eV (c9 eV hT lG ?_ (mG _))));unfold iB.«set_iterator.__next__»;refine ae (m:=Od "__next__" 0 _) (ar ?_);refine ae (mN g gd ?_)
 show aK _ _ (Oe a >>= _) _ _ s
 refine ae (kU ra rd rf ?_);rw [if_neg (by simp)]
 show aK _ _ (Ay (.ref T) >>= _) _ _ s
 have sq:aK (aL prog w) A.in1 (Ay (.ref T)) (λz s'=>z=some (ord.map λ(i:Nat)=>cz (i:Int)).toArray/\s'=s) (λ_ _=>False) s:=by
  unfold Ay;refine ae (El gt ?_);rw [gtd];exact ar ⟨rfl,rfl⟩
 refine ae (dH sq (λz s' hz=>?_) λ_ _ x=>x.elim);obtain ⟨rfl,rfl⟩:=hz;dsimp only
 have hpi:(ord.map λ(i:Nat)=>cz (i:Int)).toArray[((i:Nat):Int).toNat]?=some (cz (ord[i]:Int)):=by
  rw [gF,Og,aA,ay hi];rfl
 show aK _ _ (match (ord.map λ(i:Nat)=>cz (i:Int)).toArray[((i:Nat):Int).toNat]? with|some (.int place _)=>_|some _=>_|none=>_) _ _ _
 rw [hpi]
 show aK _ _ (setNextDrawn a ((ord[i]:Nat):Int).toNat ((ep:Nat):Int).toNat >>= _) _ _ _
 simp only [gF];refine ae ?_;unfold setNextDrawn;refine ae (iO ra rd rf ?_);dsimp only;rw [if_neg (by simp),he];refine ar (ae (jh g gd (by simp) ?_));have g1:=bR (mU (·.setIfInBounds 1 (cz ((i:Int)+1)))) g (jE (de gd _));refine ar ⟨_,rfl,ar (q _ ⟨_,g1,(qv ..).trans gc,?_⟩ (c6 ..))⟩;rw [de gd];simp [cz]
theorem x5 (hh:A.handled=none) (x:xA s.heap it (.ref T) vs.length a es.size ep) (r:RS s.heap a es ep t) (o:Dr s.heap T es ord vs)
  (q:∀ h',Oy it s.heap h'->Q none { s with heap:=h' }):aK (aL prog w) A (iZ (.ref it)) Q E s:=by
 have hT:s.TypeIs (.ref it) "set_iterator":=let ⟨o,e,c,_⟩:=x;⟨o,e,c⟩
 obtain ⟨ob,g,gc,gd⟩:=x;obtain ⟨oa,ra,rx,rd,rf⟩:=r;obtain ⟨⟨ot,gt,gtd⟩,ol,oat⟩:=o;unfold iZ;refine ae (ij (dS (name:=iH "__next__") hT eV (c9 eV hT lG ?_ (mG _))));unfold iB.«set_iterator.__next__»;refine ae (m:=Od "__next__" 0 _) (ar ?_);refine ae (mN g gd ?_)
 show aK _ _ (Oe a >>= _) _ _ s
 refine ae (kU ra rd rf ?_);rw [if_neg (by simp)]
 show aK _ _ (Ay (.ref T) >>= _) _ _ s
 have sq:aK (aL prog w) A.in1 (Ay (.ref T)) (λz s'=>z=some (ord.map λ(i:Nat)=>cz (i:Int)).toArray/\s'=s) (λ_ _=>False) s:=by
  unfold Ay;refine ae (El gt ?_);rw [gtd];exact ar ⟨rfl,rfl⟩
 refine ae (dH sq (λz s' hz=>?_) λ_ _ x=>x.elim);obtain ⟨rfl,rfl⟩:=hz;dsimp only
 have hpi:(ord.map λ(i:Nat)=>cz (i:Int)).toArray[((vs.length:Nat):Int).toNat]?=none:=by
  rw [gF,Og,aA,dG (by lia)];rfl
 show aK _ _ (match (ord.map λ(i:Nat)=>cz (i:Int)).toArray[((vs.length:Nat):Int).toNat]? with|some (.int place _)=>_|some _=>_|none=>_) _ _ _
 rw [hpi];dsimp only;have g1:=bR (mU (·.setIfInBounds 0 (cz 0))) g (jE (de gd _));refine ae (jh g gd (by simp) (ae (jh g1 (de gd _) (by simp) ?_)))
 show aK _ _ (TK (.type "StopIteration") [] >>= _) _ _ _
 refine ae ?_;simp only [TK,newTuple];refine ae (dk ?_ (by size_fits));refine ae (m:=mO _ _) (Ke (a:=eP) (by first|rfl|(simp only [mO];rfl)) ?_);refine dk ?_ (by size_fits);simp only [raiseNew];refine ae (Rp ?_);rw [show A.in1.handled=none from hh];refine ae (ar (WM ?_));refine ae (nN (T:="StopIteration") (b:=true) ⟨_,aJ _ rfl,rfl⟩ Ai ?_);exact ar (q _ ((((c6 ..).trans (c6 ..)).extBut.push _).push _))
theorem Pu (hh:A.handled=none) (I a T:ag) (hne:a≠I) (hnT:T≠I) {ord:List Nat}{vs:List aj} :
  Walks prog w A I [I,a,T] [I] vs.length (λi v=>vs[i]?=some v) (λi h=>xA h I (.ref T) i a es.size ep/\RS h a es ep t/\Dr h T es ord vs) where
 sub:=λb hb=>by simp at hb;simp [hb]
 frame:=λ_ _ _ st hk=>⟨st.1.keep λo e=>hk I (by simp) o e,st.2.1.keep λo e=>hk a (by simp) o e,let ⟨o,e,d⟩:=st.2.2.tup;⟨⟨o,hk T (by simp) o e,d⟩,st.2.2.len,st.2.2.at_⟩⟩
 item:=λi s Q E hi st hQ=>by
  have hv:vs[i]?=some vs[i]:=ay hi;exact SG st.1 st.2.1 st.2.2 hv λh' x' hs'=>hQ _ h' s.toks hv ⟨x',st.2.1.keep λo e=>hs'.extBut a o hne e,let ⟨o,e,d⟩:=st.2.2.tup;⟨⟨o,hs'.extBut T o hnT e,d⟩,st.2.2.len,st.2.2.at_⟩⟩ λb o hb e=>hs'.extBut b o (λh=>hb (by simp [h])) e
 done:=λs Q E st hQ=>x5 hh st.1 st.2.1 st.2.2 λh' he=>hQ h' s.toks λb o hb e=>he b o (λh=>hb (by simp [h])) e
 self:=λ_ _ _ _ st hQ=>Mi st.1 hQ
theorem Pw {ks:List Int}{Q:aj->ax->Prop}(hh:A.handled=none) (hS:SO prog w (bt w) s.heap a ks)
  (q:∀ I h1 d (vs:List aj) (ns:List Int) fp St,Walks prog w A I fp [I] vs.length (λi v=>vs[i]?=some v) St->St 0 h1->(∀ b o,s.heap.get? b=some o->h1.get? b=some o)->I∈fp->(∀ b∈fp,b=a\/s.heap.objs.size<=b)->s.heap.objs.size<=I->eN vs ns->ns.Perm ks->Q (.ref I) { s with heap:=h1,drawn:=d }) :
  aK (aL prog w) A (N0 (.ref a)) Q E s:=by
 have hlt:=hS.lt;obtain ⟨o,es,ep,t,ho,hex,hd,hel,hin,hb,hf,ti,hled,rfl,hnd⟩:=hS
 have hT:s.TypeIs (.ref a) "set":=⟨o,ho,hex.1⟩
 have hints:∀ {l:List (Int×aj)},(∀ e∈l,∃ u,e.2=.int (key e) u)->eN (l.map (·.2)) (l.map key):=by
  intro l
  induction l with
  | nil=>intro _;exact .nil
  | cons e l ih =>
   intro h;obtain ⟨u,eu⟩:=h e aw;rw [aW,aW,eu];exact .cons _ _ (ih λe' he'=>h e' (ai _ he'))
 refine G1 hT F.slot_set_iter (c9 F.slot_set_iter hT A8 ?_ (F.args_set_iter_1 _));unfold iB.«frozenset.__iter__» WQ Od;simp only [List.isEmpty_nil,Bool.not_true,bW,↓reduceIte,bind_assoc,nC,bne_self_eq_false];unfold WR WS;refine ae (ar ?_)
 try dsimp only
 refine ae (ar ?_);refine ae (ae (kU ho hd hf (ar ?_)));refine ae ?_;unfold setDrawn;refine ae (iO ho hd hf ?_);dsimp only;refine ae ?_;unfold Ep;refine ae (ip (ar (ar ?_)));have hz:es.size<=aU:=G2 hb
 have hrs:RS s.heap a es ep t:=⟨o,ho,hex,hd,hf⟩
 refine jK (λhdr=>?_) (λhdr=>?_)
 .refine ae (Mj es.size (hV es.size) qe λord d hp=>?_)
  have hol:ord.length=es.size:=by rw [hp.length_eq,qe]
  refine ae (Ah ?_ (by rw [af,hol];exact hz));have k1:∀ b ob,s.heap.get? b=some ob->(s.heap.push (b8 "tuple" (ord.map λ(i:Nat)=>cz (i:Int)).toArray 0)).get? b=some ob:=λb ob e=>aq _ e;have gT:(s.heap.push (b8 "tuple" (ord.map λ(i:Nat)=>cz (i:Int)).toArray 0)).get? s.heap.objs.size=some (b8 "tuple" (ord.map λ(i:Nat)=>cz (i:Int)).toArray 0):=aJ _ rfl;have hsz:(s.heap.push (b8 "tuple" (ord.map λ(i:Nat)=>cz (i:Int)).toArray 0)).objs.size=s.heap.objs.size+1:=iR ..;generalize s.heap.push (b8 "tuple" (ord.map λ(i:Nat)=>cz (i:Int)).toArray 0)=h0 at k1 gT hsz;refine ae (wpAny_setEpoch_of (s:={ s with heap:=h0,drawn:=d }) (k1 _ _ ho) hd hf ?_);unfold newFields;refine ae (dk (ar ⟨_,rfl,"set_iterator",_,⟨_,aJ _ rfl,rfl⟩,eV.lookup,?_⟩))
  have hmem:∀ p∈ord,p<es.size:=λp hpm=>by simpa using hp.mem_iff.mp hpm
  have hget:∀ p,p<es.size->es[p]?=some (es.getD p (0,.none)):=λp hp'=>by rw [cb hp'];simp [Rq,hp']
  have hperm:(ord.map λp=>es.getD p (0,.none)).Perm es.toList:=by
   refine (hp.map _).trans ?_
   have:(hV es.size).map (λp=>es.getD p (0,.none))=es.toList:=by
    apply qd
    intro i;rw [aA]
    by_cases hi:i<es.size
    .rw [List.getElem?_range hi,dD,hget i hi];rfl
    .rw [dG (by rw [qe];lia),dG (by rw [aP];lia)];rfl
   rw [this]
  have hsub:∀ e∈ord.map (λp=>es.getD p (0,.none)),∃ u,e.2=.int (key e) u:=λe he=>hin e (hperm.mem_iff.mp he)
  have hst:xA (h0.push { cls:=.type "set_iterator",data:=.fields [aB s.heap.objs.size,cz 0,.ref a,cz es.size,cz ep].toArray }) h0.objs.size (.ref s.heap.objs.size) 0 a es.size ep:=⟨_,aJ _ rfl,rfl,rfl⟩
  have haI:a≠h0.objs.size:=by rw [hsz];exact a6 (qu hlt)
  have hTI:s.heap.objs.size≠h0.objs.size:=by rw [hsz];exact a6 (i4 _)
  refine q h0.objs.size _ d ((ord.map λp=>es.getD p (0,.none)).map (·.2)) ((ord.map λp=>es.getD p (0,.none)).map key) [h0.objs.size,a,s.heap.objs.size] _ (Pu (es:=es) (ep:=ep) (t:=t) (ord:=ord) hh h0.objs.size a s.heap.objs.size haI hTI) ⟨hst,hrs.keep λob e=>aq _ (k1 _ _ e),⟨_,aq _ gT,rfl⟩,by rw [af,af],λi p hip=>?_⟩
   (λb ob e=>aq _ (k1 _ _ e)) (by simp) (λb hb'=>?_) (by rw [hsz];exact iG _) (hints hsub) (hperm.map key)
  .have hpl:=hmem p (aN hip);exact ⟨_,hget p hpl,by rw [aA,aA,hip];rfl⟩
  .simp only [au,cH,or_false] at hb'
   rcases hb' with rfl|rfl|rfl
   .exact .inr (by rw [hsz];exact iG _)
   .exact .inl rfl
   .exact .inr (ak _)
 .refine ae (ar (ae (wpAny_setEpoch_of ho hd hf ?_)));unfold newFields;refine ae (dk (ar ⟨_,rfl,"set_iterator",_,⟨_,aJ _ rfl,rfl⟩,eV.lookup,?_⟩))
  have hst:xA (s.heap.push { cls:=.type "set_iterator",data:=.fields [cz 0,cz 0,.ref a,cz es.size,cz ep].toArray }) s.heap.objs.size (cz 0) 0 a es.size ep:=⟨_,aJ _ rfl,rfl,rfl⟩
  obtain ⟨vs,sl,ns,hord,hiv,hpn⟩:∃ vs sl ns,Ord w a es ep t vs sl/\eN vs ns/\ns.Perm (es.toList.map key):=by
   by_cases hbt:bt w=true
   .have hpp:=EK (w.params.setOrder a ep) es.size 0 es.toList #[] (aP).symm;rw [show (#[]:Array (Int×aj)).toList++es.toList=es.toList by simp] at hpp;have hpp:(Ax (w.params.setOrder a ep) es).toList.Perm es.toList:=hpp;exact ⟨(Ax (w.params.setOrder a ep) es).toList.map (·.2),λ_=>0,(Ax (w.params.setOrder a ep) es).toList.map key,⟨rfl,by rw [af,hpp.length_eq,aP],.inl ⟨hbt,rfl,λ_=>rfl⟩⟩,hints λe he=>hin e (hpp.mem_iff.mp he),hpp.map key⟩
   .have hbf:bt w=false:=by cases h:bt w<;>simp_all
    refine ⟨es.toList.map (·.2),λi=>match i with|0=>0|k+1=>t.place.getD k 0+1,es.toList.map key,⟨rfl,by rw [af,aP],.inr ⟨hbf,rfl,?_,by rw [hled,hbf];rfl,ti.rise,λi p hp=>?_⟩⟩,hints hin,sV _⟩
    .cases hx:(!t.plain && decide (es.size>1)) with
     | false=>rfl
     | true =>
      refine absurd ?_ hdr
      show (!(w.params.followText "set-order") && (!t.plain && decide (es.size>1)))=true
      rw [hx,show w.params.followText "set-order"=false from hbf];rfl
    .have:=(cB.mp hp)
     obtain ⟨hlt',e⟩:=this
     show t.place.getD i 0+1=p+1
     simp [Rq,hlt',e]
  have h0:=hord.1;refine q s.heap.objs.size _ s.drawn vs ns [s.heap.objs.size,a] _ (NA hh s.heap.objs.size a (a6 hlt) hord) ⟨by rw [h0];exact hst,hrs.keep λob e=>aq _ e⟩ (λb ob e=>aq _ e) (by simp) (λb hb'=>?_) (ak _) hiv hpn;simp only [au,cH,or_false] at hb'
  rcases hb' with rfl|rfl
  .exact .inr (ak _)
  .exact .inl rfl
end
end Sw
namespace Sw
open PySem.W
section
variable {prog:bB}{w:ck}{A:cM}{E:aj->ax->Prop}{s:ax}{a:ag}
theorem Px {Q:Bool->ax->Prop}(hT:s.TypeIs (.ref a) "set") (h:Q false s):aK (aL prog w) A (i8 (.ref a)) Q E s:=by
 unfold i8;refine ae (LI hT PySem.F.slot_set_len.lookup ?_);generalize hid:("set.__len__":String)=id0
 wp_delta
 rw [show splitId id0=some ("set","__len__") from by subst hid;decide +kernel];subst hid;refine ae (nN (T:="set") (b:=true) hT (by rw [Oc];kernel_rfl) ?_);refine jK (λhab=>absurd hab (by decide)) (λ_=>?_);refine jK (λ_=>?_) (λhab=>absurd (by decide +kernel) hab);refine ae (TJ hT ?_);exact ar h
theorem Py {S:ag}{ks:List Int}{R:N2->ax->Prop}(hh:A.handled=none) (hS:SO prog w (bt w) s.heap a ks) (hSa:S≠a) (hn:ks.length<=aU) (g:s.heap.get? S=some { cls:=.type "list",data:=.seq #[] 0 })
  (q:∀ h' tk d acc' c' (ns:List Int),(∀ b o,b≠S->s.heap.get? b=some o->h'.get? b=some o)->h'.get? S=some { cls:=.type "list",dict:=none,data:=.seq acc' c',slots:=#[] }->eN acc'.toList ns->ns.Perm ks->R (.ok (.ret (.ref S))) { s with heap:=h',toks:=tk,drawn:=d }) :
  jS (aL prog w) A (.builtin "list.__iadd__" ⟨[.ref S,.ref a],[]⟩) R s:=by
 have hT:s.TypeIs (.ref a) "set":=let ⟨o,_,_,_,e,c,_⟩:=hS;⟨o,e,c.1⟩
 refine fR F.entry_list_iadd ?_;rw [dO F.plain_list_iadd _]
 show aK _ A.in1 (gf (.ref S) (.ref a) (.ref S)) _ _ s
 unfold gf;refine ae (TJ (T:="set") hT ?_)
 have h1:jF (.ref S) (.ref a)=false:=by simp [jF,hSa]
 have h2:(eQ "set" == eQ "list")=false:=by decide
 have h3:(eQ "set" == eQ "tuple")=false:=by decide
 simp only [h1,h2,h3,Bool.or_false,bW,if_false];refine ae (Pw (A:=A.in1) hh hS λI h1 d vs ns fp St W st kp hI hfp hIl hiv hpn=>?_)
 have hSf:S∉fp:=λhm=>by
  rcases hfp S hm with e|e
  .exact hSa e
  .exact absurd (aH g) (Nat.not_lt.mpr e)
 have hln:vs.length=ks.length:=by rw [hiv.length,hpn.length_eq]
 have hn':vs.length<=aU:=by lia
 have hT1:({ s with heap:=h1,drawn:=d }:ax).TypeIs (.ref a) "set":=let ⟨o,e,c⟩:=hT;⟨o,kp _ _ e,c⟩
 have key:∀ (h:cK) (c₁:Nat),St 0 h->(∀ b o,b≠S->s.heap.get? b=some o->h.get? b=some o)->h.get? S=some { cls:=.type "list",data:=.seq #[] c₁ } ->
   jS (aL prog w) A (.builtin "list.extend.loop" ⟨[.ref S,.ref I,.ref S],[]⟩) R { s with heap:=h,drawn:=d }:=by
  intro h c₁ hst hk hS₁;refine codeAny_extend_loopS W.toS hn' S hSf (.ref S) vs.length 0 _ #[] c₁ rfl (aM _) hst hS₁ (ItemsOf.nil _) λs' acc' c' hm hS' hacc=>?_
  have es:s'={ s with heap:=s'.heap,toks:=s'.toks,drawn:=d }:=by have e:=Moved.eq_with hm;exact e
  rw [es];have ea:acc'.toList=vs:=L2.Ih hacc;refine q s'.heap s'.toks d acc' c' ns (λb o hb e=>hm.heap b o (λhmem=>?_) (hk b o hb e)) hS' (by rw [ea];exact hiv) hpn
  rcases au.mp hmem with e'|hmem
  .exact hb e'
  .rw [aC.mp hmem] at e;exact absurd (aH e) (Nat.not_lt.mpr hIl)
 refine ae (cI (Px hT1 ?_));refine jK (λ_=>?_) (λ_=>ar ⟨i7 dU _,key _ 0 st (λb o _ e=>kp b o e) (kp _ _ g)⟩);refine ae (i9 (ae ?_))
 show aK _ _ (JZ S (·.push .none) >>= λ_=>JZ S (·.pop)) _ _ _
 refine ae (pE (kp _ _ g) rfl ?_);have g2:=bR (bO (·.push eP)) (kp _ _ g) rfl;refine pE (hz:=by seq_fits) g2 rfl ?_;have g3:=bR (bO (·.pop)) g2 rfl;refine ar ⟨i7 dU _,key _ _ ?_ (λb o hb e=>?_) g3⟩
 .refine W.frame 0 _ _ st λb hb o e=>?_;have hbS:b≠S:=λh=>hSf (h▸hb);exact (bE _ _ (Ne.symm hbS)).trans ((bE _ _ (Ne.symm hbS)).trans e)
 .exact (bE _ _ (Ne.symm hb)).trans ((bE _ _ (Ne.symm hb)).trans (kp b o e))
theorem Im {ks:List Int}{Q:List aj->ax->Prop}(hh:A.handled=none) (hS:SO prog w (bt w) s.heap a ks) (hn:ks.length<=aU)
  (q:∀ h' tk d vs (ns:List Int),(∀ b o,s.heap.get? b=some o->h'.get? b=some o)->eN vs ns->ns.Perm ks->Q vs { s with heap:=h',toks:=tk,drawn:=d }):aK (aL prog w) A (Aw (.ref a)) Q E s:=by
 have hlt:=hS.lt;unfold Aw;refine ae (Oa (fR F.entry_proto_collect ?_));rw [dO F.plain_proto_collect _]
 show aK _ A.in1 (newList [] >>= λl=>again (.builtin "list.__iadd__" ⟨[l,.ref a],[]⟩)) _ _ s
 have g:(s.heap.push { cls:=.type "list",data:=.seq ([]:List aj).toArray }).get? s.heap.objs.size=some { cls:=.type "list",data:=.seq #[] 0 }:=aJ _ rfl;refine ae (dk (ar ⟨i7 F.plain_list_iadd _,Py (s:={ s with heap:=s.heap.push { cls:=.type "list",data:=.seq ([]:List aj).toArray } }) hh (hS.keep λo e=>aq _ e) (dt hlt) hn g λh' tk d acc' c' ns hk hS' hi hp=>?_⟩))
 show aK _ A (load s.heap.objs.size >>= _) _ _ { s with heap:=h',toks:=tk,drawn:=d }
 refine ae (El hS' (ar (q h' tk d acc'.toList ns (λb o e=>hk b o (a6 (aH e)) (aq _ e)) hi hp)))
end
end Sw
namespace L2
open PySem.W
variable {X:Cx}{Z:St}{H:Hp}{K:aa}{elts:List Expr}{k:Nat}{pos:sT}{ta:TA}
theorem Inv.drawn {pins:List (ag×jk)}{s:ax}(I:Inv X pins Z H s) (d:Drawn):Inv X pins Z H { s with drawn:=d }:=⟨I.ok,I.os,I.bare,I.base,I.loc,I.cell,I.free,I.sQ,I.pin,I.eY,I.len⟩
theorem Pz {ks ds:List Int}(hn:ks.Nodup) (h:∀ x∈ks,x∈ds):ks.length<=ds.length:=by
 induction ks generalizing ds with
 | nil=>simp
 | cons a ks ih =>
  obtain ⟨h1,h2⟩:=bb.mp hn;obtain ⟨l1,l2,rfl⟩:=kN (h a aw)
  have:=ih (ds:=l1++l2) h2 λx hx=>by
   have hx':=h x (ai _ hx)
   rcases aS.mp hx' with q|q
   .exact eU _ q
   .rcases au.mp q with q|q
    .exact absurd (q▸hx) h1
    .exact bH _ q
  simp at this ⊢;lia
section
variable {x:Expr}{t:TA}{p1 p2 q1 q2:sT}
end
def W7 (K:aa) (a:ag):It :=
 ⟨λi H=>∃ xs x,cL K H a xs/\xs[i]?=some x,λi H v H'=>∃ p,H p=none/\v=.ref p/\∀ xs,cL K H a xs->∃ y,xs[i]?=some y/\H'=upd H p (.tup [.int (i:Int),y]),λi H=>∃ xs,cL K H a xs/\xs.length<=i⟩
theorem NC {P:bB}{w:ck}(a e it:ag) (hei:e≠it):Kk P w K (.Tuple elts k pos) (W7 K a) [e,it] e (λi h=>(∃ old,IsEnum h e it (i:Int) old)/\h.IsListIter it a i) where
 mem:=by simp
 obj:=λi h st b hb=>by
  obtain ⟨⟨old,x⟩,y⟩:=st;simp only [au,cH,or_false] at hb
  rcases hb with rfl|rfl
  .exact ⟨_,x,λv z=>by
    have z':Data.fields _=Data.cell v:=z
    cases z'⟩
  .obtain ⟨o,q,c,d⟩:=y;exact ⟨o,q,λv z=>by rw [d] at z;cases z⟩
 keep:=λi h h' st kp=>⟨let ⟨old,x⟩:=st.1;⟨old,kp e (by simp) _ x⟩,st.2.at λo x=>kp it (by simp) o x⟩
 item:=by
  intro X hP hw hK hc i pins s Z H E I hf st hg;subst hP hw hK;obtain ⟨⟨old,he⟩,hit⟩:=st;obtain ⟨xs,x,hq,hx⟩:=hg;obtain ⟨its,rv,pl,hz⟩:=I.list hq;obtain ⟨u,hu,ru⟩:=rv.get hx;refine wpAny_pyNext_enum_item he hit pl.isList (x:=u) (by simpa using hu) hei λh1 ho hit1 hT hsz hk=>?_;refine ⟨_,rfl,wpAny_letOwnedTupleGo_enum ho λh2 he2 hs2=>?_⟩;have hTn:H s.heap.objs.size=none:=I.eY.fresh (ak _);have helt:e<s.heap.objs.size:=aH he;have hTe:s.heap.objs.size≠e:=dt helt
  have k2:∀ b o,b∉[e,it]->s.heap.get? b=some o->h2.get? b=some o:=λb o hb q=>by
   have h1':b≠e:=λz=>hb (by simp [z]);have h2':b≠it:=λz=>hb (by simp [z]);exact (hs2.2 b h1').trans (hk b o h1' h2' q)
  have nf:∀ b u,H b=some u->b∉[e,it]:=λb u q hb=>by rw [(hf b hb).1] at q;cases q
  have nT:∀ b u,H b=some u->b≠s.heap.objs.size:=λb u q z=>by rw [z,hTn] at q;cases q
  have nT2:∀ b o,s.heap.get? b=some o->b≠s.heap.objs.size:=λb o q=>a6 (aH q);have T2:h2.get? s.heap.objs.size=some { cls:=.type "tuple",data:=.seq #[.int i s.toks,u] }:=(hs2.2 _ hTe).trans hT
  have I2:Inv X pins Z (upd H s.heap.objs.size (.tup [.int (i:Int),x])) { s with heap:=h2,gens:=s.gens,drawn:=s.drawn,toks:=s.toks+1 }:=by
   refine I.step (ch:=[e,it]) (λb hb=>?_) (λb o _ _ hb q _=>k2 b o hb q) (λb o _ _ hb q _=>⟨o.slots,k2 b o hb q⟩) (λb o hb q n=>by rw [aG (nT2 b o q)];exact n) (λb o hb q=>⟨o,k2 b o hb q⟩)
    (λb ys q=>by rw [aG (nT b _ q)];exact q) (λb o u q=>by rw [aG (nT b _ q)];exact q) (λb ps q=>⟨#[],by rw [aG (nT b _ q),q];simp⟩) (λm hm=>?_) (λb v q=>?_) I.bare
   .obtain ⟨f0,f1,f2,f3,f4,f5⟩:=hf b hb;exact ⟨f3,f1,f4,f5⟩
   .obtain ⟨o,es,ep,ho,r⟩:=hm;refine ⟨o,es,ep,k2 _ o (λhb=>?_) ho,r⟩;exact (hf _ hb).2.1 rfl
   .by_cases hb:b=s.heap.objs.size
    .subst hb;rw [aE] at q;cases q;exact ⟨bq (m:=2) (ak 2),[.int i s.toks,u],.cons ⟨_,rfl⟩ (.cons ru .nil),_,T2,rfl,0,rfl⟩
    .rw [aG hb] at q
     refine (I.eY b v q).yF (λc o hc q2=>k2 c o ?_ q2) (λc q2=>by rw [aG (nT c _ q2)];exact q2) λc ys q2=>by rw [aG (nT c _ q2)];exact q2
     rcases hc with z|z
     .rw [z];exact nf b v q
     .exact nf c _ z
  refine ⟨.ref s.heap.objs.size,_,I2,rfl,⟨_,hTn,rfl,λys hy=>⟨x,by rw [I.JO hy hq];exact hx,rfl⟩⟩,⟨⟨_,by simpa using he2⟩,hit1.at λo q=>(hs2.2 it (Ne.symm hei)).trans q⟩,λb hb=>?_⟩
  have hbl:b<s.heap.objs.size:=by
   simp only [au,cH,or_false] at hb
   rcases hb with rfl|rfl
   .exact helt
   .obtain ⟨_,q,_⟩:=hit;exact aH q
  rw [aG (a6 hbl)];exact (hf b hb).1
 done:=by
  intro X hP hw hK hc i pins s Z H E I hf st hg;subst hP hw hK;obtain ⟨⟨old,he⟩,hit⟩:=st;obtain ⟨xs,hq,hx⟩:=hg;obtain ⟨its,rv,pl,hz⟩:=I.list hq;have hl:=rv.length;obtain ⟨f0,f1,f2,f3,f4,f5⟩:=hf it (by simp)
  exact wpAny_pyNext_enum_end (I.ok.hd hc) he hit pl.isList (by simp;lia) λh' eb=>⟨rfl,I.turned (t':=s.toks) (λb o hb q=>eb b o hb q) f0 f1 f3 f4 f5⟩
 self:=λ_ _ _ _ _ st h=>let ⟨_,x⟩:=st.1;wpAny_pyIter_enum x h
def PD (K:aa) (ta:TA):TI:=λZ H R=>ta Z H λvs H1=>∃ (a:ag) (xs:List V),vs=[.ref a]/\cL K H1 a xs/\R (W7 K a) H1
theorem SH {R:It->Hp->Prop}(h:ta Z H λvs H1=>∃ (a:ag) (xs:List V),vs=[.ref a]/\cL K H1 a xs/\R (W7 K a) H1):PD K ta Z H R:=h
theorem SI {pos':sT}{a:Expr}{p:sT}(hg:Gl X "enumerate") (hm:X.mg "enumerate"=none) (ha:PA X [a] ta) (hs:bu [a] X.env=[(false,eJ a X.env)]:=by rfl) :
  PI X (.Tuple elts k pos') (.Call (.Name "enumerate" p) [a] [] pos) (PD X.K ta):=by
 intro pins s Z H R I h;refine Call_ (l9 I hg hm BootT.Nr (dw (gR (ha pos pins s Z H _ I h) λus s1 ⟨vs,H1,I1,r1,q1⟩=>?_) hs rfl));obtain ⟨l,xs,e,hq,q⟩:=q1;subst e
 cases r1 with
 | cons r rr =>
  cases rr;cases r;obtain ⟨its,rv,pl,hz⟩:=I1.list hq;refine call_enumerate_list pl.isList λh' he hit hsz hk=>?_;refine wpAny_pyIter_enum he ?_;have hei:s1.heap.objs.size+1≠s1.heap.objs.size:=Nat.succ_ne_self _;refine ⟨s1.heap.objs.size+1,[s1.heap.objs.size+1,s1.heap.objs.size],_,_,H1,rfl,I1.kept (t':=s1.toks) hk,NC l (s1.heap.objs.size+1) s1.heap.objs.size hei,⟨⟨_,he⟩,hit⟩,λb hb=>?_,q⟩
  have hb':s1.heap.objs.size<=b:=by
   simp only [au,cH,or_false] at hb
   rcases hb with rfl|rfl
   .exact iG _
   .exact ak _
  exact I1.JQ hb' (I1.eY.fresh hb')
theorem PF {a:ag}{xs:List V}{g:TG}{tb:TS}{D:tM}(Pv:Nat->St->Hp->Prop) (h0:Pv 0 Z H) (hl:∀ i Z H,i<=xs.length->Pv i Z H->cL K H a xs)
  (hs:∀ i x p Z H,xs[i]?=some x->H p=none->Pv i Z H->g (.ref p) Z (upd H p (.tup [.int (i:Int),x])) λσ2 H2=>tb { D with nx:=Pv (i+1),ct:=Pv (i+1),bk:=D.nx } σ2 H2) (hd:∀ Z H,Pv xs.length Z H->D.nx Z H) :
  ∃ W:Nat->Nat->St->Hp->Prop,(∃ m,W 0 m Z H)/\∀ i m Z H,W i m Z H ->
   ((W7 K a).stop i H/\D.nx Z H)\/((W7 K a).go i H/\∃ N:St->Hp->Prop,(∀ σ' H',N σ' H'->∃ m',m'<m/\W (i+1) m' σ' H')/\∀ x H',(W7 K a).J7 i H x H'->g x Z H' λσ2 H2=>tb { D with nx:=N,ct:=N,bk:=D.nx } σ2 H2):=by
 refine ⟨λi m Z H=>m=xs.length-i/\i<=xs.length/\Pv i Z H,⟨xs.length,by simp,aM _,h0⟩,?_⟩;rintro i m Z H ⟨hm,hi,p⟩;have hq:=hl _ _ _ hi p
 by_cases e:i=xs.length
 .subst e;exact .inl ⟨⟨xs,hq,ak _⟩,hd _ _ p⟩
 .obtain ⟨x,hx⟩:∃ x,xs[i]?=some x:=⟨_,ay (by lia)⟩
  refine .inr ⟨⟨xs,x,hq,hx⟩,Pv (i+1),λσ' H' p'=>⟨xs.length-(i+1),by lia,rfl,by lia,p'⟩,?_⟩;rintro v H' ⟨q,hn,rfl,hy⟩;obtain ⟨y,h1,rfl⟩:=hy xs hq;rw [hx] at h1;cases h1;exact hs i x q Z H hx hn p
end L2
namespace L2
variable {x:bD}{K:aa}{ps:List bD}{f C:ag}{H:Hp}{X:Cx}{mg:bD->Option aj}{st:dB}{s:ax}{k:Nat}{sp:Sp}{e:Expr}{es:List Expr}{t:TA}{h:cK}{cd:aj}{pl:Xb Bool}{P:bB}{w:ck}{E:XK}{Z:St}{fd:fz}
section
variable {st:List He}{H2:Hp}{a:ag}{B h':cK}
end
section
variable {base:cK}{N:List bD}{qual:bD}{scope:pH}{A:cM}{outer:List He}{E':XK}
end
section
variable {pins:List (ag×jk)}
end
section
variable {CT:ag}{xT n:bD}{p np cpos epos hpos pos:sT}{th:TS}{i:Nat}{b₀:dB} {suite:List dB}
end
section
variable {p pos:sT}
end
section
variable {Q:VK}
end
structure Cal (P:bB) (w:ck) (K:aa) (mg:bD->Option aj) (base:cK) (CX:HE) (k:Nat) (x:bD) (ps:List bD) (sp:Sp) where
 f:ag
 d:fz
 G:kF P w K mg base CX k f d ps sp
 m:mg x=some (.ref f)
 kp:dN K (.ref f)=true
 b:Binds K d ps []
structure V7 (P:bB) (w:ck) (K:aa) (mg:bD->Option aj) (base:cK) (CX:HE) (k:Nat) (C:ag) (x:bD) (ps:List bD) (sp:Sp) where
 f:ag
 d:fz
 G:kF P w K mg base CX k f d ps sp
 m:R3 K C x f
 b:Binds K d ps []
structure CalI (P:bB) (w:ck) (K:aa) (mg:bD->Option aj) (base:cK) (CX:HE) (k:Nat) (C:ag) (ps:List bD) (sp:Sp) where
 f:ag
 d:fz
 G:kF P w K mg base CX k f d ps sp
 m:Mk K C f
 b:Binds K d ps []
structure qD (K:aa) (mg:bD->Option aj) (x:bD) (st:dB) (ps:List bD) where
 f:ag
 d:fz
 F:LB K x x st f d
 m:mg x=some (.ref f)
 bt:∀ (s:ax) (us:List aj),us.length=ps.length->GT s d ⟨us,[]⟩ (ps.zip us)
 b:Binds K d ps []
structure kd (K:aa) (C:ag) (x q:bD) (st:dB) (ps:List bD) where
 f:ag
 d:fz
 F:LB K x q st f d
 a:bG K (.ref C) x=some (some (.ref f))
 i:qA K (.ref f)=true
 b:Binds K d ps []
def ve (X:K.In h) (G:h.Ns bM mg) {f:ag}{od an:Option ag}{sl:Array (Option aj)}{oc kV dc pm cd ct:aj}(a:cJ K bM x=some (some (.ref f)))
  (l:K.lookup f=some ⟨oc,od,.func (il x x (nQ st) (jR st) (aV st) .none kV dc pm an cd ct),sl⟩) (c:nM K cd x=true) (k:dN K (.ref f)=true)
  (hb:∀ (kV doc pm:aj) (an:Option ag) (nB ct:aj) (us:List aj),us.length=ps.length->Ab (il x x (nQ st) (jR st) (aV st) .none kV doc pm an nB ct) ⟨us,[]⟩=pure (ps.zip us)):qD K mg x st ps :=
 ⟨f,_,FI l c k,l7 X G a,λs us hl=>.of_eq (hb kV dc pm an cd ct us hl),(FI l c k).binds hb⟩
def zE {q:bD}{od an:Option ag}{sl:Array (Option aj)}{oc kV dc pm ct:aj}(a:bG K (.ref C) x=some (some (.ref f))) (i:qA K (.ref f)=true)
  (l:K.lookup f=some ⟨oc,od,.func (il x q (nQ st) (jR st) (aV st) .none kV dc pm an cd ct),sl⟩) (c:nM K cd q=true) (k:dN K (.ref f)=true)
  (hb:∀ (kV doc pm:aj) (an:Option ag) (nB ct:aj) (us:List aj),us.length=ps.length->Ab (il x q (nQ st) (jR st) (aV st) .none kV doc pm an nB ct) ⟨us,[]⟩=pure (ps.zip us)):kd K C x q st ps :=
 ⟨f,_,FI l c k,a,i,(FI l c k).binds hb⟩
theorem qD.law {y:bD}{fa:ag}(D:qD K mg x st [y]) (h:mg x=some (.ref fa)):D.f=fa:=by
 have:=D.m.symm.trans h;cases this;rfl
section
variable {CX:HE}{p pos apos:sT}{o:Expr}{ta:TE}
theorem pcl (c:Cal X.prog X.w X.K X.mg X.base CX k x ps sp) (hr:gU k X.A) (hg:Gl X x) (hx:mW CX X E) (ha:PA X (e::es) t) (hdb:(x == ("__debug__":bD))=false:=by decide) (he:bu (e::es) X.env=(false,eJ e X.env)::bu es X.env:=by rfl) (hpl:(fS pos (bu es X.env)).any (·.1)=false:=by rfl) :
  PE X (.Call (.Name x p) (e::es) [] pos) (cR sp [] E t):=R6 c.G hr hg c.m c.kp c.b .nil hx ha hdb he hpl
theorem pcm (c:V7 X.prog X.w X.K X.mg X.base CX k C x ps sp) (cl:CU X.K C) (hr:gU k X.A) (he:PE X o ta) (hx:mW CX X E) (ha:PA X (e::es) t)
  (hst:bu (e::es) X.env=(false,eJ e X.env)::bu es X.env:=by rfl) (hpl:(fS pos (bu es X.env)).any (·.1)=false:=by rfl)
  (ht:eJ (.Call (.Attribute o x apos) (e::es) [] pos) X.env=(do
   let ov ← eJ o X.env
   qb apos.atName
   let (f,first) ← jC [ov] (vC ov x pl)
   N4 pos f first (fS pos (bu (e::es) X.env)) (Ad pos (oA [] X.env))):=by rfl) :
  PE X (.Call (.Attribute o x apos) (e::es) [] pos) (fc C x sp [] E ta t):=R9 he cl c.m c.G hr c.b .nil hx ha hst hpl ht
theorem pcm0 (c:V7 X.prog X.w X.K X.mg X.base CX k C x ps sp) (cl:CU X.K C) (hr:gU k X.A) (he:PE X o ta) (hx:mW CX X E)
  (ht:eJ (.Call (.Attribute o x apos) [] [] pos) X.env=(do
   let ov ← eJ o X.env
   qb apos.atName
   let (f,first) ← jC [ov] (vC ov x pl)
   N4 pos f first (fS pos (bu [] X.env)) (Ad pos (oA [] X.env))):=by rfl) :
  PE X (.Call (.Attribute o x apos) [] [] pos) (fc C x sp [] E ta aY):=OS he cl c.m c.G hr c.b .nil hx ht
end
end L2
namespace L2
open PySem.W
variable {m:List Bool}{xs:List V}{ks:List Int}
def gW:List Int->List Int->Bool
 | [],[]=>false
 | [],_::_=>true
 | _::_,[]=>false
 | x::xs,y::ys=>if x=y then gW xs ys else decide (x<y)
theorem tu:∀ x:List Int,gW x x=false
 | []=>rfl
 | x::xs=>by unfold gW;rw [if_pos rfl];exact tu xs
theorem Ba:∀ {x y:List Int},gW x y=false->gW y x=true\/x=y
 | [],[],_=>.inr rfl
 | [],_::_,h=>by unfold gW at h;cases h
 | _::_,[],_=>.inl (by unfold gW;rfl)
 | x::xs,y::ys,h=>by
  unfold gW at h ⊢
  by_cases e:x=y
  .subst e;rw [if_pos rfl] at h ⊢
   rcases Ba h with q|q
   .exact .inl q
   .exact .inr (by rw [q])
  .rw [if_neg e] at h;rw [if_neg (Ne.symm e)];exact .inl (by have:=of_decide_eq_false h;exact decide_eq_true (by lia))
theorem vf:∀ {x y z:List Int},gW x y=true->gW y z=true->gW x z=true
 | [],[],_,h,_=>by unfold gW at h;cases h
 | [],_::_,[],_,h=>by unfold gW at h;cases h
 | [],_::_,_::_,_,_=>by unfold gW;rfl
 | _::_,[],_,h,_=>by unfold gW at h;cases h
 | _::_,_::_,[],_,h=>by unfold gW at h;cases h
 | x::xs,y::ys,z::zs,h,h'=>by
  unfold gW at h h' ⊢
  by_cases e:x=y
  .subst e;rw [if_pos rfl] at h
   by_cases e':x=z
   .rw [if_pos e'] at h' ⊢;exact vf h h'
   .rw [if_neg e'] at h' ⊢;exact h'
  .rw [if_neg e] at h;have h1:=of_decide_eq_true h
   by_cases e':y=z
   .subst e';rw [if_neg e];exact h
   .rw [if_neg e'] at h';have h2:=of_decide_eq_true h';rw [if_neg (by lia)];exact decide_eq_true (by lia)
def EL (ts:List (List Int)) (t:List Int):Int:=(ts.countP λu=>gW u t:Nat)
theorem v5 {ts:List (List Int)}{t u:List Int}(ht:t∈ts):decide (EL ts t<EL ts u)=gW t u:=by
 unfold EL
 cases q:gW t u with
 | true =>
  have:=Ia (l:=ts) (p:=λv=>gW v t) (q:=λv=>gW v u) (x:=t) (λy _ h=>vf h q) ht (tu t) q
  exact decide_eq_true (by lia)
 | false =>
  have:ts.countP (λv=>gW v u)<=ts.countP λv=>gW v t:=N9 λv _ h=>by
   rcases Ba q with e|e
   .exact vf h e
   .rw [e];exact h
  exact decide_eq_false (by lia)
inductive Flat:List Bool->List V->List Int->Prop
 | nil:Flat [] [] []
 | int (i:Int) {m:List Bool}{xs:List V}{ks:List Int}:Flat m xs ks->Flat (false::m) (.int i::xs) (i::ks)
 | bl (b:Bool) {m:List Bool}{xs:List V}{ks:List Int}:Flat m xs ks->Flat (true::m) (.bl b::xs) (b2i b::ks)
theorem Flat.length (h:Flat m xs ks):xs.length=m.length:=by
 induction h with
 | nil=>rfl
 | int _ _ ih=>simp [ih]
 | bl _ _ ih=>simp [ih]
section
variable {prog:bB}{w:ck}{A:cM}{s:ax}{b:Bool}{Q:Bool->ax->Prop}
theorem PH (fx:Flat m xs ks):∀ {ys:List V}{ls:List Int}{us ws:List aj}{i:Nat},Flat m ys ls->Vals xs us->Vals ys ws->(b && i == 0)=false->Q (gW ks ls) s ->
  KatLex prog w A b false Q (us.zip ws) i s:=by
 induction fx with
 | nil =>
  intro ys ls us ws i fy rx ry hi q;cases fy;cases rx;cases ry;unfold gW at q
  exact kat_nil q
 | int a _ ih =>
  intro ys ls us ws i fy rx ry hi q
  cases fy with
  | int c fy =>
   cases rx with
   | cons r1 rx =>
    cases ry with
    | cons r2 ry =>
     obtain ⟨t,rfl⟩:=r1;obtain ⟨u,rfl⟩:=r2;rw [jf];refine G5 (iL a t c u _ _ _ _ ?_);unfold gW at q
     by_cases e:a=c
     .rw [if_pos e] at q;rw [show (a == c)=true by simpa using e];exact G6 (ih fy rx ry (by simp) q)
     .rw [if_neg e] at q;rw [show (a == c)=false by simpa using e];refine kat_no ?_;rw [hi]
      exact kat_one _ _ (RA q)
 | bl a _ ih =>
  intro ys ls us ws i fy rx ry hi q
  cases fy with
  | bl c fy =>
   cases rx with
   | cons r1 rx =>
    cases ry with
    | cons r2 ry =>
     cases r1;cases r2;rw [jf];refine G5 (SeqAt.EqAt.bool_bool a c _ _ _ _ ?_);unfold gW at q
     by_cases e:a=c
     .rw [if_pos (by rw [e])] at q;rw [show (a == c)=true by simpa using e];exact G6 (ih fy rx ry (by simp) q)
     .rw [if_neg (by cases a<;>cases c<;>first|exact absurd rfl e|decide)] at q;rw [show (a == c)=false by simpa using e];refine kat_no ?_;rw [hi];exact kat_one _ _ (lt_bool q)
theorem Ml {x y:ag}{ys:List V}{ls:List Int}{us ws:List aj}{E:aj->ax->Prop}(fx:Flat (false::m) xs ks) (fy:Flat (false::m) ys ls) (rx:Vals xs us) (ry:Vals ys ws)
  (hx:oz s.heap x us.toArray) (hy:oz s.heap y ws.toArray) (h:Q (gW ks ls) s):aK (aL prog w) A (keyLt' (TR true) (.ref x) (.ref y)) Q E s:=by
 obtain ⟨ox,ex,cx,nx,dx⟩:=hx;obtain ⟨oy,ey,cy,ny,dy⟩:=hy
 have l1:us.length=ws.length:=by rw [← rx.length,← ry.length,fx.length,fy.length]
 refine kat_lt ex dx ey dy ?_;rw [show decide (us.toArray.size<ws.toArray.size)=false by simp [l1]]
 cases fx with
 | int a fx =>
  cases fy with
  | int c fy =>
   cases rx with
   | cons r1 rx =>
    cases ry with
    | cons r2 ry =>
     obtain ⟨t,rfl⟩:=r1;obtain ⟨u,rfl⟩:=r2
     show KatLex _ _ _ _ _ _ (List.zip (_::_) (_::_)) 0 s
     rw [jf];refine G5 (iL a t c u _ _ _ _ ?_);unfold gW at h
     by_cases e:a=c
     .rw [if_pos e] at h;rw [show (a == c)=true by simpa using e];exact G6 (PH fx fy rx ry (by simp) h)
     .rw [if_neg e] at h;rw [show (a == c)=false by simpa using e];exact kat_no (oneLt_int h)
end
abbrev Zn:=List Int×ag
def kb (z:Zn):V:=.ref z.2
def PJ (m:List Bool) (H:Hp) (z:Zn):Prop:=∃ xs,H z.2=some (.tup xs)/\Flat (false::m) xs z.1
theorem v7:∀ {zs:List Zn}{us:List aj},Vals (zs.map kb) us->us=zs.map λz=>aB z.2
 | [],_,h=>by cases h;rfl
 | z::zs,_,h=>by
  cases h with
  | cons h1 h2=>cases h1;rw [v7 h2];rfl
theorem pO:∀ zs:List Zn,Vals (zs.map kb) (zs.map λz=>aB z.2)
 | []=>.nil
 | _::zs=>.cons rfl (pO zs)
theorem Mm {h:cK}:∀ {zs:List Zn},(∀ z∈zs,∃ i t us,oz h z.2 (fj i t::us).toArray)->∃ fs,KatTups h (zs.map λz=>aB z.2) fs/\fs.length=zs.length/\∀ v∈fs,∃ i t,v=fj i t
 | [],_=>⟨[],.nil,rfl,λ_ h=>nomatch h⟩
 | z::zs,hz=>by
  obtain ⟨fs,k1,k2,k3⟩:=Mm (zs:=zs) λz' h'=>hz z' (ai _ h');obtain ⟨i,t,us,o,e,c,n,d⟩:=hz z aw;refine ⟨.int i t::fs,WT e c d (by simp) k1,by simp [k2],λv hv=>?_⟩
  rcases au.mp hv with rfl|hv
  .exact ⟨i,t,rfl⟩
  .exact k3 v hv
section
variable {X:Cx}
end
end L2
namespace L2
open PySem.Calls
open PySem.W (kla_fn kla_obj tabObj CodeHd)
variable {prog:bB}{w:ck}{A:cM}{s:ax}{params:nK}{body:Expr}{scope:pH}{pos:sT}
theorem EM {E:aj->ax->Prop}{Q:aj->ax->Prop}{f c':ag}{qual x:bD}{clos:List (bD×ag)}{pm ctv v:aj}
  (hroom:A.depth<qB) (ho:s.heap.get? f=some (xE "<lambda>" qual params body scope clos pm c' ctv)) (hrec:s.heap.CodeRec (.ref c') qual) (hlim:s.heap.NoLimit)
  (hb:Ab (kla_fn "<lambda>" qual params body scope clos pm (.ref c') ctv) ⟨[v],[]⟩=pure [(x,v)])
  (hx:scope.names.lookup x=some .local) (hk:scope.kind=.function) (hco:scope.isCoroutine=false) (hgen:scope.isGenerator=false) (hcell:∀ z∈scope.names,z.2≠.cell)
  (h:∀ (env:He) (h₁:cK) (tk:Nat) (E':aj->ax->Prop),env.scope=scope->env.cells=clos->s.heap.objs.size<=env.locals->h₁.Ns env.locals (λz=>dC z [(x,v)])->(∀ b o,s.heap.get? b=some o->h₁.get? b=some o) ->
   aK (aL prog w) (A.deeper env) (eJ body env) Q E' { s with heap:=h₁,toks:=tk }) :
  aK (aL prog w) A (call (.ref f) [v]) Q E s:=by
 refine N3 (PySem.W.kla_callFunE hroom ho rfl hco hgen rfl hrec ?_);rw [hb];refine ar (WJ hcell (λz hz=>by rw [aC.mp hz];exact hx) (λh₁ hns hsb=>⟨hlim.fresh _ hsb,?_⟩) hk);have hk₁:∀ b o,s.heap.get? b=some o->h₁.get? b=some o:=λb o e=>hsb.extBut b o (a6 (aH e)) (aq _ e);exact PySem.W.kla_codeExpr (h _ h₁ _ _ rfl rfl (ak _) hns hk₁)
def MQ (prog:bB) (w:ck) (A:cM) (env:He) (s:ax) (h:cK) (e:Expr) (i:Int):Prop :=
 ∀ (tk:Nat) (Q:aj->ax->Prop) (E:aj->ax->Prop),(∀ tk' t,Q (.int i t) { s with heap:=h,toks:=tk' })->aK (aL prog w) A (eJ e env) Q E { s with heap:=h,toks:=tk }
section
variable {env:He}{h:cK}{a b:Expr}{i j:Int}
theorem MQ.bin {op:Aa}{r:Int}(ha:MQ prog w A env s h a i) (hb:MQ prog w A env s h b j)
  (ho:∀ (tk:Nat) (t u:TF) (Q:aj->ax->Prop) (E:aj->ax->Prop),(∀ tk' v,Q (.int r v) { s with heap:=h,toks:=tk' })->aK (aL prog w) A (lB op (.int i t) (.int j u)) Q E { s with heap:=h,toks:=tk }) :
  MQ prog w A env s h (.BinOp a op b pos) r:=λtk Q E q=>wpAny_BinOp (ha tk _ _ λ_ _=>hb _ _ _ λ_ _=>ho _ _ _ _ _ q)
theorem MQ.UY {x:bD}{b:ag}{its:Array aj}{k:Nat}{t:TF}{p1 p2:sT}{n:Nat}(hk:env.scope.kind=.function) (hx:env.scope.names.lookup x=some .local) (hn:h.Ns env.locals (λz=>dC z [(x,aB b)]))
  (ht:oz h b its) (hi:its[k]?=some (.int i t)) (hs:its.size<=aU) (hdx:(x == ("__debug__":bD))=false:=by decide):MQ prog w A env s h (.Subscript (.Name x p1) (.Constant (.int k) n p2) pos) i:=by
 intro tk Q E q
 have hlt:k<its.size:=by
  by_cases z:k<its.size
  .exact z
  .rw [gO (by lia)] at hi;cases hi
 have hl:=qM;refine N5 (qz (ke hk hx hn (v:=.ref b) ?_ ?_) hdx)
 .show dC x [(x,aB b)]=_
  rw [cG,beq_self_eq_true]
 refine wpAny_Constant_int ?_;have ht':oz ({ s with heap:=h,toks:=tk }:ax).heap b its:=ht;refine xD (x:=.int i t) (T:="tuple") ?_ slot_tuple_getitem.lookup (getItem_tuple (j:=k) (x:=.int i t) (Q:=λr s'=>r=.int i t/\Q r s') ?_ (by lia) (by lia) ?_ hi ⟨rfl,q _ _⟩) (by with_unfolding_all rfl)
 .obtain ⟨o,e,c,r⟩:=ht;exact ⟨o,e,c⟩
 .exact ht
 .unfold seqIndex?
  have h0:¬ ((k:Int)<0):=by lia
  simp only [h0,if_false];simp [hlt]
end
section
variable {X:Cx}{c Pt:ag}{e:Expr}{tx:TA}{x y:bD}{j:Nat}{p0 lpos kpos:sT}{C:Int->Int->Int->Prop}{g:Int->Int->Int->Int}
end
end L2
namespace L2
open PySem.Calls PySem.W
variable {w:ck}{A:cM}{s:ax}{prog:bB}{E:aj->ax->Prop}{h₀:cK} {m:bD->Option aj}{km:List (ag×jk)}{H:Hp}{f:aj}{e1:Nat}{zs:List Zn}
theorem Mn:∀ x y:List Int,gW x y=HT.lexLt x y
 | [],[]=>rfl
 | [],_::_=>rfl
 | _::_,[]=>rfl
 | x::xs,y::ys=>by unfold gW;rw [HT.AQ,Mn xs ys]
def Io (z:Zn) (t:TF):jk:=b8 "tuple" #[.int (z.1.headD 0) t,.ref z.2] 0
section
variable {Q:Bool->ax->Prop}
theorem SJ {k1 k2 b1 b2:ag}{w1 w2 x1 y1 x2 y2:Int}{t1 t2 ta tb tc td:TF}(hx:oz s.heap k1 #[.int w1 t1,.ref b1]) (hy:oz s.heap k2 #[.int w2 t2,.ref b2])
  (hb1:oz s.heap b1 #[.int x1 ta,.int y1 tb]) (hb2:oz s.heap b2 #[.int x2 tc,.int y2 td]) (hu:A.units<gY) (h:Q (gW [w1,x1,y1] [w2,x2,y2]) s):aK (aL prog w) A (keyLt' (TR true) (.ref k1) (.ref k2)) Q E s:=by
 obtain ⟨ox,ex,cx,nx,dx⟩:=hx;obtain ⟨oy,ey,cy,ny,dy⟩:=hy;refine kat_lt ex dx ey dy ?_;have ez:(#[fj w1 t1,aB b1].toList.zip #[fj w2 t2,aB b2].toList)=[(.int w1 t1,.int w2 t2),(.ref b1,.ref b2)]:=rfl;rw [ez];refine G5 (iL w1 t1 w2 t2 _ _ _ _ ?_);unfold gW at h
 by_cases e:w1=w2
 .rw [if_pos e] at h;rw [show (w1 == w2)=true by simpa using e]
  by_cases eb:b1=b2
  .subst eb;refine G6 (G5 (SeqAt.EqAt.same _ _ _ _ _ (G6 (kat_nil ?_))))
   have:x1=x2/\y1=y2:=by
    obtain ⟨o,e1,_,n,d1⟩:=hb1;obtain ⟨o',e2,_,n',d2⟩:=hb2;rw [e1] at e2;cases e2;rw [d1] at d2;simp at d2;exact ⟨d2.1.1.1,d2.1.2.1⟩
   rw [this.1,this.2,tu] at h;exact h
  .have rc:SeqAt.RcAt A s (.ref b1) (.ref b2) ((hV (min 2 2)).all (λj=>if j=0 then x1 == x2 else y1 == y2) && (2 == 2)):=SeqAt.RcAt.tuples (items:=#[.int x1 ta,.int y1 tb]) (items2:=#[.int x2 tc,.int y2 td]) hb1 hb2 hu λj h1 h2=>by
    match j,h1,h2 with
    | 0,_,_=>exact iL x1 ta x2 tc
    | 1,_,_=>exact iL y1 tb y2 td
    | j+2,h1,_=>exact absurd h1 (by simp)
   have er:((hV (min 2 2)).all (λj=>if j=0 then x1 == x2 else y1 == y2) && (2 == 2))=(x1 == x2 && y1 == y2):=by
    show ([0,1].all _ && true)=_
    simp
   rw [er] at rc;refine G6 (G5 (SeqAt.EqAt.of_refs eb rc _ _ _ _ ?_))
   by_cases c1:x1=x2/\y1=y2
   .rw [show (x1 == x2 && y1 == y2)=true by simp [c1]];refine G6 (kat_nil ?_);rw [c1.1,c1.2,tu] at h;exact h
   .rw [show (x1 == x2 && y1 == y2)=false by
     cases q:(x1 == x2 && y1 == y2) with
     | false=>rfl
     | true=>simp at q;exact absurd q c1]
    refine kat_no (kat_one _ _ (HT.Ku hb1 hb2 (.cons _ _ (.cons _ _ .nil)) (.cons _ _ (.cons _ _ .nil)) hu ?_));rw [Mn] at h;exact h
 .rw [if_neg e] at h;rw [show (w1 == w2)=false by simpa using e];exact kat_no (oneLt_int h)
end
section
variable {P:bB}{env:He}{h:cK}
theorem PK {x y:bD}{b d cl:ag}{wt:Int}{tk:Nat}{p1 p2 p3 p4 p5:sT}{x1} {Q:aj->ax->Prop}(eY:qx P w H h) (hk:env.scope.kind=.function) (hx:env.scope.names.lookup x=some .local) (hy:env.scope.names.lookup y=some .free) (hn:h.Ns env.locals (λz=>dC z [(x,aB b)]))
  (hcl:env.cells.lookup y=some cl) (hcv:h.IsCell cl (some (.ref d))) {JU:List (List gG×V)}{k:List gG}(hd:H d=some (.dT JU)) (hb:H b=some (.tup (k.map kV))) (hv:jb JU k=some (.int wt)) (hu:A.units+64<gY)
  (q:∀ t tk',Q (.ref h.objs.size) { s with heap:=h.push (b8 "tuple" #[.int wt t,.ref b] 0),toks:=tk' })
  (hdx:(x == ("__debug__":bD))=false:=by decide) (hdy:(y == ("__debug__":bD))=false:=by decide) (hdc:(y == ("__classdict__":bD))=false:=by decide) :
  aK (aL P w) A (eJ (.Tuple [.Subscript (.Name y p1) (.Name x p2) p3,.Name x p4] x1 p5) env) Q E { s with heap:=h,toks:=tk }:=by
 have lx:dC x [(x,aB b)]=some (aB b):=by rw [cG,beq_self_eq_true]
 refine CM (gZ (N5 (qz (Xe hk hy hcl (v:=.ref d) hcv ?_ hdc) hdy)));refine qz (ke hk hx hn (v:=.ref b) lx ?_) hdx;obtain ⟨z,hm,xs,rel,dd⟩:=EC eY (.inl hd);obtain ⟨w',hw,rw'⟩:=sS.some_of (v:=V.int wt) (o:=(GW xs k).map (·.2)) (by rw [← hv];exact rel.val k);obtain ⟨t,rfl⟩:=rw';obtain ⟨p,hp,hp2⟩:=br.mp hw
 have ty:({ s with heap:=h,toks:=tk }:ax).TypeIs (.ref d) "dict":=by
  obtain ⟨o,es,ep,e1,e2,_⟩:=dd;exact ⟨o,e1,e2.1⟩
 refine tail_any ty Fg.lookup (wpAny_getItem_heap (jD (by lia)) (qR eY hb) dd hp ?_) rfl;rw [hp2];refine gZ (qz (ke hk hx hn (v:=.ref b) lx (lC ⟨?_,q t _⟩)) hdx);exact bq (m:=2) (ak 2)
end
theorem yR {α β:Type} {R:α->β->Prop}{a:α}{b:β}(r:R a b):∀ {xs:List α}{ys:List β},Paired R xs ys->Paired R (xs++[a]) (ys++[b])
 | _,_,.nil=>.cons r .nil
 | _,_,.cons h t=>.cons h (yR r t)
theorem vg {α β:Type} {R:α->β->Prop}:∀ {xs:List α}{ys:List β},Paired R xs ys->ys.length=xs.length
 | _,_,.nil=>rfl
 | _,_,.cons _ t=>by simp [vg t]
theorem Kz {α β:Type} {R:α->β->Prop}{xs:List α}{ys:List β}(p:Paired R xs ys):∀ (i:Nat) (a:α),xs[i]?=some a->∃ b,ys[i]?=some b/\R a b:=by
 induction p with
 | nil=>intro i a h;simp at h
 | cons r _ ih =>
  intro i a h
  cases i with
  | zero=>simp at h;subst h;exact ⟨_,rfl,r⟩
  | succ i=>simpa using ih i a (by simpa using h)
section
variable {L a kS:ag}{Fin:List aj->Nat->ax->Prop}
end
section
variable {L a kS:ag}{own:List (ag×jk)}{e:Nat}{ks:List ag}{Post:ax->Prop}
end
section
variable {L a:ag}{n:Nat}{vs:List aj}{P:Kd->ax->Prop}
end
theorem Ip {JU:List (List gG×V)}{g:Int->Int->Int}:∀ {kvs:List (List gG×V)}{xs:List (List gG×ag×aj)},Paired (λ(p:List gG×V) (q:List gG×ag×aj)=>p.1=q.1/\H q.2.1=some (.tup (p.1.map kV))/\RelV p.2 q.2.2) kvs xs ->
  (∀ p∈kvs,∃ x y:Int,p.1=[bP x,bP y]/\jb JU p.1=some (.int (g x y)))->∃ zs:List Zn,xs.map (λq=>aB q.2.1)=(zs.map λz=>aB z.2)/\(∀ z∈zs,∃ x y,z.1=[g x y,x,y]/\H z.2=some (.tup [.int x,.int y])/\jb JU [bP x,bP y]=some (.int (g x y))) /\
   kvs.map (·.1)=zs.map λz=>([bP (z.1.getD 1 0),bP (z.1.getD 2 0)]:List gG)
 | _,_,.nil,_=>⟨[],rfl,(λz hz=>nomatch hz),rfl⟩
 | _,_,.cons (a:=p) (b:=q) r t,hp=>by
  obtain ⟨zs,e1,e2,e3⟩:=Ip t λp' hp'=>hp p' (ai _ hp');obtain ⟨x,y,exy,ew⟩:=hp _ aw;refine ⟨([g x y,x,y],q.2.1)::zs,by simp [e1],λz hz=>?_,by simp [exy,e3]⟩
  rcases au.mp hz with rfl|hz
  .have:=r.2.1;rw [exy] at this;rw [exy] at ew;exact ⟨x,y,rfl,this,ew⟩
  .exact e2 z hz
section
variable {X:Cx}{c Pt:ag}{e:Expr}{tx:TA}{x y:bD}{j:Nat}{params:nK}{scope:pH}{p0 p1 p2 p3 p4 p5 lpos kpos pos:sT}{x1:Nat}
end
end L2
namespace L2
open PySem.Calls
theorem gU.JR {k:Nat}{A:cM}(r:gU k A):A.units+128<gY:=by have:=r.un;lia
structure X2 (P:bB) (w:ck) (K:aa) (mg:bD->Option aj) (base:cK) (CX:HE) (k:Nat) (B:ag) (x:bD) (ps:List bD) (sp:Sp) where
 f:ag
 d:fz
 G:kF P w K mg base CX k f d ps sp
 mc:aj
 ga:yJ K (.ref B) "__getattribute__"=some (some (.builtin "type.__getattribute__"))
 rd:RJ K B mc=true
 at_:RK K (.ref B) mc x=some (.val (.ref f))
 kp:dN K (.ref f)=true
 b:Binds K d ps []
section
variable {X:Cx}{CX:HE}{k:Nat}{B:ag}{x:bD}{ps:List bD}{sp:Sp}{o e:Expr}{es:List Expr}{t:TA}{E:XK}{apos pos:sT}
theorem pcb {pl:Xb Bool}(c:X2 X.prog X.w X.K X.mg X.base CX k B x ps sp) (hr:gU k X.A) (he:PE X o (tC (.ref B))) (hx:mW CX X E) (ha:PA X (e::es) t)
  (hst:bu (e::es) X.env=(false,eJ e X.env)::bu es X.env:=by rfl) (hpl:(fS pos (bu es X.env)).any (·.1)=false:=by rfl)
  (ht:eJ (.Call (.Attribute o x apos) (e::es) [] pos) X.env=(do
   let ov ← eJ o X.env
   qb apos.atName
   let (f,first) ← jC [ov] (vC ov x pl)
   N4 pos f first (fS pos (bu (e::es) X.env)) (Ad pos (oA [] X.env))):=by rfl) :
  PE X (.Call (.Attribute o x apos) (e::es) [] pos) (cR sp [] E t):=by
 intro pins s Z H Q I h;refine sU (pl:=pl) (gR (he pins s Z H (λv H1=>v=.ref B/\H1=H) I ⟨rfl,rfl⟩) λu s1 ⟨xv,H1,I1,rx,ex,eH⟩=>?_) ht;subst ex eH;obtain rfl:u=aB B:=rx;refine PySem.W.method_cls I1.xJ c.ga (PySem.W.cls_value I1.xJ c.rd c.at_ rfl ?_);refine nJ (first:=[]) (h₀:=X.base) I.ok.mod.Xa c.kp (gR (ha pos pins _ Z H1 _ (I1.tok _) h) λus s2 ⟨vs,H2,I2,r,q2⟩=>⟨I2.xJ,?_⟩) hst hpl;exact Fz (us:=us) (vs:=vs) c.G hr c.b .nil hx I2 r q2
end
section
variable {X:Cx}{x:Expr}{t:TA}{p1 p2 q1 q2:sT}
end
end L2
namespace L2
open PySem.Calls
open PySem.W (tabObj CodeHd noTabs tabIn)
variable {Ps:List (ag×ag)}{x:bD}
theorem ND {P:bB}{w:ck}{K:aa}{mg mb:bD->Option aj}{k:Nat}{fa a:ag}{fd:fz}{sp:Sp}{s₁:ax} {vs:List aj}{ns:List Int}
  (KX:K.In s₁.heap) (hns:s₁.heap.Ns bM mg) (hb:s₁.heap.Ns builtinsNs mb) (hbb:∀ x:bD,x≠"__name__"->mb x=cV x) (hlim:s₁.heap.NoLimit) (hg:s₁.gens=#[])
  (C:∀ p∈Ps,ic s₁.heap p.1 p.2) (hPt0:∀ p∈Ps,s₁.heap.get? p.2=some (JY #[])) (Bm:∀ p∈Ps,s₁.heap.BuiltinsAt mg p.2) (hnt:noTabs K=true)
  (ha:s₁.heap.get? a=some { cls:=.type "list",data:=.seq vs.toArray }) (hi:eN vs ns) (hl:ns.length<=aU) (hr:gU k GX)
  (F:∀ base:cK,K.In base->base.Ns bM mg->(∀ p∈Ps,ic base p.1 p.2/\base.BuiltinsAt mg p.2)->kF P w K mg base Hc k fa fd [x] sp) (hbind:∀ (s:ax) (u:aj),GT s fd ⟨[u],[]⟩ [(x,u)])
  (hsp:∀ H:Hp,(∀ p∈Ps,H p.2=some (.tbl #[]))->cL K H a (ns.map V.int)->sp [.ref a] H (λv _=>v=.bl true) λ_ _ _=>False)
  (hCX:∀ H e s',Hc [] H s₁ (λ_ _ _=>False) e s'->False) :
  jS (aL P w) GX (.call (.ref fa) ⟨[.ref a],[]⟩) (λr s'=>r=.ok (.ret (.bool true))/\OldK s₁.heap s'.heap/\s'.os=s₁.os/\xC s'.gens) s₁:=by
 have rv:=xZ hi;have lenV:=hi.length
 have hPt:∀ b,b∈Ps.map (·.2)->s₁.heap.get? b=some (JY #[]):=λb hb=>by
  obtain ⟨p,hp,rfl⟩:=bo.mp hb;exact hPt0 p hp
 have naP:a∉Ps.map (·.2):=λz=>by rw [hPt a z] at ha;cases ha
 have KPt:∀ b,b∈Ps.map (·.2)->K.lookup b=none:=λb hb=>by
  cases q:K.lookup b with
  | none=>rfl
  | some o =>
   have e:=KX b o q;rw [hPt b hb] at e;cases e;have h2:=U3.mp hnt (b,JY #[]) (PySem.W.mem_of_lookupK q);exact absurd (show false=true from h2) bx
 have core:∀ H:Hp,(∀ b,b∈Ps.map (·.2)->H b=some (.tbl #[]))->(∀ b,b∉Ps.map (·.2)->H b=none\/∃ o xs,H b=some (.frz o (.lst xs)))->cL K H a (ns.map V.int)->qx P w H s₁.heap->(∀ b,b∉Ps.map (·.2)->H b≠none->b=a)->(H a≠none->K.lookup a=none) ->
   jS (aL P w) GX (.call (.ref fa) ⟨[.ref a],[]⟩) (λr s'=>r=.ok (.ret (.bool true))/\OldK s₁.heap s'.heap/\s'.os=s₁.os/\xC s'.gens) s₁:=by
  intro H hT hO hS eY hA hK;have base_of:∀ {b:ag}{o:jk},s₁.heap.get? b=some o->H b=none->(AB s₁.heap H).get? b=some o:=λe n=>OE e n
  have noA:∀ {b:ag}{o:jk},s₁.heap.get? b=some o->o.cls≠.type "list"->b∉Ps.map (·.2)->H b=none:=λ{b o} e d hbP=>by
   cases q:H b with
   | none=>rfl
   | some u =>
    have e':b=a:=hA b hbP (by rw [q];simp);subst e';rw [ha] at e;cases e;exact absurd rfl d
  have noD:∀ {b:ag}{o:jk}{es:Array DictEntry}{ep:Nat},s₁.heap.get? b=some o->o.data=.dict es ep->H b=none:=λ{b o es ep} e d=>by
   have hbP:b∉Ps.map (·.2):=λz=>by rw [hPt b z] at e;cases e;cases d
   cases q:H b with
   | none=>rfl
   | some u =>
    have e':b=a:=hA b hbP (by rw [q];simp);subst e';rw [ha] at e;cases e;have d':Data.seq vs.toArray _=Data.dict es ep:=d;cases d'
  have nsK:∀ {b:ag}{m:bD->Option aj},s₁.heap.Ns b m->(AB s₁.heap H).Ns b m:=λ{b m} ⟨o,es,ep,e,d,r⟩=>⟨o,es,ep,base_of e (noD e d),d,r⟩
  have hKb:K.In (AB s₁.heap H):=λb o e=>base_of (KX b o e) (by
   have hbP:b∉Ps.map (·.2):=λz=>by rw [KPt b z] at e;cases e
   cases q:H b with
   | none=>rfl
   | some u =>
    have e':b=a:=hA b hbP (by rw [q];simp);subst e'
    rw [hK (by rw [q];simp)] at e;cases e)
  have hM:Mod K mg (AB s₁.heap H):=⟨hKb,nsK hns,⟨mb,nsK hb,hbb⟩,let ⟨mc,h1,h2⟩:=hlim;⟨mc,nsK h1,h2⟩⟩
  have notab:∀ {b:ag}{o:jk},s₁.heap.get? b=some o->o.cls≠.none->b∉Ps.map (·.2):=λ{b o} e d z=>by rw [hPt b z] at e;cases e;exact d rfl
  have hCB:∀ p∈Ps,ic (AB s₁.heap H) p.1 p.2/\(AB s₁.heap H).BuiltinsAt mg p.2:=λp hp=>by
   refine ⟨?_,?_⟩
   .obtain ⟨o,vs',file,tf,flags,tg,inF,text,tt,e1,r1,r2,r3,r4,r5,r6,r7,r8,hne⟩:=C p hp;exact ⟨o,vs',file,tf,flags,tg,inF,text,tt,base_of e1 (noA e1 (by rw [r1];decide) (notab e1 (by rw [r1];decide))),r1,r2,r3,r4,r5,r6,r7,r8,hne⟩
   .obtain ⟨bm,o,b1,b2,b3,b4,b5,b6,b7⟩:=Bm p hp;exact ⟨bm,o,b1,b2,b3,b4,base_of b5 (noA b5 (by rw [b6];decide) (notab b5 (by rw [b6];decide))),b6,b7⟩
  have e0:Lz P w K mg (AB s₁.heap H) GX [] s₁ H:=⟨rfl,hM,λb o e=>RL e,jW (M4 _ _),trivial,λb hb=>absurd (show b∈([]:List ag) from hb) (by simp),eY,.of_eq hg⟩
  refine mJ ((F _ hKb (nsK hns) hCB).run GX [] s₁ H ⟨[.ref a],[]⟩ [.ref a] [.ref a] _ _ hr e0 (hbind s₁ (.ref a)) (.cons rfl .nil) (hsp H (λp hp=>hT p.2 (aX hp)) hS)) λr s' h=>?_
  cases r with
  | error e=>exact (hCX H e s' h).elim
  | ok fl =>
   cases fl with
   | next=>exact gX h
   | brk=>exact gX h
   | cont=>exact gX h
   | ret u =>
    obtain ⟨v,H',os,bare,un,hok',r',q⟩:=h;have q':v=.bl true:=q;subst q';obtain rfl:u=ow true:=r'
    have keep:∀ b o,b∉Ps.map (·.2)->s₁.heap.get? b=some o->s'.heap.get? b=some o:=λb o hbP e=>by
     cases q:H b with
     | none=>exact un.keep b o e q (by intro z;exact absurd (show b∈([]:List ag) from z) (by simp)) (by simp)
     | some u =>
      rcases hO b hbP with z|⟨ob,xs,z⟩
      .rw [q] at z;cases z
      .have z2:=un.CG b ob _ z;obtain ⟨e1,_⟩:=eY b _ z;obtain ⟨e2,_⟩:=hok' b _ z2;rw [e] at e1;cases e1;exact e2
    have hmore:∀ b,b∈Ps.map (·.2)->∃ more,s'.heap.get? b=some (JY (#[]++more)):=λb hb=>by
     obtain ⟨more,hm⟩:=un.CI b _ (hT b hb);exact ⟨more,hok' b _ hm⟩
    refine ⟨rfl,⟨λb o e=>?_,λb o e=>?_⟩,os,bare⟩
    .by_cases hbP:b∈Ps.map (·.2)
     .obtain ⟨more,hP'⟩:=hmore b hbP;obtain ⟨p,hp,rfl⟩:=bo.mp hbP;rw [hPt0 p hp] at e;cases e;exact .inr (.inl ⟨((C p hp).tab (hPt0 p hp)).isCodeTable,rfl,#[],more,rfl,hP'⟩)
     .exact .inl (keep b o hbP e)
    .by_cases hbP:b∈Ps.map (·.2)
     .obtain ⟨more,hP'⟩:=hmore b hbP;exact ⟨_,hP'⟩
     .exact ⟨o,keep b o hbP e⟩
 cases hk:K.lookup a with
 | some o =>
  have e:=KX a o hk;rw [ha] at e;cases e;refine core (λb=>if b∈Ps.map (·.2) then some (.tbl #[]) else none) (λb hb=>if_pos hb) (λb hb=>.inl (if_neg hb)) (.inr ⟨_,vs.toArray,_,hk,rfl,rfl,rfl,by rw [aI,lenV];exact hl,by simpa using rv⟩) (λb u z=>?_) (λb hb z=>absurd (if_neg hb) z) λz=>absurd (if_neg naP) z
  by_cases hb:b∈Ps.map (·.2)
  .have z':=(if_pos hb).symm.trans z;cases z';exact hPt b hb
  .have z':=(if_neg hb).symm.trans z
   cases z'
 | none =>
  refine core (λb=>if b∈Ps.map (·.2) then some (.tbl #[]) else if b=a then some (.frz { cls:=.type "list",data:=.seq vs.toArray } (.lst (ns.map V.int))) else none) (λb hb=>if_pos hb) (λb hb=>?_) (.inl (.inr ⟨{ cls:=.type "list",data:=.seq vs.toArray },(if_neg naP).trans (if_pos rfl)⟩)) (λb u z=>?_) (λb hb z=>?_) λ_=>hk
  .by_cases hba:b=a
   .exact .inr ⟨_,_,(if_neg hb).trans (if_pos hba)⟩
   .exact .inl ((if_neg hb).trans (if_neg hba))
  .by_cases hb:b∈Ps.map (·.2)
   .have z':=(if_pos hb).symm.trans z;cases z';exact hPt b hb
   .have z0:=(if_neg hb).symm.trans z
    by_cases hba:b=a
    .have z':=(if_pos hba).symm.trans z0;cases z';subst hba;exact ⟨ha,by rw [af];exact hl,vs,_,rv,ha⟩
    .have z':=(if_neg hba).symm.trans z0;cases z'
  .by_cases hba:b=a
   .exact hba
   .exact absurd ((if_neg hb).trans (if_neg hba)) z
theorem PL {l:qt}{n k:Nat}{q:bB}{loose:List bD}{XP:(bD->Option aj)->cK->Prop}{YP:ck->cK->Prop}{d:DefRec}{K:Params->aa}{sp:ck->Sp}
  (hn:l.most=some n) (hn2:n<=aU) (hdf:d.params.defaults=[]) (hr:gU k GX)
  (hY:∀ (w:ck) (h:cK),YP w h->(K w.params).In h)
  (htab:∀ p∈Ps,∃ (y:bD) (dy:DefRec),(recsOf q).find? (λe=>e.name == y)=some dy/\∀ w:ck,Rt (K w.params) y=some p) (hnt:∀ w:ck,noTabs (K w.params)=true)
  (F:∀ (w:ck) (mg:bD->Option aj) (fa:ag) (h:cK),(K w.params).In h->h.Ns bM mg->mg d.name=some (.ref fa) ->
   ∃ fd:fz,(∀ (s:ax) (u:aj),GT s fd ⟨[u],[]⟩ [(x,u)]) /\
    ∀ base:cK,(K w.params).In base->base.Ns bM mg->(∀ p∈Ps,ic base p.1 p.2/\base.BuiltinsAt mg p.2)->kF l.prog w (K w.params) mg base Hc k fa fd [x] (sp w))
  (hsp:∀ (w:ck) (H:Hp) (a:ag) (ns:List Int),ns.length<=n->(∀ p∈Ps,H p.2=some (.tbl #[]))->cL (K w.params) H a (ns.map V.int)->sp w [.ref a] H (λv _=>v=.bl true) λ_ _ _=>False)
  (hCX:∀ (H:Hp) (s:ax) (e:aj) (s':ax),Hc [] H s (λ_ _ _=>False) e s'->False) :
  Rj q loose XP YP l.row.toRowW d [] (λf vs=>Rk f vs):=by
 refine Att.HP hn hdf λw s₀ s₁ mg mb fa o pm cd doc a vs ns G Y ho hd hcd hmg hobj hints hlen hg=>?_;have KX:=hY w _ Y;obtain ⟨fd,hb,hF⟩:=F w mg fa _ KX G.T.g hmg
 have hC:∀ p∈Ps,ic s₁.heap p.1 p.2/\s₁.heap.get? p.2=some (JY #[]):=λp hp=>by
  obtain ⟨y,dy,h1,h2⟩:=htab p hp;exact PySem.W.tab_of G.T KX h1 (h2 w)
 have hgs:=G.T.g;obtain ⟨bm,ob,b1,b2,b3,b4,b5,b6⟩:=G.T.bmain
 have hbG:bm≠bM:=λq=>by
  obtain ⟨o,es,ep,e,hd,_⟩:=hgs;rw [q,e] at b3;cases b3;rw [hd] at b6;cases b6
 refine ND KX G.T.g G.T.b G.T.builtins G.T.nolimit hg (λp hp=>(hC p hp).1) (λp hp=>(hC p hp).2) (λp hp=>⟨bm,ob,b1,b2,hbG,λq=>?_,b3,b4,b5,b6⟩) (hnt w) hobj hints (bA hlen hn2) hr hF hb (λH hT hS=>hsp w H a ns hlen hT hS) λH e s'=>hCX H s₁ e s';have:=(hC p hp).2;rw [← q,b3] at this;cases this;cases b4
end L2
namespace L2
def Iq (K:aa):List V->Hp->VK->Prop:=λxs H Q=>∃ (p:ag) (ns:List Int),xs=[.ref p]/\cL K H p (ns.map V.int)/\Q (.int ns.sum) H
theorem tw {X:Cx}(hc:X.calm=true):k8 X (.builtin "sum") (Iq X.K):=by
 intro pins s Z H xs us Q I r h;obtain ⟨p,ns,rfl,hq,q⟩:=h;obtain ⟨u,rfl,ru⟩:=vals1 r;cases ru;obtain ⟨its,rv,pl,hz⟩:=I.list hq;have hi:eN its ns:=intsAre_of rv;obtain ⟨ys,e⟩:=hi.allInts.items;have hn:=hi.numsOf
 have e':its=(WU ys).toList:=by rw [← e]
 rw [e',nums_intItems] at hn
 have hl:s.heap.IsList p (WU ys):=by rw [← e];exact pl.isList
 subst hn
 refine sum_intListG (I.ok.hd hc) hl λh' tk t' hk=>⟨.int _,H,I.kept hk,⟨t',?_⟩,q⟩
 rw [preSum_eq,bT (by simp)]
end L2
namespace L2
open PySem.W
section
variable {X:Cx}{a:Expr}{ta:TE}
end
end L2
namespace L2
open PySem.Calls PySem.W
section
variable {X:Cx}{c Pt:ag}{e:Expr}{tx:TA}{x y:bD}{j:Nat}{params:nK}{scope:pH}{p0 p1 p2 p3 p4 p5 lpos kpos pos:sT}{x1:Nat}
end
end L2
namespace Sw
section
variable {prog:bB}{w:ck}{A:cM}{E:aj->ax->Prop}{s:ax}
end
end Sw
namespace L2
open PySem.W
section
variable {X:Cx}{x:Expr}{t:TA}{p1 p2 q1 q2:sT}
end
end L2
namespace Sy
open PySem.W
abbrev SM:=StateT dz Xb
def nR:Bool->aT->Array aT->Nat->Nat->Nat->SM (Option Nat):=sortPriv% PySem.Builtin.gallop
abbrev TG:=Option (Option Nat)×Nat×Nat
def Zp (b:Nat->SM (Option Bool)) (g:Nat->Nat) (f:Bool->Bool) (m:Nat) (_:Nat) (z:TG):SM (ForInStep TG) :=
 if z.2.2>=m then pure (.done (none,z.2)) else do
  match ← b (g z.2.2) with
  | some c=>if f c=true then pure (.done (none,z.2)) else pure (.yield (none,z.2.2,2*z.2.2+1))
  | _=>pure (.done (some none,z.2))
def X3 (b:Nat->SM (Option Bool)) (_:Nat) (z:TG):SM (ForInStep TG) :=
 if z.2.1>=z.2.2 then pure (.done (none,z.2)) else do
  match ← b (z.2.1+(z.2.2-z.2.1)/2) with
  | some c=>if c=true then pure (.yield (none,z.2.1+(z.2.2-z.2.1)/2+1,z.2.2)) else pure (.yield (none,z.2.1,z.2.1+(z.2.2-z.2.1)/2))
  | _=>pure (.done (some none,z.2))
def V8 (b:Nat->SM (Option Bool)) (n lo hi:Nat):SM (Option Nat):=do
 let z ← forIn [0:n] ((none,lo,hi):TG) (X3 b)
 (match z.1 with
 | some r=>pure r
 | none=>pure (some z.2.2))
def X4 (b:Nat->SM (Option Bool)) (n h:Nat):SM (Option Nat):=do
 match ← b h with
 | some c=>(if c=true then (do
   let z ← forIn [0:n] ((none,0,1):TG) (Zp b (λo=>h+o) (λc=>!c) (n-h))
   (match z.1 with
   | some r=>pure r
   | none=>V8 b n (h+z.2.1+1) (h+min z.2.2 (n-h))))
  else (do
   let z ← forIn [0:n] ((none,0,1):TG) (Zp b (λo=>h-o) (λc=>c) (h+1))
   (match z.1 with
   | some r=>pure r
   | none=>V8 b n (h+1-min z.2.2 (h+1)) (h-z.2.1))))
 | _=>pure none
def bey (left:Bool) (key:aT) (arr:Array aT) (base i:Nat):SM (Option Bool):=do
 let x ← l8 arr (base+i)
 if left then lt' x key else return (← lt' key x).map (!·)
theorem NF (left:Bool) (key:aT) (arr:Array aT) (base n hint:Nat):nR left key arr base n hint=X4 (bey left key arr base) n hint:=by kernel_rfl
section
variable {M:Model}{A:cM}{E:aj->ax->Prop}{s:ax}{st:dz}{n m h:Nat}{P:Nat->Bool}{b:Nat->SM (Option Bool)}{Q:Option Nat->dz->Prop}
theorem X5 {g:Nat->Nat}{f:Bool->Bool}{Q:TG->dz->Prop}(hb:∀ o (Q:Option Bool->dz->Prop),o<m->Q (some (P (g o))) st->vK M A E s (b (g o)) Q st) (hm:m<=n) (h0:0<m)
  (h:∀ l o,l<o->l<m->(l=0\/f (P (g l))=false)->(o<m->f (P (g o))=true)->Q (none,l,o) st):vK M A E s (forIn [0:n] ((none,0,1):TG) (Zp b g f m)) Q st:=by
 refine fB (I:=λx z st'=>st'=st/\z.1=none/\z.2.1<z.2.2/\z.2.1<m/\(z.2.1=0\/f (P (g z.2.1))=false)/\x<z.2.2) ?_ ?_ ⟨rfl,rfl,by decide,h0,.inl rfl,by decide⟩
 .rintro x ⟨z,l,o⟩ st' _ hx ⟨rfl,rfl,h1,h2,h3,h4⟩;unfold Zp;dsimp only at h1 h2 h3 h4 ⊢
  by_cases c:o>=m
  .rw [if_pos c];exact bf (h l o h1 h2 h3 λq=>absurd q (by lia))
  .rw [if_neg c];refine aR (hb o _ (by lia) ?_);dsimp only
   by_cases d:f (P (g o))=true
   .rw [if_pos d];exact bf (h l o h1 h2 h3 λ_=>d)
   .rw [if_neg d];exact bf ⟨rfl,rfl,by dsimp only;lia,by dsimp only;lia,.inr (by simpa using d),by dsimp only;lia⟩
 .rintro ⟨z,l,o⟩ st' ⟨rfl,rfl,h1,h2,h3,h4⟩;exact h l o h1 h2 h3 λq=>absurd q (by dsimp only at h4;lia)
theorem Ul {lo hi:Nat}(hb:∀ i (Q:Option Bool->dz->Prop),i<n->Q (some (P i)) st->vK M A E s (b i) Q st) (hP:∀ i j,i<=j->j<n->P j=true->P i=true)
  (h:∀ k,k<=n->(∀ i,i<k->P i=true)->(∀ i,k<=i->i<n->P i=false)->Q (some k) st) (h1:lo<=hi) (h2:hi<=n) (h3:lo=0\/P (lo-1)=true) (h4:hi<n->P hi=false):vK M A E s (V8 b n lo hi) Q st:=by
 have fin:∀ l r,l<=r->r<=n->(l=0\/P (l-1)=true)->(r<n->P r=false)->r<=l->Q (some r) st:=λl r a1 a2 a3 a4 a5=>h r a2 (λi hi=>a3.elim (λz=>by lia) λz=>hP i _ (by lia) (by lia) z) λi z1 z2=>by
  cases q:P i with
  | false=>rfl
  | true=>have:=hP r i z1 z2 q;rw [a4 (by lia)] at this;cases this
 refine aR (fB (I:=λx z st'=>st'=st/\z.1=none/\z.2.1<=z.2.2/\z.2.2<=n/\(z.2.1=0\/P (z.2.1-1)=true)/\(z.2.2<n->P z.2.2=false)/\z.2.2+x<=z.2.1+n) ?_ ?_ ⟨rfl,rfl,h1,h2,h3,h4,by dsimp only;lia⟩)
 .rintro x ⟨z,l,r⟩ st' _ hx ⟨rfl,rfl,a1,a2,a3,a4,a5⟩;unfold X3;dsimp only at a1 a2 a3 a4 a5 ⊢
  by_cases c:l>=r
  .rw [if_pos c];exact bf (bf (fin l r a1 a2 a3 a4 c))
  .rw [if_neg c];refine aR (hb _ _ (by lia) ?_)
   cases d:P (l+(r-l)/2) with
   | true=>exact bf ⟨rfl,rfl,by dsimp only;lia,a2,.inr d,a4,by dsimp only;lia⟩
   | false=>exact bf ⟨rfl,rfl,by dsimp only;lia,by dsimp only;lia,a3,λ_=>d,by dsimp only;lia⟩
 .rintro ⟨z,l,r⟩ st' ⟨rfl,rfl,a1,a2,a3,a4,a5⟩;exact bf (fin l r a1 a2 a3 a4 (by dsimp only at a1 a5;lia))
theorem X6 (hb:∀ i (Q:Option Bool->dz->Prop),i<n->Q (some (P i)) st->vK M A E s (b i) Q st) (hP:∀ i j,i<=j->j<n->P j=true->P i=true) (hh:h<n)
  (hq:∀ k,k<=n->(∀ i,i<k->P i=true)->(∀ i,k<=i->i<n->P i=false)->Q (some k) st):vK M A E s (X4 b n h) Q st:=by
 refine aR (hb h _ hh ?_);dsimp only
 by_cases c:P h=true
 .rw [if_pos c];refine aR (X5 (P:=P) (λo Q ho q=>hb _ Q (by lia) q) (by lia) (by lia) λl o h1 h2 h3 h4=>Ul hb hP hq (by dsimp only;lia) (by dsimp only;lia) (.inr ?_) λz=>?_)
  .rcases h3 with rfl|h3
   .exact c
   .show P (h+l)=true;simpa using h3
  .have e:min o (n-h)=o:=by dsimp only at z;lia
   dsimp only at z ⊢;rw [e] at z ⊢;simpa using h4 (by lia)
 .rw [if_neg c];refine aR (X5 (P:=P) (λo Q ho q=>hb _ Q (by lia) q) (by lia) (by lia) λl o h1 h2 h3 h4=>Ul hb hP hq (by dsimp only;lia) (by dsimp only;lia) ?_ λz=>?_)
  .dsimp only
   by_cases q:o<h+1
   .refine .inr ?_
    have e:h+1-min o (h+1)-1=h-o:=by lia
    rw [e];exact h4 q
   .exact .inl (by lia)
  .rcases h3 with rfl|h3
   .simpa using c
   .exact h3
end
end Sy
namespace Sy
open PySem.W
structure G (r:aT->Int) (all out u v:List aT):Prop where
 pm:(out++(u++v)).Perm all
 so:out.Pairwise λx y=>r x<=r y
 su:u.Pairwise λx y=>r x<=r y
 sv:v.Pairwise λx y=>r x<=r y
 le:∀ x∈out,∀ y∈u++v,r x<=r y
section
variable {r:aT->Int}{all out u v c:List aT}{x:aT}
theorem G.swap (g:G r all out u v):G r all out v u :=
 ⟨(lg _ fE).trans g.pm,g.so,g.sv,g.su,λx hx y hy=>g.le x hx y (by simpa [or_comm] using hy)⟩
theorem G.take (g:G r all out (c++u) v) (h:∀ x∈c,∀ y∈v,r x<=r y):G r all (out++c) u v:=by
 obtain ⟨s1,s2,s3⟩:=gb.mp g.su;refine ⟨by simpa using g.pm,gb.mpr ⟨g.so,s1,λx hx y hy=>g.le x hx y (by simp [hy])⟩,s2,g.sv,λx hx y hy=>?_⟩
 rcases aS.mp hx with hx|hx
 .exact g.le x hx y (by rcases aS.mp hy with z|z<;>simp [z])
 .rcases aS.mp hy with z|z
  .exact s3 x hx y z
  .exact h x hx y z
theorem G.done (g:G r all out u []):G r all (out++u) [] []:=G.take (u:=[]) (by simpa using g) λ_ _ _ z=>nomatch z
theorem G.len (g:G r all out u v):out.length+u.length+v.length=all.length:=by
 have:=g.pm.length_eq;simp at this;lia
end
abbrev S1 (α β γ:Type):=Option (Array aT)×α×β×γ×Nat×Nat
abbrev S2 (α β γ:Type):=Option (Array aT)×α×β×γ×Nat×Nat×Nat
abbrev S0 (α β γ:Type):=Option (Array aT)×α×β×γ×Nat
abbrev T1:=S1 (Array aT) Nat Nat
abbrev T2:=S2 (Array aT) Nat Nat
def PN (g:Nat):SM Unit:=modify λs=>a9 (kindOf s) (mQ s) (cN s) g (iP s)
def rnd {α β γ:Type} (N:Nat) (B:Nat->Nat->S1 α β γ->SM (ForInStep (S1 α β γ))) (g:Nat->S2 α β γ->SM (ForInStep (S2 α β γ))) (_:Nat) (z:S0 α β γ):SM (ForInStep (S0 α β γ)):=do
 let y ← forIn [0:N] ((none,z.2.1,z.2.2.1,z.2.2.2.1,0,0):S1 α β γ) (B z.2.2.2.2)
 (match y.1 with
 | some r=>pure (.done (some r,y.2.1,y.2.2.1,y.2.2.2.1,z.2.2.2.2))
 | none=>do
  liftM (Em "list.sort.gallop")
  let x ← forIn [0:N] ((none,y.2.1,y.2.2.1,y.2.2.2.1,z.2.2.2.2+1,y.2.2.2.2):S2 α β γ) g
  (match x.1 with
  | some r=>pure (.done (some r,x.2.1,x.2.2.1,x.2.2.2.1,x.2.2.2.2.1))
  | none=>do
   PN (x.2.2.2.2.1+1)
   pure (.yield (none,x.2.1,x.2.2.1,x.2.2.2.1,x.2.2.2.2.1+1))))
def mrg {α β γ:Type} (N:Nat) (B:Nat->Nat->S1 α β γ->SM (ForInStep (S1 α β γ))) (g:Nat->S2 α β γ->SM (ForInStep (S2 α β γ))) (x:α) (y:β) (z:γ):SM (Array aT):=do
 let t ← get
 let q ← forIn [0:N] ((none,x,y,z,gallopOf t):S0 α β γ) (rnd N B g)
 (match q.1 with
 | some r=>pure r
 | none=>liftM (unsupported "internal:list.sort.merge-bound"))
def Bb:Array aT->Array aT->SM (Array aT):=sortPriv% PySem.Builtin.mergeLo
section
variable (a b:Array aT)
def dn (o:Array aT) (i j:Nat):Array aT:=o++a.extract i a.size++b.extract j b.size
def lst (o:Array aT) (i j:Nat):Array aT:=o++b.extract j b.size++a.extract i a.size
def loB (mg:Nat) (_:Nat) (z:T1):SM (ForInStep T1):=do
 match ← lt' (← l8 b z.2.2.2.1) (← l8 a z.2.2.1) with
 | some c=>(if c=true then (do
   let o:=z.2.1.push (← l8 b z.2.2.2.1)
   if (z.2.2.2.1+1 == b.size)=true then pure (.done (some (dn a b o z.2.2.1 (z.2.2.2.1+1)),o,z.2.2.1,z.2.2.2.1+1,0,z.2.2.2.2.2+1))
   else if z.2.2.2.2.2+1>=mg then pure (.done (none,o,z.2.2.1,z.2.2.2.1+1,0,z.2.2.2.2.2+1)) else pure (.yield (none,o,z.2.2.1,z.2.2.2.1+1,0,z.2.2.2.2.2+1)))
  else (do
   let o:=z.2.1.push (← l8 a z.2.2.1)
   if (z.2.2.1+1+1 == a.size)=true then pure (.done (some (lst a b o (z.2.2.1+1) z.2.2.2.1),o,z.2.2.1+1,z.2.2.2.1,z.2.2.2.2.1+1,0))
   else if z.2.2.2.2.1+1>=mg then pure (.done (none,o,z.2.2.1+1,z.2.2.2.1,z.2.2.2.2.1+1,0)) else pure (.yield (none,o,z.2.2.1+1,z.2.2.2.1,z.2.2.2.2.1+1,0))))
 | _=>pure (.done (some (dn a b z.2.1 z.2.2.1 z.2.2.2.1),z.2))
def SK (o:Array aT) (i j mg k m:Nat):SM (ForInStep T2):=do
 let o:=o.push (← l8 a i)
 if (i+1+1 == a.size)=true then pure (.done (some (lst a b o (i+1) j),o,i+1,j,mg,k,m))
 else if (decide (k<7) && decide (m<7))=true then pure (.done (none,o,i+1,j,mg,k,m)) else pure (.yield (none,o,i+1,j,mg,k,m))
def SL (o:Array aT) (i j mg k q:Nat):SM (ForInStep T2):=do
 let o:=o.push (← l8 b j)
 if (j+1 == b.size)=true then pure (.done (some (dn a b o i (j+1)),o,i,j+1,mg,k,q))
 else (do
  match ← nR true (← l8 a i) b (j+1) (b.size-(j+1)) 0 with
  | some m=>if m>0 then (if (j+1+m == b.size)=true then pure (.done (some (dn a b (o++b.extract (j+1) (j+1+m)) i (j+1+m)),o++b.extract (j+1) (j+1+m),i,j+1+m,mg,k,m)) else SK a b (o++b.extract (j+1) (j+1+m)) i (j+1+m) mg k m) else SK a b o i (j+1) mg k m
  | _=>pure (.done (some (dn a b o i (j+1)),o,i,j+1,mg,k,q)))
def PP (z:T2) (mg:Nat):SM (ForInStep T2):=do
 PN mg
 match ← nR false (← l8 b z.2.2.2.1) a z.2.2.1 (a.size-z.2.2.1) 0 with
 | some k=>if k>0 then (if (z.2.2.1+k+1 == a.size)=true then pure (.done (some (lst a b (z.2.1++a.extract z.2.2.1 (z.2.2.1+k)) (z.2.2.1+k) z.2.2.2.1),z.2.1++a.extract z.2.2.1 (z.2.2.1+k),z.2.2.1+k,z.2.2.2.1,mg,k,z.2.2.2.2.2.2))
   else if (z.2.2.1+k == a.size)=true then pure (.done (some (dn a b (z.2.1++a.extract z.2.2.1 (z.2.2.1+k)) (z.2.2.1+k) z.2.2.2.1),z.2.1++a.extract z.2.2.1 (z.2.2.1+k),z.2.2.1+k,z.2.2.2.1,mg,k,z.2.2.2.2.2.2))
   else SL a b (z.2.1++a.extract z.2.2.1 (z.2.2.1+k)) (z.2.2.1+k) z.2.2.2.1 mg k z.2.2.2.2.2.2) else SL a b z.2.1 z.2.2.1 z.2.2.2.1 mg k z.2.2.2.2.2.2
 | _=>pure (.done (some (dn a b z.2.1 z.2.2.1 z.2.2.2.1),z.2.1,z.2.2.1,z.2.2.2.1,mg,z.2.2.2.2.2))
def loG (_:Nat) (z:T2):SM (ForInStep T2):=if z.2.2.2.2.1>1 then PP a b z (z.2.2.2.2.1-1) else PP a b z z.2.2.2.2.1
theorem X7:Bb a b=(do
  liftM (Em "list.sort.merge-lo")
  let x ← l8 b 0
  if (1 == b.size)=true then pure (dn a b #[x] 0 1) else if (0+1 == a.size)=true then pure (lst a b #[x] 0 1)
  else mrg (a.size+b.size) (loB a b) (loG a b) #[x] 0 1):=by kernel_rfl
end
end Sy
namespace Sy
open PySem.W
def St (r:aT->Int) (a:Array aT) (i j:Nat):Prop:=∀ t u x y,i<=t->t<=u->u<j->a[t]?=some x->a[u]?=some y->r x<=r y
def Bv (r:aT->Int) (left:Bool) (key x:aT):Bool:=if left=true then decide (r x<r key) else !decide (r key<r x)
def FU (prog:bB) (w:ck) (A:cM) (s:ax) (κ:ji) (D:aT->Prop) (r:aT->Int):Prop :=
 ∀ x y,D x->D y->∀ Q:Bool->ax->Prop,Q (decide (r x<r y)) s->aK (aL prog w) A (keyLt' κ x.1 y.1) Q (λ_ _=>False) s
section
variable {prog:bB}{w:ck}{A:cM}{E:aj->ax->Prop}{s:ax}{κ:ji} {D:aT->Prop}{r:aT->Int}{st:dz}{a b:Array aT}{x y key:aT}{i j n hint:Nat}{left:Bool}
theorem w_lt (hc:FU prog w A s κ D r) (hk:kindOf st=κ) (hx:D x) (hy:D y) {Q:Option Bool->dz->Prop}(h:Q (some (decide (r x<r y))) st):vK (aL prog w) A E s (lt' x y) Q st:=by
 rw [lt'_eq];refine aR (qf ?_);rw [hk];exact aR (G7 (ij (dH (hc x y hx hy (λc s'=>s'=s/\c=decide (r x<r y)) ⟨rfl,rfl⟩) (λc s' q=>⟨q.1,by rw [q.2];exact bf h⟩) λ_ _ q=>q.elim)))
theorem mZ {Q:aT->dz->Prop}(e:a[i]?=some x) (h:Q x st):vK (aL prog w) A E s (l8 a i) Q st:=by rw [elem'_eq,e];exact bf h
theorem oM {Q:Option Nat->dz->Prop}(hc:FU prog w A s κ D r) (hk:kindOf st=κ) (hD:∀ (t:Nat) x,a[t]?=some x->D x) (hy:D key) (hz:i+n<=a.size) (hs:St r a i (i+n)) (hh:hint<n)
  (h:∀ k,k<=n->(∀ t x,i<=t->t<i+k->a[t]?=some x->Bv r left key x=true)->(∀ t x,i+k<=t->t<i+n->a[t]?=some x->Bv r left key x=false)->Q (some k) st):vK (aL prog w) A E s (nR left key a i n hint) Q st:=by
 rw [NF]
 have get:∀ t,t<n->∃ x,a[i+t]?=some x:=λt ht=>⟨a[i+t],by simp⟩
 refine X6 (P:=λt=>((a[i+t]?).map (Bv r left key)).getD false) (λt Q ht q=>?_) (λt u h1 h2 h3=>?_) hh λk h1 h2 h3=>h k h1 (λt x z1 z2 e=>?_) λt x z1 z2 e=>?_
 .obtain ⟨x,e⟩:=get t ht
  have q:Q (some (Bv r left key x)) st:=by simpa [e] using q
  refine aR (mZ e ?_)
  cases left with
  | true=>exact w_lt hc hk (hD _ x e) hy q
  | false=>exact aR (w_lt hc hk hy (hD _ x e) (bf q))
 .obtain ⟨x,e⟩:=get t (by lia);obtain ⟨y,f⟩:=get u h2;have le:=hs _ _ x y (by lia) (show i+t<=i+u by lia) (by lia) e f;simp only [e,f,CV,RE] at h3 ⊢
  cases left with
  | true=>exact decide_eq_true (Int.lt_of_le_of_lt le (of_decide_eq_true h3))
  | false =>
   have h3:(!decide (r key<r y))=true:=h3
   show (!decide (r key<r x))=true
   simp only [Bool.not_eq_true',decide_eq_false_iff_not] at h3 ⊢;lia
 .have:=h2 (t-i) (by lia);rw [show i+(t-i)=t by lia] at this
  simpa [e] using this
 .have:=h3 (t-i) (by lia) (by lia);rw [show i+(t-i)=t by lia] at this
  simpa [e] using this
end
section
variable {a:Array aT}{x:aT}{i j k:Nat}
theorem Mo (a:Array aT) (i k:Nat):a.toList.drop i=(a.extract i (i+k)).toList++a.toList.drop (i+k):=by
 have:=(fD k (a.toList.drop i)).symm
 simpa [Xi] using this
theorem KA (h:x∈a.toList.drop i):∃ t,i<=t/\t<a.size/\a[t]?=some x:=by
 obtain ⟨t,ht,e⟩:=OA.mp h;simp at ht;exact ⟨i+t,by lia,by lia,by rw [List.getElem_drop] at e;rw [← e];simp⟩
theorem x6 (h:x∈(a.extract i j).toList):∃ t,i<=t/\t<j/\t<a.size/\a[t]?=some x:=by
 obtain ⟨t,ht,e⟩:=OA.mp h;simp at ht;exact ⟨i+t,by lia,by lia,by lia,by rw [Array.getElem_toList,Array.getElem_extract] at e;rw [← e];simp⟩
theorem x5 (h:a.size<=i):a.toList.drop i=[]:=List.drop_eq_nil_of_le (by simpa using h)
theorem qW (a:Array aT) (i:Nat):(a.extract i a.size).toList=a.toList.drop i:=by simpa using bT (by simp)
end
end Sy
namespace Sy
open PySem.W
section
variable {prog:bB}{w:ck}{A:cM}{E:aj->ax->Prop}{s:ax}{κ:ji} {D:aT->Prop}{r:aT->Int}{a b:Array aT}{xs o:Array aT}{pd:Array (Nat×Nat×Nat)}{i j k g mg N:Nat}{all:List aT}
def F (r:aT->Int) (all:List aT) (o:Array aT):Prop:=G r all o.toList [] []
def J (r:aT->Int) (all:List aT) (a b o:Array aT) (i j:Nat):Prop:=G r all o.toList (a.toList.drop i) (b.toList.drop j)
def JS (r:aT->Int) (all:List aT) (a b:Array aT) (k:Nat) (z:Option (Array aT)) (o:Array aT) (i j:Nat):Prop :=
 (∀ q,z=some q->F r all q)/\(z=none->J r all a b o i j/\i+1<a.size/\j<b.size/\k<=o.size)
structure GP (r:aT->Int) (D:aT->Prop) (a b:Array aT):Prop where
 da:∀ (t:Nat) x,a[t]?=some x->D x
 db:∀ (t:Nat) x,b[t]?=some x->D x
 sa:St r a 0 a.size
 sb:St r b 0 b.size
 la:∀ (t u:Nat) x y,t+1=a.size->a[t]?=some x->b[u]?=some y->r y<=r x
theorem J.len (g:J r all a b o i j) (hi:i<=a.size) (hj:j<=b.size) (hl:all.length=a.size+b.size):o.size=i+j:=by
 have:=G.len g;simp at this;lia
theorem J.fb (g:J r all a b o i j) (h:j=b.size):F r all (dn a b o i j):=by
 unfold J at g;rw [x5 (a:=b) (jW h.symm)] at g;have:=g.done;unfold F dn;rw [gJ,gJ,qW,qW,x5 (a:=b) (jW h.symm),ua];exact this
theorem J.fa (g:J r all a b o i j) (h:i=a.size):F r all (dn a b o i j):=by
 unfold J at g;rw [x5 (a:=a) (jW h.symm)] at g;have:=g.swap.done;unfold F dn;rw [gJ,gJ,qW,qW,x5 (a:=a) (jW h.symm),ua];exact this
theorem J.fl (g:J r all a b o i j) (T:GP r D a b) (h:i+1=a.size):F r all (lst a b o i j):=by
 have g2:G r all (o.toList++b.toList.drop j) [] (a.toList.drop i):=G.take (by simpa using G.swap g) λy hy x hx=>by
  obtain ⟨t,h1,h2,e⟩:=KA hx;obtain ⟨u,_,_,f⟩:=KA hy;exact T.la t u x y (by lia) e f
 have:=g2.swap.done;unfold F lst;rw [gJ,gJ,qW,qW];exact this
theorem J.ta (g:J r all a b o i j) (h:∀ t x u y,i<=t->t<i+k->a[t]?=some x->j<=u->b[u]?=some y->r x<=r y):J r all a b (o++a.extract i (i+k)) (i+k) j:=by
 unfold J at g ⊢;rw [Mo a i k] at g;rw [gJ]
 exact g.take λx hx y hy=>by
  obtain ⟨t,h1,h2,_,e⟩:=x6 hx;obtain ⟨u,h3,_,f⟩:=KA hy;exact h t x u y h1 h2 e h3 f
theorem J.tb (g:J r all a b o i j) (h:∀ t x u y,j<=t->t<j+k->b[t]?=some x->i<=u->a[u]?=some y->r x<=r y):J r all a b (o++b.extract j (j+k)) i (j+k) :=
 G.swap (J.ta (a:=b) (b:=a) (G.swap g) h)
theorem PQ {x:aT}(e:a[i]?=some x):o.push x=o++a.extract i (i+1):=by
 obtain ⟨h,rfl⟩:=cB.mp e
 apply jQ.mp
 have:=iw (l:=a.toList) (i:=i) (by simpa using h);simp [this]
theorem J.pa {x:aT}(g:J r all a b o i j) (T:GP r D a b) (e:a[i]?=some x) (h:∀ u y,j<=u->b[u]?=some y->r x<=r y):J r all a b (o.push x) (i+1) j:=by
 rw [PQ e]
 exact J.ta g λt z u y h1 h2 f h3 h4=>by
  have:t=i:=by lia
  subst this;rw [e] at f;cases f;exact h u y h3 h4
theorem J.pb {x:aT}(g:J r all a b o i j) (T:GP r D a b) (e:b[j]?=some x) (h:∀ u y,i<=u->a[u]?=some y->r x<=r y):J r all a b (o.push x) i (j+1):=by
 rw [PQ e]
 exact J.tb g λt z u y h1 h2 f h3 h4=>by
  have:t=j:=by lia
  subst this;rw [e] at f;cases f;exact h u y h3 h4
end
end Sy
namespace Sy
open PySem.W
variable {a:Array aT}{i:Nat}
section
variable {prog:bB}{w:ck}{A:cM}{E:aj->ax->Prop}{s:ax}{κ:ji} {D:aT->Prop}{r:aT->Int}{st:dz}{b:Array aT}{xs o:Array aT}{pd:Array (Nat×Nat×Nat)}{j k m q g mg N:Nat}{all:List aT}
def Sm (κ:ji) (xs:Array aT) (pd:Array (Nat×Nat×Nat)) (st:dz):Prop:=∃ g,st=a9 κ xs pd g none
theorem fV (h:i<a.size):∃ x,a[i]?=some x:=⟨a[i],by simp [h]⟩
theorem qX {x:aT}(h:a[i]?=some x):i<a.size:=(cB.mp h).1
theorem JS.told {q:Array aT}(h:F r all q):JS r all a b k (some q) o i j:=⟨λ_ e=>by cases e;exact h,(λe=>nomatch e)⟩
theorem JS.on (h1:J r all a b o i j) (h2:i+1<a.size) (h3:j<b.size) (h4:k<=o.size):JS r all a b k none o i j:=⟨(λ_ e=>nomatch e),λ_=>⟨h1,h2,h3,h4⟩⟩
theorem X8 (hc:FU prog w A s κ D r) (hk:kindOf st=κ) (T:GP r D a b) {Q:T1->dz->Prop}(h1:J r all a b o i j) (h2:i+1<a.size) (h3:j<b.size)
  (h:∀ z,JS r all a b o.size z.1 z.2.1 z.2.2.1 z.2.2.2.1->Q z st):vK (aL prog w) A E s (forIn [0:N] ((none,o,i,j,0,0):T1) (loB a b mg)) Q st:=by
 refine fB (I:=λx z st'=>st'=st/\z.1=none/\J r all a b z.2.1 z.2.2.1 z.2.2.2.1/\z.2.2.1+1<a.size/\z.2.2.2.1<b.size/\o.size<=z.2.1.size) ?_ ?_ ⟨rfl,rfl,h1,h2,h3,ak _⟩
 .rintro x ⟨z,o',i',j',ac,bc⟩ st' _ hx ⟨rfl,rfl,g,g2,g3,g4⟩;dsimp only at g g2 g3 g4;obtain ⟨u,eu⟩:=fV (a:=a) (i:=i') (by lia);obtain ⟨v,ev⟩:=fV g3;unfold loB;refine aR (mZ ev (aR (mZ eu (aR (w_lt hc hk (T.db _ _ ev) (T.da _ _ eu) ?_)))));dsimp only
  have sz:∀ x:aT,o.size<=(o'.push x).size:=λx=>by rw [ir];lia
  by_cases c:r v<r u
  .rw [decide_eq_true c,if_pos rfl];have g5:=g.pb T ev λt y h1 e=>cZ (fZ c) (T.sa _ _ _ _ (aM _) h1 (qX e) eu e);refine aR (mZ ev ?_)
   by_cases e:j'+1=b.size
   .rw [if_pos (by simpa using e)];exact bf (h _ (JS.told (g5.fb e)))
   .rw [if_neg (by simpa using e)]
    by_cases f:bc+1>=mg
    .rw [if_pos f];exact bf (h _ (JS.on g5 g2 (by dsimp only;lia) (sz _)))
    .rw [if_neg f];exact bf ⟨rfl,rfl,g5,g2,by dsimp only;lia,sz _⟩
  .rw [decide_eq_false c,if_neg (by simp)];have g5:=g.pa T eu λt y h1 e=>cZ (pF.mp c) (T.sb _ _ _ _ (aM _) h1 (qX e) ev e);refine aR (mZ eu ?_)
   by_cases e:i'+1+1=a.size
   .rw [if_pos (by simpa using e)];exact bf (h _ (JS.told (g5.fl T e)))
   .rw [if_neg (by simpa using e)]
    by_cases f:ac+1>=mg
    .rw [if_pos f];exact bf (h _ (JS.on g5 (by dsimp only;lia) g3 (sz _)))
    .rw [if_neg f];exact bf ⟨rfl,rfl,g5,by dsimp only;lia,g3,sz _⟩
 .rintro ⟨z,o',i',j',ac,bc⟩ st' ⟨rfl,rfl,g,g2,g3,g4⟩;exact h _ (JS.on g g2 g3 g4)
def Nx (κ:ji) (xs:Array aT) (pd:Array (Nat×Nat×Nat)) (r:aT->Int) (all:List aT) (a b:Array aT) (k:Nat) (x:ForInStep T2) (st':dz):Prop :=
 Sm κ xs pd st'/\match x with
  | .done z=>JS r all a b k z.1 z.2.1 z.2.2.1 z.2.2.2.1
  | .yield z=>z.1=none/\J r all a b z.2.1 z.2.2.1 z.2.2.2.1/\z.2.2.1+1<a.size/\z.2.2.2.1<b.size/\k<=z.2.1.size
theorem Um (T:GP r D a b) (h0:Sm κ xs pd st) (h1:J r all a b o i j) (h2:i+1<a.size) (h3:j<b.size) (h4:k<=o.size+1)
  (h:∀ x,a[i]?=some x->∀ u y,j<=u->b[u]?=some y->r x<=r y):vK (aL prog w) A E s (SK a b o i j mg m q) (Nx κ xs pd r all a b k) st:=by
 obtain ⟨x,e⟩:=fV (a:=a) (i:=i) (by lia);unfold SK;have g:=h1.pa T e (h x e)
 have sz:k<=(o.push x).size:=by rw [ir];lia
 refine aR (mZ e ?_);dsimp only
 by_cases c:i+1+1=a.size
 .rw [if_pos (by simpa using c)];exact bf ⟨h0,JS.told (g.fl T c)⟩
 .rw [if_neg (by simpa using c)]
  split
  .exact bf ⟨h0,JS.on g (by dsimp only;lia) h3 sz⟩
  .exact bf ⟨h0,rfl,g,by dsimp only;lia,h3,sz⟩
theorem Uo (hc:FU prog w A s κ D r) (T:GP r D a b) (h0:Sm κ xs pd st) (h1:J r all a b o i j) (h2:i+1<a.size) (h3:j<b.size) (h4:k<=o.size+2)
  (h:∀ x,b[j]?=some x->∀ u y,i<=u->a[u]?=some y->r x<=r y):vK (aL prog w) A E s (SL a b o i j mg m q) (Nx κ xs pd r all a b k) st:=by
 obtain ⟨x,e⟩:=fV h3;obtain ⟨y,f⟩:=fV (a:=a) (i:=i) (by lia);unfold SL;have g:=h1.pb T e (h x e);refine aR (mZ e ?_);dsimp only
 by_cases c:j+1=b.size
 .rw [if_pos (by simpa using c)];exact bf ⟨h0,JS.told (g.fb c)⟩
 .rw [if_neg (by simpa using c)]
  have hk:kindOf st=κ:=by obtain ⟨_,rfl⟩:=h0;rfl
  refine aR (mZ f (aR (oM hc hk T.db (T.da _ _ f) (by lia) (λt u x y z1 z2 z3=>T.sb t u x y (aM _) z2 (by lia)) (by lia) λn n1 n2 n3=>?_)));dsimp only;have ya:∀ u z,i<=u->a[u]?=some z->r y<=r z:=λu z h1 e=>T.sa _ _ _ _ (aM _) h1 (qX e) f e;have g2:=g.tb (k:=n) λt x u z z1 z2 e1 z3 e2=>cZ (fZ (of_decide_eq_true (n2 t x z1 z2 e1))) (ya u z z3 e2)
  have hb:∀ x,a[i]?=some x->∀ u z,j+1+n<=u->b[u]?=some z->r x<=r z:=λx e1 u z h1 e2=>by
   rw [f] at e1;cases e1;exact pF.mp (of_decide_eq_false (n3 u z h1 (by have:=qX e2;lia) e2))
  have sz:k<=(o.push x).size+1:=by rw [ir];lia
  by_cases d:n>0
  .rw [if_pos d]
   by_cases c2:j+1+n=b.size
   .rw [if_pos (by simpa using c2)];exact bf ⟨h0,JS.told (g2.fb c2)⟩
   .rw [if_neg (by simpa using c2)];exact Um T h0 g2 h2 (by lia) (by rw [pJ];lia) hb
  .rw [if_neg d]
   have:n=0:=by lia
   subst this;exact Um T h0 g h2 (by lia) sz hb
theorem X9 (hc:FU prog w A s κ D r) (T:GP r D a b) (h0:Sm κ xs pd st) {z:T2}(h1:J r all a b z.2.1 z.2.2.1 z.2.2.2.1) (h2:z.2.2.1+1<a.size) (h3:z.2.2.2.1<b.size) (h4:k<=z.2.1.size+1) :
  vK (aL prog w) A E s (PP a b z mg) (Nx κ xs pd r all a b k) st:=by
 obtain ⟨z0,o,i,j,g0,ac,bc⟩:=z;dsimp only at h1 h2 h3 h4;obtain ⟨x,e⟩:=fV h3;unfold PP PN;dsimp only;refine aR (iA ?_)
 have h0':Sm κ xs pd (a9 (kindOf st) (mQ st) (cN st) mg (iP st)):=by obtain ⟨g,rfl⟩:=h0;exact ⟨mg,rfl⟩
 have hk:kindOf (a9 (kindOf st) (mQ st) (cN st) mg (iP st))=κ:=by obtain ⟨_,e⟩:=h0';rw [e]
 generalize a9 (kindOf st) (mQ st) (cN st) mg (iP st)=st1 at h0' hk;refine aR (mZ e (aR (oM hc hk T.da (T.db _ _ e) (by lia) (λt u x y z1 z2 z3=>T.sa t u x y (aM _) z2 (by lia)) (by lia) λn n1 n2 n3=>?_)));dsimp only;have xb:∀ u z,j<=u->b[u]?=some z->r x<=r z:=λu z h1 e1=>T.sb _ _ _ _ (aM _) h1 (qX e1) e e1
 have nx:∀ t y,i<=t->t<i+n->a[t]?=some y->r y<=r x:=λt y h1 h2 e1=>by
  have:=n2 t y h1 h2 e1
  simpa [Bv] using this
 have g2:=h1.ta (k:=n) λt y u z z1 z2 e1 z3 e2=>cZ (nx t y z1 z2 e1) (xb u z z3 e2)
 have ha:∀ y,b[j]?=some y->∀ u z,i+n<=u->a[u]?=some z->r y<=r z:=λy e1 u z h1 e2=>by
  rw [e] at e1;cases e1;have:=n3 u z h1 (by have:=qX e2;lia) e2;exact fZ (by simpa [Bv] using this)
 by_cases d:n>0
 .rw [if_pos d]
  by_cases c1:i+n+1=a.size
  .rw [if_pos (by simpa using c1)];exact bf ⟨h0',JS.told (g2.fl T c1)⟩
  .rw [if_neg (by simpa using c1)]
   by_cases c2:i+n=a.size
   .rw [if_pos (by simpa using c2)];exact bf ⟨h0',JS.told (g2.fa c2)⟩
   .rw [if_neg (by simpa using c2)];exact Uo hc T h0' g2 (by lia) h3 (by rw [pJ];lia) ha
 .rw [if_neg d]
  have:n=0:=by lia
  subst this;exact Uo hc T h0' h1 h2 h3 (by lia) ha
theorem Uq {α β γ:Type} {B:Nat->Nat->S1 α β γ->SM (ForInStep (S1 α β γ))}{G:Nat->S2 α β γ->SM (ForInStep (S2 α β γ))}{Fq:Array aT->Prop}{Jv:α->β->γ->Prop}{sz:α->β->γ->Nat}{Q:Array aT->dz->Prop}{x:α}{y:β}{z:γ}
  (hB:∀ mg st x y z (Q:S1 α β γ->dz->Prop),Sm κ xs pd st->Jv x y z->(∀ u,(∀ q,u.1=some q->Fq q)->(u.1=none->Jv u.2.1 u.2.2.1 u.2.2.2.1/\sz x y z<=sz u.2.1 u.2.2.1 u.2.2.2.1)->Q u st)->vK (aL prog w) A E s (forIn [0:N] ((none,x,y,z,0,0):S1 α β γ) (B mg)) Q st)
  (hG:∀ i st (u:S2 α β γ),Sm κ xs pd st->Jv u.2.1 u.2.2.1 u.2.2.2.1->vK (aL prog w) A E s (G i u) (λv st'=>Sm κ xs pd st'/\match v with
   | .done v=>(∀ q,v.1=some q->Fq q)/\(v.1=none->Jv v.2.1 v.2.2.1 v.2.2.2.1/\sz u.2.1 u.2.2.1 u.2.2.2.1+1<=sz v.2.1 v.2.2.1 v.2.2.2.1)
   | .yield v=>v.1=none/\Jv v.2.1 v.2.2.1 v.2.2.2.1/\sz u.2.1 u.2.2.1 u.2.2.2.1+1<=sz v.2.1 v.2.2.1 v.2.2.2.1) st)
  (hN:∀ x y z,Jv x y z->sz x y z<N) (h0:Sm κ xs pd st) (h1:Jv x y z) (h:∀ q st',Sm κ xs pd st'->Fq q->Q q st'):vK (aL prog w) A E s (mrg N B G x y z) Q st:=by
 refine aR (qf (aR (mR (fB (I:=λk z st'=>Sm κ xs pd st'/\z.1=none/\Jv z.2.1 z.2.2.1 z.2.2.2.1/\k<=sz z.2.1 z.2.2.1 z.2.2.2.1)
  (Q:=λz st'=>Sm κ xs pd st'/\∃ q,z.1=some q/\Fq q) ?_ ?_ ⟨h0,rfl,h1,aM _⟩) ?_)))
 .rintro k u st' _ hk ⟨i0,i1,i2,i3⟩;refine aR (hB _ _ _ _ _ _ i0 i2 λv v1 v2=>?_);obtain ⟨v0,v⟩:=v
  cases v0 with
  | some q=>exact bf ⟨i0,q,rfl,v1 q rfl⟩
  | none =>
   obtain ⟨v3,v4⟩:=v2 rfl;refine aR (G7 (i9 ⟨rfl,?_⟩))
   refine aR (mR (fB (I:=λm z st'=>Sm κ xs pd st'/\z.1=none/\Jv z.2.1 z.2.2.1 z.2.2.2.1/\k+m<=sz z.2.1 z.2.2.1 z.2.2.2.1)
    (Q:=λz st'=>Sm κ xs pd st'/\(∀ q,z.1=some q->Fq q)/\(z.1=none->Jv z.2.1 z.2.2.1 z.2.2.2.1/\k+1<=sz z.2.1 z.2.2.1 z.2.2.2.1)) ?_ ?_ ⟨i0,rfl,v3,bA i3 v4⟩) ?_)
   .rintro m u' st2 _ hm ⟨j0,j1,j2,j3⟩;refine mR (hG m st2 u' j0 j2) λv st3 q=>?_;obtain ⟨p,q⟩:=q
    cases v with
    | done v=>exact ⟨p,q.1,λe=>let ⟨a1,a2⟩:=q.2 e;⟨a1,by lia⟩⟩
    | yield v=>exact ⟨p,q.1,q.2.1,by have:=q.2.2;lia⟩
   .rintro u' st2 ⟨j0,j1,j2,j3⟩;exact ⟨j0,⟨λq e=>(by rw [j1] at e;cases e),λ_=>⟨j2,by have:=hN _ _ _ j2;lia⟩⟩⟩
   .rintro ⟨u0,u'⟩ st2 ⟨j0,j1,j2⟩
    cases u0 with
    | some q=>exact bf ⟨j0,q,rfl,j1 q rfl⟩
    | none =>
     have j3:=j2 rfl;exact aR (iA (bf ⟨by obtain ⟨g,rfl⟩:=j0;exact ⟨_,rfl⟩,rfl,j3.1,j3.2⟩))
 .rintro u st' ⟨i0,i1,i2,i3⟩;have:=hN _ _ _ i2;lia
 .rintro ⟨u0,u⟩ st' ⟨i0,q,e,hq⟩;cases e;exact bf (h q st' i0 hq)
theorem w_lo (hc:FU prog w A s κ D r) (T:GP r D a b) (h0:st=a9 κ xs pd g none) (ha:0<a.size) (hb:0<b.size) (hl:∀ x y,b[0]?=some x->a[0]?=some y->r x<=r y) {Q:Array aT->dz->Prop}
  (h:∀ q st',Sm κ xs pd st'->F r (a.toList++b.toList) q->Q q st'):vK (aL prog w) A E s (Bb a b) Q st:=by
 rw [X7];refine aR (G7 (i9 ⟨rfl,?_⟩));obtain ⟨x,e⟩:=fV hb;obtain ⟨y,f⟩:=fV ha;refine aR (mZ e ?_);have pw:∀ c:Array aT,St r c 0 c.size->c.toList.Pairwise λx y=>r x<=r y:=λc h=>jY.mpr λi j hi hj hij=>h i j _ _ (aM _) (lZ hij) (by simpa using hj) (by simp) (by simp)
 have g0:J r (a.toList++b.toList) a b #[] 0 0:=⟨by simp,mT,by simpa using pw a T.sa,by simpa using pw b T.sb,λ_ z=>nomatch z⟩
 have g:=g0.pb T e λu z h1 e1=>cZ (hl x y e f) (T.sa _ _ _ _ (aM _) h1 (qX e1) f e1);have g:J r (a.toList++b.toList) a b #[x] 0 1:=g
 by_cases c1:1=b.size
 .rw [if_pos (by simpa using c1)];exact bf (h _ _ ⟨_,h0⟩ (g.fb c1))
 .rw [if_neg (by simpa using c1)]
  by_cases c2:0+1=a.size
  .rw [if_pos (by simpa using c2)];exact bf (h _ _ ⟨_,h0⟩ (g.fl T c2))
  .rw [if_neg (by simpa using c2)]
   refine Uq (Fq:=F r (a.toList++b.toList)) (Jv:=λo i j=>J r (a.toList++b.toList) a b o i j/\i+1<a.size/\j<b.size) (sz:=λo _ _=>o.size) (λmg st o i j Q w1 w2 w3=>X8 hc (by obtain ⟨_,rfl⟩:=w1;rfl) T w2.1 w2.2.1 w2.2.2 λu q=>w3 u q.1 λe=>let ⟨a1,a2,a3,a4⟩:=q.2 e;⟨⟨a1,a2,a3⟩,a4⟩) (λk st u w1 w2=>?_) (λo i j q=>by
    have:=q.1.len (by lia) (by lia) (by simp)
    lia) ⟨_,h0⟩ ⟨g,by lia,by lia⟩ h
   have e:loG a b k u=PP a b u (if u.2.2.2.2.1>1 then u.2.2.2.2.1-1 else u.2.2.2.2.1):=by unfold loG;split<;>rfl
   rw [e]
   refine mR (X9 hc T w1 w2.1 w2.2.1 w2.2.2 (ak _)) λv st2 q=>⟨q.1,?_⟩
   have q:=q.2
   cases v with
   | done v=>exact ⟨q.1,λe=>let ⟨a1,a2,a3,a4⟩:=q.2 e;⟨⟨a1,a2,a3⟩,a4⟩⟩
   | yield v=>exact ⟨q.1,⟨q.2.1,q.2.2.1,q.2.2.2.1⟩,q.2.2.2.2⟩
end
end Sy
namespace Sy
open PySem.W
def Bc:Array aT->Array aT->SM (Array aT):=sortPriv% PySem.Builtin.mergeHi
abbrev U1:=S1 Nat Nat (Array aT)
abbrev U2:=S2 Nat Nat (Array aT)
section
variable (a b:Array aT)
def PR (o:Array aT) (i j:Nat):Array aT:=a.extract 0 i++b.extract 0 j++o.reverse
def V9 (o:Array aT) (i j:Nat):Array aT:=b.extract 0 j++a.extract 0 i++o.reverse
def hiB (mg:Nat) (_:Nat) (z:U1):SM (ForInStep U1):=do
 match ← lt' (← l8 b (z.2.2.1-1)) (← l8 a (z.2.1-1)) with
 | some c=>(if c=true then (do
   let o:=z.2.2.2.1.push (← l8 a (z.2.1-1))
   if (z.2.1-1 == 0)=true then pure (.done (some (PR a b o (z.2.1-1) z.2.2.1),z.2.1-1,z.2.2.1,o,z.2.2.2.2.1+1,0))
   else if z.2.2.2.2.1+1>=mg then pure (.done (none,z.2.1-1,z.2.2.1,o,z.2.2.2.2.1+1,0)) else pure (.yield (none,z.2.1-1,z.2.2.1,o,z.2.2.2.2.1+1,0)))
  else (do
   let o:=z.2.2.2.1.push (← l8 b (z.2.2.1-1))
   if (z.2.2.1-1 == 1)=true then pure (.done (some (V9 a b o z.2.1 (z.2.2.1-1)),z.2.1,z.2.2.1-1,o,0,z.2.2.2.2.2+1))
   else if z.2.2.2.2.2+1>=mg then pure (.done (none,z.2.1,z.2.2.1-1,o,0,z.2.2.2.2.2+1)) else pure (.yield (none,z.2.1,z.2.2.1-1,o,0,z.2.2.2.2.2+1))))
 | _=>pure (.done (some (PR a b z.2.2.2.1 z.2.1 z.2.2.1),z.2))
def SN (o:Array aT) (i j mg k m:Nat):SM (ForInStep U2):=do
 let o:=o.push (← l8 a (i-1))
 if (i-1 == 0)=true then pure (.done (some (PR a b o (i-1) j),i-1,j,o,mg,k,m))
 else if (decide (k<7) && decide (m<7))=true then pure (.done (none,i-1,j,o,mg,k,m)) else pure (.yield (none,i-1,j,o,mg,k,m))
def SQ (o:Array aT) (i j mg k q:Nat):SM (ForInStep U2):=do
 let o:=o.push (← l8 b (j-1))
 if (j-1 == 1)=true then pure (.done (some (V9 a b o i (j-1)),i,j-1,o,mg,k,q))
 else (do
  match ← nR true (← l8 a (i-1)) b 0 (j-1) (j-1-1) with
  | some m=>if j-1-m>0 then (if (m == 1)=true then pure (.done (some (V9 a b (o++(b.extract m (j-1)).reverse) i m),i,m,o++(b.extract m (j-1)).reverse,mg,k,j-1-m))
    else if (m == 0)=true then pure (.done (some (PR a b (o++(b.extract m (j-1)).reverse) i m),i,m,o++(b.extract m (j-1)).reverse,mg,k,j-1-m))
    else SN a b (o++(b.extract m (j-1)).reverse) i m mg k (j-1-m)) else SN a b o i (j-1) mg k (j-1-m)
  | _=>pure (.done (some (PR a b o i (j-1)),i,j-1,o,mg,k,q)))
def PU (z:U2) (mg:Nat):SM (ForInStep U2):=do
 PN mg
 match ← nR false (← l8 b (z.2.2.1-1)) a 0 z.2.1 (z.2.1-1) with
 | some k=>if z.2.1-k>0 then (if (k == 0)=true then pure (.done (some (PR a b (z.2.2.2.1++(a.extract k z.2.1).reverse) k z.2.2.1),k,z.2.2.1,z.2.2.2.1++(a.extract k z.2.1).reverse,mg,z.2.1-k,z.2.2.2.2.2.2))
   else SQ a b (z.2.2.2.1++(a.extract k z.2.1).reverse) k z.2.2.1 mg (z.2.1-k) z.2.2.2.2.2.2) else SQ a b z.2.2.2.1 z.2.1 z.2.2.1 mg (z.2.1-k) z.2.2.2.2.2.2
 | _=>pure (.done (some (PR a b z.2.2.2.1 z.2.1 z.2.2.1),z.2.1,z.2.2.1,z.2.2.2.1,mg,z.2.2.2.2.2))
def hiG (_:Nat) (z:U2):SM (ForInStep U2):=if z.2.2.2.2.1>1 then PU a b z (z.2.2.2.2.1-1) else PU a b z z.2.2.2.2.1
theorem Ya:Bc a b=(do
  liftM (Em "list.sort.merge-hi")
  let x ← l8 a (a.size-1)
  if (a.size-1 == 0)=true then pure (PR a b #[x] (a.size-1) b.size) else if (b.size == 1)=true then pure (V9 a b #[x] (a.size-1) b.size)
  else mrg (a.size+b.size) (hiB a b) (hiG a b) (a.size-1) b.size #[x]):=by kernel_rfl
end
end Sy
namespace Sy
open PySem.W
variable {a:Array aT}{n k:Nat}
section
variable {prog:bB}{w:ck}{A:cM}{E:aj->ax->Prop}{s:ax}{κ:ji} {D:aT->Prop}{r:aT->Int}{st:dz}{b:Array aT}{xs o:Array aT}{pd:Array (Nat×Nat×Nat)}{i j m q g mg N:Nat}{all:List aT}
def ng (r:aT->Int) (x:aT):Int:=- r x
theorem rv (h1:n<=a.size) (h0:0<n):a.reverse[a.size-n]?=a[n-1]?:=by
 rw [LM (by lia)];congr 1;lia
theorem mn {t:Nat}{x:aT}(e:a.reverse[t]?=some x):t<a.size/\a[a.size-1-t]?=some x:=by
 have h:=qX e;simp at h;rw [LM h] at e;exact ⟨h,e⟩
theorem rx (h:n<=a.size) (hk:k<=n):(a.extract k n).reverse=a.reverse.extract (a.size-n) (a.size-n+(n-k)):=by
 apply Array.ext
 .simp;lia
 .intro t h1 h2;simp at h1 h2 ⊢
  congr 1;lia
theorem Zq (h:n<=a.size):(a.extract 0 n).reverse=a.reverse.extract (a.size-n) a.reverse.size:=by
 rw [rx h (aM _)];congr 1;simp;lia
theorem Wa (h1:i<=a.size) (h2:j<=b.size):(PR a b o i j).reverse=dn b.reverse a.reverse o (b.size-j) (a.size-i):=by
 unfold PR dn;rw [mS,mS,MZ,Zq h1,Zq h2,yI]
theorem Wb (h1:i<=a.size) (h2:j<=b.size):(V9 a b o i j).reverse=lst b.reverse a.reverse o (b.size-j) (a.size-i):=by
 unfold V9 lst;rw [mS,mS,MZ,Zq h1,Zq h2,yI]
structure Jh (r:aT->Int) (all:List aT) (a b:Array aT) (i j:Nat) (o:Array aT):Prop where
 jj:J (ng r) all b.reverse a.reverse o (b.size-j) (a.size-i)
 i0:0<i
 i1:i<=a.size
 j0:1<j
 j1:j<=b.size
def Fh (r:aT->Int) (all:List aT) (o:Array aT):Prop:=F (ng r) all o.reverse
theorem Fh.dn (g:J (ng r) all b.reverse a.reverse o (b.size-j) (a.size-i)) (h1:i<=a.size) (h2:j<=b.size) (h:i=0\/j=0):Fh r all (PR a b o i j):=by
 unfold Fh;rw [Wa h1 h2]
 rcases h with rfl|rfl
 .exact g.fb (by simp)
 .exact g.fa (by simp)
theorem Fh.fs (T:GP (ng r) D b.reverse a.reverse) (g:J (ng r) all b.reverse a.reverse o (b.size-j) (a.size-i)) (h1:i<=a.size) (h2:j<=b.size) (h:j=1):Fh r all (V9 a b o i j):=by
 unfold Fh;rw [Wb h1 h2];exact g.fl T (by simp;lia)
theorem J.pA (T:GP (ng r) D b.reverse a.reverse) (h:J (ng r) all b.reverse a.reverse o (b.size-j) (a.size-i)) (h0:0<i) (h1:i<=a.size) {x:aT}(e:a[i-1]?=some x) (hx:∀ u y,u<j->b[u]?=some y->r y<=r x) :
  J (ng r) all b.reverse a.reverse (o.push x) (b.size-j) (a.size-(i-1)):=by
 rw [show a.size-(i-1)=a.size-i+1 by lia]
 exact h.pb T (by rw [rv h1 h0,e]) λu y h1 f=>by
  obtain ⟨f1,f⟩:=mn f;have:=hx _ y (by lia) f;unfold ng;lia
theorem J.pB (T:GP (ng r) D b.reverse a.reverse) (h:J (ng r) all b.reverse a.reverse o (b.size-j) (a.size-i)) (h0:0<j) (h1:j<=b.size) {x:aT}(e:b[j-1]?=some x) (hx:∀ u y,u<i->a[u]?=some y->r y<=r x) :
  J (ng r) all b.reverse a.reverse (o.push x) (b.size-(j-1)) (a.size-i):=by
 rw [show b.size-(j-1)=b.size-j+1 by lia]
 exact h.pa T (by rw [rv h1 h0,e]) λu y h1 f=>by
  obtain ⟨f1,f⟩:=mn f;have:=hx _ y (by lia) f;unfold ng;lia
theorem J.tA (h:J (ng r) all b.reverse a.reverse o (b.size-j) (a.size-i)) (hk:k<=i) (h1:i<=a.size) (hx:∀ t x u y,k<=t->t<i->a[t]?=some x->u<j->b[u]?=some y->r y<=r x) :
  J (ng r) all b.reverse a.reverse (o++(a.extract k i).reverse) (b.size-j) (a.size-k):=by
 rw [rx h1 hk,show a.size-k=a.size-i+(i-k) by lia]
 exact h.tb λt x u y h1 h2 e h3 f=>by
  obtain ⟨e1,e⟩:=mn e;obtain ⟨f1,f⟩:=mn f;have:=hx _ x _ y (by lia) (by lia) e (by lia) f;unfold ng;lia
theorem J.tB (h:J (ng r) all b.reverse a.reverse o (b.size-j) (a.size-i)) (hk:k<=j) (h1:j<=b.size) (hx:∀ t x u y,k<=t->t<j->b[t]?=some x->u<i->a[u]?=some y->r y<=r x) :
  J (ng r) all b.reverse a.reverse (o++(b.extract k j).reverse) (b.size-k) (a.size-i):=by
 rw [rx h1 hk,show b.size-k=b.size-j+(j-k) by lia]
 exact h.ta λt x u y h1 h2 e h3 f=>by
  obtain ⟨e1,e⟩:=mn e;obtain ⟨f1,f⟩:=mn f;have:=hx _ x _ y (by lia) (by lia) e (by lia) f;unfold ng;lia
structure WB (r:aT->Int) (D:aT->Prop) (a b:Array aT):Prop where
 da:∀ (t:Nat) x,a[t]?=some x->D x
 db:∀ (t:Nat) x,b[t]?=some x->D x
 sa:St r a 0 a.size
 sb:St r b 0 b.size
 fb:∀ (u:Nat) x y,b[0]?=some x->a[u]?=some y->r x<=r y
theorem WB.two (T:WB r D a b):GP (ng r) D b.reverse a.reverse where
 da t x e:=T.db _ x (mn e).2
 db t x e:=T.da _ x (mn e).2
 sa t u x y _ h2 h3 e f:=by
  have:=T.sb _ _ y x (aM _) (show b.size-1-u<=b.size-1-t by lia) (by have:=(mn e).1;lia) (mn f).2 (mn e).2;unfold ng;lia
 sb t u x y _ h2 h3 e f:=by
  have:=T.sa _ _ y x (aM _) (show a.size-1-u<=a.size-1-t by lia) (by have:=(mn e).1;lia) (mn f).2 (mn e).2;unfold ng;lia
 la t u x y h1 e f:=by
  simp at h1;have e':=(mn e).2;rw [show b.size-1-t=0 by lia] at e';have:=T.fb _ x y e' (mn f).2;unfold ng;lia
def JL (r:aT->Int) (all:List aT) (a b:Array aT) (k:Nat) (z:Option (Array aT)) (i j:Nat) (o:Array aT):Prop :=
 (∀ q,z=some q->Fh r all q)/\(z=none->Jh r all a b i j o/\k<=o.size)
theorem JL.told {q:Array aT}(h:Fh r all q):JL r all a b k (some q) i j o:=⟨λ_ e=>by cases e;exact h,(λe=>nomatch e)⟩
theorem JL.on (h1:Jh r all a b i j o) (h4:k<=o.size):JL r all a b k none i j o:=⟨(λ_ e=>nomatch e),λ_=>⟨h1,h4⟩⟩
theorem Yb (hc:FU prog w A s κ D r) (hk:kindOf st=κ) (T:WB r D a b) {Q:U1->dz->Prop}(h1:Jh r all a b i j o)
  (h:∀ z,JL r all a b o.size z.1 z.2.1 z.2.2.1 z.2.2.2.1->Q z st):vK (aL prog w) A E s (forIn [0:N] ((none,i,j,o,0,0):U1) (hiB a b mg)) Q st:=by
 refine fB (I:=λx z st'=>st'=st/\z.1=none/\Jh r all a b z.2.1 z.2.2.1 z.2.2.2.1/\o.size<=z.2.2.2.1.size) ?_ ?_ ⟨rfl,rfl,h1,ak _⟩
 .rintro x ⟨z,i',j',o',ac,bc⟩ st' _ hx ⟨rfl,rfl,g,g4⟩;dsimp only at g g4;obtain ⟨g,i0,i1,j0,j1⟩:=g;obtain ⟨u,eu⟩:=fV (a:=a) (i:=i'-1) (by lia);obtain ⟨v,ev⟩:=fV (a:=b) (i:=j'-1) (by lia);unfold hiB;refine aR (mZ ev (aR (mZ eu (aR (w_lt hc hk (T.db _ _ ev) (T.da _ _ eu) ?_)))));dsimp only
  have sz:∀ x:aT,o.size<=(o'.push x).size:=λx=>by rw [ir];lia
  by_cases c:r v<r u
  .rw [decide_eq_true c,if_pos rfl];have g5:=g.pA T.two i0 i1 eu λt y h1 e=>cZ (T.sb _ _ _ _ (aM _) (by lia) (by lia) e ev) (fZ c);refine aR (mZ eu ?_)
   by_cases e:i'-1=0
   .rw [if_pos (by simpa using e)];exact bf (h _ (JL.told (Fh.dn g5 (by lia) j1 (.inl e))))
   .rw [if_neg (by simpa using e)]
    by_cases f:ac+1>=mg
    .rw [if_pos f];exact bf (h _ (JL.on ⟨g5,by dsimp only;lia,by dsimp only;lia,j0,j1⟩ (sz _)))
    .rw [if_neg f];exact bf ⟨rfl,rfl,⟨g5,by dsimp only;lia,by dsimp only;lia,j0,j1⟩,sz _⟩
  .rw [decide_eq_false c,if_neg (by simp)];have g5:=g.pB T.two (by lia) j1 ev λt y h1 e=>cZ (T.sa _ _ _ _ (aM _) (by lia) (by lia) e eu) (pF.mp c);refine aR (mZ ev ?_)
   by_cases e:j'-1=1
   .rw [if_pos (by simpa using e)];exact bf (h _ (JL.told (Fh.fs T.two g5 i1 (by lia) e)))
   .rw [if_neg (by simpa using e)]
    by_cases f:bc+1>=mg
    .rw [if_pos f];exact bf (h _ (JL.on ⟨g5,i0,i1,by dsimp only;lia,by dsimp only;lia⟩ (sz _)))
    .rw [if_neg f];exact bf ⟨rfl,rfl,⟨g5,i0,i1,by dsimp only;lia,by dsimp only;lia⟩,sz _⟩
 .rintro ⟨z,o',i',j',ac,bc⟩ st' ⟨rfl,rfl,g,g4⟩;exact h _ (JL.on g g4)
def Nxh (κ:ji) (xs:Array aT) (pd:Array (Nat×Nat×Nat)) (r:aT->Int) (all:List aT) (a b:Array aT) (k:Nat) (x:ForInStep U2) (st':dz):Prop :=
 Sm κ xs pd st'/\match x with
  | .done z=>JL r all a b k z.1 z.2.1 z.2.2.1 z.2.2.2.1
  | .yield z=>z.1=none/\Jh r all a b z.2.1 z.2.2.1 z.2.2.2.1/\k<=z.2.2.2.1.size
theorem Ur (T:WB r D a b) (h0:Sm κ xs pd st) (h1:Jh r all a b i j o) (h4:k<=o.size+1) (h:∀ x,a[i-1]?=some x->∀ u y,u<j->b[u]?=some y->r y<=r x) :
  vK (aL prog w) A E s (SN a b o i j mg m q) (Nxh κ xs pd r all a b k) st:=by
 obtain ⟨g,i0,i1,j0,j1⟩:=h1;obtain ⟨x,e⟩:=fV (a:=a) (i:=i-1) (by lia);unfold SN;have g:=g.pA T.two i0 i1 e (h x e)
 have sz:k<=(o.push x).size:=by rw [ir];lia
 refine aR (mZ e ?_);dsimp only
 by_cases c:i-1=0
 .rw [if_pos (by simpa using c)];exact bf ⟨h0,JL.told (Fh.dn g (by lia) j1 (.inl c))⟩
 .rw [if_neg (by simpa using c)]
  have g2:Jh r all a b (i-1) j (o.push x):=⟨g,by lia,by lia,j0,j1⟩
  split
  .exact bf ⟨h0,JL.on g2 sz⟩
  .exact bf ⟨h0,rfl,g2,sz⟩
theorem Us (hc:FU prog w A s κ D r) (T:WB r D a b) (h0:Sm κ xs pd st) (h1:Jh r all a b i j o) (h4:k<=o.size+2) (h:∀ x,b[j-1]?=some x->∀ u y,u<i->a[u]?=some y->r y<=r x) :
  vK (aL prog w) A E s (SQ a b o i j mg m q) (Nxh κ xs pd r all a b k) st:=by
 obtain ⟨g,i0,i1,j0,j1⟩:=h1;obtain ⟨x,e⟩:=fV (a:=b) (i:=j-1) (by lia);obtain ⟨y,f⟩:=fV (a:=a) (i:=i-1) (by lia);unfold SQ;have g:=g.pB T.two (by lia) j1 e (h x e);refine aR (mZ e ?_);dsimp only
 by_cases c:j-1=1
 .rw [if_pos (by simpa using c)];exact bf ⟨h0,JL.told (Fh.fs T.two g i1 (by lia) c)⟩
 .rw [if_neg (by simpa using c)]
  have hk:kindOf st=κ:=by obtain ⟨_,rfl⟩:=h0;rfl
  refine aR (mZ f (aR (oM hc hk T.db (T.da _ _ f) (by lia) (λt u x y z1 z2 z3=>T.sb t u x y (aM _) z2 (by lia)) (by lia) λn n1 n2 n3=>?_)));dsimp only;have ya:∀ u z,u<i->a[u]?=some z->r z<=r y:=λu z h1 e=>T.sa _ _ _ _ (aM _) (by lia) (by lia) e f;have g2:=g.tB (k:=n) (by lia) (by lia) λt x u z z1 z2 e1 z3 e2=>cZ (ya u z z3 e2) (pF.mp (of_decide_eq_false (n3 t x (by lia) (by lia) e1)))
  have hb:∀ x,a[i-1]?=some x->∀ u z,u<n->b[u]?=some z->r z<=r x:=λx e1 u z h1 e2=>by
   rw [f] at e1;cases e1;exact fZ (of_decide_eq_true (n2 u z (aM _) (by lia) e2))
  have sz:k<=(o.push x).size+1:=by rw [ir];lia
  by_cases d:j-1-n>0
  .rw [if_pos d]
   by_cases c2:n=1
   .rw [if_pos (by simpa using c2)];exact bf ⟨h0,JL.told (Fh.fs T.two g2 i1 (by lia) c2)⟩
   .rw [if_neg (by simpa using c2)]
    by_cases c3:n=0
    .rw [if_pos (by simpa using c3)];exact bf ⟨h0,JL.told (Fh.dn g2 i1 (by lia) (.inr c3))⟩
    .rw [if_neg (by simpa using c3)];exact Ur T h0 ⟨g2,i0,i1,by lia,by lia⟩ (by rw [pJ];lia) hb
  .rw [if_neg d]
   have:n=j-1:=by lia
   subst this;exact Ur T h0 ⟨g,i0,i1,by lia,by lia⟩ sz hb
theorem Yc (hc:FU prog w A s κ D r) (T:WB r D a b) (h0:Sm κ xs pd st) {z:U2}(h1:Jh r all a b z.2.1 z.2.2.1 z.2.2.2.1):vK (aL prog w) A E s (PU a b z mg) (Nxh κ xs pd r all a b (z.2.2.2.1.size+1)) st:=by
 obtain ⟨z0,i,j,o,g0,ac,bc⟩:=z;obtain ⟨g,i0,i1,j0,j1⟩:=h1;dsimp only at g i0 i1 j0 j1;obtain ⟨x,e⟩:=fV (a:=b) (i:=j-1) (by lia);unfold PU PN;dsimp only;refine aR (iA ?_)
 have h0':Sm κ xs pd (a9 (kindOf st) (mQ st) (cN st) mg (iP st)):=by obtain ⟨g,rfl⟩:=h0;exact ⟨mg,rfl⟩
 have hk:kindOf (a9 (kindOf st) (mQ st) (cN st) mg (iP st))=κ:=by obtain ⟨_,e⟩:=h0';rw [e]
 generalize a9 (kindOf st) (mQ st) (cN st) mg (iP st)=st1 at h0' hk;refine aR (mZ e (aR (oM hc hk T.da (T.db _ _ e) (by lia) (λt u x y z1 z2 z3=>T.sa t u x y (aM _) z2 (by lia)) (by lia) λn n1 n2 n3=>?_)));dsimp only;have xb:∀ u z,u<j->b[u]?=some z->r z<=r x:=λu z h1 e1=>T.sb _ _ _ _ (aM _) (by lia) (by lia) e1 e
 have nx:∀ t y,n<=t->t<i->a[t]?=some y->r x<=r y:=λt y h1 h2 e1=>by
  have:=n3 t y (by lia) (by lia) e1;exact fZ (by simpa [Bv] using this)
 have g2:=g.tA (k:=n) (by lia) i1 λt y u z z1 z2 e1 z3 e2=>cZ (xb u z z3 e2) (nx t y z1 z2 e1)
 have ha:∀ y,b[j-1]?=some y->∀ u z,u<n->a[u]?=some z->r z<=r y:=λy e1 u z h1 e2=>by
  rw [e] at e1;cases e1;have:=n2 u z (aM _) (by lia) e2
  simpa [Bv] using this
 by_cases d:i-n>0
 .rw [if_pos d]
  by_cases c1:n=0
  .rw [if_pos (by simpa using c1)];exact bf ⟨h0',JL.told (Fh.dn g2 (by lia) j1 (.inl c1))⟩
  .rw [if_neg (by simpa using c1)];exact Us hc T h0' ⟨g2,by lia,by lia,j0,j1⟩ (by rw [pJ];lia) ha
 .rw [if_neg d]
  have:n=i:=by lia
  subst this;exact Us hc T h0' ⟨g,i0,i1,j0,j1⟩ (by lia) ha
theorem pw_of (h:St r a 0 a.size):a.toList.Pairwise λx y=>r x<=r y:=jY.mpr λi j hi hj hij=>h i j _ _ (aM _) (lZ hij) (by simpa using hj) (by simp) (by simp)
theorem w_hi (hc:FU prog w A s κ D r) (T:WB r D a b) (h0:st=a9 κ xs pd g none) (ha:0<a.size) (hb:0<b.size) (hl:∀ x y,b[b.size-1]?=some x->a[a.size-1]?=some y->r x<=r y) {Q:Array aT->dz->Prop}
  (h:∀ q st',Sm κ xs pd st'->F r (a.toList++b.toList) q->Q q st'):vK (aL prog w) A E s (Bc a b) Q st:=by
 have h:∀ q st',Sm κ xs pd st'->Fh r (a.toList++b.toList) q->Q q st':=λq st' w1 w2=>h q st' w1 (by
  unfold Fh F at w2;refine ⟨?_,?_,.nil,.nil,λ_ _ _ z=>nomatch z⟩
  .have:=w2.pm;simp at this ⊢;exact (Az _).symm.trans this
  .have:=List.pairwise_reverse.mp (by simpa using w2.so)
   exact this.imp λz=>by unfold ng at z;lia)
 rw [Ya];refine aR (G7 (i9 ⟨rfl,?_⟩));obtain ⟨x,e⟩:=fV (a:=b) (i:=b.size-1) (by lia);obtain ⟨y,f⟩:=fV (a:=a) (i:=a.size-1) (by lia);refine aR (mZ f ?_)
 have g0:J (ng r) (a.toList++b.toList) b.reverse a.reverse #[] (b.size-b.size) (a.size-a.size):=⟨by simpa using (Az _).append (Az _) |>.trans fE,mT,by simpa using pw_of T.two.sa,by simpa using pw_of T.two.sb,λ_ z=>nomatch z⟩
 have g:=g0.pA T.two ha (ak _) f λu z h1 e1=>cZ (T.sb _ _ _ _ (aM _) (by lia) (by lia) e1 e) (hl x y e f);have g:J (ng r) (a.toList++b.toList) b.reverse a.reverse #[y] (b.size-b.size) (a.size-(a.size-1)):=g
 by_cases c1:a.size-1=0
 .rw [if_pos (by simpa using c1)];exact bf (h _ _ ⟨_,h0⟩ (Fh.dn g (by lia) (ak _) (.inl c1)))
 .rw [if_neg (by simpa using c1)]
  by_cases c2:b.size=1
  .rw [if_pos (by simpa using c2)];exact bf (h _ _ ⟨_,h0⟩ (Fh.fs T.two g (by lia) (ak _) c2))
  .rw [if_neg (by simpa using c2)]
   refine Uq (Fq:=Fh r (a.toList++b.toList)) (Jv:=Jh r (a.toList++b.toList) a b) (sz:=λ_ _ o=>o.size) (λmg st o i j Q w1 w2 w3=>Yb hc (by obtain ⟨_,rfl⟩:=w1;rfl) T w2 λu q=>w3 u q.1 q.2) (λk st u w1 w2=>?_) (λi j o q=>by
    have:=q.jj.len (by simp) (by simp) (by simp;lia);have:=q.i0;have:=q.i1;have:=q.j0;have:=q.j1
    lia) ⟨_,h0⟩ ⟨g,by lia,by lia,by lia,by lia⟩ h
   have e:hiG a b k u=PU a b u (if u.2.2.2.2.1>1 then u.2.2.2.2.1-1 else u.2.2.2.2.1):=by unfold hiG;split<;>rfl
   rw [e]
   refine mR (Yc hc T w1 w2) λv st2 q=>⟨q.1,?_⟩
   have q:=q.2
   cases v with
   | done v=>exact q
   | yield v=>exact q
end
end Sy
namespace Sy
open PySem.W
abbrev C1:=Option (Option Nat)×Nat
def SR (lo:Nat) (_:Nat) (z:C1):SM (ForInStep C1):=do
 match ← ltAt' (lo+z.2) (lo+z.2-1) with
 | some c=>if c=true then pure (.done (none,z.2)) else pure (.yield (none,z.2+1))
 | _=>pure (.done (some none,z.2))
def tl (lo n nrem:Nat):SM (Option Nat):=do
 CZ lo (lo+n)
 let z ← forIn [n:nrem] ((none,n):C1) (SR lo)
 (match z.1 with
 | some r=>pure r
 | none=>pure (some z.2))
def Yd (lo:Nat) (_:Nat) (z:TG):SM (ForInStep TG):=do
 match ← ltAt' (lo+z.2.1) (lo+z.2.1-1) with
 | some c=>(if c=true then (if z.2.2>0 then (do
    CZ (lo+z.2.1-(z.2.2+1)) (lo+z.2.1)
    pure (.yield (none,z.2.1+1,0))) else pure (.yield (none,z.2.1+1,0)))
  else (do
   match ← ltAt' (lo+z.2.1-1) (lo+z.2.1) with
   | some d=>if d=true then pure (.done (none,z.2)) else pure (.yield (none,z.2.1+1,z.2.2+1))
   | _=>pure (.done (some none,z.2))))
 | _=>pure (.done (some none,z.2))
def Zr (lo n nrem:Nat):SM (Option Nat):=do
 liftM (Em "list.sort.descending-run")
 let z ← forIn [n+1:nrem] ((none,n+1,0):TG) (Yd lo)
 (match z.1 with
 | some r=>pure r
 | none=>if z.2.2>0 then (do
   CZ (lo+z.2.1-(z.2.2+1)) (lo+z.2.1)
   tl lo z.2.1 nrem) else tl lo z.2.1 nrem)
theorem PV (lo nrem:Nat):countRun' lo nrem=(do
  let z ← forIn [1:nrem] ((none,1):C1) (SR lo)
  (match z.1 with
  | some r=>pure r
  | none=>if (z.2 == nrem)=true then pure (some z.2) else if z.2>1 then (do
    match ← ltAt' lo (lo+z.2-1) with
    | some c=>if c=true then pure (some z.2) else (do
     CZ lo (lo+z.2)
     Zr lo z.2 nrem)
    | _=>pure none) else Zr lo z.2 nrem)):=by kernel_rfl
section
variable {prog:bB}{w:ck}{A:cM}{E:aj->ax->Prop}{s:ax}{κ:ji} {D:aT->Prop}{r:aT->Int}{st:dz}{xs ys a₀:Array aT} {pd:Array (Nat×Nat×Nat)}{i j lo hi n m q g nrem:Nat}
def K (r:aT->Int) (xs:Array aT) (i:Nat):Int:=((xs[i]?).map r).getD 0
theorem SS {i:Nat}{x:aT}(e:xs[i]?=some x):K r xs i=r x:=by unfold K;rw [e];rfl
theorem KB {xs ys:Array aT}{i j:Nat}(h:xs[i]?=ys[j]?):K r xs i=K r ys j:=by unfold K;rw [h]
structure Bs (D:aT->Prop) (a₀:Array aT) (lo:Nat) (xs:Array aT):Prop where
 pm:xs.Perm a₀
 dd:∀ x∈a₀.toList,D x
 ah:∀ t,t<lo->xs[t]?=a₀[t]?
theorem Bs.size (h:Bs D a₀ lo xs):xs.size=a₀.size:=h.pm.size_eq
theorem Bs.d (h:Bs D a₀ lo xs) {i:Nat}{x:aT}(e:xs[i]?=some x):D x:=by
 obtain ⟨h1,rfl⟩:=cB.mp e;exact h.dd _ ((fh.mp h.pm).mem_iff.mp (by simp))
theorem Bs.rev (h:Bs D a₀ lo xs) (hi:lo<=i) (hj:j<=xs.size):Bs D a₀ lo (mirror xs i j ((j-i)/2)) :=
 ⟨(mirror_perm _ _ _ _).trans h.pm,h.dd,λt ht=>by rw [Xj hj,if_neg (by lia)];exact h.ah t ht⟩
theorem PX (hc:FU prog w A s κ D r) (h:Bs D a₀ lo xs) {Q:Option Bool->dz->Prop}(hi:i<xs.size) (hj:j<xs.size) (hq:Q (some (decide (K r xs i<K r xs j))) (a9 κ xs pd g none)):vK (aL prog w) A E s (ltAt' i j) Q (a9 κ xs pd g none):=by
 obtain ⟨x,e⟩:=fV hi;obtain ⟨y,f⟩:=fV hj;rw [SS e,SS f] at hq;rw [ltAt'_eq];exact aR (qf (aR (mZ e (aR (mZ f (w_lt hc rfl (h.d e) (h.d f) hq))))))
theorem PY (hj:j<=xs.size) (t:Nat):K r (mirror xs i j ((j-i)/2)) t=if i<=t/\t<j then K r xs (i+j-1-t) else K r xs t:=by
 have e:=Xj (i:=i) hj t
 split
 .rename_i h;rw [if_pos h] at e;exact KB e
 .rename_i h;rw [if_neg h] at e;exact KB e
def Up (r:aT->Int) (xs:Array aT) (lo hi:Nat):Prop:=∀ t u,lo<=t->t<=u->u<hi->K r xs t<=K r xs u
def Dn (r:aT->Int) (xs:Array aT) (lo hi:Nat):Prop:=∀ t u,lo<=t->t<=u->u<hi->K r xs u<=K r xs t
theorem Up.next (h:Up r xs lo (lo+n)) (hn:0<n) (hl:K r xs (lo+n-1)<=K r xs (lo+n)):Up r xs lo (lo+(n+1)):=λt u h1 h2 h3=>by
 by_cases c:u<lo+n
 .exact h t u h1 h2 c
 .have:u=lo+n:=by lia
  subst this
  by_cases d:t=lo+n
  .subst d;exact nv _
  .exact cZ (h t _ h1 (by lia) (by lia)) hl
theorem Dn.next (h:Dn r xs lo (lo+n)) (hn:0<n) (hl:K r xs (lo+n)<=K r xs (lo+n-1)):Dn r xs lo (lo+(n+1)):=λt u h1 h2 h3=>by
 by_cases c:u<lo+n
 .exact h t u h1 h2 c
 .have:u=lo+n:=by lia
  subst this
  by_cases d:t=lo+n
  .subst d;exact nv _
  .exact cZ hl (h t _ h1 (by lia) (by lia))
theorem KC (hj:j<=xs.size) (h:∀ t,i<=t->t<j->K r xs t=K r xs (j-1)) (t:Nat):K r (mirror xs i j ((j-i)/2)) t=K r xs t:=by
 rw [PY hj]
 split
 .rw [h _ (by lia) (by lia),h t (by lia) (by lia)]
 .rfl
theorem Ut (hc:FU prog w A s κ D r) (h:Bs D a₀ lo xs) (hz:lo+nrem<=xs.size) (h1:1<=n) (hn:n<=nrem) (hu:Up r xs lo (lo+n)) {Q:C1->dz->Prop}
  (hq:∀ m,n<=m->m<=nrem->Up r xs lo (lo+m)->(m<nrem->K r xs (lo+m)<K r xs (lo+m-1))->Q (none,m) (a9 κ xs pd g none)):vK (aL prog w) A E s (forIn [n:nrem] ((none,n):C1) (SR lo)) Q (a9 κ xs pd g none):=by
 refine fB (I:=λx c st'=>st'=a9 κ xs pd g none/\c=(none,x)/\Up r xs lo (lo+x)) ?_ ?_ ⟨rfl,rfl,hu⟩
 .rintro x c st' a1 a2 ⟨rfl,rfl,a3⟩;unfold SR;refine aR (PX hc h (by dsimp only;lia) (by dsimp only;lia) ?_);dsimp only
  by_cases c:K r xs (lo+x)<K r xs (lo+x-1)
  .rw [decide_eq_true c,if_pos rfl];exact bf (hq x a1 (by lia) a3 λ_=>c)
  .rw [decide_eq_false c,if_neg (by simp)];exact bf ⟨rfl,rfl,a3.next (by lia) (pF.mp c)⟩
 .rintro c st' ⟨rfl,rfl,a3⟩
  have e:max n nrem=nrem:=by lia
  rw [e] at a3 ⊢;exact hq nrem hn (ak _) a3 λz=>absurd z (by lia)
theorem Ye (hc:FU prog w A s κ D r) (h:Bs D a₀ lo xs) (hz:lo+nrem<=xs.size) (h1:1<=n) (hn:n<=nrem) (hd:Dn r xs lo (lo+n)) {Q:Option Nat->dz->Prop}
  (hq:∀ m ys,1<=m->m<=nrem->Bs D a₀ lo ys->Up r ys lo (lo+m)->Q (some m) (a9 κ ys pd g none)):vK (aL prog w) A E s (tl lo n nrem) Q (a9 κ xs pd g none):=by
 unfold tl;rw [vF];refine aR (iA ?_);have h':=h.rev (i:=lo) (j:=lo+n) (ak _) (by lia);refine aR (Ut hc h' (by rw [WV];exact hz) h1 hn (λt u a1 a2 a3=>?_) λm b1 b2 b3 _=>bf (hq m _ (by lia) b2 h' b3))
 show K r (mirror xs _ _ _) t<=K r (mirror xs _ _ _) u
 rw [PY (by lia),PY (by lia),if_pos (by lia),if_pos (by lia)];exact hd _ _ (by lia) (by lia) (by lia)
theorem Uu (hc:FU prog w A s κ D r) (h:Bs D a₀ lo xs) (hz:lo+nrem<=xs.size) (hn:n+1<=nrem) (hd:Dn r xs lo (lo+(n+1))) {Q:Option Nat->dz->Prop}
  (hq:∀ m ys,1<=m->m<=nrem->Bs D a₀ lo ys->Up r ys lo (lo+m)->Q (some m) (a9 κ ys pd g none)):vK (aL prog w) A E s (Zr lo n nrem) Q (a9 κ xs pd g none):=by
 unfold Zr;refine aR (G7 (i9 ⟨rfl,?_⟩));have hs:=h.size
 refine aR (mR (fB (I:=λx c st'=>∃ ys e,st'=a9 κ ys pd g none/\c=(none,x,e)/\Bs D a₀ lo ys/\Dn r ys lo (lo+x)/\e+1<=x/\∀ t,lo+x-(e+1)<=t->t<lo+x->K r ys t=K r ys (lo+x-1))
  (Q:=λc st'=>∃ x ys e,n+1<=x/\x<=nrem/\st'=a9 κ ys pd g none/\c=(none,x,e)/\Bs D a₀ lo ys/\Dn r ys lo (lo+x)/\e+1<=x/\∀ t,lo+x-(e+1)<=t->t<lo+x->K r ys t=K r ys (lo+x-1)) ?_ ?_ ⟨xs,0,rfl,rfl,h,hd,by lia,λt _ _=>by congr 1;lia⟩) ?_)
 .rintro x c st' a1 a2 ⟨ys,e,rfl,rfl,b1,b2,b3,b4⟩;have hy:=b1.size;unfold Yd;refine aR (PX hc b1 (by dsimp only;lia) (by dsimp only;lia) ?_);dsimp only
  by_cases c:K r ys (lo+x)<K r ys (lo+x-1)
  .rw [decide_eq_true c,if_pos rfl];have d2:=b2.next (by lia) (fZ c)
   by_cases d:e>0
   .rw [if_pos d,vF];have sm:=KC (r:=r) (xs:=ys) (by lia) b4;refine aR (iA (bf ⟨_,0,rfl,rfl,b1.rev (i:=lo+x-(e+1)) (j:=lo+x) (by lia) (by lia),λt u z1 z2 z3=>?_,by lia,λt _ _=>by congr 1;lia⟩));rw [sm,sm];exact d2 t u z1 z2 z3
   .rw [if_neg d];exact bf ⟨ys,0,rfl,rfl,b1,d2,by lia,λt _ _=>by congr 1;lia⟩
  .rw [decide_eq_false c,if_neg (by simp)];refine aR (PX hc b1 (by lia) (by lia) ?_);dsimp only
   by_cases d:K r ys (lo+x-1)<K r ys (lo+x)
   .rw [decide_eq_true d,if_pos rfl];exact bf ⟨x,ys,e,a1,by lia,rfl,rfl,b1,b2,b3,b4⟩
   .rw [decide_eq_false d,if_neg (by simp)];refine bf ⟨ys,e+1,rfl,rfl,b1,b2.next (by lia) (by lia),by lia,λt z1 z2=>?_⟩
    have e1:lo+(x+1)-1=lo+x:=by lia
    rw [e1]
    by_cases f:t=lo+x
    .rw [f]
    .rw [b4 t (by lia) (by lia)];lia
 .rintro c st' ⟨ys,e,rfl,rfl,b1,b2,b3,b4⟩
  have e1:max (n+1) nrem=nrem:=by lia
  rw [e1] at b2 b3 b4 ⊢;exact ⟨nrem,ys,e,hn,ak _,rfl,rfl,b1,b2,b3,b4⟩
 .rintro c st' ⟨x,ys,e,a1,a2,rfl,rfl,b1,b2,b3,b4⟩;have hy:=b1.size;dsimp only
  by_cases d:e>0
  .rw [if_pos d,vF];have sm:=KC (r:=r) (xs:=ys) (by lia) b4;refine aR (iA (Ye hc (b1.rev (i:=lo+x-(e+1)) (j:=lo+x) (by lia) (by lia)) (by rw [WV];lia) (by lia) a2 (λt u z1 z2 z3=>?_) hq));rw [sm,sm];exact b2 t u z1 z2 z3
  .rw [if_neg d];exact Ye hc b1 (by lia) (by lia) a2 b2 hq
theorem w_count (hc:FU prog w A s κ D r) (h:Bs D a₀ lo xs) (hz:lo+nrem<=xs.size) (h1:1<=nrem) {Q:Option Nat->dz->Prop}
  (hq:∀ m ys,1<=m->m<=nrem->Bs D a₀ lo ys->Up r ys lo (lo+m)->Q (some m) (a9 κ ys pd g none)):vK (aL prog w) A E s (countRun' lo nrem) Q (a9 κ xs pd g none):=by
 rw [PV]
 refine aR (Ut hc h hz (ak 1) h1 (λt u a1 a2 a3=>by
  have:t=u:=by lia
  subst this;exact nv _) λm b1 b2 b3 b4=>?_)
 dsimp only
 by_cases e:m=nrem
 .rw [if_pos (by simpa using e)];exact bf (hq m xs b1 b2 h b3)
 .rw [if_neg (by simpa using e)];have b4:=b4 (by lia)
  by_cases c:m>1
  .rw [if_pos c];refine aR (PX hc h (by lia) (by lia) ?_);dsimp only
   by_cases d:K r xs lo<K r xs (lo+m-1)
   .rw [decide_eq_true d,if_pos rfl];exact bf (hq m xs b1 b2 h b3)
   .rw [decide_eq_false d,if_neg (by simp),vF]
    have al:∀ t,lo<=t->t<lo+m->K r xs t=K r xs (lo+m-1):=λt z1 z2=>by
     have:=b3 lo t (ak _) z1 z2;have:=b3 t (lo+m-1) z1 (by lia) (by lia);lia
    have sm:=KC (r:=r) (xs:=xs) (by lia) al
    have dn:Dn r xs lo (lo+m):=λt u z1 z2 z3=>by rw [al t z1 (by lia),al u (by lia) z3];exact nv _
    refine aR (iA (Uu hc (h.rev (i:=lo) (j:=lo+m) (ak _) (by lia)) (by rw [WV];lia) (by lia) (λt u z1 z2 z3=>?_) hq));rw [sm,sm];exact dn.next (by lia) (fZ b4) t u z1 z2 z3
  .rw [if_neg c]
   have:m=1:=by lia
   subst this
   exact Uu hc h hz (by lia) (Dn.next (λt u z1 z2 z3=>by
    have:t=u:=by lia
    subst this;exact nv _) (by lia) (fZ b4)) hq
end
end Sy
namespace Sy
open PySem.W
def plS (lo k:Nat) (_:Nat) (z:Option Bool×Nat×Nat):SM (ForInStep (Option Bool×Nat×Nat)) :=
 if z.2.1>=z.2.2 then pure (.done (none,z.2)) else do
  match ← ltAt' (lo+k) (lo+(z.2.1+z.2.2)/2) with
  | some c=>if c=true then pure (.yield (none,z.2.1,(z.2.1+z.2.2)/2)) else pure (.yield (none,(z.2.1+z.2.2)/2+1,z.2.2))
  | _=>pure (.done (some false,z.2))
def biS (lo:Nat) (k:Nat) (_:Option Bool×Unit):SM (ForInStep (Option Bool×Unit)):=do
 let z ← forIn [0:k] ((none,0,k):Option Bool×Nat×Nat) (plS lo k)
 (match z.1 with
 | some r=>pure (.done (some r,()))
 | none=>do
  moveDown' (lo+k) (lo+z.2.1)
  pure (.yield (none,())))
theorem Wc (lo n ok:Nat):WW lo n ok=(do
  let z ← forIn [max ok 1:n] ((none,()):Option Bool×Unit) (biS lo)
  (match z.1 with
  | some r=>pure r
  | none=>pure true)):=by kernel_rfl
section
variable {prog:bB}{w:ck}{A:cM}{E:aj->ax->Prop}{s:ax}{κ:ji} {D:aT->Prop}{r:aT->Int}{st:dz}{xs ys a₀:Array aT} {pd:Array (Nat×Nat×Nat)}{i j lo hi n m q g nrem:Nat}
theorem Uv {x l:Nat}(hx:x<xs.size) (hl:l<=x) (i:Nat):K r (bubble xs x (x-l)) i=if i=l then K r xs x else if l<i/\i<=x then K r xs (i-1) else K r xs i:=by
 have e:=getElem?_bubble hx (x-l) (by lia) i;rw [show x-(x-l)=l by lia] at e
 by_cases h1:i=l
 .rw [if_pos h1] at e ⊢;exact KB e
 .rw [if_neg h1] at e ⊢
  by_cases h2:l<i/\i<=x
  .rw [if_pos h2] at e ⊢;exact KB e
  .rw [if_neg h2] at e ⊢;exact KB e
theorem PZ (hc:FU prog w A s κ D r) (h:Bs D a₀ lo xs) (hz:lo+n<=xs.size) (h1:1<=m) (hm:m<=n) (hu:Up r xs lo (lo+m)) {Q:Bool->dz->Prop}
  (hq:∀ ys,Bs D a₀ lo ys->Up r ys lo (lo+n)->Q true (a9 κ ys pd g none)):vK (aL prog w) A E s (WW lo n m) Q (a9 κ xs pd g none):=by
 rw [Wc,show max m 1=m by lia];have hs:=h.size;refine aR (mR (fB (I:=λk c st'=>c.1=none/\∃ ys,st'=a9 κ ys pd g none/\Bs D a₀ lo ys/\Up r ys lo (lo+k)) (Q:=λc st'=>c.1=none/\∃ ys,st'=a9 κ ys pd g none/\Bs D a₀ lo ys/\Up r ys lo (lo+n)) ?_ ?_ ⟨rfl,xs,rfl,h,hu⟩) ?_)
 .rintro k c st' a1 a2 ⟨_,ys,rfl,b1,b2⟩;have hy:=b1.size;unfold biS
  refine aR (mR (fB (I:=λx z st'=>st'=a9 κ ys pd g none/\z.1=none/\z.2.1<=z.2.2/\z.2.2<=k/\(∀ t,lo<=t->t<lo+z.2.1->K r ys t<=K r ys (lo+k))/\(∀ t,lo+z.2.2<=t->t<lo+k->K r ys (lo+k)<=K r ys t)/\z.2.2+x<=z.2.1+k)
   (Q:=λz st'=>st'=a9 κ ys pd g none/\z.1=none/\z.2.1<=k/\(∀ t,lo<=t->t<lo+z.2.1->K r ys t<=K r ys (lo+k))/\∀ t,lo+z.2.1<=t->t<lo+k->K r ys (lo+k)<=K r ys t) ?_ ?_ ⟨rfl,rfl,aM _,ak _,λt z1 z2=>absurd z2 (by dsimp only;lia),λt z1 z2=>absurd z2 (by dsimp only at z1;lia),by dsimp only;lia⟩) ?_)
  .rintro x ⟨z,l,u⟩ st' _ _ ⟨rfl,rfl,c1,c2,c3,c4,c5⟩;dsimp only at c1 c2 c3 c4 c5;unfold plS;dsimp only
   by_cases d:l>=u
   .rw [if_pos d]
    have:l=u:=by lia
    subst this;exact bf ⟨rfl,rfl,c2,c3,c4⟩
   .rw [if_neg d];refine aR (PX hc b1 (by lia) (by lia) ?_);dsimp only
    by_cases f:K r ys (lo+k)<K r ys (lo+(l+u)/2)
    .rw [decide_eq_true f,if_pos rfl];exact bf ⟨rfl,rfl,by dsimp only;lia,by dsimp only;lia,c3,λt z1 z2=>cZ (fZ f) (b2 _ _ (by lia) z1 z2),by dsimp only;lia⟩
    .rw [decide_eq_false f,if_neg (by simp)];exact bf ⟨rfl,rfl,by dsimp only;lia,c2,λt z1 z2=>cZ (b2 _ (lo+(l+u)/2) z1 (by dsimp only at z2;lia) (by lia)) (pF.mp f),c4,by dsimp only;lia⟩
  .rintro ⟨z,l,u⟩ st' ⟨rfl,rfl,c1,c2,c3,c4,c5⟩;dsimp only at c1 c2 c3 c4 c5
   have:l=u:=by lia
   subst this;exact ⟨rfl,rfl,c2,c3,c4⟩
  .rintro ⟨z,l,u⟩ st' ⟨rfl,rfl,c2,c3,c4⟩;dsimp only at c2 c3 c4 ⊢;rw [moveDown'_eq];refine aR (iA (bf ⟨rfl,_,rfl,⟨(bubble_perm _ _ _).trans b1.pm,b1.dd,λt ht=>?_⟩,λt v z1 z2 z3=>?_⟩))
   .have e:=getElem?_bubble (xs:=ys) (src:=lo+k) (by lia) (lo+k-(lo+l)) (by lia) t
    show (bubble ys _ _)[t]?=_
    rw [e,if_neg (by lia),if_neg (by lia)];exact b1.ah t ht
   .show K r (bubble ys _ _) t<=K r (bubble ys _ _) v
    rw [Uv (by lia) (by lia),Uv (by lia) (by lia)]
    by_cases d1:t=lo+l
    .rw [if_pos d1]
     by_cases d2:v=lo+l
     .rw [if_pos d2];exact nv _
     .rw [if_neg d2,if_pos (by lia)];exact c4 _ (by lia) (by lia)
    .rw [if_neg d1]
     by_cases d2:v=lo+l
     .rw [if_pos d2,if_neg (by lia)];exact c3 t z1 (by lia)
     .rw [if_neg d2]
      by_cases d3:lo+l<t
      .rw [if_pos (by lia),if_pos (by lia)];exact b2 _ _ (by lia) (by lia) (by lia)
      .rw [if_neg (by lia)]
       by_cases d4:lo+l<v
       .rw [if_pos (by lia)];exact b2 _ _ (by lia) (by lia) (by lia)
       .rw [if_neg (by lia)];exact b2 _ _ (by lia) (by lia) (by lia)
 .rintro c st' ⟨e,ys,rfl,b1,b2⟩;rw [show max m n=n by lia] at b2;exact ⟨e,ys,rfl,b1,b2⟩
 .rintro ⟨c,u⟩ st' ⟨e,ys,rfl,b1,b2⟩;cases e;exact bf (hq ys b1 b2)
end
end Sy
namespace Sy
open PySem.W
def P0 (i:Nat) (q:Array aT) (xs:Array aT):Array aT:=q.toList.zipIdx.foldl (λa x=>match x with|(p,j)=>a.setIfInBounds (i+j) p) xs
def SU (i:Nat) (q:Array aT):SM Bool:=do
 modify λt=>a9 (kindOf t) (P0 i q (mQ t)) (cN t) (gallopOf t) (iP t)
 let t ← get
 pure (iP t).isNone
def Zu (xs:Array aT) (sa na sb nb:Nat):SM Bool:=do
 match ← nR false (← l8 xs sb) xs sa na 0 with
 | some k=>(if (na-k == 0)=true then pure true else (do
   match ← nR true (← l8 xs (sa+k+(na-k)-1)) xs sb nb (nb-1) with
   | some m=>(if (m == 0)=true then pure true else if na-k<=m then (do
     let q ← Bb (xs.extract (sa+k) sb) (xs.extract sb (sb+m))
     SU (sa+k) q) else (do
     let q ← Bc (xs.extract (sa+k) sb) (xs.extract sb (sb+m))
     SU (sa+k) q))
   | _=>pure false))
 | _=>pure false
theorem Yg (i:Nat):WX i=(do
  let t ← get
  match ((cN t)[i]?,(cN t)[i+1]?) with
  | (some (sa,na,pw),some (sb,nb,_))=>(do
   set (a9 (kindOf t) (mQ t) (((cN t).setIfInBounds i (sa,na+nb,pw)).eraseIdxIfInBounds (i+1)) (gallopOf t) (iP t))
   Zu (mQ t) sa na sb nb)
  | _=>liftM (unsupported "internal:list.sort.pending")):=by kernel_rfl
theorem P9 (i:Nat):∀ (l:List aT) (o:Nat) (xs:Array aT),i+o+l.length<=xs.size ->
  ((l.zipIdx o).foldl (λa x=>match x with|(p,j)=>a.setIfInBounds (i+j) p) xs).toList=xs.toList.take (i+o)++l++xs.toList.drop (i+o+l.length)
 | [],o,xs,_=>by simp
 | p::l,o,xs,h=>by
  rw [List.zipIdx_cons,List.foldl_cons];simp only [bI] at h;rw [P9 i l (o+1) _ (by simp;lia)]
  have hl:i+o<xs.toList.length:=by simp;lia
  simp only [Array.toList_setIfInBounds,bI];rw [show i+(o+1)=i+o+1 by lia,fo,List.take_set_of_le (ak _),lL hl,List.drop_set_of_lt (by lia),show i+o+1+l.length=i+o+(l.length+1) by lia];simp
theorem We {i:Nat}{q xs:Array aT}(h:i+q.size<=xs.size):(P0 i q xs).toList=xs.toList.take i++q.toList++xs.toList.drop (i+q.size):=by
 exact P9 i q.toList 0 xs (by simpa using h)
section
variable {prog:bB}{w:ck}{A:cM}{E:aj->ax->Prop}{s:ax}{κ:ji} {D:aT->Prop}{r:aT->Int}{st:dz}{xs ys a₀:Array aT} {pd:Array (Nat×Nat×Nat)}{i j lo hi n m k q g pw nrem:Nat}
theorem Yh {st':dz}{Q:PUnit->dz->Prop}(h:Q ⟨⟩ st'):vK (aL prog w) A E s (set st':SM PUnit) Q st:=iA (f:=λ_=>st') h
theorem lT {t:Nat}{x:aT}(e:(xs.extract i j)[t]?=some x):i+t<j/\i+t<xs.size/\xs[i+t]?=some x:=by
 have h:=qX e;simp at h
 have e2:(xs.extract i j)[t]?=xs[i+t]?:=by rw [Array.getElem?_extract,if_pos (by lia)]
 exact ⟨by lia,by lia,by rw [← e2,e]⟩
theorem Uw (h:St r xs i j):(xs.extract i j).toList.Pairwise λx y=>r x<=r y:=pw_of λt u x y _ h2 _ e f=>h _ _ x y (g9 _ _) (by lia) (lT f).1 (lT e).2.2 (lT f).2.2
theorem St.whole {n1:Nat}(hn:n1<=xs.size) (h:∀ t u x y,t<n1->n1<=u->xs[t]?=some x->xs[u]?=some y->r x<=r y) (h1:St r xs 0 n1) (h2:St r xs n1 xs.size):St r xs 0 xs.size:=λt u x y a1 a2 a3 e f=>by
 by_cases c:u<n1
 .exact h1 t u x y a1 a2 c e f
 .by_cases d:t<n1
  .exact h t u x y d (by lia) e f
  .exact h2 t u x y (by lia) a2 a3 e f
theorem St.YI (h:xs.toList.Pairwise λx y=>r x<=r y):St r xs 0 xs.size:=λt u x y _ a2 a3 e f=>by
 obtain ⟨h1,rfl⟩:=cB.mp e;obtain ⟨h2,rfl⟩:=cB.mp f
 by_cases c:t=u
 .subst c;exact nv _
 .have:=jY.mp h t u (by simpa using h1) (by simpa using h2) (by lia)
  simpa using this
theorem Yi {q:Array aT}{Q:Bool->dz->Prop}(h:∀ g',Q true (a9 κ (P0 i q xs) pd g' none)) (hs:Sm κ xs pd st):vK (aL prog w) A E s (SU i q) Q st:=by
 obtain ⟨g',rfl⟩:=hs;exact aR (iA (aR (qf (bf (h g')))))
theorem Yj {n1 n2:Nat}(hc:FU prog w A s κ D r) (h:Bs D a₀ 0 xs) (h1:0<n1) (h2:0<n2) (hn:n1+n2=xs.size) (s1:St r xs 0 n1) (s2:St r xs n1 xs.size) {Q:Bool->dz->Prop}
  (hq:∀ ys g',Bs D a₀ 0 ys->St r ys 0 ys.size->Q true (a9 κ ys pd g' none)):vK (aL prog w) A E s (Zu xs 0 n1 n1 n2) Q (a9 κ xs pd g none):=by
 obtain ⟨y0,ey⟩:=fV (a:=xs) (i:=n1) (by lia);obtain ⟨x1,ex⟩:=fV (a:=xs) (i:=n1-1) (by lia);unfold Zu;refine aR (mZ ey (aR (oM hc rfl (λt x e=>h.d e) (h.d ey) (by lia) (λt u x y z1 z2 z3=>s1 t u x y z1 z2 (by lia)) h1 λk k1 k2 k3=>?_)))
 have k2':∀ t x,t<k->xs[t]?=some x->r x<=r y0:=λt x z e=>by simpa [Bv] using k2 t x (aM _) (by lia) e
 have k3':∀ t x,k<=t->t<n1->xs[t]?=some x->r y0<r x:=λt x z z' e=>by simpa [Bv] using k3 t x (by lia) (by lia) e
 have yl:∀ t x,n1<=t->xs[t]?=some x->r y0<=r x:=λt x z e=>s2 _ _ _ _ (ak _) z (qX e) ey e;have xl:∀ t x,t<n1->xs[t]?=some x->r x<=r x1:=λt x z e=>s1 _ _ _ _ (aM _) (by lia) (by lia) e ex;dsimp only
 by_cases c:n1-k=0
 .rw [if_pos (by simpa using c)];exact bf (hq xs g h (St.whole (n1:=n1) (by lia) (λt u x y z1 z2 e f=>cZ (k2' t x (by lia) e) (yl u y z2 f)) s1 s2))
 .rw [if_neg (by simpa using c)];rw [show 0+k+(n1-k)-1=n1-1 by lia,show 0+k=k by lia];refine aR (mZ ex (aR (oM hc rfl (λt x e=>h.d e) (h.d ex) (by lia) (λt u x y z1 z2 z3=>s2 t u x y z1 z2 (by lia)) (by lia) λm m1 m2 m3=>?_)));have m2':∀ t x,n1<=t->t<n1+m->xs[t]?=some x->r x<r x1:=λt x z z' e=>of_decide_eq_true (m2 t x z z' e);have m3':∀ t x,n1+m<=t->xs[t]?=some x->r x1<=r x:=λt x z e=>pF.mp (of_decide_eq_false (m3 t x z (by have:=qX e;lia) e));dsimp only
  by_cases d:m=0
  .rw [if_pos (by simpa using d)];exact bf (hq xs g h (St.whole (n1:=n1) (by lia) (λt u x y z1 z2 e f=>cZ (xl t x z1 e) (m3' u y (by lia) f)) s1 s2))
  .rw [if_neg (by simpa using d)]
   have sx:(xs.extract k n1).size=n1-k:=by simp;lia
   have sy:(xs.extract n1 (n1+m)).size=m:=by simp;lia
   have fin:∀ q,F r ((xs.extract k n1).toList++(xs.extract n1 (n1+m)).toList) q->∀ st',Sm κ xs pd st'->vK (aL prog w) A E s (SU k q) Q st':=λq hF st' hS=>by
    have pm:q.toList.Perm ((xs.extract k n1).toList++(xs.extract n1 (n1+m)).toList):=by simpa using hF.pm
    have lq:q.size=n1-k+m:=by have:=pm.length_eq;rw [bg,aP,aP,aP,sx,sy] at this;exact this
    have el:=We (i:=k) (q:=q) (xs:=xs) (by lia)
    have tk:xs.toList.take k=(xs.extract 0 k).toList:=by simp
    have dp:xs.toList.drop (k+q.size)=(xs.extract (n1+m) xs.size).toList:=by rw [qW];congr 1;lia
    rw [tk,dp] at el
    have wh:xs.toList=(xs.extract 0 k).toList++((xs.extract k n1).toList++(xs.extract n1 (n1+m)).toList)++(xs.extract (n1+m) xs.size).toList:=by
     have e1:=Mo xs 0 k;have e2:=Mo xs k (n1-k);have e3:=Mo xs n1 m;rw [show k+(n1-k)=n1 by lia] at e2;rw [qW];rw [Nat.zero_add] at e1;rw [df,df,← e3,← e2,← e1,Hh]
    have mq:∀ x∈q.toList,(∃ t,k<=t/\t<n1/\xs[t]?=some x)\/∃ t,n1<=t/\t<n1+m/\xs[t]?=some x:=λx hx=>by
     rcases aS.mp (pm.mem_iff.mp hx) with z|z
     .obtain ⟨t,a1,a2,_,e⟩:=x6 z;exact .inl ⟨t,a1,a2,e⟩
     .obtain ⟨t,a1,a2,_,e⟩:=x6 z;exact .inr ⟨t,a1,a2,e⟩
    refine Yi (λg'=>hq _ g' ⟨fh.mpr ?_,h.dd,λt ht=>absurd ht (by lia)⟩ (St.YI ?_)) hS
    .rw [el];refine List.Perm.trans ?_ (fh.mp h.pm);rw [wh];exact (pm.append_left _).append_right _
    .rw [el];refine gb.mpr ⟨gb.mpr ⟨Uw λt u x y a1 a2 a3=>s1 t u x y a1 a2 (by lia),hF.so,λx hx y hy=>?_⟩,Uw λt u x y a1 a2 a3=>s2 t u x y (by lia) a2 a3,λx hx y hy=>?_⟩
     .obtain ⟨t,_,a2,_,e⟩:=x6 hx
      rcases mq y hy with ⟨u,b1,b2,f⟩|⟨u,b1,b2,f⟩
      .exact s1 t u x y (aM _) (by lia) b2 e f
      .exact cZ (k2' t x a2 e) (yl u y b1 f)
     .obtain ⟨u,b1,b2,_,f⟩:=x6 hy
      rcases aS.mp hx with hx|hx
      .obtain ⟨t,_,a2,_,e⟩:=x6 hx;exact cZ (k2' t x a2 e) (yl u y (by lia) f)
      .rcases mq x hx with ⟨t,a1,a2,e⟩|⟨t,a1,a2,e⟩
       .exact cZ (xl t x a2 e) (m3' u y b1 f)
       .exact s2 t u x y a1 (by lia) b2 e f
   have da:∀ (t:Nat) x,(xs.extract k n1)[t]?=some x->D x:=λt x e=>h.d (lT e).2.2;have db:∀ (t:Nat) x,(xs.extract n1 (n1+m))[t]?=some x->D x:=λt x e=>h.d (lT e).2.2;have sa:St r (xs.extract k n1) 0 (xs.extract k n1).size:=λt u x y _ a2 _ e f=>s1 _ _ x y (aM _) (by lia) (lT f).1 (lT e).2.2 (lT f).2.2;have sb:St r (xs.extract n1 (n1+m)) 0 (xs.extract n1 (n1+m)).size:=λt u x y _ a2 _ e f=>s2 _ _ x y (g9 _ _) (by lia) (lT f).2.1 (lT e).2.2 (lT f).2.2
   have yx:∀ (t u:Nat) x y,(xs.extract k n1)[t]?=some x->(xs.extract n1 (n1+m))[0]?=some y->r y<=r x:=λt u x y e f=>by
    have f:=(lT f).2.2;rw [Nat.add_zero,ey] at f;cases f;exact fZ (k3' _ x (by lia) (lT e).1 (lT e).2.2)
   have xy:∀ (t u:Nat) x y,t+1=(xs.extract k n1).size->(xs.extract k n1)[t]?=some x->(xs.extract n1 (n1+m))[u]?=some y->r y<=r x:=λt u x y z e f=>by
    have e:=(lT e).2.2;rw [sx] at z;rw [show k+t=n1-1 by lia,ex] at e;cases e;exact fZ (m2' _ y (by lia) (lT f).1 (lT f).2.2)
   by_cases f:n1-k<=m
   .rw [if_pos f];exact aR (w_lo hc ⟨da,db,sa,sb,xy⟩ rfl (by lia) (by lia) (λx y e f=>yx 0 0 y x f e) λq st' w1 w2=>fin q w2 st' w1)
   .rw [if_neg f];exact aR (w_hi hc ⟨da,db,sa,sb,λu x y e f=>yx u 0 y x f e⟩ rfl (by lia) (by lia) (λx y e f=>xy _ _ y x (by lia) f e) λq st' w1 w2=>fin q w2 st' w1)
end
end Sy
namespace Sy
open PySem.W
theorem Wg {n:Nat}(h2:2<=n) (h:n<128):n<=2*tI n n 0/\tI n n 0<=n/\1<=tI n n 0:=by
 obtain ⟨f,rfl⟩:∃ f,n=f+2:=⟨n-2,by lia⟩
 by_cases c:f+2<64
 .have e:tI (f+1+1) (f+2) 0=f+2+0:=by rw [TU,if_pos c]
  have e:tI (f+2) (f+2) 0=f+2:=e;lia
 .have e:tI (f+1+1) (f+2) 0=(f+2)/2+max 0 ((f+2)%2):=by rw [TU,if_neg c,TU,if_pos (by lia)]
  have e:tI (f+2) (f+2) 0=(f+2)/2+max 0 ((f+2)%2):=e;lia
abbrev R1:=Option Unit×Nat
abbrev R0:=Option Unit×Unit
def cl1 (pw:Nat) (_:Nat) (_:R0):SM (ForInStep R0):=do
 let t ← get
 match (if (cN t).size>1 then (cN t)[(cN t).size-2]? else none) with
 | some (_,_,old)=>(if old<=pw then pure (.done (none,())) else (do
   let b ← WX ((cN t).size-2)
   if (!b)=true then pure (.done (some (),())) else pure (.yield (none,()))))
 | _=>pure (.done (none,()))
def Yk (N lo n:Nat):SM (ForInStep R1):=do
 let t ← get
 match (cN t).back? with
 | some (s1,n1,_)=>(do
  let z ← forIn [0:N] ((none,()):R0) (cl1 (power' N (2*s1+n1) (2*s1+n1+n1+n) N))
  (match z.1 with
  | some r=>pure (.done (some r,lo))
  | none=>do
   modify λt=>setPending t ((cN t).modify ((cN t).size-1) λx=>(x.1,x.2.1,power' N (2*s1+n1) (2*s1+n1+n1+n) N))
   modify λt=>setPending t ((cN t).push (lo,n,0))
   pure (.yield (none,lo+n))))
 | _=>(do
  modify λt=>setPending t ((cN t).push (lo,n,0))
  pure (.yield (none,lo+n)))
def NG (N mr:Nat) (_:Nat) (z:R1):SM (ForInStep R1) :=
 if z.2>=N then pure (.done (none,z.2)) else do
  match ← countRun' z.2 (N-z.2) with
  | some f=>(if f<mr then (do
    liftM (Em "list.sort.binary-insertion")
    let b ← WW z.2 (min (N-z.2) mr) f
    if (!b)=true then pure (.done (some (),z.2)) else Yk N z.2 (min (N-z.2) mr)) else Yk N z.2 f)
  | _=>pure (.done (some (),z.2))
def cl2 (_:Nat) (_:R0):SM (ForInStep R0):=do
 let t ← get
 if (cN t).size<=1 then pure (.done (none,())) else (do
  let b ← WX (if (if (cN t).size-2>0 then (cN t)[(cN t).size-2-1]?.map (·.2.1) else none).any (·<((cN t)[(cN t).size-2+1]?.elim 0 (·.2.1))) then (cN t).size-2-1 else (cN t).size-2)
  if (!b)=true then pure (.done (some (),())) else pure (.yield (none,())))
theorem SV:sortRuns'=(do
  let t ← get
  let z ← forIn [0:(mQ t).size] ((none,0):R1) (NG (mQ t).size (tI (mQ t).size (mQ t).size 0))
  (match z.1 with
  | some r=>pure r
  | none=>do
   let y ← forIn [0:(mQ t).size] ((none,()):R0) cl2
   (match y.1 with
   | some r=>pure r
   | none=>pure ()))):=by kernel_rfl
section
variable {prog:bB}{w:ck}{A:cM}{E:aj->ax->Prop}{s:ax}{κ:ji} {D:aT->Prop}{r:aT->Int}{xs ys a₀:Array aT} {pd:Array (Nat×Nat×Nat)}{i j lo hi n m k q g pw nrem N n1:Nat}
theorem Up.st (h:Up r xs i j):St r xs i j:=λt u x y a1 a2 a3 e f=>by have:=h t u a1 a2 a3;rwa [SS e,SS f] at this
theorem Wh {Q:ForInStep R1->dz->Prop}(h:Q (.yield (none,lo+n)) (a9 κ xs #[(lo,n,0)] g none)):vK (aL prog w) A E s (Yk N lo n) Q (a9 κ xs #[] g none) :=
 aR (qf (aR (iA (bf h))))
theorem Wi {Q:ForInStep R1->dz->Prop}(h:∀ pw,Q (.yield (none,lo+n)) (a9 κ xs #[(0,n1,pw),(lo,n,0)] g none)):vK (aL prog w) A E s (Yk N lo n) Q (a9 κ xs #[(0,n1,0)] g none):=by
 refine aR (qf ?_)
 show vK _ _ _ _ (_ >>= _) _ _
 refine aR (mR (fB (I:=λ_ c st'=>c=(none,())/\st'=a9 κ xs #[(0,n1,0)] g none) (Q:=λc st'=>c=(none,())/\st'=a9 κ xs #[(0,n1,0)] g none) ?_ (λ_ _ z=>z) ⟨rfl,rfl⟩) ?_)
 .rintro x c st' _ _ ⟨rfl,rfl⟩;exact aR (qf (bf ⟨rfl,rfl⟩))
 .rintro c st' ⟨rfl,rfl⟩;exact aR (iA (aR (iA (bf (h _)))))
theorem Ux {mr:Nat}(hc:FU prog w A s κ D r) (hD:∀ x∈xs.toList,D x) (h1:lo<N) (hN:N=xs.size) (hm:1<=mr) {Q:ForInStep R1->dz->Prop}{z:R1}(hz:z.2=lo)
  (h:∀ ys m,1<=m->m<=N-lo->min (N-lo) mr<=m->ys.Perm xs->(∀ t,t<lo->ys[t]?=xs[t]?)->Up r ys lo (lo+m)->vK (aL prog w) A E s (Yk N lo m) Q (a9 κ ys pd g none)):vK (aL prog w) A E s (NG N mr i z) Q (a9 κ xs pd g none):=by
 subst hN hz;unfold NG;rw [if_neg (by lia)];refine aR (w_count (a₀:=xs) hc ⟨Array.Perm.refl _,hD,λ_ _=>rfl⟩ (by lia) (by lia) λm ys m1 m2 hb hu=>?_);have hy:=hb.size;dsimp only
 by_cases c:m<mr
 .rw [if_pos c];refine aR (G7 (i9 ⟨rfl,?_⟩));refine aR (PZ hc hb (by lia) m1 (by lia) hu λzs hb' hu'=>?_);exact h zs _ (by lia) (by lia) (ak _) hb'.pm hb'.ah hu'
 .rw [if_neg c];exact h ys m m1 m2 (by lia) hb.pm hb.ah hu
theorem w_runs (hc:FU prog w A s κ D r) (hD:∀ x∈a₀.toList,D x) (h2:2<=a₀.size) (h128:a₀.size<128) {Q:Unit->dz->Prop}
  (hq:∀ ys st',mQ st'=ys->iP st'=none->ys.Perm a₀->St r ys 0 ys.size->Q () st'):vK (aL prog w) A E s sortRuns' Q (a9 κ a₀ #[] 7 none):=by
 obtain ⟨r1,r2,r3⟩:=Wg h2 h128;rw [SV];refine aR (qf ?_)
 show vK _ _ _ _ (forIn [0:a₀.size] _ (NG a₀.size (tI a₀.size a₀.size 0)) >>= _) _ _
 generalize tI a₀.size a₀.size 0=mr at r1 r2 r3;have dp:∀ {ys:Array aT},ys.Perm a₀->∀ x∈ys.toList,D x:=λh x hx=>hD x ((fh.mp h).mem_iff.mp hx)
 refine aR (mR (fB
  (I:=λx c st'=>(x=0/\c=(none,0)/\st'=a9 κ a₀ #[] 7 none)\/(∃ n1 ys,c=(none,n1)/\mr<=n1/\n1<=a₀.size/\(x=1\/n1=a₀.size)/\st'=a9 κ ys #[(0,n1,0)] 7 none/\ys.Perm a₀/\Up r ys 0 n1) \/
   (c=(none,a₀.size)/\∃ n1 pw ys,0<n1/\n1<a₀.size/\st'=a9 κ ys #[(0,n1,pw),(n1,a₀.size-n1,0)] 7 none/\ys.Perm a₀/\Up r ys 0 n1/\Up r ys n1 a₀.size))
  (Q:=λc st'=>c=(none,a₀.size)/\((∃ ys,st'=a9 κ ys #[(0,a₀.size,0)] 7 none/\ys.Perm a₀/\Up r ys 0 a₀.size)\/∃ n1 pw ys,0<n1/\n1<a₀.size/\st'=a9 κ ys #[(0,n1,pw),(n1,a₀.size-n1,0)] 7 none/\ys.Perm a₀/\Up r ys 0 n1/\Up r ys n1 a₀.size)) ?_ ?_ (.inl ⟨rfl,rfl,rfl⟩)) ?_)
 .rintro x c st' _ hx (⟨rfl,rfl,rfl⟩|⟨n1,ys,rfl,b1,b2,b3,rfl,b5,b6⟩|⟨rfl,b⟩)
  .refine Ux hc hD (lo:=0) (by lia) rfl r3 rfl λys m m1 m2 m3 p1 p2 p3=>Wh (.inr (.inl ⟨m,ys,by simp,by lia,by lia,.inl rfl,rfl,p1,by simpa using p3⟩))
  .have hy:=b5.size_eq
   by_cases c:n1=a₀.size
   .unfold NG;rw [if_pos (by dsimp only;lia)];subst c;exact bf ⟨rfl,.inl ⟨ys,rfl,b5,b6⟩⟩
   .refine Ux hc (dp b5) (lo:=n1) (by lia) hy.symm r3 rfl λzs m m1 m2 m3 p1 p2 p3=>Wi λpw=>.inr (.inr ?_)
    have e:m=a₀.size-n1:=by lia
    subst e;rw [show n1+(a₀.size-n1)=a₀.size by lia] at p3 ⊢;exact ⟨rfl,n1,pw,zs,by lia,by lia,rfl,p1.trans b5,λt u z1 z2 z3=>by rw [KB (p2 t (by lia)),KB (p2 u z3)];exact b6 t u z1 z2 z3,p3⟩
  .unfold NG;rw [if_pos (ak _)];exact bf ⟨rfl,.inr b⟩
 .rintro c st' (⟨hx,_⟩|⟨n1,ys,rfl,b1,b2,b3,b4,b5,b6⟩|⟨rfl,b⟩)
  .lia
  .have:n1=a₀.size:=by lia
   subst this;exact ⟨rfl,.inl ⟨ys,b4,b5,b6⟩⟩
  .exact ⟨rfl,.inr b⟩
 .rintro c st' ⟨rfl,b⟩
  refine aR (mR (fB (I:=λx c st'=>c=(none,())/\((∃ ys pw g,st'=a9 κ ys #[(0,a₀.size,pw)] g none/\ys.Perm a₀/\St r ys 0 ys.size)\/x=0/\∃ n1 pw ys,0<n1/\n1<a₀.size/\st'=a9 κ ys #[(0,n1,pw),(n1,a₀.size-n1,0)] 7 none/\ys.Perm a₀/\Up r ys 0 n1/\Up r ys n1 a₀.size))
   (Q:=λc st'=>c=(none,())/\∃ ys pw g,st'=a9 κ ys #[(0,a₀.size,pw)] g none/\ys.Perm a₀/\St r ys 0 ys.size) ?_ ?_ ⟨rfl,?_⟩) ?_)
  .rintro x c st2 _ _ ⟨rfl,⟨ys,pw,g,rfl,b1,b2⟩|⟨rfl,n1,pw,ys,b1,b2,rfl,b4,b5,b6⟩⟩
   .refine aR (qf ?_);rw [if_pos (show (cN (a9 κ ys #[(0,a₀.size,pw)] g none)).size<=1 from ak 1)];exact bf ⟨rfl,ys,pw,g,rfl,b1,b2⟩
   .refine aR (qf ?_);rw [if_neg (show ¬ (cN (a9 κ ys #[(0,n1,pw),(n1,a₀.size-n1,0)] 7 none)).size<=1 from λz=>absurd (show 2<=1 from z) (by lia))]
    show vK _ _ _ _ (WX 0 >>= _) _ _
    rw [Yg];have hy:=b4.size_eq;refine aR (aR (qf ?_))
    show vK _ _ _ _ (_ >>= _) _ _
    refine aR (Yh ?_)
    have ep:((#[(0,n1,pw),(n1,a₀.size-n1,0)]:Array (Nat×Nat×Nat)).setIfInBounds 0 (0,n1+(a₀.size-n1),pw)).eraseIdxIfInBounds 1=#[(0,a₀.size,pw)]:=by
     rw [show n1+(a₀.size-n1)=a₀.size by lia]
     apply jQ.mp
     simp
    show vK _ _ _ _ (Zu ys 0 n1 n1 (a₀.size-n1)) _ (a9 κ ys (((#[(0,n1,pw),(n1,a₀.size-n1,0)]:Array (Nat×Nat×Nat)).setIfInBounds 0 (0,n1+(a₀.size-n1),pw)).eraseIdxIfInBounds 1) 7 none)
    rw [ep];exact Yj hc ⟨b4,hD,λt z=>absurd z (by lia)⟩ b1 (by lia) (by lia) b5.st (by rw [hy];exact b6.st) λzs g' w1 w2=>bf ⟨rfl,.inl ⟨zs,pw,g',rfl,w1.pm,w2⟩⟩
  .rintro c st2 ⟨e,b|⟨hx,_⟩⟩
   .exact ⟨e,b⟩
   .have hx:max 0 a₀.size=0:=hx;lia
  .rcases b with ⟨ys,e,b1,b2⟩|b
   .exact .inl ⟨ys,0,7,e,b1,by rw [b1.size_eq];exact b2.st⟩
   .exact .inr ⟨rfl,b⟩
  .rintro c st2 ⟨rfl,ys,pw,g,rfl,b1,b2⟩;exact bf (hq ys _ rfl rfl b1 b2)
end
end Sy
namespace Sy
open PySem.W
theorem perm_map {α β:Type} {f:α->β}{m l:List β}(h:m.Perm l):∀ us:List α,m=us.map f->∃ us':List α,us'.Perm us/\l=us'.map f:=by
 induction h with
 | nil=>exact λus e=>⟨us,.refl _,e⟩
 | cons x _ ih =>
  intro us e
  match us,e with
  | u::us,e =>
   obtain ⟨e1,e2⟩:=lP e;obtain ⟨us',h1,h2⟩:=ih us e2
   exact ⟨u::us',h1.cons u,by rw [e1,h2];rfl⟩
 | swap x y l =>
  intro us e
  match us,e with
  | u::v::us,e =>
   obtain ⟨e1,e2⟩:=lP e;obtain ⟨e2,e3⟩:=lP e2
   exact ⟨v::u::us,.swap _ _ _,by rw [e1,e2,e3];rfl⟩
 | trans _ _ ih1 ih2 =>
  intro us e;obtain ⟨us1,h1,e1⟩:=ih1 us e;obtain ⟨us2,h2,e2⟩:=ih2 us1 e1;exact ⟨us2,h2.trans h1,e2⟩
section
variable {prog:bB}{w:ck}{A:cM}{E:aj->ax->Prop}{s:ax}{κ:ji} {r:aj->Int}{vs:List aj}
def Ks (prog:bB) (w:ck) (A:cM) (κ:ji) (r:aj->Int) (vs:List aj) (s:ax):Prop :=
 (∀ Q:ji->ax->Prop,Q κ s->aK (aL prog w) A (keyKind' vs.toArray) Q (λ_ _=>False) s)/\∀ x∈vs,∀ y∈vs,∀ Q:Bool->ax->Prop,Q (decide (r x<r y)) s->aK (aL prog w) A (keyLt' κ x y) Q (λ_ _=>False) s
theorem sort_vals {a:ag}{n:Nat}{P:Kd->ax->Prop}(ho:s.heap.get? a=some (b8 "list" vs.toArray n)) (hz:vs.length<128)
  (hk:2<=vs.length->∀ h',(∀ b o,b≠a->s.heap.get? b=some o->h'.get? b=some o)->Ks prog w A κ r vs { s with heap:=h' })
  (h:∀ h' c (out:List aj),(∀ b o,b≠a->s.heap.get? b=some o->h'.get? b=some o)->h'.get? a=some (b8 "list" out.toArray c)->out.Perm vs->out.Pairwise (λx y=>r x<=r y)->P (.done (.ret .none)) { s with heap:=h' }) :
  aK (aL prog w) A (iB.«list.sort» ⟨[.ref a],[]⟩) P E s:=by
 have hl:vs.length<=aU:=L2.bq (m:=128) (by lia);rw [list_sort_plain]
 obtain ⟨c1,g1⟩:∃ c1,(s.heap.update a (bO λ_=>#[])).get? a=some (b8 "list" #[] c1):=⟨_,lQ ho λ_=>#[]⟩
 refine ae (G0 ho rfl (ae (lD ho rfl (ae (Kg g1 rfl (ae (Ah (ae (oh (cI ?_) (aM _))) hl)))) (by rw [aI];exact hl) (aM _))));have g6:(((s.heap.update a (bO λ_=>#[])).push (b8 "tuple" vs.toArray 0)).push (b8 "list" #[] 0)).get? a=some (b8 "list" #[] c1):=aq _ (aq _ g1);have k6:∀ b o,b≠a->s.heap.get? b=some o->(((s.heap.update a (bO λ_=>#[])).push (b8 "tuple" vs.toArray 0)).push (b8 "list" #[] 0)).get? b=some o:=λb o hb e=>aq _ (aq _ ((bE _ _ (Ne.symm hb)).trans e))
 show aK (aL prog w) A _ P E { s with heap:=((s.heap.update a (bO λ_=>#[])).push (b8 "tuple" vs.toArray 0)).push (b8 "list" #[] 0) }
 generalize ((s.heap.update a (bO λ_=>#[])).push (b8 "tuple" vs.toArray 0)).push (b8 "list" #[] 0)=h6 at g6 k6
 have sn:((vs.toArray.zip vs.toArray).map (·.2))=vs.toArray:=by
  apply jQ.mp
  simp;exact Vb (ak _)
 have fin:∀ st:dz,iP st=none->∀ out:List aj,(mQ st).map (·.2)=out.toArray->out.Perm vs->out.Pairwise (λx y=>r x<=r y)->aK (aL prog w) A (do
   let t:=(← seqEpoch a) != c1
   iu (.ref a) λ_=>(mQ st).map (·.2)
   if let some e:=iP st then Em "list.sort.comparison-raised";throw e
   if t then Em "list.sort.modified";raiseError "ValueError" "list modified during sort"
   ret .none) P E { s with heap:=h6 }:=λst hf out eo hp hs=>by
  rw [eo]
  obtain ⟨c7,g7⟩:∃ c7,(h6.update a (bO λ_=>out.toArray)).get? a=some (b8 "list" out.toArray c7):=⟨_,lQ g6 λ_=>out.toArray⟩
  refine ae (Kg g6 rfl (ae (lD g6 rfl ?_ (aM _) (by rw [aI,hp.length_eq];exact U6 hl))));rw [hf];simp only [bne_self_eq_false,bW,if_false];exact ar (h _ c7 out (λb o hb e=>(bE _ _ (Ne.symm hb)).trans (k6 b o hb e)) g7 hp hs)
 dsimp only
 by_cases h2:vs.length<2
 .rw [if_pos (by rw [aI];exact h2),if_pos (by rw [aI];exact h2)];refine ae (ar ?_);rw [TV];refine ae (ar (fin (a9 general' (vs.toArray.zip vs.toArray) #[] 7 none) rfl vs sn (.refl _) ?_))
  match vs,h2 with
  | [],_=>exact .nil
  | [z],_=>exact qF _ _
  | z::w::r,h2=>simp at h2;lia
 .rw [if_neg (by rw [aI];exact h2),if_neg (by rw [aI];exact h2)];obtain ⟨q1,q2⟩:=hk (by lia) h6 k6;refine ae (dH (q1 (λκ' s'=>κ'=κ/\s'={ s with heap:=h6 }) ⟨rfl,rfl⟩) (λκ' s' e=>?_) λ_ _ x=>x.elim);obtain ⟨rfl,rfl⟩:=e
  have mz:∀ x∈(vs.toArray.zip vs.toArray).toList,x.1∈vs:=λx hx=>by
   rw [CN] at hx;exact (ub hx).1
  refine ae (dH (w_runs (a₀:=vs.toArray.zip vs.toArray) (D:=λx=>x.1∈vs) (r:=λx=>r x.1) (Q:=λ_ st'=>∃ ys,mQ st'=ys/\iP st'=none/\ys.Perm (vs.toArray.zip vs.toArray)/\St (λx=>r x.1) ys 0 ys.size)
   (λx y hx hy Q q=>q2 x.1 hx y.1 hy Q q) mz (by simp;lia) (by simp;lia) λys st' a1 a2 a3 a4=>⟨ys,a1,a2,a3,a4⟩) ?_ λ_ _ x=>x)
  rintro ⟨⟨⟩,st'⟩ s' ⟨rfl,ys,e,hf,hp,hs⟩;have hp':=fh.mp hp
  have self:∀ x∈ys.toList,x.1=x.2:=λx hx=>by
   have:=hp'.mem_iff.mp hx;rw [CN] at this;exact (mem_zip_self this).1
  refine fin st' hf (ys.toList.map (·.2)) (by rw [e];apply jQ.mp;simp) ?_ ?_
  .have:=hp'.map (·.2);rw [← ml,← ml,sn] at this
   simpa using this
  .refine gA.mpr ((pw_of hs).imp_of_mem λ{x y} hx hy z=>?_);rw [← self x hx,← self y hy];exact z
theorem sorted_vals {p:ag}{Q:aj->ax->Prop}(hz:vs.length<128)
  (hcol:∀ (Q':List aj->ax->Prop),(∀ h' tk,(∀ b o,s.heap.get? b=some o->h'.get? b=some o)->Q' vs { s with heap:=h',toks:=tk })->aK (aL prog w) A.in1 (Aw (.ref p)) Q' E s)
  (hk:2<=vs.length->∀ h' tk,(∀ b o,s.heap.get? b=some o->h'.get? b=some o)->Ks prog w A.in1.in1 κ r vs { s with heap:=h',toks:=tk })
  (h:∀ D c h' tk (out:List aj),(∀ b o,s.heap.get? b=some o->h'.get? b=some o)->s.heap.get? D=none->h'.get? D=some (b8 "list" out.toArray c)->out.Perm vs->out.Pairwise (λx y=>r x<=r y)->Q (.ref D) { s with heap:=h',toks:=tk }) :
  aK (aL prog w) A (call (.builtin "sorted") [.ref p]) Q E s:=by
 have hl:vs.length<=aU:=L2.bq (m:=128) (by lia);refine Hl Kh G8 G9 (args_sorted1 _) (ae (m:=Oh "sorted" 1 1 _) (ar (ae (hcol _ λh1 tk keep=>ae (oh ?_ hl)))));have g:(h1.push (b8 "list" vs.toArray 0)).get? h1.objs.size=some (b8 "list" vs.toArray 0):=aJ _ rfl;have hb:∀ b o,s.heap.get? b=some o->b≠h1.objs.size:=λb o e=>a6 (aH (keep b o e));have k2:∀ {h':cK},(∀ b o,b≠h1.objs.size->(h1.push (b8 "list" vs.toArray 0)).get? b=some o->h'.get? b=some o)->∀ b o,s.heap.get? b=some o->h'.get? b=some o:=λk b o e=>k b o (hb b o e) (aq _ (keep b o e))
 show aK (aL prog w) A.in1 (do let _ ← jC [aB h1.objs.size] (call (.builtin "list.sort") [aB h1.objs.size]);ret (aB h1.objs.size)) _ _ { s with heap:=h1.push (b8 "list" vs.toArray 0),toks:=tk }
 have hD:s.heap.get? h1.objs.size=none:=by
  cases q:s.heap.get? h1.objs.size with
  | none=>rfl
  | some o=>exact absurd rfl (hb _ o q)
 exact ae (cI (c9 Al ⟨_,g,rfl⟩ xQ (sort_vals (s:={ s with heap:=h1.push (b8 "list" vs.toArray 0),toks:=tk }) g hz (λh2 h' k=>hk h2 h' tk (k2 k)) λh' c out k gD hp hs=>⟨_,rfl,ar ⟨_,rfl,h _ c h' tk out (k2 k) hD gD hp hs⟩⟩) (args_list_sort _)))
end
end Sy
namespace L2
open PySem.W
variable {X:Cx}{pins:List (ag×jk)}{Z:St}{H:Hp}{s:ax}{m:List Bool}
theorem Inv.Q8 {h':cK}{a:ag}{o:HO}{t':Nat}(I:Inv X pins Z H s) (k:∀ b u,s.heap.get? b=some u->h'.get? b=some u) (gn:s.heap.get? a=none) (new:eX X.prog X.w (upd H a o) h' a o) :
  H a=none/\Inv X pins Z (upd H a o) { s with heap:=h',toks:=t' }:=by
 have hn:H a=none:=by
  cases q:H a with
  | none=>rfl
  | some u =>
   obtain ⟨w,e⟩:=(I.eY a u q).obj;rw [gn] at e;cases e
 have ne:∀ {b u},H b=some u->b≠a:=λe=>aQ e hn;refine ⟨hn,I.un ⟨λb u q _ _ _=>k b u q,λb u q _ _ _=>⟨u.slots,k b u q⟩,λb u q n _=>?_,λb u q _=>⟨u,k b u q⟩,λb xs q=>by rw [aG (ne q)];exact q,λb u xs q=>by rw [aG (ne q)];exact q,λb ps q=>⟨#[],by rw [aG (ne q),q];simp⟩⟩ λb u e=>?_⟩
 .rw [aG];exact n;rintro rfl;rw [gn] at q;cases q
 .by_cases hb:b=a
  .subst hb;rw [aE] at e;cases e;exact new
  .rw [aG hb] at e
   exact (I.eY b u e).yF (λc v _ q=>k c v q) (λc q=>by rw [aG (ne q)];exact q) λc xs q=>by rw [aG (ne q)];exact q
def Uy (zs:List Zn):aj->Int
 | .ref a=>((zs.find? λz=>z.2 == a).map λz=>EL (zs.map (·.1)) z.1).getD 0
 | _=>0
section
variable {zs:List Zn}
theorem qY (hz:∀ z∈zs,∀ z'∈zs,z.2=z'.2->z.1=z'.1) {z:Zn}(h:z∈zs):Uy zs (.ref z.2)=EL (zs.map (·.1)) z.1:=by
 show ((zs.find? λy=>y.2 == z.2).map _).getD 0=_
 cases q:zs.find? (λy=>y.2 == z.2) with
 | none=>exact absurd (RF.mp q z h) (by simp)
 | some y =>
  have e:=WL q
  show EL _ y.1=_
  rw [hz y (J0 q) z h (by simpa using e)]
theorem Qa {xs:List V}{ks:List Int}(f:Flat m xs ks):∀ {ls:List Int},Flat m xs ls->ks=ls:=by
 induction f with
 | nil=>intro ls g;cases g;rfl
 | int i _ ih=>intro ls g;cases g with|int _ g=>rw [ih g]
 | bl b _ ih=>intro ls g;cases g with|bl _ g=>rw [ih g]
theorem Ir {r:ag}{Q:VK}(I:Inv X pins Z H s) (hz:∀ z∈zs,PJ m H z) (hl:zs.length<128)
  (hcol:∀ (Q':List aj->ax->Prop),(∀ h' tk,(∀ b o,s.heap.get? b=some o->h'.get? b=some o)->Q' (zs.map λz=>aB z.2) { s with heap:=h',toks:=tk })->aK (aL X.prog X.w) X.A.in1 (Aw (.ref r)) Q' X.xe s)
  (q:∀ (l:ag) (zs':List Zn),H l=none->zs'.Perm zs->zs'.Pairwise (λz w=>gW w.1 z.1=false)->Q (.ref l) (upd H l (.lst (zs'.map kb)))):aK (aL X.prog X.w) X.A (call (.builtin "sorted") [.ref r]) (EP X pins Z Q) X.xe s:=by
 have tup:∀ z∈zs,∃ xs us,Flat (false::m) xs z.1/\Vals xs us/\oz s.heap z.2 us.toArray:=λz hz'=>by
  obtain ⟨xs,h1,h2⟩:=hz z hz';obtain ⟨ts,r,it,_⟩:=I.tuple (.of h1);exact ⟨xs,ts,h2,r,it⟩
 have one:∀ z∈zs,∀ z'∈zs,z.2=z'.2->z.1=z'.1:=λz h z' h' e=>by
  obtain ⟨xs,e1,f1⟩:=hz z h;obtain ⟨ys,e2,f2⟩:=hz z' h';rw [e,e2] at e1;cases e1;exact Qa f1 f2
 refine Sy.sorted_vals (κ:=TR true) (r:=Uy zs) (by rw [af];exact hl) hcol (λh2 h' tk keep=>?_) λD c h' tk out keep gD g hp hs=>?_
 .rw [af] at h2
  have tup':∀ z∈zs,∃ xs us,Flat (false::m) xs z.1/\Vals xs us/\oz h' z.2 us.toArray:=λz hz'=>by
   obtain ⟨xs,us,f,r,o,e,rest⟩:=tup z hz';exact ⟨xs,us,f,r,o,keep _ _ e,rest⟩
  obtain ⟨fs,k1,k2,k3⟩:=Mm (zs:=zs) (h:=h') λz hz'=>by
   obtain ⟨xs,us,f,r,it⟩:=tup' z hz';generalize z.1=kz at f
   cases f with
   | int i f =>
    cases r with
    | cons r1 r=>obtain ⟨t,rfl⟩:=r1;exact ⟨i,t,_,it⟩
  refine ⟨λQ hQ=>kat_kind (T:=.type "int") k1 (by lia) (λv hv=>by obtain ⟨i,t,rfl⟩:=k3 v hv;exact Looks.now) rfl (by rw [show (eQ "int" != eQ "tuple")=true by decide];exact hQ),λx hx y hy Q hQ=>?_⟩;obtain ⟨z,hz',rfl⟩:=bo.mp hx;obtain ⟨z',hz2,rfl⟩:=bo.mp hy;obtain ⟨xs,us,f1,r1,i1⟩:=tup' z hz';obtain ⟨ys,ws,f2,r2,i2⟩:=tup' z' hz2;refine Ml (s:={ s with heap:=h',toks:=tk }) f1 f2 r1 r2 i1 i2 ?_;rw [qY one hz',qY one hz2,v5 (aX hz')] at hQ;exact hQ
 .obtain ⟨zs',p',rfl⟩:=Sy.perm_map hp.symm zs rfl;obtain ⟨hn,I2⟩:=I.Q8 (t':=tk) (o:=.lst (zs'.map kb)) keep gD ⟨by rw [af,p'.length_eq];exact bq (m:=128) (by lia),_,c,pO zs',g⟩;refine ⟨.ref D,_,I2,rfl,q D zs' hn p' ((gA.mp hs).imp_of_mem λ{z w} hz1 hw z2=>?_)⟩;have a1:=p'.mem_iff.mp hz1;have a2:=p'.mem_iff.mp hw
  cases e:gW w.1 z.1 with
  | false=>rfl
  | true =>
   rw [← v5 (ts:=zs.map (·.1)) (aX a2),decide_eq_true_iff] at e;rw [qY one a1,qY one a2] at z2;lia
def oN (K:aa):List V->Hp->VK->Prop:=λxs H Q=>∃ (p:ag) (zs:List Zn) (m:List Bool),xs=[.ref p]/\cL K H p (zs.map kb)/\(∀ z∈zs,PJ m H z)/\zs.length<128 /\
 ∀ (l:ag) (zs':List Zn),H l=none->zs'.Perm zs->zs'.Pairwise (λz w=>gW w.1 z.1=false)->Q (.ref l) (upd H l (.lst (zs'.map kb)))
theorem v8:k8 X (.builtin "sorted") (oN X.K):=by
 intro pins s Z H xs us Q I r h;obtain ⟨p,zs,mk,rfl,hq,hz,hl,q⟩:=h;obtain ⟨u,rfl,ru⟩:=vals1 r;cases ru;obtain ⟨its,rv,pl,hsz⟩:=I.list hq;have ei:=v7 rv;subst ei;refine Ir I hz hl (λQ' k=>collect_list pl.isList (k _ s.toks λb o e=>?_) (by rw [af];exact bq (m:=128) (by lia))) q;have hlt:=aH e;exact (bE _ _ (dt hlt)).trans (aq _ e)
end
def Uz (K:aa):List V->Hp->VK->Prop:=λxs H Q=>∃ (p:ag) (ns:List Int),xs=[.ref p]/\cL K H p (ns.map V.int)/\0<ns.length/\∀ M,M∈ns->(∀ a∈ns,a<=M)->Q (.int M) H
theorem EN (hc:X.calm=true):k8 X (.builtin "max") (Uz X.K):=by
 intro pins s Z H xs us Q I r h;obtain ⟨p,ns,rfl,hq,hf,q⟩:=h;obtain ⟨u,rfl,ru⟩:=vals1 r;cases ru;obtain ⟨its,rv,pl,hz⟩:=I.list hq;have hi:eN its ns:=intsAre_of rv;obtain ⟨ys,e⟩:=hi.allInts.items;have hn:=hi.numsOf
 have e':its=(WU ys).toList:=by rw [← e]
 rw [e',nums_intItems] at hn
 have hl:s.heap.IsList p (WU ys):=by rw [← e];exact pl.isList
 subst hn;rw [af,aP] at hf;refine max_intList (I.ok.hd hc) hl hf λv h' tk hv hk=>?_;obtain ⟨t,rfl⟩:=intItems_at hv;obtain ⟨h1,h2⟩:=argBest_gt (numAt ys) (ys.size-1);refine ⟨.int _,H,I.kept hk,⟨t,rfl⟩,q _ ?_ λa ha=>?_⟩
 .rw [numAt_eq];exact getD_mem (by rw [af,aP];lia)
 .obtain ⟨j,hj,rfl⟩:=mem_getD ha;rw [af,aP] at hj;rw [← numAt_eq];exact h2 j (by lia)
end L2
namespace L2
open PySem.Calls PySem.W
variable {prog:bB}{w:ck}{A:cM}{E:aj->ax->Prop}{s:ax}
def UA (a:ag) (h h':cK):Prop:=∀ b o,b≠a->h.get? b=some o->h'.get? b=some o
section
variable {a:ag}{f:aj}{zs:List Zn}{KO:Zn->jk->Prop}
theorem Iu {n:Nat}{P:Kd->ax->Prop}(ho:s.heap.get? a=some (b8 "list" (zs.map λz:Zn=>aB z.2).toArray n)) (hl:zs.length<128) (one:∀ z∈zs,∀ z'∈zs,z.2=z'.2->z.1=z'.1)
  (turn:∀ z∈zs,∀ (h:cK) (tk:Nat),UA a s.heap h->∀ R:aj->ax->Prop,(∀ h' tk' k o,(∀ b o,h.get? b=some o->h'.get? b=some o)->h.get? k=none->h'.get? k=some o->KO z o->R (.ref k) { s with heap:=h',toks:=tk' }) ->
   aK (aL prog w) A (call f [.ref z.2]) R (λ_ _=>False) { s with heap:=h,toks:=tk })
  (hkind:∀ z o,KO z o->o.cls=.type "tuple"/\∃ i t xs n,o.data=.seq xs n/\xs[0]?=some (.int i t))
  (hlt:∀ z∈zs,∀ z'∈zs,∀ k k' o o' (h:cK) (tk:Nat),UA a s.heap h->h.get? k=some o->h.get? k'=some o'->KO z o->KO z' o'->∀ Q:Bool->ax->Prop,Q (gW z.1 z'.1) { s with heap:=h,toks:=tk }->aK (aL prog w) A (keyLt' (TR true) (.ref k) (.ref k')) Q (λ_ _=>False) { s with heap:=h,toks:=tk })
  (fin:∀ h' tk c (zs':List Zn),UA a s.heap h'->h'.get? a=some (b8 "list" (zs'.map λz:Zn=>aB z.2).toArray c)->zs'.Perm zs->zs'.Pairwise (λz w=>gW w.1 z.1=false)->P (.done (.ret .none)) { s with heap:=h',toks:=tk }) :
  aK (aL prog w) A (ksk_tree a f false) P E s:=by
 have hz:(zs.map λz:Zn=>aB z.2).length<=aU:=bq (m:=128) (by rw [af];lia);have sl:1000<=aU:=bq (m:=1000) (ak _)
 obtain ⟨c1,g1⟩:∃ c,(s.heap.update a (bO λ_=>(#[]:Array aj))).get? a=some (b8 "list" #[] c):=⟨_,lQ ho λ_=>#[]⟩
 unfold ksk_tree;refine ae (G0 ho rfl (ae (lD ho rfl (ae (Kg g1 rfl (ae (Ah (ae (oh (cI ?_) (aM _))) hz)))) (by rw [aI];exact hz) (aM _))));have k2:∀ b o,(s.heap.update a (bO λ_=>(#[]:Array aj))).get? b=some o->(((s.heap.update a (bO λ_=>(#[]:Array aj))).push (b8 "tuple" (zs.map λz:Zn=>aB z.2).toArray 0)).push (b8 "list" #[] 0)).get? b=some o:=λb o e=>aq _ (aq _ e);have gk:(((s.heap.update a (bO λ_=>(#[]:Array aj))).push (b8 "tuple" (zs.map λz:Zn=>aB z.2).toArray 0)).push (b8 "list" #[] 0)).get? ((s.heap.update a (bO λ_=>(#[]:Array aj))).push (b8 "tuple" (zs.map λz:Zn=>aB z.2).toArray 0)).objs.size=some (b8 "list" #[] 0):=aJ _ rfl;have kfr:∀ b o,(s.heap.update a (bO λ_=>(#[]:Array aj))).get? b=some o->b≠((s.heap.update a (bO λ_=>(#[]:Array aj))).push (b8 "tuple" (zs.map λz:Zn=>aB z.2).toArray 0)).objs.size:=λb o e=>a6 (aH (aq (b8 "tuple" (zs.map λz:Zn=>aB z.2).toArray 0) e));have up:∀ b o,b≠a->s.heap.get? b=some o->(s.heap.update a (bO λ_=>(#[]:Array aj))).get? b=some o:=λb o hb e=>(bE _ _ (Ne.symm hb)).trans e
 show aK (aL prog w) A (ksk_rest a f false (zs.map λz:Zn=>aB z.2).toArray _ (.ref ((s.heap.update a (bO λ_=>(#[]:Array aj))).push (b8 "tuple" (zs.map λz:Zn=>aB z.2).toArray 0)).objs.size)) _ _ { s with heap:=((s.heap.update a (bO λ_=>(#[]:Array aj))).push (b8 "tuple" (zs.map λz:Zn=>aB z.2).toArray 0)).push (b8 "list" #[] 0) }
 generalize ((s.heap.update a (bO λ_=>(#[]:Array aj))).push (b8 "tuple" (zs.map λz:Zn=>aB z.2).toArray 0)).objs.size=kS at gk kfr;generalize ((s.heap.update a (bO λ_=>(#[]:Array aj))).push (b8 "tuple" (zs.map λz:Zn=>aB z.2).toArray 0)).push (b8 "list" #[] 0)=h2 at k2 gk;have hak:a≠kS:=kfr a _ g1;have g2:=k2 _ _ g1;have kp2:UA a s.heap h2:=λb o hb e=>k2 _ _ (up b o hb e);have nk:∀ b o,b≠a->s.heap.get? b=some o->b≠kS:=λb o hb e=>kfr b o (up b o hb e);generalize s.heap.update a (bO λ_=>(#[]:Array aj))=hx at k2 kfr up g1;unfold ksk_rest;refine ae (i9 ?_);rw [List.forIn_toArray]
 -- the keys
 have Kn:∀ (r done:List Zn) (ks:List ag) (e:Nat) (h:cK) (tk:Nat) (R:ax->Prop),done++r=zs->UA a s.heap h->h.get? a=some (b8 "list" #[] c1)->h.get? kS=some (b8 "list" (ks.map aB).toArray e)->Paired (λ(z:Zn) (k:ag)=>∃ o,h.get? k=some o/\KO z o/\k≠kS/\k≠a) done ks ->
   (∀ ks' e' h' tk',UA a s.heap h'->h'.get? a=some (b8 "list" #[] c1)->h'.get? kS=some (b8 "list" (ks'.map aB).toArray e')->Paired (λ(z:Zn) (k:ag)=>∃ o,h'.get? k=some o/\KO z o/\k≠kS/\k≠a) zs ks'->R { s with heap:=h',toks:=tk' }) ->
   aK (aL prog w) A (forIn (r.map λz:Zn=>aB z.2) PUnit.unit λx _=>do
    match ← (call f [x]).attempt with
    | .ok k=>iu (.ref kS) (·.push k);pure (i5 PUnit.unit)
    | .error e =>
     Em "list.sort.key-raised"
     let made ← CW (.ref kS)
     iu (.ref kS) λ_=>#[]
     letGo made.toList.reverse [e]
     iu (.ref a) λ_=>(zs.map λz:Zn=>aB z.2).toArray;throw e) (λ_ s'=>R s') E { s with heap:=h,toks:=tk }:=by
  intro r
  induction r with
  | nil =>
   intro done ks e h tk R hr kp ga gS rel q;rw [ua] at hr;subst hr;rw [Av,Hi]
   exact ar (q ks e h tk kp ga gS rel)
  | cons z r ih =>
   intro done ks e h tk R hr kp ga gS rel q;rw [aW,ud]
   have hlen:ks.length<128:=by
    have:=congrArg eD hr;rw [bg,bI,← vg rel] at this;lia
   refine ae (ae (ij (dH (turn z (by rw [← hr];simp) h tk kp _ λh' tk' k o keep kn hk ko=>?_) (λ_ _ x=>x) λ_ _ x=>x.elim)))
   have kkS:k≠kS:=λq=>by rw [q,gS] at kn;cases kn
   have kka:k≠a:=λq=>by rw [q,ga] at kn;cases kn
   have gS':=keep _ _ gS
   have ea:(ks.map aB).toArray.push (.ref k)=((ks++[k]).map aB).toArray:=by simp
   obtain ⟨c2,g3⟩:∃ c2,(h'.update kS (bO (·.push (.ref k)))).get? kS=some (b8 "list" ((ks++[k]).map aB).toArray c2):=⟨_,by rw [← ea];exact lQ gS' (·.push (.ref k))⟩
   have ot:∀ {b:ag}{o:jk},b≠kS->h'.get? b=some o->(h'.update kS (bO (·.push (.ref k)))).get? b=some o:=λhb e=>(bE _ _ (Ne.symm hb)).trans e;refine ae (lD gS' rfl (ar ?_) (by rw [aI,af];lia) (by rw [ir,aI,af];lia));refine ih (done++[z]) (ks++[k]) c2 _ tk' R (by rw [← hr];simp) (λb o hb e=>ot (nk b o hb e) (keep _ _ (kp b o hb e))) (ot hak (keep _ _ ga)) g3 ?_ q;refine yR ⟨o,ot kkS hk,ko,kkS,kka⟩ (Paired.NW rel λz' k' ⟨o',e1,e2,e3,e4⟩=>⟨o',ot e3 (keep _ _ e1),e2,e3,e4⟩)
 refine ae (Kn zs [] [] 0 h2 s.toks _ rfl kp2 g2 gk .nil λks e h tk kp ga gS rel=>?_);refine ae (G0 gS rfl ?_);have hkl:=vg rel
 -- the end
 have tail:∀ st:dz,iP st=none->∀ zs':List Zn,(mQ st).map (·.2)=(zs'.map λz:Zn=>aB z.2).toArray->zs'.Perm zs->zs'.Pairwise (λz w=>gW w.1 z.1=false)->aK (aL prog w) A (ksk_tail a false c1 (.ref kS) st) P E { s with heap:=h,toks:=tk }:=λst hf zs' eo hp hs=>by
  obtain ⟨c3,g3⟩:∃ c3,(h.update kS (bO λ_=>(#[]:Array aj))).get? kS=some (b8 "list" #[] c3):=⟨_,lQ gS λ_=>#[]⟩
  have ga':(h.update kS (bO λ_=>(#[]:Array aj))).get? a=some (b8 "list" #[] c1):=(bE _ _ (Ne.symm hak)).trans ga
  obtain ⟨c4,g4⟩:∃ c4,((h.update kS (bO λ_=>(#[]:Array aj))).update a (bO λ_=>(zs'.map λz:Zn=>aB z.2).toArray)).get? a=some (b8 "list" (zs'.map λz:Zn=>aB z.2).toArray c4):=⟨_,lQ ga' λ_=>(zs'.map λz:Zn=>aB z.2).toArray⟩
  unfold ksk_tail
  try dsimp only
  rw [eo];simp only [bW,if_false];refine ae (lD gS rfl (ae (WK (ae (Kg ga' rfl (ae (lD ga' rfl ?_ (aM _) (by rw [aI,af,hp.length_eq];lia))))))) (by rw [aI,af];lia) (aM _));rw [hf];simp only [bne_self_eq_false,bW,if_false];exact ar (fin _ tk c4 zs' (λb o hb e=>(bE _ _ (Ne.symm hb)).trans ((bE _ _ (Ne.symm (nk b o hb e))).trans (kp b o hb e))) g4 hp hs)
 have zip2:((ks.map aB).toArray.zip (zs.map λz:Zn=>aB z.2).toArray).map (·.2)=(zs.map λz:Zn=>aB z.2).toArray:=by
  apply jQ.mp
  simp;exact Vb (by simp [hkl])
 unfold ksk_end;simp only [bW,if_false]
 by_cases h2':zs.length<2
 .rw [if_pos (by rw [aI,af];exact h2'),if_pos (by rw [aI,af];exact h2')];refine ae (ar ?_);rw [TV];refine ae (ar (tail _ rfl zs zip2 (.refl _) ?_))
  match zs,h2' with
  | [],_=>exact .nil
  | [z],_=>exact qF _ _
  | z::w::r,h2=>simp at h2;lia
 .rw [if_neg (by rw [aI,af];exact h2'),if_neg (by rw [aI,af];exact h2')]
  have kt:∀ {zs:List Zn}{ks:List ag},Paired (λ(z:Zn) (k:ag)=>∃ o,h.get? k=some o/\KO z o/\k≠kS/\k≠a) zs ks->∃ fs,KatTups h (ks.map aB) fs/\fs.length=zs.length/\∀ v∈fs,∃ i t,v=fj i t:=by
   intro zs ks rel
   induction rel with
   | nil=>exact ⟨[],.nil,rfl,λ_ h=>nomatch h⟩
   | cons r _ ih =>
    obtain ⟨fs,f1,f2,f3⟩:=ih;obtain ⟨o,e1,e2,_⟩:=r;obtain ⟨cc,i,t,xs,n,d,d0⟩:=hkind _ o e2;refine ⟨.int i t::fs,WT e1 cc d d0 f1,by simp [f2],λv hv=>?_⟩
    rcases au.mp hv with rfl|hv
    .exact ⟨_,t,rfl⟩
    .exact f3 v hv
  obtain ⟨fs,f1,f2,f3⟩:=kt rel;refine ae (kat_kind (T:=.type "int") f1 (by lia) (λv hv=>by obtain ⟨i,t,rfl⟩:=f3 v hv;exact Looks.now) rfl ?_);rw [show (eQ "int" != eQ "tuple")=true by decide]
  have mz:∀ x∈((ks.map aB).toArray.zip (zs.map λz:Zn=>aB z.2).toArray).toList,∃ z∈zs,∃ k o,x=(aB k,aB z.2)/\h.get? k=some o/\KO z o:=λx hx=>by
   rw [CN] at hx;obtain ⟨i,hi⟩:=bC.mp hx;obtain ⟨x1,x2⟩:=x;rw [pI] at hi;obtain ⟨q1,q2⟩:=hi;simp only [aA] at q1 q2;obtain ⟨z,z1,z2⟩:=br.mp q2;obtain ⟨k,k1,k2⟩:=br.mp q1;obtain ⟨k',k3,o,e1,e2,_⟩:=Kz rel i z z1;rw [k1] at k3;cases k3;exact ⟨z,aN z1,k,o,by rw [← k2,← z2],e1,e2⟩
  refine ae (dH (Sy.w_runs (prog:=prog) (w:=w) (A:=A) (E:=E) (s:={ s with heap:=h,toks:=tk }) (a₀:=(ks.map aB).toArray.zip (zs.map λz:Zn=>aB z.2).toArray) (D:=λx=>∃ z∈zs,∃ k o,x=(aB k,aB z.2)/\h.get? k=some o/\KO z o) (r:=λx=>Uy zs x.2) (κ:=TR true)
   (Q:=λ_ st'=>∃ ys,mQ st'=ys/\iP st'=none/\ys.Perm ((ks.map aB).toArray.zip (zs.map λz:Zn=>aB z.2).toArray)/\Sy.St (λx=>Uy zs x.2) ys 0 ys.size) ?_ mz (by simp [hkl];lia) (by simp [hkl];lia) λys st' a1 a2 a3 a4=>⟨ys,a1,a2,a3,a4⟩) ?_ λ_ _ x=>x)
  .rintro x y ⟨z,hz1,k,o,rfl,e1,e2⟩ ⟨z',hz2,k',o',rfl,e3,e4⟩ Q hQ;refine hlt z hz1 z' hz2 k k' o o' h tk kp e1 e3 e2 e4 Q ?_;have hQ:Q (decide (Uy zs (.ref z.2)<Uy zs (.ref z'.2))) _:=hQ;rw [qY one hz1,qY one hz2,v5 (aX hz1)] at hQ;exact hQ
  .rintro ⟨⟨⟩,st'⟩ s' ⟨rfl,ys,e,hf,hp,hs⟩;have hp':=(fh.mp hp).map (·.2);rw [← ml,← ml,zip2] at hp';obtain ⟨zs',p',e'⟩:=Sy.perm_map hp'.symm zs rfl;rw [ml] at e';refine tail st' hf zs' (by rw [e];apply jQ.mp;simpa using e') p' ?_;have hs':=(gA (f:=λx:aT=>x.2) (R:=λx y=>Uy zs x<=Uy zs y)).mpr (Sy.pw_of hs);rw [show List.map (λx:aT=>x.2) ys.toList=zs'.map λz=>aB z.2 from e'] at hs';refine (gA.mp hs').imp_of_mem λ{z w} hz1 hw z2=>?_;have a1:=p'.mem_iff.mp hz1;have a2:=p'.mem_iff.mp hw
   cases e:gW w.1 z.1 with
   | false=>rfl
   | true =>
    rw [← v5 (ts:=zs.map (·.1)) (aX a2),decide_eq_true_iff] at e;rw [qY one a1,qY one a2] at z2;lia
end
theorem v9 {l:ag}{vs:List aj}{Q:List aj->ax->Prop}(hl:s.heap.IsList l vs.toArray) (hn:vs.length<=aU)
  (q:∀ h' tk,(∀ b o,s.heap.get? b=some o->h'.get? b=some o)->Q vs { s with heap:=h',toks:=tk }):aK (aL prog w) A (Aw (.ref l)) Q E s:=by
 refine collect_list hl (q _ _ λb o e=>?_) (by simpa using hn);have hlt:b<s.heap.objs.size:=aH e;rw [Heap.get?_update_ne _ _ _ _ (a6 hlt),Heap.get?_push_ne _ _ _ (a6 hlt)];exact e
section
variable {X:Cx}{c Pt:ag}{e:Expr}{tx:TA}{x y:bD}{j:Nat}{params:nK}{scope:pH}{p0 p1 p2 p3 p4 p5 lpos kpos pos:sT}{x1:Nat}
end
end L2
namespace L2
variable {K:aa}{ta:TE}{Z:St}{H:Hp}{Q:VK}{C:ag}{sp:Sp}{x:bD}
theorem m5 {f:bD}(h:ta Z H λx H1=>∃ a C dx fs v,x=.ref a/\H1 a=some (.ins C dx fs)/\CU K C/\dA K C f/\fs.lookup f=some v/\Q v H1):eG K ta f Z H Q:=h
theorem vh {m:bD}{dvs:List V}{E:XK}{t:TA}(h:ta Z H λx H1=>∃ a dx fs,x=.ref a/\H1 a=some (.ins C dx fs)/\fs.lookup m=none/\t Z H1 λvs H2=>sp (x::(vs++dvs)) H2 Q E):fc C m sp dvs E ta t Z H Q:=h
section
variable {mg:bD->Option aj}{q:bD}{st:dB}{ps:List bD}{CX:HE}{k:Nat}
def qD.l6 (d:qD K mg x st ps) (P:bB) (w:ck) (base:cK) (h:kF P w K mg base CX k d.f d.d ps sp):Cal P w K mg base CX k x ps sp:=⟨d.f,d.d,h,d.m,d.F.kp,d.b⟩
def kd.l6 (d:kd K C x q st ps) (P:bB) (w:ck) (base:cK) (h:kF P w K mg base CX k d.f d.d ps sp):V7 P w K mg base CX k C x ps sp:=⟨d.f,d.d,h,⟨d.a,d.i,d.F.kp⟩,d.b⟩
def kd.WC (d:kd K C "__init__" q st ps) (P:bB) (w:ck) (base:cK) (mk:j8 K C=true) (kc:dN K (.ref C)=true) (h:kF P w K mg base CX k d.f d.d ps sp):CalI P w K mg base CX k C ps sp:=⟨d.f,d.d,h,⟨mk,d.a,d.i,kc⟩,d.b⟩
theorem LB.oj {P:bB}{w:ck}{base:cK}{f:ag}{fd:fz}{N:List bD}{t:TS}(F:LB K x q st f fd) (S:bK N ps (aV st)) (len:∀ vs H Q E,sp vs H Q E->vs.length=ps.length) (run:∀ vs H Q E,sp vs H Q E->t { nx:=λ_ H'=>Q .non H',rt:=Q } (start N vs) H)
  (b:∀ (nB:aj) (A:cM) (outer:List He) (s:ax) (H:Hp) (E:XK),gU k (A.deeper (uc q (aV st) s.heap.objs.size f nB))->J8 (FC Hc P w K mg base N q (aV st) f nB A outer s H E).UV (jR st) t):kF P w K mg base Hc (k+1) f fd ps sp :=
 F.ok S len λnB A outer s H vs Q E hr h=>⟨t,b nB A outer s H E hr,run vs H Q E h⟩
end
section
variable {X:Cx}{pos:sT}{i:Nat}
theorem oO {e:Expr}{te:TE}{pos':sT}(hN:X.N.Nodup) (he:PE X e te) (hi:X.N[i]?=some x:=by rfl) (hx:Loc X.env.scope x:=by exact .inl rfl) (hs:As e (some (.Name x pos')) pos.line X.env=pure false:=by rfl) (hf:X.fn x=true\/X.env.scope.names.lookup x=some .local:=by first|exact .inl rfl|exact .inr rfl|assumption):PS X (.Assign [.Name x pos'] e pos) (dg te (bj i)):=xS hN hi hx he hs hf
theorem gg (hN:X.N.Nodup) (hi:X.N[i]?=some x:=by rfl) (hx:Loc X.env.scope x:=by exact .inl rfl) (hf:X.fn x=true\/X.env.scope.names.lookup x=some .local:=by first|exact .inl rfl|exact .inr rfl|assumption):PG X (.Name x pos) (bj i):=RP hN hi hx hf
end
end L2
namespace L2
open PySem.Calls PySem.W
section
variable {prog:bB}{w:ck}{A:cM}{env:He}{s:ax}{h:cK}{a b:Expr}{i j:Int}{pos:sT}
theorem MQ.sub (ha:MQ prog w A env s h a i) (hb:MQ prog w A env s h b j):MQ prog w A env s h (.BinOp a .Sub b pos) (i-j):=ha.bin hb λ_ _ _ _ _ q=>sub_int (q _ _)
end
def Iv (z:Zn) (t u:TF):jk:=b8 "tuple" #[.int (z.1.headD 0) t,.int (z.1.tail.headD 0) u] 0
def KD (Pt:ag) (pos:sT) (qual:bD) (tx:TA):TE:=λZ H Q=>tx Z H λv H1 =>
 ∃ (p:ag) (zs:List Zn),v=[.ref p]/\H1 p=some (.lst (zs.map kb))/\(∀ z∈zs,∃ x y:Int,z.1=[y-x,x]/\H1 z.2=some (.tup [.int x,.int y]))/\zs.length<128/\pC Pt pos qual H1 /\
  ∀ (l:ag) (zs':List Zn) (H2:Hp),H2 l=none->k9 Pt H1 H2->pC Pt pos qual H2->zs'.Perm zs->zs'.Pairwise (λz w=>gW w.1 z.1=false)->Q (.ref l) (upd H2 l (.lst (zs'.map kb)))
section
variable {X:Cx}{c Pt:ag}{e:Expr}{tx:TA}{x:bD}{params:nK}{scope:pH}{p0 p1 p2 p3 p4 p5 p6 p7 p8 p9 p10 p11 lpos kpos pos:sT}{x1 n1 n2 n3:Nat}
theorem Qb (hcalm:X.calm=true) (hcode:X.env.code=.ref c) (C0:ic X.base c Pt) (B:X.base.BuiltinsAt X.mg Pt) (hroom:X.A.depth<qB) (hun:X.A.units+128<gY)
  (hgl:Gl X "sorted") (hm:X.mg "sorted"=none) (hx:PA X [e] tx)
  (hs:fS pos (bu [e] X.env)=(false,eJ e X.env)::fS pos (bu [] X.env):=by rfl) (hpl:(fS pos (bu [e] X.env)).any (·.1)=false:=by rfl)
  (hdef:defaultsOf params X.env=([],[]):=by rfl)
  (hbind:∀ clos pm nB ctv v,Ab (kla_fn "<lambda>" (X.env.qual++"<lambda>") params (.Tuple [.BinOp (.Subscript (.Name x p1) (.Constant (.int 1) n1 p2) p3) .Sub (.Subscript (.Name x p4) (.Constant (.int 0) n2 p5) p6) p7,.Subscript (.Name x p8) (.Constant (.int 0) n3 p9) p10] x1 p11) scope clos pm nB ctv) ⟨[v],[]⟩=pure [(x,v)]:=by intros;rfl)
  (hsx:scope.names.lookup x=some .local:=by rfl) (hk:scope.kind=.function:=by rfl) (hco:scope.isCoroutine=false:=by rfl) (hgen:scope.isGenerator=false:=by rfl) (hcell:∀ z∈scope.names,z.2≠.cell:=by decide +kernel)
  (hfr:(scope.names.all λy=>y.2 != .free || X.env.kindOf y.1 == some .cell || X.env.kindOf y.1 == some .free)=true:=by rfl)
  (hdx:(x == ("__debug__":bD))=false:=by decide) :
  PE X (.Call (.Name "sorted" p0) [e] [⟨some "key",.Lambda params (.Tuple [.BinOp (.Subscript (.Name x p1) (.Constant (.int 1) n1 p2) p3) .Sub (.Subscript (.Name x p4) (.Constant (.int 0) n2 p5) p6) p7,.Subscript (.Name x p8) (.Constant (.int 0) n3 p9) p10] x1 p11) scope lpos,kpos⟩] pos) (KD Pt lpos (X.env.qual++"<lambda>") tx):=by
 intro pins s Z H Q I h;refine dZ (l9 I hgl hm (u:=.builtin "sorted") BootT.AX ?_);refine callWith_kw ?_ hs hpl;refine gR (hx pos pins s Z H _ I h) λus s1 ⟨vs,H1,I1,rv,q⟩=>?_;obtain ⟨p,zs,rfl,hp,hkv,h64,hT,k⟩:=q;obtain ⟨u,rfl,ru⟩:=vals1 rv;cases ru
 show aK _ X.A (evalAll [do let v ← eJ _ X.env;qb pos;pure v]) _ _ s1
 refine wpAny_evalAll_cons (ae (HX I1 hcode C0 B hdef (qT I1 hfr) hT λf c' ctv h' tk H2 I2 hf hrec S2 T2 hk2=>ae (tY (ar (wpAny_evalAll_nil ?_)))));obtain ⟨ps,hPt⟩:=hT.tbl;have hp2:=S2 p _ (λz=>by rw [z,hPt] at hp;cases hp) hp
 have k2:∀ z∈zs,∃ x y:Int,z.1=[y-x,x]/\H2 z.2=some (.tup [.int x,.int y]):=λz hz=>by
  obtain ⟨x,y,e1,e2⟩:=hkv z hz;exact ⟨x,y,e1,S2 _ _ (λz=>by rw [z,hPt] at e2;cases e2) e2⟩
 obtain ⟨its,n1,rp,op,zp⟩:=I2.lst hp2;have hits:=v7 rp;subst hits;have hh:X.A.handled=none:=I2.ok.hd hcalm
 have one:∀ z∈zs,∀ z'∈zs,z.2=z'.2->z.1=z'.1:=λz hz z' hz' e=>by
  obtain ⟨x1,y1,e1,e2⟩:=k2 z hz;obtain ⟨x2,y2,f1,f2⟩:=k2 z' hz';rw [e,f2] at e2;cases e2;rw [e1,f1]
 have turn:∀ z∈zs,∀ (h:cK) (tk':Nat),(∀ b o,h'.get? b=some o->h.get? b=some o)->∀ R:aj->ax->Prop,
   (∀ h3 tk3 k o,(∀ b o,h.get? b=some o->h3.get? b=some o)->h.get? k=none->h3.get? k=some o->(∃ t u,o=Iv z t u)->R (.ref k) { s1 with heap:=h3,toks:=tk3 })->aK (aL X.prog X.w) X.A.in1.in1 (call (.ref f) [.ref z.2]) R (λ_ _=>False) { s1 with heap:=h,toks:=tk' }:=by
  intro z hz h tk' kk R hR;obtain ⟨xx,yy,ez,hzt⟩:=k2 z hz;have J:Inv X pins Z H2 { s1 with heap:=h,toks:=tk' }:=I2.kept kk;refine EM (s:={ s1 with heap:=h,toks:=tk' }) (by exact hroom) (kk f _ hf) ?_ (I2.mod.nolimit.keeps λb o e=>kk b o (I2.bk b o e)) (hbind _ _ _ _ _) hsx hk hco hgen hcell λenv h3 tk3 E' q1 q2 q3 hns hk3=>?_
  .obtain ⟨c2,o2,vs2,t2',e2,h2,d2⟩:=hrec;cases e2;exact ⟨c',o2,vs2,t2',rfl,kk _ _ h2,d2⟩
  .obtain ⟨ts,r,it,_⟩:=J.tuple (.of hzt)
   cases r with
   | cons h1 r =>
    cases r with
    | cons h2 r =>
     cases r;obtain ⟨t1,rfl⟩:=h1;obtain ⟨t2,rfl⟩:=h2
     have it3:oz h3 z.2 #[.int xx t1,.int yy t2]:=by
      obtain ⟨o,e,rest⟩:=it;exact ⟨o,hk3 _ _ e,rest⟩
     have sz:(#[fj xx t1,fj yy t2]).size<=aU:=bq (m:=2) (ak 2);have a0:∀ {A':cM}{pa pb pc n},MQ X.prog X.w A' env { s1 with heap:=h,toks:=tk' } h3 (.Subscript (.Name x pa) (.Constant (.int (0:Nat)) n pb) pc) xx:=λ{A' pa pb pc n}=>MQ.UY (k:=0) (by rw [q1];exact hk) (by rw [q1];exact hsx) hns it3 rfl sz hdx;have a1:∀ {A':cM}{pa pb pc n},MQ X.prog X.w A' env { s1 with heap:=h,toks:=tk' } h3 (.Subscript (.Name x pa) (.Constant (.int (1:Nat)) n pb) pc) yy:=λ{A' pa pb pc n}=>MQ.UY (k:=1) (by rw [q1];exact hk) (by rw [q1];exact hsx) hns it3 rfl sz hdx;refine CM (gZ ((a1.sub a0) _ _ _ λtk4 t=>gZ (a0 _ _ _ λtk5 u=>lC ⟨bq (m:=2) (ak 2),?_⟩)));refine hR _ _ _ _ (λb o e=>aq _ (hk3 b o e)) ?_ (aJ _ rfl) ⟨t,u,by unfold Iv;rw [ez];rfl⟩
     cases q:h.get? h3.objs.size with
     | none=>rfl
     | some o=>exact absurd (aH (hk3 _ _ q)) (fk _)
 have hzl:(zs.map λz=>aB z.2).length<=aU:=bq (m:=128) (by rw [af];lia);refine TX Kh G8 G9 (ksk_s1 _ _) ?_;unfold iB.«sorted»;refine ae (m:=Oh "sorted" 1 1 _) (ar (ae (v9 (s:={ s1 with heap:=h',toks:=tk }) ⟨_,op,rfl,n1,rfl⟩ hzl λh3 tk3 keep3=>?_)));refine ae (oh ?_ hzl);have g4:(h3.push (b8 "list" (zs.map λz=>aB z.2).toArray 0)).get? h3.objs.size=some (b8 "list" (zs.map λz=>aB z.2).toArray 0):=aJ _ rfl;have hb:∀ b o,h'.get? b=some o->b≠h3.objs.size:=λb o e=>a6 (aH (keep3 b o e));have k4:∀ {h:cK},UA h3.objs.size (h3.push (b8 "list" (zs.map λz=>aB z.2).toArray 0)) h->∀ b o,h'.get? b=some o->h.get? b=some o:=λk b o e=>k b o (hb b o e) (aq _ (keep3 b o e))
 have gD:h'.get? h3.objs.size=none:=by
  cases q:h'.get? h3.objs.size with
  | none=>rfl
  | some o=>exact absurd rfl (hb _ o q)
 show aK (aL X.prog X.w) X.A.in1 (do let _ ← jC [aB h3.objs.size] (call (.builtin "list.sort") [aB h3.objs.size] _);ret (aB h3.objs.size)) _ _ { s1 with heap:=h3.push (b8 "list" (zs.map λz=>aB z.2).toArray 0),toks:=tk3 }
 refine ae (cI (Xk Al ⟨_,g4,rfl⟩ xQ ?_ (ksk_l1 _ _)))
 show aK (aL X.prog X.w) X.A.in1.in1 (iB.«list.sort» ⟨[.ref h3.objs.size],[(iH "key",.ref f)]⟩) _ _ _
 rw [ksk_t1]
 refine Iu (s:={ s1 with heap:=h3.push (b8 "list" (zs.map λz=>aB z.2).toArray 0),toks:=tk3 }) (KO:=λz o=>∃ t u,o=Iv z t u) g4 h64 one (λz hz h tk' kp R hR=>turn z hz h tk' (k4 kp) R hR) ?_ ?_ λh7 tk7 c7 zs' kp g7 hperm hsort=>⟨_,rfl,ar ⟨_,rfl,?_⟩⟩
 .rintro z o ⟨t,u,rfl⟩;exact ⟨rfl,_,t,_,0,rfl,rfl⟩
 .rintro z hz z' hz' k k' o o' h tk' kp g g' ⟨t,u,rfl⟩ ⟨t',u',rfl⟩ Q' hQ;obtain ⟨x1,y1,z1,_⟩:=k2 z hz;obtain ⟨x2,y2,z2,_⟩:=k2 z' hz';rw [z1,z2] at hQ;exact Ml (s:={ s1 with heap:=h,toks:=tk' }) (m:=[false]) (.int _ (.int _ .nil)) (.int _ (.int _ .nil)) (us:=[.int (y1-x1) t,.int x1 u]) (ws:=[.int (y2-x2) t',.int x2 u']) (.cons ⟨_,rfl⟩ (.cons ⟨_,rfl⟩ .nil)) (.cons ⟨_,rfl⟩ (.cons ⟨_,rfl⟩ .nil)) ⟨_,g,rfl,0,by unfold Iv;rw [z1];rfl⟩ ⟨_,g',rfl,0,by unfold Iv;rw [z2];rfl⟩ hQ
 .obtain ⟨hn,I3⟩:=I2.Q8 (t':=tk7) (o:=.lst (zs'.map kb)) (k4 kp) gD ⟨by rw [af,hperm.length_eq];exact bq (m:=128) (by lia),_,c7,pO zs',g7⟩;exact ⟨.ref h3.objs.size,_,I3,rfl,k h3.objs.size zs' H2 hn S2 T2 hperm hsort⟩
end
end L2
namespace L2
open PySem PySem.Spec PySem.Calls PyProof.Rows PySem.W PySem.SeqAt
open PySem.AutoSeq1 (wpAny_loadPart')
section
variable {X:Cx}
end
end L2
namespace L2
open PySem.Calls PySem.W
def Wj (K:aa):R2:=λx y H Q=>jG K x y H Q\/∃ (l b:ag) (xs ys:List V),x=.ref l/\y=.ref b/\H l=some (.lst xs)/\H b=some (.lst ys)/\xs.length≠ys.length/\Q (.bl false) H
theorem Wk {X:Cx}(hu:X.A.units+64<gY):oC X (c8 .Eq) (Wj X.K):=(ll hu).or (by
 intro pins s Z H x y v u Q I rx ry h;obtain ⟨l,b,xs,ys,rfl,rfl,h1,h2,hne,q⟩:=h;cases rx;cases ry;obtain ⟨its,n1,rp,op,zp⟩:=I.lst h1;obtain ⟨its2,n2,rp2,op2,zp2⟩:=I.lst h2;have e1:=rp.length;have e2:=rp2.length
 exact SeqAt.RcAt.lists_lengths ⟨_,op,rfl,_,rfl⟩ ⟨_,op2,rfl,_,rfl⟩ (by simp;lia) (by lia) _ _ _ _ ⟨.bl _,H,I,rfl,q⟩)
def Qc (K:aa):R2:=λx y H Q=>zD K x y H Q\/∃ (l b:ag) (xs ys:List V),x=.ref l/\y=.ref b/\H l=some (.lst xs)/\H b=some (.lst ys)/\xs.length≠ys.length/\Q (.bl true) H
theorem Wl {X:Cx}(hu:X.A.units+64<gY):oC X (c8 .NotEq) (Qc X.K):=(O3 hu).or (by
 intro pins s Z H x y v u Q I rx ry h;obtain ⟨l,b,xs,ys,rfl,rfl,h1,h2,hne,q⟩:=h;cases rx;cases ry;obtain ⟨its,n1,rp,op,zp⟩:=I.lst h1;obtain ⟨its2,n2,rp2,op2,zp2⟩:=I.lst h2;have e1:=rp.length;have e2:=rp2.length
 exact SeqAt.RcNeAt.lists_lengths ⟨_,op,rfl,_,rfl⟩ ⟨_,op2,rfl,_,rfl⟩ (by simp;lia) (by lia) _ _ _ _ ⟨.bl _,H,I,rfl,q⟩)
end L2
namespace L2
variable {ta:TE}{pos:sT}{e o:Expr}{f:bD}{es:List Expr}{k:Nat}{K:aa}
section
variable {X:Cx}
theorem Yl {tg l:Expr}{tl:TE}(hl:PE X l tl) (hK:X.K=K):PI X tg l (md K tl):=hK▸mf hl
theorem Ym {a:Expr}(ha:PE X a ta) (hK:X.K=K) (he:∀ whole,isTrue a X.env whole=(do let v ← whole;qb a.pos;jC [v] (truthy v))):PT X a (qU K ta):=hK▸O9 ha he
theorem Yn (he:PE X e ta) (hK:X.K=K) (hb:t7 e f X.env (eJ e X.env)=eJ e X.env):PE X (.Attribute e f pos) (eG K ta f):=hK▸Vu he hb
theorem Yo {value:Expr}{pos':sT}{tv:TE}(ha:PE X o ta) (hv:PE X value tv) (hK:X.K=K) (hs:As value (some (.Attribute o f pos')) pos.line X.env=pure false):PS X (.Assign [.Attribute o f pos'] value pos) (tN K ta tv f):=hK▸Fy ha hv hs
theorem Yp {n:Nat}{t:Ry}(hc:X.calm=true) (h:Xo X es t) (hK:X.K=K) (hn:(nI es X.env).length=n) (hst:(nI es X.env).findIdx? (·.1)=none):PG X (.Tuple es k pos) (Ft K n t):=hK▸AE hc h hn hst
theorem o_bm {to:TE}{t:TA}{name:bD}{apos cpos:sT}{T id:String}{r:V->List V->Hp->VK->Prop}(pa:PlainAttrs T) (slot:Slot T name id) (hty:typeOf (.builtin id)=pure (.type "method_descriptor")) (hm:MtR X id r) (ho:PE X o to) (ha:PA X (e::es) t) (hK:X.K=K)
  (hbase:t7 o name X.env (eJ o X.env)=eJ o X.env)
  (hfew:((fS cpos (bu (e::es) X.env)).all (λx=>!x.1) && (Ad cpos (oA [] X.env)).all (λx=>x.1.isSome)
   && decide ((e::es).length+([]:List TH).length+(if ([]:List TH).isEmpty then 0 else 1)<30))=true)
  (hline:(apos.endLine == cpos.line)=true) (hs:bu (e::es) X.env=(false,eJ e X.env)::bu es X.env) (hplain:(fS cpos (bu es X.env)).any (·.1)=false) :
  PE X (.Call (.Attribute o name apos) (e::es) [] cpos) (CP K T r to t):=hK▸nO pa slot hty hm ho ha hbase hfew hline hs hplain
end
theorem LB.lJ {mg:bD->Option aj}{x q:bD}{st:dB}{ps:List bD}{sp:Sp}{P:bB}{w:ck}{base:cK}{f:ag}{fd:fz}{N:List bD}{t:TS}(F:LB K x q st f fd) (S:bK N ps (aV st)) (run:∀ vs H Q E,sp vs H Q E->t { nx:=λ_ H'=>Q .non H',rt:=Q } (start N vs) H)
  (b:∀ {nB:aj}{A:cM}{outer:List He}{s:ax}{H:Hp}{E:XK},gU k (A.deeper (uc q (aV st) s.heap.objs.size f nB))->N.Nodup->J8 (FC Hc P w K mg base N q (aV st) f nB A outer s H E).UV (jR st) t)
  (len:∀ vs H Q E,sp vs H Q E->vs.length=ps.length:=by first|(intro vs H Q E h;cases h;subst_vars;rfl)|(intro vs H Q E h;repeat' (first|(obtain ⟨e,_⟩:=h;exact e▸rfl)|(obtain ⟨_,h⟩:=h)))):kF P w K mg base Hc (k+1) f fd ps sp :=
 F.oj S len run λnB A outer s H E hr=>b hr S.nd
end L2
namespace Sw
open PySem.W
def vI:aj->Int
 | .int i _=>i
 | _=>0
theorem Qd {vs:List aj}{ns:List Int}(h:eN vs ns):ns=vs.map vI/\∀ v∈vs,∃ t,v=.int (vI v) t:=by
 induction h with
 | nil=>exact ⟨rfl,λv hv=>nomatch hv⟩
 | cons n t _ ih =>
  refine ⟨by rw [aW,← ih.1];rfl,λv hv=>?_⟩
  rcases au.mp hv with rfl|hv
  .exact ⟨_,rfl⟩
  .exact ih.2 v hv
theorem Mp:∀ {vs:List aj},(∀ v∈vs,∃ t,v=.int (vI v) t)->eN vs (vs.map vI)
 | [],_=>.nil
 | v::vs,h=>by
  obtain ⟨t,e⟩:=h v aw;rw [aW];have:=Mp λu hu=>h u (ai _ hu);generalize vI v=i at e;subst e;exact .cons i t this
section
variable {prog:bB}{w:ck}{A:cM}{E:aj->ax->Prop}{s:ax}{a:ag}
theorem Iw {ks:List Int}{h₀:cK} {L:ag}{m:bD->Option aj}{km:List (ag×jk)}{Q:aj->ax->Prop}(hh:A.handled=none) (hS:SO prog w (bt w) s.heap a ks) (h64:ks.length<128) (F:Fr h₀ L s.heap m) (N:News h₀ L s.heap km)
  (q:∀ D c h' tk d (out:List aj) (ns:List Int),Fr h₀ L h' m->News h₀ L h' ((D,b8 "list" out.toArray c)::km)->(∀ p∈km,p.1<D)->eN out ns->ns.Perm ks->ns.Pairwise (·<=·)->Q (.ref D) { s with heap:=h',toks:=tk,drawn:=d }) :
  aK (aL prog w) A (call (.builtin "sorted") [.ref a]) Q E s:=by
 refine Hl Kh G8 G9 (args_sorted1 _) (ae (m:=Oh "sorted" 1 1 _) (ar (ae (Im hh hS (L2.bq (m:=128) (by lia)) λh1 tk d vs ns keep hi hp=>?_))))
 have hvl:vs.length<128:=by rw [hi.length,hp.length_eq];exact h64
 have hz:vs.length<=aU:=L2.bq (m:=128) (by lia);refine ae (oh ?_ hz);have F1:=F.kept keep;have N1:=N.grown keep;have hL:L<h1.objs.size:=F1.ns.lt;have g:(h1.push (b8 "list" vs.toArray 0)).get? h1.objs.size=some (b8 "list" vs.toArray 0):=aJ _ rfl
 show aK (aL prog w) A.in1 (do let _ ← jC [aB h1.objs.size] (call (.builtin "list.sort") [aB h1.objs.size]);ret (aB h1.objs.size)) _ _ { s with heap:=h1.push (b8 "list" vs.toArray 0),toks:=tk,drawn:=d }
 have hb:∀ b o,s.heap.get? b=some o->b≠h1.objs.size:=λb o e=>a6 (aH (keep b o e));obtain ⟨en,hv⟩:=Qd hi;refine ae (cI (c9 Al ⟨_,g,rfl⟩ xQ (Sy.sort_vals (κ:=oneType') (r:=vI) (s:={ s with heap:=h1.push (b8 "list" vs.toArray 0),toks:=tk,drawn:=d }) g hvl (λh2 h' k=>⟨λQ hQ=>?_,λx hx y hy Q hQ=>?_⟩) λh' c out k gD hp' hs=>⟨_,rfl,ar ⟨_,rfl,?_⟩⟩) (args_list_sort _)))
 .rw [ksk_kind (kz:=ns) (by simpa using hi) (by simpa using h2)];exact ar hQ
 .obtain ⟨t1,e1⟩:=hv x hx;obtain ⟨t2,e2⟩:=hv y hy;rw [e1,e2];exact kat_lt_int hQ
 .have k7:∀ b o,s.heap.get? b=some o->h'.get? b=some o:=λb o e=>k b o (hb b o e) (aq _ (keep b o e));have hvo:∀ v∈out,∃ t,v=.int (vI v) t:=λv h=>hv v (hp'.mem_iff.mp h);refine q h1.objs.size c _ tk d out (out.map vI) (F.kept k7) (λp hp2=>?_) (λp hp2=>aH (N1 p hp2).1) (Mp hvo) (((hp'.map vI).trans (by rw [← en])).trans hp) (gA.mpr hs)
  rcases au.mp hp2 with rfl|hp2
  .exact ⟨gD,dt hL,Ou (bA F1.above (lZ hL))⟩
  .exact (N.grown k7) p hp2
end
end Sw
namespace L2
open PySem.W
def x8 (K:aa) (t:TA):TE:=λZ H Q=>t Z H λvs H1=>∃ (a:ag) (ns:List Int),vs=[.ref a]/\cL K H1 a (ns.map V.int)/\ns.length<=4000/\(∃ ds:List Int,ds.length<128/\∀ x∈ns,x∈ds) /\
 ∀ p (ks:List Int),H1 p=none->ks.Pairwise (· < ·)->(∀ x,x∈ks↔x∈ns)->Q (.ref p) (upd H1 p (.lst (ks.map V.int)))
theorem KE {K:aa}{t:TA}{Z:St}{H:Hp}{Q:VK}(h:t Z H λvs H1=>∃ (a:ag) (ns:List Int),vs=[.ref a]/\cL K H1 a (ns.map V.int)/\ns.length<=4000/\(∃ ds:List Int,ds.length<128/\∀ x∈ns,x∈ds) /\
 ∀ p (ks:List Int),H1 p=none->ks.Pairwise (· < ·)->(∀ x,x∈ks↔x∈ns)->Q (.ref p) (upd H1 p (.lst (ks.map V.int)))):x8 K t Z H Q:=h
section
variable {X:Cx}{x:Expr}{t:TA}{p1 p2 q1 q2:sT}
theorem Iy (hc:X.calm=true) (hgl:Gl X "sorted") (hml:X.mg "sorted"=none) (hgz:Gl X "set") (hmz:X.mg "set"=none) (ha:PA X [x] t)
  (he:bu [.Call (.Name "set" p1) [x] [] p2] X.env=[(false,eJ (.Call (.Name "set" p1) [x] [] p2) X.env)]:=by rfl) (he2:bu [x] X.env=(false,eJ x X.env)::bu [] X.env:=by rfl) (hpl:(fS p2 (bu [] X.env)).any (·.1)=false:=by rfl) :
  PE X (.Call (.Name "sorted" q1) [.Call (.Name "set" p1) [x] [] p2] [] q2) (x8 X.K t):=by
 intro pins s Z H Q I h;refine dZ (l9 I hgl hml BootT.AX (vH ?_ he rfl));rw [he]
 show aK _ _ (spliced ((false,eJ (.Call (.Name "set" p1) [x] [] p2) X.env)::fS q2 (bu [] X.env))) _ _ s
 refine gZ (dZ (l9 I hgz hmz BootT.set (dw (gR (ha p2 pins s Z H _ I h) λus s1 ⟨vs,H1,I1,r1,q⟩=>?_) he2 hpl)));obtain ⟨a,ns,rfl,hA,hl4,⟨ds,hds,hsub⟩,k⟩:=q;obtain ⟨u,rfl,ru⟩:=vals1 r1;cases ru;obtain ⟨its,rv,pl,hz⟩:=I1.list hA;have hi:eN its ns:=intsAre_of rv;have hlen:=hi.length;refine Sw.Pq (ns:=ns) (I1.ok.hd hc) pl.isList (by simpa using hi) (by rw [aI,hlen];unfold vE;lia) λh2 tk ks hS hmem hle hk=>lC ?_
 have hnd:ks.Nodup:=by obtain ⟨_,_,_,_,_,_,_,_,_,_,_,_,_,_,hn⟩:=hS;exact hn
 have h64:ks.length<128:=bz (Pz hnd λx hx=>hsub x ((hmem x).mp hx)) hds;have I2:Inv X pins Z H1 { s1 with heap:=h2,toks:=tk }:=I1.kept (t':=tk) hk;obtain ⟨m,F,N⟩:=I2.NU;refine Sw.Iw (s:={ s1 with heap:=h2,toks:=tk }) (I1.ok.hd hc) hS h64 F N λD c h' tk' d out ms F' N' hD a1 a2 a3=>?_;obtain ⟨hn,I3⟩:=I2.Rg (t':=tk') (o:=.lst (ms.map V.int)) F.ns F' N' hD ⟨by rw [af,a2.length_eq];exact bq (m:=128) (by lia),out,c,xZ a1,(N' _ aw).1⟩;refine ⟨.ref D,_,I3.drawn d,rfl,k D ms hn ?_ (λx=>by rw [a2.mem_iff,hmem])⟩;have hnd':ms.Nodup:=a2.nodup_iff.mpr hnd
 exact (List.Pairwise.and a3 hnd').imp λ{x y} h=>by
  have h1:=h.1;have h2:x≠y:=h.2;lia
end
section
variable {X:Cx}{tg:Expr}
end
end L2
namespace L2
open PySem.Calls PySem.W
def kX (i j:Int):Prop:=0<j/\j<1000000000000000000000
theorem oP {X:Cx}:oC X (lB .FloorDiv) (rI kX λi j=>.int (i/j)):=Xp λi j _ _ _ _ _ hc q=>by
 have h1:(0:Int)<j:=hc.1;have h2:j<1000000000000000000000:=hc.2;refine floordiv_int (by lia) (by rw [Int.fdiv_eq_ediv_of_nonneg i (by lia)];exact q) (.inl (PyProof.noPylong_of_log2 ?_))
 have h3:j.natAbs≠0:=by lia
 have h4:j.natAbs<2^70:=by lia
 have:=(Nat.log2_lt h3).mpr h4;lia
def KF (Pt:ag) (pos:sT) (qual:bD) (j:Nat) (tx:TA):TE:=λZ H Q=>tx Z H λv H1 =>
 ∃ (p d:ag) (JU:List (List gG×V)),v=[.ref p]/\Z[j]?=some (some (.ref d))/\H1 d=some (.dT JU)/\pC Pt pos qual H1 /\
  ((∃ zs:List Zn,H1 p=some (.lst (zs.map kb))/\(∀ z∈zs,∃ w x y:Int,z.1=[w,x,y]/\H1 z.2=some (.tup [.int x,.int y])/\jb JU [bP x,bP y]=some (.int w))/\zs.length<128 /\
   ∀ (l:ag) (zs':List Zn) (H2:Hp),H2 l=none->k9 Pt H1 H2->pC Pt pos qual H2->zs'.Perm zs->zs'.Pairwise (λz w=>gW w.1 z.1=false)->Q (.ref l) (upd H2 l (.lst (zs'.map kb)))) \/
  ∃ (kvs:List (List gG×V)) (g:Int->Int->Int),H1 p=some (.dT kvs)/\(∀ q∈kvs,∃ x y:Int,q.1=[bP x,bP y]/\jb JU q.1=some (.int (g x y)))/\kvs.length<128 /\
   ∀ (l:ag) (zs:List Zn) (H2:Hp),H2 l=none->k9 Pt H1 H2->pC Pt pos qual H2->(∀ z∈zs,∃ x y,z.1=[g x y,x,y]/\H2 z.2=some (.tup [.int x,.int y]))->(zs.map λz=>([bP (z.1.getD 1 0),bP (z.1.getD 2 0)]:List gG)).Perm (kvs.map (·.1)) ->
    zs.Pairwise (λz w=>gW w.1 z.1=false)->Q (.ref l) (upd H2 l (.lst (zs.map kb))))
section
variable {X:Cx}{c Pt:ag}{e:Expr}{tx:TA}{x y:bD}{j:Nat}{params:nK}{scope:pH}{p0 p1 p2 p3 p4 p5 lpos kpos pos:sT}{x1:Nat}
theorem Qe (hcalm:X.calm=true) (hcode:X.env.code=.ref c) (C0:ic X.base c Pt) (B:X.base.BuiltinsAt X.mg Pt) (hroom:X.A.depth<qB) (hun:X.A.units+128<gY)
  (hgl:Gl X "sorted") (hm:X.mg "sorted"=none) (hx:PA X [e] tx) (hN:X.N[j]?=some y) (hky:X.env.kindOf y=some .cell)
  (hs:fS pos (bu [e] X.env)=(false,eJ e X.env)::fS pos (bu [] X.env):=by rfl) (hpl:(fS pos (bu [e] X.env)).any (·.1)=false:=by rfl)
  (hdef:defaultsOf params X.env=([],[]):=by rfl)
  (hbind:∀ clos pm nB ctv v,Ab (kla_fn "<lambda>" (X.env.qual++"<lambda>") params (.Tuple [.Subscript (.Name y p1) (.Name x p2) p3,.Name x p4] x1 p5) scope clos pm nB ctv) ⟨[v],[]⟩=pure [(x,v)]:=by intros;rfl)
  (hsx:scope.names.lookup x=some .local:=by rfl) (hsy:scope.names.lookup y=some .free:=by rfl) (hk:scope.kind=.function:=by rfl) (hco:scope.isCoroutine=false:=by rfl) (hgen:scope.isGenerator=false:=by rfl) (hcell:∀ z∈scope.names,z.2≠.cell:=by decide +kernel)
  (hfr:(scope.names.all λy=>y.2 != .free || X.env.kindOf y.1 == some .cell || X.env.kindOf y.1 == some .free)=true:=by rfl)
  (hdx:(x == ("__debug__":bD))=false:=by decide) (hdy:(y == ("__debug__":bD))=false:=by decide) (hdc:(y == ("__classdict__":bD))=false:=by decide) :
  PE X (.Call (.Name "sorted" p0) [e] [⟨some "key",.Lambda params (.Tuple [.Subscript (.Name y p1) (.Name x p2) p3,.Name x p4] x1 p5) scope lpos,kpos⟩] pos) (KF Pt lpos (X.env.qual++"<lambda>") j tx):=by
 intro pins s Z H Q I h;refine dZ (l9 I hgl hm (u:=.builtin "sorted") BootT.AX ?_);refine callWith_kw ?_ hs hpl;refine gR (hx pos pins s Z H _ I h) λus s1 ⟨vs,H1,I1,rv,q⟩=>?_;obtain ⟨p,d,JU,rfl,hj,hd,hT,k⟩:=q;obtain ⟨u,rfl,ru⟩:=vals1 rv;cases ru
 show aK _ X.A (evalAll [do let v ← eJ _ X.env;qb pos;pure v]) _ _ s1
 refine wpAny_evalAll_cons (ae (HX I1 hcode C0 B hdef (qT I1 hfr) hT λf c' ctv h' tk H2 I2 hf hrec S2 T2 hk2=>ae (tY (ar (wpAny_evalAll_nil ?_)))));obtain ⟨ps,hPt⟩:=hT.tbl;have hd2:=S2 d _ (λz=>by rw [z,hPt] at hd;cases hd) hd;have hh:X.A.handled=none:=I2.ok.hd hcalm
 obtain ⟨zs,k2,h64,col,fin⟩:∃ zs:List Zn,(∀ z∈zs,∃ w x y:Int,z.1=[w,x,y]/\H2 z.2=some (.tup [.int x,.int y])/\jb JU [bP x,bP y]=some (.int w))/\zs.length<128 /\
   (∀ {E:aj->ax->Prop}{R:List aj->ax->Prop},(∀ h3 tk3,(∀ b o,h'.get? b=some o->h3.get? b=some o)->R (zs.map λz=>aB z.2) { s1 with heap:=h3,toks:=tk3 })->aK (aL X.prog X.w) X.A.in1 (Aw (.ref p)) R E { s1 with heap:=h',toks:=tk }) /\
   ∀ (l:ag) (zs':List Zn),H2 l=none->zs'.Perm zs->zs'.Pairwise (λz w=>gW w.1 z.1=false)->Q (.ref l) (upd H2 l (.lst (zs'.map kb))):=by
  rcases k with ⟨zs,hp,hkv,h64,k⟩|⟨kvs,g,hp,hkv,h64,k⟩
  .have hp2:=S2 p _ (λz=>by rw [z,hPt] at hp;cases hp) hp;obtain ⟨its,n1,rp,op,zp⟩:=I2.lst hp2;have hits:=v7 rp;subst hits;refine ⟨zs,λz hz=>?_,h64,λ{E R} q=>v9 (s:={ s1 with heap:=h',toks:=tk }) ⟨_,op,rfl,n1,rfl⟩ (bq (m:=128) (by rw [af];lia)) q,λl zs' hl=>k l zs' H2 hl S2 T2⟩;obtain ⟨w,x,y,e1,e2,e3⟩:=hkv z hz;exact ⟨w,x,y,e1,S2 _ _ (λz=>by rw [z,hPt] at e2;cases e2) e2,e3⟩
  .have hp2:=S2 p _ (λz=>by rw [z,hPt] at hp;cases hp) hp
   obtain ⟨hz,lo,ys,rel,o,es,ep,e1,e2,e3,e4,e5⟩:=(show eX X.prog X.w H2 h' p (.dT kvs) from I2.eY p _ hp2)
   obtain ⟨zs,k1,k2,k3⟩:=Ip rel hkv
   have hlen:zs.length=kvs.length:=by have:=congrArg eD k3;simpa using this.symm
   have raw:yD h' p (zs.map λz=>aB z.2) ep:=⟨o,es,e1,e2,e3,by rw [e4,← k1,cf];rfl⟩
   refine ⟨zs,λz hz=>?_,by lia,λ{E R} q=>Ig (s:={ s1 with heap:=h',toks:=tk }) (SD lo) hh raw (bq (m:=128) (by rw [af];lia)) λh3 tk3 acc keep3 hacc=>?_,λl zs' hl hperm hs=>k l zs' H2 hl S2 T2 (λz hz=>?_) (by rw [k3];exact hperm.map _) hs⟩
   .obtain ⟨x,y,e1,e2,e3⟩:=k2 z hz;exact ⟨_,x,y,e1,e2,e3⟩
   .rw [Ih hacc];exact q h3 tk3 keep3
   .obtain ⟨x,y,e1,e2,_⟩:=k2 z (hperm.mem_iff.mp hz);exact ⟨x,y,e1,e2⟩
 obtain ⟨my,hny,hlk⟩:=I2.loc;obtain ⟨uy,ruy,lky⟩:=hlk j y (.ref d) hN hj (.inr (.inl hky));cases ruy
 obtain ⟨cl,hcl,hcv⟩:∃ cl,X.env.cells.lookup y=some cl/\h'.IsCell cl (some (.ref d)):=by
  rcases lky with ⟨z,_⟩|⟨_,cl,h1,h2⟩
  .rw [hky] at z;cases z
  .exact ⟨cl,h1,h2⟩
 have hclo:(nG X.env.cells scope.names []).lookup y=some cl:=by
  obtain ⟨d,hd⟩:=vU (cells:=X.env.cells) (x:=y) scope.names [] (.inl (mem_of_lookup hsy));have hd':=(jZ _ _ (qT I1 hfr) hd).resolve_right (by simp);rw [hcl] at hd';rw [hd,← hd']
 have un2:X.A.in1.in1.units+3+64<gY:=by show X.A.units+1+1+3+64<_;lia
 have one:∀ z∈zs,∀ z'∈zs,z.2=z'.2->z.1=z'.1:=λz hz z' hz' e=>by
  obtain ⟨w1,x1,y1,e1,e2,e3⟩:=k2 z hz;obtain ⟨w2,x2,y2,f1,f2,f3⟩:=k2 z' hz';rw [e,f2] at e2;cases e2;rw [e3] at f3;cases f3;rw [e1,f1]
 have turn:∀ z∈zs,∀ (h:cK) (tk':Nat),(∀ b o,h'.get? b=some o->h.get? b=some o)->∀ R:aj->ax->Prop,
   (∀ h3 tk3 k o,(∀ b o,h.get? b=some o->h3.get? b=some o)->h.get? k=none->h3.get? k=some o->(∃ t,o=Io z t)->R (.ref k) { s1 with heap:=h3,toks:=tk3 })->aK (aL X.prog X.w) X.A.in1.in1 (call (.ref f) [.ref z.2]) R (λ_ _=>False) { s1 with heap:=h,toks:=tk' }:=by
  intro z hz h tk' kk R hR;obtain ⟨ww,xx,yy,ez,hzt,hzw⟩:=k2 z hz;have J:Inv X pins Z H2 { s1 with heap:=h,toks:=tk' }:=I2.kept kk;refine EM (s:={ s1 with heap:=h,toks:=tk' }) (by exact hroom) (kk f _ hf) ?_ (I2.mod.nolimit.keeps λb o e=>kk b o (I2.bk b o e)) (hbind _ _ _ _ _) hsx hk hco hgen hcell λenv h3 tk3 E' q1 q2 q3 hns hk3=>?_
  .obtain ⟨c2,o2,vs2,t2',e2,h2,d2⟩:=hrec;cases e2;exact ⟨c',o2,vs2,t2',rfl,kk _ _ h2,d2⟩
  .refine PK (s:={ s1 with heap:=h,toks:=tk' }) (H:=H2) (d:=d) (cl:=cl) (k:=[bP xx,bP yy]) (J.eY.kept hk3) (by rw [q1];exact hk) (by rw [q1];exact hsx) (by rw [q1];exact hsy) hns (by rw [q2];exact hclo) ?_ hd2 hzt hzw un2 (λt tk4=>?_) hdx hdy hdc
   .obtain ⟨o,e,d⟩:=hcv;exact ⟨o,hk3 _ _ (kk _ _ e),d⟩
   .refine hR _ tk4 _ _ (λb o e=>aq _ (hk3 b o e)) ?_ (aJ _ rfl) ⟨t,by unfold Io;rw [ez];rfl⟩
    cases q:h.get? h3.objs.size with
    | none=>rfl
    | some o=>exact absurd (aH (hk3 _ _ q)) (fk _)
 have hzl:(zs.map λz=>aB z.2).length<=aU:=bq (m:=128) (by rw [af];lia);refine TX Kh G8 G9 (ksk_s1 _ _) ?_;unfold iB.«sorted»;refine ae (m:=Oh "sorted" 1 1 _) (ar (ae (col λh3 tk3 keep3=>?_)));refine ae (oh ?_ hzl);have g4:(h3.push (b8 "list" (zs.map λz=>aB z.2).toArray 0)).get? h3.objs.size=some (b8 "list" (zs.map λz=>aB z.2).toArray 0):=aJ _ rfl;have hb:∀ b o,h'.get? b=some o->b≠h3.objs.size:=λb o e=>a6 (aH (keep3 b o e));have k4:∀ {h:cK},UA h3.objs.size (h3.push (b8 "list" (zs.map λz=>aB z.2).toArray 0)) h->∀ b o,h'.get? b=some o->h.get? b=some o:=λk b o e=>k b o (hb b o e) (aq _ (keep3 b o e))
 have gD:h'.get? h3.objs.size=none:=by
  cases q:h'.get? h3.objs.size with
  | none=>rfl
  | some o=>exact absurd rfl (hb _ o q)
 show aK (aL X.prog X.w) X.A.in1 (do let _ ← jC [aB h3.objs.size] (call (.builtin "list.sort") [aB h3.objs.size] _);ret (aB h3.objs.size)) _ _ { s1 with heap:=h3.push (b8 "list" (zs.map λz=>aB z.2).toArray 0),toks:=tk3 }
 refine ae (cI (Xk Al ⟨_,g4,rfl⟩ xQ ?_ (ksk_l1 _ _)))
 show aK (aL X.prog X.w) X.A.in1.in1 (iB.«list.sort» ⟨[.ref h3.objs.size],[(iH "key",.ref f)]⟩) _ _ _
 rw [ksk_t1]
 refine Iu (s:={ s1 with heap:=h3.push (b8 "list" (zs.map λz=>aB z.2).toArray 0),toks:=tk3 }) (KO:=λz o=>∃ t,o=Io z t) g4 h64 one (λz hz h tk' kp R hR=>turn z hz h tk' (k4 kp) R hR) ?_ ?_ λh7 tk7 c7 zs' kp g7 hperm hsort=>⟨_,rfl,ar ⟨_,rfl,?_⟩⟩
 .rintro z o ⟨t,rfl⟩;exact ⟨rfl,_,t,_,0,rfl,rfl⟩
 .rintro z hz z' hz' k k' o o' h tk' kp g g' ⟨t,rfl⟩ ⟨t',rfl⟩ Q' hQ
  have tie:∀ z∈zs,∃ v x y t u,z.1=[v,x,y]/\oz h z.2 #[.int x t,.int y u]:=λz hz=>by
   obtain ⟨ww,xx,yy,ez,hzt,hzw⟩:=k2 z hz;obtain ⟨ts,r,it,_⟩:=I2.tuple (.of hzt)
   cases r with
   | cons h1 r =>
    cases r with
    | cons h2 r =>
     cases r;obtain ⟨t,rfl⟩:=h1;obtain ⟨u,rfl⟩:=h2;obtain ⟨o,e,rest⟩:=it;exact ⟨ww,xx,yy,t,u,ez,o,k4 kp _ o e,rest⟩
  obtain ⟨v1,x1,y1,ta,tb,z1,b1⟩:=tie z hz;obtain ⟨v2,x2,y2,tc,td,z2,b2⟩:=tie z' hz';rw [z1,z2] at hQ;refine SJ (s:={ s1 with heap:=h,toks:=tk' }) (w1:=v1) (w2:=v2) ⟨_,g,rfl,0,by unfold Io;rw [z1];rfl⟩ ⟨_,g',rfl,0,by unfold Io;rw [z2];rfl⟩ b1 b2 (by show X.A.units+1+1<_;lia) hQ
 .obtain ⟨hn,I3⟩:=I2.Q8 (t':=tk7) (o:=.lst (zs'.map kb)) (k4 kp) gD ⟨by rw [af,hperm.length_eq];exact bq (m:=128) (by lia),_,c7,pO zs',g7⟩;exact ⟨.ref h3.objs.size,_,I3,rfl,fin h3.objs.size zs' hn hperm hsort⟩
end
end L2
namespace L2
open PySem
variable {P:List aj->Prop}
theorem m1 (h:∀ a,P [a]):∀ us:List aj,us.length=1->P us
 | [a],_=>h a
theorem m2 (h:∀ a b,P [a,b]):∀ us:List aj,us.length=2->P us
 | [a,b],_=>h a b
theorem m3 (h:∀ a b c,P [a,b,c]):∀ us:List aj,us.length=3->P us
 | [a,b,c],_=>h a b c
theorem m4 (h:∀ a b c d,P [a,b,c,d]):∀ us:List aj,us.length=4->P us
 | [a,b,c,d],_=>h a b c d
end L2
namespace Rm
variable {f:Nat->Int}{m:Nat}{r:List Int}
def tn {α:Type} (r:List α) (k:Nat):List α:=r.drop k++(r.drop 1).take k
theorem Qg {k:Nat}(hk:k<r.length):(tn r k).length=r.length:=by
 unfold tn;rw [bg,cW,bS,cW];lia
theorem SW:tn r 0=r:=by simp [tn]
theorem KG {a:Int}(h:a∈r):r.idxOf a<r.length:=fW.mpr h
end Rm
namespace Rm
section
variable {n:Nat}{v par:Nat->Nat}
end
end Rm
namespace Rm
def al:List Int->List (Int×Int)
 | []=>[]
 | [_]=>[]
 | a::b::r=>(a,b)::al (b::r)
theorem KH:∀ r:List Int,al r=r.zip (r.drop 1)
 | []=>rfl
 | [_]=>rfl
 | a::b::r=>by
  have:=KH (b::r);simp only [List.drop_succ_cons,Hh] at this ⊢;rw [jf,← this];rfl
theorem kq:∀ (xs:List Int) (x:Int) (ys:List Int),al (xs++x::ys)=al (xs++[x])++al (x::ys)
 | [],x,ys=>rfl
 | [a],x,ys=>rfl
 | a::b::xs,x,ys=>by
  have:=kq (b::xs) x ys
  show (a,b)::al ((b::xs)++x::ys)=(a,b)::al ((b::xs)++[x])++al (x::ys)
  rw [this];rfl
theorem fY:∀ {r:List Int}{x y:Int},(x,y)∈al r->x∈r/\y∈r
 | a::b::r,x,y,h=>by
  rcases au.mp h with e|h
  .cases e;simp
  .have:=fY h;exact ⟨ai _ this.1,ai _ this.2⟩
theorem KI:∀ r:List Int,(al r).length=r.length-1
 | []=>rfl
 | [_]=>rfl
 | a::b::r=>by
  have:=KI (b::r);simp only [al,bI] at this ⊢;lia
structure lA (r:List Int):Prop where
 ne:r≠[]
 cnt:∃ ds:List Int,ds.Nodup/\(∀ x,x∈ds↔x∈r)/\r.length+1=2*ds.length
 ends:r.head?=r.getLast?
 nd:(al r).Nodup
 sym:∀ x y,(x,y)∈al r->(y,x)∈al r
theorem lA.one (a:Int):lA [a]:=⟨by simp,⟨[a],by simp,by simp,rfl⟩,rfl,by simp [al],λx y h=>by simp [al] at h⟩
theorem lA.Q3 {A B:List Int}{z:Int}(h:lA (A++z::B)) (hA:z∉A) (hB:z∉B) (hn:A++B≠[]):∃ A' w B',A=A'++[w]/\B=w::B':=by
 have he:=h.ends
 have hAne:A≠[]:=λe=>by
  subst e;simp only [List.nil_append,WY] at he hn
  rcases fF B with e|⟨us,u,e⟩
  .exact hn e
  .rw [fG] at e;subst e;rw [show z::(us++[u])=(z::us)++[u] by simp,cO] at he;simp at he;subst he;exact hB (by simp)
 have hBne:B≠[]:=λe=>by
  subst e;rw [cO] at he;simp at he
  cases A with
  | nil=>exact hAne rfl
  | cons a A =>
   simp at he;subst he;exact hA (by simp)
 obtain ⟨A',w,e⟩:∃ A' w,A=A'++[w]:=by
  rcases fF A with e|⟨us,u,e⟩
  .exact absurd e hAne
  .exact ⟨us,u,by rw [e,fG]⟩
 subst e
 cases B with
 | nil=>exact absurd rfl hBne
 | cons v B' =>
  refine ⟨A',w,B',rfl,?_⟩
  have e1:al (A'++[w]++z::v::B')=al (A'++[w])++((w,z)::(z,v)::al (v::B')):=by
   rw [df,Oi,kq];rfl
  have m:=h.sym w z (by rw [e1];simp);rw [e1] at m
  rcases aS.mp m with m|m
  .exact absurd (fY m).1 hA
  .rcases au.mp m with m|m
   .cases m;exact absurd (by simp) hA
   .rcases au.mp m with m|m
    .cases m;rfl
    .exact absurd (fY m).1 hB
theorem Qh (xs ys:List Int) (w z:Int):(al (xs++w::z::w::ys)).Perm ((w,z)::(z,w)::al (xs++w::ys)):=by
 rw [kq,kq xs w ys]
 show (al (xs++[w])++([(w,z),(z,w)]++al (w::ys))).Perm ([(w,z),(z,w)]++(al (xs++[w])++al (w::ys)))
 rw [← df,← df];exact List.Perm.append_right _ fE
theorem Bd (xs ys:List Int) (w z:Int):(xs++w::z::w::ys).head?=(xs++w::ys).head?/\(xs++w::z::w::ys).getLast?=(xs++w::ys).getLast?:=by
 constructor
 .cases xs<;>simp
 .cases ys with
  | nil=>simp [cO]
  | cons y ys=>simp [cO,kO]
theorem lA.NX {xs ys:List Int}{w z:Int}(h:lA (xs++w::z::w::ys)) (hz:z∉xs++w::ys):lA (xs++w::ys):=by
 have hp:=Qh xs ys w z;have nd:=hp.nodup_iff.mp h.nd;have nd2:=(bb.mp nd).2;refine ⟨by simp,?_,?_,(bb.mp nd2).2,λx y hxy=>?_⟩
 .obtain ⟨ds,h1,h2,h3⟩:=h.cnt;have hzd:z∈ds:=(h2 z).mpr (by simp);refine ⟨ds.erase z,h1.erase z,λx=>?_,?_⟩
  .rw [h1.mem_erase_iff,h2]
   constructor
   .rintro ⟨h4,h5⟩;simp at h5 ⊢
    rcases h5 with h5|h5|h5|h5|h5
    .exact .inl h5
    .exact .inr (.inl h5)
    .exact absurd h5 h4
    .exact .inr (.inl h5)
    .exact .inr (.inr h5)
   .intro h5;refine ⟨λe=>hz (e▸h5),?_⟩;simp at h5 ⊢
    rcases h5 with h5|h5|h5
    .exact .inl h5
    .exact .inr (.inl h5)
    .exact .inr (.inr (.inr (.inr h5)))
  .rw [Ki hzd];have:0<ds.length:=tJ hzd;simp at h3 ⊢;lia
 .have:=Bd xs ys w z;rw [← this.1,← this.2];exact h.ends
 .have hm:=hp.mem_iff.mp (h.sym x y (hp.mem_iff.mpr (ai _ (ai _ hxy))))
  rcases au.mp hm with e|hm
  .cases e;exact absurd (fY hxy).1 hz
  .rcases au.mp hm with e|hm
   .cases e;exact absurd (fY hxy).2 hz
   .exact hm
theorem lA.put {xs ys:List Int}{w z:Int}(h:lA (xs++w::ys)) (hz:z∉xs++w::ys):lA (xs++w::z::w::ys):=by
 have hp:=Qh xs ys w z;have hwz:w≠z:=λe=>hz (by simp [e]);refine ⟨by simp,?_,?_,hp.nodup_iff.mpr ?_,λx y hxy=>?_⟩
 .obtain ⟨ds,h1,h2,h3⟩:=h.cnt;refine ⟨z::ds,bb.mpr ⟨λhm=>hz ((h2 z).mp hm),h1⟩,λx=>?_,?_⟩
  .rw [au,h2];simp
   constructor
   .rintro (h|h|h|h)
    .exact .inr (.inr (.inl h))
    .exact .inl h
    .exact .inr (.inl h)
    .exact .inr (.inr (.inr (.inr h)))
   .rintro (h|h|h|h|h)
    .exact .inr (.inl h)
    .exact .inr (.inr (.inl h))
    .exact .inl h
    .exact .inr (.inr (.inl h))
    .exact .inr (.inr (.inr h))
  .simp at h3 ⊢;lia
 .have:=Bd xs ys w z;rw [this.1,this.2];exact h.ends
 .refine bb.mpr ⟨λhm=>?_,bb.mpr ⟨λhm=>hz (fY hm).1,h.nd⟩⟩
  rcases au.mp hm with e|hm
  .exact hwz (by cases e;rfl)
  .exact hz (fY hm).2
 .refine hp.mem_iff.mpr ?_
  rcases au.mp (hp.mem_iff.mp hxy) with e|hm
  .cases e;simp
  .rcases au.mp hm with e|hm
   .cases e;simp
   .exact ai _ (ai _ (h.sym x y hm))
theorem pQ:∀ {ds r:List Int},ds.Nodup->(∀ x∈r,x∈ds)->(ds.map λd=>r.count d).sum=r.length
 | ds,[],h1,h2=>by
  have:(ds.map λd=>([]:List Int).count d)=ds.map λ_=>0:=by simp
  rw [this]
  clear this h1 h2
  induction ds with
  | nil=>rfl
  | cons d ds ih=>simpa using ih
 | ds,x::r,h1,h2=>by
  have ih:=pQ (ds:=ds) (r:=r) h1 λy hy=>h2 y (ai _ hy);have hx:=h2 x aw
  have key:∀ (ds:List Int),ds.Nodup->(ds.map λd=>(x::r).count d).sum=(ds.map λd=>r.count d).sum+if x∈ds then 1 else 0:=by
   intro ds
   induction ds with
   | nil=>intro _;simp
   | cons d ds ih2 =>
    intro hnd;have:=ih2 (bb.mp hnd).2;have hd:=(bb.mp hnd).1;simp only [aW,fX,uh] at this ⊢;rw [this]
    by_cases e:x=d
    .subst e;simp [hd];lia
    .have e':¬ d=x:=λz=>e z.symm;simp [e];lia
  rw [key ds h1,ih,if_pos hx,bI]
theorem lA.leaf {r:List Int}(h:lA r) (h1:1<r.length):∃ xs w z ys,r=xs++w::z::w::ys/\z∉xs++w::ys:=by
 obtain ⟨ds,d1,d2,d3⟩:=h.cnt;have hs:=pQ d1 λx hx=>(d2 x).mpr hx
 obtain ⟨z,hz,hc⟩:∃ z∈ds,r.count z<2:=by
  refine Classical.byContradiction λq=>?_
  have hall:∀ z∈ds,2<=r.count z:=λz hz=>by
   by_cases c:r.count z<2
   .exact absurd ⟨z,hz,c⟩ q
   .lia
  have:∀ (ds:List Int),(∀ z∈ds,2<=r.count z)->2*ds.length<=(ds.map λd=>r.count d).sum:=by
   intro ds
   induction ds with
   | nil=>intro _;simp
   | cons d ds ih =>
    intro h;have a:=ih λz hz=>h z (ai _ hz);have b:=h d aw;simp only [aW,fX,bI];lia
  have:=this ds hall;lia
 have hzr:=(d2 z).mp hz;obtain ⟨A,B,e⟩:=kN hzr;subst e
 have hc2:A.count z=0/\B.count z=0:=by
  rw [gB,jM] at hc;lia
 have hA:z∉A:=eT.mp hc2.1;have hB:z∉B:=eT.mp hc2.2
 obtain ⟨A',w,B',e1,e2⟩:=h.Q3 hA hB (λq=>by
  rw [tK] at q;rw [q.1,q.2] at h1
  simp at h1)
 subst e1 e2
 exact ⟨A',w,z,B',by simp,λhm=>by
  simp at hm hA hB
  rcases hm with hm|hm|hm
  .exact hA.1 hm
  .exact hA.2 hm
  .exact hB.2 hm⟩
end Rm
namespace Rm
variable {a b:Int}{r xs ys T:List Int}
theorem lA.Tz {r':List Int}(h:lA r) (hn:r'≠[]) (hm:∀ x,x∈r'↔x∈r) (hl:r'.length=r.length) (he:r'.head?=r'.getLast?) (hp:(al r').Perm (al r)):lA r' :=
 ⟨hn,let ⟨ds,a,b,c⟩:=h.cnt;⟨ds,a,λx=>by rw [b,hm],by rw [hl];exact c⟩,he,hp.nodup_iff.mpr h.nd,λx y z=>hp.mem_iff.mpr (h.sym x y (hp.mem_iff.mp z))⟩
theorem EO (h:a∈r):∃ xs ys,r=xs++a::ys/\xs.length=r.idxOf a/\a∉xs:=by
 induction r with
 | nil=>cases h
 | cons b r ih =>
  by_cases e:b=a
  .subst e;exact ⟨[],r,rfl,by simp,by simp⟩
  .have ha:a∈r:=(au.mp h).resolve_left λq=>e q.symm;obtain ⟨xs,ys,e1,e2,e3⟩:=ih ha
   have eb:(b == a)=false:=by simpa using e
   refine ⟨b::xs,ys,by rw [e1];rfl,by rw [WZ,eb];simp [e2],λhm=>?_⟩
   rcases au.mp hm with q|q
   .exact e q.symm
   .exact e3 q
theorem lA.turn (h:lA r) (ha:a∈r):lA (tn r (r.idxOf a))/\(al (tn r (r.idxOf a))).Perm (al r)/\(tn r (r.idxOf a)).head?=some a/\(∀ x,x∈tn r (r.idxOf a)↔x∈r)/\(tn r (r.idxOf a)).length=r.length:=by
 have hlen:(tn r (r.idxOf a)).length=r.length:=Qg (KG ha);obtain ⟨xs,ys,e,el,hx⟩:=EO ha
 cases xs with
 | nil =>
  have e0:r.idxOf a=0:=by rw [← el];rfl
  rw [e0,SW]
  exact ⟨h,sV _,by rw [e];rfl,λx=>Iff.rfl,rfl⟩
 | cons b xs =>
  have hba:b≠a:=λq=>hx (by simp [q]);have he:=h.ends
  obtain ⟨ys',ey⟩:∃ ys',ys=ys'++[b]:=by
   rw [e] at he;simp only [Vc,WY] at he;rw [show b::(xs++a::ys)=(b::xs++[a])++ys by simp,cO] at he
   rcases fF ys with q|⟨us,u,q⟩
   .subst q;rw [show b::xs++[a]=(b::xs)++[a] by rfl,cO] at he;simp at he;exact absurd he hba
   .rw [fG] at q;subst q;rw [cO] at he;simp at he;subst he;exact ⟨us,rfl⟩
  subst ey
  have et:tn r (r.idxOf a)=(a::ys')++b::(xs++[a]):=by
   unfold tn;rw [← el,e];simp only [bI]
   have d1:((b::xs)++a::(ys'++[b])).drop (xs.length+1)=a::(ys'++[b]):=by simp
   have d2:(((b::xs)++a::(ys'++[b])).drop 1).take (xs.length+1)=xs++[a]:=by
    show (xs++a::(ys'++[b])).take (xs.length+1)=xs++[a]
    rw [Vd,bT (by lia)];simp
   rw [d1,d2];simp
  have hp:(al (tn r (r.idxOf a))).Perm (al r):=by
   rw [et,e,kq (a::ys') b (xs++[a]),kq (b::xs) a (ys'++[b])];exact fE
  have hm:∀ x,x∈tn r (r.idxOf a)↔x∈r:=λx=>by
   rw [et,e];simp
   constructor
   .rintro (q|q|q|q|q)
    .exact .inr (.inr (.inl q))
    .exact .inr (.inr (.inr (.inl q)))
    .exact .inl q
    .exact .inr (.inl q)
    .exact .inr (.inr (.inl q))
   .rintro (q|q|q|q|q)
    .exact .inr (.inr (.inl q))
    .exact .inr (.inr (.inr (.inl q)))
    .exact .inl q
    .exact .inr (.inl q)
    .exact .inr (.inr (.inl q))
  refine ⟨h.Tz (by rw [et];simp) hm hlen (by rw [et];simp [cO,kO]) hp,hp,by rw [et];rfl,hm,hlen⟩
theorem FV (h1:T.head?=some b) (h2:T.getLast?=some b):(al (xs++a::(T++a::ys))).Perm ((a,b)::(b,a)::(al (xs++a::ys)++al T)):=by
 obtain ⟨T1,e1⟩:∃ T1,T=b::T1:=by
  cases T with
  | nil=>simp at h1
  | cons c T=>simp at h1;exact ⟨T,by rw [h1]⟩
 obtain ⟨T2,e2⟩:∃ T2,T=T2++[b]:=by
  rcases fF T with q|⟨us,u,q⟩
  .subst q;simp at h2
  .rw [fG] at q;subst q;simp at h2;exact ⟨us,by rw [h2]⟩
 have e3:al (a::(T++a::ys))=(a,b)::(al T++(b,a)::al (a::ys)):=by
  have e4:al (T++a::ys)=al T++(b,a)::al (a::ys):=by
   conv=>lhs;rw [e2,df,Oi,kq]
   rw [← e2];rfl
  have e5:al (a::(T++a::ys))=(a,b)::al (T++a::ys):=by rw [e1];rfl
  rw [e5,e4]
 rw [kq xs a (T++a::ys),kq xs a ys,e3];generalize al (xs++[a])=P;generalize al (a::ys)=R;generalize al T=U
 -- P++(ab::(U++ba::R)) ~ ab::ba::((P++R)++U)
 refine CY.trans (kL _ ?_);rw [← df];refine CY.trans (kL _ ?_);rw [df,df];exact lg _ fE
theorem Qi (xs ys T:List Int) (a:Int):(xs++a::(T++a::ys)).head?=(xs++a::ys).head?/\(xs++a::(T++a::ys)).getLast?=(xs++a::ys).getLast?:=by
 constructor
 .cases xs<;>simp
 .cases ys with
  | nil=>simp [cO,kO]
  | cons y ys=>simp [cO,kO]
theorem lA.Wy (h:lA (xs++a::ys)) (hT:lA T) (h1:T.head?=some b) (hd:∀ x∈T,x∉xs++a::ys):lA (xs++a::(T++a::ys)):=by
 have h2:T.getLast?=some b:=by rw [← hT.ends];exact h1
 have hp:=FV (xs:=xs) (ys:=ys) (a:=a) h1 h2;have hb:b∈T:=jy (by rw [h1];rfl)
 have ha:a∈xs++a::ys:=by simp
 have hab:a≠b:=λe=>hd b hb (e▸ha);have hb':=hd b hb;have ha':a∉T:=λq=>hd a q ha;refine ⟨by simp,?_,?_,hp.nodup_iff.mpr ?_,λx y hxy=>?_⟩
 .obtain ⟨ds,d1,d2,d3⟩:=h.cnt;obtain ⟨es,e1,e2,e3⟩:=hT.cnt;refine ⟨ds++es,eE.mpr ⟨d1,e1,λx hx y hy q=>hd y ((e2 y).mp hy) (q▸(d2 x).mp hx)⟩,λx=>?_,?_⟩
  .rw [aS,d2,e2];simp
   constructor
   .rintro ((q|q|q)|q)
    .exact .inl q
    .exact .inr (.inl q)
    .exact .inr (.inr (.inr (.inr q)))
    .exact .inr (.inr (.inl q))
   .rintro (q|q|q|q|q)
    .exact .inl (.inl q)
    .exact .inl (.inr (.inl q))
    .exact .inr q
    .exact .inl (.inr (.inl q))
    .exact .inl (.inr (.inr q))
  .simp at d3 ⊢;lia
 .have:=Qi xs ys T a;rw [this.1,this.2];exact h.ends
 .refine bb.mpr ⟨λhm=>?_,bb.mpr ⟨λhm=>?_,eE.mpr ⟨h.nd,hT.nd,?_⟩⟩⟩
  .rcases au.mp hm with q|hm
   .exact hab (by cases q;rfl)
   .rcases aS.mp hm with q|q
    .exact hb' (fY q).2
    .exact ha' (fY q).1
  .rcases aS.mp hm with q|q
   .exact hb' (fY q).1
   .exact ha' (fY q).2
  .rintro ⟨x,y⟩ hx t ht q;subst q;exact hd x (fY ht).1 (fY hx).1
 .refine hp.mem_iff.mpr ?_
  rcases au.mp (hp.mem_iff.mp hxy) with q|hm
  .cases q;simp
  .rcases au.mp hm with q|hm
   .cases q;simp
   .refine ai _ (ai _ ?_)
    rcases aS.mp hm with q|q
    .exact eU _ (h.sym x y q)
    .exact bH _ (hT.sym x y q)
theorem lA.part:∀ (n:Nat) {p q inn:List Int}{x y:Int},(p++x::(inn++x::q)).length<=n->lA (p++x::(inn++x::q))->inn.head?=some y->inn.getLast?=some y ->
  lA inn/\lA (p++x::q)/\∀ c∈inn,c∉p++x::q
 | 0,p,q,inn,x,y,hn,h,h1,h2=>by simp at hn
 | n+1,p,q,inn,x,y,hn,h,h1,h2=>by
  have hl:1<(p++x::(inn++x::q)).length:=by simp;lia
  obtain ⟨X,w,z,Y,e,hz⟩:=h.leaf hl
  have hc:(p++x::(inn++x::q)).count z=1:=by
   rw [e];simp at hz;have a1:X.count z=0:=eT.mpr hz.1;have a2:Y.count z=0:=eT.mpr hz.2.2;have a3:¬ w=z:=λq=>hz.2.1 q.symm;simp [gB,uh,a1,a2,a3]
  have hzx:x≠z:=λq=>by
   subst q;simp [gB,uh] at hc;lia
  have hc2:p.count z+inn.count z+q.count z=1:=by
   simp [gB,uh,hzx] at hc;lia
  -- a place that stands once,with what is around it
  have at_:∀ A B,p++x::(inn++x::q)=A++z::B->∃ A' w B',A=A'++[w]/\B=w::B':=λA B eA=>by
   rw [eA] at h hc hl
   have c0:A.count z=0/\B.count z=0:=by rw [gB,jM] at hc;lia
   refine h.Q3 (eT.mp c0.1) (eT.mp c0.2) λq=>?_;rw [tK] at q;rw [q.1,q.2] at hl;simp at hl
  have nin:∀ {l:List Int},l.count z=0->z∉l:=λq=>eT.mp q
  by_cases z1:z∈inn
  .have k1:0<inn.count z:=zB.mpr z1;have hp0:z∉p:=nin (by lia);have hq0:z∉q:=nin (by lia);obtain ⟨i1,i2,ei⟩:=kN z1
   have c12:i1.count z=0/\i2.count z=0:=by
    rw [ei,gB,jM] at hc2;lia
   have n1:=nin c12.1;have n2:=nin c12.2
   by_cases hs:i1++i2=[]
   .rw [tK] at hs;rw [hs.1,hs.2] at ei;subst ei
    have zo:z∉p++x::q:=λhm=>by
     rcases aS.mp hm with m|m
     .exact hp0 m
     .rcases au.mp m with m|m
      .exact hzx m.symm
      .exact hq0 m
    refine ⟨lA.one z,lA.NX (w:=x) (z:=z) (by simpa using h) zo,λc hc=>?_⟩
    have:c=z:=by simpa using hc
    subst this;exact zo
   .obtain ⟨A',w',B',eA,eB⟩:=at_ (p++x::i1) (i2++x::q) (by rw [ei];simp)
    have i1n:i1≠[]:=λq0=>by
     subst q0;rw [ei] at h1 h2;simp at h1;subst h1
     rcases fF i2 with q1|⟨us,u,q1⟩
     .exact hs (by simp [q1])
     .rw [fG] at q1;subst q1;simp [cO,kO] at h2;exact n2 (by simp [h2])
    have i2n:i2≠[]:=λq0=>by
     subst q0;rw [ei] at h1 h2;rw [cO] at h2;simp at h2;subst h2
     cases i1 with
     | nil=>exact i1n rfl
     | cons a i1=>simp at h1;exact n1 (by simp [h1])
    obtain ⟨i1',u,ei1⟩:∃ i1' u,i1=i1'++[u]:=by
     rcases fF i1 with q0|⟨us,u,q0⟩
     .exact absurd q0 i1n
     .exact ⟨us,u,by rw [q0,fG]⟩
    cases i2 with
    | nil=>exact absurd rfl i2n
    | cons v i2' =>
     have ev:v=w':=by simp at eB;exact eB.1
     have eu:u=w':=by
      rw [ei1,← Vc,← df] at eA;have:=tL eA rfl
      simpa using this
     subst ei1 ev eu
     have ei':inn=i1'++u::z::u::i2':=by rw [ei];simp
     subst ei'
     have zi:z∉i1'++u::i2':=λhm=>by
      simp at hm n1 n2
      rcases hm with m|m|m
      .exact n1.1 m
      .exact n1.2 m
      .exact n2.2 m
     have eR:p++x::(i1'++u::z::u::i2'++x::q)=(p++x::i1')++u::z::u::(i2'++x::q):=by simp
     have eR':p++x::(i1'++u::i2'++x::q)=(p++x::i1')++u::(i2'++x::q):=by simp
     have zR:z∉(p++x::i1')++u::(i2'++x::q):=λhm=>by
      simp at hm zi
      rcases hm with m|m|m|m|m|m|m
      .exact hp0 m
      .exact hzx m.symm
      .exact zi.1 m
      .exact zi.2.1 m
      .exact zi.2.2 m
      .exact hzx m.symm
      .exact hq0 m
     rw [eR] at h;have hR':=h.NX zR;rw [← eR'] at hR';have en:=Bd i1' i2' u z;obtain ⟨r1,r2,r3⟩:=lA.part n (by simp at hn ⊢;lia) hR' (by rw [← en.1];exact h1) (by rw [← en.2];exact h2);refine ⟨r1.put zi,r2,λc hc=>?_⟩;simp at hc
     have hcz:c=z->c∉p++x::q:=λq0 hm=>by
      subst q0;simp at hm
      rcases hm with m|m|m
      .exact hp0 m
      .exact hzx m.symm
      .exact hq0 m
     rcases hc with m|m|m|m|m
     .exact r3 c (by simp [m])
     .exact r3 c (by simp [m])
     .exact hcz m
     .exact r3 c (by simp [m])
     .exact r3 c (by simp [m])
  .by_cases z2:z∈p
   .have k1:0<p.count z:=zB.mpr z2;have hq0:z∉q:=nin (by lia);obtain ⟨p1,p2,ep⟩:=kN z2;obtain ⟨A',w',B',eA,eB⟩:=at_ p1 (p2++x::(inn++x::q)) (by rw [ep];simp)
    have c12:p1.count z=0/\p2.count z=0:=by
     rw [ep,gB,jM] at hc2;lia
    have n1:=nin c12.1;have n2:=nin c12.2;subst eA
    cases p2 with
    | nil =>
     have ew:w'=x:=by simp at eB;exact eB.1.symm
     subst ew
     have ep':p=A'++[w',z]:=by rw [ep];simp
     subst ep'
     have zR:z∉A'++w'::(inn++w'::q):=λhm=>by
      simp at hm n1
      rcases hm with m|m|m|m|m
      .exact n1.1 m
      .exact n1.2 m
      .exact z1 m
      .exact n1.2 m
      .exact hq0 m
     have hR':=lA.NX (xs:=A') (w:=w') (z:=z) (ys:=inn++w'::q) (by simpa using h) zR;obtain ⟨r1,r2,r3⟩:=lA.part n (by simp at hn ⊢;lia) hR' h1 h2
     have zo:z∉A'++w'::q:=λhm=>by
      simp at hm n1
      rcases hm with m|m|m
      .exact n1.1 m
      .exact n1.2 m
      .exact hq0 m
     refine ⟨r1,by simpa using r2.put zo,λc hc hm=>?_⟩;simp at hm
     rcases hm with m|m|m|m
     .exact r3 c hc (by simp [m])
     .exact r3 c hc (by simp [m])
     .exact z1 (m▸hc)
     .exact r3 c hc (by
       rcases m with m|m
       .simp [m]
       .simp [m])
    | cons v p2 =>
     have ew:v=w':=by simp at eB;exact eB.1
     subst ew
     have ep':p=A'++v::z::v::p2:=by rw [ep];simp
     subst ep'
     have zR:z∉A'++v::(p2++x::(inn++x::q)):=λhm=>by
      simp at hm n1 n2
      rcases hm with m|m|m|m|m|m|m
      .exact n1.1 m
      .exact n1.2 m
      .exact n2.2 m
      .exact hzx m.symm
      .exact z1 m
      .exact hzx m.symm
      .exact hq0 m
     have hR':=lA.NX (xs:=A') (w:=v) (z:=z) (ys:=p2++x::(inn++x::q)) (by simpa using h) zR;obtain ⟨r1,r2,r3⟩:=lA.part n (p:=A'++v::p2) (q:=q) (inn:=inn) (x:=x) (by simp at hn ⊢;lia) (by simpa using hR') h1 h2
     have zo:z∉A'++v::(p2++x::q):=λhm=>by
      simp at hm n1 n2
      rcases hm with m|m|m|m|m
      .exact n1.1 m
      .exact n1.2 m
      .exact n2.2 m
      .exact hzx m.symm
      .exact hq0 m
     refine ⟨r1,by simpa using lA.put (xs:=A') (w:=v) (z:=z) (ys:=p2++x::q) (by simpa using r2) zo,λc hc hm=>?_⟩;simp at hm
     rcases hm with m|m|m|m|m|m|m
     .exact r3 c hc (by simp [m])
     .exact r3 c hc (by simp [m])
     .exact z1 (m▸hc)
     .exact r3 c hc (by simp [m])
     .exact r3 c hc (by simp [m])
     .exact r3 c hc (by simp [m])
     .exact r3 c hc (by simp [m])
   .have hq1:z∈q:=by
     have k1:0<q.count z:=by
      have a1:=eT.mpr z1;have a2:=eT.mpr z2;lia
     exact zB.mp k1
    obtain ⟨q1,q2,eq⟩:=kN hq1;obtain ⟨A',w',B',eA,eB⟩:=at_ (p++x::(inn++x::q1)) q2 (by rw [eq];simp)
    have c12:q1.count z=0/\q2.count z=0:=by
     rw [eq,gB,jM] at hc2;lia
    have n1:=nin c12.1;have n2:=nin c12.2;subst eB
    rcases fF q1 with e1|⟨q1',u,e1⟩
    .subst e1
     have ew:x=w':=by
      rw [show p++x::(inn++[x])=(p++x::inn)++[x] by simp] at eA;have:=tL eA rfl
      simpa using this
     subst ew
     have eq':q=z::x::B':=by rw [eq];rfl
     subst eq'
     have zR:z∉(p++x::inn)++x::B':=λhm=>by
      simp at hm n2
      rcases hm with m|m|m|m|m
      .exact z2 m
      .exact hzx m.symm
      .exact z1 m
      .exact hzx m.symm
      .exact n2.2 m
     have hR':=lA.NX (xs:=p++x::inn) (w:=x) (z:=z) (ys:=B') (by simpa using h) zR;obtain ⟨r1,r2,r3⟩:=lA.part n (p:=p) (q:=B') (inn:=inn) (x:=x) (by simp at hn ⊢;lia) (by simpa using hR') h1 h2
     have zo:z∉p++x::B':=λhm=>by
      simp at hm n2
      rcases hm with m|m|m
      .exact z2 m
      .exact hzx m.symm
      .exact n2.2 m
     refine ⟨r1,r2.put zo,λc hc hm=>?_⟩;simp at hm
     rcases hm with m|m|m|m|m
     .exact r3 c hc (by simp [m])
     .exact r3 c hc (by simp [m])
     .exact z1 (m▸hc)
     .exact r3 c hc (by simp [m])
     .exact r3 c hc (by simp [m])
    .rw [fG] at e1;subst e1
     have ew:u=w':=by
      rw [show p++x::(inn++x::(q1'++[u]))=(p++x::(inn++x::q1'))++[u] by simp] at eA;have:=tL eA rfl
      simpa using this
     subst ew
     have eq':q=q1'++u::z::u::B':=by rw [eq];simp
     subst eq'
     have zR:z∉(p++x::(inn++x::q1'))++u::B':=λhm=>by
      simp at hm n1 n2
      rcases hm with m|m|m|m|m|m|m
      .exact z2 m
      .exact hzx m.symm
      .exact z1 m
      .exact hzx m.symm
      .exact n1.1 m
      .exact n1.2 m
      .exact n2.2 m
     have hR':=lA.NX (xs:=p++x::(inn++x::q1')) (w:=u) (z:=z) (ys:=B') (by simpa using h) zR;obtain ⟨r1,r2,r3⟩:=lA.part n (p:=p) (q:=q1'++u::B') (inn:=inn) (x:=x) (by simp at hn ⊢;lia) (by simpa using hR') h1 h2
     have zo:z∉(p++x::q1')++u::B':=λhm=>by
      simp at hm n1 n2
      rcases hm with m|m|m|m|m
      .exact z2 m
      .exact hzx m.symm
      .exact n1.1 m
      .exact n1.2 m
      .exact n2.2 m
     refine ⟨r1,by simpa using lA.put (xs:=p++x::q1') (w:=u) (z:=z) (ys:=B') (by simpa using r2) zo,λc hc hm=>?_⟩;simp at hm
     rcases hm with m|m|m|m|m|m|m
     .exact r3 c hc (by simp [m])
     .exact r3 c hc (by simp [m])
     .exact r3 c hc (by simp [m])
     .exact r3 c hc (by simp [m])
     .exact z1 (m▸hc)
     .exact r3 c hc (by simp [m])
     .exact r3 c hc (by simp [m])
end Rm
namespace Rm
variable {r:List Int}{i:Nat}
theorem Qj {x y:Int}:(al r)[i]?=some (x,y)↔r[i]?=some x/\r[i+1]?=some y:=by
 rw [KH,pI,oF,Oj 1 i]
def qZ (r:List Int) (i j:Nat):List Int:=(r.drop (i+1)).take (j-i)
def x9 (r:List Int) (i j:Nat):List Int:=r.take (i+1)++r.drop (j+2)
def xI (r:List Int) (a b:Int):List Int×List Int :=
 if (al r).idxOf (a,b)<(al r).idxOf (b,a) then (x9 r ((al r).idxOf (a,b)) ((al r).idxOf (b,a)),qZ r ((al r).idxOf (a,b)) ((al r).idxOf (b,a)))
 else (qZ r ((al r).idxOf (b,a)) ((al r).idxOf (a,b)),x9 r ((al r).idxOf (b,a)) ((al r).idxOf (a,b)))
theorem Qk {j:Nat}{x y:Int}(hij:i<j) (h1:r[i]?=some x) (h2:r[i+1]?=some y) (h3:r[j]?=some y) (h4:r[j+1]?=some x) :
  r=r.take i++x::(qZ r i j++x::r.drop (j+2))/\x9 r i j=r.take i++x::r.drop (j+2)/\(qZ r i j).head?=some y/\(qZ r i j).getLast?=some y/\(qZ r i j).length+(x9 r i j).length+1=r.length:=by
 have l4:=(aD.mp h4).1
 have g1:r.drop i=x::r.drop (i+1):=by
  have hl:=aD.mp h1;rw [iw hl.1,hl.2]
 have g2:r.drop (j+1)=x::r.drop (j+2):=by
  have hl:=aD.mp h4;rw [iw hl.1,hl.2]
 have g3:r.drop (i+1)=qZ r i j++r.drop (j+1):=by
  unfold qZ;have:=fD (j-i) (r.drop (i+1));rw [Xi,show i+1+(j-i)=j+1 by lia] at this;exact this.symm
 have li:(qZ r i j).length=j-i:=by unfold qZ;rw [bS,cW];lia
 refine ⟨?_,?_,?_,?_,?_⟩
 .rw [← g2,← g3,← g1,fD]
 .unfold x9;rw [fo,h1];simp
 .rw [List.head?_eq_getElem?];unfold qZ;rw [kM,if_pos (by lia),oF];exact h2
 .rw [List.getLast?_eq_getElem?,li];unfold qZ;rw [kM,if_pos (by lia),oF,show i+1+(j-i-1)=j by lia];exact h3
 .rw [li];unfold x9;rw [bg,bS,cW];lia
theorem UB {a b:Int}(h:(a,b)∈al r):r[(al r).idxOf (a,b)]?=some a/\r[(al r).idxOf (a,b)+1]?=some b:=by
 have hl:(al r).idxOf (a,b)<(al r).length:=fW.mpr h;refine Qj.mp ?_;rw [ay hl,zA]
structure LC (r X Y:List Int) (a b:Int):Prop where
 x:lA X
 y:lA Y
 ha:a∈X
 hb:b∈Y
 YU:∀ c∈Y,c∉X
 pm:(al r).Perm ((a,b)::(b,a)::(al X++al Y))
 len:X.length+Y.length+1=r.length
theorem lA.parted {a b:Int}(h:lA r) (hm:(a,b)∈al r) (hab:a≠b):LC r (xI r a b).1 (xI r a b).2 a b:=by
 obtain ⟨p1,p2⟩:=UB hm;obtain ⟨q1,q2⟩:=UB (h.sym a b hm);unfold xI;generalize (al r).idxOf (a,b)=i at p1 p2;generalize (al r).idxOf (b,a)=j at q1 q2
 by_cases hij:i<j
 .rw [if_pos hij];obtain ⟨e1,e2,e3,e4,e5⟩:=Qk hij p1 p2 q1 q2;have hR:=h;rw [e1] at hR;obtain ⟨r1,r2,r3⟩:=lA.part _ (ak _) hR e3 e4;refine ⟨by rw [e2];exact r2,r1,by rw [e2];simp,jy (by rw [e3];rfl),λc hc=>by rw [e2];exact r3 c hc,?_,by simp only;lia⟩;simp only;rw [e2];have hp:=FV (xs:=r.take i) (ys:=r.drop (j+2)) (a:=a) e3 e4
  rwa [← e1] at hp
 .rw [if_neg hij]
  have hji:j<i:=by
   rcases Nat.lt_or_ge j i with q|q
   .exact q
   .have:i=j:=by lia
    subst this;rw [p1] at q1;exact absurd (a7 q1) hab
  obtain ⟨e1,e2,e3,e4,e5⟩:=Qk hji q1 q2 p1 p2;have hR:=h;rw [e1] at hR;obtain ⟨r1,r2,r3⟩:=lA.part _ (ak _) hR e3 e4;refine ⟨r1,by rw [e2];exact r2,jy (by rw [e3];rfl),by rw [e2];simp,λc hc hx=>by rw [e2] at hc;exact r3 c hx hc,?_,by simp only;lia⟩;simp only;rw [e2];have hp:=FV (xs:=r.take j) (ys:=r.drop (i+2)) (a:=b) e3 e4;rw [← e1] at hp;refine hp.trans ((List.Perm.swap _ _ _).trans (kL _ (kL _ fE)))
end Rm
namespace Rm
theorem Iz (x y:Int) (l:List Int):al (x::y::l)=(x,y)::al (y::l):=rfl
end Rm
namespace Rm
variable {n:Nat}{R:Nat->List Int}
def Be (r1 r2:List Int) (a b:Int):List Int:=r1.take (r1.idxOf a+1)++(tn r2 (r2.idxOf b)++r1.drop (r1.idxOf a))
structure GP (r1 r2:List Int) (a b:Int):Prop where
 h1:lA r1
 h2:lA r2
 ha:a∈r1
 hb:b∈r2
 YU:∀ x∈r2,x∉r1
theorem GP.facts {r1 r2:List Int}{a b:Int}(T:GP r1 r2 a b):lA (Be r1 r2 a b)/\(al (Be r1 r2 a b)).Perm ((a,b)::(b,a)::(al r1++al r2))/\(Be r1 r2 a b).length=r1.length+r2.length+1:=by
 obtain ⟨t1,t2,t3,t4,t5⟩:=T.h2.turn T.hb;obtain ⟨xs,ys,e,el,hx⟩:=EO T.ha
 have es:Be r1 r2 a b=xs++a::(tn r2 (r2.idxOf b)++a::ys):=by
  unfold Be;rw [← el]
  conv=>lhs;rw [e]
  have d1:(xs++a::ys).take (xs.length+1)=xs++[a]:=by
   rw [Vd,bT (by lia)];simp
  have d2:(xs++a::ys).drop xs.length=a::ys:=by simp
  rw [d1,d2];simp
 have hR:lA (xs++a::ys):=by rw [← e];exact T.h1
 have hd:∀ x∈tn r2 (r2.idxOf b),x∉xs++a::ys:=λx hx=>by rw [← e];exact T.YU x ((t4 x).mp hx)
 refine ⟨by rw [es];exact hR.Wy t1 t3 hd,?_,?_⟩
 .rw [es,e]
  have t3':(tn r2 (r2.idxOf b)).getLast?=some b:=by rw [← t1.ends];exact t3
  exact (FV t3 t3').trans (kL _ (kL _ (lg _ t2)))
 .have hlt:(tn r2 (r2.idxOf b)).length=r2.length:=t5;unfold Be;have:=KG T.ha;rw [bg,bg,bS,cW,hlt];lia
theorem GP.mem {r1 r2:List Int}{a b:Int}(T:GP r1 r2 a b) (x:Int):x∈Be r1 r2 a b↔x∈r1\/x∈r2:=by
 obtain ⟨t1,t2,t3,t4,t5⟩:=T.h2.turn T.hb;unfold Be;rw [aS,aS,t4]
 constructor
 .rintro (h|h|h)
  .exact .inl (OB h)
  .exact .inr h
  .exact .inl (List.mem_of_mem_drop h)
 .rintro (h|h)
  .rw [← fD (r1.idxOf a) r1] at h
   rcases aS.mp h with h|h
   .exact .inl (List.take_subset_take_left _ (iG _) h)
   .exact .inr (.inr h)
  .exact .inr (.inl h)
theorem LC.mem {r X Y:List Int}{a b:Int}(P:LC r X Y a b) (hr:lA r) (x:Int):x∈r↔x∈X\/x∈Y:=by
 have key:∀ {l:List Int},lA l->∀ {x:Int},x∈l->(l=[x]\/∃ y,(x,y)∈al l):=λ{l} hl {x} hx=>by
  obtain ⟨i,hi⟩:=bC.mp hx;have hlt:=(aD.mp hi).1
  by_cases h:i+1<l.length
  .exact .inr ⟨_,bC.mpr ⟨i,Qj.mpr ⟨hi,ay h⟩⟩⟩
  .by_cases h1:l.length=1
   .obtain ⟨c,rfl⟩:=List.length_eq_one_iff.mp h1
    have:i=0:=by simp at hlt;lia
    subst this;simp at hi;exact .inl (by rw [hi])
   .have e1:l[i-1]?=some l[i-1]:=ay (by lia);exact .inr ⟨_,hl.sym _ _ (bC.mpr ⟨i-1,Qj.mpr ⟨e1,by rw [show i-1+1=i by lia];exact hi⟩⟩)⟩
 constructor
 .intro hx
  rcases key hr hx with e|⟨y,hy⟩
  .have:=P.len;rw [e] at this;have h1:=Ru.mpr P.x.ne;have h2:=Ru.mpr P.y.ne;rw [N7] at this;lia
  .rcases au.mp (P.pm.mem_iff.mp hy) with e|hy
   .cases e;exact .inl P.ha
   .rcases au.mp hy with e|hy
    .cases e;exact .inr P.hb
    .rcases aS.mp hy with hy|hy
     .exact .inl (fY hy).1
     .exact .inr (fY hy).1
 .intro hx;have J9:∀ {u v:Int},(u,v)∈(a,b)::(b,a)::(al X++al Y)->u∈r:=λh=>(fY (P.pm.mem_iff.mpr h)).1
  rcases hx with hx|hx
  .rcases key P.x hx with e|⟨y,hy⟩
   .have:=P.ha;rw [e] at this;rw [← aC.mp this];exact J9 (v:=b) aw
   .exact J9 (v:=y) (ai _ (ai _ (eU _ hy)))
  .rcases key P.y hx with e|⟨y,hy⟩
   .have:=P.hb;rw [e] at this;rw [← aC.mp this];exact J9 (v:=a) (ai _ aw)
   .exact J9 (v:=y) (ai _ (ai _ (bH _ hy)))
structure Wd (n:Nat) (R:Nat->List Int):Prop where
 r:∀ i,i<n->lA (R i)
 me:∀ i:Nat,i<n->(i:Int)∈R i
 J9:∀ i,i<n->∀ x∈R i,∃ j:Nat,j<n/\x=(j:Int)/\R j=R i
def Ed (n:Nat) (R:Nat->List Int) (x y:Int):Prop:=∃ i,i<n/\(x,y)∈al (R i)
theorem Wd.start (n:Nat):Wd n λi=>[(i:Int)] :=
 ⟨λi _=>lA.one _,λi _=>by simp,λi hi x hx=>⟨i,hi,by simpa using hx,rfl⟩⟩
theorem Wd.same (W:Wd n R) {i j:Nat}(hi:i<n) (hj:j<n) {x:Int}(h1:x∈R i) (h2:x∈R j):R i=R j:=by
 obtain ⟨k,hk,e1,e2⟩:=W.J9 i hi x h1;obtain ⟨k',hk',e3,e4⟩:=W.J9 j hj x h2
 have:k=k':=by lia
 subst this;rw [← e2,e4]
theorem Wd.head (W:Wd n R) {i j:Nat}(hi:i<n) (hj:j<n):((R i).head?=(R j).head?↔(j:Int)∈R i):=by
 constructor
 .intro e
  obtain ⟨x,hx⟩:∃ x,(R i).head?=some x:=by
   cases h:R i with
   | nil=>exact absurd h (W.r i hi).ne
   | cons a l=>exact ⟨a,rfl⟩
  rw [W.same hi hj (jy hx) (jy (e▸hx))];exact W.me j hj
 .intro h;rw [W.same hi hj h (W.me j hj)]
theorem Ed.at (W:Wd n R) {x y:Int}(h:Ed n R x y) {i:Nat}(hi:i<n) (hx:x∈R i):(x,y)∈al (R i):=by
 obtain ⟨j,hj,hm⟩:=h;rw [W.same hi hj hx (fY hm).1];exact hm
theorem Ed.symm (W:Wd n R) {x y:Int}(h:Ed n R x y):Ed n R y x:=let ⟨i,hi,hm⟩:=h;⟨i,hi,(W.r i hi).sym _ _ hm⟩
theorem Wd.link (W:Wd n R) {a b:Nat}(ha:a<n) (hb:b<n) (hn:(b:Int)∉R a) :
  GP (R a) (R b) a b/\Wd n (λi=>if (i:Int)∈Be (R a) (R b) a b then Be (R a) (R b) a b else R i) /\
   ∀ x y,Ed n (λi=>if (i:Int)∈Be (R a) (R b) a b then Be (R a) (R b) a b else R i) x y↔(Ed n R x y\/(x,y)=((a:Int),(b:Int))\/(x,y)=((b:Int),(a:Int))):=by
 have T:GP (R a) (R b) a b:=⟨W.r a ha,W.r b hb,W.me a ha,W.me b hb,λx h2 h1=>hn (by rw [W.same ha hb h1 h2];exact W.me b hb)⟩
 obtain ⟨f1,f2,f3⟩:=T.facts;have fm:=T.mem;generalize Be (R a) (R b) a b=s at f1 f2 f3 fm
 have hs:∀ x∈s,∃ j:Nat,j<n/\x=(j:Int)/\(j:Int)∈s:=λx hx=>by
  rcases (fm x).mp hx with h|h
  .obtain ⟨j,hj,e,_⟩:=W.J9 a ha x h;exact ⟨j,hj,e,e▸hx⟩
  .obtain ⟨j,hj,e,_⟩:=W.J9 b hb x h;exact ⟨j,hj,e,e▸hx⟩
 have nos:∀ i,i<n->(i:Int)∉s->∀ x∈R i,x∉s:=λi hi h x hx hxs=>by
  rcases (fm x).mp hxs with q|q
  .exact h ((fm i).mpr (.inl (W.same ha hi q hx▸W.me i hi)))
  .exact h ((fm i).mpr (.inr (W.same hb hi q hx▸W.me i hi)))
 refine ⟨T,⟨λi hi=>?_,λi hi=>?_,λi hi x hx=>?_⟩,λx y=>⟨?_,?_⟩⟩
 .by_cases c:(i:Int)∈s
  .rw [if_pos c];exact f1
  .rw [if_neg c];exact W.r i hi
 .by_cases c:(i:Int)∈s
  .rw [if_pos c];exact c
  .rw [if_neg c];exact W.me i hi
 .by_cases c:(i:Int)∈s
  .simp only [if_pos c] at hx ⊢;obtain ⟨j,hj,e,hjs⟩:=hs x hx;exact ⟨j,hj,e,if_pos hjs⟩
  .simp only [if_neg c] at hx ⊢;obtain ⟨j,hj,e,er⟩:=W.J9 i hi x hx;exact ⟨j,hj,e,by rw [if_neg (λh=>nos i hi c x hx (e▸h))];exact er⟩
 .rintro ⟨i,hi,hm⟩
  by_cases c:(i:Int)∈s
  .simp only [if_pos c] at hm
   rcases au.mp (f2.mem_iff.mp hm) with e|hm
   .exact .inr (.inl e)
   .rcases au.mp hm with e|hm
    .exact .inr (.inr e)
    .rcases aS.mp hm with h|h
     .exact .inl ⟨a,ha,h⟩
     .exact .inl ⟨b,hb,h⟩
  .simp only [if_neg c] at hm;exact .inl ⟨i,hi,hm⟩
 .have inS:∀ {u v:Int},(u,v)∈al s->Ed n (λi=>if (i:Int)∈s then s else R i) u v:=λh=>⟨a,ha,by simp only [if_pos ((fm a).mpr (.inl (W.me a ha)))];exact h⟩
  rintro (⟨i,hi,hm⟩|e|e)
  .by_cases c:(i:Int)∈s
   .refine inS (f2.mem_iff.mpr (ai _ (ai _ ?_)))
    rcases (fm i).mp c with h|h
    .rw [← W.same ha hi h (W.me i hi)] at hm;exact eU _ hm
    .rw [← W.same hb hi h (W.me i hi)] at hm;exact bH _ hm
   .exact ⟨i,hi,by simp only [if_neg c];exact hm⟩
  .obtain ⟨rfl,rfl⟩:=cS e;exact inS (f2.mem_iff.mpr aw)
  .obtain ⟨rfl,rfl⟩:=cS e;exact inS (f2.mem_iff.mpr (ai _ aw))
theorem Wd.cut (W:Wd n R) {a b:Nat}(ha:a<n) (hb:b<n) (hab:a≠b) (hm:((a:Int),(b:Int))∈al (R a)) :
  Wd n (λi=>if (i:Int)∈(xI (R a) a b).2 then (xI (R a) a b).2 else if (i:Int)∈(xI (R a) a b).1 then (xI (R a) a b).1 else R i) /\
   ∀ x y,Ed n (λi=>if (i:Int)∈(xI (R a) a b).2 then (xI (R a) a b).2 else if (i:Int)∈(xI (R a) a b).1 then (xI (R a) a b).1 else R i) x y↔(Ed n R x y/\¬ (x,y)=((a:Int),(b:Int))/\¬ (x,y)=((b:Int),(a:Int))):=by
 have hR:=W.r a ha;have P:=hR.parted hm (by lia:(a:Int)≠b);have PM:=P.mem hR;generalize (xI (R a) a b).1=X at P PM;generalize (xI (R a) a b).2=Y at P PM;have nd:=P.pm.nodup_iff.mp hR.nd;have nab:=(bb.mp nd).1;have nba:=(bb.mp (bb.mp nd).2).1;have inr:∀ x∈R a,∃ j:Nat,j<n/\x=(j:Int)/\R j=R a:=W.J9 a ha;have nos:∀ i,i<n->(i:Int)∉R a->∀ x∈R i,x∉R a:=λi hi h x hx hxs=>h (W.same ha hi hxs hx▸W.me i hi);have sw:∀ i:Nat,(i:Int)∈Y->(i:Int)∉X:=λi h=>P.YU _ h;refine ⟨⟨λi hi=>?_,λi hi=>?_,λi hi x hx=>?_⟩,λx y=>⟨?_,?_⟩⟩
 .by_cases c2:(i:Int)∈Y
  .rw [if_pos c2];exact P.y
  .by_cases c1:(i:Int)∈X
   .rw [if_neg c2,if_pos c1];exact P.x
   .rw [if_neg c2,if_neg c1];exact W.r i hi
 .by_cases c2:(i:Int)∈Y
  .rw [if_pos c2];exact c2
  .by_cases c1:(i:Int)∈X
   .rw [if_neg c2,if_pos c1];exact c1
   .rw [if_neg c2,if_neg c1];exact W.me i hi
 .by_cases c2:(i:Int)∈Y
  .simp only [if_pos c2] at hx ⊢;obtain ⟨j,hj,e,_⟩:=inr x ((PM x).mpr (.inr hx));exact ⟨j,hj,e,if_pos (e▸hx)⟩
  .by_cases c1:(i:Int)∈X
   .simp only [if_neg c2,if_pos c1] at hx ⊢;obtain ⟨j,hj,e,_⟩:=inr x ((PM x).mpr (.inl hx));have hjX:(j:Int)∈X:=e▸hx;exact ⟨j,hj,e,by rw [if_neg (λh=>sw j h hjX),if_pos hjX]⟩
   .simp only [if_neg c2,if_neg c1] at hx ⊢;obtain ⟨j,hj,e,er⟩:=W.J9 i hi x hx;have hni:(i:Int)∉R a:=λh=>((PM i).mp h).elim c1 c2;have hnj:(j:Int)∉R a:=λh=>nos i hi hni x hx (e▸h);exact ⟨j,hj,e,by rw [if_neg (λh=>hnj ((PM j).mpr (.inr h))),if_neg (λh=>hnj ((PM j).mpr (.inl h)))];exact er⟩
 .have old:∀ {u v:Int},(u,v)∈al X++al Y->Ed n R u v/\¬ (u,v)=((a:Int),(b:Int))/\¬ (u,v)=((b:Int),(a:Int)):=λ{u v} h =>
   ⟨⟨a,ha,P.pm.mem_iff.mpr (ai _ (ai _ h))⟩,λe=>nab (ai _ (e▸h)),λe=>nba (e▸h)⟩
  rintro ⟨i,hi,h⟩
  by_cases c2:(i:Int)∈Y
  .simp only [if_pos c2] at h;exact old (bH _ h)
  .by_cases c1:(i:Int)∈X
   .simp only [if_neg c2,if_pos c1] at h;exact old (eU _ h)
   .simp only [if_neg c2,if_neg c1] at h;have hni:(i:Int)∉R a:=λh=>((PM i).mp h).elim c1 c2;have hxa:x∉R a:=nos i hi hni x (fY h).1;refine ⟨⟨i,hi,h⟩,λe=>hxa ?_,λe=>hxa ?_⟩
    .rw [(cS e).1];exact W.me a ha
    .rw [(cS e).1];exact (PM _).mpr (.inr P.hb)
 .rintro ⟨h,e1,e2⟩
  by_cases hx:x∈R a
  .have hm:=Ed.at W h ha hx
   rcases au.mp (P.pm.mem_iff.mp hm) with e|hm
   .exact absurd e e1
   .rcases au.mp hm with e|hm
    .exact absurd e e2
    .rcases aS.mp hm with q|q
     .refine ⟨a,ha,?_⟩;simp only [if_neg (λh=>sw a h P.ha),if_pos P.ha];exact q
     .refine ⟨b,hb,?_⟩;simp only [if_pos P.hb];exact q
  .obtain ⟨i,hi,hm⟩:=h;have hni:(i:Int)∉R a:=λh=>hx (W.same ha hi h (W.me i hi)▸(fY hm).1);refine ⟨i,hi,?_⟩;simp only [if_neg (λh=>hni ((PM i).mpr (.inr h))),if_neg (λh=>hni ((PM i).mpr (.inl h)))];exact hm
theorem Wm {M:Int->Prop}:∀ {l:List Int},(∀ x y,(x,y)∈al l->(M x↔M y))->(∃ a∈l,M a)->∀ x∈l,M x
 | [],_,_,x,hx=>nomatch hx
 | [c],_,⟨a,ha,hM⟩,x,hx=>by
  rw [aC.mp hx,← aC.mp ha];exact hM
 | c::d::t,h,⟨a,ha,hM⟩,x,hx=>by
  have hcd:=h c d (by rw [Iz];exact aw);have ih:=Wm (l:=d::t) λx y hm=>h x y (by rw [Iz];exact ai _ hm)
  have hd:M d:=by
   rcases au.mp ha with e|ha
   .exact hcd.mp (e▸hM)
   .exact ih ⟨a,ha,hM⟩ d aw
  rcases au.mp hx with e|hx
  .rw [e];exact hcd.mpr hd
  .exact ih ⟨d,aw,hd⟩ x hx
theorem Zx {l:List Int}(hn:l.Nodup) (h:∀ x∈l,∃ j:Nat,j<n/\x=(j:Int)):l.length<=n:=by
 have e:=pQ (ds:=(hV n).map λi:Nat=>(i:Int)) (r:=l) (by
  rw [Hm,gA]
  exact List.Pairwise.imp (λh e=>h (by lia)) (Hm.mp List.nodup_range)) λx hx=>by
   obtain ⟨j,hj,e⟩:=h x hx;exact bo.mpr ⟨j,lK.mpr hj,e.symm⟩
 have le:∀ (ds:List Int),(ds.map λd=>l.count d).sum<=ds.length:=λds=>by
  induction ds with
  | nil=>simp
  | cons d ds ih =>
   have:l.count d<=1:=OC.mp hn d;simp only [aW,fX,bI];lia
 have:=le ((hV n).map λi:Nat=>(i:Int));rw [e] at this
 simpa using this
theorem Wd.len (W:Wd n R) {i:Nat}(hi:i<n):(R i).length+1<=2*n:=by
 obtain ⟨ds,h1,h2,h3⟩:=(W.r i hi).cnt
 have:=Zx h1 λx hx=>let ⟨j,hj,e,_⟩:=W.J9 i hi x ((h2 x).mp hx);⟨j,hj,e⟩
 lia
end Rm
namespace Rm
end Rm
namespace Rm
end Rm
namespace Rm
def lk (R:Nat->List Int) (a b:Nat):Nat->List Int:=λi=>if (i:Int)∈Be (R a) (R b) a b then Be (R a) (R b) a b else R i
def ct (R:Nat->List Int) (a b:Nat):Nat->List Int:=λi=>if (i:Int)∈(xI (R a) a b).2 then (xI (R a) a b).2 else if (i:Int)∈(xI (R a) a b).1 then (xI (R a) a b).1 else R i
theorem Mq {r s:List Int}(hr:lA r) (hs:lA s) (h:∀ x∈r,x∈s):r.length<=s.length:=by
 obtain ⟨d,d1,d2,d3⟩:=hr.cnt;obtain ⟨e,e1,e2,e3⟩:=hs.cnt;have q:=pQ (ds:=e) (r:=d) e1 λx hx=>(e2 x).mpr (h x ((d2 x).mp hx))
 have le:∀ (ds:List Int),(ds.map λc=>d.count c).sum<=ds.length:=λds=>by
  induction ds with
  | nil=>simp
  | cons c ds ih =>
   have:d.count c<=1:=OC.mp d1 c;simp only [aW,fX,bI];lia
 have:=le e;lia
section
variable {n:Nat}{R R':Nat->List Int}{x y z a b:Nat}
theorem Wd.sub (W:Wd n R) (W':Wd n R') (h:∀ x y,Ed n R x y->Ed n R' x y) (hx:x<n):∀ c∈R x,c∈R' x :=
 Wm (M:=λc=>c∈R' x) (λu v hm =>
  have e:=h u v ⟨x,hx,hm⟩
  ⟨λhu=>(fY (Ed.at W' e hx hu)).2,λhv=>(fY (Ed.at W' (Ed.symm W' e) hx hv)).2⟩) ⟨x,W.me x hx,W'.me x hx⟩
theorem Wd.sy (W:Wd n R) (hx:x<n) (hy:y<n) (h:(y:Int)∈R x):(x:Int)∈R y:=W.same hx hy h (W.me y hy)▸W.me x hx
theorem Wd.eq (W:Wd n R) (hx:x<n) (hy:y<n) (h:(y:Int)∈R x):R x=R y:=W.same hx hy h (W.me y hy)
theorem Wd.lk (W:Wd n R) (ha:a<n) (hb:b<n) (hn:(b:Int)∉R a):Wd n (lk R a b):=(W.link ha hb hn).2.1
theorem Wd.Q4 (W:Wd n R) (ha:a<n) (hb:b<n) (hn:(b:Int)∉R a) (x y:Int):Ed n (Rm.lk R a b) x y↔(Ed n R x y\/(x,y)=((a:Int),(b:Int))\/(x,y)=((b:Int),(a:Int))):=(W.link ha hb hn).2.2 x y
theorem Wd.Fe (W:Wd n R) (ha:a<n) (hb:b<n) (hn:(b:Int)∉R a) (h:(x:Int)∈R a\/(x:Int)∈R b):(∀ c,c∈Rm.lk R a b x↔c∈R a\/c∈R b)/\(Rm.lk R a b x).length=(R a).length+(R b).length+1:=by
 have T:=(W.link ha hb hn).1;have e:Rm.lk R a b x=Be (R a) (R b) a b:=if_pos ((T.mem x).mpr h);rw [e];exact ⟨T.mem,T.facts.2.2⟩
theorem Wd.Re (W:Wd n R) (ha:a<n) (hb:b<n) (hn:(b:Int)∉R a) (h1:(x:Int)∉R a) (h2:(x:Int)∉R b):Rm.lk R a b x=R x :=
 if_neg λh=>((((W.link ha hb hn).1).mem x).mp h).elim h1 h2
theorem Wd.UT (W:Wd n R) (ha:a<n) (hb:b<n) (hn:(b:Int)∉R a) (hx:x<n):∀ c∈R x,c∈Rm.lk R a b x :=
 W.sub (W.lk ha hb hn) (λu v h=>(W.Q4 ha hb hn u v).mpr (.inl h)) hx
theorem Wd.ct (W:Wd n R) (ha:a<n) (hb:b<n) (hab:a≠b) (hm:Ed n R a b):Wd n (ct R a b):=(W.cut ha hb hab (Ed.at W hm ha (W.me a ha))).1
theorem Wd.Q6 (W:Wd n R) (ha:a<n) (hb:b<n) (hab:a≠b) (hm:Ed n R a b) (x y:Int):Ed n (Rm.ct R a b) x y↔(Ed n R x y/\¬ (x,y)=((a:Int),(b:Int))/\¬ (x,y)=((b:Int),(a:Int))):=(W.cut ha hb hab (Ed.at W hm ha (W.me a ha))).2 x y
theorem Wd.UW (W:Wd n R) (ha:a<n) (hb:b<n) (hab:a≠b) (hm:Ed n R a b):(b:Int)∉Rm.ct R a b a/\(∀ c,c∈R a↔c∈Rm.ct R a b a\/c∈Rm.ct R a b b)/\(Rm.ct R a b a).length+(Rm.ct R a b b).length+1=(R a).length:=by
 have hR:=W.r a ha;have P:=hR.parted (Ed.at W hm ha (W.me a ha)) (by lia:(a:Int)≠b);have PM:=P.mem hR;have e1:Rm.ct R a b b=(xI (R a) a b).2:=if_pos P.hb
 have e2:Rm.ct R a b a=(xI (R a) a b).1:=by
  show (if _ then _ else if _ then _ else _)=_
  rw [if_neg λh=>P.YU _ h P.ha,if_pos P.ha]
 rw [e1,e2];exact ⟨P.YU _ P.hb,PM,P.len⟩
theorem Wd.Ww (W:Wd n R) (ha:a<n) (hb:b<n) (hab:a≠b) (hm:Ed n R a b) (h:(x:Int)∉R a):Rm.ct R a b x=R x:=by
 have hR:=W.r a ha;have PM:=(hR.parted (Ed.at W hm ha (W.me a ha)) (by lia:(a:Int)≠b)).mem hR
 show (if _ then _ else if _ then _ else _)=_
 rw [if_neg λq=>h ((PM _).mpr (.inr q)),if_neg λq=>h ((PM _).mpr (.inl q))]
end
structure Ti where
 x:Nat
 y:Nat
 cA:Nat
 wd:Bool
def Ti.key (t:Ti):Int×Int:=((t.x:Int),(t.y:Int))
def Ti.Is (t:Ti) (u v:Int):Prop:=(u,v)=((t.x:Int),(t.y:Int))\/(u,v)=((t.y:Int),(t.x:Int))
def Ti.up (t:Ti):Ti:={ t with cA:=t.cA+1 }
def Ti.uW (t:Ti):Ti:={ t with wd:=true }
theorem Ti.Rc {t u:Ti}(h:t.key=u.key):t.x=u.x/\t.y=u.y:=by
 obtain ⟨h1,h2⟩:=cS h;lia
theorem Ti.vz {t u:Ti}(ht:t.x<t.y) (hu:u.x<u.y) (h:t.Is u.x u.y):t.key=u.key:=by
 rcases h with h|h<;>obtain ⟨h1,h2⟩:=cS h
 .exact Hj h1.symm h2.symm
 .lia
theorem Ti.MO {t:Ti}{u v:Int}:t.Is u v->t.Is v u:=λh=>h.elim (λh=>.inr (by rw [vL] at h ⊢;exact ⟨h.2,h.1⟩)) (λh=>.inl (by rw [vL] at h ⊢;exact ⟨h.2,h.1⟩))
structure Lv (n T:Nat) (ts:List Ti) (R:Nat->Nat->List Int):Prop where
 wd:∀ i,i<=T->Wd n (R i)
 ed:∀ i,i<=T->∀ u v:Int,Ed n (R i) u v↔∃ t∈ts,t.wd=true/\i<=t.cA/\t.Is u v
 sz:∀ i,i<=T->∀ x,x<n->((R i x).length+1)*2^i<=2*n
 lt:∀ t∈ts,t.x<t.y/\t.y<n/\t.cA<=T
 nd:(ts.map Ti.key).Nodup
def Jn (ts:List Ti) (R:Nat->Nat->List Int):Prop:=∀ t∈ts,(t.y:Int)∈R t.cA t.x
theorem m6 {ts:List Ti}(h:(ts.map Ti.key).Nodup) {t u:Ti}(ht:t∈ts) (hu:u∈ts) (e:t.key=u.key):t=u:=by
 induction ts with
 | nil=>nomatch ht
 | cons s ts ih =>
  rw [aW,bb] at h
  rcases au.mp ht with rfl|ht'<;>rcases au.mp hu with rfl|hu'
  .rfl
  .exact absurd (e▸aX hu') h.1
  .exact absurd (e▸aX ht') h.1
  .exact ih h.2 ht' hu'
def gh (ts:List Ti) (k:Int×Int) (f:Ti->Ti):List Ti:=ts.map λt=>if t.key=k then f t else t
section
variable {n T:Nat}{ts:List Ti}{R:Nat->Nat->List Int}{t:Ti}{f:Ti->Ti}
theorem j5 (hf:∀ t,(f t).key=t.key) (k:Int×Int):(gh ts k f).map Ti.key=ts.map Ti.key:=by
 unfold gh;rw [cf]
 exact j9 λu _=>by
  show Ti.key (if _ then _ else _)=_
  split
  .exact hf u
  .rfl
theorem kr (hnd:(ts.map Ti.key).Nodup) (ht:t∈ts) (u:Ti):u∈gh ts t.key f↔u=f t\/(u∈ts/\u.key≠t.key):=by
 unfold gh;rw [bo]
 constructor
 .rintro ⟨v,hv,e⟩
  by_cases c:v.key=t.key
  .rw [if_pos c] at e;rw [m6 hnd hv ht c] at e;exact .inl e.symm
  .rw [if_neg c] at e;subst e;exact .inr ⟨hv,c⟩
 .rintro (e|⟨h,c⟩)
  .exact ⟨t,ht,by rw [if_pos rfl,e]⟩
  .exact ⟨u,h,if_neg c⟩
theorem Lv.mono (L:Lv n T ts R) {i j x:Nat}(hij:i<=j) (hj:j<=T) (hx:x<n):∀ c∈R j x,c∈R i x :=
 (L.wd j hj).sub (L.wd i (bA hij hj)) (λu v h=>by
  obtain ⟨t,h1,h2,h3,h4⟩:=(L.ed j hj u v).mp h
  exact (L.ed i (bA hij hj) u v).mpr ⟨t,h1,h2,bA hij h3,h4⟩) hx
theorem Lv.apart (L:Lv n T ts R) (ht:t∈ts) (hw:t.wd=true) {i:Nat}(hi:t.cA<i) (hT:i<=T):(t.y:Int)∉R i t.x:=by
 obtain ⟨h1,h2,h3⟩:=L.lt t ht;have W:=L.wd t.cA h3;have e:Ed n (R t.cA) t.x t.y:=(L.ed _ h3 _ _).mpr ⟨t,ht,hw,ak _,.inl rfl⟩;have c:=W.UW (a:=t.x) (b:=t.y) (by lia) h2 (by lia) e;intro hin;refine c.1 ((L.wd i hT).sub (W.ct (a:=t.x) (b:=t.y) (by lia) h2 (by lia) e) (λu v h=>?_) (by lia) _ hin);obtain ⟨s,s1,s2,s3,s4⟩:=(L.ed i hT u v).mp h
 have ne:¬ t.Is u v:=λq=>by
  have:s.key=t.key:=by
   obtain ⟨l1,l2,l3⟩:=L.lt s s1
   rcases q with q|q<;>obtain ⟨rfl,rfl⟩:=cS q
   .exact Ti.vz l1 h1 s4
   .exact Ti.vz l1 h1 (Ti.MO s4)
  rw [m6 L.nd s1 ht this] at s3;lia
 exact (W.Q6 (a:=t.x) (b:=t.y) (by lia) h2 (by lia) e u v).mpr ⟨(L.ed _ h3 u v).mpr ⟨s,s1,s2,by lia,s4⟩,λq=>ne (.inl q),λq=>ne (.inr q)⟩
def Yq (R:Nat->Nat->List Int) (j x y:Nat):Nat->Nat->List Int:=λi=>if i=j then lk (R j) x y else R i
def J3 (R:Nat->Nat->List Int) (l x y:Nat):Nat->Nat->List Int:=λi=>if i<=l then lk (R i) x y else R i
def Zv (R:Nat->Nat->List Int) (l x y:Nat):Nat->Nat->List Int:=λi=>if i<=l then ct (R i) x y else R i
theorem Lv.vz (L:Lv n T ts R) {s:Ti}(hs:s∈ts) (ht:t∈ts) {u v:Int}(h1:s.Is u v) (h2:t.Is u v):s=t:=by
 refine m6 L.nd hs ht ?_
 rcases h2 with q|q<;>obtain ⟨rfl,rfl⟩:=cS q
 .exact Ti.vz (L.lt s hs).1 (L.lt t ht).1 h1
 .exact Ti.vz (L.lt s hs).1 (L.lt t ht).1 (Ti.MO h1)
structure Dn (n T:Nat) (ts:List Ti) (R:Nat->Nat->List Int) (a b k:Nat):Prop where
 lv:Lv n T ts R
 ha:a<n
 hb:b<n
 hk:k<=T+1
 ap:(b:Int)∉R 0 a
 s2:∀ i,i<k->((R i a).length+(R i b).length+2)*2^i<=2*n
 jn:∀ t∈ts,(t.y:Int)∈R t.cA t.x\/(t.cA<k/\((t.x:Int)∈R t.cA a/\(t.y:Int)∈R t.cA b\/(t.x:Int)∈R t.cA b/\(t.y:Int)∈R t.cA a))
variable {a b k l:Nat}
theorem Dn.swap (D:Dn n T ts R a b k):Dn n T ts R b a k :=
 ⟨D.lv,D.hb,D.ha,D.hk,λh=>D.ap ((D.lv.wd 0 (aM _)).sy D.hb D.ha h),λi hi=>by have:=D.s2 i hi;rwa [Oj (R i b).length],λt ht=>(D.jn t ht).imp_right λh=>⟨h.1,h.2.symm⟩⟩
theorem Dn.done (D:Dn n T ts R a b 0):Jn ts R:=λt ht=>(D.jn t ht).resolve_right λh=>by lia
theorem Dn.apart (D:Dn n T ts R a b k) {i:Nat}(hi:i<=T):(b:Int)∉R i a:=λh=>D.ap (D.lv.mono (aM _) hi D.ha _ h)
theorem Lv.drop (L:Lv n T ts R) (J:Jn ts R) (ht:t∈ts) (hw:t.wd=true):Dn n T (ts.filter λu=>decide (u.key≠t.key)) (Zv R t.cA t.x t.y) t.x t.y (t.cA+1):=by
 obtain ⟨h1,h2,h3⟩:=L.lt t ht
 have hx:t.x<n:=by lia
 have hne:t.x≠t.y:=by lia
 have e:∀ i,i<=t.cA->Ed n (R i) t.x t.y:=λi hi=>(L.ed i (by lia) _ _).mpr ⟨t,ht,hw,hi,.inl rfl⟩;have lo:∀ i,i<=t.cA->Zv R t.cA t.x t.y i=ct (R i) t.x t.y:=λi hi=>if_pos hi;have hi':∀ i,¬ i<=t.cA->Zv R t.cA t.x t.y i=R i:=λi hi=>if_neg hi
 have mm:∀ u,u∈ts.filter (λu=>decide (u.key≠t.key))↔u∈ts/\u≠t:=λu=>by
  rw [dR,decide_eq_true_iff];exact and_congr_right λhu=>not_congr ⟨λq=>m6 L.nd hu ht q,λq=>q▸rfl⟩
 have C:=λi (hi:i<=t.cA)=>(L.wd i (by lia)).UW hx h2 hne (e i hi);refine ⟨⟨λi hi=>?_,λi hi u v=>?_,λi hi x hx'=>?_,λu hu=>L.lt u ((mm u).mp hu).1,?_⟩,hx,h2,by lia,?_,λi hi=>?_,λu hu=>?_⟩
 .by_cases c:i<=t.cA
  .rw [lo i c];exact (L.wd i hi).ct hx h2 hne (e i c)
  .rw [hi' i c];exact L.wd i hi
 .by_cases c:i<=t.cA
  .rw [lo i c,(L.wd i hi).Q6 hx h2 hne (e i c),L.ed i hi]
   constructor
   .rintro ⟨⟨s,s1,s2,s3,s4⟩,n1,n2⟩;exact ⟨s,(mm s).mpr ⟨s1,λq=>(q▸s4).elim n1 n2⟩,s2,s3,s4⟩
   .rintro ⟨s,s1,s2,s3,s4⟩;have s5:=(mm s).mp s1;exact ⟨⟨s,s5.1,s2,s3,s4⟩,λq=>s5.2 (L.vz s5.1 ht s4 (.inl q)),λq=>s5.2 (L.vz s5.1 ht s4 (.inr q))⟩
  .rw [hi' i c,L.ed i hi]
   constructor
   .rintro ⟨s,s1,s2,s3,s4⟩;exact ⟨s,(mm s).mpr ⟨s1,λq=>c (q▸s3)⟩,s2,s3,s4⟩
   .rintro ⟨s,s1,s2⟩;exact ⟨s,((mm s).mp s1).1,s2⟩
 .refine bA (nz _ (sW ?_)) (L.sz i hi x hx')
  by_cases c:i<=t.cA
  .rw [lo i c];have W':=(L.wd i hi).ct hx h2 hne (e i c);exact Mq (W'.r x hx') ((L.wd i hi).r x hx') (W'.sub (L.wd i hi) (λu v q=>(((L.wd i hi).Q6 hx h2 hne (e i c) u v).mp q).1) hx')
  .rw [hi' i c];exact ak _
 .exact (vJ _ ka).nodup L.nd
 .rw [lo 0 (aM _)];exact (C 0 (aM _)).1
 .rw [lo i (by lia)];have:=(C i (by lia)).2.2;have:=L.sz i (by lia) t.x hx
  have e:(ct (R i) t.x t.y t.x).length+(ct (R i) t.x t.y t.y).length+2=(R i t.x).length+1:=by lia
  rw [e];exact this
 .obtain ⟨q1,q2⟩:=(mm u).mp hu;have j:=J u q1;obtain ⟨u1,u2,u3⟩:=L.lt u q1
  by_cases c:u.cA<=t.cA
  .rw [lo _ c];have W:=L.wd _ u3;have W':=W.ct hx h2 hne (e _ c)
   by_cases d:(u.x:Int)∈R u.cA t.x
   .have d':(u.y:Int)∈R u.cA t.x:=by rw [W.eq hx (by lia) d];exact j
    rcases ((C _ c).2.1 _).mp d with p|p<;>rcases ((C _ c).2.1 _).mp d' with p'|p'
    .exact .inl (by rw [← W'.eq hx (by lia) p];exact p')
    .exact .inr ⟨by lia,.inl ⟨p,p'⟩⟩
    .exact .inr ⟨by lia,.inr ⟨p,p'⟩⟩
    .exact .inl (by rw [← W'.eq h2 (by lia) p];exact p')
   .rw [W.Ww hx h2 hne (e _ c) d];exact .inl j
  .rw [hi' _ c];exact .inl j
theorem Dn.Zx (D:Dn n T ts R a b (l+1)) (hT:∀ j,2^(j+1)<=n->j<=T) (hs:((R l a).length+1)*2^(l+1)<=2*n) {x y:Nat}(hx:(x:Int)∈R l a) (hy:(y:Int)∈R l a) (hxy:x≠y):l+1<=T:=by
 have hl:l<=T:=by have:=D.hk;lia
 obtain ⟨d,d1,d2,d3⟩:=((D.lv.wd l hl).r a D.ha).cnt
 have:2<=d.length:=by
  have hx':=(d2 _).mpr hx;have hy':=(d2 _).mpr hy
  match d,d1,hx',hy' with
  | [c],_,hx',hy' =>
   rw [aC] at hx' hy'
   lia
  | c::e::r,_,_,_=>simp
 refine hT _ ?_;have h4:4*2^(l+1)<=((R l a).length+1)*2^(l+1):=nz _ (by lia);have:=Ol 2 (l+1);lia
theorem Dn.YH (D:Dn n T ts R a b (l+1)) (hT:∀ j,2^(j+1)<=n->j<=T) (hs:((R l a).length+1)*2^(l+1)<=2*n) (ht:t∈ts) (hw:t.wd=true) (hl:t.cA=l) (hx:(t.x:Int)∈R l a) (hy:(t.y:Int)∈R l a) :
  l+1<=T/\(t.y:Int)∉R (l+1) t.x/\Dn n T (gh ts t.key Ti.up) (Yq R (l+1) t.x t.y) a b (l+1):=by
 have L:=D.lv;obtain ⟨h1,h2,h3⟩:=L.lt t ht;have hl1:l+1<=T:=D.Zx hT hs hx hy (by lia);have hap:=L.apart ht hw (i:=l+1) (by lia) hl1
 have hxn:t.x<n:=by lia
 have W:=L.wd _ hl1;have hi':∀ i,i≠l+1->Yq R (l+1) t.x t.y i=R i:=λi hi=>if_neg hi;have at':Yq R (l+1) t.x t.y (l+1)=lk (R (l+1)) t.x t.y:=if_pos rfl;have mm:=kr (f:=Ti.up) L.nd ht;have kk:∀ u,u∈ts->u≠t->u.key≠t.key:=λu hu hne q=>hne (m6 L.nd hu ht q);have lo:=L.wd l (by lia);refine ⟨hl1,hap,⟨λi hi=>?_,λi hi u v=>?_,λi hi x hx'=>?_,λu hu=>?_,?_⟩,D.ha,D.hb,D.hk,?_,λi hi=>?_,λu hu=>?_⟩
 .by_cases c:i=l+1
  .subst c;rw [at'];exact W.lk hxn h2 hap
  .rw [hi' i c];exact L.wd i hi
 .have:(∃ s∈gh ts t.key Ti.up,s.wd=true/\i<=s.cA/\s.Is u v)↔(i<=l+1/\t.Is u v)\/∃ s∈ts,s≠t/\s.wd=true/\i<=s.cA/\s.Is u v:=by
   constructor
   .rintro ⟨s,s1,s2⟩
    rcases (mm s).mp s1 with rfl|⟨q1,q2⟩
    .exact .inl ⟨by have:i<=t.cA+1:=s2.2.1;lia,s2.2.2⟩
    .exact .inr ⟨s,q1,λq=>q2 (q▸rfl),s2⟩
   .rintro (⟨q1,q2⟩|⟨s,s1,s2,s3⟩)
    .exact ⟨t.up,(mm _).mpr (.inl rfl),hw,by show i<=t.cA+1;lia,q2⟩
    .exact ⟨s,(mm _).mpr (.inr ⟨s1,kk s s1 s2⟩),s3⟩
  rw [this]
  have old:Ed n (R i) u v↔(i<=l/\t.Is u v)\/∃ s∈ts,s≠t/\s.wd=true/\i<=s.cA/\s.Is u v:=by
   rw [L.ed i hi]
   constructor
   .rintro ⟨s,s1,s2,s3,s4⟩
    by_cases q:s=t
    .subst q;exact .inl ⟨by lia,s4⟩
    .exact .inr ⟨s,s1,q,s2,s3,s4⟩
   .rintro (⟨q1,q2⟩|⟨s,s1,s2,s3⟩)
    .exact ⟨t,ht,hw,by lia,q2⟩
    .exact ⟨s,s1,s3⟩
  by_cases c:i=l+1
  .subst c;rw [at',W.Q4 hxn h2 hap,old]
   constructor
   .rintro ((⟨q,_⟩|q)|q)
    .lia
    .exact .inr q
    .exact .inl ⟨ak _,q⟩
   .rintro (⟨_,q⟩|q)
    .exact .inr q
    .exact .inl (.inr q)
  .rw [hi' i c,old];exact or_congr_left (and_congr_left λ_=>by lia)
 .by_cases c:i=l+1
  .subst c;rw [at']
   by_cases d:(x:Int)∈R (l+1) t.x\/(x:Int)∈R (l+1) t.y
   .refine bA (nz _ (sW ?_)) hs;refine Mq ((W.lk hxn h2 hap).r x hx') (lo.r a D.ha) λc hc=>?_
    rcases ((W.Fe hxn h2 hap d).1 c).mp hc with q|q
    .rw [lo.eq D.ha hxn hx];exact L.mono (iG l) hl1 hxn _ q
    .rw [lo.eq D.ha h2 hy];exact L.mono (iG l) hl1 h2 _ q
   .rw [W.Re hxn h2 hap (λq=>d (.inl q)) (λq=>d (.inr q))];exact L.sz _ hi x hx'
  .rw [hi' i c];exact L.sz i hi x hx'
 .rcases (mm u).mp hu with rfl|⟨q,_⟩
  .exact ⟨h1,h2,by show t.cA+1<=T;lia⟩
  .exact L.lt u q
 .exact (j5 (f:=Ti.up) (λ_=>rfl) t.key).symm▸L.nd
 .rw [hi' 0 (by lia)];exact D.ap
 .rw [hi' i (by lia)];exact D.s2 i hi
 .rcases (mm u).mp hu with rfl|⟨q,_⟩
  .have:t.up.cA=l+1:=by show t.cA+1=l+1;lia
   rw [this,at'];exact .inl (((W.Fe (x:=t.x) hxn h2 hap (.inl (W.me _ hxn))).1 _).mpr (.inr (W.me _ h2)))
  .have j:=D.jn u q;obtain ⟨u1,u2,u3⟩:=L.lt u q
   by_cases c:u.cA=l+1
   .rw [c] at j ⊢;rw [at'];exact .inl (W.UT hxn h2 hap (by lia) _ (j.resolve_right λq=>by lia))
   .rw [hi' _ c];exact j
theorem Dn.full (D:Dn n T ts R a b (l+1)) (hno:∀ t∈ts,t.wd=true->t.cA=l->(t.x:Int)∈R l a->(t.y:Int)∈R l a->False) (hl:l+1<=T) {x y:Nat}(hx:x<n) (hy:y<n) (h1:(x:Int)∈R l a) (h2:(y:Int)∈R l a):(y:Int)∈R (l+1) x:=by
 have L:=D.lv;have W:=L.wd l (by lia);have V:=L.wd (l+1) hl;have e:=W.eq D.ha hx h1;refine Wm (M:=λc=>c∈R (l+1) x) (l:=R l a) (λu v hm=>?_) ⟨x,h1,V.me x hx⟩ y h2;obtain ⟨t,t1,t2,t3,t4⟩:=(L.ed l (by lia) u v).mp ⟨a,D.ha,hm⟩;have m:=fY hm
 have ne:t.cA≠l:=λq=>by
  rcases t4 with p|p<;>obtain ⟨rfl,rfl⟩:=cS p
  .exact hno t t1 t2 q m.1 m.2
  .exact hno t t1 t2 q m.2 m.1
 have E:Ed n (R (l+1)) u v:=(L.ed _ hl u v).mpr ⟨t,t1,t2,by lia,t4⟩;exact ⟨λhu=>(fY (Ed.at V E hx hu)).2,λhv=>(fY (Ed.at V (Ed.symm V E) hx hv)).2⟩
theorem Dn.YN (D:Dn n T ts R a b (l+1)) (ht:t∈ts) (hw:t.wd=false) (hl:t.cA=l) (hl1:l+1<=T) (hj:(t.y:Int)∈R (l+1) t.x):Dn n T (gh ts t.key Ti.up) R a b (l+1):=by
 have L:=D.lv;obtain ⟨h1,h2,h3⟩:=L.lt t ht;have mm:=kr (f:=Ti.up) L.nd ht;have kk:∀ u,u∈ts->u≠t->u.key≠t.key:=λu hu hne q=>hne (m6 L.nd hu ht q);refine ⟨⟨L.wd,λi hi u v=>?_,L.sz,λu hu=>?_,?_⟩,D.ha,D.hb,D.hk,D.ap,D.s2,λu hu=>?_⟩
 .rw [L.ed i hi]
  constructor
  .rintro ⟨s,s1,s2,s3⟩;exact ⟨s,(mm s).mpr (.inr ⟨s1,kk s s1 λq=>by rw [q,hw] at s2;exact absurd s2 (by decide)⟩),s2,s3⟩
  .rintro ⟨s,s1,s2,s3⟩
   rcases (mm s).mp s1 with rfl|⟨q,_⟩
   .exact absurd (hw.symm.trans s2) (by decide)
   .exact ⟨s,q,s2,s3⟩
 .rcases (mm u).mp hu with rfl|⟨q,_⟩
  .exact ⟨h1,h2,by show t.cA+1<=T;lia⟩
  .exact L.lt u q
 .exact (j5 (f:=Ti.up) (λ_=>rfl) t.key).symm▸L.nd
 .rcases (mm u).mp hu with rfl|⟨q,_⟩
  .have:t.up.cA=l+1:=by show t.cA+1=l+1;lia
   rw [this];exact .inl hj
  .exact D.jn u q
theorem Dn.next (D:Dn n T ts R a b (l+1)) (hno:∀ t∈ts,t.wd=false->t.cA=l->¬ ((t.x:Int)∈R l a/\(t.y:Int)∉R l a)/\¬ ((t.x:Int)∉R l a/\(t.y:Int)∈R l a)):Dn n T ts R a b l:=by
 have L:=D.lv
 have hl:l<=T:=by have:=D.hk;lia
 refine ⟨L,D.ha,D.hb,by lia,D.ap,λi hi=>D.s2 i (by lia),λt ht=>?_⟩;obtain ⟨h1,h2,h3⟩:=L.lt t ht
 rcases D.jn t ht with j|⟨j1,j2⟩
 .exact .inl j
 .by_cases c:t.cA=l
  .cases hw:t.wd with
   | true =>
    have E:Ed n (R t.cA) t.x t.y:=(L.ed _ h3 _ _).mpr ⟨t,ht,hw,ak _,.inl rfl⟩
    exact .inl (fY (Ed.at (L.wd _ h3) E (by lia) ((L.wd _ h3).me _ (by lia)))).2
   | false =>
    have q:=hno t ht hw c;have W:=L.wd l hl;have ap:∀ z:Int,z∈R l a->z∉R l b:=λz q1 q2=>D.apart hl (by rw [W.same D.ha D.hb q1 q2];exact W.me b D.hb);rw [c] at j2
    rcases j2 with ⟨p1,p2⟩|⟨p1,p2⟩
    .exact absurd ⟨p1,λp=>ap _ p p2⟩ q.1
    .exact absurd ⟨λp=>ap _ p p1,p2⟩ q.2
  .exact .inr ⟨by lia,j2⟩
theorem Lv.adopt (L:Lv n T ts R) (ht:t∈ts) (hw:t.wd=false) (hap:∀ i,i<=t.cA->(t.y:Int)∉R i t.x) (hs:∀ i,i<=t.cA->((R i t.x).length+(R i t.y).length+2)*2^i<=2*n):Lv n T (gh ts t.key Ti.uW) (J3 R t.cA t.x t.y):=by
 obtain ⟨h1,h2,h3⟩:=L.lt t ht
 have hxn:t.x<n:=by lia
 have mm:=kr (f:=Ti.uW) L.nd ht;have kk:∀ u,u∈ts->u≠t->u.key≠t.key:=λu hu hne q=>hne (m6 L.nd hu ht q);have lo:∀ i,i<=t.cA->J3 R t.cA t.x t.y i=lk (R i) t.x t.y:=λi hi=>if_pos hi;have hi':∀ i,¬ i<=t.cA->J3 R t.cA t.x t.y i=R i:=λi hi=>if_neg hi;refine ⟨λi hi=>?_,λi hi u v=>?_,λi hi x hx'=>?_,λu hu=>?_,?_⟩
 .by_cases c:i<=t.cA
  .rw [lo i c];exact (L.wd i hi).lk hxn h2 (hap i c)
  .rw [hi' i c];exact L.wd i hi
 .have:(∃ s∈gh ts t.key Ti.uW,s.wd=true/\i<=s.cA/\s.Is u v)↔(∃ s∈ts,s.wd=true/\i<=s.cA/\s.Is u v)\/(i<=t.cA/\t.Is u v):=by
   constructor
   .rintro ⟨s,s1,s2⟩
    rcases (mm s).mp s1 with rfl|⟨q1,q2⟩
    .exact .inr ⟨s2.2.1,s2.2.2⟩
    .exact .inl ⟨s,q1,s2⟩
   .rintro (⟨s,s1,s2,s3⟩|⟨q1,q2⟩)
    .exact ⟨s,(mm _).mpr (.inr ⟨s1,kk s s1 λq=>by rw [q,hw] at s2;exact absurd s2 (by decide)⟩),s2,s3⟩
    .exact ⟨t.uW,(mm _).mpr (.inl rfl),rfl,q1,q2⟩
  rw [this,← L.ed i hi]
  by_cases c:i<=t.cA
  .rw [lo i c,(L.wd i hi).Q4 hxn h2 (hap i c)];exact or_congr_right ⟨λq=>⟨c,q⟩,λq=>q.2⟩
  .rw [hi' i c];exact ⟨.inl,λq=>q.elim id λq=>absurd q.1 c⟩
 .by_cases c:i<=t.cA
  .rw [lo i c]
   by_cases d:(x:Int)∈R i t.x\/(x:Int)∈R i t.y
   .rw [((L.wd i hi).Fe hxn h2 (hap i c) d).2];exact hs i c
   .rw [(L.wd i hi).Re hxn h2 (hap i c) (λq=>d (.inl q)) (λq=>d (.inr q))];exact L.sz _ hi x hx'
  .rw [hi' i c];exact L.sz i hi x hx'
 .rcases (mm u).mp hu with rfl|⟨q,_⟩
  .exact ⟨h1,h2,h3⟩
  .exact L.lt u q
 .exact (j5 (f:=Ti.uW) (λ_=>rfl) t.key).symm▸L.nd
theorem Lv.JM (L:Lv n T ts R) (ht:t∈ts) (hap:∀ i,i<=t.cA->(t.y:Int)∉R i t.x) {i x:Nat}(hi:i<=T) (hx:x<n):∀ c∈R i x,c∈J3 R t.cA t.x t.y i x:=by
 obtain ⟨h1,h2,h3⟩:=L.lt t ht
 by_cases c:i<=t.cA
 .have e:J3 R t.cA t.x t.y i=lk (R i) t.x t.y:=if_pos c;rw [e];exact (L.wd i hi).UT (by lia) h2 (hap i c) hx
 .have e:J3 R t.cA t.x t.y i=R i:=if_neg c;rw [e];exact λ_ h=>h
theorem Dn.adopt (D:Dn n T ts R a b (l+1)) (ht:t∈ts) (hw:t.wd=false) (hl:t.cA=l) (h:(t.x:Int)∈R l a/\(t.y:Int)∉R l a\/(t.x:Int)∉R l a/\(t.y:Int)∈R l a) :
  (∀ i,i<=t.cA->(t.y:Int)∉R i t.x)/\Lv n T (gh ts t.key Ti.uW) (J3 R t.cA t.x t.y)/\Jn (gh ts t.key Ti.uW) (J3 R t.cA t.x t.y):=by
 have L:=D.lv;obtain ⟨h1,h2,h3⟩:=L.lt t ht
 have hxn:t.x<n:=by lia
 have W:=L.wd t.cA h3
 have j:(t.x:Int)∈R t.cA a/\(t.y:Int)∈R t.cA b\/(t.x:Int)∈R t.cA b/\(t.y:Int)∈R t.cA a:=by
  rcases D.jn t ht with j|j
  .rw [← hl] at h
   rcases h with ⟨p1,p2⟩|⟨p1,p2⟩
   .exact absurd (by rw [W.eq D.ha hxn p1];exact j) p2
   .exact absurd (by rw [W.eq D.ha h2 p2];exact W.sy hxn h2 j) p1
  .exact j.2
 -- at each lower level the one end is on the one side,the other on the other
 have j':∀ i,i<=t.cA->(R i t.x=R i a/\R i t.y=R i b)\/(R i t.x=R i b/\R i t.y=R i a):=λi hi=>by
  have V:=L.wd i (by lia)
  rcases j with ⟨p1,p2⟩|⟨p1,p2⟩
  .exact .inl ⟨(V.eq D.ha hxn (L.mono hi h3 D.ha _ p1)).symm,(V.eq D.hb h2 (L.mono hi h3 D.hb _ p2)).symm⟩
  .exact .inr ⟨(V.eq D.hb hxn (L.mono hi h3 D.hb _ p1)).symm,(V.eq D.ha h2 (L.mono hi h3 D.ha _ p2)).symm⟩
 have hap:∀ i,i<=t.cA->(t.y:Int)∉R i t.x:=λi hi q=>by
  have V:=L.wd i (by lia);have e:=V.eq hxn h2 q;have n:=D.apart (i:=i) (by lia)
  rcases j' i hi with ⟨p1,p2⟩|⟨p1,p2⟩
  .exact n (by rw [← p1,e,p2];exact V.me b D.hb)
  .exact n (by rw [← p2,← e,p1];exact V.me b D.hb)
 have L':=L.adopt ht hw hap λi hi=>by
  have:=D.s2 i (by lia)
  rcases j' i hi with ⟨p1,p2⟩|⟨p1,p2⟩
  .rw [p1,p2];exact this
  .rw [p1,p2,Oj (R i b).length];exact this
 refine ⟨hap,L',λu hu=>?_⟩
 have lo:∀ i,i<=t.cA->∀ z:Nat,(z:Int)∈R i t.x\/(z:Int)∈R i t.y->∀ c,c∈J3 R t.cA t.x t.y i z↔c∈R i t.x\/c∈R i t.y:=λi hi z hz=>by
  have:J3 R t.cA t.x t.y i=lk (R i) t.x t.y:=if_pos hi;rw [this];exact ((L.wd i (by lia)).Fe hxn h2 (hap i hi) hz).1
 rcases (kr (f:=Ti.uW) L.nd ht u).mp hu with rfl|⟨q,_⟩
 .exact (lo t.cA (ak _) t.x (.inl (W.me _ hxn)) _).mpr (.inr (W.me _ h2))
 .obtain ⟨u1,u2,u3⟩:=L.lt u q
  rcases D.jn u q with j|⟨k1,k2⟩
  .exact L.JM ht hap u3 (by lia) _ j
  .have V:=L.wd _ u3
   have c:u.cA<=t.cA:=by lia
   rcases j' _ c with ⟨p1,p2⟩|⟨p1,p2⟩<;>rcases k2 with ⟨k3,k4⟩|⟨k3,k4⟩<;>rw [← p1] at *<;>rw [← p2] at *
   .exact (lo _ c _ (.inl k3) _).mpr (.inr k4)
   .exact (lo _ c _ (.inr k3) _).mpr (.inl k4)
   .exact (lo _ c _ (.inr k3) _).mpr (.inl k4)
   .exact (lo _ c _ (.inl k3) _).mpr (.inr k4)
theorem Lv.YJ (L:Lv n T ts R) (J:Jn ts R) (ht:t∈ts) (hw:t.wd=false):Lv n T (ts.filter λu=>decide (u.key≠t.key)) R/\Jn (ts.filter λu=>decide (u.key≠t.key)) R:=by
 have mm:∀ u,u∈ts.filter (λu=>decide (u.key≠t.key))↔u∈ts/\u≠t:=λu=>by
  rw [dR,decide_eq_true_iff];exact and_congr_right λhu=>not_congr ⟨λq=>m6 L.nd hu ht q,λq=>q▸rfl⟩
 refine ⟨⟨L.wd,λi hi u v=>?_,L.sz,λu hu=>L.lt u ((mm u).mp hu).1,(vJ _ ka).nodup L.nd⟩,λu hu=>J u ((mm u).mp hu).1⟩;rw [L.ed i hi]
 constructor
 .rintro ⟨s,s1,s2,s3⟩;exact ⟨s,(mm s).mpr ⟨s1,λq=>by rw [q,hw] at s2;exact absurd s2 (by decide)⟩,s2,s3⟩
 .rintro ⟨s,s1,s2⟩;exact ⟨s,((mm s).mp s1).1,s2⟩
theorem Lv.put (L:Lv n T ts R) {x y:Nat}(hxy:x<y) (hy:y<n) (hk:((x:Int),(y:Int))∉ts.map Ti.key):Lv n T (ts++[⟨x,y,0,false⟩]) R:=by
 refine ⟨L.wd,λi hi u v=>?_,L.sz,λu hu=>?_,?_⟩
 .rw [L.ed i hi]
  constructor
  .rintro ⟨s,s1,s2⟩;exact ⟨s,eU _ s1,s2⟩
  .rintro ⟨s,s1,s2,s3⟩
   rcases aS.mp s1 with q|q
   .exact ⟨s,q,s2,s3⟩
   .rw [aC.mp q] at s2;exact absurd s2 bx
 .rcases aS.mp hu with q|q
  .exact L.lt u q
  .rw [aC.mp q];exact ⟨hxy,hy,aM _⟩
 .rw [aZ,eE];exact ⟨L.nd,by simp,λp hp q hq e=>hk (by rw [kP,aC] at hq;have e2:p=((x:Int),(y:Int)):=e.trans hq;rw [← e2];exact hp)⟩
theorem Lv.start (n T:Nat) (hn:2^(T+1)<=n\/T=0):Lv n T [] (λ_ i=>[(i:Int)]) :=
 ⟨λi _=>Wd.start n,λi _ u v=>⟨λ⟨j,_,hm⟩=>by simp [al] at hm,λ⟨t,h,_⟩=>nomatch h⟩,λi hi x hx=>by
  show 2*2^i<=2*n
  refine Nat.mul_le_mul_left 2 ?_
  rcases hn with h|h
  .exact bA (xH (by decide) (by lia)) h
  .have:i=0:=by lia
   subst this
   simp;lia,(λt h=>nomatch h),lN⟩
theorem Bg {α:Type} [DecidableEq α]:∀ {l m:List α},l.Nodup->(∀ x∈l,x∈m)->l.length<=m.length
 | [],m,_,_=>aM _
 | a::l,m,hn,h=>by
  obtain ⟨h1,h2⟩:=bb.mp hn;have hm:=h a aw;have:=Bg (l:=l) (m:=m.erase a) h2 λx hx=>(List.mem_erase_of_ne (λe:x=a=>h1 (e▸hx))).mpr (h x (ai _ hx));rw [Ki hm] at this;have:=tJ hm;simp only [bI];lia
structure Zy (n T lv s o:Nat) (ts:List Ti) (R:Nat->Nat->List Int) (ps:List (Int×Int)) (i:Nat) (ts1:List Ti) (R1:Nat->Nat->List Int):Prop where
 dn:Dn n T ts1 R1 s o (lv+1)
 rl:R1 lv=R lv
 ks:ts1.map Ti.key=ts.map Ti.key
 pend:∀ t∈ts1,t.wd=true->t.cA=lv->(t.x:Int)∈R lv s->(t.y:Int)∈R lv s->t.key∈ps.drop i
 rem:∀ p∈ps.drop i,∃ t∈ts1,t.key=p/\t.wd=true/\t.cA=lv/\(t.x:Int)∈R lv s/\(t.y:Int)∈R lv s
 all:∀ p∈ps,∃ t∈ts1,t.key=p/\t.wd=true
variable {s o lv i:Nat}{ps:List (Int×Int)}{p:Int×Int}{ts1:List Ti}{R1:Nat->Nat->List Int}
theorem Zy.step (L:Zy n T lv s o ts R ps i ts1 R1) (hT:∀ j,2^(j+1)<=n->j<=T) (hs:((R lv s).length+1)*2^(lv+1)<=2*n) (hn:ps.Nodup) (hi:ps[i]?=some p) :
  ∃ t∈ts1,t.key=p/\t.wd=true/\t.cA+1<=T/\(t.y:Int)∉R1 (t.cA+1) t.x/\Zy n T lv s o ts R ps (i+1) (gh ts1 t.key Ti.up) (Yq R1 (t.cA+1) t.x t.y):=by
 obtain ⟨hlt,he⟩:=aD.mp hi
 have ed:ps.drop i=p::ps.drop (i+1):=by rw [iw hlt,he]
 have hpn:p∉ps.drop (i+1):=by
  have:=(TY i ps).nodup hn;rw [ed] at this;exact (bb.mp this).1
 obtain ⟨t,t1,t2,t3,t4,t5,t6⟩:=L.rem p (by rw [ed];exact aw);have hnd:=L.dn.lv.nd;have q:=L.dn.YH hT (by rw [L.rl];exact hs) t1 t3 t4 (by rw [L.rl];exact t5) (by rw [L.rl];exact t6);have mm:=kr (f:=Ti.up) hnd t1;rw [← t4] at q;refine ⟨t,t1,t2,t3,q.1,q.2.1,by rw [t4] at q ⊢;exact q.2.2,?_,?_,λu hu h1 h2 h3 h4=>?_,λp' hp'=>?_,λp' hp'=>?_⟩
 .show (if _ then _ else _)=_
  rw [if_neg (by lia)];exact L.rl
 .rw [j5 (f:=Ti.up) (λ_=>rfl)];exact L.ks
 .rcases (mm u).mp hu with rfl|⟨h5,h6⟩
  .exact absurd h2 (by show ¬ t.cA+1=lv;lia)
  .have:=L.pend u h5 h1 h2 h3 h4;rw [ed] at this;exact (au.mp this).resolve_left λe=>h6 (e.trans t2.symm)
 .obtain ⟨u,u1,u2,u3⟩:=L.rem p' (by rw [ed];exact ai _ hp');exact ⟨u,(mm u).mpr (.inr ⟨u1,λe=>hpn (by rw [← t2,← e,u2];exact hp')⟩),u2,u3⟩
 .obtain ⟨u,u1,u2,u3⟩:=L.all p' hp'
  by_cases c:u.key=t.key
  .exact ⟨t.up,(mm _).mpr (.inl rfl),by rw [← u2,c];rfl,t3⟩
  .exact ⟨u,(mm u).mpr (.inr ⟨u1,c⟩),u2,u3⟩
structure NY (n T lv s o:Nat) (ts:List Ti) (R:Nat->Nat->List Int) (ps:List (Int×Int)) (i:Nat) (ts1:List Ti):Prop where
 dn:Dn n T ts1 R s o (lv+1)
 ks:ts1.map Ti.key=ts.map Ti.key
 full:lv+1<=T->∀ x y,x<n->y<n->(x:Int)∈R lv s->(y:Int)∈R lv s->(y:Int)∈R (lv+1) x
 rem:∀ p∈ps.drop i,∃ t∈ts1,t.key=p/\t.wd=false/\t.cA=lv
 done:∀ t∈ts1,t.wd=false->t.cA=lv->t.key∈ps.drop i\/((t.x:Int)∉R lv s/\(t.y:Int)∉R lv s)
theorem NY.at (L:NY n T lv s o ts R ps i ts1) (hn:ps.Nodup) (hi:ps[i]?=some p):∃ t∈ts1,t.key=p/\t.wd=false/\t.cA=lv/\ps.drop i=p::ps.drop (i+1)/\p∉ps.drop (i+1):=by
 obtain ⟨hlt,he⟩:=aD.mp hi
 have ed:ps.drop i=p::ps.drop (i+1):=by rw [iw hlt,he]
 obtain ⟨t,t1,t2,t3,t4⟩:=L.rem p (by rw [ed];exact aw);refine ⟨t,t1,t2,t3,t4,ed,?_⟩;have:=(TY i ps).nodup hn;rw [ed] at this;exact (bb.mp this).1
theorem NY.zero (L:NY n T lv s o ts R ps i ts1) (hn:ps.Nodup) (hi:ps[i]?=some p) (h1:p.1∉R lv s) (h2:p.2∉R lv s):NY n T lv s o ts R ps (i+1) ts1:=by
 obtain ⟨t,t1,t2,t3,t4,ed,hp⟩:=L.at hn hi;refine ⟨L.dn,L.ks,L.full,λq hq=>L.rem q (by rw [ed];exact ai _ hq),λu u1 u2 u3=>?_⟩
 rcases L.done u u1 u2 u3 with h|h
 .rw [ed] at h
  rcases au.mp h with e|h
  .have e1:(u.x:Int)=p.1:=by rw [← e];rfl
   have e2:(u.y:Int)=p.2:=by rw [← e];rfl
   exact .inr (by rw [e1,e2];exact ⟨h1,h2⟩)
  .exact .inl h
 .exact .inr h
theorem NY.two (L:NY n T lv s o ts R ps i ts1) (hT:∀ j,2^(j+1)<=n->j<=T) (hs:((R lv s).length+1)*2^(lv+1)<=2*n) (hn:ps.Nodup) (hi:ps[i]?=some p) (h1:p.1∈R lv s) (h2:p.2∈R lv s):∃ t∈ts1,t.key=p/\t.wd=false/\NY n T lv s o ts R ps (i+1) (gh ts1 t.key Ti.up):=by
 obtain ⟨t,t1,t2,t3,t4,ed,hp⟩:=L.at hn hi;subst t2;have hl:=L.dn.lv.lt t t1;have hT1:=L.dn.Zx hT hs (x:=t.x) (y:=t.y) h1 h2 (by lia);have mm:=kr (f:=Ti.up) L.dn.lv.nd t1;refine ⟨t,t1,rfl,t3,L.dn.YN t1 t3 t4 hT1 (L.full hT1 _ _ (by lia) hl.2.1 h1 h2),?_,L.full,λq hq=>?_,λu hu h3 h4=>?_⟩
 .rw [j5 (f:=Ti.up) (λ_=>rfl)];exact L.ks
 .obtain ⟨u,u1,u2,u3⟩:=L.rem q (by rw [ed];exact ai _ hq);exact ⟨u,(mm u).mpr (.inr ⟨u1,λe=>hp (by rw [← e,u2];exact hq)⟩),u2,u3⟩
 .rcases (mm u).mp hu with rfl|⟨h5,h6⟩
  .exact absurd h4 (by show ¬ t.cA+1=lv;lia)
  .rcases L.done u h5 h3 h4 with h|h
   .rw [ed] at h;exact .inl ((au.mp h).resolve_left h6)
   .exact .inr h
theorem NY.one (L:NY n T lv s o ts R ps i ts1) (hn:ps.Nodup) (hi:ps[i]?=some p) (h:p.1∈R lv s/\p.2∉R lv s\/p.1∉R lv s/\p.2∈R lv s):∃ t∈ts1,t.key=p/\(∀ i,i<=t.cA->(t.y:Int)∉R i t.x)/\Lv n T (gh ts1 t.key Ti.uW) (J3 R t.cA t.x t.y)/\Jn (gh ts1 t.key Ti.uW) (J3 R t.cA t.x t.y):=by
 obtain ⟨t,t1,t2,t3,t4,ed,hp⟩:=L.at hn hi;subst t2;exact ⟨t,t1,rfl,L.dn.adopt t1 t3 t4 h⟩
theorem NY.fin (L:NY n T lv s o ts R ps i ts1) (hi:ps.length<=i):Dn n T ts1 R s o lv:=L.dn.next λt ht h1 h2=>by
 rcases L.done t ht h1 h2 with h|⟨h3,h4⟩
 .rw [OD.mpr hi] at h;cases h
 .exact ⟨λq=>h3 q.1,λq=>h4 q.2⟩
end
end Rm
namespace Rm
def jg (ts:List Ti):Nat:=(ts.map Ti.cA).sum
theorem j6 (t:Ti) (ts:List Ti):jg (t::ts)=t.cA+jg ts:=by unfold jg;rw [aW,fX]
theorem Ql (ts ts':List Ti):jg (ts++ts')=jg ts+jg ts':=by unfold jg;rw [aZ,W4]
theorem Mr {k:Int×Int}{f:Ti->Ti}:∀ {ts:List Ti},k∉ts.map Ti.key->gh ts k f=ts
 | [],_=>rfl
 | t::ts,h=>by
  rw [aW,au,not_or] at h;unfold gh;rw [aW,if_neg λe=>h.1 e.symm];exact congrArg _ (Mr h.2)
theorem FW {u:Ti}:∀ {ts:List Ti},(ts.map Ti.key).Nodup->u∈ts->jg (gh ts u.key Ti.up)=jg ts+1
 | [],_,hu=>nomatch hu
 | t::ts,hn,hu=>by
  rw [aW,bb] at hn
  by_cases c:t.key=u.key
  .have e:=Mr (f:=Ti.up) (c▸hn.1);unfold gh at e ⊢;rw [aW,if_pos c,e,j6,j6]
   show t.cA+1+_=_
   lia
  .have hu':u∈ts:=(au.mp hu).resolve_left λe=>c (by rw [e]);have ih:=FW hn.2 hu';unfold gh at ih ⊢;rw [aW,if_neg c,j6,j6,ih];lia
theorem SX (k:Int×Int) (ts:List Ti):jg (gh ts k Ti.uW)=jg ts:=by
 unfold jg gh;rw [cf]
 congr 1
 refine j9 λt _=>?_
 show Ti.cA (if t.key=k then t.uW else t)=t.cA
 split<;>rfl
theorem ER {u:Ti}:∀ {ts:List Ti},(ts.map Ti.key).Nodup->u∈ts->jg (ts.filter λv=>decide (v.key≠u.key))+u.cA=jg ts
 | [],_,hu=>nomatch hu
 | t::ts,hn,hu=>by
  rw [aW,bb] at hn
  by_cases c:t.key=u.key
  .have et:u=t:=by
    rcases au.mp hu with e|e
    .exact e
    .exact absurd (c▸aX e) hn.1
   have ef:(ts.filter λv=>decide (v.key≠u.key))=ts:=iQ.mpr λv hv=>decide_eq_true λe=>hn.1 (by rw [c,← e];exact aX hv);rw [jT,if_neg (by simp [c]),ef,j6,et];lia
  .have hu':u∈ts:=(au.mp hu).resolve_left λe=>c (by rw [e]);have ih:=ER hn.2 hu';rw [jT,if_pos (by simp [c]),j6,j6];lia
end Rm
namespace L2
abbrev Ln (sp:Sp) (k:Nat):Prop:=∀ vs H Q E,sp vs H Q E->vs.length=k
abbrev Rn (sp:Sp) (rd:TS) (N:List bD):Prop:=∀ vs H Q E,sp vs H Q E->rd { nx:=λ_ H'=>Q .non H',rt:=Q } (start N vs) H
abbrev Rx (sp:Sp) (rd:XK->TS) (N:List bD):Prop:=∀ vs H Q E,sp vs H Q E->rd E { nx:=λ_ H'=>Q .non H',rt:=Q } (start N vs) H
theorem km {H H':Hp}{q:ag}{o:HO}(e:upd H q o=H') (h:H q=none):bQ H H'/\H' q=some o:=e▸⟨bQ.cC h,aE⟩
theorem gU.m {j k:Nat}{A:cM}(r:gU k A) (h:j<=k:=by decide):gU j A:=r.mono h
end L2
local macro_rules | `(tactic| walk_at "s")=>`(tactic| exact ⟨rfl,rfl,rfl,by decide +kernel,rfl,by decide +kernel,by decide +kernel⟩)
local macro_rules | `(tactic| k_in)=>`(tactic| (lk;refine L2.vh ?_;lk))
local macro_rules | `(tactic| k_go)=>`(tactic| (lk;refine L2.m5 ?_;lk))
local macro_rules | `(tactic| walk_at "l")=>`(tactic| first|(intro vs H Q E h;cases h;subst_vars;rfl)|(intro vs H Q E h;repeat' (first|(obtain ⟨e,_⟩:=h;exact e▸rfl)|(obtain ⟨_,h⟩:=h))))
namespace K64
open PySem PySem.Spec PyProof.Rows L2
abbrev Yr:List bD:=["_law_script","_law_digits_here","_law_head","_law_n","_law_most","_law_weighed_here","_law_keeper","_law_old","_law_outs","_law_order","_law_k","_law_table","_law_picked_here"]
abbrev C7:List bD:=["level","side","risen","found"]
abbrev Wn:List bD:=["_law_head","_law_n","_law_ties","_law_way","_law_a","_law_b","_law_turn"]
abbrev Ys:List bD:=["_law_keeper","_law_picked_here","_law_old","_law_most","_law_trail","_law_risen","_law_new","_law_found"]
abbrev zF:List bD:=["self","a","b"]
abbrev wb:List bD:=["self","tie"]
abbrev IA:List bD:=["self","tie","weight"]
abbrev yb:List bD:=["self","n"]
abbrev Yt:List bD:=["_law_script","_law_head","_law_n","_law_ties","_law_k","_law_a","_law_b"]
abbrev Yu:List bD:=["_law_script","_law_n","_law_ties","_law_digit","_law_tie","_law_weights"]
abbrev UC:List bD:=["row","a","b","along","there","back","k","m","inner","outer"]
abbrev Ms:List bD:=["a","b","level","in_wood","n"]
abbrev Mt:List bD:=["n","standing","a","b","tie"]
abbrev mv:List bD:=["self"]
abbrev ES:List bD:=["ties","weight_of"]
abbrev UD:List bD:=["_law_cell","_law_k","_law_table","_law_wood","_law_most"]
abbrev UE:List bD:=["self","n","weighed","weights","a","b","weight","tie"]
abbrev UF:List bD:=["_law_cell","_law_base","_law_many","_law_row","_law_k"]
abbrev yS:List bD:=["n","a","b"]
abbrev UG:List bD:=["_law_keeper","_law_picked_here","_law_old","_law_most"]
abbrev UH:List bD:=["self","level","tie","side","risen","other","ends"]
abbrev yT:List bD:=["n","thing"]
abbrev Mu:List bD:=["n","standing","a","b"]
abbrev yU:List bD:=["self","a"]
abbrev Mv:List bD:=["_law_script","_law_k"]
abbrev Mw:List bD:=["self","level","tie"]
abbrev UI:List bD:=["self","tie","level","looking","trail"]
abbrev UJ:List bD:=["_law_cell","_law_base","_law_many"]
abbrev UK:List bD:=["_law_n","_law_level","_law_power"]
abbrev UL:List bD:=["_law_script","_law_head","_law_n"]
abbrev UM:List bD:=["_law_cell","_law_k","_law_table"]
abbrev yV:List bD:=["thing"]
abbrev Bh:List bD:=["a","b"]
abbrev UN:List bD:=["_law_cell","_law_k","_law_way"]
abbrev UO:List bD:=["self","level","wooden","ties"]
abbrev Qm:List bD:=["_law_head","_law_n"]
abbrev Mx:List bD:=["tie","side"]
abbrev My:List bD:=["_law_script"]
abbrev IB:List bD:=["_law_row"]
def kY (i:Nat):dB:=PySem.Challenge.pw_tiewood_k64_whole_all_taken_out.main.body.getD i (.Pass ⟨0,0,0,0⟩)
abbrev ET:dB:=kY 3
abbrev EU:dB:=kY 4
abbrev EV:dB:=kY 5
abbrev stop:dB:=kY 6
abbrev Mz:dB:=kY 7
abbrev MA:dB:=kY 9
abbrev Qn:dB:=kY 10
abbrev Qo:dB:=kY 11
abbrev wc:dB:=kY 21
abbrev MB:dB:=kY 22
abbrev IC:dB:=kY 23
abbrev MC:dB:=kY 24
abbrev oQ:dB:=kY 26
abbrev nS:dB:=kY 27
abbrev qh:dB:=kY 28
abbrev yc:dB:=kY 31
abbrev we:dB:=kY 32
abbrev ID:dB:=kY 35
abbrev uj:dB:=kY 36
abbrev uk:dB:=kY 41
abbrev yW:dB:=kY 42
abbrev rg:dB:=kY 43
abbrev EW:dB:=kY 44
abbrev wg:dB:=kY 45
abbrev um:dB:=kY 46
abbrev wj:dB:=kY 47
abbrev Bi:dB:=kY 48
abbrev wk:dB:=kY 49
abbrev Bj:dB:=kY 50
abbrev Bk:dB:=kY 51
abbrev Yv:dB:=kY 52
abbrev rh:dB:=ee (kY 29) 0
abbrev Bl:dB:=ee (kY 29) 1
abbrev Bn:dB:=ee (kY 29) 2
abbrev EX:dB:=ee (kY 29) 3
abbrev wm:dB:=ee (kY 29) 4
abbrev yX:dB:=ee (kY 29) 5
abbrev Bo:dB:=ee (kY 29) 6
abbrev Bp:dB:=ee (kY 29) 8
abbrev oR:dB:=ee (kY 33) 0
abbrev yY:dB:=ee (kY 33) 1
abbrev uo:dB:=ee (kY 33) 2
abbrev wo:dB:=ee (kY 33) 3
abbrev wq:dB:=ee (kY 33) 4
abbrev oS:dB:=ee (kY 33) 5
abbrev wu:dB:=ee (kY 33) 6
abbrev mw:dB:=ee (kY 33) 7
abbrev wx:dB:=ee (kY 33) 8
abbrev wy:dB:=ee (kY 33) 9
abbrev rj:dB:=ee (kY 37) 0
abbrev uq:dB:=ee (kY 37) 1
abbrev EY:dB:=ee (kY 37) 2
abbrev Bq:dB:=ee (kY 37) 6
abbrev ur:dB:=ee (kY 37) 7
abbrev m7:dB:=ee (kY 39) 0
abbrev oU:dB:=ee (kY 39) 1
theorem KJ:bK yV yV (aV ET):=by walk_at "s"
theorem KL:bK yV yV (aV EU):=by walk_at "s"
theorem KM:bK yT yT (aV EV):=by walk_at "s"
theorem Qp:bK ["n","level","needed"] ["n"] (aV stop):=by walk_at "s"
theorem Qq:bK Bh Bh (aV Mz):=by walk_at "s"
theorem Qr:bK ["n","ties"] ["n","ties"] (aV MA):=by walk_at "s"
theorem SY:bK ["trail"] ["trail"] (aV Qn):=by walk_at "s"
theorem MD:bK ["trail","finds"] ["trail"] (aV Qo):=by walk_at "s"
theorem C8:bK ["row"] ["row"] (aV wc):=by walk_at "s"
theorem IE:bK ["row","a","k"] ["row","a"] (aV MB):=by walk_at "s"
theorem EZ:bK ["row","other","a","b","k"] ["row","other","a","b"] (aV IC):=by walk_at "s"
theorem Br:bK UC ["row","a","b"] (aV MC):=by walk_at "s"
theorem wz:bK yT yT (aV oQ):=by walk_at "s"
theorem vi:bK yS yS (aV nS):=by walk_at "s"
theorem yd:bK yS yS (aV qh):=by walk_at "s"
theorem KN:bK ES ES (aV yc):=by walk_at "s"
theorem C9:bK Mx Mx (aV we):=by walk_at "s"
theorem NH:bK Mt Mu (aV ID):=by walk_at "s"
theorem Bt:bK Mt Mu (aV uj):=by walk_at "s"
theorem Bu:bK Mv Mv (aV uk):=by walk_at "s"
theorem FX:bK ["_law_found"] ["_law_found"] (aV yW):=by walk_at "s"
theorem jA:bK Wn Qm (aV rg):=by walk_at "s"
theorem Bw:bK UK ["_law_n"] (aV EW):=by walk_at "s"
theorem Da:bK UN ["_law_cell","_law_k"] (aV wg):=by walk_at "s"
theorem rk:bK Yt UL (aV um):=by walk_at "s"
theorem lH:bK UD UM (aV wj):=by walk_at "s"
theorem IF:bK ["_law_told"] ["_law_told"] (aV Bi):=by walk_at "s"
theorem Dc:bK UF UJ (aV wk):=by walk_at "s"
theorem rm:bK Yu ["_law_script","_law_n"] (aV Bj):=by walk_at "s"
theorem rn:bK Ys UG (aV Bk):=by walk_at "s"
theorem ME:bK Yr My (aV Yv):=by walk_at "s"
theorem zG:bK yb yb (aV rh):=by walk_at "s"
theorem IG:bK ["self","row","place"] ["self","row"] (aV Bl):=by walk_at "s"
theorem IH:bK zF zF (aV Bn):=by walk_at "s"
theorem KQ:bK ["self","a","b","row"] zF (aV EX):=by walk_at "s"
theorem De:bK zF zF (aV wm):=by walk_at "s"
theorem FY:bK yU yU (aV yX):=by walk_at "s"
theorem II:bK yU yU (aV Bo):=by walk_at "s"
theorem IJ:bK ["self","told","place","row"] mv (aV Bp):=by walk_at "s"
theorem wA:bK yb yb (aV oR):=by walk_at "s"
theorem FZ:bK IA IA (aV yY):=by walk_at "s"
theorem Bx:bK ["self","tie","wood"] wb (aV uo):=by walk_at "s"
theorem Dg:bK wb wb (aV wo):=by walk_at "s"
theorem uu:bK ["self","tie","level","wood"] wb (aV wq):=by walk_at "s"
theorem nU:bK UO ["self","level","wooden"] (aV oS):=by walk_at "s"
theorem Dh:bK wb wb (aV wu):=by walk_at "s"
theorem rA:bK ["self","level","tie","wood"] Mw (aV mw):=by walk_at "s"
theorem oi:bK UH Mw (aV wx):=by walk_at "s"
theorem om:bK UI wb (aV wy):=by walk_at "s"
theorem zH:bK yb yb (aV rj):=by walk_at "s"
theorem By:bK IA IA (aV uq):=by walk_at "s"
theorem KR:bK ["self","a","b","tie","trail"] zF (aV EY):=by walk_at "s"
theorem IK:bK mv mv (aV Bq):=by walk_at "s"
theorem Bz:bK mv mv (aV ur):=by walk_at "s"
theorem tQ:bK UE ["self","n","weighed"] (aV m7):=by walk_at "s"
theorem wB:bK mv mv (aV oU):=by walk_at "s"
structure CA where
  (bJ aO Kept:ag)
structure KU (K:aa) (mg:bD->Option aj) (C:ag) (A:CA):Prop where
 GO:CU K C
 Tu:mg "Wood"=some (.ref C)
 sR:dA K C "n"
 lY:dA K C "rows"
 Fd:CU K A.bJ
 NQ:mg "Levels"=some (.ref A.bJ)
 ib:dA K A.bJ "level_of"
 gN:dA K A.bJ "weight_of"
 iW:dA K A.bJ "wooden"
 jw:dA K A.bJ "woods"
 zx:CU K A.aO
 JN:mg "Lightest"=some (.ref A.aO)
 iX:dA K A.aO "came"
 h9:dA K A.aO "levels"
 ia:dA K A.aO "looked"
 iU:dA K A.aO "lost"
 kH:dA K A.aO "n"
 iF:dA K A.aO "risen"
 iV:dA K A.aO "wood"
 TB:mg "Kept"=some (.ref A.Kept)
 YG:mg "all"=none
 WG:mg "bool"=none
 JP:mg "enumerate"=none
 MN:mg "int"=none
 pZ:mg "isinstance"=none
 Q7:mg "len"=none
 LA:mg "list"=none
 UX:mg "max"=none
 YW:mg "min"=none
 GQ:mg "range"=none
 YQ:mg "set"=none
 sO:mg "sorted"=none
 MP:mg "sum"=none
 Tv:mg "tuple"=none
 YT:mg "zip"=none
 Ei:∃ t:TF,mg "MOST_PLACES"=some (.int 200 t)
variable {P:bB}{w:ck}{K:aa}{mg:bD->Option aj}{base:cK}{f:ag}{fd:fz}{sp:Sp}{C:ag}{A:CA}
def yZ (K:aa) (C:ag):TS :=
 fg (qI (l5 (Kx K) (av (ao 0) (av (tC (.ty "int")) aY))) (LR (l5 (Kx K) (av (ao 0) (av (tC (.ty "bool")) aY)))))
def y3 (K:aa) (C:ag) (ju:Sp):TS :=
 fg (qI (cR ju [] E0 (av (ao 0) aY)) (Fx (nA λi j=>.bl (decide (i<=j))) (nA λi j=>.bl (decide (i<=j))) (tC (.int 1)) (ao 0) (tC (.int 200))))
def y4 (K:aa) (C:ag) (ju:Sp):TS :=
 fg (qI (cR ju [] E0 (av (ao 1) aY)) (Fx (nA λi j=>.bl (decide (i<=j))) (nA λi j=>.bl (decide (i<j))) (tC (.int 0)) (ao 1) (ao 0)))
def IL (K:aa) (C:ag):TS :=
 AG (cX (bY (nA λi j=>.bl (decide (i<=j))) (ao 2) (ao 0)))
 (bU (Kj 1 (tC (.int 1)) (nA λi j=>.int (i+j)))
 (Kj 2 (tC (.int 2)) (rI xt λi j=>.int (i*j))))
def Qs (K:aa) (C:ag):TS :=
 bU (dg (tC (.int 0)) (bj 1))
 (bU (dg (tC (.int 4)) (bj 2))
 (bU (IL K C)
 (fg (ao 1))))
def E1 (K:aa) (C:ag):TS :=
 fg (W5 (cX (bY (nA λi j=>.bl (decide (i<j))) (ao 0) (ao 1))) (lh (av (ao 0) (av (ao 1) aY))) (lh (av (ao 1) (av (ao 0) aY))))
def E3 (K:aa) (C:ag) (pR:Sp):TS :=
 fg (l5 (Iq K) (av (jq 4 [0] (md K (ao 1)) (Ft K 4 (jN (bj 0) (jN (bj 1) (jN (bj 2) (jN (bj 3) Hu))))) tP (bY (nA λi j=>.int (i-j)) (cR pR [] E0 (av (ao 4) aY)) (ao 2))) aY))
def IM (K:aa) (C:ag):TS :=
 fg (l5 (Iq K) (av (jq 4 [] (md K (ao 0)) (Ft K 4 (jN (bj 0) (jN (bj 1) (jN (bj 2) (jN (bj 3) Hu))))) tP (l5 (ma K) (av (ao 2) aY))) aY))
def IP (K:aa) (C:ag) (iC:Sp):TS :=
 bU (dg (jq 4 [] (md K (ao 0)) (Ft K 4 (jN (bj 0) (jN (bj 1) (jN (bj 2) (jN (bj 3) Hu))))) (tB (LO (ao 3))) (ao 3)) (bj 1))
 (fg (W5 (qU K (ao 1)) (bY dE (cR iC [] E0 (av (ao 0) aY)) (tC (.int 1))) (cR iC [] E0 (av (ao 0) aY))))
def rC (K:aa) (C:ag):TS :=
 fg (Pm K (av (ao 0) (av (J2 (pM K) (ao 0) (kW (tC (.int 1))) jd) aY)))
def E4 (K:aa) (C:ag):TS :=
 bU (dg (CP K "list" (pN K) (ao 0) (av (ao 1) aY)) (bj 2))
 (fg (bY dE (J2 (pM K) (ao 0) (kW (ao 2)) jd) (J2 (pM K) (ao 0) (kW (tC (.int 1))) (kW (bY dE (ao 2) (tC (.int 1)))))))
def BA (K:aa) (C:ag) (oV:Sp):TS :=
 bU (dg (CP K "list" (pN K) (ao 0) (av (ao 2) aY)) (bj 4))
 (fg (bY dE (bY dE (J2 (pM K) (ao 0) jd (kW (bY dE (ao 4) (tC (.int 1))))) (cR oV [] E0 (av (ao 1) (av (ao 3) aY)))) (J2 (pM K) (ao 0) (kW (ao 4)) jd)))
def E5 (K:aa) (C:ag) (cP:Sp):TS :=
 bU (dg (cR cP [] E0 (av (ao 0) aY)) (bj 3))
 (bU (dg (CP K "list" (pN K) (ao 3) (av (lh (av (ao 1) (av (ao 2) aY))) aY)) (bj 4))
 (bU (dg (CP K "list" (pN K) (ao 3) (av (lh (av (ao 2) (av (ao 1) aY))) aY)) (bj 5))
 (bU (dg (l5 EG (av (ao 4) (av (ao 5) aY))) (bj 6))
 (bU (dg (l5 EH (av (ao 4) (av (ao 5) aY))) (bj 7))
 (bU (dg (J2 (pM K) (ao 0) (kW (bY dE (ao 6) (tC (.int 1)))) (kW (bY dE (ao 7) (tC (.int 1))))) (bj 8))
 (bU (dg (bY dE (J2 (pM K) (ao 0) jd (kW (bY dE (ao 6) (tC (.int 1))))) (J2 (pM K) (ao 0) (kW (bY dE (ao 7) (tC (.int 2)))) jd)) (bj 9))
 (fg (W5 (cX (bY (nA λi j=>.bl (decide (i<j))) (ao 4) (ao 5))) (lh (av (ao 9) (av (ao 8) aY))) (lh (av (ao 8) (av (ao 9) aY)))))))))))
def m8 (K:aa) (C:ag) (lU:Sp):TS :=
 ja (Hs (qU K (cR lU [] E0 (av (ao 0) (av (ao 1) aY)))))
 qK
 fT
def mx (K:aa) (C:ag) (cD:Sp):TS :=
 bU (fq (cR cD [] E0 (av (ao 0) (av (ao 1) aY))))
 (fq (cR cD [] E0 (av (ao 0) (av (ao 2) aY))))
def nV (K:aa) (C:ag) (du:Sp):TS :=
 bU (fq (cR du [] E0 (av (ao 0) (av (ao 1) (av (ao 2) aY)))))
 (ja (cX (bY (jG K) (ao 1) (ao 2)))
 qK
 fT)
def nW (K:aa) (C:ag) (Pt:ag):TS :=
 fg (KF Pt ⟨119,28,119,61⟩ ((("in_order":bD)++".<locals>.")++"<lambda>") 1 (av (ao 0) aY))
theorem IQ (Fu:LB K "in_order" "in_order" yc f fd) (T:KU K mg C A) {c Pt:ag}(hcd:fd.code=.ref c) (CH:ic base c Pt) (B:base.BuiltinsAt mg Pt)
 (len:Ln sp 2) (run:Rn sp (nW K C Pt) ES):kF P w K mg base Hc 1 f fd ES sp :=
 Fu.okC hcd KN len λA0 outer s H vs Q E hr h=>⟨nW K C Pt,
 bX (fH (Qe rfl rfl CH B hr.depth hr.JR rfl T.sO (b9 (pv 0) dI) rfl rfl)),run vs H Q E h⟩
def rD (K:aa) (C:ag):TS :=
 fg (l5 (ma K) (av (jq 1 [1] (md K (ao 0)) (bj 0) (cX (bY (AV K false) (ao 0) (ao 1))) (ao 0)) aY))
def BB (K:aa) (C:ag) (bZ j7:Sp):TS :=
 bU (fq (cR bZ [] E0 (av (ao 0) (av (ao 2) (av (ao 3) aY)))))
 (bU (dg (cR j7 [] E0 (av (ao 2) (av (ao 3) aY))) (bj 4))
 (bU (ja (cX (bY (AV K false) (ao 4) (ao 1)))
 qK
 fT)
 (fg (ao 4))))
def qi (K:aa) (C:ag) (bZ j7:Sp):TS :=
 bU (fq (cR bZ [] E0 (av (ao 0) (av (ao 2) (av (ao 3) aY)))))
 (bU (dg (cR j7 [] E0 (av (ao 2) (av (ao 3) aY))) (bj 4))
 (bU (ja (cX (bY (AV K true) (ao 4) (ao 1)))
 qK
 fT)
 (fg (ao 4))))
def qj (K:aa) (C:ag):TS :=
 bU (ja (cX (bY (nA λi j=>.bl (decide (i<j))) (ao 1) (l5 (ma K) (av (ao 0) aY))))
 (fg (bY (cY K) (ao 0) (ao 1)))
 fT)
 (fg (tC (.int 0)))
def uv (K:aa) (C:ag):TS :=
 fg (qI (l5 (Kx K) (av (ao 0) (av (tC (.ty "int")) aY))) (LR (l5 (Kx K) (av (ao 0) (av (tC (.ty "bool")) aY)))))
def mh (K:aa) (C:ag) (Pt:ag):TS :=
 qL (Hy (av (bY dE (ao 4) (tC (.int 1))) (av (ao 1) aY))) (bj 5)
 (bU (ja (xR (cX (bY (jG K) (ao 3) (tC (.int 1)))) (LQ (cX (bY (jG K) (ao 5) (bY dE (ao 4) (tC (.int 1))))) (cX (bY (jG K) (ao 5) (bY (nA λi j=>.int (i-j)) (bY dE (ao 4) (ao 1)) (tC (.int 1)))))))
 (fq (CP K "list" jz (ao 2) (av (lh (av (ao 4) (av (ao 5) aY))) aY)))
 fT)
 (bU (ja (xR (cX (bY (jG K) (ao 3) (tC (.int 2)))) (cX (bY (nA λi j=>.bl (decide (i<j))) (ao 5) (bY dE (tC (.int 4)) (bY (rI (λ_ j=>0<j) λi j=>.int (i%j)) (bY (rI kX λi j=>.int (i/j)) (ao 0) (tC (.int 6))) (tC (.int 5)))))))
 (fq (CP K "list" jz (ao 2) (av (lh (av (ao 4) (av (ao 5) aY))) aY)))
 fT)
 (bU (ja (xR (cX (bY (jG K) (ao 3) (tC (.int 3)))) (LQ (cX (bY (jG K) (ao 5) (bY dE (ao 4) (tC (.int 2))))) (xR (cX (bY (jG K) (ao 5) (bY dE (ao 4) (tC (.int 1))))) (cX (bY (jG K) (bY (rI (λ_ j=>0<j) λi j=>.int (i%j)) (ao 4) (tC (.int 2))) (tC (.int 0)))))))
 (fq (CP K "list" jz (ao 2) (av (lh (av (ao 4) (av (ao 5) aY))) aY)))
 fT)
 (bU (ja (xR (cX (bY (jG K) (ao 3) (tC (.int 4)))) (xR (cX (bY (nA λi j=>.bl (decide (i<j))) (ao 5) (bY dE (ao 4) (tC (.int 4))))) (LQ (cX (bY (nA λi j=>.bl (decide (i<j))) (ao 5) (bY (rI kX λi j=>.int (i/j)) (ao 1) (tC (.int 2))))) (LQ (cX (bY (nA λi j=>.bl (decide (j<=i))) (ao 4) (bY (rI kX λi j=>.int (i/j)) (ao 1) (tC (.int 2))))) (cX (bY (jG K) (ao 5) (bY dE (ao 4) (tC (.int 1)))))))))
 (fq (CP K "list" jz (ao 2) (av (lh (av (ao 4) (av (ao 5) aY))) aY)))
 fT)
 (ja (xR (cX (bY (jG K) (ao 3) (tC (.int 5)))) (cX (bY (AV K false) (bY (nA λi j=>.int (i-j)) (ao 5) (ao 4)) (lh (av (tC (.int 1)) (av (tC (.int 2)) (av (tC (.int 4)) (av (tC (.int 8)) aY))))))))
 (fq (CP K "list" jz (ao 2) (av (lh (av (ao 4) (av (ao 5) aY))) aY)))
 fT)))))
def qk (K:aa) (C:ag) (Pt:ag):TS :=
 qL (vP (av (ao 1) aY)) (bj 4)
 (mh K C Pt)
def lI (K:aa) (C:ag) (Pt:ag):TS :=
 bU (dg (u7 aY) (bj 2))
 (bU (dg (bY (rI (λ_ j=>0<j) λi j=>.int (i%j)) (ao 0) (tC (.int 6))) (bj 3))
 (bU (qk K C Pt)
 (bU (ja (cX (bY (nA λi j=>.bl (decide (j<i))) (bY (rI (λ_ j=>0<j) λi j=>.int (i%j)) (bY (rI kX λi j=>.int (i/j)) (ao 0) (tC (.int 3))) (tC (.int 3))) (tC (.int 0))))
 (fg (J2 (pM K) (KD Pt ⟨280,37,280,94⟩ ((("_law_shape":bD)++".<locals>.")++"<lambda>") (av (ao 2) aY)) jd (kW (tC (.int 36)))))
 fT)
 (bU (dg (bY (rI (λ_ j=>0<j) λi j=>.int (i%j)) (bY (rI kX λi j=>.int (i/j)) (ao 0) (tC (.int 30))) (bY dE (l5 (ma K) (av (ao 2) aY)) (tC (.int 1)))) (bj 6))
 (fg (J2 (pM K) (bY dE (J2 (pM K) (ao 2) (kW (ao 6)) jd) (J2 (pM K) (ao 2) jd (kW (ao 6)))) jd (kW (tC (.int 36)))))))))
theorem Di (Fu:LB K "_law_shape" "_law_shape" rg f fd) (T:KU K mg C A) {c Pt:ag}(hcd:fd.code=.ref c) (CH:ic base c Pt) (B:base.BuiltinsAt mg Pt)
 (len:Ln sp 2) (run:Rn sp (lI K C Pt) Wn):kF P w K mg base Hc 1 f fd Qm sp :=
 Fu.okC hcd jA len λA0 outer s H vs Q E hr h=>⟨lI K C Pt,
 aF (oO jA.nd (Kt dI))
 (aF (oO jA.nd (fU u6 (pv 0) cp))
 (aF (xV eF rfl (Es rfl T.GQ (b9 (pv 1) dI)) (gg jA.nd)
 (bX (xV eF rfl (Et rfl T.GQ (b9 (fU ki (pv 4) cp) (b9 (pv 1) dI))) (gg jA.nd)
 (aF (kh (PW.pt (qH (gP (ll hr.units) (pv 3) cp (jm _)) (pK (PW.pt (Ht (gP (ll hr.units) (pv 5) (fU ki (pv 4) cp) (jm _)) (Fs (gP (ll hr.units) (pv 5) (fU AI (fU ki (pv 4) (pv 1)) cp) (jm _))))))))
 (bX (mC (nO cF fO fP lj (pv 2) (b9 (qN (b9 (pv 4) (b9 (pv 5) dI))) dI))))
 gm)
 (aF (kh (PW.pt (qH (gP (ll hr.units) (pv 3) cp (jm _)) (pK (gP Hz (pv 5) (fU ki cp (fU u6 (fU oP (pv 0) cp) cp)) (jm _)))))
 (bX (mC (nO cF fO fP lj (pv 2) (b9 (qN (b9 (pv 4) (b9 (pv 5) dI))) dI))))
 gm)
 (aF (kh (PW.pt (qH (gP (ll hr.units) (pv 3) cp (jm _)) (pK (PW.pt (Ht (gP (ll hr.units) (pv 5) (fU ki (pv 4) cp) (jm _)) (Fs (PW.pt (qH (gP (ll hr.units) (pv 5) (fU ki (pv 4) cp) (jm _)) (pK (gP (ll hr.units) (fU u6 (pv 4) cp) cp (jm _)))))))))))
 (bX (mC (nO cF fO fP lj (pv 2) (b9 (qN (b9 (pv 4) (b9 (pv 5) dI))) dI))))
 gm)
 (aF (kh (PW.pt (qH (gP (ll hr.units) (pv 3) cp (jm _)) (qH (gP Hz (pv 5) (fU ki (pv 4) cp) (jm _)) (pK (PW.pt (Ht (gP Hz (pv 5) (fU oP (pv 1) cp) (jm _)) (Ht (gP T7 (pv 4) (fU oP (pv 1) cp) (jm _)) (Fs (gP (ll hr.units) (pv 5) (fU ki (pv 4) cp) (jm _))))))))))
 (bX (mC (nO cF fO fP lj (pv 2) (b9 (qN (b9 (pv 4) (b9 (pv 5) dI))) dI))))
 gm)
 (bX (kh (PW.pt (qH (gP (ll hr.units) (pv 3) cp (jm _)) (pK (gP (O4 hr.units) (fU AI (pv 5) (pv 4)) (qN (b9 cp (b9 cp (b9 cp (b9 cp dI))))) (by with_unfolding_all rfl)))))
 (bX (mC (nO cF fO fP lj (pv 2) (b9 (qN (b9 (pv 4) (b9 (pv 5) dI))) dI))))
 gm)))))))))
 (aF (kh (gP T3 (fU u6 (fU oP (pv 0) cp) cp) cp (jm _))
 (bX (fH (qO vT (Qb rfl rfl CH B hr.depth hr.JR rfl T.sO (b9 (pv 2) dI)) vR (vS cp))))
 gm)
 (aF (oO jA.nd (fU u6 (fU oP (pv 0) cp) (fU ki (iS x3 rfl T.Q7 BootT.len (b9 (pv 2) dI)) cp)))
 (bX (fH (qO vT (fU ki (qO vT (pv 2) (vS (pv 6)) vR) (qO vT (pv 2) vR (vS (pv 6)))) vR (vS cp)))))))),run vs H Q E h⟩
def uw (K:aa) (C:ag):TS :=
 AG (cX (bY (nA λi j=>.bl (decide (i<=j))) (ao 2) (ao 0)))
 (bU (Kj 1 (tC (.int 1)) (nA λi j=>.int (i+j)))
 (dg (bY (rI xt λi j=>.int (i*j)) (ao 2) (tC (.int 2))) (bj 2)))
def y6 (K:aa) (C:ag):TS :=
 bU (dg (tC (.int 0)) (bj 1))
 (bU (dg (tC (.int 4)) (bj 2))
 (bU (uw K C)
 (fg (ao 1))))
def rE (K:aa) (C:ag):TS :=
 bU (dg (bY (rI (λ_ j=>0<j) λi j=>.int (i%j)) (ao 0) (tC (.int 3))) (bj 2))
 (bU (ja (cX (bY (jG K) (ao 2) (tC (.int 0))))
 (fg (bY (nA λi j=>.int (i-j)) (bY (rI (λ_ j=>0<j) λi j=>.int (i%j)) (bY dE (bY (rI kX λi j=>.int (i/j)) (ao 0) (tC (.int 3))) (bY (rI xt λi j=>.int (i*j)) (ao 1) (ao 1))) (tC (.int 7))) (tC (.int 3))))
 fT)
 (bU (ja (cX (bY (jG K) (ao 2) (tC (.int 1))))
 (fg (bY (nA λi j=>.int (i-j)) (bY (rI (λ_ j=>0<j) λi j=>.int (i%j)) (bY (rI kX λi j=>.int (i/j)) (ao 0) (tC (.int 3))) (bY (rI xt λi j=>.int (i*j)) (tC (.int 2)) (bY (rI OM λi j=>.int (i^j.toNat)) (tC (.int 10)) (tC (.int 40))))) (bY (rI OM λi j=>.int (i^j.toNat)) (tC (.int 10)) (tC (.int 40)))))
 fT)
 (fg (tC (.int 5)))))
def nX (K:aa) (C:ag) (ik gM a8:Sp):TS :=
 qL (Hy (av (tC (.int 1)) (av (l5 EG (av (tC (.int 11)) (av (l5 (ma K) (av (ao 0) aY)) aY))) aY))) (bj 4)
 (bU (dg (bY (rI (λ_ j=>0<j) λi j=>.int (i%j)) (bY (cY K) (ao 0) (ao 4)) (ao 2)) (bj 5))
 (bU (dg (bY (rI (λ_ j=>0<j) λi j=>.int (i%j)) (bY dE (bY dE (ao 5) (tC (.int 1))) (bY (rI (λ_ j=>0<j) λi j=>.int (i%j)) (bY dE (bY (rI kX λi j=>.int (i/j)) (bY (cY K) (ao 0) (ao 4)) (ao 2)) (ao 4)) (bY (nA λi j=>.int (i-j)) (ao 2) (tC (.int 1))))) (ao 2)) (bj 6))
 (ja (cX (bY (AV K true) (lh (av (l5 EG (av (ao 5) (av (ao 6) aY))) (av (l5 EH (av (ao 5) (av (ao 6) aY))) aY))) (ao 3)))
 (fq (CP K "list" jz (ao 3) (av (lh (av (l5 EG (av (ao 5) (av (ao 6) aY))) (av (l5 EH (av (ao 5) (av (ao 6) aY))) aY))) aY)))
 fT)))
def ql (K:aa) (C:ag) (ik gM a8:Sp):TS :=
 bU (dg (cR ik [] E0 (av (ao 1) (av (ao 2) aY))) (bj 3))
 (bU (nX K C ik gM a8)
 (fg (jq 1 [3,0] (vP (av (l5 (ma K) (av (ao 3) aY)) aY)) (bj 0) tP (bY (OW K) (bY (cY K) (ao 1) (ao 0)) (lh (av (cR gM [] E0 (av (bY dE (cR a8 [] E0 (av (ao 2) (av (bY dE (ao 0) (tC (.int 1))) aY))) (bY (rI xt λi j=>.int (i*j)) (tC (.int 7)) (ao 0))) (av (ao 0) aY))) aY))))))
def rF (K:aa) (C:ag):TS :=
 bU (dg (jq 1 [] (md K (ao 2)) (bj 0) (qU K (bY (cY K) (ao 0) (tC (.int 3)))) (ao 0)) (bj 3))
 (bU (ja (xR (cX (bY (nA λi j=>.bl (decide (j<i))) (bY (rI (λ_ j=>0<j) λi j=>.int (i%j)) (ao 0) (tC (.int 3))) (tC (.int 0)))) (cX (bY (Qc K) (ao 3) (u7 aY))))
 (bU (dg (l5 (Uz K) (av (jq 1 [] (md K (ao 3)) (bj 0) tP (bY (cY K) (ao 0) (tC (.int 2)))) aY)) (bj 4))
 (bU (dg (jq 1 [4] (md K (ao 3)) (bj 0) (cX (bY (jG K) (bY (cY K) (ao 0) (tC (.int 2))) (ao 1))) (ao 0)) (bj 3))
 (fg (bY (cY K) (ao 3) (bY (rI (λ_ j=>0<j) λi j=>.int (i%j)) (bY dE (bY (rI kX λi j=>.int (i/j)) (ao 0) (tC (.int 3))) (ao 1)) (l5 (ma K) (av (ao 3) aY)))))))
 fT)
 (fg (bY (cY K) (ao 2) (bY (rI (λ_ j=>0<j) λi j=>.int (i%j)) (bY dE (bY (rI kX λi j=>.int (i/j)) (ao 0) (tC (.int 3))) (bY (rI xt λi j=>.int (i*j)) (tC (.int 5)) (ao 1))) (l5 (ma K) (av (ao 2) aY))))))
def wC (K:aa) (C:ag) (cq:Sp):TS :=
 fg (qI (l5 (Kx K) (av (ao 0) (av (tC (.ty "tuple")) aY))) (qI (bY (jG K) (l5 (ma K) (av (ao 0) aY)) (tC (.int 5))) (l5 (XA K) (av (jq 1 [] (md K (ao 0)) (bj 0) tP (cR cq [] E0 (av (ao 0) aY))) aY))))
def oW (K:aa) (C:ag):TS :=
 qL (vP (av (ao 2) aY)) (bj 4)
 (bU (fq (CP K "list" jz (ao 3) (av (bY (rI (λ_ j=>0<j) λi j=>.int (i%j)) (ao 0) (ao 1)) aY)))
 (dg (bY (rI kX λi j=>.int (i/j)) (ao 0) (ao 1)) (bj 0)))
def rG (K:aa) (C:ag):TS :=
 bU (dg (u7 aY) (bj 3))
 (bU (oW K C)
 (fg (ao 3)))
def rH (K:aa) (C:ag) (fI a8:Sp):TS :=
 qL (md K (cR fI [] E0 (av (cR a8 [] E0 (av (ao 0) (av (tC (.int 1)) aY))) (av (bY (rI xt λi j=>.int (i*j)) (ao 1) (ao 1)) (av (bY (rI (λ_ j=>0<j) λi j=>.int (i%j)) (cR a8 [] E0 (av (ao 0) (av (tC (.int 2)) aY))) (tC (.int 37))) aY))))) (bj 3)
 (bU (dg (lh (av (l5 EG (av (bY (rI kX λi j=>.int (i/j)) (ao 3) (ao 1)) (av (bY (rI (λ_ j=>0<j) λi j=>.int (i%j)) (ao 3) (ao 1)) aY))) (av (l5 EH (av (bY (rI kX λi j=>.int (i/j)) (ao 3) (ao 1)) (av (bY (rI (λ_ j=>0<j) λi j=>.int (i%j)) (ao 3) (ao 1)) aY))) aY))) (bj 4))
 (ja (xR (cX (bY (zD K) (bY (cY K) (ao 4) (tC (.int 0))) (bY (cY K) (ao 4) (tC (.int 1))))) (cX (bY (AV K true) (ao 4) (ao 2))))
 (fq (CP K "list" jz (ao 2) (av (ao 4) aY)))
 fT))
def wD (K:aa) (C:ag) (fI a8:Sp):TS :=
 bU (dg (u7 aY) (bj 2))
 (bU (rH K C fI a8)
 (bU (dg (cR fI [] E0 (av (cR a8 [] E0 (av (ao 0) (av (tC (.int 3)) aY))) (av (bY (rI xt λi j=>.int (i*j)) (tC (.int 2)) (bY (rI OM λi j=>.int (i^j.toNat)) (tC (.int 10)) (tC (.int 20)))) (av (l5 (ma K) (av (ao 2) aY)) aY)))) (bj 5))
 (fg (jq 1 [2,5] (vP (av (l5 (ma K) (av (ao 2) aY)) aY)) (bj 0) tP (bY (OW K) (bY (cY K) (ao 1) (ao 0)) (lh (av (bY (nA λi j=>.int (i-j)) (bY (cY K) (ao 2) (ao 0)) (bY (rI OM λi j=>.int (i^j.toNat)) (tC (.int 10)) (tC (.int 20)))) aY)))))))
abbrev BC (K:aa) (C:ag) (A:CA) (fJ bw bV:Sp):TS :=
  bU (ja (LQ (cX (bY (zD K) (bY (cY K) (ao 6) (tC (.int 4))) (bY dE (bY (nA λi j=>.int (i-j)) (bY (nA λi j=>.int (i-j)) (bY (cY K) (ao 2) (tC (.int 4))) (ao 5)) (ao 3)) (bY (cY K) (ao 1) (tC (.int 2)))))) (cX (bY (zD K) (bY (cY K) (ao 6) (tC (.int 1))) (bY dE (bY dE (bY (cY K) (ao 2) (tC (.int 1))) (ao 5)) (ao 7)))))
   (fg (tC .non))
   fT)
  (fg (ao 6))
abbrev BD (K:aa) (C:ag) (A:CA) (fJ bw bV:Sp):TS :=
  bU (ja (LQ (cX (bY (zD K) (bY (cY K) (ao 6) (tC (.int 0))) (bY (cY K) (ao 2) (tC (.int 0))))) (LQ (cX (bY (zD K) (bY (cY K) (ao 6) (tC (.int 2))) (bY dE (bY (cY K) (ao 2) (tC (.int 2))) (ao 5)))) (cX (bY (zD K) (bY (cY K) (ao 6) (tC (.int 3))) (bY (nA λi j=>.int (i-j)) (bY dE (bY (cY K) (ao 2) (tC (.int 3))) (ao 3)) (bY (cY K) (ao 1) (tC (.int 2))))))))
   (fg (tC .non))
   fT)
  (bU (dg (l5 Ui (av (qI (bY (Qc K) (ao 4) (u7 aY)) (LO (bY (cY K) (bY (cY K) (ao 4) (Zm (rU λi=>.int (-i)) (tC (.int 1)))) (tC (.int 3))))) aY)) (bj 7))
  (BC K C A fJ bw bV))
abbrev BE (K:aa) (C:ag) (A:CA) (fJ bw bV:Sp):TS :=
  bU (dg (fc A.aO "account" bw [] E0 (ao 0) aY) (bj 6))
  (bU (ja (LQ (Hs (qU K (cR bV [] E0 (av (ao 6) aY)))) (LQ (cX (bY (nA λi j=>.bl (decide (j<i))) (l5 (ma K) (av (ao 4) aY)) (bY dE (bY (cY K) (ao 1) (tC (.int 2))) (tC (.int 1))))) (cX (bY (jG K) (bY (Wj K) (ao 4) (u7 aY)) (bY (cY K) (ao 1) (tC (.int 3)))))))
   (fg (tC .non))
   fT)
  (BD K C A fJ bw bV))
def wF (K:aa) (C:ag) (A:CA) (fJ bw bV:Sp):TS :=
 bU (dg (fc A.aO "out" fJ [] E0 (ao 0) (av (bY (cY K) (ao 1) (tC (.int 1))) (av (bY (cY K) (ao 1) (tC (.int 0))) aY))) (bj 4))
 (bU (dg (l5 (Iq K) (av (jq 1 [] (md K (ao 4)) (bj 0) tP (l5 (ma K) (av (bY (cY K) (ao 0) (tC (.int 2))) aY))) aY)) (bj 5))
 (BE K C A fJ bw bV))
def IR (K:aa) (C:ag) (A:CA) (dv bF bw a8 cT cg cu cU bV cw cq bN:Sp):TS :=
 qL (vP (av (l5 (ma K) (av (ao 5) aY)) aY)) (bj 10)
 (bU (dg (fc A.aO "ties" cu [] E0 (ao 6) aY) (bj 11))
 (bU (ja (qU K (ao 1))
 (bU (dg (bY (cY K) (ao 11) (bY (rI (λ_ j=>0<j) λi j=>.int (i%j)) (ao 9) (l5 (ma K) (av (ao 11) aY)))) (bj 12))
 (dg (bY (rI kX λi j=>.int (i/j)) (ao 9) (l5 (ma K) (av (ao 11) aY))) (bj 9)))
 (dg (cR cw [] E0 (av (bY dE (cR a8 [] E0 (av (ao 0) (av (bY dE (tC (.int 1)) (bY (rI (λ_ j=>0<j) λi j=>.int (i%j)) (ao 10) (l5 EH (av (tC (.int 1)) (av (l5 (ma K) (av (ao 0) aY)) aY))))) aY))) (ao 10)) (av (ao 10) (av (ao 11) aY)))) (bj 12)))
 (bU (dg (cR cU [] E0 (av (ao 6) (av (ao 12) (av (ao 7) (av (ao 4) aY))))) (bj 7))
 (bU (ja (tB (RM (ao 7)))
 (fg (tC (.bl false)))
 fT)
 (Kj 8 (l5 Ui (av (bY (cY K) (ao 12) (tC (.int 3))) aY)) (nA λi j=>.int (i+j)))))))
abbrev Qt (K:aa) (C:ag) (A:CA) (dv bF bw a8 cT cg cu cU bV cw cq bN:Sp):TS :=
  bU (IR K C A dv bF bw a8 cT cg cu cU bV cw cq bN)
  (bU (ja (LQ (cX (bY (Qc K) (fc A.aO "ties" cu [] E0 (ao 6) aY) (u7 aY))) (LQ (Hs (qU K (cR cq [] E0 (av (fc A.aO "weight" bN [] E0 (ao 6) aY) aY)))) (cX (bY (zD K) (fc A.aO "weight" bN [] E0 (ao 6) aY) (tC (.int 0))))))
   (fg (tC (.bl false)))
   fT)
  (fg (qI (bY (jG K) (bY (cY K) (ao 7) (tC (.int 4))) (tC (.int 0))) (qI (bY (jG K) (bY dE (bY (cY K) (ao 7) (tC (.int 2))) (bY (cY K) (ao 7) (tC (.int 3)))) (bY (rI xt λi j=>.int (i*j)) (l5 (ma K) (av (ao 5) aY)) (ao 4))) (bY (nA λi j=>.bl (decide (i<=j))) (bY (cY K) (ao 7) (tC (.int 1))) (bY dE (bY (cY K) (ao 7) (tC (.int 2))) (ao 8)))))))
abbrev Qu (K:aa) (C:ag) (A:CA) (dv bF bw a8 cT cg cu cU bV cw cq bN:Sp):TS :=
 bU (dg (tC (.int 0)) (bj 8))
 (bU (dg (cR a8 [] E0 (av (ao 0) (av (tC (.int 4)) aY))) (bj 9))
 (Qt K C A dv bF bw a8 cT cg cu cU bV cw cq bN))
abbrev Qv (K:aa) (C:ag) (A:CA) (dv bF bw a8 cT cg cu cU bV cw cq bN:Sp):TS :=
  bU (dg (fc A.aO "account" bw [] E0 (ao 6) aY) (bj 7))
  (bU (ja (LQ (Hs (qU K (cR bV [] E0 (av (ao 7) aY)))) (cX (bY (zD K) (ao 7) (lh (av (l5 (ma K) (av (ao 5) aY)) (av (tC (.int 0)) (av (tC (.int 0)) (av (tC (.int 0)) (av (bY (rI xt λi j=>.int (i*j)) (l5 (ma K) (av (ao 5) aY)) (ao 4)) aY)))))))))
   (fg (tC (.bl false)))
   fT)
  (Qu K C A dv bF bw a8 cT cg cu cU bV cw cq bN))
abbrev Qw (K:aa) (C:ag) (A:CA) (dv bF bw a8 cT cg cu cU bV cw cq bN:Sp):TS :=
  bU (ja (qU K (ao 1))
   (dg (cR cT [] E0 (av (ao 0) (av (ao 3) aY))) (bj 5))
   (dg (cR cg [] E0 (av (ao 0) (av (bY (rI kX λi j=>.int (i/j)) (ao 2) (tC (.int 23))) (av (ao 3) aY)))) (bj 5)))
  (bU (dg (HF A.aO bF [] E0 (av (ao 3) (av (l5 (XO K) (av (ao 5) aY)) aY))) (bj 6))
  (Qv K C A dv bF bw a8 cT cg cu cU bV cw cq bN))
abbrev Qx (K:aa) (C:ag) (A:CA) (dv bF bw a8 cT cg cu cU bV cw cq bN:Sp):TS :=
 bU (dg (bY dE (tC (.int 2)) (bY (rI (λ_ j=>0<j) λi j=>.int (i%j)) (ao 2) (tC (.int 23)))) (bj 3))
 (bU (dg (cR dv [] E0 (av (ao 3) aY)) (bj 4))
 (Qw K C A dv bF bw a8 cT cg cu cU bV cw cq bN))
def Qy (K:aa) (C:ag) (A:CA) (dv bF bw a8 cT cg cu cU bV cw cq bN:Sp):TS :=
 bU (dg (bY (jG K) (bY (rI (λ_ j=>0<j) λi j=>.int (i%j)) (cR a8 [] E0 (av (ao 0) (av (tC (.int 0)) aY))) (tC (.int 2))) (tC (.int 0))) (bj 1))
 (bU (dg (bY (rI kX λi j=>.int (i/j)) (cR a8 [] E0 (av (ao 0) (av (tC (.int 0)) aY))) (tC (.int 2))) (bj 2))
 (Qx K C A dv bF bw a8 cT cg cu cU bV cw cq bN))
def oX (K:aa) (C:ag):TS :=
 bU (tN K (ao 0) (ao 1) "n")
 (tN K (ao 0) (jq 1 [] (vP (av (ao 1) aY)) (bj 0) tP (u7 (av (ao 0) aY))) "rows")
def rJ (K:aa) (C:ag):TS :=
 qL (md K (ao 1)) (bj 2)
 (dg (ao 1) (Hv (eG K (ao 0) "rows") (ao 2) yP))
def wG (K:aa) (C:ag):TS :=
 rJ K C
def wH (K:aa) (C:ag) (bZ d8 fv m9:Sp):TS :=
 bU (fq (cR bZ [] E0 (av (eG K (ao 0) "n") (av (ao 1) (av (ao 2) aY)))))
 (bU (ja (qU K (fc C "joined" d8 [] E0 (ao 0) (av (ao 1) (av (ao 2) aY))))
 qK
 fT)
 (fq (fc C "keep" fv [] E0 (ao 0) (av (cR m9 [] E0 (av (bY (cY K) (eG K (ao 0) "rows") (ao 1)) (av (bY (cY K) (eG K (ao 0) "rows") (ao 2)) (av (ao 1) (av (ao 2) aY))))) aY))))
def ux (K:aa) (C:ag) (bZ lu cP fv:Sp):TS :=
 qL (md K (cR lu [] E0 (av (bY (cY K) (eG K (ao 0) "rows") (ao 1)) (av (ao 1) (av (ao 2) aY))))) (bj 3)
 (fq (fc C "keep" fv [] E0 (ao 0) (av (ao 3) aY)))
def y8 (K:aa) (C:ag) (bZ lu cP fv:Sp):TS :=
 bU (fq (cR bZ [] E0 (av (eG K (ao 0) "n") (av (ao 1) (av (ao 2) aY)))))
 (bU (ja (cX (bY (AV K true) (lh (av (ao 1) (av (ao 2) aY))) (cR cP [] E0 (av (bY (cY K) (eG K (ao 0) "rows") (ao 1)) aY))))
 qK
 fT)
 (ux K C bZ lu cP fv))
def rK (K:aa) (C:ag) (du:Sp):TS :=
 bU (fq (cR du [] E0 (av (eG K (ao 0) "n") (av (ao 1) (av (ao 2) aY)))))
 (fg (bY (jG K) (bY (cY K) (bY (cY K) (eG K (ao 0) "rows") (ao 1)) (tC (.int 0))) (bY (cY K) (bY (cY K) (eG K (ao 0) "rows") (ao 2)) (tC (.int 0)))))
def uz (K:aa) (C:ag) (cD:Sp):TS :=
 bU (fq (cR cD [] E0 (av (eG K (ao 0) "n") (av (ao 1) aY))))
 (fg (x8 K (av (bY (cY K) (eG K (ao 0) "rows") (ao 1)) aY)))
def wI (K:aa) (C:ag) (cD:Sp):TS :=
 bU (fq (cR cD [] E0 (av (eG K (ao 0) "n") (av (ao 1) aY))))
 (fg (bY (rI kX λi j=>.int (i/j)) (bY dE (l5 (ma K) (av (bY (cY K) (eG K (ao 0) "rows") (ao 1)) aY)) (tC (.int 1))) (tC (.int 2))))
def rL (K:aa) (C:ag) (cP:Sp):TS :=
 qL (PD K (av (eG K (ao 0) "rows") aY)) (Ft K 2 (jN (bj 2) (jN (bj 3) Hu)))
 (ja (cX (bY (jG K) (bY (cY K) (ao 3) (tC (.int 0))) (ao 2)))
 (fq (CP K "list" FG (ao 1) (av (jq 2 [] (md K (cR cP [] E0 (av (ao 3) aY))) (Ft K 2 (jN (bj 0) (jN (bj 1) Hu))) (cX (bY (nA λi j=>.bl (decide (i<j))) (ao 0) (ao 1))) (lh (av (ao 0) (av (ao 1) aY)))) aY)))
 fT)
def wJ (K:aa) (C:ag) (cP:Sp):TS :=
 bU (dg (u7 aY) (bj 1))
 (bU (rL K C cP)
 (fg (l5 (oN K) (av (ao 1) aY))))
abbrev rM (K:aa) (C:ag) (A:CA) (fu pR:Sp):TS :=
 bU (tN K (ao 0) xY "weight_of")
 (tN K (ao 0) (jq 1 [1] (vP (av (bY dE (cR pR [] E0 (av (ao 1) aY)) (tC (.int 1))) aY)) (bj 0) tP (HF C fu [] E0 (av (ao 1) aY))) "woods")
def nc (K:aa) (C:ag) (A:CA) (fu pR:Sp):TS :=
 bU (tN K (ao 0) xY "level_of")
 (bU (tN K (ao 0) xY "wooden")
 (rM K C A fu pR))
abbrev zI (K:aa) (C:ag) (A:CA) (d8 cn:Sp):TS :=
  bU (dg (ao 2) (Hv (eG K (ao 0) "weight_of") (ao 1) yP))
  (bU (ja (Hs (qU K (fc C "joined" d8 [] E0 (bY (cY K) (eG K (ao 0) "woods") (tC (.int 0))) (av (bY (cY K) (ao 1) (tC (.int 0))) (av (bY (cY K) (ao 1) (tC (.int 1))) aY)))))
   (fq (fc A.bJ "adopt" cn [] E0 (ao 0) (av (ao 1) aY)))
   fT)
  (fg (bY (cY K) (eG K (ao 0) "wooden") (ao 1))))
def uA (K:aa) (C:ag) (A:CA) (d8 cn:Sp):TS :=
 bU (dg (tC (.int 0)) (Hv (eG K (ao 0) "level_of") (ao 1) yP))
 (bU (dg (tC (.bl false)) (Hv (eG K (ao 0) "wooden") (ao 1) yP))
 (zI K C A d8 cn))
def kx (K:aa) (C:ag) (A:CA) (fw:Sp):TS :=
 qL (md K (J2 (pM K) (eG K (ao 0) "woods") jd (kW (bY dE (bY (cY K) (eG K (ao 0) "level_of") (ao 1)) (tC (.int 1)))))) (bj 2)
 (fq (fc C "link" fw [] E0 (ao 2) (av (bY (cY K) (ao 1) (tC (.int 0))) (av (bY (cY K) (ao 1) (tC (.int 1))) aY))))
def qm (K:aa) (C:ag) (A:CA) (fw:Sp):TS :=
 bU (dg (tC (.bl true)) (Hv (eG K (ao 0) "wooden") (ao 1) yP))
 (kx K C A fw)
def rN (K:aa) (C:ag) (A:CA) (fw:Sp):TS :=
 bU (Uc (eG K (ao 0) "level_of") (ao 1) (tC (.int 1)) Nb)
 (ja (qU K (bY (cY K) (eG K (ao 0) "wooden") (ao 1)))
 (fq (fc C "link" fw [] E0 (bY (cY K) (eG K (ao 0) "woods") (bY (cY K) (eG K (ao 0) "level_of") (ao 1))) (av (bY (cY K) (ao 1) (tC (.int 0))) (av (bY (cY K) (ao 1) (tC (.int 1))) aY))))
 fT)
def oY (K:aa) (C:ag) (A:CA) (jv:Sp):TS :=
 qL (md K (J2 (pM K) (eG K (ao 0) "woods") jd (kW (bY dE (ao 2) (tC (.int 1)))))) (bj 3)
 (fq (fc C "cut" jv [] E0 (ao 3) (av (bY (cY K) (ao 1) (tC (.int 0))) (av (bY (cY K) (ao 1) (tC (.int 1))) aY))))
def rO (K:aa) (C:ag) (A:CA) (jv:Sp):TS :=
 bU (fq (CP K "dict" Mg (eG K (ao 0) "weight_of") (av (ao 1) aY)))
 (bU (dg (CP K "dict" Mg (eG K (ao 0) "level_of") (av (ao 1) aY)) (bj 2))
 (ja (qU K (CP K "dict" Mg (eG K (ao 0) "wooden") (av (ao 1) aY)))
 (oY K C A jv)
 fT))
def nh (K:aa) (C:ag) (A:CA) (fe:Sp):TS :=
 bU (dg (jq 1 [1,0] (Zo (eG K (ao 0) "level_of")) (bj 0) (cX (bY (jG K) (bY (cY K) (eG K (ao 2) "level_of") (ao 0)) (ao 1))) (ao 0)) (bj 3))
 (fg (cR fe [] E0 (av (jq 1 [2,0] (md K (ao 3)) (bj 0) (cX (bY (jG K) (bY (cY K) (eG K (ao 2) "wooden") (ao 0)) (ao 1))) (ao 0)) (av (eG K (ao 0) "weight_of") aY))))
def rP (K:aa) (C:ag) (A:CA):TS :=
 fg (lh (av (bY (cY K) (ao 1) (tC (.int 0))) (av (bY (cY K) (ao 1) (tC (.int 1))) (av (bY (cY K) (eG K (ao 0) "level_of") (ao 1)) (av (bY (cY K) (eG K (ao 0) "wooden") (ao 1)) aY)))))
def kZ (K:aa) (C:ag) (A:CA) (jO jB:Sp):TS :=
 bU (dg (bY (cY K) (eG K (ao 0) "woods") (ao 1)) (bj 3))
 (fg (fc C "group" jO [] E0 (ao 3) (av (W5 (cX (bY (nA λi j=>.bl (decide (i<=j))) (fc C "size" jB [] E0 (ao 3) (av (bY (cY K) (ao 2) (tC (.int 0))) aY)) (fc C "size" jB [] E0 (ao 3) (av (bY (cY K) (ao 2) (tC (.int 1))) aY)))) (bY (cY K) (ao 2) (tC (.int 0))) (bY (cY K) (ao 2) (tC (.int 1)))) aY)))
def oZ (K:aa) (C:ag) (A:CA) (cj cE dh di cn:Sp):TS :=
 qL (md K (ao 4)) (bj 5)
 (fq (fc A.bJ "lift" dh [] E0 (ao 0) (av (ao 5) aY)))
def o8 (K:aa) (C:ag) (A:CA) (cj cE dh di cn:Sp):TS :=
 qL (md K (fc A.bJ "at_level" cE [] E0 (ao 0) (av (ao 1) (av (tC (.bl false)) aY)))) (bj 5)
 (bU (dg (cR di [] E0 (av (ao 5) (av (ao 3) aY))) (bj 6))
 (bU (ja (cX (bY (jG K) (ao 6) (tC (.int 1))))
 (bU (fq (fc A.bJ "adopt" cn [] E0 (ao 0) (av (ao 5) aY)))
 (fg (lh (av (ao 1) (av (ao 3) (av (l5 (oN K) (av (ao 4) aY)) (av (ao 5) aY)))))))
 fT)
 (ja (cX (bY (jG K) (ao 6) (tC (.int 2))))
 (bU (fq (fc A.bJ "lift" dh [] E0 (ao 0) (av (ao 5) aY)))
 (fq (CP K "list" jz (ao 4) (av (ao 5) aY))))
 fT)))
abbrev ye (K:aa) (C:ag) (A:CA) (cj cE dh di cn:Sp):TS :=
 bU (oZ K C A cj cE dh di cn)
 (bU (o8 K C A cj cE dh di cn)
 (fg (lh (av (ao 1) (av (ao 3) (av (l5 (oN K) (av (ao 4) aY)) (av (tC .non) aY)))))))
def rQ (K:aa) (C:ag) (A:CA) (cj cE dh di cn:Sp):TS :=
 bU (dg (fc A.bJ "lesser_side" cj [] E0 (ao 0) (av (ao 1) (av (ao 2) aY))) (bj 3))
 (bU (dg (jq 1 [3] (md K (fc A.bJ "at_level" cE [] E0 (ao 0) (av (ao 1) (av (tC (.bl true)) aY)))) (bj 0) (cX (bY (jG K) (cR di [] E0 (av (ao 0) (av (ao 1) aY))) (tC (.int 2)))) (ao 0)) (bj 4))
 (ye K C A cj cE dh di cn))
def o9 (K:aa) (C:ag) (A:CA) (dJ dM:Sp):TS :=
 AG (xR (qU K (ao 3)) (cX (bY (nA λi j=>.bl (decide (j<=i))) (ao 2) (tC (.int 0)))))
 (bU (fq (CP K "list" jz (ao 4) (av (fc A.bJ "look" dM [] E0 (ao 0) (av (ao 2) (av (ao 1) aY))) aY)))
 (bU (dg (RM (bY (cY K) (bY (cY K) (ao 4) (Zm (rU λi=>.int (-i)) (tC (.int 1)))) (tC (.int 3)))) (bj 3))
 (Kj 2 (tC (.int 1)) (nA λi j=>.int (i-j)))))
abbrev yf (K:aa) (C:ag) (A:CA) (dJ dM:Sp):TS :=
 bU (o9 K C A dJ dM)
 (fg (ao 4))
abbrev yg (K:aa) (C:ag) (A:CA) (dJ dM:Sp):TS :=
 bU (fq (fc A.bJ "drop" dJ [] E0 (ao 0) (av (ao 1) aY)))
 (bU (dg (u7 aY) (bj 4))
 (yf K C A dJ dM))
def rR (K:aa) (C:ag) (A:CA) (dJ dM:Sp):TS :=
 bU (dg (bY (cY K) (eG K (ao 0) "level_of") (ao 1)) (bj 2))
 (bU (dg (bY (cY K) (eG K (ao 0) "wooden") (ao 1)) (bj 3))
 (yg K C A dJ dM))
abbrev vj (K:aa) (C:ag) (A:CA) (cQ fM:Sp):TS :=
 bU (tN K (ao 0) (tC (.int 0)) "risen")
 (tN K (ao 0) (tC (.int 0)) "lost")
abbrev vk (K:aa) (C:ag) (A:CA) (cQ fM:Sp):TS :=
 bU (tN K (ao 0) (tC (.int 0)) "came")
 (bU (tN K (ao 0) (tC (.int 0)) "looked")
 (vj K C A cQ fM))
abbrev vm (K:aa) (C:ag) (A:CA) (cQ fM:Sp):TS :=
 bU (tN K (ao 0) (HF A.bJ cQ [] E0 (av (ao 1) aY)) "levels")
 (bU (tN K (ao 0) (bY (cY K) (eG K (eG K (ao 0) "levels") "woods") (tC (.int 0))) "wood")
 (vk K C A cQ fM))
def pe (K:aa) (C:ag) (A:CA) (cQ fM:Sp):TS :=
 bU (ja (Hs (qU K (cR fM [] E0 (av (ao 1) aY))))
 qK
 fT)
 (bU (tN K (ao 0) (ao 1) "n")
 (vm K C A cQ fM))
def qo (K:aa) (C:ag) (A:CA) (jP:Sp):TS :=
 bU (tj K (ao 0) (tC (.int 1)) Nb "came")
 (fg (fc A.bJ "add" jP [] E0 (eG K (ao 0) "levels") (av (ao 1) (av (ao 2) aY))))
abbrev Dj (K:aa) (C:ag) (A:CA) (eh hJ eW ky iC dj:Sp):TS :=
 bU (tj K (ao 0) (cR iC [] E0 (av (ao 4) aY)) Nb "risen")
 (fg (ao 4))
abbrev Dk (K:aa) (C:ag) (A:CA) (eh hJ eW ky iC dj:Sp):TS :=
 bU (dg (fc A.bJ "take" eW [] E0 (eG K (ao 0) "levels") (av (ao 3) aY)) (bj 4))
 (bU (tj K (ao 0) (cR ky [] E0 (av (ao 4) aY)) Nb "looked")
 (Dj K C A eh hJ eW ky iC dj))
def y9 (K:aa) (C:ag) (A:CA) (eh hJ eW ky iC dj:Sp):TS :=
 bU (dg (cR eh [] E0 (av (eG K (ao 0) "n") (av (eG K (eG K (ao 0) "levels") "level_of") (av (ao 1) (av (ao 2) aY))))) (bj 3))
 (bU (tj K (ao 0) (cR hJ [] E0 (av (eG K (ao 0) "n") (av (u7 (av (fc A.bJ "told" dj [] E0 (eG K (ao 0) "levels") (av (ao 3) aY)) aY)) aY))) Nb "lost")
 (Dk K C A eh hJ eW ky iC dj))
def wK (K:aa) (C:ag) (A:CA) (dj:Sp):TS :=
 fg (l5 (oN K) (av (jq 1 [0] (Zo (eG K (eG K (ao 0) "levels") "level_of")) (bj 0) tP (fc A.bJ "told" dj [] E0 (eG K (ao 1) "levels") (av (ao 0) aY))) aY))
def qp (K:aa) (C:ag) (A:CA) (hJ cu:Sp):TS :=
 fg (lh (av (eG K (ao 0) "came") (av (eG K (ao 0) "looked") (av (eG K (ao 0) "risen") (av (eG K (ao 0) "lost") (av (cR hJ [] E0 (av (eG K (ao 0) "n") (av (fc A.aO "ties" cu [] E0 (ao 0) aY) aY))) aY))))))
def kA (K:aa) (C:ag) (A:CA) (dr fe iM eC:Sp):TS :=
 qL (md K (ao 2)) (Ft K 3 (jN (bj 4) (jN (bj 5) (jN (bj 6) Hu))))
 (bU (dg (cR iM [] E0 (av (ao 1) (av (ao 3) (av (ao 4) (av (ao 5) aY))))) (bj 7))
 (dg (ao 6) (Hv (ao 3) (ao 7) yP)))
def kB (K:aa) (C:ag) (A:CA) (dr fe iM eC:Sp):TS :=
 qL (md K (cR fe [] E0 (av (ao 3) (av (ao 3) aY)))) (bj 7)
 (fq (fc A.aO "receive" eC [] E0 (ao 0) (av (ao 7) (av (bY (cY K) (ao 3) (ao 7)) aY))))
def lV (K:aa) (C:ag) (A:CA) (dr fe iM eC:Sp):TS :=
 bU (fq (cR dr [] E0 (av (ao 0) (av (ao 1) aY))))
 (bU (dg xY (bj 3))
 (bU (kA K C A dr fe iM eC)
 (kB K C A dr fe iM eC)))
def nj (K:aa) (C:ag) (A:CA) (kC:Sp):TS :=
 fg (l5 (Iq K) (av (jq 1 [0] (md K (fc C "ties" kC [] E0 (eG K (ao 0) "wood") aY)) (bj 0) tP (bY (cY K) (eG K (eG K (ao 1) "levels") "weight_of") (ao 0))) aY))
end K64
section
open PySem PySem.Spec PyProof.Rows L2
local macro_rules | `(tactic| walk_at "c")=>`(tactic| first|(show (0:Int)<_;lia)|exact ⟨by lia,by lia⟩|exact Or.inl ⟨by lia,by lia⟩|exact Or.inr ⟨by lia,by lia⟩|exact ⟨by lia,by lia,by lia⟩)
local macro_rules | `(tactic| k_ne)=>`(tactic| first|(with_reducible first|refine HU ?_|refine XB ?_|refine L9 ?_|refine VF ?_)|((with_reducible refine' Ue ?hv ?_);(case hv=>exact rfl))|(with_reducible first|refine x_c ?_|refine ZZ ?_|refine XC ?_|refine VG ?_|refine VH ?_|refine XD ?_|refine Z7 ?_|refine VI ?_|refine x_tB ?_|refine XS ?_|refine VU ?_|refine XE ?_|refine Z8 ?_|refine XF ?_|refine VJ ?_|refine x_orV ?_|refine VL ?_|refine XQ ?_|refine XG ?_|refine O7 ?_|refine VM ?_|refine XH ?_|refine XI ?_|refine VN ?_|refine Z9 ?_|refine x_bm ?_|refine x_sl ?_|refine O8 ?_|refine VO ?_|refine XJ ?_)|((with_reducible refine x_rI ?hc ?_);(case hc=>walk_at "c"))|(with_reducible first|refine VP ?_|refine x_addHI ?_|refine XM ?_|refine XN ?_|refine VV ?_|refine XT ?_|refine VW ?_|refine VT ?_|refine XX ?_|refine XY ?_|refine Z0 ?_|refine x_rU ?_|refine Sq ?_|refine XR ?_|refine x_rev ?_|refine x_dnew ?_|refine Sr ?_|refine VX ?_)|((with_reducible refine' XU ?hv ?_);(case hv=>exact rfl))|with_reducible refine ⟨_,rfl,?_⟩)
local macro_rules | `(tactic| lk)=>`(tactic| (k_ne;repeat k_ne))
namespace K64
variable {K:aa}{C:ag}{A:CA}{Pt p dx l:ag}{H H':Hp}{n T:Nat}{ts:List Rm.Ti}{Q:VK}{R:Nat->Nat->List Int}{as:Nat->List ag}{us:List (Rm.Ti×ag)}{zs:List Zt}
open Rm
def CQ (t:Int×Int):PyData:=.tuple [.int t.1,.int t.2]
theorem E6:∀ {zs:List Zt},(∀ z∈zs,jH H z)->d9 K H ((zs.map zP).map CQ) (zs.map gH)
 | [],_=>.nil
 | z::zs,h=>.cons (.tup (.of (h z aw)) (.cons (.int _) (.cons (.int _) .nil))) (E6 λy hy=>h y (ai _ hy))
theorem F0 (hl:H l=some (.lst (zs.map gH))) (h:∀ z∈zs,jH H z):Rep K H (.list ((zs.map zP).map CQ)) (.ref l):=.lst (cL.of hl) (E6 h)
theorem ph:∀ L:List (Int×Int),jt (L.map CQ)=true
 | []=>rfl
 | t::ts=>by simp only [aW,jt,jU];exact ⟨by simp [CQ,kj,jt],ph ts⟩
theorem IS:∀ L:List (Int×Int),ft (L.map CQ)<=2
 | []=>by simp [ft]
 | t::ts=>by
  have:=IS ts;simp only [aW,ft]
  have e:(CQ t).depth<=2:=by simp [CQ,lb,ft]
  lia
theorem An (L:List (Int×Int)):vX (.list (L.map CQ)):=⟨oK _ (by simp only [kj];exact ph L),by have:=IS L;simp only [lb];lia⟩
theorem BF (h:∀ z∈zs,jH H z) (S:bQ H H'):∀ z∈zs,jH H' z:=λz hz=>S _ _ (h z hz)
theorem BG (t u:Int×Int):d7 (CQ t) (CQ u)=decide (t=u):=by
 obtain ⟨a,b⟩:=t;obtain ⟨c,d⟩:=u;rw [iz];simp [CQ,d7,PyData.eqvAll,vL]
theorem Ao (t:Int×Int):vX (CQ t):=⟨oK _ (by simp [CQ,kj,jt]),by simp [CQ,lb,ft]⟩
theorem F9 {a b:Int}(h:H p=some (.tup [.int a,.int b])):Rep K H (CQ (a,b)) (.ref p):=.tup (.of h) (.cons (.int _) (.cons (.int _) .nil))
theorem Wo {L:List (Int×Int)}{t u:Int×Int}:∀ {m:Nat},m<L.idxOf t->L[m]?=some u->u≠t:=by
 induction L with
 | nil=>intro m h e;simp at e
 | cons v L ih =>
  intro m h e
  by_cases q:v=t
  .subst q;simp at h
  .have hv:(v == t)=false:=by simpa using q
   rw [WZ,hv] at h
   cases m with
   | zero=>simp at e;subst e;exact q
   | succ m=>exact ih (m:=m) (by simpa using h) (by simpa using e)
theorem IT {a b:Int}(hl:H l=some (.lst (zs.map gH))) (hz:∀ z∈zs,jH H z) (hlen:zs.length<=100000) (hp:H p=some (.tup [.int a,.int b])) (hm:(a,b)∈zs.map zP)
  (k:Q (.int ((zs.map zP).idxOf (a,b):Nat)) H):pN K (.ref l) [.ref p] H Q:=by
 have hi:(zs.map zP).idxOf (a,b)<(zs.map zP).length:=fW.mpr hm;refine .inr ⟨l,.ref p,(zs.map zP).map CQ,CQ (a,b),(zs.map zP).idxOf (a,b),CQ (a,b),rfl,rfl,F0 hl hz,F9 hp,Ao _,gp _ (ph _),by rw [af,af];exact bq hlen,?_,by rw [BG];simp,λm e hm' em=>?_,k⟩
 .rw [aA,ay hi,zA];rfl
 .rw [aA] at em;obtain ⟨u,e1,e2⟩:=br.mp em;subst e2;rw [BG,decide_eq_false (Wo hm' e1)]
inductive cP (K:aa) (C:ag) (vs:List V) (H:Hp) (Q:VK) (E:XK):Prop
 | mk (p:ag) (r:List Int):vs=[.ref p]->cL K H p (r.map V.int)->r.length<=1000->(∀ l H' (zs:List Zt),bQ H H'->H l=none->H' l=some (.lst (zs.map gH))->(∀ z∈zs,jH H' z)->zs.map zP=al r->Q (.ref l) H')->cP K C vs H Q E
theorem zJ:Rn (cP K C) (rC K C) ["row"]:=by
 rintro vs H Q E ⟨p,r,rfl,hp,hl,k⟩;unfold rC;lk;refine V4 ?_;lk;refine vY (j:=1) hp rfl λq hq=>?_;generalize eu_:upd H q (.lst ((r.drop 1).map V.int))=H1;obtain ⟨S1,g1⟩:=km eu_ hq;lk;exact ⟨p,q,r,r.drop 1,rfl,S1.seq hp,cL.of g1,by lia,λl zs H2 S2 hl2 gl hz e=>k l H2 zs (S1.trans S2) (S1.free hl2) gl hz (by rw [e,KH])⟩
inductive lu (K:aa) (C:ag) (vs:List V) (H:Hp) (Q:VK) (E:XK):Prop
 | mk (p:ag) (r:List Int) (a b:Int):vs=[.ref p,.int a,.int b]->cL K H p (r.map V.int)->r.length<=1000->(a,b)∈al r->(b,a)∈al r->(∀ (t x y:ag) (H':Hp),bQ H H'->H t=none->H x=none->H y=none->x≠y->H' t=some (.tup [.ref x,.ref y])->H' x=some (.lst ((xI r a b).1.map V.int))->H' y=some (.lst ((xI r a b).2.map V.int))->Q (.ref t) H')->lu K C vs H Q E
theorem KW:Rn (lu K C) (E5 K C (cP K C)) UC:=by
 rintro vs H Q E ⟨p,r,a,b,rfl,hp,hl,hab,hba,k⟩;have hi:(al r).idxOf (a,b)<(al r).length:=fW.mpr hab;have hj:(al r).idxOf (b,a)<(al r).length:=fW.mpr hba;rw [KI] at hi hj;unfold E5;lk;refine ⟨p,r,rfl,hp,hl,λw H1 zs S1 hw gw hz ez=>?_⟩
 have hzl:zs.length<=1000:=by
  have:=congrArg eD ez;rw [af,KI] at this;lia
 lk;refine ⟨.inl ⟨rfl,_,cL.of gw⟩,?_⟩;lk;refine ⟨bq (m:=2) (ak 2),λt1 ht1=>?_⟩;generalize eu_:upd H1 t1 (.tup [.int a,.int b])=H2;obtain ⟨S2,g2⟩:=km eu_ ht1;lk;refine IT (S2 _ _ gw) (BF hz S2) (by lia) g2 (by rw [ez];exact hab) ?_;rw [ez];lk;refine ⟨.inl ⟨rfl,_,cL.of (S2 _ _ gw)⟩,?_⟩;lk;refine ⟨bq (m:=2) (ak 2),λt2 ht2=>?_⟩;generalize eu_:upd H2 t2 (.tup [.int b,.int a])=H3;obtain ⟨S3,g3⟩:=km eu_ ht2;have S13:=S2.trans S3;lk;refine IT (S13 _ _ gw) (BF hz S13) (by lia) g3 (by rw [ez];exact hba) ?_;rw [ez]
 have hpr:xI r a b=if (al r).idxOf (a,b)<(al r).idxOf (b,a) then (x9 r ((al r).idxOf (a,b)) ((al r).idxOf (b,a)),qZ r ((al r).idxOf (a,b)) ((al r).idxOf (b,a))) else (qZ r ((al r).idxOf (b,a)) ((al r).idxOf (a,b)),x9 r ((al r).idxOf (b,a)) ((al r).idxOf (a,b))):=rfl
 generalize (al r).idxOf (a,b)=i at hi hpr;generalize (al r).idxOf (b,a)=j at hj hpr;lk
 obtain ⟨u,v,eu,ev,huv⟩:∃ u v:Nat,(if (j:Int)<(i:Int) then (j:Int) else (i:Int))=(u:Int)/\(if (j:Int)>(i:Int) then (j:Int) else (i:Int))=(v:Int)/\((i<j/\u=i/\v=j)\/(¬ i<j/\u=j/\v=i)):=by
  by_cases c:i<j
  .exact ⟨i,j,by rw [if_neg (by lia)],by rw [if_pos (by lia)],.inl ⟨c,rfl,rfl⟩⟩
  .by_cases c2:j<i
   .exact ⟨j,i,by rw [if_pos (by lia)],by rw [if_neg (by lia)],.inr ⟨c,rfl,rfl⟩⟩
   .have:i=j:=by lia
    subst this;exact ⟨i,i,by rw [if_neg (by lia)],by rw [if_neg (by lia)],.inr ⟨c,rfl,rfl⟩⟩
 rw [eu,ev];have hS:=S1.trans S13;refine Mc (j:=u+1) (j':=v+1) (hS.seq hp) (by lia) (by lia) λy hy=>?_
 have hin:(r.drop (u+1)).take (v+1-(u+1))=qZ r u v:=by unfold qZ;rw [show v+1-(u+1)=v-u by lia]
 rw [hin];generalize eu_:upd H3 y (.lst ((qZ r u v).map V.int))=H4;obtain ⟨S4,g4⟩:=km eu_ hy;lk;refine Pi (j:=u+1) ((hS.trans S4).seq hp) (by lia) λq1 hq1=>?_;generalize eu_:upd H4 q1 (.lst ((r.take (u+1)).map V.int))=H5;obtain ⟨S5,g5⟩:=km eu_ hq1;lk;refine vY (j:=v+2) ((hS.trans (S4.trans S5)).seq hp) (by lia) λq2 hq2=>?_;generalize eu_:upd H5 q2 (.lst ((r.drop (v+2)).map V.int))=H6;obtain ⟨S6,g6⟩:=km eu_ hq2;refine FO (S6 _ _ g5) g6 (by rw [bS,cW];lia) λx hx=>?_;have S7:=bQ.cC (o:=.lst ((x9 r u v).map V.int)) hx;have g7:(upd H6 x (.lst ((x9 r u v).map V.int))) x=some (.lst ((x9 r u v).map V.int)):=aE
 show bj 9 (.ref x) _ (upd H6 x (.lst ((x9 r u v).map V.int))) _
 generalize upd H6 x (.lst ((x9 r u v).map V.int))=H7 at S7 g7;have S37:=S4.trans (S5.trans (S6.trans S7));have S47:=S5.trans (S6.trans S7);have nxy:x≠y:=Ne.symm (aQ (S6 _ _ (S5 _ _ g4)) hx);have hHx:H x=none:=(hS.trans (S4.trans (S5.trans S6))).free hx;have hHy:H y=none:=hS.free hy;lk
 rcases huv with ⟨c,rfl,rfl⟩|⟨c,rfl,rfl⟩
 .rw [if_pos c] at hpr;refine qC (λ_=>?_) λz=>absurd (by lia) z;lk;refine ⟨bq (m:=2) (ak 2),λt ht=>?_⟩;have S8:=bQ.cC (o:=.tup [.ref x,.ref y]) ht;exact k t x y _ ((hS.trans S37).trans S8) ((hS.trans S37).free ht) hHx hHy nxy aE (by rw [hpr];exact S8 _ _ g7) (by rw [hpr];exact S8 _ _ (S47 _ _ g4))
 .rw [if_neg c] at hpr;refine qC (λz=>absurd (by lia) c) λ_=>?_;lk;refine ⟨bq (m:=2) (ak 2),λt ht=>?_⟩;have S8:=bQ.cC (o:=.tup [.ref y,.ref x]) ht;exact k t y x _ ((hS.trans S37).trans S8) ((hS.trans S37).free ht) hHy hHx (Ne.symm nxy) aE (by rw [hpr];exact S8 _ _ (S47 _ _ g4)) (by rw [hpr];exact S8 _ _ g7)
inductive oV (K:aa) (C:ag) (vs:List V) (H:Hp) (Q:VK) (E:XK):Prop
 | mk (p:ag) (r:List Int) (a:Int):vs=[.ref p,.int a]->cL K H p (r.map V.int)->a∈r->r.length<=1000->(∀ l H',bQ H H'->H l=none->H' l=some (.lst ((tn r (r.idxOf a)).map V.int))->Q (.ref l) H')->oV K C vs H Q E
theorem KY:Rn (oV K C) (E4 K C) ["row","a","k"]:=by
 rintro vs H Q E ⟨p,r,a,rfl,hp,ha,hl,q⟩;unfold E4;lk;refine ⟨.inl ⟨rfl,_,hp⟩,?_⟩;lk;refine Mb hp ha ?_;lk;refine vY hp rfl λp1 h1=>?_;have S1:=bQ.cC (o:=.lst ((r.drop (r.idxOf a)).map V.int)) h1;lk;refine Mc (j:=1) (j':=r.idxOf a+1) (S1.seq hp) rfl (by lia) λp2 h2=>?_;have S2:=bQ.cC (o:=.lst (((r.drop 1).take (r.idxOf a+1-1)).map V.int)) h2;refine FO (S2 _ _ aE) aE ?_ λp3 h3=>?_
 .rw [cW,bS,cW];lia
 .have S3:=bQ.cC (o:=.lst (((r.drop (r.idxOf a))++((r.drop 1).take (r.idxOf a+1-1))).map V.int)) h3;have S:=(S1.trans S2).trans S3;exact q p3 _ S ((S1.trans S2).free h3) aE
inductive m9 (K:aa) (C:ag) (vs:List V) (H:Hp) (Q:VK) (E:XK):Prop
 | mk (p q:ag) (r1 r2:List Int) (a b:Int):vs=[.ref p,.ref q,.int a,.int b]->cL K H p (r1.map V.int)->cL K H q (r2.map V.int)->a∈r1->b∈r2->r1.length<=1000->r2.length<=1000->(∀ l H',bQ H H'->H l=none->H' l=some (.lst ((Be r1 r2 a b).map V.int))->Q (.ref l) H')->m9 K C vs H Q E
theorem IU:Rn (m9 K C) (BA K C (oV K C)) ["row","other","a","b","k"]:=by
 rintro vs H Q E ⟨p,q,r1,r2,a,b,rfl,hp,hq,ha,hb,hl1,hl2,k⟩;unfold BA;lk;refine ⟨.inl ⟨rfl,_,hp⟩,?_⟩;lk;refine Mb hp ha ?_;lk;refine Pi (j:=r1.idxOf a+1) hp (by lia) λp1 h1=>?_;generalize eu_:upd H p1 (.lst ((r1.take (r1.idxOf a+1)).map V.int))=H1;obtain ⟨S1,g1⟩:=km eu_ h1;lk;refine ⟨q,r2,b,rfl,S1.seq hq,hb,hl2,λt H2 S2 ht gt=>?_⟩;have hlt:(tn r2 (r2.idxOf b)).length=r2.length:=Qg (KG hb);refine FO (S2 _ _ g1) gt (by rw [bS];lia) λp3 h3=>?_;generalize eu_:upd H2 p3 (.lst ((r1.take (r1.idxOf a+1)++tn r2 (r2.idxOf b)).map V.int))=H3;obtain ⟨S3,g3⟩:=km eu_ h3;lk;have S13:=S1.trans (S2.trans S3);refine vY (j:=r1.idxOf a) (S13.seq hp) rfl λp4 h4=>?_;generalize eu_:upd H3 p4 (.lst ((r1.drop (r1.idxOf a)).map V.int))=H4;obtain ⟨S4,g4⟩:=km eu_ h4;refine FO (S4 _ _ g3) g4 (by rw [bg,bS,cW];lia) λp5 h5=>?_;have S5:=bQ.cC (o:=.lst ((r1.take (r1.idxOf a+1)++tn r2 (r2.idxOf b)++r1.drop (r1.idxOf a)).map V.int)) h5;refine k p5 _ ((S13.trans S4).trans S5) ((S13.trans S4).free h5) ?_;unfold Be;rw [← df];exact aE
def ju (K:aa) (C:ag):Sp:=λvs H Q _=>∃ i:Int,vs=[.int i]/\Q (.bl true) H
theorem Ga:Rn (ju K C) (yZ K C) yV:=by
 rintro vs H Q E ⟨i,rfl,k⟩;unfold yZ;lk;refine HV (.int i) Pc ?_;lk;refine mD ?_;lk;refine HV (.int i) Pd ?_;lk;exact k
inductive lU (K:aa) (C:ag) (vs:List V) (H:Hp) (Q:VK) (E:XK):Prop
 | mk (n i:Nat):vs=[.int n,.int i]->i<n->Q (.bl true) H->lU K C vs H Q E
theorem Gb:Rn (lU K C) (y4 K C (ju K C)) yT:=by
 rintro vs H Q E ⟨n,i,rfl,hi,k⟩;unfold y4;lk;refine ⟨i,rfl,?_⟩;refine ⟨true,rfl,?_⟩;refine mD ?_;lk;refine qC (λ_=>?_) λz=>absurd (show (0:Int)<=i by lia) z;lk;rw [decide_eq_true (show (i:Int)<n by lia)];exact k
inductive cD (K:aa) (C:ag) (vs:List V) (H:Hp) (Q:VK) (E:XK):Prop
 | mk (n i:Nat):vs=[.int n,.int i]->i<n->Q .non H->cD K C vs H Q E
theorem tR:Rn (cD K C) (m8 K C (lU K C)) yT:=by
 rintro vs H Q E ⟨n,i,rfl,hi,k⟩;unfold m8;lk;refine ⟨n,i,rfl,hi,?_⟩;refine ⟨true,rfl,?_⟩;refine mX ?_;lk;exact k
inductive du (K:aa) (C:ag) (vs:List V) (H:Hp) (Q:VK) (E:XK):Prop
 | mk (n i j:Nat):vs=[.int n,.int i,.int j]->i<n->j<n->Q .non H->du K C vs H Q E
theorem rS:Rn (du K C) (mx K C (cD K C)) yS:=by
 rintro vs H Q E ⟨n,i,j,rfl,hi,hj,k⟩;unfold mx;lk;refine ⟨n,i,rfl,hi,?_⟩;lk;refine ⟨n,j,rfl,hj,?_⟩;exact k
inductive bZ (K:aa) (C:ag) (vs:List V) (H:Hp) (Q:VK) (E:XK):Prop
 | mk (n i j:Nat):vs=[.int n,.int i,.int j]->i<n->j<n->i≠j->Q .non H->bZ K C vs H Q E
theorem vn:Rn (bZ K C) (nV K C (du K C)) yS:=by
 rintro vs H Q E ⟨n,i,j,rfl,hi,hj,hij,k⟩;unfold nV;lk;refine ⟨n,i,j,rfl,hi,hj,?_⟩;lk;refine qC (λz=>absurd (lp.mp z) (by lia)) λ_=>?_;lk;exact k
theorem lz {ta tv:TE}{f:bD}{D:tM}{Z:L2.St}(h:tv Z H λy H1=>ta Z H1 λx H2=>∃ a C dx fs,x=.ref a/\H2 a=some (.ins C dx fs)/\CU K C/\dA K C f/\fs.length<1000/\D.nx Z (upd H2 a (.ins C dx (dP f y fs)))):tN K ta tv f D Z H:=h
theorem kn:¬ (("n":bD)="rows"):=by decide +kernel
def Gc (n:Nat) (l:ag):List (bD×V):=dP "rows" (.ref l) (dP "n" (.int n) [])
theorem iD (n:Nat) (l:ag):(Gc n l).lookup ("rows":bD)=some (.ref l):=by unfold Gc;rw [e9,if_pos rfl]
theorem yh (n:Nat) (l:ag):(Gc n l).lookup ("n":bD)=some (.int n):=by unfold Gc;rw [e9,if_neg kn,e9,if_pos rfl]
theorem kD (n:Nat) (l:ag) {m:bD}(h1:¬ m="rows":=by decide +kernel) (h2:¬ m="n":=by decide +kernel):(Gc n l).lookup m=none:=by
 unfold Gc;rw [e9,if_neg h1,e9,if_neg h2];rfl
structure CT (K:aa) (C:ag):Prop where
 cl:CU K C
 n:dA K C "n"
 rows:dA K C "rows"
structure WA (C:ag) (H:Hp) (p dx l:ag) (n:Nat) (as:List ag) (R:Nat->List Int):Prop where
 ob:H p=some (.ins C dx (Gc n l))
 rl:H l=some (.lst (as.map V.ref))
 len:as.length=n
 at_:∀ i a,as[i]?=some a->H a=some (.lst ((R i).map V.int))
 ne:∀ a∈as,a≠l
theorem WA.get {as:List ag}{R:Nat->List Int}(W:WA C H p dx l n as R) {i:Nat}(hi:i<n):∃ a,as[i]?=some a/\H a=some (.lst ((R i).map V.int))/\a≠l:=by
 have h:i<as.length:=by rw [W.len];exact hi
 exact ⟨as[i],ay h,W.at_ i _ (ay h),W.ne _ (jV h)⟩
theorem WA.same {as:List ag}{R:Nat->List Int}(W:WA C H p dx l n as R) (S:bQ H H'):WA C H' p dx l n as R :=
 ⟨S _ _ W.ob,S _ _ W.rl,W.len,λi a h=>S _ _ (W.at_ i a h),W.ne⟩
inductive fu (K:aa) (C:ag) (vs:List V) (H:Hp) (Q:VK) (E:XK):Prop
 | mk (p dx:ag) (n:Nat):vs=[.ref p,.int n]->H p=some (.ins C dx [])->CT K C->n<=1000->(∀ (l:ag) (as:List ag) (H':Hp),WA C H' p dx l n as (λi=>[(i:Int)])->H l=none->bh p H H'->Q .non H')->fu K C vs H Q E
theorem wL:Rn (fu K C) (oX K C) yb:=by
 rintro vs H Q E ⟨p,dx,n,rfl,hp,ct,hn,k⟩;unfold oX;k_ne;refine lz ?_;lk;refine ⟨p,C,dx,[],rfl,hp,ct.cl,ct.n,by decide,?_⟩;dsimp only;refine lz ?_;lk;refine ⟨by lia,by lia,λacc hacc=>?_⟩
 have e0:((n:Int)).toNat=n:=by lia
 rw [e0]
 have hap:acc≠p:=λe=>by rw [e,aE] at hacc;cases hacc
 have hacc0:H acc=none:=by rw [aG hap] at hacc;exact hacc
 have g0:(upd H p (.ins C dx (dP "n" (.int n) []))) p=some (.ins C dx (dP "n" (.int n) [])):=aE;have B0:bh p H (upd H p (.ins C dx (dP "n" (.int n) []))):=bh.upd;generalize upd H p (.ins C dx (dP "n" (.int n) []))=H0 at hacc g0 B0;refine mE (n:=n) (λt ys H1=>∃ as:List ag,ys=as.map V.ref/\as.length=t/\H1 acc=some (.lst ys)/\bQ H0 H1/\∀ (i:Nat) a,as[i]?=some a->a≠acc/\H1 a=some (.lst ([(i:Int)].map V.int))) (λZ=>∃ o,Z=[o]) ⟨[],rfl,rfl,aE,bQ.cC hacc,λi a h=>by simp at h⟩ ⟨_,rfl⟩ ?_ ?_ ?_ ?_
 .rintro t ys H1 ⟨_,_,_,h,_⟩;exact h
 .rintro ys H1 ⟨as,rfl,hl,g1,S1,hA⟩;refine ⟨ak n,?_⟩;lk;refine ⟨p,C,dx,_,rfl,S1 _ _ g0,ct.cl,ct.rows,by show 1<1000;decide,?_⟩;have hb:bh p H1 (upd H1 p (.ins C dx (Gc n acc))):=bh.upd
  have nl:∀ {b:ag}{xs:List V},H1 b=some (.lst xs)->b≠p:=λe z=>by rw [z,S1 _ _ g0] at e;cases e
  refine k acc as _ ⟨aE,hb _ _ g1 hap,hl,λi a ha=>hb _ _ (hA i a ha).2 (nl (hA i a ha).2),λa ha=>?_⟩ hacc0 λb o e hne=>hb _ _ (S1 _ _ (B0 _ _ e hne)) hne;obtain ⟨i,hi⟩:=bC.mp ha;exact (hA i a hi).1
 .rintro t ys H1 ht _;exact ht
 .rintro t ys σ' H1 x H2 ht ⟨as,rfl,hl,g1,S1,hA⟩ ⟨o,rfl⟩ ⟨eH,ex⟩;subst eH ex;lk;refine mD ?_;lk;refine ⟨bq (m:=1) (ak 1),λq hq=>?_⟩;have T:=bQ.cC (o:=.lst [.int (0+(t:Int))]) hq
  have u:(upd H2 q (.lst [.int (0+(t:Int))])) q=some (.lst ([(t:Int)].map V.int)):=by rw [aE];simp
  generalize upd H2 q (.lst [.int (0+(t:Int))])=H3 at T u;have hqa:q≠acc:=Ne.symm (aQ g1 hq);refine ⟨T _ _ g1,eL (m:=10000) (by rw [af];lia),kI.mk' ht ⟨_,rfl⟩ ⟨as++[q],by simp,by simp [hl],aE,λb o e=>by rw [aG (aQ e hacc)];exact T _ _ (S1 _ _ e),λi a ha=>?_⟩⟩
  by_cases hi:i<as.length
  .rw [fA hi] at ha;obtain ⟨h1,h2⟩:=hA i a ha;exact ⟨h1,by rw [aG h1];exact T _ _ h2⟩
  .rw [dQ (by lia)] at ha
   have:i=as.length:=by
    have:=(aD.mp ha).1;simp at this;lia
   subst this;simp at ha;subst ha;rw [hl];exact ⟨hqa,by rw [aG hqa];exact u⟩
inductive fv (K:aa) (C:ag) (vs:List V) (H:Hp) (Q:VK) (E:XK):Prop
 | mk (p dx l q:ag) (n:Nat) (as:List ag) (s:List Int):vs=[.ref p,.ref q]->CT K C->H p=some (.ins C dx (Gc n l))->H l=some (.lst (as.map V.ref))->as.length=n->H q=some (.lst (s.map V.int))->q≠l->(∀ x∈s,∃ j:Nat,j<n/\x=(j:Int))->(∀ (as':List ag) H',as'.length=n->(∀ (i:Nat) (a:ag),as[i]?=some a->as'[i]?=some (if (i:Int)∈s then q else a))->H' l=some (.lst (as'.map V.ref))->bh l H H'->Q .non H')->fv K C vs H Q E
theorem Dl:Rn (fv K C) (wG K C) ["self","row","place"]:=by
 rintro vs H Q E ⟨p,dx,l,q,n,as,s,rfl,ct,hp,hl,hn,hq,hql,hs,k⟩;have hpl:p≠l:=gK hp hl;unfold wG rJ;lk
 refine .inl ⟨⟨_,cL.of hq⟩,lR (K:=K) (a:=q) (xs:=s.map V.int) (λi Z H1=>∃ (as':List ag) (o:Option V),Z=[some (.ref p),some (.ref q),o]/\as'.length=n/\(∀ (j:Nat) (a:ag),as[j]?=some a->as'[j]?=some (if (j:Int)∈s.take i then q else a))/\H1 l=some (.lst (as'.map V.ref))/\bh l H H1)
  ⟨as,_,rfl,hn,λj a h=>by simpa using h,hl,bh.refl _ _⟩ ?_ ?_ ?_⟩
 .rintro i Z H1 _ ⟨as',o,_,_,_,_,B⟩;exact cL.of (B _ _ hq hql)
 .rintro i x Z H1 hi ⟨as',o,rfl,hn',hA,g1,B⟩;rw [aA] at hi;obtain ⟨c,hc,ex⟩:=br.mp hi;have ex:x=V.int c:=ex.symm;subst ex;obtain ⟨j,hj,rfl⟩:=hs c (aN hc);k_go;refine ⟨p,C,dx,_,_,rfl,B _ _ hp hpl,ct.cl,ct.rows,iD _ _,?_⟩;lk;refine VR g1 (VZ (j:=j) rfl (by rw [af];lia)) ?_;refine ⟨as'.set j q,_,rfl,by simpa using hn',λk' a ha=>?_,?_,λb o' e hb=>by rw [aG hb];exact B _ _ e hb⟩
  .have e1:s.take (i+1)=s.take i++[(j:Int)]:=by rw [Xh,hc];rfl
   rw [e1]
   by_cases hk:k'=j
   .subst hk;rw [lL (by rw [hn',← hn];exact (aD.mp ha).1),if_pos (by simp)]
   .rw [vG (Ne.symm hk),hA k' a ha]
    have:((k':Int)∈s.take i++[(j:Int)])↔(k':Int)∈s.take i:=by
     simp only [aS,aC];exact ⟨λh=>h.elim id λe=>absurd (by lia) hk,.inl⟩
    by_cases c1:(k':Int)∈s.take i
    .rw [if_pos c1,if_pos (this.mpr c1)]
    .rw [if_neg c1,if_neg (λh=>c1 (this.mp h))]
  .rw [aE,List.map_set]
 .rintro Z H1 ⟨as',o,rfl,hn',hA,g1,B⟩;rw [af,Va] at hA;exact k as' H1 hn' hA g1 B
inductive d8 (K:aa) (C:ag) (vs:List V) (H:Hp) (Q:VK) (E:XK):Prop
 | mk (p dx l:ag) (n a b:Nat) (as:List ag) (R:Nat->List Int):vs=[.ref p,.int a,.int b]->CT K C->WA C H p dx l n as R->Wd n R->a<n->b<n->Q (.bl (decide ((b:Int)∈R a))) H->d8 K C vs H Q E
theorem zK:Rn (d8 K C) (rK K C (du K C)) zF:=by
 rintro vs H Q E ⟨p,dx,l,n,a,b,as,R,rfl,ct,W,D,ha,hb,k⟩;obtain ⟨ra,e1,e2,_⟩:=W.get ha;obtain ⟨rb,f1,f2,_⟩:=W.get hb
 have hd:∀ i,i<n->∃ x,(R i)[0]?=some x/\(R i).head?=some x:=λi hi=>by
  cases h:R i with
  | nil=>exact absurd h (D.r i hi).ne
  | cons x t=>exact ⟨x,rfl,rfl⟩
 obtain ⟨x,hx,hx'⟩:=hd a ha;obtain ⟨y,hy,hy'⟩:=hd b hb;have hj:=D.head ha hb;rw [hx',hy'] at hj;unfold rK;k_go;refine ⟨p,C,dx,_,_,rfl,W.ob,ct.cl,ct.n,yh _ _,?_⟩;lk;refine ⟨n,a,b,rfl,ha,hb,?_⟩;k_go;refine ⟨p,C,dx,_,_,rfl,W.ob,ct.cl,ct.rows,iD _ _,?_⟩;lk;refine j4 (cL.of W.rl) (eI (j:=a) rfl (by rw [aA,e1];rfl)) ?_;lk;refine A2 (cL.of e2) (j:=0) rfl hx ?_;k_go;refine ⟨p,C,dx,_,_,rfl,W.ob,ct.cl,ct.rows,iD _ _,?_⟩;lk;refine j4 (cL.of W.rl) (eI (j:=b) rfl (by rw [aA,f1];rfl)) ?_;lk;refine A2 (cL.of f2) (j:=0) rfl hy ?_;lk
 have e:decide (V.int x=V.int y)=decide ((b:Int)∈R a):=by
  rw [iz,decide_eq_true_iff,decide_eq_true_iff,lp,← hj];exact ⟨λh=>by rw [h],λh=>a7 h⟩
 rw [e];exact k
inductive fw (K:aa) (C:ag) (vs:List V) (H:Hp) (Q:VK) (E:XK):Prop
 | mk (p dx l:ag) (n a b:Nat) (as:List ag) (R:Nat->List Int):vs=[.ref p,.int a,.int b]->CT K C->WA C H p dx l n as R->Wd n R->n<=200->a<n->b<n->(b:Int)∉R a->(∀ (as':List ag) H',WA C H' p dx l n as' (lk R a b)->bh l H H'->Q .non H')->fw K C vs H Q E
theorem Dm:Rn (fw K C) (wH K C (bZ K C) (d8 K C) (fv K C) (m9 K C)) zF:=by
 rintro vs H Q E ⟨p,dx,l,n,a,b,as,R,rfl,ct,W,D,hn,ha,hb,hm,k⟩;obtain ⟨ra,e1,e2,_⟩:=W.get ha;obtain ⟨rb,f1,f2,_⟩:=W.get hb;have hla:=D.len ha;have hlb:=D.len hb;have hab:a≠b:=λe=>hm (e▸D.me a ha);obtain ⟨T2,D2,E2⟩:=D.link ha hb hm;unfold wH;k_go;refine ⟨p,C,dx,_,_,rfl,W.ob,ct.cl,ct.n,yh _ _,?_⟩;lk;refine ⟨n,a,b,rfl,ha,hb,hab,?_⟩;k_in;refine ⟨p,dx,_,rfl,W.ob,kD _ _,?_⟩;lk;refine ⟨p,dx,l,n,a,b,as,R,rfl,ct,W,D,ha,hb,?_⟩;refine ⟨_,rfl,?_⟩;refine qC (λz=>absurd z hm) λ_=>?_;k_in;refine ⟨p,dx,_,rfl,W.ob,kD _ _,?_⟩;k_go;refine ⟨p,C,dx,_,_,rfl,W.ob,ct.cl,ct.rows,iD _ _,?_⟩;lk;refine j4 (cL.of W.rl) (eI (j:=a) rfl (by rw [aA,e1];rfl)) ?_;k_go;refine ⟨p,C,dx,_,_,rfl,W.ob,ct.cl,ct.rows,iD _ _,?_⟩;lk;refine j4 (cL.of W.rl) (eI (j:=b) rfl (by rw [aA,f1];rfl)) ?_;lk;refine ⟨ra,rb,R a,R b,a,b,rfl,cL.of e2,cL.of f2,D.me a ha,D.me b hb,by lia,by lia,λq H1 S1 hq gq=>?_⟩;lk;have W1:=W.same S1;have hql:q≠l:=Ne.symm (aQ W.rl hq);refine ⟨p,dx,l,q,n,as,_,rfl,ct,W1.ob,W1.rl,W.len,gq,hql,λx hx=>?_,λas' H2 hl2 hA g2 B2=>?_⟩
 .rcases (T2.mem x).mp hx with h|h
  .obtain ⟨j,hj,e,_⟩:=D.J9 a ha x h;exact ⟨j,hj,e⟩
  .obtain ⟨j,hj,e,_⟩:=D.J9 b hb x h;exact ⟨j,hj,e⟩
 .have hpl:p≠l:=gK W.ob W.rl
  have hAt:∀ (i:Nat) (c:ag),as'[i]?=some c->∃ c0,as[i]?=some c0/\c=if (i:Int)∈Be (R a) (R b) a b then q else c0:=λi c hc=>by
   have hi:i<as.length:=by rw [W.len,← hl2];exact (aD.mp hc).1
   have:=hA i _ (ay hi);rw [hc] at this;exact ⟨_,ay hi,a7 this⟩
  refine k as' H2 ⟨B2 _ _ W1.ob hpl,g2,hl2,λi c hc=>?_,λc hc=>?_⟩ (λb' o e hne=>B2 _ _ (S1 _ _ e) hne)
  .obtain ⟨c0,h0,ec⟩:=hAt i c hc
   show H2 c=some (.lst ((if (i:Int)∈Be (R a) (R b) a b then Be (R a) (R b) a b else R i).map V.int))
   by_cases ci:(i:Int)∈Be (R a) (R b) a b
   .rw [if_pos ci] at ec ⊢;rw [ec];exact B2 _ _ gq hql
   .rw [if_neg ci] at ec ⊢;rw [ec];exact B2 _ _ (W1.at_ i c0 h0) (W.ne _ (aN h0))
  .obtain ⟨i,hi⟩:=bC.mp hc;obtain ⟨c0,h0,ec⟩:=hAt i c hi
   by_cases ci:(i:Int)∈Be (R a) (R b) a b
   .rw [if_pos ci] at ec;rw [ec];exact hql
   .rw [if_neg ci] at ec;rw [ec];exact W.ne _ (aN h0)
inductive jv (K:aa) (C:ag) (vs:List V) (H:Hp) (Q:VK) (E:XK):Prop
 | mk (p dx l:ag) (n a b:Nat) (as:List ag) (R:Nat->List Int):vs=[.ref p,.int a,.int b]->CT K C->WA C H p dx l n as R->Wd n R->n<=200->a<n->b<n->a≠b->Ed n R a b->(∀ (as':List ag) H',WA C H' p dx l n as' (Rm.ct R a b)->bh l H H'->Q .non H')->jv K C vs H Q E
theorem Gd:Rn (jv K C) (y8 K C (bZ K C) (lu K C) (cP K C) (fv K C)) ["self","a","b","row"]:=by
 rintro vs H Q E ⟨p,dx,l,n,a,b,as,R,rfl,ct,W,D,hn,ha,hb,hab,hE,k⟩;obtain ⟨ra,e1,e2,_⟩:=W.get ha;have hla:=D.len ha;have hm:=Ed.at D hE ha (D.me a ha);have hm':=(D.r a ha).sym _ _ hm;have P:=(D.r a ha).parted hm (by lia:(a:Int)≠b);have PM:=P.mem (D.r a ha);have hpl:p≠l:=gK W.ob W.rl;unfold y8;k_go;refine ⟨p,C,dx,_,_,rfl,W.ob,ct.cl,ct.n,yh _ _,?_⟩;lk;refine ⟨n,a,b,rfl,ha,hb,hab,?_⟩;lk;refine ⟨bq (m:=2) (ak 2),λt ht=>?_⟩;generalize eu_:upd H t (.tup [.int (a:Int),.int (b:Int)])=H1;obtain ⟨S1,g1⟩:=km eu_ ht;have W1:=W.same S1;k_go;refine ⟨p,C,dx,_,_,rfl,W1.ob,ct.cl,ct.rows,iD _ _,?_⟩;lk;refine j4 (cL.of W1.rl) (eI (j:=a) rfl (by rw [aA,e1];rfl)) ?_;lk;refine ⟨ra,R a,rfl,cL.of (S1 _ _ e2),by lia,λz H2 zs S2 hz gz pz ez=>?_⟩;refine AZ (F9 (S2 _ _ g1)) (F0 gz pz) (Ao _) (gp _ (ph _)) ?_
 have hin:(((zs.map zP).map CQ).any λe=>d7 e (CQ ((a:Int),(b:Int))))=true:=by
  rw [ez,M0,qE];exact ⟨_,hm,by simp [BG]⟩
 rw [hin];lk;refine mX ?_;have S12:=S1.trans S2;have W2:=W.same S12;lk;unfold ux;k_go;refine ⟨p,C,dx,_,_,rfl,W2.ob,ct.cl,ct.rows,iD _ _,?_⟩;lk;refine j4 (cL.of W2.rl) (eI (j:=a) rfl (by rw [aA,e1];rfl)) ?_;lk;refine ⟨ra,R a,a,b,rfl,cL.of (S12 _ _ e2),by lia,hm,hm',λu x y H3 S3 hu hx hy hxy gu gx gy=>?_⟩;have S13:=S12.trans S3;have W3:=W.same S13;have hxl:x≠l:=Ne.symm (aQ W2.rl hx);have hyl:y≠l:=Ne.symm (aQ W2.rl hy);have hul:u≠l:=Ne.symm (aQ W2.rl hu)
 have jin:∀ z,z∈R a->∃ j:Nat,j<n/\z=(j:Int):=λz hz=>let ⟨j,hj,e,_⟩:=D.J9 a ha z hz;⟨j,hj,e⟩
 have ectR:∀ i:Nat,Rm.ct R a b i=if (i:Int)∈(xI (R a) a b).2 then (xI (R a) a b).2 else if (i:Int)∈(xI (R a) a b).1 then (xI (R a) a b).1 else R i:=λ_=>rfl
 generalize (xI (R a) a b).1=X at P PM gx ectR;generalize (xI (R a) a b).2=Y at P PM gy ectR;lk
 refine .inr (.inl ⟨⟨_,ie.of gu⟩,RQ (K:=K) (a:=u) (xs:=[.ref x,.ref y]) (λi Z H4=>∃ (as1:List ag) (o:Option V),Z=[some (.ref p),some (.int (a:Int)),some (.int (b:Int)),o]/\as1.length=n/\H4 l=some (.lst (as1.map V.ref))/\bh l H3 H4 /\
  ∀ (j:Nat) (c:ag),as[j]?=some c->as1[j]?=some (if 2<=i/\(j:Int)∈Y then y else if 1<=i/\(j:Int)∈X then x else c)) ⟨as,_,rfl,W.len,W3.rl,bh.refl _ _,λj c h=>by rw [if_neg (λz=>by lia),if_neg (λz=>by lia)];exact h⟩ ?_ ?_ ?_⟩)
 .rintro i Z H4 _ ⟨_,_,_,_,_,B,_⟩;exact ie.of (B _ _ gu hul)
 .rintro i v Z H4 hi ⟨as1,o,rfl,hl1,g4,B,hA⟩
  obtain ⟨q,s,hql,gq,hs,ev,hif⟩:∃ (q:ag) (s:List Int),q≠l/\H3 q=some (.lst (s.map V.int))/\(∀ z∈s,∃ j:Nat,j<n/\z=(j:Int))/\v=.ref q/\(∀ (j:Nat) (c:ag),(if (j:Int)∈s then q else if 2<=i/\(j:Int)∈Y then y else if 1<=i/\(j:Int)∈X then x else c)=if 2<=i+1/\(j:Int)∈Y then y else if 1<=i+1/\(j:Int)∈X then x else c):=by
   rcases (show i=0\/i=1 by have:=(aD.mp hi).1;simp at this;lia) with rfl|rfl
   .refine ⟨x,X,hxl,gx,λz hz=>jin z ((PM z).mpr (.inl hz)),by simpa using hi.symm,λj c=>?_⟩
    by_cases c1:(j:Int)∈X<;>simp [c1]
   .refine ⟨y,Y,hyl,gy,λz hz=>jin z ((PM z).mpr (.inr hz)),by simpa using hi.symm,λj c=>?_⟩
    by_cases c2:(j:Int)∈Y<;>by_cases c1:(j:Int)∈X<;>simp [c1,c2]
  subst ev;k_in;refine ⟨p,dx,_,rfl,B _ _ W3.ob hpl,kD _ _,?_⟩;lk;refine ⟨p,dx,l,q,n,as1,s,rfl,ct,B _ _ W3.ob hpl,g4,hl1,B _ _ gq hql,hql,hs,λas2 H5 hl2 hA2 g5 B5=>?_⟩;refine ⟨as2,_,rfl,hl2,g5,λb' o' e hne=>B5 _ _ (B _ _ e hne) hne,λj c hc=>?_⟩;rw [hA2 j _ (hA j c hc),hif j c]
 .rintro Z H4 ⟨as2,o,rfl,hl2,g4,B,hA⟩
  have hAt:∀ (i:Nat) (c:ag),as2[i]?=some c->∃ c0,as[i]?=some c0/\c=if (i:Int)∈Y then y else if (i:Int)∈X then x else c0:=λi c hc=>by
   have hi:i<as.length:=by rw [W.len,← hl2];exact (aD.mp hc).1
   have:=hA i _ (ay hi);rw [hc] at this;refine ⟨_,ay hi,(a7 this).trans ?_⟩
   show (if 2<=2/\(i:Int)∈Y then y else if 1<=2/\(i:Int)∈X then x else as[i])=_
   simp
  refine k as2 H4 ⟨B _ _ W3.ob hpl,g4,hl2,λi c hc=>?_,λc hc=>?_⟩ (λb' o' e hne=>B _ _ (S13 _ _ e) hne)
  .obtain ⟨c0,h0,ec⟩:=hAt i c hc;rw [ectR]
   by_cases c2:(i:Int)∈Y
   .rw [if_pos c2] at ec ⊢;rw [ec];exact B _ _ gy hyl
   .rw [if_neg c2] at ec ⊢
    by_cases c1:(i:Int)∈X
    .rw [if_pos c1] at ec ⊢;rw [ec];exact B _ _ gx hxl
    .rw [if_neg c1] at ec ⊢;rw [ec];exact B _ _ (W3.at_ i c0 h0) (W.ne _ (aN h0))
  .obtain ⟨i,hi⟩:=bC.mp hc;obtain ⟨c0,h0,ec⟩:=hAt i c hi
   by_cases c2:(i:Int)∈Y
   .rw [if_pos c2] at ec;rw [ec];exact hyl
   .rw [if_neg c2] at ec
    by_cases c1:(i:Int)∈X
    .rw [if_pos c1] at ec;rw [ec];exact hxl
    .rw [if_neg c1] at ec;rw [ec];exact W.ne _ (aN h0)
inductive jO (K:aa) (C:ag) (vs:List V) (H:Hp) (Q:VK) (E:XK):Prop
 | mk (p dx l:ag) (n a:Nat) (as:List ag) (R:Nat->List Int):vs=[.ref p,.int a]->CT K C->WA C H p dx l n as R->Wd n R->(R a).length<=250->a<n->(∀ q (ks:List Int),H q=none->ks.Pairwise (· < ·)->(∀ x,x∈ks↔x∈R a)->Q (.ref q) (upd H q (.lst (ks.map V.int))))->jO K C vs H Q E
theorem BH:Rn (jO K C) (uz K C (cD K C)) yU:=by
 rintro vs H Q E ⟨p,dx,l,n,a,as,R,rfl,ct,W,D,hn,ha,k⟩;obtain ⟨ra,e1,e2,_⟩:=W.get ha;unfold uz;k_go;refine ⟨p,C,dx,_,_,rfl,W.ob,ct.cl,ct.n,yh _ _,?_⟩;lk;refine ⟨n,a,rfl,ha,?_⟩;lk;refine KE ?_;k_go;refine ⟨p,C,dx,_,_,rfl,W.ob,ct.cl,ct.rows,iD _ _,?_⟩;lk;refine j4 (cL.of W.rl) (eI (j:=a) rfl (by rw [aA,e1];rfl)) ?_;lk;refine ⟨ra,R a,rfl,cL.of e2,by lia,?_,λq ks hq h1 h2=>k q ks hq h1 h2⟩;obtain ⟨ds,d1,d2,d3⟩:=(D.r a ha).cnt;exact ⟨ds,by lia,λx hx=>(d2 x).mpr hx⟩
inductive jB (K:aa) (C:ag) (vs:List V) (H:Hp) (Q:VK) (E:XK):Prop
 | mk (p dx l:ag) (n a:Nat) (as:List ag) (R:Nat->List Int):vs=[.ref p,.int a]->CT K C->WA C H p dx l n as R->Wd n R->a<n->Q (.int ((((R a).length:Int)+1)/2)) H->jB K C vs H Q E
theorem Do:Rn (jB K C) (wI K C (cD K C)) yU:=by
 rintro vs H Q E ⟨p,dx,l,n,a,as,R,rfl,ct,W,D,ha,k⟩;obtain ⟨ra,e1,e2,_⟩:=W.get ha;unfold wI;k_go;refine ⟨p,C,dx,_,_,rfl,W.ob,ct.cl,ct.n,yh _ _,?_⟩;lk;refine ⟨n,a,rfl,ha,?_⟩;k_go;refine ⟨p,C,dx,_,_,rfl,W.ob,ct.cl,ct.rows,iD _ _,?_⟩;lk;refine j4 (cL.of W.rl) (eI (j:=a) rfl (by rw [aA,e1];rfl)) ?_;lk;refine FP (cL.of e2) ?_;lk;exact k
inductive fM (K:aa) (C:ag) (vs:List V) (H:Hp) (Q:VK) (E:XK):Prop
 | mk (n:Nat):vs=[.int n]->1<=n->n<=200->Q (.bl true) H->fM K C vs H Q E
theorem Ge:Rn (fM K C) (y3 K C (ju K C)) yV:=by
 rintro vs H Q E ⟨n,rfl,h1,h2,k⟩;unfold y3;lk;refine ⟨n,rfl,?_⟩;lk;refine mD ?_;lk;refine qC (λh=>?_) λh=>absurd (show (1:Int)<=n by lia) h;lk;rw [show decide ((n:Int)<=200)=true from decide_eq_true (by lia)];exact k
def Top (n:Int) (j:Nat):Prop:=(j=0\/2*(2:Int)^j<=n)/\n<4*(2:Int)^j
def pR (K:aa) (C:ag):Sp:=λvs H Q _=>∃ n:Int,vs=[.int n]/\∀ j:Nat,Top n j->Q (.int j) H
theorem BI (j:Nat):(0:Int)<2^j:=Int.pow_pos (by decide)
theorem SZ:Rn (pR K C) (Qs K C) ["n","level","needed"]:=by
 rintro vs H Q E ⟨n,rfl,k⟩;unfold Qs;lk;unfold IL;refine AY (λZ H'=>H'=H/\∃ j:Nat,Z=[some (.int n),some (.int j),some (.int (4*2^j))]/\(j=0\/2*(2:Int)^j<=n)) (λZ _=>match Z with|[_,_,some (.int p)]=>(n+1-p).toNat|_=>0) ⟨rfl,0,rfl,.inl rfl⟩ ?_;rintro Z H' ⟨rfl,j,rfl,hj⟩;have hp:=BI j;lk;refine qC (λh=>⟨_,Pb,?_⟩) λh=>?_
 .lk;refine ⟨⟨rfl,j+1,?_,.inr ?_⟩,?_⟩
  .have e:(4*2^j*2:Int)=4*2^(j+1):=by rw [l0];lia
   show [some (V.int n),some (V.int ((j:Int)+1)),some (V.int (4*2^j*2))]=_
   rw [e];rfl
  .rw [l0];lia
  .show (n+1-4*2^j*2).toNat<(n+1-4*2^j).toNat
   lia
 .lk;exact k j ⟨hj,by lia⟩
inductive j7 (K:aa) (C:ag) (vs:List V) (H:Hp) (Q:VK) (E:XK):Prop
 | mk (a b:Nat):vs=[.int a,.int b]->(∀ p,H p=none->Q (.ref p) (upd H p (.tup [.int (min a b:Nat),.int (max a b:Nat)])))->j7 K C vs H Q E
theorem KZ:Rn (j7 K C) (E1 K C) Bh:=by
 rintro vs H Q E ⟨a,b,rfl,k⟩;unfold E1;lk;refine qC (λh=>?_) λh=>?_
 .rw [show min a b=a by lia,show max a b=b by lia] at k;lk;exact ⟨bq (m:=2) (ak 2),k⟩
 .rw [show min a b=b by lia,show max a b=a by lia] at k;lk;exact ⟨bq (m:=2) (ak 2),k⟩
abbrev pk (x y:Nat):List gG:=[bP (x:Int),bP (y:Int)]
inductive iM (K:aa) (C:ag) (vs:List V) (H:Hp) (Q:VK) (E:XK):Prop
 | mk (n a b:Nat) (d:ag) (kvs:List (List gG×V)):vs=[.int n,.ref d,.int a,.int b]->a<n->b<n->a≠b->H d=some (.dT kvs)->jb kvs (pk (min a b) (max a b))=none->(∀ p,H p=none->Q (.ref p) (upd H p (.tup [.int (min a b:Nat),.int (max a b:Nat)])))->iM K C vs H Q E
theorem IV:Rn (iM K C) (BB K C (bZ K C) (j7 K C)) Mt:=by
 rintro vs H Q E ⟨n,a,b,d,kvs,rfl,ha,hb,hab,hd,hk,k⟩;unfold BB;lk;refine ⟨n,a,b,rfl,ha,hb,hab,?_⟩;lk;refine ⟨a,b,rfl,λp hp=>?_⟩;lk
 have gd:(upd H p (.tup [.int (min a b:Nat),.int (max a b:Nat)])) d=some (.dT kvs):=by rw [aG (aQ hd hp)];exact hd
 refine .inr ⟨d,_,rfl,CJ.t (k:=pk (min a b) (max a b)) gd aE,?_⟩;rw [hk];lk;rw [if_neg (by simp)];lk;exact k p hp
inductive eh (K:aa) (C:ag) (vs:List V) (H:Hp) (Q:VK) (E:XK):Prop
 | mk (n a b:Nat) (d:ag) (kvs:List (List gG×V)):vs=[.int n,.ref d,.int a,.int b]->a<n->b<n->a≠b->H d=some (.dT kvs)->(jb kvs (pk (min a b) (max a b))).isSome=true->(∀ p,H p=none->Q (.ref p) (upd H p (.tup [.int (min a b:Nat),.int (max a b:Nat)])))->eh K C vs H Q E
theorem yi:Rn (eh K C) (qi K C (bZ K C) (j7 K C)) Mt:=by
 rintro vs H Q E ⟨n,a,b,d,kvs,rfl,ha,hb,hab,hd,hk,k⟩;unfold qi;lk;refine ⟨n,a,b,rfl,ha,hb,hab,?_⟩;lk;refine ⟨a,b,rfl,λp hp=>?_⟩;lk
 have gd:(upd H p (.tup [.int (min a b:Nat),.int (max a b:Nat)])) d=some (.dT kvs):=by rw [aG (aQ hd hp)];exact hd
 refine .inr ⟨d,_,rfl,CJ.t (k:=pk (min a b) (max a b)) gd aE,?_⟩;rw [hk];lk;refine mX ?_;lk;exact k p hp
def kf (f:Ti->V) (ts:List Ti):List (List gG×V):=ts.map λt=>(pk t.x t.y,f t)
abbrev kl:List Ti->List (List gG×V):=kf λt=>.int t.cA
abbrev kw:List Ti->List (List gG×V):=kf λt=>.bl t.wd
abbrev kv (g:Int->Int->Int):List Ti->List (List gG×V):=kf λt=>.int (g t.x t.y)
theorem BJ {x y u v:Nat}:pk x y=pk u v↔((x:Int),(y:Int))=((u:Int),(v:Int)):=by
 constructor
 .intro h;obtain ⟨h1,h2⟩:=lP h;rw [LF h1,LF (lP h2).1]
 .intro h;obtain ⟨h1,h2⟩:=cS h
  show [bP (x:Int),bP (y:Int)]=_
  rw [h1,h2]
section
variable {f:Ti->V}{g:Ti->Ti}{t:Ti}
theorem iE (hn:(ts.map Ti.key).Nodup) (ht:t∈ts):jb (kf f ts) (pk t.x t.y)=some (f t):=by
 induction ts with
 | nil=>nomatch ht
 | cons s ts ih =>
  rw [aW,bb] at hn
  by_cases e:pk s.x s.y=pk t.x t.y
  .have:s=t:=by
    rcases au.mp ht with q|q
    .exact q.symm
    .have e':t.key=s.key:=(BJ.mp e).symm;exact absurd (e'▸aX q) hn.1
   subst this;exact qP (p:=(pk s.x s.y,f s)) rfl
  .refine (oI (p:=(pk s.x s.y,f s)) e).trans (ih hn.2 ?_);exact (au.mp ht).resolve_left λq=>e (q▸rfl)
theorem Ta {x y:Nat}(h:((x:Int),(y:Int))∉ts.map Ti.key):jb (kf f ts) (pk x y)=none:=by
 induction ts with
 | nil=>rfl
 | cons s ts ih =>
  rw [aW,au] at h;exact (oI (p:=(pk s.x s.y,f s)) λe=>h (.inl (BJ.mp e).symm)).trans (ih λq=>h (.inr q))
theorem Qz (hn:(ts.map Ti.key).Nodup) (ht:t∈ts) (hg:∀ t,(g t).key=t.key):tO (kf f ts) (pk t.x t.y) (f (g t))=kf f (gh ts t.key g):=by
 unfold tO
 have hm:((kf f ts).any λkv=>decide (kv.1=pk t.x t.y))=true:=by rw [qQ,iE hn ht];rfl
 rw [if_pos hm];unfold kf gh;rw [cf,cf];refine j9 λu hu=>?_
 show (if pk u.x u.y=pk t.x t.y then (pk u.x u.y,f (g t)) else (pk u.x u.y,f u))=(pk (if u.key=t.key then g u else u).x (if u.key=t.key then g u else u).y,f (if u.key=t.key then g u else u))
 by_cases c:u.key=t.key
 .rw [if_pos c,if_pos (BJ.mpr c),m6 hn hu ht c];obtain ⟨e1,e2⟩:=Ti.Rc (hg t);rw [e1,e2]
 .rw [if_neg c,if_neg λe=>c (BJ.mp e)]
theorem Ap (hg:∀ t,(g t).key=t.key) (hf:∀ t,f (g t)=f t) (k:Int×Int):kf f (gh ts k g)=kf f ts:=by
 unfold kf gh;rw [cf];refine j9 λu hu=>?_
 show (pk (if u.key=k then g u else u).x (if u.key=k then g u else u).y,f (if u.key=k then g u else u))=_
 by_cases c:u.key=k
 .obtain ⟨e1,e2⟩:=Ti.Rc (hg u);rw [if_pos c,e1,e2,hf]
 .rw [if_neg c]
theorem Gg:oH (kf f ts) (pk t.x t.y)=kf f (ts.filter λu=>decide (u.key≠t.key)):=by
 unfold oH kf;rw [ui]
 congr 1
 refine List.filter_congr λu _=>?_;exact decide_eq_decide.mpr (not_congr BJ)
theorem pS:(kf f ts).length=ts.length:=af _
end
abbrev nH (Pt:ag) (H:Hp):Prop:=pC Pt ⟨119,28,119,61⟩ ((("in_order":bD)++".<locals>.")++"<lambda>") H
inductive fe (K:aa) (C:ag) (Pt:ag) (vs:List V) (H:Hp) (Q:VK) (E:XK):Prop
 | mk (p d:ag) (JU:List (List gG×V)):vs=[.ref p,.ref d]->H d=some (.dT JU)->nH Pt H->((∃ zs:List Zn,H p=some (.lst (zs.map kb))/\(∀ z∈zs,∃ w x y:Int,z.1=[w,x,y]/\H z.2=some (.tup [.int x,.int y])/\jb JU [bP x,bP y]=some (.int w))/\zs.length<99/\∀ (l:ag) (zs':List Zn) (H2:Hp),H2 l=none->k9 Pt H H2->nH Pt H2->zs'.Perm zs->Q (.ref l) (upd H2 l (.lst (zs'.map kb))))\/∃ (kvs:List (List gG×V)) (g:Int->Int->Int),H p=some (.dT kvs)/\(∀ q∈kvs,∃ x y:Int,q.1=[bP x,bP y]/\jb JU q.1=some (.int (g x y)))/\kvs.length<99/\∀ (l:ag) (zs:List Zn) (H2:Hp),H2 l=none->k9 Pt H H2->nH Pt H2->(∀ z∈zs,∃ x y,z.1=[g x y,x,y]/\H2 z.2=some (.tup [.int x,.int y]))->(zs.map λz=>([bP (z.1.getD 1 0),bP (z.1.getD 2 0)]:List gG)).Perm (kvs.map (·.1))->Q (.ref l) (upd H2 l (.lst (zs.map kb))))->fe K C Pt vs H Q E
theorem Gh:Rn (fe K C Pt) (nW K C Pt) ES:=by
 rintro vs H Q E ⟨p,d,JU,rfl,hd,hT,k⟩;unfold nW;lk;unfold KF;lk;refine ⟨p,d,JU,rfl,rfl,hd,hT,?_⟩
 rcases k with ⟨zs,hp,hkv,hl,k⟩|⟨kvs,g,hp,hkv,hl,k⟩
 .exact .inl ⟨zs,hp,hkv,by lia,λl zs' H2 h1 h2 h3 h4 _=>k l zs' H2 h1 h2 h3 h4⟩
 .exact .inr ⟨kvs,g,hp,hkv,by lia,λl zs H2 h1 h2 h3 h4 h5 _=>k l zs H2 h1 h2 h3 h4 h5⟩
def ew (x y:Int) (S:List Int):Nat:=(if x∈S then 1 else 0)+(if y∈S then 1 else 0)
theorem any_ints (S:List Int) (x:Int):((S.map Fj).any λe=>d7 e (.int x))=decide (x∈S):=by
 rw [M0,iz,qE,decide_eq_true_iff]
 constructor
 .rintro ⟨y,hy,e⟩
  have:y=x:=by simpa [d7] using e
  exact this▸hy
 .intro h;exact ⟨x,h,by simp [d7]⟩
inductive di (K:aa) (C:ag) (vs:List V) (H:Hp) (Q:VK) (E:XK):Prop
 | mk (t s:ag) (x y:Int) (S:List Int):vs=[.ref t,.ref s]->H t=some (.tup [.int x,.int y])->H s=some (.lst (S.map V.int))->(∀ H',bQ H H'->Q (.int (ew x y S)) H')->di K C vs H Q E
theorem zL:Rn (di K C) (rD K C) Mx:=by
 rintro vs H Q E ⟨t,s,x,y,S,rfl,ht,hs,k⟩;unfold rD;lk;refine .inr (.inl ⟨⟨_,ie.of ht⟩,λacc hacc=>?_⟩);refine mE (n:=2) (λi ys H'=>ys=(([x,y].take i).filter λz=>decide (z∈S)).map V.int/\H' acc=some (.lst ys)/\bQ H H') (λZ=>∃ o,Z=[o,some (.ref s)]) ⟨by simp,aE,bQ.cC hacc⟩ ⟨_,rfl⟩ ?_ ?_ ?_ ?_
 .rintro i ys H' ⟨_,h,_⟩;exact h
 .rintro ys H' ⟨rfl,h,S'⟩;refine ⟨⟨_,S'.WE (ie.of ht),ak _⟩,?_⟩;lk;refine jr (cL.of h) ?_
  have e:((([x,y].take 2).filter λz=>decide (z∈S)).map V.int).length=ew x y S:=by
   unfold ew
   by_cases c1:x∈S<;>by_cases c2:y∈S<;>simp [c1,c2]
  rw [e];exact k H' S'
 .rintro i ys H' hi ⟨e,h,S'⟩;exact ⟨_,_,S'.WE (ie.of ht),ay hi⟩
 .rintro i ys σ' H' v H2 hi ⟨rfl,h,S'⟩ ⟨o,rfl⟩ ⟨e2,hx⟩;subst e2;have hxi:=hx _ (S'.WE (ie.of ht))
  obtain ⟨a,ha⟩:∃ a,[x,y][i]?=some a:=⟨_,ay (by simpa using hi)⟩
  have et:[x,y].take (i+1)=[x,y].take i++[a]:=by rw [fo,ha];rfl
  have ev:v=.int a:=by
   have:([x,y].map V.int)[i]?=some v:=hxi;rw [aA,ha] at this;exact (a7 this).symm
  subst ev;lk;refine X0 (Rep.int a) (Pe (cL.of (S' _ _ hs))) ⟨rfl,by simp [lb]⟩ (gp _ (mY S)) ?_;rw [any_ints];lk;refine qC (λc=>?_) λc=>?_
  .lk;refine ⟨h,eL (m:=10) (by rw [af];exact bz (dF _ _) (by rw [bS];lia)),kI.mk' hi ⟨_,rfl⟩ ⟨?_,aE,λb o q=>by rw [aG (aQ q hacc)];exact S' _ _ q⟩⟩;rw [et,eS,aZ];simp [c]
  .refine kI.mk' hi ⟨_,rfl⟩ ⟨?_,h,S'⟩;rw [et,eS,aZ];simp [c]
theorem Top.one {n:Int}{i j:Nat}(h:Top n i) (h':Top n j):i=j:=by
 have key:∀ {i j:Nat},Top n i->Top n j->¬ i<j:=λ{i j} h h' c=>by
  rcases h'.1 with z|z
  .lia
  .have p:(2:Int)^(i+1)<=2^j:=by
    have:=xH (n:=2) (by decide) (show i+1<=j from c)
    exact_mod_cast this
   have:=h.2;rw [l0] at p;lia
 have:=key h h';have:=key h' h;lia
def qq (H:Hp) (u:Ti×ag):Prop:=H u.2=some (.tup [.int u.1.x,.int u.1.y,.int u.1.cA,.bl u.1.wd])
def rT (u:Ti×ag):V:=.ref u.2
inductive hJ (K:aa) (C:ag) (vs:List V) (H:Hp) (Q:VK) (E:XK):Prop
 | mk (n:Int) (T:Nat) (p:ag) (us:List (Ti×ag)):vs=[.int n,.ref p]->Top n T->H p=some (.lst (us.map rT))->(∀ u∈us,qq H u)->us.length<=1000->(∀ H',bQ H H'->Q (.int (us.map λu=>(T:Int)-u.1.cA).sum) H')->hJ K C vs H Q E
theorem K0:Rn (hJ K C) (E3 K C (pR K C)) ["n","ties"]:=by
 rintro vs H Q E ⟨n,T,p,us,rfl,tp,hp,hR,hl,q⟩;unfold E3;lk;refine .inl ⟨⟨_,cL.of hp⟩,λacc hacc=>?_⟩;refine mF (K:=K) (z:=p) (xs:=us.map rT) us (λ_=>true) (λu=>.int ((T:Int)-u.1.cA)) (λZ=>∃ o o1 o2 o3,Z=[o,o1,o2,o3,some (.int n)]) (by simp) (cL.of hp) hacc ⟨_,_,_,_,rfl⟩ (by rw [af];lia) ?_ ?_
 .rintro i u x σ' H' G G' hu hx S' ⟨o,o1,o2,o3,rfl⟩ g1 g2
  have ex:x=rT u:=by rw [aA,hu] at hx;exact (a7 hx).symm
  subst ex;refine FM (.of (S' _ _ (hR u (aN hu)))) rfl ?_;lk;refine mD ?_;lk;refine ⟨n,rfl,λj hj=>?_⟩;obtain rfl:=hj.one tp;lk;exact g1 rfl _ ⟨_,_,_,_,rfl⟩
 .rintro H' S' hH;lk
  have e:(us.filter λ_=>true).map (λu=>V.int ((T:Int)-u.1.cA))=(us.map λu=>(T:Int)-u.1.cA).map V.int:=by rw [cf,iQ.mpr (λ_ _=>rfl)];rfl
  rw [e] at hH;exact ⟨acc,_,rfl,cL.of hH,q H' S'⟩
structure Tt where
 (p s q:ag) (lv:Int) (xs:List V) (f:V)
def pT (t:Tt):V:=.ref t.p
def CD (H:Hp) (t:Tt):Prop:=H t.p=some (.tup [.int t.lv,.ref t.s,.ref t.q,t.f])/\H t.q=some (.lst t.xs)
theorem CD.same {t:Tt}(h:CD H t) (S:bQ H H'):CD H' t:=⟨S _ _ h.1,S _ _ h.2⟩
def E7 (us:List Tt):Nat:=(us.map λv=>v.xs.length).sum
def Eh (us:List Tt):Nat:=(us.filter λv=>!decide (v.f=V.non)).length
theorem MF (us:List Tt):(us.map λv=>(v.xs.length:Int)).sum=(E7 us:Int):=by
 unfold E7
 induction us with
 | nil=>rfl
 | cons v us ih=>rw [aW,aW,fX,fX,ih];rfl
inductive iC (K:aa) (C:ag) (vs:List V) (H:Hp) (Q:VK) (E:XK):Prop
 | mk (a:ag) (ts:List Tt):vs=[.ref a]->H a=some (.lst (ts.map pT))->(∀ t∈ts,CD H t)->ts.length<=1000->(∀ H',bQ H H'->Q (.int (E7 ts:Nat)) H')->iC K C vs H Q E
theorem NI:Rn (iC K C) (IM K C) ["trail"]:=by
 rintro vs H Q E ⟨a,ts,rfl,ha,hR,hl,q⟩;unfold IM;lk;refine .inl ⟨⟨_,cL.of ha⟩,λacc hacc=>?_⟩;refine mF (K:=K) (z:=a) (xs:=ts.map pT) ts (λ_=>true) (λt=>.int (t.xs.length:Int)) (λZ=>∃ o o1 o2 o3,Z=[o,o1,o2,o3]) (by simp) (cL.of ha) hacc ⟨_,_,_,_,rfl⟩ (by rw [af];lia) ?_ ?_
 .rintro i t x σ' H' G G' ht hx S' ⟨o,o1,o2,o3,rfl⟩ g1 g2
  have ex:x=pT t:=by rw [aA,ht] at hx;exact (a7 hx).symm
  subst ex;have ok:=(hR t (aN ht)).same S';refine FM (.of ok.1) rfl ?_;lk;refine mD ?_;lk;refine jr (cL.of ok.2) ?_;exact g1 rfl _ ⟨_,_,_,_,rfl⟩
 .rintro H' S' hH;lk
  have e:(ts.filter λ_=>true).map (λt=>V.int (t.xs.length:Int))=(ts.map λt=>(t.xs.length:Int)).map V.int:=by rw [cf,iQ.mpr (λ_ _=>rfl)];rfl
  rw [e] at hH;refine ⟨acc,_,rfl,cL.of hH,?_⟩;rw [MF];exact q H' S'
inductive ky (K:aa) (C:ag) (vs:List V) (H:Hp) (Q:VK) (E:XK):Prop
 | mk (a:ag) (ts:List Tt):vs=[.ref a]->H a=some (.lst (ts.map pT))->(∀ t∈ts,CD H t)->ts.length<=1000->Eh ts<=1->(∀ H',bQ H H'->Q (.int (E7 ts+Eh ts:Nat)) H')->ky K C vs H Q E
theorem NJ:Rn (ky K C) (IP K C (iC K C)) ["trail","finds"]:=by
 rintro vs H Q E ⟨a,ts,rfl,ha,hR,hl,hf,q⟩;unfold IP;lk;refine .inl ⟨⟨_,cL.of ha⟩,λacc hacc=>?_⟩;refine mF (K:=K) (z:=a) (xs:=ts.map pT) ts (λt=>!decide (t.f=.non)) (λt=>t.f) (λZ=>∃ o o1 o2 o3,Z=[o,o1,o2,o3]) (by simp) (cL.of ha) hacc ⟨_,_,_,_,rfl⟩ (by rw [af];lia) ?_ ?_
 .rintro i t x σ' H' G G' ht hx S' ⟨o,o1,o2,o3,rfl⟩ g1 g2
  have ex:x=pT t:=by rw [aA,ht] at hx;exact (a7 hx).symm
  subst ex;have ok:=(hR t (aN ht)).same S';refine FM (.of ok.1) rfl ?_;lk
  cases hf:(!decide (t.f=V.non)) with
  | true =>
   refine mD ?_;lk
   exact g1 hf _ ⟨_,_,_,_,rfl⟩
  | false =>
   refine mX ?_;exact g2 hf _ ⟨_,_,_,_,rfl⟩
 .rintro H' S' hH;lk;refine ⟨_,.inl ⟨_,cL.of hH,rfl⟩,?_⟩
  have e:(!((ts.filter λt=>!decide (t.f=V.non)).map λt=>t.f).isEmpty)=decide (Eh ts=1):=by
   unfold Eh at hf ⊢;generalize ts.filter (λt=>!decide (t.f=V.non))=ws at hf ⊢
   cases ws with
   | nil=>rfl
   | cons v ws =>
    cases ws with
    | nil=>rfl
    | cons w r=>exact absurd hf (by simp)
  rw [e];refine qC (λc=>?_) λc=>?_
  .lk;refine ⟨a,ts,rfl,S' _ _ ha,λt ht=>(hR t ht).same S',hl,λH2 S2=>?_⟩;lk;have:=q _ (S'.trans S2);rw [c] at this;exact this
  .lk;refine ⟨a,ts,rfl,S' _ _ ha,λt ht=>(hR t ht).same S',hl,λH2 S2=>?_⟩;have:=q _ (S'.trans S2);rw [show Eh ts=0 by lia] at this;exact this
theorem dY {f g:bD}{v x:V}{r:List (bD×V)}(h:¬ g=f):dP f v ((g,x)::r)=(g,x)::dP f v r:=by show (if g=f then _ else _)=_;rw [if_neg h]
theorem wM {f:bD}{v x:V}{r:List (bD×V)}:dP f v ((f,x)::r)=(f,v)::r:=by show (if f=f then _ else _)=_;rw [if_pos rfl]
theorem rV {f:bD}{x:V}{r:List (bD×V)}:dC f ((f,x)::r)=some x:=by rw [cG,beq_self_eq_true]
theorem ff {f g:bD}{x:V}{r:List (bD×V)}(h:¬ g=f):dC g ((f,x)::r)=dC g r:=by
 rw [cG]
 have:(g == f)=false:=by simpa using h
 rw [this]
structure CS (K:aa) (C:ag) (A:CA):Prop where
 w:CT K C
 lc:CU K A.bJ
 l1:dA K A.bJ "level_of"
 l2:dA K A.bJ "wooden"
 l3:dA K A.bJ "weight_of"
 l4:dA K A.bJ "woods"
 kc:CU K A.aO
 k1:dA K A.aO "n"
 k2:dA K A.aO "levels"
 k3:dA K A.aO "wood"
 k4:dA K A.aO "came"
 k5:dA K A.aO "looked"
 k6:dA K A.aO "risen"
 k7:dA K A.aO "lost"
def fL (d1 d2 d3 L:ag):List (bD×V):=[("level_of",.ref d1),("wooden",.ref d2),("weight_of",.ref d3),("woods",.ref L)]
theorem QB {d1 d2 d3 L:ag}:(fL d1 d2 d3 L).lookup ("level_of":bD)=some (.ref d1):=rV
theorem Tc {d1 d2 d3 L:ag}:(fL d1 d2 d3 L).lookup ("wooden":bD)=some (.ref d2):=by unfold fL;rw [ff (by decide +kernel)];exact rV
theorem fL3 {d1 d2 d3 L:ag}:(fL d1 d2 d3 L).lookup ("weight_of":bD)=some (.ref d3):=by unfold fL;rw [ff (by decide +kernel),ff (by decide +kernel)];exact rV
theorem Wp {d1 d2 d3 L:ag}:(fL d1 d2 d3 L).lookup ("woods":bD)=some (.ref L):=by unfold fL;rw [ff (by decide +kernel),ff (by decide +kernel),ff (by decide +kernel)];exact rV
theorem UP {d1 d2 d3 L:ag}{m:bD}(h1:¬ m="level_of":=by decide +kernel) (h2:¬ m="wooden":=by decide +kernel) (h3:¬ m="weight_of":=by decide +kernel) (h4:¬ m="woods":=by decide +kernel):(fL d1 d2 d3 L).lookup m=none:=by unfold fL;rw [ff h1,ff h2,ff h3,ff h4];rfl
structure AL where
 (q dq d1 d2 d3 L:ag) (ws:List (ag×ag×ag)) (g:Int->Int->Int)
variable {a:AL}
def fp (a:AL):List ag:=a.d1::a.d2::a.d3::a.ws.map (·.2.2)
def Fm (X:List ag) (H H':Hp):Prop:=∀ b o,b∉X->H b=some o->H' b=some o
theorem Fm.refl {X:List ag}:Fm X H H:=λ_ _ _ e=>e
theorem Fm.trans {X:List ag}{H1 H2:Hp}(x:Fm X H H1) (y:Fm X H1 H2):Fm X H H2:=λb o h e=>y b o h (x b o h e)
theorem Fm.of {X:List ag}(S:bQ H H'):Fm X H H':=λb o _ e=>S b o e
theorem Fm.but {X:List ag}{c:ag}(hc:c∈X) (S:bh c H H'):Fm X H H':=λb o h e=>S b o e λz=>h (z▸hc)
theorem Fm.upd {X:List ag}{c:ag}{o:HO}(hc:c∈X):Fm X H (upd H c o):=Fm.but hc bh.upd
theorem Fm.mono {X Y:List ag}(S:Fm X H H') (h:∀ b∈X,b∈Y):Fm Y H H':=λb o hb e=>S b o (λz=>hb (h b z)) e
theorem Fm.tail {X:List ag}{c:ag}(S:Fm X H H'):Fm (c::X) H H':=S.mono λ_=>ai _
theorem Fm.free {X:List ag}(S:Fm X H H') {b:ag}(h:b∉X) (e:H' b=none):H b=none:=by
 cases z:H b with
 | none=>rfl
 | some o=>rw [S b o h z] at e;cases e
structure LV (C:ag) (A:CA) (H:Hp) (a:AL) (n T:Nat) (ts:List Ti) (as:Nat->List ag) (R:Nat->Nat->List Int):Prop where
 ob:H a.q=some (.ins A.bJ a.dq (fL a.d1 a.d2 a.d3 a.L))
 e1:H a.d1=some (.dT (kl ts))
 e2:H a.d2=some (.dT (kw ts))
 e3:H a.d3=some (.dT (kv a.g ts))
 ls:H a.L=some (.lst (a.ws.map λw=>.ref w.1))
 len:a.ws.length=T+1
 wa:∀ (i:Nat) w,a.ws[i]?=some w->WA C H w.1 w.2.1 w.2.2 n (as i) (R i)
 wd:∀ i,i<=T->Wd n (R i)
 n1:1<=n
 MS:a.d1≠a.d2
 Ot:a.d1≠a.d3
 Ra:a.d2≠a.d3
 nl:(a.ws.map (·.2.2)).Nodup
 nL:∀ w∈a.ws,a.L≠w.2.2
section
variable {ts':List Ti}
theorem LV.at (h:LV C A H a n T ts as R) {w:ag×ag×ag}(hw:w∈a.ws):∃ i,i<=T/\a.ws[i]?=some w:=by
 obtain ⟨i,hi⟩:=bC.mp hw;have:=(aD.mp hi).1;rw [h.len] at this;exact ⟨i,by lia,hi⟩
theorem LV.get (h:LV C A H a n T ts as R) {i:Nat}(hi:i<=T):∃ w,a.ws[i]?=some w/\w∈a.ws:=by
 have hl:i<a.ws.length:=by rw [h.len];lia
 exact ⟨_,ay hl,jV hl⟩
theorem LV.rows (h:LV C A H a n T ts as R) {w:ag×ag×ag}(hw:w∈a.ws):∃ bs:List ag,bs.length=n/\H w.2.2=some (.lst (bs.map V.ref)):=by
 obtain ⟨i,_,hi⟩:=h.at hw;exact ⟨_,(h.wa i w hi).len,(h.wa i w hi).rl⟩
theorem LV.kind (h:LV C A H a n T ts as R) {b:ag}(hb:b∈fp a):(∃ ks,H b=some (.dT ks))\/∃ bs:List ag,bs.length=n/\H b=some (.lst (bs.map V.ref)):=by
 unfold fp at hb;simp only [au,bo] at hb
 rcases hb with rfl|rfl|rfl|⟨w,hw,rfl⟩
 .exact .inl ⟨_,h.e1⟩
 .exact .inl ⟨_,h.e2⟩
 .exact .inl ⟨_,h.e3⟩
 .exact .inr (h.rows hw)
theorem LV.out (h:LV C A H a n T ts as R) {b:ag}{o:HO}(e:H b=some o) (h1:∀ ks,o≠.dT ks) (h2:∀ bs:List ag,bs.length=n->o≠.lst (bs.map V.ref)):b∉fp a:=λhb=>by
 rcases h.kind hb with ⟨ks,q⟩|⟨bs,hl,q⟩
 .rw [e] at q;exact h1 ks (a7 q)
 .rw [e] at q;exact h2 bs hl (a7 q)
theorem LV.vA (h:LV C A H a n T ts as R) {b:ag}{xs:List V}(e:H b=some (.tup xs)):b∉fp a:=h.out e (λ_ z=>nomatch z) (λ_ _ z=>nomatch z)
theorem LV.outI (h:LV C A H a n T ts as R) {b x y:ag}{fs:List (bD×V)}(e:H b=some (.ins x y fs)):b∉fp a:=h.out e (λ_ z=>nomatch z) (λ_ _ z=>nomatch z)
theorem LV.Tw (h:LV C A H a n T ts as R) {b:ag}{r:List Int}(e:H b=some (.lst (r.map V.int))):b∉fp a:=h.out e (λ_ z=>nomatch z) λbs hl z=>by
 have n1:=h.n1
 injection z with z
 match r,bs,hl with
 | [],c::bs,_=>cases z
 | x::r,c::bs,_=>cases (lP z).1
 | x::r,[],_=>cases z
 | [],[],hl=>rw [← hl] at n1;cases n1
theorem LV.Ej (h:LV C A H a n T ts as R) {b:ag}(e:H b=none):b∉fp a:=λhb=>by
 rcases h.kind hb with ⟨ks,q⟩|⟨bs,hl,q⟩<;>rw [e] at q<;>cases q
theorem LV.keep (h:LV C A H a n T ts as R) {X:List ag}(S:Fm X H H') (hq:∀ x fs,H x=some fs->(∃ c d f,fs=.ins c d f/\f≠[])->(x=a.q\/∃ w∈a.ws,x=w.1)->x∉X) (hd:∀ b∈fp a,b∉X) (hL:a.L∉X) (hr:∀ (b:ag) (r:List Int),r≠[]->H b=some (.lst (r.map V.int))->b∉X):LV C A H' a n T ts as R:=by
 have m1:a.d1∈fp a:=aw;have m2:a.d2∈fp a:=ai _ aw;have m3:a.d3∈fp a:=ai _ (ai _ aw);refine ⟨S _ _ (hq _ _ h.ob ⟨_,_,_,rfl,by simp [fL]⟩ (.inl rfl)) h.ob,S _ _ (hd _ m1) h.e1,S _ _ (hd _ m2) h.e2,S _ _ (hd _ m3) h.e3,S _ _ hL h.ls,h.len,λi w hw=>?_,h.wd,h.n1,h.MS,h.Ot,h.Ra,h.nl,h.nL⟩;have hm:=aN hw;have W:=h.wa i w hw
 have hi:i<=T:=by have:=(aD.mp hw).1;rw [h.len] at this;lia
 refine ⟨S _ _ (hq _ _ W.ob ⟨_,_,_,rfl,?_⟩ (.inr ⟨w,hm,rfl⟩)) W.ob,S _ _ (hd _ ?_) W.rl,W.len,λj c hc=>?_,W.ne⟩
 .intro z;have:=yh n w.2.2;rw [z] at this;cases this
 .exact ai _ (ai _ (ai _ (aX hm)))
 .have hj:j<n:=by rw [← W.len];exact (aD.mp hc).1
  exact S _ _ (hr _ _ ((h.wd i hi).r j hj).ne (W.at_ j c hc)) (W.at_ j c hc)
theorem LV.same (h:LV C A H a n T ts as R) (S:bQ H H'):LV C A H' a n T ts as R:=h.keep (X:=[]) (λb o _ e=>S b o e) (λ_ _ _ _ _=>cH) (λ_ _=>cH) cH λ_ _ _ _=>cH
theorem LV.sets (h:LV C A H a n T ts as R) (B:Fm [a.d1,a.d2,a.d3] H H') (e1:H' a.d1=some (.dT (kl ts'))) (e2:H' a.d2=some (.dT (kw ts'))) (e3:H' a.d3=some (.dT (kv a.g ts'))):LV C A H' a n T ts' as R:=by
 have ne:∀ {b:ag}{o:HO},H b=some o->(∀ ks,o≠.dT ks)->H' b=some o:=λ{b o} e q=>B _ _ (λhb=>by
  simp only [au,cH,or_false] at hb
  rcases hb with rfl|rfl|rfl
  .rw [h.e1] at e;cases e;exact q _ rfl
  .rw [h.e2] at e;cases e;exact q _ rfl
  .rw [h.e3] at e;cases e;exact q _ rfl) e
 exact ⟨ne h.ob (λ_ z=>nomatch z),e1,e2,e3,ne h.ls (λ_ z=>nomatch z),h.len,λi w hw=>⟨ne (h.wa i w hw).ob (λ_ z=>nomatch z),ne (h.wa i w hw).rl (λ_ z=>nomatch z),(h.wa i w hw).len,λj c hc=>ne ((h.wa i w hw).at_ j c hc) (λ_ z=>nomatch z),(h.wa i w hw).ne⟩,h.wd,h.n1,h.MS,h.Ot,h.Ra,h.nl,h.nL⟩
theorem LV.set1 (h:LV C A H a n T ts as R) (e2:kw ts'=kw ts) (e3:kv a.g ts'=kv a.g ts):LV C A (upd H a.d1 (.dT (kl ts'))) a n T ts' as R :=
 h.sets (Fm.upd aw) aE (by rw [aG h.MS.symm,e2];exact h.e2) (by rw [aG h.Ot.symm,e3];exact h.e3)
theorem LV.set2 (h:LV C A H a n T ts as R) (e1:kl ts'=kl ts) (e3:kv a.g ts'=kv a.g ts):LV C A (upd H a.d2 (.dT (kw ts'))) a n T ts' as R :=
 h.sets (Fm.upd (ai _ aw)) (by rw [aG h.MS,e1];exact h.e1) aE (by rw [aG h.Ra.symm,e3];exact h.e3)
theorem LV.YM (h:LV C A H a n T ts as R) {i:Nat}{w:ag×ag×ag}{bs:List ag}{R1:Nat->List Int}(hw:a.ws[i]?=some w) (W:WA C H' w.1 w.2.1 w.2.2 n bs R1) (D:Wd n R1) (B:bh w.2.2 H H') :
  LV C A H' a n T ts (λj=>if j=i then bs else as j) (λj=>if j=i then R1 else R j):=by
 have hm:=aN hw;obtain ⟨cs,hcl,hcs⟩:=h.rows hm
 have nt:∀ {b:ag}{o:HO},H b=some o->(∀ xs,o≠.lst xs)->H' b=some o:=λ{b o} e q=>B _ _ e λz=>by rw [z,hcs] at e;cases e;exact q _ rfl
 refine ⟨nt h.ob (λ_ z=>nomatch z),nt h.e1 (λ_ z=>nomatch z),nt h.e2 (λ_ z=>nomatch z),nt h.e3 (λ_ z=>nomatch z),B _ _ h.ls (h.nL w hm),h.len,λj v hv=>?_,λj hj=>?_,h.n1,h.MS,h.Ot,h.Ra,h.nl,h.nL⟩
 .by_cases c:j=i
  .subst c;rw [hw] at hv;cases hv;simp only [if_pos];exact W
  .simp only [if_neg c];have V:=h.wa j v hv
   have hjT:j<=T:=by have:=(aD.mp hv).1;rw [h.len] at this;lia
   have nvl:v.2.2≠w.2.2:=λe=>c ((List.getElem?_inj (by rw [af];exact (aD.mp hv).1) h.nl).mp (by rw [aA,aA,hv,hw];simp [e]));refine ⟨nt V.ob (λ_ z=>nomatch z),B _ _ V.rl nvl,V.len,λx b hb=>B _ _ (V.at_ x b hb) λz=>?_,V.ne⟩
   have hx:x<n:=by rw [← V.len];exact (aD.mp hb).1
   have e:=V.at_ x b hb;rw [z] at e;exact h.Tw e (ai _ (ai _ (ai _ (aX hm))))
 .by_cases c:j=i
  .simp only [if_pos c];exact D
  .simp only [if_neg c];exact h.wd j hj
end
inductive dj (K:aa) (C:ag) (A:CA) (vs:List V) (H:Hp) (Q:VK) (E:XK):Prop
 | mk (q dq d1 d2 d3 L t:ag) (kl kw:List (List gG×V)) (x y:Int) (v1 v2:V):vs=[.ref q,.ref t]->CS K C A->H q=some (.ins A.bJ dq (fL d1 d2 d3 L))->Rd H d1 (.dT kl)->Rd H d2 (.dT kw)->H t=some (.tup [.int x,.int y])->jb kl [bP x,bP y]=some v1->jb kw [bP x,bP y]=some v2->(∀ p,H p=none->Q (.ref p) (upd H p (.tup [.int x,.int y,v1,v2])))->dj K C A vs H Q E
theorem zM:Rn (dj K C A) (rP K C A) wb:=by
 rintro vs H Q E ⟨q,dq,d1,d2,d3,L,t,kl,kw,x,y,v1,v2,rfl,ct,hq,r1,r2,ht,h1,h2,k⟩;unfold rP;lk;refine dX (ie.of ht) (eI (j:=0) rfl rfl) ?_;lk;refine dX (ie.of ht) (eI (j:=1) rfl rfl) ?_;k_go;refine ⟨q,A.bJ,dq,_,_,rfl,hq,ct.lc,ct.l1,QB,?_⟩;lk;refine .inr ⟨d1,v1,rfl,.inr ⟨kl,[bP x,bP y],t,r1,rfl,ht,h1.symm⟩,?_⟩;k_go;refine ⟨q,A.bJ,dq,_,_,rfl,hq,ct.lc,ct.l2,Tc,?_⟩;lk;refine .inr ⟨d2,v2,rfl,.inr ⟨kw,[bP x,bP y],t,r2,rfl,ht,h2.symm⟩,?_⟩;lk;exact ⟨bq (m:=4) (ak 4),k⟩
theorem fp1:a.d1∈fp a:=aw
theorem fp2:a.d2∈fp a:=ai _ aw
theorem fp3:a.d3∈fp a:=ai _ (ai _ aw)
theorem fpw {w:ag×ag×ag}(h:w∈a.ws):w.2.2∈fp a:=ai _ (ai _ (ai _ (aX h)))
theorem QC {k:Int×Int}:kl (gh ts k Ti.uW)=kl ts:=Ap (g:=Ti.uW) (λ_=>rfl) (λ_=>rfl) k
theorem Wq {h:Int->Int->Int}{k:Int×Int}:kv h (gh ts k Ti.uW)=kv h ts:=Ap (g:=Ti.uW) (λ_=>rfl) (λ_=>rfl) k
theorem UQ {k:Int×Int}:kw (gh ts k Ti.up)=kw ts:=Ap (g:=Ti.up) (λ_=>rfl) (λ_=>rfl) k
theorem Yw {h:Int->Int->Int}{k:Int×Int}:kv h (gh ts k Ti.up)=kv h ts:=Ap (g:=Ti.up) (λ_=>rfl) (λ_=>rfl) k
theorem LV.cast {R':Nat->Nat->List Int}(h:LV C A H a n T ts as R) (e:∀ j,R j=R' j):LV C A H a n T ts as R':=(funext e:R=R')▸h
structure Up (C:ag) (A:CA) (a:AL) (n T:Nat) (ts:List Ti) (R:Nat->Nat->List Int) (f:(Nat->List Int)->Nat->List Int) (H:Hp) (i:Nat) (H1:Hp):Prop where
 ex:∃ as R',LV C A H1 a n T ts as R'/\∀ j,R' j=if j<i then f (R j) else R j
 fm:Fm (fp a) H H1
theorem Up.step {R':Nat->Nat->List Int}{f:(Nat->List Int)->Nat->List Int}{H1 H2:Hp}{i:Nat}{w:ag×ag×ag}{bs:List ag}(L:LV C A H1 a n T ts as R') (e:∀ j,R' j=if j<i then f (R j) else R j) (F:Fm (fp a) H H1)
  (hw:a.ws[i]?=some w) (W:WA C H2 w.1 w.2.1 w.2.2 n bs (f (R' i))) (D:Wd n (f (R' i))) (B:bh w.2.2 H1 H2):Up C A a n T ts R f H (i+1) H2:=by
 refine ⟨⟨_,_,L.YM hw W D B,λj=>?_⟩,F.trans (Fm.but (fpw (aN hw)) B)⟩
 have ei:R' i=R i:=by rw [e,if_neg (fk i)]
 by_cases c:j=i
 .subst c;rw [if_pos rfl,if_pos (i4 j),ei]
 .rw [if_neg c,e]
  by_cases d:j<i
  .rw [if_pos d,if_pos (by lia)]
  .rw [if_neg d,if_neg (by lia)]
inductive cn (K:aa) (C:ag) (A:CA) (vs:List V) (H:Hp) (Q:VK) (E:XK):Prop
 | mk (a:AL) (n T:Nat) (ts:List Ti) (as:Nat->List ag) (R:Nat->Nat->List Int) (t:ag) (u:Ti):vs=[.ref a.q,.ref t]->CS K C A->LV C A H a n T ts as R->n<=200->u∈ts->(ts.map Ti.key).Nodup->u.x<n->u.y<n->u.cA<=T->(∀ i,i<=u.cA->(u.y:Int)∉R i u.x)->H t=some (.tup [.int u.x,.int u.y])->ts.length<100->(∀ as' H',LV C A H' a n T (gh ts u.key Ti.uW) as' (J3 R u.cA u.x u.y)->Fm (fp a) H H'->Q .non H')->cn K C A vs H Q E
theorem yj:Rn (cn K C A) (qm K C A (fw K C)) ["self","tie","wood"]:=by
 rintro vs H Q E ⟨a,n,T,ts,as,R,t,u,rfl,ct,h,hn,hu,hnd,hx,hy,hl,hap,ht,hlen,k⟩;unfold qm;k_go;refine ⟨a.q,A.bJ,a.dq,_,_,rfl,h.ob,ct.lc,ct.l2,Tc,?_⟩;lk;refine .inr ⟨a.d2,_,rfl,CC.t (k:=pk u.x u.y) h.e2 ht (eL (m:=100) (by rw [pS];exact hlen)),?_⟩;have e:=Qz (f:=λt=>V.bl t.wd) (g:=Ti.uW) hnd hu (λ_=>rfl);rw [show (V.bl true)=(λt:Ti=>V.bl t.wd) u.uW from rfl,e];have h1:=h.set2 (ts':=gh ts u.key Ti.uW) QC Wq
 have ht1:(upd H a.d2 (.dT (kw (gh ts u.key Ti.uW)))) t=some (.tup [.int u.x,.int u.y]):=by rw [aG (gK ht h.e2)];exact ht
 have S1:Fm (fp a) H (upd H a.d2 (.dT (kw (gh ts u.key Ti.uW)))):=Fm.upd fp2
 have hl1:jb (kl (gh ts u.key Ti.uW)) (pk u.x u.y)=some (.int u.cA):=by rw [QC];exact iE hnd hu
 change (kx K C A _) _ _ (upd H a.d2 (.dT (kw (gh ts u.key Ti.uW))));generalize upd H a.d2 (.dT (kw (gh ts u.key Ti.uW)))=H1 at h1 ht1 S1;generalize gh ts u.key Ti.uW=ts1 at h1 hl1 k;unfold kx;k_go;refine ⟨a.q,A.bJ,a.dq,_,_,rfl,h1.ob,ct.lc,ct.l4,Wp,?_⟩;k_go;refine ⟨a.q,A.bJ,a.dq,_,_,rfl,h1.ob,ct.lc,ct.l1,QB,?_⟩;lk;refine .inr ⟨a.d1,.int u.cA,rfl,.inr ⟨_,pk u.x u.y,t,.inl h1.e1,rfl,ht1,hl1.symm⟩,?_⟩;lk;refine HW (cL.of h1.ls) λs hs=>?_;rw [x4 (j:=u.cA+1) (by lia),← mL];have S2:=bQ.cC (o:=.lst ((a.ws.take (u.cA+1)).map λw=>V.ref w.1)) hs;have gs:(upd H1 s (.lst ((a.ws.take (u.cA+1)).map λw=>V.ref w.1))) s=some (.lst ((a.ws.take (u.cA+1)).map λw=>V.ref w.1)):=aE;have nsf:=h1.Ej hs;generalize upd H1 s (.lst ((a.ws.take (u.cA+1)).map λw=>V.ref w.1))=H2 at S2 gs;have h2:=h1.same S2;have ht2:=S2 _ _ ht1
 have hlt:(a.ws.take (u.cA+1)).length=u.cA+1:=by rw [bS,h.len];lia
 refine ⟨s,rfl,?_⟩
 refine .inl ⟨⟨_,cL.of gs⟩,lR (K:=K) (a:=s) (xs:=(a.ws.take (u.cA+1)).map λw=>V.ref w.1)
  (λi Z H3=>Up C A a n T ts1 R (λr=>lk r u.x u.y) H2 i H3/\∃ o,Z=[some (.ref a.q),some (.ref t),o])
  ⟨⟨⟨as,R,h2,λj=>by rw [if_neg (by lia)]⟩,Fm.refl⟩,_,rfl⟩ ?_ ?_ ?_⟩
 .rintro i Z H3 _ ⟨U,_⟩;exact cL.of (U.fm _ _ nsf gs)
 .rintro i z Z H3 hi ⟨U,o,rfl⟩;rw [aA] at hi;obtain ⟨w,hw,rfl⟩:=br.mp hi
  have hi:i<u.cA+1:=by rw [← hlt];exact (aD.mp hw).1
  rw [kM,if_pos hi] at hw;obtain ⟨as1,R1,L1,e1⟩:=U.ex;have W1:=L1.wa i w hw;have ht3:=U.fm _ _ (h2.vA ht2) ht2;k_in;refine ⟨w.1,w.2.1,_,rfl,W1.ob,kD _ _,?_⟩;lk;refine dX (ie.of ht3) (eI (j:=0) rfl rfl) ?_;lk;refine dX (ie.of ht3) (eI (j:=1) rfl rfl) ?_;lk
  have ei:R1 i=R i:=by rw [e1,if_neg (fk i)]
  have D1:=L1.wd i (by lia)
  have hap1:(u.y:Int)∉R1 i u.x:=by rw [ei];exact hap i (by lia)
  refine ⟨w.1,w.2.1,w.2.2,n,u.x,u.y,as1 i,R1 i,rfl,ct.w,W1,D1,hn,hx,hy,hap1,λbs H4 W' B'=>?_⟩;exact ⟨Up.step (f:=λr=>lk r u.x u.y) L1 e1 U.fm hw W' (D1.lk hx hy hap1) B',_,rfl⟩
 .rintro Z H3 ⟨U,o,rfl⟩;rw [af,hlt] at U;obtain ⟨as1,R1,L1,e1⟩:=U.ex;refine k as1 H3 (L1.cast λj=>?_) ((S1.trans (Fm.of S2)).trans U.fm);rw [e1]
  show _=if j<=u.cA then _ else _
  by_cases c:j<=u.cA
  .rw [if_pos c,if_pos (by lia)]
  .rw [if_neg c,if_neg (by lia)]
inductive dh (K:aa) (C:ag) (A:CA) (vs:List V) (H:Hp) (Q:VK) (E:XK):Prop
 | mk (a:AL) (n T:Nat) (ts:List Ti) (as:Nat->List ag) (R:Nat->Nat->List Int) (t:ag) (u:Ti):vs=[.ref a.q,.ref t]->CS K C A->LV C A H a n T ts as R->n<=200->u∈ts->(ts.map Ti.key).Nodup->u.x<n->u.y<n->(u.wd=true->u.cA+1<=T/\(u.y:Int)∉R (u.cA+1) u.x)->H t=some (.tup [.int u.x,.int u.y])->ts.length<100->(∀ as' R' H',LV C A H' a n T (gh ts u.key Ti.up) as' R'->(R'=if u.wd=true then Yq R (u.cA+1) u.x u.y else R)->Fm (fp a) H H'->Q .non H')->dh K C A vs H Q E
theorem zN:Rn (dh K C A) (rN K C A (fw K C)) wb:=by
 rintro vs H Q E ⟨a,n,T,ts,as,R,t,u,rfl,ct,h,hn,hu,hnd,hx,hy,hap,ht,hlen,k⟩;unfold rN;k_go;refine ⟨a.q,A.bJ,a.dq,_,_,rfl,h.ob,ct.lc,ct.l1,QB,?_⟩;lk;refine ⟨a.d1,.int u.cA,rfl,.inr ⟨_,pk u.x u.y,t,.inl h.e1,rfl,ht,(iE (f:=λt=>V.int t.cA) hnd hu).symm⟩,?_⟩;lk;refine ⟨u.cA,1,rfl,rfl,_,CC.t (k:=pk u.x u.y) h.e1 ht (eL (m:=100) (by rw [pS];exact hlen)),?_⟩;have e:=Qz (f:=λt=>V.int t.cA) (g:=Ti.up) hnd hu (λ_=>rfl);rw [show (V.int ((u.cA:Int)+1))=(λt:Ti=>V.int t.cA) u.up from rfl,e];have h1:=h.set1 (ts':=gh ts u.key Ti.up) UQ Yw
 have ht1:(upd H a.d1 (.dT (kl (gh ts u.key Ti.up)))) t=some (.tup [.int u.x,.int u.y]):=by rw [aG (gK ht h.e1)];exact ht
 have S1:Fm (fp a) H (upd H a.d1 (.dT (kl (gh ts u.key Ti.up)))):=Fm.upd fp1
 have hw1:jb (kw (gh ts u.key Ti.up)) (pk u.x u.y)=some (.bl u.wd):=by rw [UQ];exact iE hnd hu
 have hl1:jb (kl (gh ts u.key Ti.up)) (pk u.x u.y)=some (.int ((u.cA+1:Nat):Int)):=by
  have:=iE (f:=λt=>V.int t.cA) (by rw [j5 (f:=Ti.up) (λ_=>rfl)];exact hnd) ((kr (f:=Ti.up) hnd hu u.up).mpr (.inl rfl));exact this
 dsimp only;change (ja _ _ _) _ _ (upd H a.d1 (.dT (kl (gh ts u.key Ti.up))));generalize upd H a.d1 (.dT (kl (gh ts u.key Ti.up)))=H1 at h1 ht1 S1;generalize gh ts u.key Ti.up=ts1 at h1 hl1 hw1 k;k_go;refine ⟨a.q,A.bJ,a.dq,_,_,rfl,h1.ob,ct.lc,ct.l2,Tc,?_⟩;lk;refine .inr ⟨a.d2,.bl u.wd,rfl,.inr ⟨_,pk u.x u.y,t,.inl h1.e2,rfl,ht1,hw1.symm⟩,?_⟩;refine ⟨_,rfl,?_⟩
 cases hw:u.wd with
 | false =>
  rw [hw] at k;refine mX ?_;lk
  exact k as R H1 h1 rfl S1
 | true =>
  rw [hw] at k;obtain ⟨hT,hap⟩:=hap hw;obtain ⟨w,hw1,hwm⟩:=h1.get hT;have W1:=h1.wa _ w hw1;have D1:=h1.wd _ hT;refine mD ?_;k_in;refine m5 ?_;lk;refine ⟨a.q,A.bJ,a.dq,_,_,rfl,h1.ob,ct.lc,ct.l4,Wp,?_⟩;k_go;refine ⟨a.q,A.bJ,a.dq,_,_,rfl,h1.ob,ct.lc,ct.l1,QB,?_⟩;lk;refine .inr ⟨a.d1,.int ((u.cA+1:Nat):Int),rfl,.inr ⟨_,pk u.x u.y,t,.inl h1.e1,rfl,ht1,hl1.symm⟩,?_⟩;refine j4 (cL.of h1.ls) (eI (j:=u.cA+1) rfl (by rw [aA,hw1];rfl)) ?_;refine ⟨w.1,w.2.1,_,rfl,W1.ob,kD _ _,?_⟩;lk;refine dX (ie.of ht1) (eI (j:=0) rfl rfl) ?_;lk;refine dX (ie.of ht1) (eI (j:=1) rfl rfl) ?_;lk;refine ⟨w.1,w.2.1,w.2.2,n,u.x,u.y,as (u.cA+1),R (u.cA+1),rfl,ct.w,W1,D1,hn,hx,hy,hap,λbs H4 W' B'=>?_⟩;exact k _ _ H4 (h1.YM hw1 W' (D1.lk hx hy hap) B') rfl (S1.trans (Fm.but (fpw hwm) B'))
inductive dJ (K:aa) (C:ag) (A:CA) (vs:List V) (H:Hp) (Q:VK) (E:XK):Prop
 | mk (a:AL) (n T:Nat) (ts:List Ti) (as:Nat->List ag) (R:Nat->Nat->List Int) (t:ag) (u:Ti):vs=[.ref a.q,.ref t]->CS K C A->LV C A H a n T ts as R->n<=200->u∈ts->(ts.map Ti.key).Nodup->u.x<n->u.y<n->u.x≠u.y->u.cA<=T->(u.wd=true->∀ i,i<=u.cA->Ed n (R i) u.x u.y)->H t=some (.tup [.int u.x,.int u.y])->(∀ as' R' H',LV C A H' a n T (ts.filter λv=>decide (v.key≠u.key)) as' R'->(R'=if u.wd=true then Zv R u.cA u.x u.y else R)->Fm (fp a) H H'->Q .non H')->dJ K C A vs H Q E
theorem zO:Rn (dJ K C A) (rO K C A (jv K C)) ["self","tie","level","wood"]:=by
 rintro vs H Q E ⟨a,n,T,ts,as,R,t,u,rfl,ct,h,hn,hu,hnd,hx,hy,hxy,hl,hed,ht,k⟩
 have td:∀ {H:Hp}{d:ag}{ks ks':List (List gG×V)},H t=some (.tup [.int u.x,.int u.y])->H d=some (.dT ks)->upd H d (.dT ks') t=some (.tup [.int u.x,.int u.y]):=λe1 e2=>by rw [aG (gK e1 e2)];exact e1
 unfold rO;k_go;refine ⟨a.q,A.bJ,a.dq,_,_,rfl,h.ob,ct.lc,ct.l3,fL3,?_⟩;refine ⟨.inr (.inr (.inl ⟨rfl,.inr ⟨_,h.e3⟩⟩)),?_⟩;lk;refine ⟨a.d3,_,pk u.x u.y,t,.int (a.g u.x u.y),rfl,rfl,h.e3,ht,iE (f:=λt=>V.int (a.g t.x t.y)) hnd hu,?_⟩;rw [Gg];have ht1:=td (ks':=kv a.g (ts.filter λv=>decide (v.key≠u.key))) ht h.e3
 have ne3:∀ {b:ag}{o:HO},b≠a.d3->H b=some o->(upd H a.d3 (.dT (kv a.g (ts.filter λv=>decide (v.key≠u.key))))) b=some o:=λhb e=>by rw [aG hb];exact e
 have q3:(upd H a.d3 (.dT (kv a.g (ts.filter λv=>decide (v.key≠u.key))))) a.d3=_:=aE;have F1:Fm [a.d1,a.d2,a.d3] H (upd H a.d3 (.dT (kv a.g (ts.filter λv=>decide (v.key≠u.key))))):=Fm.upd (ai _ (ai _ aw));have o1:=ne3 (gK h.ob h.e3) h.ob;have p1:=ne3 h.Ot h.e1;have p2:=ne3 h.Ra h.e2;generalize upd H a.d3 (.dT (kv a.g (ts.filter λv=>decide (v.key≠u.key))))=H1 at ht1 q3 F1 o1 p1 p2;dsimp only;k_go;refine ⟨a.q,A.bJ,a.dq,_,_,rfl,o1,ct.lc,ct.l1,QB,?_⟩;refine ⟨.inr (.inr (.inl ⟨rfl,.inr ⟨_,p1⟩⟩)),?_⟩;lk;refine ⟨a.d1,_,pk u.x u.y,t,.int u.cA,rfl,rfl,p1,ht1,iE (f:=λt=>V.int t.cA) hnd hu,?_⟩;rw [Gg];have ht2:=td (ks':=kl (ts.filter λv=>decide (v.key≠u.key))) ht1 p1;have o2:(upd H1 a.d1 (.dT (kl (ts.filter λv=>decide (v.key≠u.key))))) a.q=_:=(aG (gK o1 p1)).trans o1;have r1:(upd H1 a.d1 (.dT (kl (ts.filter λv=>decide (v.key≠u.key))))) a.d1=_:=aE;have r2:(upd H1 a.d1 (.dT (kl (ts.filter λv=>decide (v.key≠u.key))))) a.d2=_:=(aG h.MS.symm).trans p2;have r3:(upd H1 a.d1 (.dT (kl (ts.filter λv=>decide (v.key≠u.key))))) a.d3=_:=(aG h.Ot.symm).trans q3;have F2:Fm [a.d1,a.d2,a.d3] H (upd H1 a.d1 (.dT (kl (ts.filter λv=>decide (v.key≠u.key))))):=F1.trans (Fm.upd aw);generalize upd H1 a.d1 (.dT (kl (ts.filter λv=>decide (v.key≠u.key))))=H2 at ht2 o2 r1 r2 r3 F2;dsimp only;k_go;refine ⟨a.q,A.bJ,a.dq,_,_,rfl,o2,ct.lc,ct.l2,Tc,?_⟩;refine ⟨.inr (.inr (.inl ⟨rfl,.inr ⟨_,r2⟩⟩)),?_⟩;lk;refine ⟨a.d2,_,pk u.x u.y,t,.bl u.wd,rfl,rfl,r2,ht2,iE (f:=λt=>V.bl t.wd) hnd hu,?_⟩;rw [Gg];have ht3:=td (ks':=kw (ts.filter λv=>decide (v.key≠u.key))) ht2 r2;have F3:Fm [a.d1,a.d2,a.d3] H (upd H2 a.d2 (.dT (kw (ts.filter λv=>decide (v.key≠u.key))))):=F2.trans (Fm.upd (ai _ aw));have h3:LV C A (upd H2 a.d2 (.dT (kw (ts.filter λv=>decide (v.key≠u.key))))) a n T (ts.filter λv=>decide (v.key≠u.key)) as R:=h.sets F3 ((aG h.MS).trans r1) aE ((aG h.Ra.symm).trans r3)
 have G3:Fm (fp a) H (upd H2 a.d2 (.dT (kw (ts.filter λv=>decide (v.key≠u.key))))):=F3.mono λb hb=>by
  simp only [au,cH,or_false] at hb
  rcases hb with rfl|rfl|rfl
  .exact fp1
  .exact fp2
  .exact fp3
 generalize upd H2 a.d2 (.dT (kw (ts.filter λv=>decide (v.key≠u.key))))=H3 at ht3 h3 G3;refine ⟨_,rfl,?_⟩
 cases hw:u.wd with
 | false =>
  rw [hw] at k;refine mX ?_;lk
  exact k as R H3 h3 rfl G3
 | true =>
  rw [hw] at k;have hed:=hed hw;refine mD ?_;unfold oY;k_go;refine ⟨a.q,A.bJ,a.dq,_,_,rfl,h3.ob,ct.lc,ct.l4,Wp,?_⟩;lk;refine HW (cL.of h3.ls) λs hs=>?_;rw [x4 (j:=u.cA+1) (by lia),← mL];have S2:=bQ.cC (o:=.lst ((a.ws.take (u.cA+1)).map λw=>V.ref w.1)) hs;have gs:(upd H3 s (.lst ((a.ws.take (u.cA+1)).map λw=>V.ref w.1))) s=some (.lst ((a.ws.take (u.cA+1)).map λw=>V.ref w.1)):=aE;have nsf:=h3.Ej hs;generalize upd H3 s (.lst ((a.ws.take (u.cA+1)).map λw=>V.ref w.1))=H4 at S2 gs;have h4:=h3.same S2;have ht4:=S2 _ _ ht3
  have hlt:(a.ws.take (u.cA+1)).length=u.cA+1:=by rw [bS,h.len];lia
  refine ⟨s,rfl,?_⟩
  refine .inl ⟨⟨_,cL.of gs⟩,lR (K:=K) (a:=s) (xs:=(a.ws.take (u.cA+1)).map λw=>V.ref w.1)
   (λi Z H5=>Up C A a n T (ts.filter λv=>decide (v.key≠u.key)) R (λr=>Rm.ct r u.x u.y) H4 i H5/\∃ o,Z=[some (.ref a.q),some (.ref t),some (.int u.cA),o])
   ⟨⟨⟨as,R,h4,λj=>by rw [if_neg (by lia)]⟩,Fm.refl⟩,_,rfl⟩ ?_ ?_ ?_⟩
  .rintro i Z H5 _ ⟨U,_⟩;exact cL.of (U.fm _ _ nsf gs)
  .rintro i z Z H5 hi ⟨U,o,rfl⟩;rw [aA] at hi;obtain ⟨w,hw,rfl⟩:=br.mp hi
   have hi:i<u.cA+1:=by rw [← hlt];exact (aD.mp hw).1
   rw [kM,if_pos hi] at hw;obtain ⟨as1,R1,L1,e1⟩:=U.ex;have W1:=L1.wa i w hw;have ht5:=U.fm _ _ (h4.vA ht4) ht4;k_in;refine ⟨w.1,w.2.1,_,rfl,W1.ob,kD _ _,?_⟩;lk;refine dX (ie.of ht5) (eI (j:=0) rfl rfl) ?_;lk;refine dX (ie.of ht5) (eI (j:=1) rfl rfl) ?_;lk
   have ei:R1 i=R i:=by rw [e1,if_neg (fk i)]
   have D1:=L1.wd i (by lia)
   have hE:Ed n (R1 i) u.x u.y:=by rw [ei];exact hed i (by lia)
   refine ⟨w.1,w.2.1,w.2.2,n,u.x,u.y,as1 i,R1 i,rfl,ct.w,W1,D1,hn,hx,hy,hxy,hE,λbs H6 W' B'=>?_⟩;exact ⟨Up.step (f:=λr=>Rm.ct r u.x u.y) L1 e1 U.fm hw W' (D1.ct hx hy hxy hE) B',_,rfl⟩
  .rintro Z H5 ⟨U,o,rfl⟩;rw [af,hlt] at U;obtain ⟨as1,R1,L1,e1⟩:=U.ex;refine k as1 _ H5 (L1.cast λj=>?_) rfl ((G3.trans (Fm.of S2)).trans U.fm);rw [e1]
   show _=if j<=u.cA then _ else _
   by_cases c:j<=u.cA
   .rw [if_pos c,if_pos (by lia)]
   .rw [if_neg c,if_neg (by lia)]
inductive jP (K:aa) (C:ag) (A:CA) (vs:List V) (H:Hp) (Q:VK) (E:XK):Prop
 | mk (a:AL) (n T:Nat) (ts:List Ti) (as:Nat->List ag) (R:Nat->Nat->List Int) (t:ag) (x y:Nat):vs=[.ref a.q,.ref t,.int (a.g x y)]->CS K C A->LV C A H a n T ts as R->n<=200->x<n->y<n->H t=some (.tup [.int x,.int y])->(ts.map Ti.key).Nodup->((x:Int),(y:Int))∉ts.map Ti.key->ts.length<99->(∀ b ts' as' R' H',LV C A H' a n T ts' as' R'->(((y:Int)∈R 0 x/\ts'=ts++[⟨x,y,0,false⟩]/\R'=R/\b=false)\/((y:Int)∉R 0 x/\ts'=gh (ts++[⟨x,y,0,false⟩]) ((x:Int),(y:Int)) Ti.uW/\R'=J3 R 0 x y/\b=true))->Fm (fp a) H H'->Q (.bl b) H')->jP K C A vs H Q E
theorem BK:Rn (jP K C A) (uA K C A (d8 K C) (cn K C A)) IA:=by
 rintro vs H Q E ⟨a,n,T,ts,as,R,t,x,y,rfl,ct,h,hn,hx,hy,ht,hnd,hk,hlen,k⟩
 have td:∀ {H:Hp}{d:ag}{ks ks':List (List gG×V)},H t=some (.tup [.int x,.int y])->H d=some (.dT ks)->upd H d (.dT ks') t=some (.tup [.int x,.int y]):=λe1 e2=>by rw [aG (gK e1 e2)];exact e1
 have kn:∀ (f:Ti->V) (v:V),f ⟨x,y,0,false⟩=v->tO (kf f ts) (pk x y) v=kf f (ts++[⟨x,y,0,false⟩]):=λf v e=>by rw [HL _ (Ta hk),← e];unfold kf;rw [aZ];rfl
 have hnd':((ts++[(⟨x,y,0,false⟩:Ti)]).map Ti.key).Nodup:=by
  rw [aZ,eE];exact ⟨hnd,by simp,λp hp q hq e=>hk (by rw [kP,aC] at hq;have e2:p=((x:Int),(y:Int)):=e.trans hq;rw [← e2];exact hp)⟩
 have hu:(⟨x,y,0,false⟩:Ti)∈ts++[⟨x,y,0,false⟩]:=bH _ aw;unfold uA;k_go;refine ⟨a.q,A.bJ,a.dq,_,_,rfl,h.ob,ct.lc,ct.l1,QB,?_⟩;lk;refine .inr ⟨a.d1,_,rfl,CC.t (k:=pk x y) h.e1 ht (eL (m:=100) (by rw [pS];lia)),?_⟩;rw [kn (λt=>V.int t.cA) (.int 0) rfl];have ht1:=td (ks':=kl (ts++[⟨x,y,0,false⟩])) ht h.e1;have o1:(upd H a.d1 (.dT (kl (ts++[⟨x,y,0,false⟩])))) a.q=_:=(aG (gK h.ob h.e1)).trans h.ob;have p1:(upd H a.d1 (.dT (kl (ts++[⟨x,y,0,false⟩])))) a.d1=_:=aE;have p2:(upd H a.d1 (.dT (kl (ts++[⟨x,y,0,false⟩])))) a.d2=_:=(aG h.MS.symm).trans h.e2;have p3:(upd H a.d1 (.dT (kl (ts++[⟨x,y,0,false⟩])))) a.d3=_:=(aG h.Ot.symm).trans h.e3;have F1:Fm [a.d1,a.d2,a.d3] H (upd H a.d1 (.dT (kl (ts++[⟨x,y,0,false⟩])))):=Fm.upd aw;generalize upd H a.d1 (.dT (kl (ts++[⟨x,y,0,false⟩])))=H1 at ht1 o1 p1 p2 p3 F1;k_go;refine ⟨a.q,A.bJ,a.dq,_,_,rfl,o1,ct.lc,ct.l2,Tc,?_⟩;lk;refine .inr ⟨a.d2,_,rfl,CC.t (k:=pk x y) p2 ht1 (eL (m:=100) (by rw [pS];lia)),?_⟩;rw [kn (λt=>V.bl t.wd) (.bl false) rfl];have ht2:=td (ks':=kw (ts++[⟨x,y,0,false⟩])) ht1 p2;have o2:(upd H1 a.d2 (.dT (kw (ts++[⟨x,y,0,false⟩])))) a.q=_:=(aG (gK o1 p2)).trans o1;have q1:(upd H1 a.d2 (.dT (kw (ts++[⟨x,y,0,false⟩])))) a.d1=_:=(aG h.MS).trans p1;have q2:(upd H1 a.d2 (.dT (kw (ts++[⟨x,y,0,false⟩])))) a.d2=_:=aE;have q3:(upd H1 a.d2 (.dT (kw (ts++[⟨x,y,0,false⟩])))) a.d3=_:=(aG h.Ra.symm).trans p3;have F2:Fm [a.d1,a.d2,a.d3] H (upd H1 a.d2 (.dT (kw (ts++[⟨x,y,0,false⟩])))):=F1.trans (Fm.upd (ai _ aw));generalize upd H1 a.d2 (.dT (kw (ts++[⟨x,y,0,false⟩])))=H2 at ht2 o2 q1 q2 q3 F2;k_go;refine ⟨a.q,A.bJ,a.dq,_,_,rfl,o2,ct.lc,ct.l3,fL3,?_⟩;lk;refine .inr ⟨a.d3,_,rfl,CC.t (k:=pk x y) q3 ht2 (eL (m:=100) (by rw [pS];lia)),?_⟩;rw [kn (λt=>V.int (a.g t.x t.y)) (.int (a.g x y)) rfl];have ht3:=td (ks':=kv a.g (ts++[⟨x,y,0,false⟩])) ht2 q3;have F3:Fm [a.d1,a.d2,a.d3] H (upd H2 a.d3 (.dT (kv a.g (ts++[⟨x,y,0,false⟩])))):=F2.trans (Fm.upd (ai _ (ai _ aw)));have h3:LV C A (upd H2 a.d3 (.dT (kv a.g (ts++[⟨x,y,0,false⟩])))) a n T (ts++[⟨x,y,0,false⟩]) as R:=h.sets F3 ((aG h.Ot).trans q1) ((aG h.Ra).trans q2) aE
 have S3:Fm (fp a) H (upd H2 a.d3 (.dT (kv a.g (ts++[⟨x,y,0,false⟩])))):=F3.mono λb hb=>by
  simp only [au,cH,or_false] at hb
  rcases hb with rfl|rfl|rfl
  .exact fp1
  .exact fp2
  .exact fp3
 generalize upd H2 a.d3 (.dT (kv a.g (ts++[⟨x,y,0,false⟩])))=H3 at ht3 h3 S3;obtain ⟨w,hw,hwm⟩:=h3.get (aM _);have W3:=h3.wa 0 w hw;have D3:=h3.wd 0 (aM _);k_in;refine m5 ?_;lk;refine ⟨a.q,A.bJ,a.dq,_,_,rfl,h3.ob,ct.lc,ct.l4,Wp,?_⟩;lk;refine j4 (cL.of h3.ls) (eI (j:=0) rfl (by rw [aA,hw];rfl)) ?_;refine ⟨w.1,w.2.1,_,rfl,W3.ob,kD _ _,?_⟩;lk;refine dX (ie.of ht3) (eI (j:=0) rfl rfl) ?_;lk;refine dX (ie.of ht3) (eI (j:=1) rfl rfl) ?_;lk;refine ⟨w.1,w.2.1,w.2.2,n,x,y,as 0,R 0,rfl,ct.w,W3,D3,hx,hy,?_⟩;refine ⟨_,rfl,?_⟩
 by_cases hj:(y:Int)∈R 0 x
 .rw [decide_eq_true hj];rw [if_neg (by simp)];k_go;refine ⟨a.q,A.bJ,a.dq,_,_,rfl,h3.ob,ct.lc,ct.l2,Tc,?_⟩;lk;refine .inr ⟨a.d2,.bl false,rfl,.inr ⟨_,pk x y,t,.inl h3.e2,rfl,ht3,(iE (f:=λt=>V.bl t.wd) hnd' hu).symm⟩,?_⟩;exact k _ _ as R H3 h3 (.inl ⟨hj,rfl,rfl,rfl⟩) S3
 .rw [decide_eq_false hj];rw [if_pos (by simp)];k_in;refine ⟨a.q,a.dq,_,rfl,h3.ob,UP,?_⟩;lk;refine ⟨a,n,T,_,as,R,t,⟨x,y,0,false⟩,rfl,ct,h3,hn,hu,hnd',hx,hy,aM _,λi hi=>by rw [Rv.mp hi];exact hj,ht3,by simp;lia,λas' H4 h4 S4=>?_⟩;have ht4:H4 t=some (.tup [.int x,.int y]):=S4 _ _ (h3.vA ht3) ht3;k_go;refine ⟨a.q,A.bJ,a.dq,_,_,rfl,h4.ob,ct.lc,ct.l2,Tc,?_⟩;lk;refine .inr ⟨a.d2,.bl true,rfl,.inr ⟨_,pk x y,t,.inl h4.e2,rfl,ht4,(iE (f:=λt=>V.bl t.wd) (t:=⟨x,y,0,true⟩) (by rw [j5 (f:=Ti.uW) (λ_=>rfl)];exact hnd') ((kr (f:=Ti.uW) hnd' hu _).mpr (.inl rfl))).symm⟩,?_⟩;exact k _ _ as' _ H4 h4 (.inr ⟨hj,rfl,rfl,rfl⟩) (S3.trans S4)
inductive cj (K:aa) (C:ag) (A:CA) (vs:List V) (H:Hp) (Q:VK) (E:XK):Prop
 | mk (a:AL) (n T:Nat) (ts:List Ti) (as:Nat->List ag) (R:Nat->Nat->List Int) (lv:Nat) (t:ag) (x y:Nat):vs=[.ref a.q,.int lv,.ref t]->CS K C A->LV C A H a n T ts as R->(R lv x).length+(R lv y).length+2<=400->lv<=T->x<n->y<n->H t=some (.tup [.int x,.int y])->(∀ q (ks:List Int) (s o:Nat),(s=x/\o=y\/s=y/\o=x)->(R lv s).length<=(R lv o).length->H q=none->(∀ z,z∈ks↔z∈R lv s)->Q (.ref q) (upd H q (.lst (ks.map V.int))))->cj K C A vs H Q E
theorem pU:Rn (cj K C A) (kZ K C A (jO K C) (jB K C)) ["self","level","tie","wood"]:=by
 rintro vs H Q E ⟨a,n,T,ts,as,R,lv,t,x,y,rfl,ct,h,hn,hl,hx,hy,ht,k⟩;obtain ⟨w,hw,hwm⟩:=h.get hl;have W:=h.wa lv w hw;have D:=h.wd lv hl;have lx:=D.len hx;have ly:=D.len hy;obtain ⟨dx,_,_,cx⟩:=(D.r x hx).cnt;obtain ⟨dy,_,_,cy⟩:=(D.r y hy).cnt;unfold kZ;k_go;refine ⟨a.q,A.bJ,a.dq,_,_,rfl,h.ob,ct.lc,ct.l4,Wp,?_⟩;lk;refine j4 (cL.of h.ls) (eI (j:=lv) rfl (by rw [aA,hw];rfl)) ?_;k_in;refine ⟨w.1,w.2.1,_,rfl,W.ob,kD _ _,?_⟩;k_in;refine ⟨w.1,w.2.1,_,rfl,W.ob,kD _ _,?_⟩;lk;refine dX (ie.of ht) (eI (j:=0) rfl rfl) ?_;lk;refine ⟨w.1,w.2.1,w.2.2,n,x,as lv,R lv,rfl,ct.w,W,D,hx,?_⟩;refine vh ?_;lk;refine ⟨w.1,w.2.1,_,rfl,W.ob,kD _ _,?_⟩;lk;refine dX (ie.of ht) (eI (j:=1) rfl rfl) ?_;lk;refine ⟨w.1,w.2.1,w.2.2,n,y,as lv,R lv,rfl,ct.w,W,D,hy,?_⟩;lk;refine qC (λc=>?_) λc=>?_
 .lk;refine dX (ie.of ht) (eI (j:=0) rfl rfl) ?_;lk;exact ⟨w.1,w.2.1,w.2.2,n,x,as lv,R lv,rfl,ct.w,W,D,by lia,hx,λq ks hq _ hm=>k q ks x y (.inl ⟨rfl,rfl⟩) (by lia) hq hm⟩
 .lk;refine dX (ie.of ht) (eI (j:=1) rfl rfl) ?_;lk;exact ⟨w.1,w.2.1,w.2.2,n,y,as lv,R lv,rfl,ct.w,W,D,by lia,hy,λq ks hq _ hm=>k q ks y x (.inr ⟨rfl,rfl⟩) (by lia) hq hm⟩
theorem nH.keep (h:nH Pt H) (S:∀ b o,(∀ ks,o≠.dT ks)->(∀ xs,o≠.lst xs)->(∀ x y z,o≠.ins x y z)->(∀ o' ks,o≠.frz o' (.dT ks))->H b=some o->H' b=some o):nH Pt H':=by
 rcases h with h|⟨c',oc,vs,t,h1,h2,h3⟩
 .exact .inl (S _ _ (λ_ z=>nomatch z) (λ_ z=>nomatch z) (λ_ _ _ z=>nomatch z) (λ_ _ z=>nomatch z) h)
 .exact .inr ⟨c',oc,vs,t,S _ _ (λ_ z=>nomatch z) (λ_ z=>nomatch z) (λ_ _ _ z=>nomatch z) (λ_ _ z=>nomatch z) h1,S _ _ (λ_ z=>nomatch z) (λ_ z=>nomatch z) (λ_ _ _ z=>nomatch z) (λ_ _ z=>nomatch z) h2,h3⟩
theorem nH.same (h:nH Pt H) (S:bQ H H'):nH Pt H':=h.keep λb o _ _ _ _ e=>S b o e
theorem nH.fm (h:nH Pt H) (L:LV C A H a n T ts as R) (S:Fm (fp a) H H'):nH Pt H' :=
 h.keep λb o h1 h2 _ _ e=>S b o (L.out e h1 λ_ _=>h2 _) e
theorem nH.ne (h:nH Pt H) {b:ag}{o:HO}(e:H b=some o) (hn:∀ ps,o≠.tbl ps):b≠Pt:=λz=>by
 obtain ⟨ps,q⟩:=h.tbl;rw [z,q] at e;exact hn ps (a7 e).symm
def AtL (ts:List Ti) (lv:Nat) (w:Bool) (zs:List Zt):Prop:=(zs.map zP).Nodup/\∀ k,k∈zs.map zP↔∃ t∈ts,t.cA=lv/\t.wd=w/\t.key=k
inductive jI (K:aa) (C:ag) (A:CA) (Pt:ag) (vs:List V) (H:Hp) (Q:VK) (E:XK):Prop
 | mk (a:AL) (n T:Nat) (ts:List Ti) (as:Nat->List ag) (R:Nat->Nat->List Int) (lv:Nat) (w:Bool):vs=[.ref a.q,.int lv,.bl w]->CS K C A->LV C A H a n T ts as R->(ts.map Ti.key).Nodup->ts.length<99->nH Pt H->(∀ (q:ag) (zs:List Zt) (o:jk) H',H q=none->H' q=some (.lst (zs.map gH))->(∀ z∈zs,jH H' z)->AtL ts lv w zs->H' a.d1=some (.frz o (.dT (kl ts)))->nH Pt H'->Fm [Pt,a.d1] H H'->Q (.ref q) H')->jI K C A Pt vs H Q E
inductive cE (K:aa) (C:ag) (A:CA) (Pt:ag) (vs:List V) (H:Hp) (Q:VK) (E:XK):Prop
 | mk (a:AL) (n T:Nat) (ts:List Ti) (as:Nat->List ag) (R:Nat->Nat->List Int) (lv:Nat) (w:Bool):vs=[.ref a.q,.int lv,.bl w]->CS K C A->LV C A H a n T ts as R->(ts.map Ti.key).Nodup->ts.length<99->nH Pt H->(∀ (q:ag) (zs:List Zt) H',H q=none->H' q=some (.lst (zs.map gH))->(∀ z∈zs,jH H' z)->AtL ts lv w zs->nH Pt H'->k9 Pt H H'->Q (.ref q) H')->cE K C A Pt vs H Q E
theorem rW:∀ vs H Q E,cE K C A Pt vs H Q E->jI K C A Pt vs H (SE H Q) E:=by
 rintro vs H Q E ⟨a,n,T,ts,as,R,lv,w,rfl,ct,h,hnd,hlen,hT,k⟩;refine ⟨a,n,T,ts,as,R,lv,w,rfl,ct,h,hnd,hlen,hT,λq zs o H' hq gq pz hz gd hT' B=>.inr ⟨a.d1,o,kl ts,(λo' u' e=>by rw [h.e1] at e;cases e),gd,?_⟩⟩;have hqd:q≠a.d1:=Ne.symm (aQ h.e1 hq)
 have ne:∀ {b:ag}{u:HO},H' b=some u->(∀ o' ks,u≠.frz o' (.dT ks))->(upd H' a.d1 (.dT (kl ts))) b=some u:=λ{b u} e q=>by rw [aG];exact e;rintro rfl;rw [gd] at e;cases e;exact q _ _ rfl
 refine k q zs _ hq (by rw [aG hqd];exact gq) (λz hz'=>ne (pz z hz') (λ_ _ z=>nomatch z)) hz (hT'.keep λb u _ _ _ h4 e=>ne e h4) λb u hb e=>?_
 by_cases c:b=a.d1
 .subst c;rw [aE,← h.e1,e]
 .rw [aG c];exact B _ _ (by simp [hb,c]) e
theorem rX:Rn (jI K C A Pt) (nh K C A (fe K C Pt)) UO:=by
 rintro vs H Q E ⟨a,n,T,ts,as,R,lv,w,rfl,ct,h,hnd,hlen,hT,k⟩;unfold nh;lk;refine Uj ?_;refine m5 ?_;lk;refine ⟨a.q,A.bJ,a.dq,_,_,rfl,h.ob,ct.lc,ct.l1,QB,?_⟩;refine ⟨a.d1,kl ts,rfl,.inl ⟨h.e1,λo=>?_⟩⟩;have g1:(upd H a.d1 (.frz o (.dT (kl ts)))) a.d1=some (.frz o (.dT (kl ts))):=aE;have B1:bh a.d1 H (upd H a.d1 (.frz o (.dT (kl ts)))):=bh.upd;generalize upd H a.d1 (.frz o (.dT (kl ts)))=H1 at g1 B1;have q1:=B1 _ _ h.ob (gK h.ob h.e1);have w1:=B1 _ _ h.e2 (Ne.symm h.MS);have v1:=B1 _ _ h.e3 (Ne.symm h.Ot)
 have T1:nH Pt H1:=hT.keep λb u h1 _ _ _ e=>B1 _ _ e λz=>by rw [z,h.e1] at e;cases e;exact h1 _ rfl
 intro acc hacc;refine mE (n:=ts.length) (λt ys H4=>H4 acc=some (.lst ys)/\bQ H1 H4/\∃ us:List (Ti×ag),ys=us.map (λu=>V.ref u.2)/\us.map (·.1)=(ts.take t).filter (λu=>decide (u.cA=lv))/\∀ u∈us,H4 u.2=some (.tup [.int u.1.x,.int u.1.y])) (λZ=>∃ o,Z=[o,some (.int lv),some (.ref a.q)]) ⟨aE,bQ.cC hacc,[],rfl,rfl,λz hz=>nomatch hz⟩ ⟨_,rfl⟩ ?_ ?_ ?_ ?_
 .rintro t ys H4 ⟨e,_⟩;exact e
 .rintro ys H4 ⟨g4,S4,us,rfl,hu,fl⟩;refine ⟨⟨by rw [pS];exact ak _,S4 _ _ g1⟩,?_⟩;rw [bT (ak _)] at hu
  have hul:us.length<=ts.length:=by have:=congrArg eD hu;rw [af] at this;rw [this];exact dF _ _
  lk;refine .inl ⟨⟨_,cL.of g4⟩,λacc2 hacc2=>?_⟩;refine mF (K:=K) (z:=acc) (xs:=us.map λu=>V.ref u.2) us (λu=>decide (u.1.wd=w)) (λu=>V.ref u.2) (λZ=>∃ o,Z=[o,some (.bl w),some (.ref a.q)]) (by simp) (cL.of g4) hacc2 ⟨_,rfl⟩ (by rw [af];lia) ?_ ?_
  .rintro i u x σ' H' G G' hi hx S' ⟨o',rfl⟩ k1 k2
   have ex:x=.ref u.2:=by rw [aA,hi] at hx;exact (a7 hx).symm
   subst ex;have hum:=aN hi
   have hut:u.1∈ts:=by
    have:u.1∈us.map (·.1):=aX hum;rw [hu] at this;exact (dR.mp this).1
   k_go;refine ⟨a.q,A.bJ,a.dq,_,_,rfl,S' _ _ (S4 _ _ q1),ct.lc,ct.l2,Tc,?_⟩;lk;refine .inr ⟨a.d2,.bl u.1.wd,rfl,.inr ⟨kw ts,pk u.1.x u.1.y,u.2,.inl (S' _ _ (S4 _ _ w1)),rfl,S' _ _ (fl u hum),(iE (f:=λt=>V.bl t.wd) hnd hut).symm⟩,?_⟩;lk;have e:decide (V.bl u.1.wd=V.bl w)=decide (u.1.wd=w):=decide_eq_decide.mpr ⟨λq=>by injection q,λq=>by rw [q]⟩;rw [e]
   cases c:decide (u.1.wd=w) with
   | true =>
    refine mD ?_;lk
    exact k1 c _ ⟨_,rfl⟩
   | false=>exact mX (k2 c _ ⟨_,rfl⟩)
  .intro H' S' hacc';have S5:=S4.trans S';generalize eu:us.filter (λu=>decide (u.1.wd=w))=us2 at hacc'
   have hu2:us2.map (·.1)=(ts.filter λu=>decide (u.cA=lv)).filter λu=>decide (u.wd=w):=by rw [← hu,← eu,ui];rfl
   have fl2:∀ u∈us2,H' u.2=some (.tup [.int u.1.x,.int u.1.y]):=λu hu=>S' _ _ (fl u (by rw [← eu] at hu;exact (dR.mp hu).1))
   have hm2:∀ u,u∈us2.map (·.1)↔u∈ts/\u.cA=lv/\u.wd=w:=λu=>by
    rw [hu2,dR,dR,decide_eq_true_iff,decide_eq_true_iff,and_assoc]
   have hl2:us2.length<=ts.length:=by rw [← eu];exact bA (dF _ _) hul
   k_go;refine ⟨a.q,A.bJ,a.dq,_,_,rfl,S5 _ _ q1,ct.lc,ct.l3,fL3,?_⟩;lk;refine ⟨acc2,a.d3,kv a.g ts,rfl,S5 _ _ v1,T1.same S5,.inl ⟨us2.map (λu=>([a.g u.1.x u.1.y,(u.1.x:Int),(u.1.y:Int)],u.2)),by rw [hacc',cf];rfl,λz hz=>?_,by rw [af];lia,λl zs' H2 hl S6 T6 hp=>?_⟩⟩
   .obtain ⟨u,hum,rfl⟩:=bo.mp hz;exact ⟨_,u.1.x,u.1.y,rfl,fl2 u hum,iE (f:=λt=>V.int (a.g t.x t.y)) hnd ((hm2 u.1).mp (aX hum)).1⟩
   .have T5:=T1.same S5
    have hlP:l≠Pt:=λz=>by
     obtain ⟨ps,e⟩:=T6.tbl;rw [z,e] at hl;cases hl
    have F6:Fm [Pt,a.d1] H H2:=λb u hb e=>by
     simp only [au,cH,or_false,not_or] at hb;exact S6 _ _ hb.1 (S5 _ _ (B1 _ _ e hb.2))
    have d6:H2 a.d1=some (.frz o (.dT (kl ts))):=S6 _ _ (T5.ne (S5 _ _ g1) (λ_ z=>nomatch z)) (S5 _ _ g1);have hld:a.d1≠l:=aQ d6 hl
    have U:∀ {b:ag}{u:HO},H2 b=some u->(upd H2 l (.lst (zs'.map kb))) b=some u:=λe=>by rw [aG (aQ e hl)];exact e
    have hzP:(zs'.map λz=>(z.1.getD 1 0,z.1.getD 2 0,z.2)).map zP=zs'.map λz=>(z.1.getD 1 0,z.1.getD 2 0):=by rw [cf];rfl
    have hperm:(zs'.map λz=>((z.1.getD 1 0,z.1.getD 2 0):Int×Int)).Perm ((us2.map (·.1)).map Ti.key):=by
     have:=hp.map λz:Zn=>((z.1.getD 1 0,z.1.getD 2 0):Int×Int)
     rw [cf] at this;rw [cf];exact this
    refine k l (zs'.map λz=>(z.1.getD 1 0,z.1.getD 2 0,z.2)) o _ (F6.free (by simp [hlP,hld.symm]) hl) (by rw [aE,cf];rfl) (λz hz=>?_) ⟨?_,λkey=>?_⟩ (U d6) (T6.keep λb u _ _ _ _ e=>U e) (F6.trans λb u _ e=>U e)
    .obtain ⟨z',hz',rfl⟩:=bo.mp hz;obtain ⟨u,hum,rfl⟩:=bo.mp (hp.mem_iff.mp hz');exact U (S6 _ _ (T5.ne (fl2 u hum) (λ_ z=>nomatch z)) (fl2 u hum))
    .rw [hzP,hperm.nodup_iff,hu2];exact ((ka.trans ka).map _).nodup hnd
    .rw [hzP,hperm.mem_iff,bo];exact ⟨λ⟨u,h1,h2⟩=>⟨u,((hm2 u).mp h1).1,((hm2 u).mp h1).2.1,((hm2 u).mp h1).2.2,h2⟩,λ⟨u,h1,h2,h3,h4⟩=>⟨u,(hm2 u).mpr ⟨h1,h2,h3⟩,h4⟩⟩
 .rintro t ys H4 ht ⟨_,S4,_⟩;exact ⟨by rw [pS];exact ht,S4 _ _ g1⟩
 .rintro t ys σ' H4 x H5 ht ⟨g4,S4,us,rfl,hu,fl⟩ ⟨o',rfl⟩ ⟨eH,key,v,b,hk,ex,hb⟩;subst eH ex
  obtain ⟨u,hu',eu⟩:∃ u,ts[t]?=some u/\(pk u.x u.y,V.int u.cA)=(key,v):=by
   have hk:(ts.map λt=>(pk t.x t.y,V.int t.cA))[t]?=some (key,v):=hk;rw [aA] at hk;exact br.mp hk
  cases eu;have hum:=aN hu';have hb:H5 b=some (.tup [.int u.x,.int u.y]):=hb;k_go;refine ⟨a.q,A.bJ,a.dq,_,_,rfl,S4 _ _ q1,ct.lc,ct.l1,QB,?_⟩;lk;refine .inr ⟨a.d1,.int u.cA,rfl,.inr ⟨kl ts,pk u.x u.y,b,.inr ⟨o,S4 _ _ g1⟩,rfl,hb,(iE (f:=λt=>V.int t.cA) hnd hum).symm⟩,?_⟩
  have etk:ts.take (t+1)=ts.take t++[u]:=by rw [fo,hu'];rfl
  have hul:us.length<=ts.length:=by have:=congrArg eD hu;rw [af] at this;rw [this];exact bA (dF _ _) (by rw [bS];lia)
  lk;refine qC (λc=>?_) λc=>?_
  .have c:u.cA=lv:=by have:=lp.mp c;lia
   lk;refine ⟨g4,eL (m:=100) (by rw [af];lia),kI.mk' ht ⟨_,rfl⟩ ⟨aE,λb' ob e=>by rw [aG (aQ e hacc)];exact S4 _ _ e,us++[(u,b)],by simp,?_,λz hz=>?_⟩⟩
   .rw [aZ,hu,etk,eS];simp [c]
   .rcases aS.mp hz with hz|hz
    .rw [aG (gK (fl z hz) g4)];exact fl z hz
    .rw [aC.mp hz,aG (gK hb g4)];exact hb
  .have c:¬ u.cA=lv:=λe=>c (by rw [e]);refine kI.mk' ht ⟨_,rfl⟩ ⟨g4,S4,us,rfl,?_,fl⟩;rw [hu,etk,eS];simp [c]
theorem Fm.skip {X:List ag}{c:ag}{H1 H2:Hp}(S:Fm X H H1) (S2:Fm (c::X) H1 H2) (hc:H c=none):Fm X H H2:=λb o hb e=>S2 b o (λz=>by
 rcases au.mp z with z|z
 .rw [z,hc] at e;cases e
 .exact hb z) (S b o hb e)
theorem ew2 {x y:Int}{S:List Int}:ew x y S=2↔x∈S/\y∈S:=by
 unfold ew;by_cases c1:x∈S<;>by_cases c2:y∈S<;>simp [c1,c2]
theorem ew1 {x y:Int}{S:List Int}:ew x y S=1↔(x∈S/\y∉S\/x∉S/\y∈S):=by
 unfold ew;by_cases c1:x∈S<;>by_cases c2:y∈S<;>simp [c1,c2]
theorem LV.Q5 (h:LV C A H a n T ts as R) (hP:nH Pt H) (S:k9 Pt H H'):LV C A H' a n T ts as R :=
 h.keep (X:=[Pt]) (λb o hb e=>S b o (λz=>hb (aC.mpr z)) e) (λx fs e hf _ hx=>hP.ne e (by obtain ⟨c,d,f,rfl,_⟩:=hf;exact λ_ z=>nomatch z) (aC.mp hx)) (λb hb hx=>by
  rcases h.kind hb with ⟨ks,q⟩|⟨bs,_,q⟩
  .exact hP.ne q (λ_ z=>nomatch z) (aC.mp hx)
  .exact hP.ne q (λ_ z=>nomatch z) (aC.mp hx)) (λhx=>hP.ne h.ls (λ_ z=>nomatch z) (aC.mp hx)) λb r _ e hx=>hP.ne e (λ_ z=>nomatch z) (aC.mp hx)
theorem LV.app {c:ag}{ys xs:List V}(h:LV C A H a n T ts as R) (hc:H c=some (.lst ys)) (hi:∀ i r,ys≠V.int i::r) (n1:c∉fp a) (n2:a.L≠c):LV C A (upd H c (.lst xs)) a n T ts as R :=
 h.keep (X:=[c]) (Fm.upd aw) (λx fs e hf _ hx=>by
  rw [aC.mp hx,hc] at e;obtain ⟨c,d,f,rfl,_⟩:=hf
  cases e) (λb hb hx=>n1 (aC.mp hx▸hb)) (λhx=>n2 (aC.mp hx)) λb r hr e hx=>by
  rw [aC.mp hx,hc] at e
  injection e with e
  injection e with e
  match r,hr with
  | x::r,_=>exact hi _ _ e
inductive dM (K:aa) (C:ag) (A:CA) (Pt:ag) (vs:List V) (H:Hp) (Q:VK) (E:XK):Prop
 | mk (a:AL) (n T:Nat) (ts:List Ti) (as:Nat->List ag) (R:Nat->Nat->List Int) (lv:Nat) (t:ag) (x y:Nat):vs=[.ref a.q,.int lv,.ref t]->CS K C A->LV C A H a n T ts as R->n<=200->(∀ j,2^(j+1)<=n->j<=T)->Dn n T ts R x y (lv+1)->H t=some (.tup [.int x,.int y])->ts.length<99->nH Pt H->(∀ ts' as' R' H' (u:Tt),H u.p=none->H u.q=none->CD H' u->LV C A H' a n T ts' as' R'->nH Pt H'->Fm (Pt::fp a) H H'->ts'.map Ti.key=ts.map Ti.key->jg ts'=jg ts+u.xs.length->(u.f=.non/\Dn n T ts' R' x y lv\/u.f≠.non/\Lv n T ts' R'/\Jn ts' R')->Q (.ref u.p) H')->dM K C A Pt vs H Q E
theorem zQ:Rn (dM K C A Pt) (rQ K C A (cj K C A) (cE K C A Pt) (dh K C A) (di K C) (cn K C A)) UH:=by
 rintro vs H Q E ⟨a,n,T,ts,as,R,lv,t,x,y,rfl,ct,h,hn,hT,D,ht,hlen,hP,k⟩
 have hlv:lv<=T:=by have:=D.hk;lia
 have hnd:=D.lv.nd;have f0:∀ {m:bD},¬ m="level_of"->¬ m="wooden"->¬ m="weight_of"->¬ m="woods"->(fL a.d1 a.d2 a.d3 a.L).lookup m=none:=λh1 h2 h3 h4=>UP h1 h2 h3 h4;unfold rQ;k_in;refine ⟨a.q,a.dq,_,rfl,h.ob,f0 (by decide +kernel) (by decide +kernel) (by decide +kernel) (by decide +kernel),?_⟩;lk;refine ⟨a,n,T,ts,as,R,lv,t,x,y,rfl,ct,h,(by have:=bA (Nat.le_mul_of_pos_right _ (Nat.two_pow_pos lv)) (D.s2 lv (i4 _));lia),hlv,D.ha,D.hb,ht,λq ks s o hso hle hq hks=>?_⟩
 have D':Dn n T ts R s o (lv+1):=by
  rcases hso with ⟨rfl,rfl⟩|⟨rfl,rfl⟩
  .exact D
  .exact D.swap
 have back:∀ {ts' R'},Dn n T ts' R' s o lv->Dn n T ts' R' x y lv:=λd=>by
  rcases hso with ⟨rfl,rfl⟩|⟨rfl,rfl⟩
  .exact d
  .exact d.swap
 have hs:((R lv s).length+1)*2^(lv+1)<=2*n:=by
  refine bA ?_ (D'.s2 lv (i4 _));rw [Ol,Nat.mul_comm (2^lv) 2,← Nat.mul_assoc];exact nz _ (by lia)
 generalize eu_:upd H q (.lst (ks.map V.int))=H1;obtain ⟨S1,g1⟩:=km eu_ hq;have h1:=h.same S1;k_in;refine ⟨a.q,a.dq,_,rfl,h1.ob,f0 (by decide +kernel) (by decide +kernel) (by decide +kernel) (by decide +kernel),?_⟩;lk;refine ⟨a,n,T,ts,as,R,lv,true,rfl,ct,h1,hnd,hlen,hP.same S1,λz0 zs H2 hz0 gz pz az P2 S2=>?_⟩;have h2:=h1.Q5 (hP.same S1) S2;have g2:H2 q=some (.lst (ks.map V.int)):=S2 _ _ ((hP.same S1).ne g1 (λ_ z=>nomatch z)) g1
 have hzl:zs.length<=ts.length:=by
  have:=Bg (l:=zs.map zP) (m:=ts.map Ti.key) az.1 λp hp=>by
   obtain ⟨t,t1,_,_,t4⟩:=(az.2 p).mp hp;exact t4▸aX t1
  simpa using this
 refine ⟨z0,rfl,.inl ⟨⟨_,cL.of gz⟩,λacc hacc=>?_⟩⟩;have nacc:=h2.Ej hacc;have nLacc:a.L≠acc:=aQ h2.ls hacc;refine mE (n:=zs.length) (λi ys H4=>ys=((zs.take i).filter λz=>decide (ew z.1 z.2.1 ks=2)).map gH/\H4 acc=some (.lst ys)/\bQ H2 H4) (λZ=>∃ o,Z=[o,some (.ref q)]) ⟨by simp,aE,bQ.cC hacc⟩ ⟨_,rfl⟩ ?_ ?_ ?_ ?_
 .rintro i ys H' ⟨_,h,_⟩;exact h
 .rintro ys H3 ⟨rfl,g3,S3⟩;refine ⟨⟨_,cL.of (S3 _ _ gz),by rw [af];exact ak _⟩,?_⟩;rw [bT (ak _)] at g3;generalize ew':zs.filter (λz=>decide (ew z.1 z.2.1 ks=2))=ws at g3
  have hws:∀ z,z∈ws↔z∈zs/\z.1∈ks/\z.2.1∈ks:=λz=>by rw [← ew',dR,decide_eq_true_iff,ew2]
  have wnd:(ws.map zP).Nodup:=by rw [← ew'];exact (ka.map _).nodup az.1
  have h3:=h2.same S3;have P3:=P2.same S3;have q3:=S3 _ _ g2;have pw:∀ z∈ws,jH H3 z:=λz hz=>S3 _ _ (pz z ((hws z).mp hz).1)
  have st:∀ z∈ws,∃ t∈ts,t.key=zP z/\t.wd=true/\t.cA=lv/\(t.x:Int)∈R lv s/\(t.y:Int)∈R lv s:=λz hz=>by
   obtain ⟨m1,m2,m3⟩:=(hws z).mp hz;obtain ⟨t,t1,t2,t3,t4⟩:=(az.2 (zP z)).mp (aX m1);obtain ⟨e1,e2⟩:=cS t4;exact ⟨t,t1,t4,t3,t2,by rw [e1];exact (hks _).mp m2,by rw [e2];exact (hks _).mp m3⟩
  lk;unfold oZ;lk
  refine .inl ⟨⟨_,cL.of g3⟩,lR (K:=K) (a:=acc) (xs:=ws.map gH) (λi Z H4=>∃ ts1 as1 R1 o5 o6,Z=[some (.ref a.q),some (.int lv),some (.ref t),some (.ref q),some (.ref acc),o5,o6]/\LV C A H4 a n T ts1 as1 R1/\Zy n T lv s o ts R (ws.map zP) i ts1 R1/\jg ts1=jg ts+i/\Fm (fp a) H3 H4)
   ⟨ts,as,R,_,_,rfl,h3,⟨D',rfl,rfl,λt ht h1 h2 h3 h4=>?_,λp hp=>?_,λp hp=>?_⟩,rfl,Fm.refl⟩ ?_ ?_ ?_⟩
  .obtain ⟨z,hz,e⟩:=bo.mp ((az.2 t.key).mpr ⟨t,ht,h2,h1,rfl⟩);obtain ⟨e1,e2⟩:=cS e;exact bo.mpr ⟨z,(hws z).mpr ⟨hz,by rw [e1];exact (hks _).mpr h3,by rw [e2];exact (hks _).mpr h4⟩,e⟩
  .obtain ⟨z,hz,rfl⟩:=bo.mp hp;exact st z hz
  .obtain ⟨z,hz,rfl⟩:=bo.mp hp;obtain ⟨t,h1,h2,h3,_⟩:=st z hz;exact ⟨t,h1,h2,h3⟩
  .rintro i Z H4 _ ⟨_,_,_,_,_,_,_,_,_,F⟩;exact cL.of (F _ _ nacc g3)
  .rintro i v Z H4 hi ⟨ts1,as1,R1,o5,o6,rfl,L4,M,hs1,F⟩;rw [aA] at hi;obtain ⟨z,hz,rfl⟩:=br.mp hi;obtain ⟨u,u1,u2,u3,u4,u5,M'⟩:=M.step hT hs wnd (p:=zP z) (by rw [aA,hz];rfl);have hpz:=pw z (aN hz)
   have hpz4:H4 z.2.2=some (.tup [.int u.x,.int u.y]):=by
    obtain ⟨e1,e2⟩:=cS u2;rw [e1,e2];exact F _ _ (h3.vA hpz) hpz
   obtain ⟨l1,l2,_⟩:=M.dn.lv.lt u u1
   have hl1:ts1.length=ts.length:=by have:=congrArg eD M.ks;simpa using this
   k_in;refine ⟨a.q,a.dq,_,rfl,L4.ob,f0 (by decide +kernel) (by decide +kernel) (by decide +kernel) (by decide +kernel),?_⟩;lk;refine ⟨a,n,T,ts1,as1,R1,z.2.2,u,rfl,ct,L4,by lia,u1,M.dn.lv.nd,by lia,l2,λ_=>⟨u4,u5⟩,hpz4,by lia,λas' R' H5 L5 eR F5=>?_⟩;rw [u3,if_pos rfl] at eR;subst eR;exact ⟨_,as',_,_,_,rfl,L5,M',by rw [FW M.dn.lv.nd u1,hs1];rfl,F.trans F5⟩
  .rintro Z H4 ⟨ts1,as1,R1,o5,o6,rfl,L4,M,hls1,F⟩;rw [af] at M hls1;have P4:=P3.fm h3 F;have a4:=F _ _ nacc g3;have q4:=F _ _ (h3.Tw q3) q3;have ed:(ws.map zP).drop ws.length=[]:=OD.mpr (by rw [af];exact ak _)
   have hno:∀ t∈ts1,t.wd=true->t.cA=lv->(t.x:Int)∈R1 lv s->(t.y:Int)∈R1 lv s->False:=λt h1 h2 h3 h4 h5=>by
    rw [M.rl] at h4 h5;have:=M.pend t h1 h2 h3 h4 h5;rw [ed] at this;cases this
   have hl1:ts1.length=ts.length:=by have:=congrArg eD M.ks;simpa using this
   have hs1:((R1 lv s).length+1)*2^(lv+1)<=2*n:=by rw [M.rl];exact hs
   have hks1:∀ z,z∈ks↔z∈R1 lv s:=by rw [M.rl];exact hks
   lk;unfold o8;k_in;refine ⟨a.q,a.dq,_,rfl,L4.ob,f0 (by decide +kernel) (by decide +kernel) (by decide +kernel) (by decide +kernel),?_⟩;lk;refine ⟨a,n,T,ts1,as1,R1,lv,false,rfl,ct,L4,M.dn.lv.nd,by lia,P4,λz5 zs3 H5 hz5 gz5 pz5 az5 P5 S5=>?_⟩;have L5:=L4.Q5 P4 S5;have a5:H5 acc=some (.lst (ws.map gH)):=S5 _ _ (P4.ne a4 (λ_ z=>nomatch z)) a4;have q5:H5 q=some (.lst (ks.map V.int)):=S5 _ _ (P4.ne q4 (λ_ z=>nomatch z)) q4;have nqa:q≠acc:=aQ g2 hacc;have n5a:z5≠acc:=Ne.symm (aQ a4 hz5);have n5f:=L4.Ej hz5;have n3:(zs3.map zP).Nodup:=az5.1
   have hcnt:ws.length+zs3.length<=ts.length:=by
    have:=Bg (l:=ws.map zP++zs3.map zP) (m:=ts1.map Ti.key) (eE.mpr ⟨wnd,n3,λp hp p' hp' e=>by
     subst e;obtain ⟨t,t1,t2,t3⟩:=M.all p hp;obtain ⟨t',s1,_,s3,s4⟩:=(az5.2 p).mp hp';rw [m6 M.dn.lv.nd t1 s1 (t2.trans s4.symm),s3] at t3
     cases t3⟩) λp hp=>by
      rcases aS.mp hp with hp|hp
      .obtain ⟨t,t1,t2,_⟩:=M.all p hp;exact t2▸aX t1
      .obtain ⟨t,t1,_,_,t4⟩:=(az5.2 p).mp hp;exact t4▸aX t1
    simp at this;lia
   -- from the beginning to here
   have F5:Fm (Pt::fp a) H H5:=λb o hb e=>by
    rw [au,not_or] at hb;exact S5 _ _ hb.1 (F _ _ hb.2 (S3 _ _ (S2 _ _ hb.1 (S1 _ _ e))))
   have fr:∀ {b:ag},H5 b=none->H b=none:=λ{b} e=>F5.free (λz=>by
    rcases au.mp z with z|z
    .obtain ⟨ps,q⟩:=P5.tbl;rw [z,q] at e;cases e
    .exact L5.Ej e z) e
   have hacc0:H acc=none:=by
    cases z:H acc with
    | none=>rfl
    | some u =>
     have:H1 acc=some u:=S1 _ _ z
     by_cases c:acc=Pt
     .obtain ⟨ps,q⟩:=P2.tbl;rw [← c,hacc] at q;cases q
     .rw [S2 _ _ c this] at hacc;cases hacc
   have Lf:∀ {H6},Fm (acc::fp a) H5 H6->H6 q=some (.lst (ks.map V.int)):=λF=>F _ _ (λz=>(au.mp z).elim nqa (L5.Tw q5)) q5
   -- the step told
   have told:∀ {ts2 as2 R2 H6} {rs:List Zt}(f:V),LV C A H6 a n T ts2 as2 R2->nH Pt H6->Fm (acc::fp a) H5 H6->H6 acc=some (.lst (rs.map gH))->(∀ z∈rs,jH H6 z)->rs.length<99->ts2.map Ti.key=ts.map Ti.key->jg ts2=jg ts+rs.length->(f=.non/\Dn n T ts2 R2 x y lv\/f≠.non/\Lv n T ts2 R2/\Jn ts2 R2) ->
     ∀ G:VK,(∀ v H7,(∀ p,H7 p=none->Q (.ref p) (upd H7 p (.tup [.int lv,.ref q,v,f])))->G v H7)->oN K [.ref acc] H6 G:=λ{ts2 as2 R2 H6 rs} f L6 P6 F6 g6 p6 hl6 hk hls hf G kG=>by
    have fr6:∀ {b:ag},H6 b=none->H b=none:=λ{b} e=>fr (F6.free (λz=>by
     rcases au.mp z with z|z
     .rw [z,g6] at e;cases e
     .exact L6.Ej e z) e)
    refine ⟨acc,rs.map (λz=>([z.1,z.2.1],z.2.2)),[false],rfl,by rw [cf];exact cL.of g6,λz hz=>let ⟨u,hu,e⟩:=bo.mp hz;e▸⟨_,p6 u hu,.int _ (.int _ .nil)⟩,by rw [af];lia,λl rs' hl pm _=>kG _ _ λp hp=>?_⟩;have S7:=bQ.cC (o:=.lst (rs'.map kb)) hl;have g7:(upd H6 l (.lst (rs'.map kb))) l=some (.lst (rs'.map kb)):=aE;generalize upd H6 l (.lst (rs'.map kb))=H7 at S7 g7 hp;have S8:=bQ.cC (o:=.tup [.int lv,.ref q,.ref l,f]) hp;have S78:=S7.trans S8;exact k ts2 as2 R2 _ ⟨p,q,l,lv,rs'.map kb,f⟩ (fr6 (S7.free hp)) (fr6 hl) ⟨aE,S8 _ _ g7⟩ (L6.same S78) (P6.same S78) (F5.skip ((F6.mono λb hb=>(au.mp hb).elim (λz=>z▸aw) λz=>ai _ (ai _ z)).trans (Fm.of S78)) hacc0) hk (by show _=_+(rs'.map kb).length;rw [af,pm.length_eq,af];exact hls) hf
   refine ⟨z5,rfl,.inl ⟨⟨_,cL.of gz5⟩,lR (K:=K) (a:=z5) (xs:=zs3.map gH) (λi Z H6=>∃ ts2 as2 rs o5 o6,Z=[some (.ref a.q),some (.int lv),some (.ref t),some (.ref q),some (.ref acc),o5,o6]/\LV C A H6 a n T ts2 as2 R1/\nH Pt H6/\NY n T lv s o ts R1 (zs3.map zP) i ts2/\H6 acc=some (.lst (rs.map gH))/\(∀ z∈rs,jH H6 z)/\rs.length<=ws.length+i/\jg ts2=jg ts+rs.length/\Fm (acc::fp a) H5 H6)
    ⟨ts1,as1,ws,_,_,rfl,L5,P5,⟨M.dn,M.ks,λh x y hx hy h1 h2=>M.dn.full hno h hx hy h1 h2,λp hp=>?_,λt h1 h2 h3=>.inl ?_⟩,a5,λz hz=>S5 _ _ (P4.ne (F _ _ (h3.vA (pw z hz)) (pw z hz)) (λ_ z=>nomatch z)) (F _ _ (h3.vA (pw z hz)) (pw z hz)),ak _,hls1,Fm.refl⟩ ?_ ?_ ?_⟩⟩
   .obtain ⟨t,t1,t2,t3,t4⟩:=(az5.2 p).mp hp;exact ⟨t,t1,t4,t3,t2⟩
   .exact (az5.2 t.key).mpr ⟨t,h1,h3,h2,rfl⟩
   .rintro i Z H6 _ ⟨_,_,_,_,_,_,_,_,_,_,_,_,_,F6⟩;exact cL.of (F6 _ _ (λz=>(au.mp z).elim n5a n5f) gz5)
   .rintro i v Z H6 hi ⟨ts2,as2,rs,o5,o6,rfl,L6,P6,N,g6,p6,hl6,hs6,F6⟩;rw [aA] at hi;obtain ⟨z,hz,rfl⟩:=br.mp hi;have hilt:i<zs3.length:=(aD.mp hz).1
    have hpi:(zs3.map zP)[i]?=some (zP z):=by rw [aA,hz];rfl
    have hz5:=pz5 z (aN hz);have hz6:H6 z.2.2=some (.tup [.int z.1,.int z.2.1]):=F6 _ _ (λe=>(au.mp e).elim (gK hz5 a5) (L5.vA hz5)) hz5
    have hl2:ts2.length=ts.length:=by have:=congrArg eD N.ks;simpa using this
    lk;refine ⟨z.2.2,q,z.1,z.2.1,ks,rfl,hz6,Lf F6,λH7 S7=>?_⟩;have L7:=L6.same S7;have P7:=P6.same S7;have F7:=F6.trans (Fm.of S7);have g7:=S7 _ _ g6;have hz7:=S7 _ _ hz6;have p7:∀ z∈rs,jH H7 z:=λz hz=>S7 _ _ (p6 z hz);lk;refine qC (λc=>?_) λc=>?_
    .have c:ew z.1 z.2.1 ks=1:=by have:=lp.mp c;lia
     have c:=ew1.mp c;rw [hks1,hks1] at c;obtain ⟨u,u1,u2,u3,u4,u5⟩:=N.one n3 hpi c;obtain ⟨l1,l2,l3⟩:=N.dn.lv.lt u u1;obtain ⟨e1,e2⟩:=cS u2;k_in;refine ⟨a.q,a.dq,_,rfl,L7.ob,f0 (by decide +kernel) (by decide +kernel) (by decide +kernel) (by decide +kernel),?_⟩;lk;refine ⟨a,n,T,ts2,as2,R1,z.2.2,u,rfl,ct,L7,by lia,u1,N.dn.lv.nd,by lia,l2,l3,u3,by rw [e1,e2];exact hz7,by lia,λas' H8 L8 F8=>?_⟩;lk;refine told (rs:=rs) (.ref z.2.2) L8 (P7.fm L7 F8) (F7.trans F8.tail) (F8 _ _ nacc g7) (λz hz=>F8 _ _ (L7.vA (p7 z hz)) (p7 z hz)) (by lia) (by rw [j5 (f:=Ti.uW) (λ_=>rfl)];exact N.ks) (by rw [SX];exact hs6) (.inr ⟨(λz=>nomatch z),u4,u5⟩) _ λv H9 kk=>?_;lk;exact ⟨bq (m:=4) (ak 4),kk⟩
    .lk;have c1:¬ ew z.1 z.2.1 ks=1:=λe=>c (by rw [e];rfl);refine qC (λc=>?_) λc=>?_
     .have c:ew z.1 z.2.1 ks=2:=by have:=lp.mp c;lia
      have c:=ew2.mp c;rw [hks1,hks1] at c;obtain ⟨u,u1,u2,u3,N'⟩:=N.two hT hs1 n3 hpi c.1 c.2;obtain ⟨l1,l2,l3⟩:=N.dn.lv.lt u u1;obtain ⟨e1,e2⟩:=cS u2;k_in;refine ⟨a.q,a.dq,_,rfl,L7.ob,f0 (by decide +kernel) (by decide +kernel) (by decide +kernel) (by decide +kernel),?_⟩;lk;refine ⟨a,n,T,ts2,as2,R1,z.2.2,u,rfl,ct,L7,by lia,u1,N.dn.lv.nd,by lia,l2,(λe=>by rw [u3] at e;cases e),by rw [e1,e2];exact hz7,by lia,λas' R' H8 L8 eR F8=>?_⟩;rw [u3,if_neg (by decide)] at eR;subst eR;have g8:=F8 _ _ nacc g7;have hz8:=F8 _ _ (L7.vA hz7) hz7;lk;refine ⟨.inl ⟨rfl,_,cL.of g8⟩,?_⟩;lk;refine oJ g8 (eL (m:=100) (by rw [af];lia)) ?_
      have ne:∀ {b:ag}{o:HO},H8 b=some o->(∀ xs,o≠.lst xs)->(upd H8 acc (.lst (rs.map gH++[.ref z.2.2]))) b=some o:=λ{b o} e hno=>by rw [aG];exact e;rintro rfl;rw [g8] at e;cases e;exact hno _ rfl
      refine ⟨_,as',rs++[z],_,_,rfl,L8.app g8 (by intro i r e;cases rs<;>cases e) nacc nLacc,(P7.fm L7 F8).keep λb o _ h2 _ _ e=>ne e h2,N',by rw [aE,aZ];rfl,λz' hz'=>ne ?_ (λ_ z=>nomatch z),by rw [bg];simp;lia,by rw [FW N.dn.lv.nd u1,hs6,bg];rfl,(F7.trans F8.tail).trans (Fm.upd aw)⟩
      rcases aS.mp hz' with hz'|hz'
      .exact F8 _ _ (L7.vA (p7 z' hz')) (p7 z' hz')
      .rw [aC.mp hz'];exact hz8
     .have c2:¬ ew z.1 z.2.1 ks=2:=λe=>c (by rw [e];rfl);lk
      have c3:z.1∉R1 lv s/\z.2.1∉R1 lv s:=by
       rw [← hks1,← hks1];rw [ew1] at c1;rw [ew2] at c2
       by_cases d1:z.1∈ks<;>by_cases d2:z.2.1∈ks<;>simp_all
      exact ⟨ts2,as2,rs,_,_,rfl,L7,P7,N.zero n3 hpi c3.1 c3.2,g7,p7,by lia,hs6,F7⟩
   .rintro Z H6 ⟨ts2,as2,rs,o5,o6,rfl,L6,P6,N,g6,p6,hl6,hs6,F6⟩;rw [af] at N hl6;lk;refine told (rs:=rs) .non L6 P6 F6 g6 p6 (by lia) N.ks hs6 (.inl ⟨rfl,back (N.fin (by rw [af];exact ak _))⟩) _ λv H9 kk=>?_;lk;exact ⟨bq (m:=4) (ak 4),kk⟩
 .rintro i ys H' hi ⟨e,h,S'⟩;exact ⟨_,_,cL.of (S' _ _ gz),by rw [aA,ay hi];rfl⟩
 .rintro i ys σ' H' v H3 hi ⟨rfl,hl,S'⟩ ⟨o',rfl⟩ ⟨e2,hx⟩;subst e2;have hxi:=hx _ (cL.of (S' _ _ gz));rw [aA,ay hi] at hxi;have hv:=(a7 hxi).symm;subst hv
  have et:zs.take (i+1)=zs.take i++[zs[i]]:=by rw [fo,ay hi];rfl
  lk;refine ⟨zs[i].2.2,q,zs[i].1,zs[i].2.1,ks,rfl,S' _ _ (pz _ (jV hi)),S' _ _ g2,λH4 S4=>?_⟩;lk;refine qC (λc=>?_) λc=>?_
  .have c:ew zs[i].1 zs[i].2.1 ks=2:=by have:=lp.mp c;lia
   lk;refine ⟨S4 _ _ hl,eL (m:=1000) (by rw [af];exact bz (dF _ _) (by rw [bS];lia)),kI.mk' hi ⟨_,rfl⟩ ⟨?_,aE,λb o e=>by rw [aG (aQ e hacc)];exact S4 _ _ (S' _ _ e)⟩⟩;rw [et,eS,aZ];simp [c]
  .have c:¬ ew zs[i].1 zs[i].2.1 ks=2:=λe=>c (by rw [e];rfl);refine kI.mk' hi ⟨_,rfl⟩ ⟨?_,S4 _ _ hl,S'.trans S4⟩;rw [et,eS,aZ];simp [c]
theorem Td (us:List Tt) (v:Tt):E7 (us++[v])=E7 us+v.xs.length:=by unfold E7;rw [aZ,W4];simp
theorem Aq (us:List Tt) (v:Tt):Eh (us++[v])=Eh us+if v.f=V.non then 0 else 1:=by
 unfold Eh;rw [eS,bg]
 by_cases c:v.f=V.non<;>simp [c]
def TC (u:Ti) (us:List Tt):Prop:=(u.wd=false/\us=[])\/(u.wd=true/\us.length<=u.cA+1/\∃ us0 v,us=us0++[v]/\Eh us0=0)
theorem TC.Eh {u:Ti}{us:List Tt}(h:TC u us):Eh us<=1:=by
 rcases h with ⟨_,rfl⟩|⟨_,_,us0,v,rfl,e⟩
 .exact aM _
 .rw [Aq,e];split<;>decide
theorem TC.len {u:Ti}{us:List Tt}(h:TC u us):us.length<=u.cA+1:=by
 rcases h with ⟨_,rfl⟩|⟨_,h,_⟩
 .exact aM _
 .exact h
inductive eW (K:aa) (C:ag) (A:CA) (Pt:ag) (vs:List V) (H:Hp) (Q:VK) (E:XK):Prop
 | mk (a:AL) (n T:Nat) (ts:List Ti) (as:Nat->List ag) (R:Nat->Nat->List Int) (t:ag) (u:Ti):vs=[.ref a.q,.ref t]->CS K C A->LV C A H a n T ts as R->n<=200->T<=10->(∀ j,2^(j+1)<=n->j<=T)->Lv n T ts R->Jn ts R->u∈ts->H t=some (.tup [.int u.x,.int u.y])->ts.length<99->nH Pt H->(∀ (q:ag) (us:List Tt) (ts':List Ti) (as':Nat->List ag) (R':Nat->Nat->List Int) (H':Hp),H q=none->H' q=some (.lst (us.map pT))->(∀ v∈us,CD H' v)->us.length<=1000->LV C A H' a n T ts' as' R'->Lv n T ts' R'->Jn ts' R'->ts'.map Ti.key=(ts.filter λv=>decide (v.key≠u.key)).map Ti.key->jg ts'=jg (ts.filter λv=>decide (v.key≠u.key))+E7 us->TC u us->nH Pt H'->Fm (Pt::fp a) H H'->Q (.ref q) H')->eW K C A Pt vs H Q E
abbrev TkI (C:ag) (A:CA) (Pt tr t:ag) (a:AL) (n T:Nat) (u:Ti) (tf:List Ti) (H2:Hp) (Z:L2.St) (H3:Hp):Prop:=∃ (ts1:List Ti) (as1:Nat->List ag) (R1:Nat->Nat->List Int) (us:List Tt) (lv:Int) (b:Bool),Z=[some (.ref a.q),some (.ref t),some (.int lv),some (.bl b),some (.ref tr)]/\LV C A H3 a n T ts1 as1 R1/\nH Pt H3/\H3 tr=some (.lst (us.map pT))/\(∀ v∈us,CD H3 v/\v.q∉tr::Pt::fp a)/\Fm (tr::Pt::fp a) H2 H3/\ts1.map Ti.key=tf.map Ti.key/\jg ts1=jg tf+E7 us /\     ((b=true/\∃ kk:Nat,lv=(kk:Int)-1/\Dn n T ts1 R1 u.x u.y kk/\u.wd=true/\us.length+kk=u.cA+1/\Eh us=0)\/b=false/\Lv n T ts1 R1/\Jn ts1 R1/\TC u us)
theorem zS:Rn (eW K C A Pt) (rR K C A (dJ K C A) (dM K C A Pt)) UI:=by
 rintro vs H Q E ⟨a,n,T,ts,as,R,t,u,rfl,ct,h,hn,hT10,hT,L,J,hu,ht,hlen,hP,k⟩;obtain ⟨l1,l2,l3⟩:=L.lt u hu;unfold rR;k_go;refine ⟨a.q,A.bJ,a.dq,_,_,rfl,h.ob,ct.lc,ct.l1,QB,?_⟩;lk;refine .inr ⟨a.d1,.int u.cA,rfl,.inr ⟨_,pk u.x u.y,t,.inl h.e1,rfl,ht,(iE (f:=λt=>V.int t.cA) L.nd hu).symm⟩,?_⟩;k_go;refine ⟨a.q,A.bJ,a.dq,_,_,rfl,h.ob,ct.lc,ct.l2,Tc,?_⟩;lk;refine .inr ⟨a.d2,.bl u.wd,rfl,.inr ⟨_,pk u.x u.y,t,.inl h.e2,rfl,ht,(iE (f:=λt=>V.bl t.wd) L.nd hu).symm⟩,?_⟩;k_in;refine ⟨a.q,a.dq,_,rfl,h.ob,UP,?_⟩;lk;refine ⟨a,n,T,ts,as,R,t,u,rfl,ct,h,by lia,hu,L.nd,by lia,l2,by lia,l3,λhw i hi=>(L.ed i (by lia) _ _).mpr ⟨u,hu,hw,hi,.inl rfl⟩,ht,λas1 R1 H1 h1 eR F1=>?_⟩;have P1:=hP.fm h F1;have ht1:=F1 _ _ (h.vA ht) ht;lk;refine ⟨bq (m:=0) (ak 0),λtr htr=>?_⟩;have S2:=bQ.cC (o:=.lst []) htr;have g2:(upd H1 tr (.lst [])) tr=some (.lst []):=aE;have ntf:=h1.Ej htr
 have ntP:tr≠Pt:=λz=>by
  obtain ⟨ps,q⟩:=P1.tbl;rw [z,q] at htr;cases htr
 have ntL:a.L≠tr:=aQ h1.ls htr;have htr0:H tr=none:=F1.free ntf htr;generalize upd H1 tr (.lst [])=H2 at S2 g2;have h2:=h1.same S2;have P2:=P1.same S2;have ht2:=S2 _ _ ht1;have F2:Fm (Pt::fp a) H H2:=(F1.trans (Fm.of S2)).tail;generalize ef:(ts.filter λv=>decide (v.key≠u.key))=tf at h1 h2 k
 have hlf:tf.length<=ts.length:=by rw [← ef];exact dF _ _
 lk;unfold o9;refine AY (TkI C A Pt tr t a n T u tf H2) (λZ _=>match Z with|[_,_,some (.int lv),_,_]=>(lv+1).toNat|_=>0) ?_ ?_
 .refine ⟨tf,as1,R1,[],u.cA,u.wd,rfl,h2,P2,g2,(λv hv=>nomatch hv),Fm.refl,rfl,rfl,?_⟩
  cases hw:u.wd with
  | true =>
   rw [hw,if_pos rfl] at eR;subst eR
   exact .inl ⟨rfl,u.cA+1,by lia,ef▸L.drop J hu hw,rfl,by simp,rfl⟩
  | false =>
   rw [hw,if_neg (by decide)] at eR;subst eR;obtain ⟨L',J'⟩:=L.YJ J hu hw;exact .inr ⟨rfl,ef▸L',ef▸J',.inl ⟨hw,rfl⟩⟩
 .rintro Z H3 ⟨ts1,as1,R1,us,lv,b,rfl,h3,P3,g3,u3,F3,hk,hls,hc⟩;have fin:Lv n T ts1 R1->Jn ts1 R1->TC u us->Q (.ref tr) H3:=λL' J' hl=>k tr us ts1 as1 R1 H3 htr0 g3 (λv hv=>(u3 v hv).1) (by have:=hl.len;lia) h3 L' J' hk hls hl P3 (F2.skip F3 htr0);lk;refine ⟨_,rfl,?_⟩
  cases b with
  | false =>
   refine mX (mX ?_);lk
   rcases hc with ⟨z,_⟩|⟨_,L',J',hl⟩
   .cases z
   .exact fin L' J' hl
  | true =>
   refine mD ?_;lk
   obtain ⟨kk,rfl,D,hw,hl,hf⟩:∃ kk:Nat,lv=(kk:Int)-1/\Dn n T ts1 R1 u.x u.y kk/\u.wd=true/\us.length+kk=u.cA+1/\Eh us=0:=by
    rcases hc with ⟨_,h⟩|⟨z,_⟩
    .exact h
    .cases z
   refine qC (λc=>⟨_,Pb,?_⟩) λc=>?_
   .obtain ⟨m,rfl⟩:∃ m,kk=m+1:=⟨kk-1,by lia⟩
    rw [show ((m+1:Nat):Int)-1=(m:Int) by lia]
    have hl1:ts1.length=tf.length:=by have:=congrArg eD hk;simpa using this
    lk;refine ⟨.inl ⟨rfl,_,cL.of g3⟩,?_⟩;k_in;refine ⟨a.q,a.dq,_,rfl,h3.ob,UP,?_⟩;lk
    have nt3:t∉tr::Pt::fp a:=by
     simp only [au,not_or];exact ⟨gK ht2 g2,P2.ne ht2 (λ_ z=>nomatch z),h2.vA ht2⟩
    refine ⟨a,n,T,ts1,as1,R1,m,t,u.x,u.y,rfl,ct,h3,hn,hT,D,F3 _ _ nt3 ht2,by lia,P3,λts4 as4 R4 H4 v hp hq ok h4 P4 F4 hk4 hs4 hD=>?_⟩;have g4:H4 tr=some (.lst (us.map pT)):=F4 _ _ (by simp only [au,not_or];exact ⟨ntP,ntf⟩) g3
    have nvq:v.q∉tr::Pt::fp a:=by
     simp only [au,not_or];refine ⟨Ne.symm (aQ g3 hq),λz=>?_,h3.Ej hq⟩;obtain ⟨ps,q⟩:=P3.tbl;rw [z,q] at hq;cases hq
    lk;refine oJ g4 (eL (m:=100) (by rw [af];lia)) ?_
    have ne:∀ {b:ag}{o:HO},H4 b=some o->(∀ xs,o≠.lst xs)->(upd H4 tr (.lst (us.map pT++[.ref v.p]))) b=some o:=λ{b o} e hno=>by rw [aG];exact e;rintro rfl;rw [g4] at e;cases e;exact hno _ rfl
    have g5:(upd H4 tr (.lst (us.map pT++[.ref v.p]))) tr=some (.lst ((us++[v]).map pT)):=by rw [aE,aZ];rfl
    have h5:LV C A (upd H4 tr (.lst (us.map pT++[.ref v.p]))) a n T ts4 as4 R4:=h4.app g4 (by intro i r e;cases us<;>cases e) ntf ntL;have P5:nH Pt (upd H4 tr (.lst (us.map pT++[.ref v.p]))):=P4.keep λb o _ h2 _ _ e=>ne e h2
    have ok5:CD (upd H4 tr (.lst (us.map pT++[.ref v.p]))) v:=⟨ne ok.1 (λ_ z=>nomatch z),by rw [aG λz=>nvq (by rw [z];exact aw)];exact ok.2⟩
    have u5:∀ w∈us,CD (upd H4 tr (.lst (us.map pT++[.ref v.p]))) w:=λw hw=>by
     obtain ⟨⟨o1,o2⟩,o3⟩:=u3 w hw
     have n1:w.p∉Pt::fp a:=by simp only [au,not_or];exact ⟨P3.ne o1 (λ_ z=>nomatch z),h3.vA o1⟩
     refine ⟨ne (F4 _ _ n1 o1) (λ_ z=>nomatch z),?_⟩;rw [aG λz=>o3 (by rw [z];exact aw)];exact F4 _ _ (λz=>o3 (ai _ z)) o2
    have F5:Fm (tr::Pt::fp a) H2 (upd H4 tr (.lst (us.map pT++[.ref v.p]))):=(F3.trans F4.tail).trans (Fm.upd aw);generalize upd H4 tr (.lst (us.map pT++[.ref v.p]))=H5 at g5 h5 P5 ok5 u5 F5 ne;lk;refine j4 (cL.of g5) (v:=.ref v.p) ?_ ?_
    .rw [aZ];exact HJ _ _
    refine dX (ie.of ok5.1) (eI (j:=3) rfl rfl) ?_;lk;refine ⟨⟨ts4,as4,R4,us++[v],(m:Int)-1,decide (v.f=.non),rfl,h5,P5,g5,λw hw=>?_,F5,hk4.trans hk,?_,?_⟩,?_⟩
    .rcases aS.mp hw with hw|hw
     .exact ⟨u5 w hw,(u3 w hw).2⟩
     .rw [aC.mp hw];exact ⟨ok5,nvq⟩
    .rw [hs4,hls,Td];lia
    .rcases hD with ⟨e,D4⟩|⟨e,L4,J4⟩
     .exact .inl ⟨decide_eq_true e,m,rfl,D4,hw,by simp;lia,by rw [Aq,hf,e];rfl⟩
     .exact .inr ⟨decide_eq_false e,L4,J4,.inr ⟨hw,by simp;lia,us,v,rfl,hf⟩⟩
    .show ((m:Int)-1+1).toNat<((m:Int)+1).toNat
     lia
   .lk
    have:kk=0:=by lia
    subst this
    have hne:us≠[]:=λe=>by rw [e] at hl;simp at hl
    refine fin D.lv D.done (.inr ⟨hw,by lia,us.dropLast,us.getLast hne,(Fn hne).symm,?_⟩);have:=Aq us.dropLast (us.getLast hne);rw [Fn hne] at this;lia
theorem K1 {sp:Sp}{dvs:List V}{E:XK}{t:TA}{Z:L2.St}(h:t Z H λvs H1=>∀ x dx,H1 x=none->H1 dx=none->dx≠x->sp (.ref x::(vs++dvs)) (upd (upd H1 dx (.own x)) x (.ins C dx [])) (λv H2=>v=.non/\Q (.ref x) H2) E):HF C sp dvs E t Z H Q:=h
theorem Ar {Z:L2.St}(h:∀ p,H p=none->Q (.ref p) (upd H p (.dT []))):xY Z H Q:=h
theorem Top.small {n:Int}{j:Nat}(h:Top n j) (hn:n<=200):j<8:=by
 rcases h.1 with z|z
 .lia
 .by_cases c:j<8
  .exact c
  .have:(2:Int)^8<=2^j:=by
    have e:(2:Int)^j=2^(j-8)*2^8:=by rw [← Int.pow_add];congr 1;lia
    have h1:(1:Int)<=2^(j-8):=BI (j-8);rw [e];have:=Int.mul_le_mul_of_nonneg_right h1 (show (0:Int)<=2^8 by decide);lia
   have e8:(2:Int)^8=256:=by decide
   lia
theorem WA.out {c:ag}{as:List ag}{R:Nat->List Int}{o:HO}(W:WA C H p dx l n as R) (h1:p≠c) (h2:l≠c) (h3:∀ a∈as,a≠c):WA C (upd H c o) p dx l n as R :=
 ⟨by rw [aG h1];exact W.ob,by rw [aG h2];exact W.rl,W.len,λi a h=>by rw [aG (h3 a (aN h))];exact W.at_ i a h,W.ne⟩
inductive cQ (K:aa) (C:ag) (A:CA) (vs:List V) (H:Hp) (Q:VK) (E:XK):Prop
 | mk (q dq:ag) (n:Nat):vs=[.ref q,.int n]->H q=some (.ins A.bJ dq [])->CS K C A->1<=n->n<=200->(∀ (a:AL) (T:Nat) (as:Nat->List ag) (H':Hp),a.q=q->a.dq=dq->LV C A H' a n T [] as (λ_ i=>[(i:Int)])->Top n T->bh q H H'->(∀ b∈a.L::fp a,H b=none)->Q .non H')->cQ K C A vs H Q E
theorem tS:Rn (cQ K C A) (nc K C A (fu K C) (pR K C)) yb:=by
 rintro vs H Q E ⟨q,dq,n,rfl,hq,ct,hn1,hn2,k⟩;unfold nc;k_ne;refine lz (Ar λd1 hd1=>?_);lk;have nq1:q≠d1:=aQ hq hd1;refine ⟨q,A.bJ,dq,[],rfl,by rw [aG nq1];exact hq,ct.lc,ct.l1,by decide,?_⟩;have g1:(upd (upd H d1 (.dT [])) q (.ins A.bJ dq (dP "level_of" (.ref d1) []))) q=some (.ins A.bJ dq [("level_of",.ref d1)]):=aE
 have e1:(upd (upd H d1 (.dT [])) q (.ins A.bJ dq (dP "level_of" (.ref d1) []))) d1=some (.dT []):=by rw [aG (Ne.symm nq1)];exact aE
 have B1:bh q H (upd (upd H d1 (.dT [])) q (.ins A.bJ dq (dP "level_of" (.ref d1) []))):=λb o e hb=>by rw [aG hb,aG (aQ e hd1)];exact e
 generalize upd (upd H d1 (.dT [])) q (.ins A.bJ dq (dP "level_of" (.ref d1) []))=H1 at g1 e1 B1;dsimp only;k_ne;refine lz (Ar λd2 hd2=>?_);lk;have nq2:q≠d2:=aQ g1 hd2;refine ⟨q,A.bJ,dq,_,rfl,by rw [aG nq2];exact g1,ct.lc,ct.l2,by show 1<1000;decide,?_⟩;rw [dY (by decide +kernel)];have g2:(upd (upd H1 d2 (.dT [])) q (.ins A.bJ dq (("level_of",.ref d1)::dP "wooden" (.ref d2) []))) q=some (.ins A.bJ dq [("level_of",.ref d1),("wooden",.ref d2)]):=aE
 have e2:(upd (upd H1 d2 (.dT [])) q (.ins A.bJ dq (("level_of",.ref d1)::dP "wooden" (.ref d2) []))) d2=some (.dT []):=by rw [aG (Ne.symm nq2)];exact aE
 have B2:bh q H1 (upd (upd H1 d2 (.dT [])) q (.ins A.bJ dq (("level_of",.ref d1)::dP "wooden" (.ref d2) []))):=λb o e hb=>by rw [aG hb,aG (aQ e hd2)];exact e
 have MS:d1≠d2:=aQ e1 hd2;generalize upd (upd H1 d2 (.dT [])) q (.ins A.bJ dq (("level_of",.ref d1)::dP "wooden" (.ref d2) []))=H2 at g2 e2 B2;dsimp only;k_ne;refine lz (Ar λd3 hd3=>?_);lk;have nq3:q≠d3:=aQ g2 hd3;refine ⟨q,A.bJ,dq,_,rfl,by rw [aG nq3];exact g2,ct.lc,ct.l3,by show 2<1000;decide,?_⟩;rw [dY (by decide +kernel),dY (by decide +kernel)];have g3:(upd (upd H2 d3 (.dT [])) q (.ins A.bJ dq (("level_of",.ref d1)::("wooden",.ref d2)::dP "weight_of" (.ref d3) []))) q=some (.ins A.bJ dq [("level_of",.ref d1),("wooden",.ref d2),("weight_of",.ref d3)]):=aE
 have e3:(upd (upd H2 d3 (.dT [])) q (.ins A.bJ dq (("level_of",.ref d1)::("wooden",.ref d2)::dP "weight_of" (.ref d3) []))) d3=some (.dT []):=by rw [aG (Ne.symm nq3)];exact aE
 have B3:bh q H2 (upd (upd H2 d3 (.dT [])) q (.ins A.bJ dq (("level_of",.ref d1)::("wooden",.ref d2)::dP "weight_of" (.ref d3) []))):=λb o e hb=>by rw [aG hb,aG (aQ e hd3)];exact e
 have Ra:d2≠d3:=aQ e2 hd3;have Ot:d1≠d3:=aQ (B2 _ _ e1 (Ne.symm nq1)) hd3;generalize upd (upd H2 d3 (.dT [])) q (.ins A.bJ dq (("level_of",.ref d1)::("wooden",.ref d2)::dP "weight_of" (.ref d3) []))=H3 at g3 e3 B3;have B:=(B1.trans B2).trans B3;have f1:=B3 _ _ (B2 _ _ e1 (Ne.symm nq1)) (Ne.symm nq1);have f2:=B3 _ _ e2 (Ne.symm nq2)
 have fr:∀ {b:ag},b≠q->H3 b=none->H b=none:=λ{b} hb e=>by
  cases z:H b with
  | none=>rfl
  | some o=>rw [B _ _ z hb] at e;cases e
 have fr2:∀ {b:ag},b≠q->H2 b=none->H b=none:=λ{b} hb e=>by
  cases z:H b with
  | none=>rfl
  | some o=>rw [(B1.trans B2) _ _ z hb] at e;cases e
 have fr1:∀ {b:ag},b≠q->H1 b=none->H b=none:=λ{b} hb e=>by
  cases z:H b with
  | none=>rfl
  | some o=>rw [B1 _ _ z hb] at e;cases e
 dsimp only;refine lz ?_;lk;refine ⟨n,rfl,λj hj=>?_⟩;have hj8:=hj.small (by lia);lk;refine ⟨by lia,by lia,λacc hacc=>?_⟩
 have e0:(((j:Int)+1)).toNat=j+1:=by lia
 rw [e0];refine mE (n:=j+1) (λt ys H4=>H4 acc=some (.lst ys)/\bQ H3 H4/\∃ (ws:List (ag×ag×ag)) (as:Nat->List ag),ys=ws.map (λw=>V.ref w.1)/\ws.length=t/\(ws.map (·.2.2)).Nodup/\∀ (i:Nat) w,ws[i]?=some w->WA C H4 w.1 w.2.1 w.2.2 n (as i) (λi=>[(i:Int)])/\H3 w.2.2=none/\w.1≠acc/\w.2.2≠acc/\∀ b∈as i,b≠acc) (λZ=>∃ o,Z=[o,some (.int n)]) ⟨aE,bQ.cC hacc,[],λ_=>[],rfl,rfl,lN,λi w hw=>nomatch hw⟩ ⟨_,rfl⟩ ?_ ?_ ?_ ?_
 .rintro t ys H4 ⟨h,_⟩;exact h
 .rintro ys H4 ⟨g4,S4,ws,as,rfl,hl,nd,hw⟩;refine ⟨ak _,?_⟩;lk;refine ⟨q,A.bJ,dq,_,rfl,S4 _ _ g3,ct.lc,ct.l4,by show 3<1000;decide,?_⟩;rw [dY (by decide +kernel),dY (by decide +kernel),dY (by decide +kernel)]
  have naq:acc≠q:=λz=>by rw [z,g3] at hacc;cases hacc
  have hb:bh q H4 (upd H4 q (.ins A.bJ dq (("level_of",.ref d1)::("wooden",.ref d2)::("weight_of",.ref d3)::dP "woods" (.ref acc) []))):=bh.upd
  have nl:∀ {b:ag}{o:HO},H4 b=some o->(∀ x y z,o≠.ins x y z)->b≠q:=λ{b o} e hno z=>by rw [z,S4 _ _ g3] at e;cases e;exact hno _ _ _ rfl
  refine k ⟨q,dq,d1,d2,d3,acc,ws,λ_ _=>0⟩ j as _ rfl rfl ⟨aE,hb _ _ (S4 _ _ f1) (Ne.symm nq1),hb _ _ (S4 _ _ f2) (Ne.symm nq2),hb _ _ (S4 _ _ e3) (Ne.symm nq3),hb _ _ g4 naq,hl,λi w hi=>?_,λ_ _=>Wd.start n,hn1,MS,Ot,Ra,nd,λw hm=>?_⟩ hj (λb o e hne=>hb _ _ (S4 _ _ (B _ _ e hne)) hne) λb hb=>?_
  .obtain ⟨W,_⟩:=hw i w hi;refine W.out (λz=>?_) (nl W.rl (λ_ _ _ z=>nomatch z)) λa ha=>?_
   .have:=W.ob;rw [z,S4 _ _ g3] at this;cases this
   .obtain ⟨i,hi⟩:=bC.mp ha;exact nl (W.at_ i a hi) (λ_ _ _ z=>nomatch z)
  .obtain ⟨i,hi⟩:=bC.mp hm;exact Ne.symm (hw i w hi).2.2.2.1
  .simp only [fp,au,bo] at hb
   rcases hb with rfl|rfl|rfl|rfl|⟨w,hm,rfl⟩
   .exact fr naq hacc
   .exact hd1
   .exact fr1 (Ne.symm nq2) hd2
   .exact fr2 (Ne.symm nq3) hd3
   .obtain ⟨i,hi⟩:=bC.mp hm;obtain ⟨W,h3,_⟩:=hw i w hi;exact fr (nl W.rl (λ_ _ _ z=>nomatch z)) h3
 .rintro t ys H4 ht _;exact ht
 .rintro t ys σ' H4 x H5 ht ⟨g4,S4,ws,as,rfl,hl,nd,hw⟩ ⟨o,rfl⟩ ⟨eH,ex⟩;subst eH ex;lk;refine mD ?_;refine K1 ?_;lk;intro xw dxw hx hdx hne
  have T0:bQ H5 (upd (upd H5 dxw (.own xw)) xw (.ins C dxw [])):=λb o e=>by rw [aG (aQ e hx),aG (aQ e hdx)];exact e
  refine ⟨xw,dxw,n,rfl,aE,ct.w,by lia,λl bs H6 W hl6 B6=>⟨rfl,?_⟩⟩;have T:bQ H5 H6:=λb o e=>B6 _ _ (T0 _ _ e) (aQ e hx);have hl5:=T0.free hl6;have nxa:xw≠acc:=Ne.symm (aQ g4 hx);have nla:l≠acc:=Ne.symm (aQ g4 hl5)
  have naa:∀ a∈bs,a≠acc:=λa ha z=>by
   obtain ⟨i,hi⟩:=bC.mp ha;have h1:=W.at_ i a hi;rw [z,T _ _ g4] at h1;cases ws<;>cases h1
  have SA:bQ H3 (upd H6 acc (.lst (ws.map (λw=>V.ref w.1)++[.ref xw]))):=λb o e=>by rw [aG (aQ e hacc)];exact T _ _ (S4 _ _ e)
  refine ⟨T _ _ g4,eL (m:=100) (by rw [af];lia),kI.mk' ht ⟨_,rfl⟩ ⟨aE,SA,ws++[(xw,dxw,l)],(λi=>if i=t then bs else as i),by rw [aZ];rfl,by rw [bg,hl];rfl,?_,λi w hi=>?_⟩⟩
  .rw [aZ,eE];refine ⟨nd,by simp,λp hp q hq e=>?_⟩;obtain ⟨w,hm,rfl⟩:=bo.mp hp;obtain ⟨i,hi⟩:=bC.mp hm;have:=(hw i w hi).1.rl;rw [kP,aC] at hq;rw [e.trans hq,hl5] at this;cases this
  .by_cases c:i=t
   .subst c;rw [← hl,dQ (ak _),Nat.sub_self] at hi;cases hi;dsimp only;rw [if_pos rfl];exact ⟨W.out nxa nla naa,S4.free hl5,nxa,nla,naa⟩
   .have hi':i<t:=by
     have:=(aD.mp hi).1;rw [bg,hl] at this;simp at this;lia
    rw [fA (by lia)] at hi;dsimp only;rw [if_neg c];obtain ⟨W',m1,m2,m3,m4⟩:=hw i w hi;exact ⟨(W'.same T).out m2 m3 m4,m1,m2,m3,m4⟩
theorem wO {ta tv:TE}{rd:V->V->Hp->VK->Prop}{f:bD}{D:tM}{Z:L2.St}(h:ta Z H λx H1=>∃ a C dx fs v,x=.ref a/\H1 a=some (.ins C dx fs)/\CU K C/\dA K C f/\fs.lookup f=some v /\
 tv Z H1 λy H2=>rd v y H2 λz H3=>∃ dx' fs',H3 a=some (.ins C dx' fs')/\fs'.length<1000/\D.nx Z (upd H3 a (.ins C dx' (dP f z fs')))):tj K ta tv rd f D Z H:=h
def fK (n:Nat) (q w:ag) (c1 c2 c3 c4:Int):List (bD×V):=dP "lost" (.int c4) (dP "risen" (.int c3) (dP "looked" (.int c2) (dP "came" (.int c1) (dP "wood" (.ref w) (dP "levels" (.ref q) (dP "n" (.int n) []))))))
section
variable {q w:ag}{c1 c2 c3 c4 c:Int}
theorem QD {f:bD}{v:V}:dP f v []=[(f,v)]:=rfl
theorem kE:fK n q w c1 c2 c3 c4=([("n",.int n),("levels",.ref q),("wood",.ref w),("came",.int c1),("looked",.int c2),("risen",.int c3),("lost",.int c4)]:List (bD×V)):=by
 unfold fK
 repeat (first|rw [QD]|rw [dY (by decide +kernel)])
theorem fK1:(fK n q w c1 c2 c3 c4).lookup ("n":bD)=some (.int n):=by rw [kE];exact rV
theorem W8:(fK n q w c1 c2 c3 c4).lookup ("levels":bD)=some (.ref q):=by rw [kE,ff (by decide +kernel)];exact rV
theorem fK3:(fK n q w c1 c2 c3 c4).lookup ("wood":bD)=some (.ref w):=by rw [kE,ff (by decide +kernel),ff (by decide +kernel)];exact rV
theorem fK4:(fK n q w c1 c2 c3 c4).lookup ("came":bD)=some (.int c1):=by rw [kE,ff (by decide +kernel),ff (by decide +kernel),ff (by decide +kernel)];exact rV
theorem fK5:(fK n q w c1 c2 c3 c4).lookup ("looked":bD)=some (.int c2):=by rw [kE,ff (by decide +kernel),ff (by decide +kernel),ff (by decide +kernel),ff (by decide +kernel)];exact rV
theorem fK6:(fK n q w c1 c2 c3 c4).lookup ("risen":bD)=some (.int c3):=by rw [kE,ff (by decide +kernel),ff (by decide +kernel),ff (by decide +kernel),ff (by decide +kernel),ff (by decide +kernel)];exact rV
theorem fK7:(fK n q w c1 c2 c3 c4).lookup ("lost":bD)=some (.int c4):=by rw [kE,ff (by decide +kernel),ff (by decide +kernel),ff (by decide +kernel),ff (by decide +kernel),ff (by decide +kernel),ff (by decide +kernel)];exact rV
theorem J5 {m:bD}(h1:¬ m="n":=by decide +kernel) (h2:¬ m="levels":=by decide +kernel) (h3:¬ m="wood":=by decide +kernel) (h4:¬ m="came":=by decide +kernel) (h5:¬ m="looked":=by decide +kernel) (h6:¬ m="risen":=by decide +kernel) (h7:¬ m="lost":=by decide +kernel):(fK n q w c1 c2 c3 c4).lookup m=none:=by rw [kE,ff h1,ff h2,ff h3,ff h4,ff h5,ff h6,ff h7];rfl
theorem Zw:(fK n q w c1 c2 c3 c4).length<1000:=by rw [kE];show 7<1000;decide
theorem fKp4:dP "came" (.int c) (fK n q w c1 c2 c3 c4)=fK n q w c c2 c3 c4:=by rw [kE,kE,dY (by decide +kernel),dY (by decide +kernel),dY (by decide +kernel),wM]
theorem fKp5:dP "looked" (.int c) (fK n q w c1 c2 c3 c4)=fK n q w c1 c c3 c4:=by rw [kE,kE,dY (by decide +kernel),dY (by decide +kernel),dY (by decide +kernel),dY (by decide +kernel),wM]
theorem fKp6:dP "risen" (.int c) (fK n q w c1 c2 c3 c4)=fK n q w c1 c2 c c4:=by rw [kE,kE,dY (by decide +kernel),dY (by decide +kernel),dY (by decide +kernel),dY (by decide +kernel),dY (by decide +kernel),wM]
theorem fKp7:dP "lost" (.int c) (fK n q w c1 c2 c3 c4)=fK n q w c1 c2 c3 c:=by rw [kE,kE,dY (by decide +kernel),dY (by decide +kernel),dY (by decide +kernel),dY (by decide +kernel),dY (by decide +kernel),dY (by decide +kernel),wM]
end
theorem Top.lo (h:Top n T):2^(T+1)<=n\/T=0:=by
 rcases h.1 with z|z
 .exact .inr z
 .left
  have:((2^(T+1):Nat):Int)=2*(2:Int)^T:=by rw [Ol,Int.natCast_mul,Int.natCast_pow];exact Om _ _
  lia
theorem Top.hi (h:Top n T):∀ j,2^(j+1)<=n->j<=T:=λj hj=>by
 have h2:=h.2
 by_cases c:j<=T
 .exact c
 .have h3:2^(T+2)<=2^(j+1):=xH (by decide) (by lia)
  have:((2^(T+2):Nat):Int)=4*(2:Int)^T:=by push_cast;rw [l0,l0];lia
  lia
theorem LV.inst {c d:ag}{fs:List (bD×V)}{o:HO}(h:LV C A H a n T ts as R) (hp:H p=some (.ins c d fs)) (h1:fs.lookup ("rows":bD)=none) (h2:fs.lookup ("woods":bD)=none):LV C A (upd H p o) a n T ts as R :=
 h.keep (X:=[p]) (Fm.upd aw) (λx f e _ hx hm=>by
  rw [aC.mp hm] at e hx
  rcases hx with z|⟨w,hw,z⟩
  .have:=h.ob;rw [← z,hp] at this;cases this;rw [Wp] at h2;cases h2
  .obtain ⟨i,_,hi⟩:=h.at hw;have:=(h.wa i w hi).ob;rw [← z,hp] at this;cases this
   rw [iD] at h1;cases h1) (λb hb hm=>h.outI hp (aC.mp hm▸hb)) (λhm=>by
   have:=h.ls
   rw [aC.mp hm,hp] at this;cases this) λb r _ e hm=>by rw [aC.mp hm,hp] at e;cases e
structure KP (C:ag) (A:CA) (H:Hp) (p dx:ag) (a:AL) (n T:Nat) (ts:List Ti) (as:Nat->List ag) (R:Nat->Nat->List Int):Prop where
 ob:∃ (w:ag×ag×ag) (c1 c2 c3 c4:Int),a.ws[0]?=some w/\H p=some (.ins A.aO dx (fK n a.q w.1 c1 c2 c3 c4))
 lv:LV C A H a n T ts as R
 iv:Lv n T ts R
 jn:Jn ts R
 tp:Top n T
theorem KP.same (h:KP C A H p dx a n T ts as R) (S:bQ H H'):KP C A H' p dx a n T ts as R:=by
 obtain ⟨w,c1,c2,c3,c4,hw,hp⟩:=h.ob;exact ⟨⟨w,c1,c2,c3,c4,hw,S _ _ hp⟩,h.lv.same S,h.iv,h.jn,h.tp⟩
def Ac (H:Hp) (p:ag) (c1 c2 c3 c4:Int):Prop:=∃ (c dx q w:ag) (n:Nat),H p=some (.ins c dx (fK n q w c1 c2 c3 c4))
theorem Ac.one {c q w:ag}{c1 c2 c3 c4 d1 d2 d3 d4:Int}(h:Ac H p c1 c2 c3 c4) (hp:H p=some (.ins c dx (fK n q w d1 d2 d3 d4))):c1=d1/\c2=d2/\c3=d3/\c4=d4:=by
 obtain ⟨_,_,_,_,_,e⟩:=h;rw [hp] at e
 injection e with e
 injection e with _ _ e
 rw [kE,kE] at e;simp only [List.cons.injEq,vL,V.int.injEq,true_and,and_true] at e;exact ⟨e.2.2.2.1.symm,e.2.2.2.2.1.symm,e.2.2.2.2.2.1.symm,e.2.2.2.2.2.2.symm⟩
structure KS (C:ag) (A:CA) (a:AL) (n T:Nat) (as:Nat->List ag) (p dx:ag) (H0:Hp) (m:Nat) (fs:List (bD×V)) (H:Hp):Prop where
 g:H p=some (.ins A.aO dx fs)
 lv:LV C A H a n T [] as (λ_ i=>[(i:Int)])
 r:fs.lookup ("rows":bD)=none
 w:fs.lookup ("woods":bD)=none
 len:fs.length<=m
 b:bh p H0 H
theorem BL (f:bD) (v:V):∀ fs:List (bD×V),(dP f v fs).length<=fs.length+1
 | []=>ak _
 | (g,x)::r=>by
  by_cases c:g=f
  .subst c;rw [wM];exact iG _
  .rw [dY c];exact sW (BL f v r)
theorem KS.put {H0:Hp}{m:Nat}{fs:List (bD×V)}(s:KS C A a n T as p dx H0 m fs H) (f:bD) (v:V) (h1:¬ ("rows":bD)=f:=by decide +kernel) (h2:¬ ("woods":bD)=f:=by decide +kernel):KS C A a n T as p dx H0 (m+1) (dP f v fs) (upd H p (.ins A.aO dx (dP f v fs))) :=
 ⟨aE,s.lv.inst s.g s.r s.w,by rw [e9,if_neg h1];exact s.r,by rw [e9,if_neg h2];exact s.w,bA (BL f v fs) (sW s.len),s.b.trans bh.upd⟩
inductive dr (K:aa) (C:ag) (A:CA) (vs:List V) (H:Hp) (Q:VK) (E:XK):Prop
 | mk (p dx:ag) (n:Nat):vs=[.ref p,.int n]->H p=some (.ins A.aO dx [])->CS K C A->1<=n->n<=200->(∀ (a:AL) (T:Nat) (as:Nat->List ag) (H':Hp),KP C A H' p dx a n T [] as (λ_ i=>[(i:Int)])->bh p H H'->(∀ b∈a.L::fp a,H b=none)->Ac H' p 0 0 0 0->Q .non H')->dr K C A vs H Q E
theorem wQ:Rn (dr K C A) (pe K C A (cQ K C A) (fM K C)) yb:=by
 rintro vs H Q E ⟨p,dx,n,rfl,hp,ct,hn1,hn2,k⟩;unfold pe;lk;refine ⟨n,rfl,hn1,hn2,?_⟩;refine ⟨_,rfl,?_⟩;rw [if_neg (by simp)];lk;refine lz ?_;lk;refine ⟨p,A.aO,dx,[],rfl,hp,ct.kc,ct.k1,by decide,?_⟩;have g1:(upd H p (.ins A.aO dx (dP "n" (.int n) []))) p=some (.ins A.aO dx (dP "n" (.int n) [])):=aE;have B1:bh p H (upd H p (.ins A.aO dx (dP "n" (.int n) []))):=bh.upd;generalize upd H p (.ins A.aO dx (dP "n" (.int n) []))=H1 at g1 B1;dsimp only;k_ne;refine lz (K1 ?_);lk;intro q dq hq hdq hne
 have T0:bQ H1 (upd (upd H1 dq (.own q)) q (.ins A.bJ dq [])):=λb o e=>by rw [aG (aQ e hq),aG (aQ e hdq)];exact e
 refine ⟨q,dq,n,rfl,aE,ct,hn1,hn2,λa T as H2 ea ed L tp B2 fr=>⟨rfl,?_⟩⟩;subst ea ed;have T1:bQ H1 H2:=λb o e=>B2 _ _ (T0 _ _ e) (aQ e hq);have g2:=T1 _ _ g1
 have s2:KS C A a n T as p dx H 1 (dP "n" (.int n) []) H2:=⟨g2,L,by rw [e9,if_neg (by decide +kernel)];rfl,by rw [e9,if_neg (by decide +kernel)];rfl,BL _ _ _,λb o e hb=>T1 _ _ (B1 _ _ e hb)⟩
 have frH:∀ b∈a.L::fp a,H b=none:=λb hb=>by
  have:=fr b hb
  cases z:H b with
  | none=>rfl
  | some o =>
   by_cases c:b=p
   .have e:=T0 _ _ g1;rw [← c,this] at e;cases e
   .rw [T0 _ _ (B1 _ _ z c)] at this;cases this
 obtain ⟨w,hw,hwm⟩:=L.get (aM _);lk;refine ⟨p,A.aO,dx,_,rfl,s2.g,ct.kc,ct.k2,bz s2.len (by decide),?_⟩;have s3:=s2.put "levels" (.ref a.q);generalize upd H2 p (.ins A.aO dx (dP "levels" (.ref a.q) (dP "n" (.int n) [])))=H3 at s3;dsimp only;k_ne;refine lz ?_;lk;refine m5 ?_;refine m5 ?_;lk;refine ⟨p,A.aO,dx,_,_,rfl,s3.g,ct.kc,ct.k2,by rw [e9,if_pos rfl],?_⟩;refine ⟨a.q,A.bJ,a.dq,_,_,rfl,s3.lv.ob,ct.lc,ct.l4,Wp,?_⟩;lk;refine j4 (cL.of s3.lv.ls) (eI (j:=0) rfl (by rw [aA,hw];rfl)) ?_;lk;refine ⟨p,A.aO,dx,_,rfl,s3.g,ct.kc,ct.k3,bz s3.len (by decide),?_⟩;have s4:=s3.put "wood" (.ref w.1);generalize e4:dP ("wood":bD) (V.ref w.1) (dP "levels" (.ref a.q) (dP "n" (.int n) []))=f4 at s4;generalize upd H3 p (.ins A.aO dx f4)=H4 at s4;dsimp only;k_ne;refine lz ?_;lk;refine ⟨p,A.aO,dx,_,rfl,s4.g,ct.kc,ct.k4,bz s4.len (by decide),?_⟩;have s5:=s4.put "came" (.int 0);generalize e5:dP ("came":bD) (V.int 0) f4=f5 at s5;generalize upd H4 p (.ins A.aO dx f5)=H5 at s5;dsimp only;k_ne;refine lz ?_;lk;refine ⟨p,A.aO,dx,_,rfl,s5.g,ct.kc,ct.k5,bz s5.len (by decide),?_⟩;have s6:=s5.put "looked" (.int 0);generalize e6:dP ("looked":bD) (V.int 0) f5=f6 at s6;generalize upd H5 p (.ins A.aO dx f6)=H6 at s6;dsimp only;k_ne;refine lz ?_;lk;refine ⟨p,A.aO,dx,_,rfl,s6.g,ct.kc,ct.k6,bz s6.len (by decide),?_⟩;have s7:=s6.put "risen" (.int 0);generalize e7:dP ("risen":bD) (V.int 0) f6=f7 at s7;generalize upd H6 p (.ins A.aO dx f7)=H7 at s7;dsimp only;refine lz ?_;lk;refine ⟨p,A.aO,dx,_,rfl,s7.g,ct.kc,ct.k7,bz s7.len (by decide),?_⟩;have s8:=s7.put "lost" (.int 0);subst e4 e5 e6 e7;exact k a T as _ ⟨⟨w,0,0,0,0,hw,s8.g⟩,s8.lv,Lv.start n T tp.lo,(λt ht=>nomatch ht),tp⟩ s8.b frH ⟨_,_,_,_,_,s8.g⟩
theorem KP.p0 (h:KP C A H p dx a n T ts as R):∃ fs,H p=some (.ins A.aO dx fs):=let ⟨w,c1,c2,c3,c4,_,hp⟩:=h.ob;⟨_,hp⟩
inductive eC (K:aa) (C:ag) (A:CA) (vs:List V) (H:Hp) (Q:VK) (E:XK):Prop
 | mk (p dx:ag) (a:AL) (n T:Nat) (ts:List Ti) (as:Nat->List ag) (R:Nat->Nat->List Int) (t:ag) (x y:Nat):vs=[.ref p,.ref t,.int (a.g x y)]->CS K C A->KP C A H p dx a n T ts as R->n<=200->x<y->y<n->H t=some (.tup [.int x,.int y])->((x:Int),(y:Int))∉ts.map Ti.key->ts.length<99->(∀ b as' R' H',b=!decide ((y:Int)∈R 0 x)->KP C A H' p dx a n T (ts++[⟨x,y,0,b⟩]) as' R'->Fm (p::fp a) H H'->(∀ c1 c2 c3 c4,Ac H p c1 c2 c3 c4->Ac H' p (c1+1) c2 c3 c4)->Q (.bl b) H')->eC K C A vs H Q E
theorem yk:Rn (eC K C A) (qo K C A (jP K C A)) IA:=by
 rintro vs H Q E ⟨p,dx,a,n,T,ts,as,R,t,x,y,rfl,ct,h,hn,hxy,hy,ht,hk,hl,k⟩;obtain ⟨w,c1,c2,c3,c4,hw,hp⟩:=h.ob;unfold qo;lk;refine wO ?_;lk;refine ⟨p,A.aO,dx,_,_,rfl,hp,ct.kc,ct.k4,fK4,?_⟩;lk;refine ⟨c1,1,rfl,rfl,dx,_,hp,Zw,?_⟩;rw [fKp4];have L1:=h.lv.inst (o:=.ins A.aO dx (fK n a.q w.1 (c1+1) c2 c3 c4)) hp J5 J5;have p1:(upd H p (.ins A.aO dx (fK n a.q w.1 (c1+1) c2 c3 c4))) p=_:=aE;have ht1:(upd H p (.ins A.aO dx (fK n a.q w.1 (c1+1) c2 c3 c4))) t=_:=(aG (gK ht hp)).trans ht;have F1:Fm (p::fp a) H (upd H p (.ins A.aO dx (fK n a.q w.1 (c1+1) c2 c3 c4))):=Fm.upd aw;generalize upd H p (.ins A.aO dx (fK n a.q w.1 (c1+1) c2 c3 c4))=H1 at L1 p1 ht1 F1;dsimp only;lk;refine vh ?_;refine m5 ?_;lk;refine ⟨p,A.aO,dx,_,_,rfl,p1,ct.kc,ct.k2,W8,?_⟩;refine ⟨a.q,a.dq,_,rfl,L1.ob,UP,?_⟩;lk;refine ⟨a,n,T,ts,as,R,t,x,y,rfl,ct,L1,hn,by lia,hy,ht1,h.iv.nd,hk,hl,λb ts' as' R' H2 L2 hc F2=>?_⟩
 have hkk:(ts++[(⟨x,y,0,false⟩:Ti)]).map Ti.key=ts.map Ti.key++[((x:Int),(y:Int))]:=by rw [aZ];rfl
 have V:=h.iv.put hxy hy hk;have hu:(⟨x,y,0,false⟩:Ti)∈ts++[⟨x,y,0,false⟩]:=bH _ aw
 have ob:∃ (w:ag×ag×ag) (c1 c2 c3 c4:Int),a.ws[0]?=some w/\H2 p=some (.ins A.aO dx (fK n a.q w.1 c1 c2 c3 c4)):=⟨w,_,_,_,_,hw,F2 _ _ (L1.outI p1) p1⟩
 have ac:∀ d1 d2 d3 d4,Ac H p d1 d2 d3 d4->Ac H2 p (d1+1) d2 d3 d4:=λd1 d2 d3 d4 q=>by
  obtain ⟨rfl,rfl,rfl,rfl⟩:=q.one hp;exact ⟨_,_,_,_,_,F2 _ _ (L1.outI p1) p1⟩
 rcases hc with ⟨hj,rfl,rfl,rfl⟩|⟨hj,rfl,rfl,rfl⟩
 .refine k _ as' _ H2 (by rw [decide_eq_true hj];rfl) ⟨ob,L2,V,λu hu=>?_,h.tp⟩ (F1.trans F2.tail) ac
  rcases aS.mp hu with q|q
  .exact h.jn u q
  .rw [aC.mp q];exact hj
 .have hap:∀ i,i<=(⟨x,y,0,false⟩:Ti).cA->(((⟨x,y,0,false⟩:Ti).y:Nat):Int)∉R i (⟨x,y,0,false⟩:Ti).x:=λi hi=>by rw [Rv.mp hi];exact hj
  have W0:=h.iv.wd 0 (aM _)
  have V':=V.adopt hu rfl hap λi hi=>by
   have e:=Rv.mp hi;subst e
   have l:=((W0.lk (a:=x) (b:=y) (by lia) hy hj).len (i:=x) (by lia))
   rw [(W0.Fe (x:=x) (by lia) hy hj (.inl (W0.me x (by lia)))).2] at l
   show ((R 0 x).length+(R 0 y).length+2)*2^0<=2*n
   lia
  have es:gh (ts++[(⟨x,y,0,false⟩:Ti)]) ((x:Int),(y:Int)) Ti.uW=ts++[⟨x,y,0,true⟩]:=by
   unfold gh;rw [aZ]
   congr 1
   .exact (j9 λt ht=>if_neg λe=>hk (by rw [← e];exact aX ht)).trans (List.map_id _)
   .show [if ((x:Int),(y:Int))=((x:Int),(y:Int)) then _ else _]=_
    rw [if_pos rfl];rfl
  refine k _ as' _ H2 (by rw [decide_eq_false hj];rfl) ⟨ob,es▸L2,es▸V',λu hu'=>?_,h.tp⟩ (F1.trans F2.tail) ac;rw [← es] at hu'
  rcases (kr (f:=Ti.uW) V.nd hu u).mp hu' with rfl|⟨q,_⟩
  .have e:J3 R 0 x y 0=lk (R 0) x y:=if_pos (ak _)
   show (y:Int)∈J3 R 0 x y 0 x
   rw [e];exact ((W0.Fe (x:=x) (by lia) hy hj (.inl (W0.me x (by lia)))).1 _).mpr (.inr (W0.me y hy))
  .rcases aS.mp q with q|q
   .obtain ⟨q1,q2,q3⟩:=h.iv.lt u q;exact V.JM hu hap q3 (by lia) _ (h.jn u q)
   .rename_i hne
    exact absurd (by rw [aC.mp q]) hne
inductive fJ (K:aa) (C:ag) (A:CA) (Pt:ag) (vs:List V) (H:Hp) (Q:VK) (E:XK):Prop
 | mk (p dx:ag) (a:AL) (n T:Nat) (ts:List Ti) (as:Nat->List ag) (R:Nat->Nat->List Int) (x y:Nat):vs=[.ref p,.int x,.int y]->CS K C A->KP C A H p dx a n T ts as R->n<=200->x<n->y<n->x≠y->(((min x y:Nat):Int),((max x y:Nat):Int))∈ts.map Ti.key->ts.length<99->nH Pt H->(∀ (q:ag) (us:List Tt) (u:Ti) ts' as' R' H',u∈ts->u.key=(((min x y:Nat):Int),((max x y:Nat):Int))->H' q=some (.lst (us.map pT))->(∀ v∈us,CD H' v)->us.length<=1000->TC u us->jg ts'+u.cA=jg ts+E7 us->(∀ c1 c2 c3 c4,Ac H p c1 c2 c3 c4->Ac H' p c1 (c2+(E7 us+Eh us:Nat)) (c3+(E7 us:Nat)) (c4+(T-u.cA)))->KP C A H' p dx a n T ts' as' R'->ts'.map Ti.key=(ts.map Ti.key).filter (λk=>decide (k≠(((min x y:Nat):Int),((max x y:Nat):Int))))->nH Pt H'->Fm (p::Pt::fp a) H H'->Q (.ref q) H')->fJ K C A Pt vs H Q E
theorem Gi:Rn (fJ K C A Pt) (y9 K C A (eh K C) (hJ K C) (eW K C A Pt) (ky K C) (iC K C) (dj K C A)) ["self","a","b","tie","trail"]:=by
 rintro vs H Q E ⟨p,dx,a,n,T,ts,as,R,x,y,rfl,ct,h,hn,hx,hy,hxy,hk,hl,hP,k⟩;obtain ⟨w,c1,c2,c3,c4,hw,hp⟩:=h.ob;obtain ⟨u,hu,eu⟩:=bo.mp hk;obtain ⟨eu1,eu2⟩:=cS eu
 have eu1:u.x=min x y:=by lia
 have eu2:u.y=max x y:=by lia
 have nPp:p≠Pt:=hP.ne hp (λ_ z=>nomatch z);unfold y9;k_go;refine ⟨p,A.aO,dx,_,_,rfl,hp,ct.kc,ct.k1,fK1,?_⟩;lk;refine m5 ?_;refine m5 ?_;lk;refine ⟨p,A.aO,dx,_,_,rfl,hp,ct.kc,ct.k2,W8,?_⟩;refine ⟨a.q,A.bJ,a.dq,_,_,rfl,h.lv.ob,ct.lc,ct.l1,QB,?_⟩;lk;refine ⟨n,x,y,a.d1,kl ts,rfl,hx,hy,hxy,h.lv.e1,by rw [← eu1,← eu2,iE h.iv.nd hu];rfl,λt ht=>?_⟩;rw [← eu1,← eu2];generalize eu_:upd H t (.tup [.int (u.x:Nat),.int (u.y:Nat)])=H1;obtain ⟨S1,g1⟩:=km eu_ ht;have L1:=h.lv.same S1;have p1:=S1 _ _ hp;lk;refine wO ?_;lk;refine ⟨p,A.aO,dx,_,_,rfl,p1,ct.kc,ct.k7,fK7,?_⟩;k_go;refine ⟨p,A.aO,dx,_,_,rfl,p1,ct.kc,ct.k1,fK1,?_⟩;lk;refine vh ?_;refine m5 ?_;lk;refine ⟨p,A.aO,dx,_,_,rfl,p1,ct.kc,ct.k2,W8,?_⟩;refine ⟨a.q,a.dq,_,rfl,L1.ob,UP,?_⟩;lk;refine ⟨a.q,a.dq,a.d1,a.d2,a.d3,a.L,t,kl ts,kw ts,u.x,u.y,_,_,rfl,ct,L1.ob,.inl L1.e1,.inl L1.e2,g1,iE (f:=λt=>V.int t.cA) h.iv.nd hu,iE (f:=λt=>V.bl t.wd) h.iv.nd hu,λr hr=>?_⟩;generalize eu_:upd H1 r (.tup [.int u.x,.int u.y,.int u.cA,.bl u.wd])=H2;obtain ⟨S2,g2⟩:=km eu_ hr;lk;refine ⟨bq (m:=1) (ak 1),λl hl3=>?_⟩;generalize eu_:upd H2 l (.lst [.ref r])=H3;obtain ⟨S3,g3⟩:=km eu_ hl3;lk;refine ⟨n,T,l,[(u,r)],rfl,h.tp,g3,λv hv=>by rw [aC.mp hv];exact S3 _ _ g2,by simp,λH4 S4=>?_⟩
 have ec:([(u,r)].map λv:Ti×ag=>(T:Int)-v.1.cA).sum=(T:Int)-u.cA:=by simp
 rw [ec];generalize hc:(T:Int)-u.cA=c;have S14:bQ H H4:=((S1.trans S2).trans S3).trans S4;have p4:=S14 _ _ hp;have L4:=h.lv.same S14;have t4:=S4 _ _ (S3 _ _ (S2 _ _ g1));refine ⟨c4,c,rfl,rfl,dx,_,p4,Zw,?_⟩;rw [fKp7];have L5:=L4.inst (o:=.ins A.aO dx (fK n a.q w.1 c1 c2 c3 (c4+c))) p4 J5 J5;have p5:(upd H4 p (.ins A.aO dx (fK n a.q w.1 c1 c2 c3 (c4+c)))) p=_:=aE;have t5:(upd H4 p (.ins A.aO dx (fK n a.q w.1 c1 c2 c3 (c4+c)))) t=_:=(aG (gK t4 p4)).trans t4
 have P5:nH Pt (upd H4 p (.ins A.aO dx (fK n a.q w.1 c1 c2 c3 (c4+c)))):=(hP.same S14).keep λb o _ _ h3 _ e=>by rw [aG];exact e;rintro rfl;rw [p4] at e;cases e;exact h3 _ _ _ rfl
 have F5:Fm (p::Pt::fp a) H (upd H4 p (.ins A.aO dx (fK n a.q w.1 c1 c2 c3 (c4+c)))):=(Fm.of S14).trans (Fm.upd aw);generalize upd H4 p (.ins A.aO dx (fK n a.q w.1 c1 c2 c3 (c4+c)))=H5 at L5 p5 t5 P5 F5;dsimp only;lk;refine vh ?_;refine m5 ?_;lk;refine ⟨p,A.aO,dx,_,_,rfl,p5,ct.kc,ct.k2,W8,?_⟩;refine ⟨a.q,a.dq,_,rfl,L5.ob,UP,?_⟩;lk;have hT8:=h.tp.small (by lia);refine ⟨a,n,T,ts,as,R,t,u,rfl,ct,L5,hn,by lia,h.tp.hi,h.iv,h.jn,hu,t5,hl,P5,λq us ts' as' R' H6 hq gq oks hlu L6 V6 J6 hk6 hs6 hf6 P6 F6=>?_⟩;have p6:=F6 _ _ (λz=>(au.mp z).elim nPp (L5.outI p5)) p5;lk;refine wO ?_;lk;refine ⟨p,A.aO,dx,_,_,rfl,p6,ct.kc,ct.k5,fK5,?_⟩;lk;refine ⟨q,us,rfl,gq,oks,hlu,hf6.Eh,λH7 S7=>?_⟩;generalize hc':((E7 us+Eh us:Nat):Int)=c';have p7:=S7 _ _ p6;refine ⟨c2,c',rfl,rfl,dx,_,p7,Zw,?_⟩;rw [fKp5];have L8:=(L6.same S7).inst (o:=.ins A.aO dx (fK n a.q w.1 c1 (c2+c') c3 (c4+c))) p7 J5 J5;have p8:(upd H7 p (.ins A.aO dx (fK n a.q w.1 c1 (c2+c') c3 (c4+c)))) p=_:=aE
 have n8:∀ {b:ag}{o:HO},H7 b=some o->(∀ x y z,o≠.ins x y z)->(upd H7 p (.ins A.aO dx (fK n a.q w.1 c1 (c2+c') c3 (c4+c)))) b=some o:=λ{b o} e hno=>by rw [aG];exact e;rintro rfl;rw [p7] at e;cases e;exact hno _ _ _ rfl
 have F8:Fm (p::Pt::fp a) H (upd H7 p (.ins A.aO dx (fK n a.q w.1 c1 (c2+c') c3 (c4+c)))):=((F5.trans F6.tail).trans (Fm.of S7)).trans (Fm.upd aw);generalize upd H7 p (.ins A.aO dx (fK n a.q w.1 c1 (c2+c') c3 (c4+c)))=H8 at L8 p8 n8 F8;dsimp only;lk;refine wO ?_;lk;refine ⟨p,A.aO,dx,_,_,rfl,p8,ct.kc,ct.k6,fK6,?_⟩;lk;refine ⟨q,us,rfl,n8 (S7 _ _ gq) (λ_ _ _ z=>nomatch z),λv hv=>⟨n8 (S7 _ _ (oks v hv).1) (λ_ _ _ z=>nomatch z),n8 (S7 _ _ (oks v hv).2) (λ_ _ _ z=>nomatch z)⟩,hlu,λH9 S9=>?_⟩;generalize hc'':((E7 us:Nat):Int)=c'';have p9:=S9 _ _ p8;refine ⟨c3,c'',rfl,rfl,dx,_,p9,Zw,?_⟩;rw [fKp6]
 have n9:∀ {b:ag}{o:HO},H8 b=some o->(∀ x y z,o≠.ins x y z)->(upd H9 p (.ins A.aO dx (fK n a.q w.1 c1 (c2+c') (c3+c'') (c4+c)))) b=some o:=λ{b o} e hno=>by rw [aG];exact S9 _ _ e;rintro rfl;rw [p8] at e;cases e;exact hno _ _ _ rfl
 dsimp only;lk;refine k q us u ts' as' R' _ hu eu ?_ (λv hv=>⟨?_,?_⟩) hlu hf6 (by rw [hs6,← ER h.iv.nd hu];lia) (λd1 d2 d3 d4 qa=>?_) ⟨⟨w,_,_,_,_,hw,aE⟩,(L8.same S9).inst p9 J5 J5,V6,J6,h.tp⟩ ?_ ?_ ((F8.trans (Fm.of S9)).trans (Fm.upd aw))
 .exact n9 (n8 (S7 _ _ gq) (λ_ _ _ z=>nomatch z)) (λ_ _ _ z=>nomatch z)
 .exact n9 (n8 (S7 _ _ (oks v hv).1) (λ_ _ _ z=>nomatch z)) (λ_ _ _ z=>nomatch z)
 .exact n9 (n8 (S7 _ _ (oks v hv).2) (λ_ _ _ z=>nomatch z)) (λ_ _ _ z=>nomatch z)
 .obtain ⟨rfl,rfl,rfl,rfl⟩:=qa.one hp;subst hc hc' hc'';exact ⟨_,_,_,_,_,aE⟩
 .rw [hk6,← eu1,← eu2,ui];rfl
 .refine ((P6.same S7).keep λb o _ _ h3 _ e=>S9 _ _ (n8 e h3)).keep λb o _ _ h3 _ e=>?_;rw [aG];exact e;rintro rfl;rw [p9] at e;cases e;exact h3 _ _ _ rfl
inductive oo (K:aa) (C:ag) (A:CA) (vs:List V) (H:Hp) (Q:VK) (E:XK):Prop
 | mk (p dx:ag) (a:AL) (n T:Nat) (ts:List Ti) (as:Nat->List ag) (R:Nat->Nat->List Int):vs=[.ref p]->CS K C A->KP C A H p dx a n T ts as R->ts.length<99->(∀ (q:ag) (us:List (Ti×ag)) (o:jk) (H':Hp),H q=none->H' q=some (.lst (us.map rT))->(∀ u∈us,qq H' u)->(us.map (·.1)).Perm ts->H' a.d1=some (.frz o (.dT (kl ts)))->bh a.d1 H H'->Q (.ref q) H')->oo K C A vs H Q E
inductive cu (K:aa) (C:ag) (A:CA) (vs:List V) (H:Hp) (Q:VK) (E:XK):Prop
 | mk (p dx:ag) (a:AL) (n T:Nat) (ts:List Ti) (as:Nat->List ag) (R:Nat->Nat->List Int):vs=[.ref p]->CS K C A->KP C A H p dx a n T ts as R->ts.length<99->(∀ (q:ag) (us:List (Ti×ag)) (H':Hp),H q=none->H' q=some (.lst (us.map rT))->(∀ u∈us,qq H' u)->(us.map (·.1)).Perm ts->bQ H H'->Q (.ref q) H')->cu K C A vs H Q E
theorem BM:∀ vs H Q E,cu K C A vs H Q E->oo K C A vs H (SE H Q) E:=by
 rintro vs H Q E ⟨p,dx,a,n,T,ts,as,R,rfl,ct,h,hl,k⟩;refine ⟨p,dx,a,n,T,ts,as,R,rfl,ct,h,hl,λq us o H' hq gq fl pm gd B=>.inr ⟨a.d1,o,kl ts,(λo' u' e=>by rw [h.lv.e1] at e;cases e),gd,?_⟩⟩;have hqd:q≠a.d1:=Ne.symm (aQ h.lv.e1 hq);refine k q us _ hq (by rw [aG hqd];exact gq) (λu hu=>(aG (gK (fl u hu) gd)).trans (fl u hu)) pm λb ob e=>?_
 by_cases hb:b=a.d1
 .subst hb;rw [aE,← h.lv.e1,e]
 .rw [aG hb];exact B _ _ e hb
theorem BN:Rn (oo K C A) (wK K C A (dj K C A)) mv:=by
 rintro vs H Q E ⟨p,dx,a,n,T,ts,as,R,rfl,ct,h,hl,k⟩;obtain ⟨w,c1,c2,c3,c4,hw,hp⟩:=h.ob;have hnd:=h.iv.nd;unfold wK;lk;refine Uj ?_;refine m5 ?_;refine m5 ?_;lk;refine ⟨p,A.aO,dx,_,_,rfl,hp,ct.kc,ct.k2,W8,?_⟩;refine ⟨a.q,A.bJ,a.dq,_,_,rfl,h.lv.ob,ct.lc,ct.l1,QB,?_⟩;refine ⟨a.d1,kl ts,rfl,.inl ⟨h.lv.e1,λo=>?_⟩⟩;have g1:(upd H a.d1 (.frz o (.dT (kl ts)))) a.d1=some (.frz o (.dT (kl ts))):=aE;have B1:bh a.d1 H (upd H a.d1 (.frz o (.dT (kl ts)))):=bh.upd;generalize upd H a.d1 (.frz o (.dT (kl ts)))=H1 at g1 B1;have p1:=B1 _ _ hp (gK hp h.lv.e1);have q1:=B1 _ _ h.lv.ob (gK h.lv.ob h.lv.e1);have w1:=B1 _ _ h.lv.e2 (Ne.symm h.lv.MS);intro acc hacc;refine mE (n:=ts.length) (λt ys H4=>H4 acc=some (.lst ys)/\bQ H1 H4/\∃ us:List (Ti×ag),ys=us.map rT/\us.map (·.1)=ts.take t/\∀ u∈us,qq H4 u) (λZ=>∃ o,Z=[o,some (.ref p)]) ⟨aE,bQ.cC hacc,[],rfl,rfl,λz hz=>nomatch hz⟩ ⟨_,rfl⟩ ?_ ?_ ?_ ?_
 .rintro t ys H4 ⟨e,_⟩;exact e
 .rintro ys H4 ⟨g4,S4,us,rfl,hu,fl⟩;refine ⟨⟨by rw [pS];exact ak _,S4 _ _ g1⟩,?_⟩;rw [bT (ak _)] at hu
  have hul:us.length=ts.length:=by have:=congrArg eD hu;simpa using this
  lk;refine ⟨acc,us.map (λu=>([(u.1.x:Int),(u.1.y:Int),(u.1.cA:Int),b2i u.1.wd],u.2)),[false,false,true],rfl,by rw [cf];exact cL.of g4,λz hz=>?_,by rw [af];lia,λl zs' hl4 hperm _=>?_⟩
  .obtain ⟨u,hum,rfl⟩:=bo.mp hz;exact ⟨_,fl u hum,.int _ (.int _ (.int _ (.bl _ .nil)))⟩
  obtain ⟨us',hp',rfl⟩:=Sy.perm_map hperm.symm us rfl
  have hlf:H l=none:=by
   cases z:H l with
   | none=>rfl
   | some ob =>
    by_cases hb:l=a.d1
    .rw [hb,S4 _ _ g1] at hl4;cases hl4
    .rw [S4 _ _ (B1 _ _ z hb)] at hl4;cases hl4
  have U:∀ {b:ag}{u:HO}{xs:List V},H4 b=some u->(upd H4 l (.lst xs)) b=some u:=λe=>by rw [aG (aQ e hl4)];exact e
  refine k l us' o _ hlf (by rw [aE,cf];rfl) (λu hum=>U (fl u (hp'.mem_iff.mp hum))) (by rw [← hu];exact hp'.map _) (U (S4 _ _ g1)) λb ob e hb=>U (S4 _ _ (B1 _ _ e hb))
 .rintro t ys H4 ht ⟨_,S4,_⟩;exact ⟨by rw [pS];exact ht,S4 _ _ g1⟩
 .rintro t ys σ' H4 x H5 ht ⟨g4,S4,us,rfl,hu,fl⟩ ⟨o',rfl⟩ ⟨eH,key,v,b,hk,ex,hb⟩;subst eH ex
  obtain ⟨u,hu',eu⟩:∃ u,ts[t]?=some u/\(pk u.x u.y,V.int u.cA)=(key,v):=by
   have hk:(ts.map λt=>(pk t.x t.y,V.int t.cA))[t]?=some (key,v):=hk;rw [aA] at hk;exact br.mp hk
  cases eu;have hum:=aN hu';lk;refine mD ?_;refine vh ?_;refine m5 ?_;lk;refine ⟨p,A.aO,dx,_,_,rfl,S4 _ _ p1,ct.kc,ct.k2,W8,?_⟩;refine ⟨a.q,a.dq,_,rfl,S4 _ _ q1,UP,?_⟩;lk;refine ⟨a.q,a.dq,a.d1,a.d2,a.d3,a.L,b,kl ts,kw ts,u.x,u.y,_,_,rfl,ct,S4 _ _ q1,.inr ⟨o,S4 _ _ g1⟩,.inl (S4 _ _ w1),hb,iE (f:=λt=>V.int t.cA) hnd hum,iE (f:=λt=>V.bl t.wd) hnd hum,λr hr=>?_⟩;generalize eu_:upd H5 r (.tup [.int u.x,.int u.y,.int u.cA,.bl u.wd])=H6;obtain ⟨T,gr⟩:=km eu_ hr
  have hul:us.length=t:=by
   have:=congrArg eD hu;rw [af,bS] at this;lia
  refine ⟨T _ _ g4,eL (m:=100) (by rw [af];lia),kI.mk' ht ⟨_,rfl⟩ ⟨aE,λb' ob e=>by rw [aG (aQ e hacc)];exact T _ _ (S4 _ _ e),us++[(u,r)],by simp [rT],?_,λz hz'=>?_⟩⟩
  .rw [aZ,hu,fo,hu'];rfl
  .have tn:∀ {z:Ti×ag},qq H6 z->qq (upd H6 acc (.lst (us.map rT++[.ref r]))) z:=λ{z} e=>(aG (gK e (T _ _ g4))).trans e
   rcases aS.mp hz' with hz'|hz'
   .exact tn (T _ _ (fl z hz'))
   .rw [aC.mp hz'];exact tn gr
theorem Te {T:Int}{ts':List Ti}(p:ts.Perm ts'):(ts.map λt=>T-(t.cA:Int)).sum=(ts'.map λt=>T-(t.cA:Int)).sum:=by
 induction p with
 | nil=>rfl
 | cons t _ ih=>rw [aW,aW,fX,fX,ih]
 | swap t u _=>simp only [aW,fX];lia
 | trans _ _ h1 h2=>exact h1.trans h2
theorem QE {T:Int}:∀ ts:List Ti,(ts.map λt=>T-(t.cA:Int)).sum=T*ts.length-jg ts
 | []=>by simp [jg]
 | t::ts=>by
  rw [aW,fX,QE ts,j6,bI,Xl,Int.mul_add];lia
theorem Yx {T:Int}(pm:(us.map (·.1)).Perm ts):(us.map λu=>T-(u.1.cA:Int)).sum=T*ts.length-jg ts:=by
 rw [← QE,← Te pm,cf];rfl
inductive bw (K:aa) (C:ag) (A:CA) (vs:List V) (H:Hp) (Q:VK) (E:XK):Prop
 | mk (p dx:ag) (a:AL) (n T:Nat) (ts:List Ti) (as:Nat->List ag) (R:Nat->Nat->List Int) (c1 c2 c3 c4:Int):vs=[.ref p]->CS K C A->KP C A H p dx a n T ts as R->ts.length<99->Ac H p c1 c2 c3 c4->(∀ t H',bQ H H'->H' t=some (.tup [.int c1,.int c2,.int c3,.int c4,.int ((T:Int)*ts.length-jg ts)])->Q (.ref t) H')->bw K C A vs H Q E
theorem ym:Rn (bw K C A) (qp K C A (hJ K C) (cu K C A)) mv:=by
 rintro vs H Q E ⟨p,dx,a,n,T,ts,as,R,c1,c2,c3,c4,rfl,ct,h,hl,ac,k⟩;obtain ⟨w,d1,d2,d3,d4,hw,hp⟩:=h.ob;obtain ⟨rfl,rfl,rfl,rfl⟩:=ac.one hp;unfold qp;k_go;refine ⟨p,A.aO,dx,_,_,rfl,hp,ct.kc,ct.k4,fK4,?_⟩;k_go;refine ⟨p,A.aO,dx,_,_,rfl,hp,ct.kc,ct.k5,fK5,?_⟩;k_go;refine ⟨p,A.aO,dx,_,_,rfl,hp,ct.kc,ct.k6,fK6,?_⟩;k_go;refine ⟨p,A.aO,dx,_,_,rfl,hp,ct.kc,ct.k7,fK7,?_⟩;k_go;refine ⟨p,A.aO,dx,_,_,rfl,hp,ct.kc,ct.k1,fK1,?_⟩;k_in;refine ⟨p,dx,_,rfl,hp,J5,?_⟩;lk;refine ⟨p,dx,a,n,T,ts,as,R,rfl,ct,h,hl,λq us H1 hq gq fl pm S1=>?_⟩
 have hul:us.length=ts.length:=by have:=pm.length_eq;rwa [af] at this
 lk;refine ⟨n,T,q,us,rfl,h.tp,gq,fl,by lia,λH2 S2=>?_⟩;rw [Yx pm];lk;exact ⟨bq (m:=5) (ak 5),λt ht=>k t _ ((S1.trans S2).trans (bQ.cC ht)) aE⟩
inductive kC (K:aa) (C:ag) (vs:List V) (H:Hp) (Q:VK) (E:XK):Prop
 | mk (p dx l:ag) (n:Nat) (as:List ag) (R:Nat->List Int):vs=[.ref p]->CT K C->WA C H p dx l n as R->(∀ i,i<n->R i=[(i:Int)])->(∀ q H',bQ H H'->H' q=some (.lst [])->Q (.ref q) H')->kC K C vs H Q E
theorem Dp:Rn (kC K C) (wJ K C (cP K C)) ["self","told","place","row"]:=by
 rintro vs H Q E ⟨p,dx,l,n,as,R,rfl,ct,W,hR,k⟩;unfold wJ;lk;refine ⟨bq (m:=0) (ak 0),λtl htl=>?_⟩;generalize eu_:upd H tl (.lst [])=H0;obtain ⟨S0,g0⟩:=km eu_ htl;have W0:=W.same S0;lk;unfold rL;k_ne;refine SH ?_;k_go;refine ⟨p,C,dx,_,_,rfl,W0.ob,ct.cl,ct.rows,iD _ _,?_⟩;lk;refine ⟨l,_,rfl,cL.of W0.rl,PF (K:=K) (a:=l) (xs:=as.map V.ref) (λi Z H1=>∃ o2 o3,Z=[some (.ref p),some (.ref tl),o2,o3]/\H1 tl=some (.lst [])/\bQ H H1) ⟨_,_,rfl,g0,S0⟩ ?_ ?_ ?_⟩
 .rintro i Z H1 _ ⟨o2,o3,rfl,_,S⟩;exact cL.of (S _ _ W.rl)
 .rintro i x q Z H1 hi hq ⟨o2,o3,rfl,gt,S⟩;rw [aA] at hi;obtain ⟨ra,hra,ex⟩:=br.mp hi;subst ex
  have hin:i<n:=by rw [← W.len];exact (aD.mp hra).1
  generalize eu_:upd H1 q (.tup [.int (i:Int),.ref ra])=H2;obtain ⟨S1,g1⟩:=km eu_ hq;have hrow:=S1 _ _ (S _ _ (W.at_ i ra hra));rw [hR i hin] at hrow;refine FM (.of g1) rfl ?_;lk;refine A2 (cL.of hrow) (j:=0) rfl rfl ?_;lk;refine qC (λe=>?_) λe=>absurd rfl e;have gt2:=S1 _ _ gt;lk;refine ⟨.inl ⟨rfl,_,cL.of gt2⟩,?_⟩;lk;refine ⟨ra,[(i:Int)],rfl,cL.of hrow,by simp,λal1 H3 ws S3 hal X4 pal eal=>?_⟩;obtain rfl:ws=[]:=Rw.mp eal;lk;refine .inl ⟨⟨_,cL.of X4⟩,λacc hacc=>mF (K:=K) ([]:List Zt) (λ_=>true) gH (λ_=>True) rfl (cL.of X4) hacc trivial (aM _) ?_ λH4 S4 g4=>?_⟩
  .rintro i u x σ' H' G G' hu;cases hu
  have gt4:=S4 _ _ (S3 _ _ gt2);lk;refine XW gt4 g4 (bq (m:=0) (ak 0)) ?_;exact ⟨_,_,rfl,aE,λb o e=>by rw [aG (aQ e htl)];exact S4 _ _ (S3 _ _ (S1 _ _ (S _ _ e)))⟩
 .rintro Z H1 ⟨o2,o3,rfl,gt,S⟩;lk;refine ⟨tl,[],[],rfl,cL.of gt,(λz hz=>nomatch hz),by decide,λl zs' hl hperm _=>?_⟩;obtain rfl:=On hperm;exact k l _ (S.trans (bQ.cC hl)) aE
inductive bN (K:aa) (C:ag) (A:CA) (vs:List V) (H:Hp) (Q:VK) (E:XK):Prop
 | mk (p dx:ag) (a:AL) (n T:Nat) (as:Nat->List ag) (R:Nat->Nat->List Int):vs=[.ref p]->CS K C A->KP C A H p dx a n T [] as R->(∀ H',bQ H H'->Q (.int 0) H')->bN K C A vs H Q E
theorem tT:Rn (bN K C A) (nj K C A (kC K C)) mv:=by
 rintro vs H Q E ⟨p,dx,a,n,T,as,R,rfl,ct,h,k⟩;obtain ⟨w,c1,c2,c3,c4,hw,hp⟩:=h.ob;have W:=h.lv.wa 0 w hw;have D:=h.lv.wd 0 (aM _)
 have hR:∀ i,i<n->R 0 i=[(i:Int)]:=λi hi=>by
  have hm:=D.me i hi
  match hr:R 0 i with
  | []=>exact absurd hr (D.r i hi).ne
  | [x]=>rw [hr] at hm;rw [aC.mp hm]
  | x::y::r =>
   have e:Ed n (R 0) x y:=⟨i,hi,by rw [hr];exact aw⟩
   obtain ⟨t,ht,_⟩:=(h.iv.ed 0 (aM _) _ _).mp e;cases ht
 unfold nj;lk;refine vh ?_;refine m5 ?_;lk;refine ⟨p,A.aO,dx,_,_,rfl,hp,ct.kc,ct.k3,fK3,?_⟩;refine ⟨w.1,w.2.1,_,rfl,W.ob,kD _ _,?_⟩;lk;refine ⟨w.1,w.2.1,w.2.2,n,as 0,R 0,rfl,ct.w,W,hR,λq H1 S1 gq=>?_⟩;refine ⟨q,rfl,.inl ⟨⟨_,cL.of gq⟩,λacc hacc=>?_⟩⟩;refine mF (K:=K) ([]:List Zt) (λ_=>true) gH (λ_=>True) rfl (cL.of gq) hacc trivial (aM _) ?_ λH4 S4 g4=>?_
 .rintro i u x σ' H' G G' hu;cases hu
 lk;exact ⟨acc,[],rfl,cL.of g4,k _ (S1.trans S4)⟩
theorem KP.YV (h:KP C A H p dx a n T ts as R) (hP:nH Pt H) (F:Fm (p::fp a) H H'):nH Pt H' :=
 hP.keep λb o h1 h2 h3 _ e=>F b o (λz=>by
  rcases au.mp z with rfl|z
  .obtain ⟨fs,hp⟩:=h.p0;rw [hp] at e;cases e;exact h3 _ _ _ rfl
  .exact h.lv.out e h1 (λ_ _=>h2 _) z) e
theorem KP.gv (h:KP C A H p dx a n T [] as R) (g:Int->Int->Int):KP C A H p dx { a with g:=g } n T [] as R:=⟨h.ob,⟨h.lv.ob,h.lv.e1,h.lv.e2,h.lv.e3,h.lv.ls,h.lv.len,h.lv.wa,h.lv.wd,h.lv.n1,h.lv.MS,h.lv.Ot,h.lv.Ra,h.lv.nl,h.lv.nL⟩,h.iv,h.jn,h.tp⟩
abbrev Tr:=Nat×Nat×Int×ag
def za (t:Tr):List gG×V:=(pk t.1 t.2.1,.int t.2.2.1)
def Dq (t:Tr):V:=.ref t.2.2.2
def K2 (n:Nat) (H:Hp) (t:Tr):Prop:=H t.2.2.2=some (.tup [.int t.1,.int t.2.1,.int t.2.2.1])/\t.1<t.2.1/\t.2.1<n
theorem MG {kvs:List (List gG×V)}{k:List gG}(h:k∉kvs.map (·.1)):jb kvs k=none:=by
 cases e:jb kvs k with
 | none=>rfl
 | some v=>exact absurd (Sk e) h
def Gj (kvs:List (List gG×V)) (x y:Int):Int:=match jb kvs [bP x,bP y] with|some (.int w)=>w|_=>0
inductive bF (K:aa) (C:ag) (A:CA) (Pt:ag) (vs:List V) (H:Hp) (Q:VK) (E:XK):Prop
 | mk (p dx W:ag) (n:Nat) (ts:List Tr):vs=[.ref p,.int n,.ref W]->H p=some (.ins A.aO dx [])->CS K C A->1<=n->n<=200->H W=some (.lst (ts.map Dq))->(∀ t∈ts,K2 n H t)->(ts.map λt=>(za t).1).Nodup->ts.length<64->nH Pt H->(∀ (a:AL) (T:Nat) (us:List Ti) (as:Nat->List ag) (R:Nat->Nat->List Int) H',KP C A H' p dx a n T us as R->us.length=ts.length->jg us=0->Ac H' p ts.length 0 0 0->nH Pt H'->(∀ b∈a.L::fp a,H b=none)->(∀ b o,b≠p->b≠Pt->H b=some o->H' b=some o)->Q .non H')->bF K C A Pt vs H Q E
theorem qw:Rn (bF K C A Pt) (lV K C A (dr K C A) (fe K C Pt) (iM K C) (eC K C A)) UE:=by
 rintro vs H Q E ⟨p,dx,W,n,ts,rfl,hp,ct,hn1,hn2,hW,htr,hnd,hlen,hT,k⟩;unfold lV;lk;refine ⟨p,dx,n,rfl,hp,ct,hn1,hn2,λa T as H1 h1 B1 fr1 ac1=>?_⟩;have pP:p≠Pt:=hT.ne hp (λ_ z=>nomatch z)
 have ni:∀ {b:ag}{o:HO},H b=some o->(∀ x y z,o≠.ins x y z)->H1 b=some o:=λ{b o} e hno=>B1 _ _ e λz=>by rw [z,hp] at e;cases e;exact hno _ _ _ rfl
 have hW1:=ni hW (λ_ _ _ z=>nomatch z)
 have htr1:∀ t∈ts,K2 n H1 t:=λt ht=>⟨ni (htr t ht).1 (λ_ _ _ z=>nomatch z),(htr t ht).2⟩
 have hT1:nH Pt H1:=hT.keep λb o _ _ h3 _ e=>ni e h3;have h1:=h1.gv (Gj (ts.map za));have ef:fp { a with g:=Gj (ts.map za) }=fp a:=rfl;have hg:(AL.g { a with g:=Gj (ts.map za) })=Gj (ts.map za):=rfl;have fr1:∀ b∈({ a with g:=Gj (ts.map za) }:AL).L::fp { a with g:=Gj (ts.map za) },H b=none:=fr1;generalize ({ a with g:=Gj (ts.map za) }:AL)=a at h1 hg fr1;lk;refine Ar λdW hdW=>?_;lk;have S2:=bQ.cC (o:=.dT []) hdW;have gd:(upd H1 dW (.dT [])) dW=some (.dT []):=aE;have nd:dW∉fp a:=h1.lv.Ej hdW;generalize upd H1 dW (.dT [])=H2 at S2 gd;unfold kA;lk
 refine .inl ⟨⟨_,cL.of (S2 _ _ hW1)⟩,lR (K:=K) (a:=W) (xs:=ts.map Dq)
  (λi Z H3=>bh dW H2 H3/\H3 dW=some (.dT ((ts.take i).map za))/\∃ o4 o5 o6 o7,Z=[some (.ref p),some (.int n),some (.ref W),some (.ref dW),o4,o5,o6,o7])
  ⟨bh.refl _ _,gd,_,_,_,_,rfl⟩ ?_ ?_ ?_⟩
 .rintro i Z H3 _ ⟨B,_⟩;exact cL.of (B _ _ (S2 _ _ hW1) (gK (S2 _ _ hW1) gd))
 .rintro i z Z H3 hi ⟨B,g3,o4,o5,o6,o7,rfl⟩;rw [aA] at hi;obtain ⟨t,ht,rfl⟩:=br.mp hi;have hm:=aN ht;obtain ⟨b0,b1,b2⟩:=htr1 t hm;have g2:=S2 _ _ b0;have g4:=B _ _ g2 (gK g2 gd);refine ⟨t.2.2.2,_,rfl,ie.of g4,rfl,?_⟩;lk
  have et:ts.take (i+1)=ts.take i++[t]:=by rw [fo,ht];rfl
  have hkn:pk t.1 t.2.1∉((ts.take i).map za).map (·.1):=λhmem=>by
   have h2:((ts.take i++[t]).map λt=>(za t).1).Nodup:=by rw [← et];exact ((qc _ _).map _).nodup hnd
   rw [aZ,eE] at h2;rw [cf] at hmem;exact h2.2.2 _ hmem _ aw rfl
  have em1:min t.1 t.2.1=t.1:=by lia
  have em2:max t.1 t.2.1=t.2.1:=by lia
  refine ⟨n,t.1,t.2.1,dW,_,rfl,by lia,b2,by lia,g3,by rw [em1,em2];exact MG hkn,λr hr=>?_⟩;rw [em1,em2];lk;have nr:dW≠r:=aQ g3 hr;refine .inr ⟨dW,_,rfl,CC.t (k:=pk t.1 t.2.1) (by rw [aG nr];exact g3) aE (eL (m:=100) (by rw [af,bS];lia)),?_⟩;refine ⟨λb o e hb=>?_,?_,_,_,_,_,rfl⟩
  .have e3:=B b o e hb;rw [aG hb,aG (aQ e3 hr)];exact e3
  .rw [aE,HL _ (MG hkn),et,aZ];rfl
 .rintro Z H3 ⟨B3,g3,o4,o5,o6,o7,rfl⟩;rw [bT (by rw [af];exact ak _)] at g3;have S13:bQ H1 H3:=λb o e=>B3 _ _ (S2 _ _ e) (aQ e hdW);have h3:=h1.same S13;have hT3:nH Pt H3:=hT1.same S13;unfold kB;lk
  have hkeys:(ts.map za).map (·.1)=ts.map λt=>(za t).1:=by rw [cf];rfl
  have hvT:∀ t∈ts,jb (ts.map za) (pk t.1 t.2.1)=some (.int t.2.2.1):=λt ht=>by
   obtain ⟨j,hj⟩:=bC.mp (aX (f:=za) ht);exact qV (by rw [hkeys];exact hnd) hj
  have hwT:∀ t∈ts,Gj (ts.map za) t.1 t.2.1=t.2.2.1:=λt ht=>by
   unfold Gj;rw [show jb (ts.map za) [bP ((t.1:Nat):Int),bP ((t.2.1:Nat):Int)]=some (.int t.2.2.1) from hvT t ht]
  refine ⟨dW,dW,ts.map za,rfl,g3,hT3,.inr ⟨ts.map za,a.g,g3,λq hq=>?_,by rw [af];lia,λl zs H4 hl S4 hT4 hz pm=>?_⟩⟩
  .obtain ⟨t,ht,rfl⟩:=bo.mp hq;exact ⟨t.1,t.2.1,rfl,by rw [hg,hwT t ht];exact hvT t ht⟩
  have hzt:∀ z∈zs,∃ t∈ts,z.1=[a.g t.1 t.2.1,(t.1:Int),(t.2.1:Int)]/\H4 z.2=some (.tup [.int t.1,.int t.2.1]):=λz hzm=>by
   obtain ⟨x,y,e1,e2⟩:=hz z hzm;have hk:([bP (z.1.getD 1 0),bP (z.1.getD 2 0)]:List gG)∈(ts.map za).map (·.1):=pm.mem_iff.mp (aX (f:=λz:Zn=>([bP (z.1.getD 1 0),bP (z.1.getD 2 0)]:List gG)) hzm);rw [hkeys] at hk;obtain ⟨t,ht,et⟩:=bo.mp hk;rw [e1] at et;have et:([bP ((t.1:Nat):Int),bP ((t.2.1:Nat):Int)]:List gG)=[bP x,bP y]:=et
   injection et with ex et
   injection et with ey _
   injection ex with ex
   injection ey with ey
   subst ex ey;exact ⟨t,ht,e1,e2⟩
  have hzl:zs.length=ts.length:=by have:=pm.length_eq;simpa using this
  have hnz:(zs.map λz:Zn=>([bP (z.1.getD 1 0),bP (z.1.getD 2 0)]:List gG)).Nodup:=pm.nodup_iff.mpr (by rw [hkeys];exact hnd);have S5:=bQ.cC (o:=.lst (zs.map kb)) hl;have gl:(upd H4 l (.lst (zs.map kb))) l=some (.lst (zs.map kb)):=aE
  have h4:KP C A H4 p dx a n T [] as _:=let ⟨w,c1,c2,c3,c4,hw,hp⟩:=h3.ob;⟨⟨w,c1,c2,c3,c4,hw,S4 _ _ pP hp⟩,h3.lv.Q5 hT3 S4,h3.iv,h3.jn,h3.tp⟩
  have nl:l∉fp a:=h4.lv.Ej hl;have g5:=S4 _ _ (hT3.ne g3 (λ_ z=>nomatch z)) g3
  have ac5:Ac H4 p 0 0 0 0:=by
   obtain ⟨e1,e2,e3,e4,e5,q⟩:=ac1;exact ⟨e1,e2,e3,e4,e5,S4 _ _ pP (S13 _ _ q)⟩
  generalize upd H4 l (.lst (zs.map kb))=H5 at S5 gl;have h5:=h4.same S5;have hT5:=hT4.same S5;have g5:=S5 _ _ g5
  have tup5:∀ {b:ag}{xs:List V}{H6:Hp},H5 b=some (.tup xs)->Fm (p::fp a) H5 H6->H6 b=some (.tup xs):=λe F=>F _ _ (λz=>by
   obtain ⟨fs,hp⟩:=h5.p0
   exact (au.mp z).elim (gK e hp) (h5.lv.vA e)) e
  have out5:∀ {b:ag}{o:HO}{H6:Hp},H5 b=some o->(∀ x y z,o≠.ins x y z)->b∉fp a->Fm (p::fp a) H5 H6->H6 b=some o:=λ{b o H6} e hno hb F=>F _ _ (λz=>(au.mp z).elim (λz=>by
   obtain ⟨fs,hp⟩:=h5.p0
   rw [z,hp] at e;cases e;exact hno _ _ _ rfl) hb) e
  refine ⟨l,rfl,.inl ⟨⟨_,cL.of gl⟩,lR (K:=K) (a:=l) (xs:=zs.map kb)
   (λi Z H6=>∃ (us:List Ti) (as:Nat->List ag) (R:Nat->Nat->List Int),KP C A H6 p dx a n T us as R/\us.map Ti.key=(zs.take i).map (λz=>(z.1.getD 1 0,z.1.getD 2 0))/\jg us=0/\Ac H6 p i 0 0 0/\Fm (p::fp a) H5 H6/\∃ o4 o5 o6 o7,Z=[some (.ref p),some (.int n),some (.ref W),some (.ref dW),o4,o5,o6,o7])
   ⟨[],as,_,h5,rfl,rfl,(by obtain ⟨e1,e2,e3,e4,e5,q⟩:=ac5;exact ⟨e1,e2,e3,e4,e5,S5 _ _ q⟩),Fm.refl,_,_,_,_,rfl⟩ ?_ ?_ ?_⟩⟩
  .rintro i Z H6 _ ⟨us,as6,R,h6,ku,ls,ac,F,_⟩;exact cL.of (out5 gl (λ_ _ _ z=>nomatch z) nl F)
  .rintro i zv Z H6 hi ⟨us,as6,R,h6,ku,ls,ac,F,o4,o5,o6,o7,rfl⟩;rw [aA] at hi;obtain ⟨z,hzi,rfl⟩:=br.mp hi;have hzm:=aN hzi;obtain ⟨t,ht,e1,e2⟩:=hzt z hzm;have e6:=tup5 (S5 _ _ e2) F;have d6:=out5 g5 (λ_ _ _ z=>nomatch z) nd F;obtain ⟨_,b1,b2⟩:=htr1 t ht;obtain ⟨w,c1,c2,c3,c4,hw,hp6⟩:=h6.ob;have hilt:i<zs.length:=(aD.mp hzi).1
   have hul:us.length=i:=by have:=congrArg eD ku;rw [af,af,bS] at this;lia
   have ez:zs.take (i+1)=zs.take i++[z]:=by rw [fo,hzi];rfl
   have hnew:((t.1:Int),(t.2.1:Int))∉us.map Ti.key:=λhmem=>by
    rw [ku] at hmem;obtain ⟨z',hz',e'⟩:=bo.mp hmem
    have h2:((zs.take i++[z]).map λz:Zn=>([bP (z.1.getD 1 0),bP (z.1.getD 2 0)]:List gG)).Nodup:=by rw [← ez];exact ((qc _ _).map _).nodup hnz
    rw [aZ,eE] at h2;obtain ⟨q1,q2⟩:=cS e';exact h2.2.2 _ (aX hz') _ aw (by rw [q1,q2];show _=([bP (z.1.getD 1 0),bP (z.1.getD 2 0)]:List gG);rw [e1];rfl)
   k_in;refine ⟨p,dx,_,rfl,hp6,J5,?_⟩;lk;refine .inr ⟨dW,.int (a.g t.1 t.2.1),rfl,.inr ⟨ts.map za,pk t.1 t.2.1,z.2,.inl d6,rfl,e6,by rw [hg,hwT t ht];exact (hvT t ht).symm⟩,?_⟩;lk;refine ⟨p,dx,a,n,T,us,as6,R,z.2,t.1,t.2.1,rfl,ct,h6,hn2,b1,b2,e6,hnew,by lia,λb as7 R7 H7 _ h7 F7 ac7=>?_⟩;refine ⟨_,as7,R7,h7,?_,?_,ac7 _ _ _ _ ac,F.trans F7,_,_,_,_,rfl⟩
   .rw [ez,aZ,aZ,ku]
    show _++[((t.1:Int),(t.2.1:Int))]=_++[(z.1.getD 1 0,z.1.getD 2 0)]
    rw [e1];rfl
   .rw [Ql,ls];rfl
  .rintro Z H6 ⟨us,as6,R,h6,ku,ls,ac,F,_⟩;rw [bT (by rw [af];exact ak _)] at ku;rw [af,hzl] at ac;refine k a T us as6 R H6 h6 (by have:=congrArg eD ku;rw [af,af] at this;lia) ls ac (h5.YV hT5 F) fr1 λb o hb hbP e=>?_;refine F _ _ (λz=>(au.mp z).elim hb λz=>aQ e (fr1 b (ai _ z)) rfl) (S5 _ _ (S4 _ _ hbP (S13 _ _ (B1 _ _ e hb))))
inductive a8 (K:aa) (C:ag) (vs:List V) (H:Hp) (Q:VK) (E:XK):Prop
 | mk (a:ag) (ns:List Int) (k:Nat):vs=[.ref a,.int k]->cL K H a (ns.map V.int)->(∀ z:Int,Q (.int z) H)->a8 K C vs H Q E
theorem yn:Rn (a8 K C) (qj K C) Mv:=by
 rintro vs H Q E ⟨a,ns,k,rfl,hS,q⟩;unfold qj;lk;refine FP hS ?_;lk;refine qC (λh=>?_) λh=>?_
 .lk
  have hk:k<ns.length:=by lia
  refine A2 hS rfl (ay hk) ?_;exact q _
 .lk;exact q _
theorem em (hn:0<n) (x:Int):∃ j:Nat,x%(n:Int)=(j:Int)/\j<n:=by
 have h1:=Ha x (show (n:Int)≠0 by lia);have h2:=pG x (show (0:Int)<n by lia);exact ⟨(x%(n:Int)).toNat,by lia,by lia⟩
theorem Tg {z:Int}(hn:1<=n) (h0:0<=z) (h1:z<(n:Int)*n):∃ m:Nat,z/(n:Int)=(m:Int)/\m<n:=by
 have a1:=Int.ediv_nonneg h0 (b:=(n:Int)) (by lia);have a2:=Int.ediv_lt_of_lt_mul (a:=z) (b:=(n:Int)) (c:=(n:Int)) (by lia) h1;exact ⟨(z/n).toNat,by lia,by lia⟩
inductive fI (K:aa) (C:ag) (vs:List V) (H:Hp) (Q:VK) (E:XK):Prop
 | mk (c base:Int) (many:Nat):vs=[.int c,.int base,.int many]->0<base->base<1000000000000000000000->many<=1000->(∀ l H' ds,bQ H H'->H l=none->H' l=some (.lst (List.map V.int ds))->ds.length=many->(∀ d∈ds,0<=d/\d<base)->Q (.ref l) H')->fI K C vs H Q E
theorem zT:Rn (fI K C) (rG K C) UF:=by
 rintro vs H Q E ⟨c,base,many,rfl,hb,hb2,hm,k⟩;unfold rG;lk;refine ⟨bq (m:=0) (ak 0),λl hl0=>?_⟩;have S0:=bQ.cC (o:=.lst []) hl0;lk;unfold oW;lk
 refine ⟨by lia,by lia,oG (λi Z H1=>∃ (c':Int) (ds:List Int) (o4:Option V),Z=[some (.int c'),some (.int base),some (.int many),some (.ref l),o4]/\bQ H H1/\H1 l=some (.lst (ds.map V.int))/\ds.length=i/\∀ d∈ds,0<=d/\d<base)
  ⟨c,[],_,rfl,S0,aE,rfl,(λd h=>nomatch h)⟩ ?_ ?_⟩
 .rintro i Z H1 hi ⟨c',ds,o4,rfl,S,hL,hd,hB⟩;lk;refine ⟨.inl ⟨rfl,_,cL.of hL⟩,?_⟩;lk;refine oJ hL (eL (m:=2000) (by rw [af];lia)) ?_;lk;refine ⟨_,ds++[c'%base],_,rfl,λb o e=>?_,by rw [aE,aZ];rfl,by rw [bg,hd];rfl,λd h=>?_⟩
  .rw [aG (aQ e hl0)];exact S b o e
  .rcases aS.mp h with h|h
   .exact hB d h
   .rw [aC.mp h];exact ⟨Ha _ (by lia),pG _ hb⟩
 .rintro Z H1 ⟨c',ds,o4,rfl,S,hL,hd,hB⟩;lk;exact k l H1 ds S hl0 hL (by lia) hB
def Wr (n:Nat) (H:Hp) (z:Zt):Prop:=jH H z/\∃ i j:Nat,z.1=(i:Int)/\z.2.1=(j:Int)/\i<j/\j<n
structure Tb (H:Hp) (l:ag) (us:List (Ti×ag)) (ts:List Ti):Prop where
 g:H l=some (.lst (us.map rT))
 fl:∀ u∈us,qq H u
 pm:(us.map (·.1)).Perm ts
 len:us.length<100
theorem Tb.mem (h:Tb H l us ts) {u:Ti×ag}(hu:u∈us):u.1∈ts:=h.pm.mem_iff.mp (aX hu)
def cq (K:aa) (C:ag):Sp:=λvs H Q _=>∃ x:Int,vs=[.int x]/\Q (.bl true) H
theorem BO:Rn (cq K C) (uv K C) ["_law_found"]:=by
 rintro vs H Q E ⟨x,rfl,k⟩;unfold uv;lk;refine HV (.int _) Pc ?_;refine ⟨true,rfl,mD ?_⟩;lk;refine HV (.int _) Pd ?_;exact ⟨false,rfl,k⟩
def dv (K:aa) (C:ag):Sp:=λvs H Q _=>∃ n:Int,vs=[.int n]/\∀ j:Nat,Top n j->Q (.int j) H
theorem Gk:Rn (dv K C) (y6 K C) UK:=by
 rintro vs H Q E ⟨n,rfl,k⟩;unfold y6;lk;unfold uw;refine AY (λZ H'=>H'=H/\∃ j:Nat,Z=[some (.int n),some (.int j),some (.int (4*2^j))]/\(j=0\/2*(2:Int)^j<=n)) (λZ _=>match Z with|[_,_,some (.int p)]=>(n+1-p).toNat|_=>0) ⟨rfl,0,rfl,.inl rfl⟩ ?_;rintro Z H' ⟨rfl,j,rfl,hj⟩;have hp:=BI j;lk;refine qC (λh=>⟨_,Pb,?_⟩) λh=>?_
 .lk;refine ⟨⟨rfl,j+1,?_,.inr ?_⟩,?_⟩
  .have e:(4*2^j*2:Int)=4*2^(j+1):=by rw [l0];lia
   show [some (V.int n),some (V.int ((j:Int)+1)),some (V.int (4*2^j*2))]=_
   rw [e];rfl
  .rw [l0];lia
  .show (n+1-4*2^j*2).toNat<(n+1-4*2^j).toNat
   lia
 .lk;exact k j ⟨hj,by lia⟩
theorem Gm {t u:TS}{D:tM}{Z:L2.St}(P:L2.St->Hp->Prop) (rest:∀ σ' H',P σ' H'->u D σ' H') (h:(∀ σ' H',P σ' H'->u D σ' H')->t { D with nx:=u D } Z H):bU t u D Z H:=h rest
theorem Ws (ws:List (Ti×ag)) (h:0<ws.length) (z:Int):∃ u∈ws,Os (ws.map rT) (z%(ws.length:Int))=some (rT u):=by
 obtain ⟨j,ej,hj⟩:=em h z;exact ⟨ws[j],jV hj,by rw [ej];exact eI rfl (by rw [aA,ay hj];rfl)⟩
theorem MH {tt:TT}{o:Option V}{rest:L2.St}{z acc:ag}{R:Hp->Prop}(pf:Ti×ag->Bool) (hz:H z=some (.lst (us.map rT))) (fl:∀ u∈us,qq H u) (hl:us.length<100) (ha:H acc=none)
   (turn:∀ (u:Ti×ag) (H':Hp) (G:Bool->Hp->Prop),u∈us->qq H' u->G (pf u) H'->tt (some (rT u)::rest) H' G)
   (fin:∀ (H':Hp),bQ H H'->H' acc=some (.lst ((us.filter pf).map rT))->R H') :
  ∃ W:Nat->Nat->List V->L2.St->Hp->Prop,(∃ m,W 0 m [] (o::rest) (upd H acc (.lst [])))/\∀ i m ys σ' H',W i m ys σ' H'->H' acc=some (.lst ys) /\
  (((Oo K z).stop i H'/\R H')\/((Oo K z).go i H'/\∀ x H2,(Oo K z).J7 i H' x H2->(bj 0) x σ' H2 λσ2 H3=>tt σ2 H3 λb H4 =>
   if b=true then (ao 0) σ2 H4 λy H5=>H5 acc=some (.lst ys)/\ys.length<aU/\∃ m',m'<m/\W (i+1) m' (ys++[y]) σ2 (upd H5 acc (.lst (ys++[y]))) else ∃ m',m'<m/\W (i+1) m' ys σ2 H4)):=by
 refine mF (K:=K) us pf rT (λZ=>∃ o,Z=o::rest) (by rw [af]) (cL.of hz) ha ⟨_,rfl⟩ (by rw [af];lia) ?_ λH2 S2 g2=>fin H2 S2 g2;rintro i u x σ' H' G G' hu hx S' ⟨o,rfl⟩ hG hG';rw [aA,hu] at hx;cases hx;have r4:=S' _ _ (fl u (aN hu));refine L9 ?_;refine turn u H' _ (aN hu) r4 ?_
 cases hw:pf u with
 | false=>exact mX (hG' hw _ ⟨_,rfl⟩)
 | true =>
  refine mD (Ue rfl ?_);exact hG hw _ ⟨_,rfl⟩
theorem K3 {q:ag}{α:Type} {f:α->V}{ws:List α}(g:H q=some (.lst (ws.map f))) (k:∀ H',bQ H H'->Q (.bl (!ws.isEmpty)) H'):(u7 aY) [] H λy H2=>Qc K (.ref q) y H2 Q:=by
 lk;refine ⟨bq (m:=0) (ak 0),λe he=>?_⟩;have S:=bQ.cC (o:=.lst []) he;have g1:(upd H e (.lst [])) e=some (.lst []):=aE;have k:=k _ S;generalize upd H e (.lst [])=H1 at S g1 k
 cases ws with
 | nil=>exact .inl (Uh (.lst (cL.of (S _ _ g)) .nil) (.lst (cL.of g1) .nil) (An []) (An []) k)
 | cons u ws=>exact .inr ⟨q,e,_,_,rfl,rfl,S _ _ g,g1,by simp,k⟩
inductive gM (K:aa) (C:ag) (vs:List V) (H:Hp) (Q:VK) (E:XK):Prop
 | mk (c:Int) (k:Nat):vs=[.int c,.int k]->k<=1000->(∀ z:Int,Q (.int z) H)->gM K C vs H Q E
theorem zU:Rn (gM K C) (rE K C) UN:=by
 rintro vs H Q E ⟨c,k,rfl,hk,q⟩
 have hp40:(0:Int)<10^(40:Int).toNat:=by decide
 unfold rE;lk;refine qC (λ_=>?_) λ_=>?_
 .lk;exact q _
 lk;refine qC (λ_=>?_) λ_=>?_
 .lk;exact q _
 lk;exact q _
inductive bV (K:aa) (C:ag) (vs:List V) (H:Hp) (Q:VK) (E:XK):Prop
 | mk (t:ag) (xs:List Int):vs=[.ref t]->H t=some (.tup (xs.map V.int))->xs.length=5->(∀ H',bQ H H'->Q (.bl true) H')->bV K C vs H Q E
theorem Ds:Rn (bV K C) (wC K C (cq K C)) ["_law_told"]:=by
 rintro vs H Q E ⟨t,xs,rfl,ht,hx,k⟩;unfold wC;lk;refine HV (.tup ht) VY ?_;refine ⟨true,rfl,mD ?_⟩;lk;refine VQ (.of ht) ?_;rw [af,hx];lk;refine qC (λ_=>?_) λc=>absurd rfl c;lk;refine .inr (.inl ⟨⟨_,ie.of ht⟩,λacc hacc=>mE (n:=5) (λi ys H4=>ys=lM i (V.bl true)/\H4 acc=some (.lst ys)/\bQ H H4) (λZ=>∃ o,Z=[o]) ⟨rfl,aE,bQ.cC hacc⟩ ⟨_,rfl⟩ ?_ ?_ ?_ ?_⟩)
 .rintro i ys H' ⟨_,h,_⟩;exact h
 .rintro ys H1 ⟨rfl,g1,S1⟩;refine ⟨⟨_,ie.of (S1 _ _ ht),by rw [af,hx];exact ak _⟩,?_⟩;lk;exact ⟨acc,[true,true,true,true,true],rfl,cL.of g1,k _ S1⟩
 .rintro i ys H4 hi ⟨_,_,S4⟩;exact ⟨_,_,ie.of (S4 _ _ ht),ay (by rw [af];lia)⟩
 .rintro i ys σ' H4 v H5 hi ⟨rfl,g4,S4⟩ ⟨o,rfl⟩ ⟨e,hv⟩;subst e;have hv:=hv _ (ie.of (S4 _ _ ht));rw [aA] at hv;obtain ⟨x,hx,rfl⟩:=br.mp hv;lk;refine mD ?_;lk;refine ⟨x,rfl,?_⟩;refine ⟨g4,eL (m:=10) (by rw [mj];lia),kI.mk' hi ⟨_,rfl⟩ ⟨?_,aE,λb o e=>by rw [aG (aQ e hacc)];exact S4 _ _ e⟩⟩;rw [List.replicate_succ']
inductive cw (K:aa) (C:ag) (vs:List V) (H:Hp) (Q:VK) (E:XK):Prop
 | mk (c:Int) (kk:Nat) (l:ag) (us:List (Ti×ag)) (ts:List Ti):vs=[.int c,.int kk,.ref l]->kk<=100->Tb H l us ts->0<us.length->(∀ u∈us,∀ H',bQ H H'->Q (rT u) H')->cw K C vs H Q E
theorem zV:Rn (cw K C) (rF K C) UD:=by
 rintro vs H Q E ⟨c,kk,l,us,ts,rfl,hkk,tb,hu0,k⟩;unfold rF;lk;refine .inl ⟨⟨_,cL.of tb.g⟩,λacc hacc=>MH (o:=none) (rest:=[]) (λu=>u.1.wd) tb.g tb.fl tb.len hacc (λu H' G hu r4 g=>?_) λH1 S1 g1=>?_⟩
 .lk;refine dX (ie.of r4) (v:=.bl u.1.wd) rfl ?_;exact ⟨_,rfl,g⟩
 have sub:∀ u∈us.filter λu=>u.1.wd,u∈us:=λu hu=>(dR.mp hu).1;have wl:(us.filter λu=>u.1.wd).length<100:=bz (dF _ _) tb.len;generalize us.filter (λu=>u.1.wd)=ws at g1 sub wl;have fl1:∀ u∈us,qq H1 u:=λu hu=>S1 _ _ (tb.fl u hu);k_ne
 with_reducible refine Gm (λZ H2=>bQ H H2/\Z=[some (.int c),some (.int kk),some (.ref l),some (.ref acc),none]) ?_ λgo=>?_
 .rintro Z H2 ⟨S2,rfl⟩;obtain ⟨u,hu,hat⟩:=Ws us hu0 (c/3+5*kk);lk;refine jr (cL.of (S2 _ _ tb.g)) ?_;rw [af];lk;refine j4 (cL.of (S2 _ _ tb.g)) hat ?_;exact k u hu _ S2
 .lk;refine qC (λ_=>?_) λ_=>?_
  .k_ne;k_ne;k_ne
   refine K3 g1 λH3 S3=>⟨_,rfl,?_⟩
   have S03:=S1.trans S3
   cases hws:ws.isEmpty with
   | true=>exact mX (go _ _ ⟨S03,rfl⟩)
   | false =>
    have h0:0<ws.length:=by
     cases ws with
     | nil=>cases hws
     | cons u us=>simp
    refine mD ?_;have g3:=S3 _ _ g1;have fl3:∀ u∈ws,qq H3 u:=λu hu=>S3 _ _ (fl1 u (sub u hu));lk;refine .inl ⟨⟨_,cL.of g3⟩,λacc2 hacc2=>mF (K:=K) ws (λ_=>true) (λu=>.int u.1.cA) (λZ=>∃ o,Z=[o]) (by rw [af]) (cL.of g3) hacc2 ⟨_,rfl⟩ (by rw [af];lia) ?_ λH4 S4 g4=>?_⟩
    .rintro i u x σ' H' G G' hu hx S' ⟨o,rfl⟩ hG hG';rw [aA,hu] at hx;cases hx;have r4:=S' _ _ (fl3 u (aN hu));lk;refine mD ?_;lk;refine dX (ie.of r4) (v:=.int u.1.cA) rfl ?_;exact hG rfl _ ⟨_,rfl⟩
    rw [iQ.mpr λ_ _=>rfl] at g4;lk;refine ⟨acc2,(ws.map λu=>(u.1.cA:Int)),rfl,by rw [cf];exact cL.of g4,by rw [af];exact h0,λM hM _=>?_⟩;obtain ⟨u1,hu1,eM⟩:=bo.mp hM;have g5:=S4 _ _ g3;lk;refine .inl ⟨⟨_,cL.of g5⟩,λacc3 hacc3=>MH (o:=none) (rest:=[some (.int M)]) (λu=>decide ((u.1.cA:Int)=M)) g5 (λu hu=>S4 _ _ (fl3 u hu)) wl hacc3 (λu H' G hu r4 g=>?_) λH5 S5 g5=>?_⟩
    .lk;refine dX (ie.of r4) (v:=.int u.1.cA) rfl ?_;lk;rw [show decide (V.int u.1.cA=V.int M)=decide ((u.1.cA:Int)=M) from decide_eq_decide.mpr ⟨V.int.inj,congrArg V.int⟩];exact g
    have h5:0<(ws.filter λu=>decide ((u.1.cA:Int)=M)).length:=tJ (dR.mpr ⟨hu1,decide_eq_true eM⟩);have sub5:∀ u∈ws.filter λu=>decide ((u.1.cA:Int)=M),u∈us:=λu hu=>sub u (dR.mp hu).1;generalize ws.filter (λu=>decide ((u.1.cA:Int)=M))=xs at g5 h5 sub5;obtain ⟨u,hu,hat⟩:=Ws xs h5 (c/3+kk);lk;refine jr (cL.of g5) ?_;rw [af];lk;refine j4 (cL.of g5) hat ?_;exact k u (sub5 u hu) _ (S03.trans (S4.trans S5))
  .exact mX (go _ _ ⟨S1,rfl⟩)
abbrev Yy (Pt:ag) (H:Hp):Prop:=pC Pt ⟨280,37,280,94⟩ ((("_law_shape":bD)++".<locals>.")++"<lambda>") H
def Dv (w n:Int):List Int:=if w=1 then [1,n-1] else if w=3 then [1,2] else if w=4 then [1,2,3] else [1,2,4,8]
def Sh (w n:Int) (k:Int×Int):Prop:=if w=2 then k.2<8 else k.2-k.1∈Dv w n
theorem Wt {w n:Int}{ks:List (Int×Int)}(nd:ks.Nodup) (h:∀ k∈ks,∃ i j:Nat,k.1=(i:Int)/\k.2=(j:Int)/\i<j/\j<24) (hs:∀ k∈ks,Sh w n k):ks.length<=96:=by
 by_cases c:w=2
 .refine bA (Bg nd (m:=(hV 8).flatMap λa:Nat=>(hV 8).map λb:Nat=>((a:Int),(b:Int))) λk hk=>?_) (by decide);obtain ⟨i,j,e1,e2,h1,h2⟩:=h k hk;have:=hs k hk;unfold Sh at this;rw [if_pos c] at this;exact Ve.mpr ⟨i,lK.mpr (by lia),bo.mpr ⟨j,lK.mpr (by lia),Hj e1.symm e2.symm⟩⟩
 .refine bA (Bg nd (m:=(hV 24).flatMap λa:Nat=>(Dv w n).map λd=>((a:Int),(a:Int)+d)) λk hk=>?_) ?_
  .obtain ⟨i,j,e1,e2,h1,h2⟩:=h k hk;have:=hs k hk;unfold Sh at this;rw [if_neg c] at this;exact Ve.mpr ⟨i,lK.mpr (by lia),bo.mpr ⟨_,this,Hj e1.symm (show (i:Int)+(k.2-k.1)=k.2 by lia)⟩⟩
  .have:(Dv w n).length<=4:=by unfold Dv;(repeat' split)<;>simp
   simp only [List.length_flatMap,af,List.map_const',List.sum_replicate_nat,qe];lia
structure Zs (n:Nat) (w:Int) (H:Hp) (l:ag) (zs:List Zt) (a b:Int):Prop where
 g:H l=some (.lst (zs.map gH))
 pz:∀ z∈zs,Wr n H z
 sh:∀ z∈zs,Sh w n (zP z)
 lt:∀ z∈zs,z.1<a\/z.1=a/\z.2.1<b
 nd:(zs.map zP).Nodup
section
variable {w:Int}{a b:Int}
theorem Zs.len (Zzq:Zs n w H l zs a b) (hn:n<=24):zs.length<=96:=by
 have:=Wt Zzq.nd (w:=w) (n:=n) (λk hk=>by
  obtain ⟨z,hz,rfl⟩:=bo.mp hk;obtain ⟨i,j,e1,e2,h1,h2⟩:=(Zzq.pz z hz).2
  exact ⟨i,j,e1,e2,h1,by lia⟩) λk hk=>by
  obtain ⟨z,hz,rfl⟩:=bo.mp hk;exact Zzq.sh z hz
 rwa [af] at this
theorem Zs.same (Zzq:Zs n w H l zs a b) (S:bQ H H'):Zs n w H' l zs a b:=⟨S _ _ Zzq.g,λz hz=>⟨S _ _ (Zzq.pz z hz).1,(Zzq.pz z hz).2⟩,Zzq.sh,Zzq.lt,Zzq.nd⟩
theorem Zs.mono (Zzq:Zs n w H l zs a b) {a' b':Int}(h:∀ x y:Int,(x<a\/x=a/\y<b)->(x<a'\/x=a'/\y<b')\/¬ y<n):Zs n w H l zs a' b':=⟨Zzq.g,Zzq.pz,Zzq.sh,λz hz=>(h _ _ (Zzq.lt z hz)).resolve_right λq=>by
 obtain ⟨i,j,e1,e2,h1,h2⟩:=(Zzq.pz z hz).2
 lia,Zzq.nd⟩
theorem wR {i hd:Int}{X:TT}{D:tM}{a b:Nat}{o6:Option V}{H0:Hp}(hn:n<=24) (hab:a<b) (hb:b<n) (Zzq:Zs n w H l zs a (if w<i then b+1 else b)) (B:bh l H0 H)
  (hX:w=i->∀ H G,(∀ (c:Bool) H',bQ H H'->(c=true->Sh w n ((a:Int),(b:Int)))->G c H')->X [some (.int hd),some (.int n),some (.ref l),some (.int w),some (.int a),some (.int b),o6] H G)
  (fin:∀ zs' H',Zs n w H' l zs' a (if w<i+1 then b+1 else b)->bh l H0 H'->D.nx [some (.int hd),some (.int n),some (.ref l),some (.int w),some (.int a),some (.int b),o6] H') :
  ja (xR (cX (bY (jG K) (ao 3) (tC (.int i)))) X) (fq (CP K "list" jz (ao 2) (av (lh (av (ao 4) (av (ao 5) aY))) aY))) fT D [some (.int hd),some (.int n),some (.ref l),some (.int w),some (.int a),some (.int b),o6] H:=by
 have hl:=Zzq.len hn;lk;refine qC (λc=>?_) λc=>mX ?_
 .have c:w=i:=V.int.inj c;rw [if_neg (by lia)] at Zzq;rw [if_pos (by lia)] at fin;refine hX c _ _ λc' H1 S1 hs=>?_;have B1:bh l H0 H1:=λb o e ne=>S1 _ _ (B _ _ e ne);have Z1:=Zzq.same S1
  cases c' with
  | false=>exact mX (fin zs H1 (Z1.mono λx y h=>.inl (by lia)) B1)
  | true =>
   refine mD ?_;lk;refine ⟨.inl ⟨rfl,_,cL.of Z1.g⟩,?_⟩;lk;refine ⟨bq (m:=2) (ak 2),λp hp=>?_⟩;generalize eu_:upd H1 p (.tup [.int a,.int b])=H2;obtain ⟨S2,g2⟩:=km eu_ hp;have Z2:=Z1.same S2;lk;refine oJ Z2.g (eL (m:=100) (by rw [af];lia)) ?_;have tn:∀ {b:ag}{xs:List V}{ys:List V},H2 b=some (.tup xs)->(upd H2 l (.lst ys)) b=some (.tup xs):=λe=>(aG (gK e Z2.g)).trans e
   refine fin (zs++[((a:Int),(b:Int),p)]) _ ⟨by rw [aE,aZ];rfl,λz hz=>?_,λz hz=>?_,λz hz=>?_,?_⟩ λb' o' e hne=>by rw [aG hne];exact S2 _ _ (B1 _ _ e hne)
   .rcases aS.mp hz with hz|hz
    .exact ⟨tn (Z2.pz z hz).1,(Z2.pz z hz).2⟩
    .rw [aC.mp hz];exact ⟨tn g2,a,b,rfl,rfl,hab,hb⟩
   .rcases aS.mp hz with hz|hz
    .exact Z2.sh z hz
    .rw [aC.mp hz];exact hs rfl
   .rcases aS.mp hz with hz|hz
    .have:=Z2.lt z hz;lia
    .rw [aC.mp hz];exact .inr ⟨rfl,show (b:Int)<b+1 by lia⟩
   .rw [aZ,eE];refine ⟨Z2.nd,by simp,λk hk k' hk' e=>?_⟩;obtain ⟨z,hz,rfl⟩:=bo.mp hk;rw [kP,aC] at hk';rw [hk'] at e;obtain ⟨e1,e2⟩:=cS e;have e1:z.1=(a:Int):=e1;have e2:z.2.1=(b:Int):=e2;have:=Z2.lt z hz;lia
 .have c:¬ w=i:=λe=>c (by rw [e]);refine fin zs H ?_ B
  by_cases q:w<i
  .rw [if_pos q] at Zzq;rw [if_pos (by lia)];exact Zzq
  .rw [if_neg q] at Zzq;rw [if_neg (by lia)];exact Zzq
end
theorem bQ.rf:bQ H H:=λ_ _ e=>e
theorem K4 {a:Nat}{w hd:Int}{H0:Hp}{D:tM}{o5 o6:Option V}(hn:n<=24) (hw:w<6) (ha:a<n) (Zzq:Zs n w H l zs a 0) (B:bh l H0 H)
  (fin:∀ o5 zs' H',Zs n w H' l zs' (a+1) 0->bh l H0 H'->D.nx [some (.int hd),some (.int n),some (.ref l),some (.int w),some (.int a),o5,o6] H') :
  mh K C Pt D [some (.int hd),some (.int n),some (.ref l),some (.int w),some (.int a),o5,o6] H:=by
 unfold mh;lk;unfold Hy;lk;refine ⟨_,_,rfl,⟨by lia,by lia,by lia,by lia⟩,?_⟩;refine oG (λi Z H4=>∃ o5 zs',Z=[some (.int hd),some (.int n),some (.ref l),some (.int w),some (.int a),o5,o6]/\Zs n w H4 l zs' a (a+1+i:Nat)/\bh l H0 H4) ⟨_,zs,rfl,Zzq.mono λx y h=>.inl (by lia),B⟩ ?_ ?_
 .rintro i Z H4 hi ⟨o5,zs',rfl,Z4,B4⟩
  obtain ⟨b,eb⟩:∃ b:Nat,b=a+1+i:=⟨_,rfl⟩
  have hab:a<b:=by lia
  have hb:b<n:=by lia
  k_ne;rw [show (a:Int)+1+(i:Int)=(b:Int) by lia];rw [← eb] at Z4
  with_reducible refine HU ?_
  refine wR (i:=1) hn hab hb (by split<;>exact Z4.mono λx y h=>.inl (by lia)) B4 (λe H G go=>?_) λzs1 H1 Z1 B1=>?_
  .lk;refine qC (λc=>?_) λ_=>?_
   .have c:=V.int.inj c
    exact go true H bQ.rf λ_=>by unfold Sh;rw [if_neg (by lia),e];exact au.mpr (.inl (by show (b:Int)-a=1;lia))
   .lk;refine go _ H bQ.rf λc=>?_;have c:=V.int.inj (of_decide_eq_true c);unfold Sh;rw [if_neg (by lia),e];exact ai _ (aC.mpr (by show (b:Int)-a=n-1;lia))
  dsimp only
  with_reducible refine HU ?_
  refine wR (i:=2) hn hab hb Z1 B1 (λe H G go=>?_) λzs2 H2 Z2 B2=>?_
  .obtain ⟨m,em',hm⟩:=em (n:=5) (by decide) (hd/6);lk;refine go _ H bQ.rf λc=>?_;have c:=of_decide_eq_true c;unfold Sh;rw [if_pos e]
   show (b:Int)<8
   lia
  dsimp only
  with_reducible refine HU ?_
  refine wR (i:=3) hn hab hb Z2 B2 (λe H G go=>?_) λzs3 H3 Z3 B3=>?_
  .lk;refine qC (λc=>?_) λ_=>?_
   .have c:=V.int.inj c
    exact go true H bQ.rf λ_=>by unfold Sh;rw [if_neg (by lia),e];exact ai _ (aC.mpr (by show (b:Int)-a=2;lia))
   .lk;refine qC (λc=>?_) λ_=>?_
    .have c:=V.int.inj c;lk
     exact go _ H bQ.rf λ_=>by unfold Sh;rw [if_neg (by lia),e];exact au.mpr (.inl (by show (b:Int)-a=1;lia))
    .exact go false H bQ.rf λq=>nomatch q
  dsimp only
  with_reducible refine HU ?_
  refine wR (i:=4) hn hab hb Z3 B3 (λe H G go=>?_) λzs4 H4 Z4 B4=>?_
  .lk;refine qC (λc=>?_) λ_=>?_
   .have hs:Sh w n ((a:Int),(b:Int)):=by
     unfold Sh;rw [if_neg (by lia),e]
     show (b:Int)-a∈[1,2,3]
     simp only [au,cH,or_false];lia
    lk;refine qC (λc=>go true H bQ.rf λ_=>hs) λ_=>?_;lk;refine qC (λc=>go true H bQ.rf λ_=>hs) λ_=>?_;lk;exact go _ H bQ.rf λ_=>hs
   .exact go false H bQ.rf λq=>nomatch q
  dsimp only;refine wR (i:=5) hn hab hb Z4 B4 (λe H G go=>?_) λzs5 H5 Z5 B5=>?_
  .lk;refine ⟨bq (m:=4) (by decide),λt ht=>?_⟩;have S1:=bQ.cC (o:=.tup [.int 1,.int 2,.int 4,.int 8]) ht;have g1:(upd H t (.tup [.int 1,.int 2,.int 4,.int 8])) t=some (.tup (([1,2,4,8]:List Int).map V.int)):=aE;generalize upd H t (.tup [.int 1,.int 2,.int 4,.int 8])=H1 at S1 g1;refine .inl ⟨.int ((b:Int)-a),([1,2,4,8]:List Int).map Fj,.int _,.inr (.tup (.of g1) (d9.ints _)),⟨rfl,by simp [lb]⟩,gp _ (mY _),?_⟩;rw [if_neg bx,any_ints];refine ⟨_,rfl,go _ H1 S1 λc=>?_⟩;unfold Sh;rw [if_neg (by lia),e];exact of_decide_eq_true c
  exact ⟨_,zs5,rfl,by rw [if_pos (by lia)] at Z5;rw [show ((a+1+(i+1):Nat):Int)=(b:Int)+1 by lia];exact Z5,B5⟩
 .rintro Z H4 ⟨o5,zs',rfl,Z4,B4⟩;exact fin o5 zs' H4 (Z4.mono λx y h=>by lia) B4
inductive ik (K:aa) (C:ag) (Pt:ag) (vs:List V) (H:Hp) (Q:VK) (E:XK):Prop
 | mk (hd:Int) (n:Nat):vs=[.int hd,.int n]->1<=n->n<=24->Yy Pt H->(∀ (l:ag) (zs:List Zt) (H':Hp),k9 Pt H H'->H l=none->H' l=some (.lst (zs.map gH))->(∀ z∈zs,Wr n H' z)->(zs.map zP).Nodup->zs.length<=36->Q (.ref l) H')->ik K C Pt vs H Q E
theorem BP:Rn (ik K C Pt) (lI K C Pt) Wn:=by
 rintro vs H Q E ⟨hd,n,rfl,hn1,hn2,hT,k⟩;have hw:hd%6<6:=pG _ (by decide);unfold lI;lk;refine ⟨bq (m:=0) (ak 0),λl hl0=>?_⟩;have S1:=bQ.cC (o:=.lst []) hl0;have g1:(upd H l (.lst [])) l=some (.lst (([]:List Zt).map gH)):=aE;generalize upd H l (.lst [])=H1 at S1 g1
 have hn:n<=24:=by lia
 lk;unfold qk;lk;refine ⟨by lia,by lia,oG (λi Z H4=>∃ o4 o5 zs,Z=[some (.int hd),some (.int n),some (.ref l),some (.int (hd%6)),o4,o5,none]/\Zs n (hd%6) H4 l zs i 0/\bh l H1 H4) ⟨_,_,[],rfl,⟨g1,(λz hz=>nomatch hz),(λz hz=>nomatch hz),(λz hz=>nomatch hz),lN⟩,bh.refl _ _⟩ ?_ ?_⟩
 .rintro i Z H4 hi ⟨o4,o5,zs,rfl,Z4,B4⟩;k_ne;rw [CO]
  exact K4 hn hw hi Z4 B4 λo5 zs' H5 Z5 B5=>⟨_,_,zs',rfl,Z5,B5⟩
 .rintro Z H4 ⟨o4,o5,zs,rfl,Zzq,B⟩;have hl:=Zzq.len hn;have S4:bQ H H4:=λb o e=>B _ _ (S1 _ _ e) (aQ e hl0);have T4:Yy Pt H4:=hT.same S4
  have fin:∀ (us:List Zt) (H5:Hp) (p:ag),us.Perm zs->k9 Pt H4 H5->Yy Pt H5->H5 p=none->Q (.ref p) (upd H5 p (.lst ((us.map gH).take 36))):=λus H5 p pm ST T5 hp=>by
   have S6:=bQ.cC (o:=.lst ((us.map gH).take 36)) hp
   have g6:(upd H5 p (.lst ((us.map gH).take 36))) p=some (.lst ((us.take 36).map gH)):=by rw [aE,mL]
   generalize upd H5 p (.lst ((us.map gH).take 36))=H6 at S6 g6;have hm:∀ z∈us.take 36,z∈zs:=λz hz=>pm.mem_iff.mp (OB hz);refine k p (us.take 36) H6 (λb o hb e=>S6 _ _ (ST _ _ hb (S4 _ _ e))) (S4.free (ST.free T5 hp)) g6 (λz hz=>⟨S6 _ _ (ST.tup T4 (Zzq.pz z (hm z hz)).1),(Zzq.pz z (hm z hz)).2⟩) ?_ (by rw [bS];lia);exact (((qc 36 us).map zP).nodup ((pm.map zP).nodup_iff.mpr Zzq.nd))
  lk;refine qC (λ_=>?_) λ_=>?_
  .lk;unfold KD;lk;refine ⟨l,zs.map (λz=>(([z.2.1-z.1,z.1],z.2.2):Zn)),rfl,by rw [cf];exact Zzq.g,λz hz=>?_,by rw [af];lia,T4,λl2 zs2 H2 hn2 ST T2 pm _=>?_⟩
   .obtain ⟨u,hu,rfl⟩:=bo.mp hz;exact ⟨_,_,rfl,(Zzq.pz u hu).1⟩
   obtain ⟨us,hu,rfl⟩:=Sy.perm_map pm.symm zs rfl;have S5:=bQ.cC (o:=.lst (us.map gH)) hn2;have g5:(upd H2 l2 (.lst (us.map gH))) l2=some (.lst (us.map gH)):=aE;rw [show (us.map (λz=>(([z.2.1-z.1,z.1],z.2.2):Zn))).map kb=us.map gH by rw [cf];rfl];generalize upd H2 l2 (.lst (us.map gH))=H5 at S5 g5;lk;refine ⟨l2,_,rfl,cL.of g5,λp hp=>?_⟩;rw [x4 (show (36:Int)=((36:Nat):Int) from rfl)];exact fin us H5 p hu (λb o hb e=>S5 _ _ (ST _ _ hb e)) (T2.same S5) hp
  .lk;refine jr (cL.of Zzq.g) ?_;rw [af];lk;obtain ⟨j,ej,hj⟩:=em (n:=zs.length+1) (by lia) (hd/30);rw [show ((zs.length:Int)+1)=((zs.length+1:Nat):Int) by lia,ej];refine ⟨l,_,rfl,cL.of Zzq.g,λp1 hp1=>?_⟩;rw [HY rfl];generalize eu_:upd H4 p1 (.lst ((zs.map gH).drop j))=H5;obtain ⟨S5,g5⟩:=km eu_ hp1;lk;refine ⟨l,_,rfl,cL.of (S5 _ _ Zzq.g),λp2 hp2=>?_⟩;rw [x4 rfl];generalize eu_:upd H5 p2 (.lst ((zs.map gH).take j))=H6;obtain ⟨S6,g6⟩:=km eu_ hp2;refine Ug (S6 _ _ g5) g6 (bq (m:=200) (by rw [cW,bS,af];lia)) λp3 hp3=>?_;have S7:=bQ.cC (o:=.lst ((zs.map gH).drop j++(zs.map gH).take j)) hp3
   have g7:(upd H6 p3 (.lst ((zs.map gH).drop j++(zs.map gH).take j))) p3=some (.lst ((zs.drop j++zs.take j).map gH)):=by rw [aE,aZ,Kc,mL]
   generalize upd H6 p3 (.lst ((zs.map gH).drop j++(zs.map gH).take j))=H7 at S7 g7;have S47:=S5.trans (S6.trans S7);lk;refine ⟨p3,_,rfl,cL.of g7,λp hp=>?_⟩;rw [x4 (show (36:Int)=((36:Nat):Int) from rfl)]
   exact fin _ H7 p (by
    have:=fE (l₁:=zs.drop j) (l₂:=zs.take j)
    rwa [fD] at this) (λb o _ e=>S47 _ _ e) (T4.same S47) hp
structure Zl (n:Nat) (H:Hp) (l:ag) (zs:List Zt):Prop where
 g:H l=some (.lst (zs.map gH))
 pz:∀ z∈zs,Wr n H z
 nd:(zs.map zP).Nodup
theorem Zl.same (Zzq:Zl n H l zs) (S:bQ H H'):Zl n H' l zs:=⟨S _ _ Zzq.g,λz hz=>⟨S _ _ (Zzq.pz z hz).1,(Zzq.pz z hz).2⟩,Zzq.nd⟩
theorem Zl.put {q:ag}{a b:Nat}(Zzq:Zl n H l zs) (hab:a<b) (hb:b<n) (hq:H q=some (.tup [.int a,.int b])) (hn:((a:Int),(b:Int))∉zs.map zP):Zl n (upd H l (.lst (zs.map gH++[.ref q]))) l (zs++[((a:Int),(b:Int),q)]):=by
 have tn:∀ {b:ag}{xs:List V}{ys:List V},H b=some (.tup xs)->(upd H l (.lst ys)) b=some (.tup xs):=λe=>(aG (gK e Zzq.g)).trans e;refine ⟨by rw [aE,aZ];rfl,λz hz=>?_,?_⟩
 .rcases aS.mp hz with hz|hz
  .exact ⟨tn (Zzq.pz z hz).1,(Zzq.pz z hz).2⟩
  .rw [aC.mp hz];exact ⟨tn hq,a,b,rfl,rfl,hab,hb⟩
 .rw [aZ,eE];refine ⟨Zzq.nd,by simp,λk hk k' hk' e=>hn ?_⟩;rw [kP,aC] at hk';rw [← show k=((a:Int),(b:Int)) from e.trans hk'];exact hk
theorem QF (L:List (Int×Int)) (t:Int×Int):((L.map CQ).any λe=>d7 e (CQ t))=decide (t∈L):=by
 rw [M0,iz,qE,decide_eq_true_iff]
 constructor
 .rintro ⟨u,hu,e⟩
  have e:u=t:=by simpa [BG] using e
  exact e▸hu
 .exact λh=>⟨t,h,by simp [BG]⟩
theorem QG:∀ {ys:List V}{zs:List Zt},ys.length=zs.length->(∀ (i:Nat) (y:V),ys[i]?=some y->∃ z c w,zs[i]?=some z/\y=.ref c/\H c=some (.tup [.int z.1,.int z.2.1,.int w]))->(∀ z∈zs,∃ i j:Nat,z.1=(i:Int)/\z.2.1=(j:Int)/\i<j/\j<n) ->
  ∃ ts:List Tr,ys=ts.map Dq/\(∀ t∈ts,K2 n H t)/\ts.map (λt=>(za t).1)=zs.map λz=>([bP z.1,bP z.2.1]:List gG)
 | [],[],_,_,_=>⟨[],rfl,(λt ht=>nomatch ht),rfl⟩
 | y::ys,z::zs,hl,h,hz=>by
  obtain ⟨z',c,w,e1,rfl,hc⟩:=h 0 y rfl;cases e1;obtain ⟨i,j,e1,e2,h1,h2⟩:=hz z aw;obtain ⟨ts,e,ht,ek⟩:=QG (ys:=ys) (zs:=zs) (by simpa using hl) (λi y hy=>by simpa using h (i+1) y (by simpa using hy)) λz hz'=>hz z (ai _ hz');refine ⟨(i,j,w,c)::ts,by rw [e];rfl,λt hm=>?_,?_⟩
  .rcases au.mp hm with rfl|hm
   .exact ⟨by rw [← e1,← e2];exact hc,h1,h2⟩
   .exact ht t hm
  .rw [aW,aW,ek,e1,e2];rfl
theorem Zl.trs (Zzq:Zl n H l zs) {ys:List V}{acc:ag}{Q:ag->Hp->Prop}(S:bQ H H') (hl:ys.length=zs.length) (g:H' acc=some (.lst ys)) (h:∀ (i:Nat) (y:V),ys[i]?=some y->∃ z c w,zs[i]?=some z/\y=.ref c/\H' c=some (.tup [.int z.1,.int z.2.1,.int w]))
  (k:∀ ts:List Tr,H' acc=some (.lst (ts.map Dq))->(∀ t∈ts,K2 n H' t)->(ts.map λt=>(za t).1).Nodup->ts.length=zs.length->Q acc H'):Q acc H':=by
 obtain ⟨ts,rfl,ht,ek⟩:=QG (n:=n) hl h λz hz=>(Zzq.pz z hz).2;refine k ts g ht ?_ (by rw [← hl,af]);rw [ek];refine gA.mpr ((gA.mp Zzq.nd).imp λ{z w} h e=>h ?_)
 injection e with e1 e
 injection e with e2 _
 injection e1 with e1
 injection e2 with e2
 exact Hj e1 e2
inductive cT (K:aa) (C:ag) (vs:List V) (H:Hp) (Q:VK) (E:XK):Prop
 | mk (s:ag) (ns:List Int) (n:Nat):vs=[.ref s,.int n]->cL K H s (ns.map V.int)->2<=n->n<=24->(∀ (l:ag) (ts:List Tr) (H':Hp),bQ H H'->H' l=some (.lst (ts.map Dq))->(∀ t∈ts,K2 n H' t)->(ts.map λt=>(za t).1).Nodup->ts.length<64->Q (.ref l) H')->cT K C vs H Q E
theorem Dt:Rn (cT K C) (wD K C (fI K C) (a8 K C)) Yu:=by
 rintro vs H Q E ⟨s,ns,n,rfl,hS,hn1,hn2,k⟩
 have hnn:(0:Int)<(n:Int)*n/\(n:Int)*n<=576:=by
  have h1:(n:Int)<=24:=by lia
  constructor
  .exact Int.mul_pos (by lia) (by lia)
  .have:=Int.mul_le_mul h1 h1 (by lia) (by lia);lia
 unfold wD;lk;refine ⟨bq (m:=0) (ak 0),λl hl0=>?_⟩;have S1:=bQ.cC (o:=.lst []) hl0;have g1:(upd H l (.lst [])) l=some (.lst (([]:List Zt).map gH)):=aE;generalize upd H l (.lst [])=H1 at S1 g1;lk;unfold rH;lk;refine ⟨s,ns,1,rfl,S1.seq hS,λz1=>?_⟩;lk;refine ⟨s,ns,2,rfl,S1.seq hS,λz2=>?_⟩;lk;obtain ⟨many,hmany,hm⟩:=em (n:=37) (by decide) z2;rw [show z2%37=(many:Int) from hmany];refine ⟨z1,(n:Int)*n,many,rfl,hnn.1,by lia,by lia,λdl H2 ds S2 hdl hD hdn hdB=>?_⟩
 have ndl:dl≠l:=λz=>by rw [z,g1] at hdl;cases hdl
 refine ⟨dl,rfl,.inl ⟨⟨_,cL.of hD⟩,lR (K:=K) (a:=dl) (xs:=ds.map V.int) (λi Z H4=>∃ (zs:List Zt) (o o':Option V),Z=[some (.ref s),some (.int n),some (.ref l),o,o',none]/\Zl n H4 l zs/\zs.length<=i/\bh l H2 H4) ⟨[],_,_,rfl,⟨S2 _ _ g1,(λz hz=>nomatch hz),lN⟩,ak _,bh.refl _ _⟩ ?_ ?_ ?_⟩⟩
 .rintro i Z H4 _ ⟨zs,o,o',_,_,_,B⟩;exact cL.of (B _ _ hD ndl)
 .rintro i v Z H4 hi ⟨zs,o,o',rfl,Z4,hzl,B⟩;rw [aA] at hi;obtain ⟨d,hdi,rfl⟩:=br.mp hi;obtain ⟨bd1,bd2⟩:=hdB d (aN hdi)
  have hi2:i<37:=by have:=(aD.mp hdi).1;lia
  obtain ⟨a,ea,ha⟩:=Tg (by lia:1<=n) bd1 bd2;obtain ⟨b,eb,hb⟩:=em (n:=n) (by lia) d;lk;rw [ea,eb];rw [show (if (b:Int)<a then (b:Int) else a)=((min a b:Nat):Int) by split<;>lia,show (if (b:Int)>a then (b:Int) else a)=((max a b:Nat):Int) by split<;>lia];refine ⟨bq (m:=2) (ak 2),λp hp=>?_⟩;generalize eu_:upd H4 p (.tup [.int (min a b:Nat),.int (max a b:Nat)])=H5;obtain ⟨S5,g5⟩:=km eu_ hp;have Z5:=Z4.same S5;have B5:bh l H2 H5:=λb' o' e hne=>S5 _ _ (B _ _ e hne);lk;refine dX (ie.of g5) (v:=.int (min a b:Nat)) rfl ?_;lk;refine dX (ie.of g5) (v:=.int (max a b:Nat)) rfl ?_;lk;refine FL (λc=>?_) λ_=>mX ?_
  .have hab:min a b<max a b:=by
    by_cases q:a=b
    .subst q;exact absurd (by rw [Nat.min_self,Nat.max_self]) c
    .lia
   lk;refine AZ (F9 g5) (F0 Z5.g λz hz=>(Z5.pz z hz).1) (Ao _) (gp _ (ph _)) ?_;rw [QF];lk;refine FL (λc=>?_) λ_=>?_
   .lk;refine ⟨.inl ⟨rfl,_,cL.of Z5.g⟩,?_⟩;lk;refine oJ Z5.g (eL (m:=100) (by rw [af];lia)) ?_;exact ⟨_,_,_,rfl,Z5.put hab (by lia) g5 c,by rw [bg];simp;lia,λb' o' e hne=>by rw [aG hne];exact B5 _ _ e hne⟩
   .exact ⟨zs,_,_,rfl,Z5,by lia,B5⟩
  .exact ⟨zs,_,_,rfl,Z5,by lia,B5⟩
 .rintro Z H4 ⟨zs,o,o',rfl,Z4,hzl,B⟩;rw [af] at hzl;have S4:bQ H H4:=λb' o' e=>B _ _ (S2 _ _ (S1 _ _ e)) (aQ e hl0);lk;refine ⟨s,ns,3,rfl,S4.seq hS,λz3=>?_⟩;lk;refine jr (cL.of Z4.g) ?_;rw [af];refine ⟨z3,_,zs.length,rfl,by decide,by decide,by lia,λwl H5 es S5 hwl hE hen _=>?_⟩;have Z5:=Z4.same S5;lk;refine jr (cL.of Z5.g) ?_;rw [af];refine ⟨_,rfl,by lia,by lia,λacc hacc=>HZ (n:=zs.length) (E:=λi y H'=>∃ z c w,zs[i]?=some z/\y=.ref c/\H' c=some (.tup [.int z.1,.int z.2.1,.int w])) (S:=λZ=>∃ o,Z=[o,some (.ref l),some (.ref wl)]) hacc ⟨_,rfl⟩ (by lia) (λi y H2 H3 zs g B ⟨z,c,w,e1,e,h⟩=>⟨z,c,w,e1,e,B _ _ h (gK h g)⟩) ?_ ?_⟩
  .rintro i σ' H' G hi S' ⟨o,rfl⟩ go;have hz:zs[i]?=some zs[i]:=ay hi;have he:es[i]?=some es[i]:=ay (by lia);generalize zs[i]=z at hz;generalize es[i]=e at he;have pz:=S' _ _ (Z5.pz z (aN hz)).1;lk;rw [CO];refine j4 (cL.of (S' _ _ Z5.g)) (eI (j:=i) rfl (by rw [aA,hz];rfl)) ?_;lk;refine A2 (cL.of (S' _ _ hE)) (j:=i) rfl he ?_;lk;refine ⟨bq (m:=1) (ak 1),λq hq=>?_⟩;have S6:=bQ.cC (o:=.tup [.int (e-10^(20:Int).toNat)]) hq;refine ⟨z.2.2,q,[.int z.1,.int z.2.1],_,rfl,rfl,ie.of (S6 _ _ pz),ie.of aE,by simp,bq (m:=3) (ak 3),(λe=>nomatch e),λ_ c hc=>?_⟩;exact go _ _ _ ⟨_,rfl⟩ (S6.trans (bQ.cC hc)) ⟨z,c,_,hz,rfl,aE⟩
  .intro ys H6 hyl g6 S6 hys;exact Z5.trs (Q:=λa H=>Q (.ref a) H) S6 hyl g6 hys λts g ht hnd hl=>k acc ts H6 (S4.trans (S5.trans S6)) g ht hnd (by lia)
theorem Wu {s:ag}{p:sT}{q:bD}{xs:List V}(h:pC Pt p q H) (S:k9 Pt H H') (hS:cL K H s xs):cL K H' s xs:=by
 obtain ⟨ps,hp⟩:=h.tbl
 rcases hS with (e|⟨o,e⟩)|e
 .exact .inl (.inl (S _ _ (λz=>by rw [z,hp] at e;cases e) e))
 .exact .inl (.inr ⟨o,S _ _ (λz=>by rw [z,hp] at e;cases e) e⟩)
 .exact .inr e
inductive cg (K:aa) (C:ag) (Pt:ag) (vs:List V) (H:Hp) (Q:VK) (E:XK):Prop
 | mk (s:ag) (hd:Int) (ns:List Int) (n:Nat):vs=[.ref s,.int hd,.int n]->cL K H s (ns.map V.int)->2<=n->n<=24->Yy Pt H->(∀ (l:ag) (ts:List Tr) (H':Hp),k9 Pt H H'->H' l=some (.lst (ts.map Dq))->(∀ t∈ts,K2 n H' t)->(ts.map λt=>(za t).1).Nodup->ts.length<64->Q (.ref l) H')->cg K C Pt vs H Q E
theorem yo:Rn (cg K C Pt) (ql K C (ik K C Pt) (gM K C) (a8 K C)) Yt:=by
 rintro vs H Q E ⟨s,hd,ns,n,rfl,hS,hn1,hn2,hT,k⟩;unfold ql;lk;refine ⟨hd,n,rfl,by lia,hn2,hT,λl zs0 H1 S1 hl0 g1 pz1 nd1 hl1=>?_⟩;have hS1:=Wu hT S1 hS;lk;unfold nX;lk;unfold Hy;lk;refine FP hS1 ?_;lk
 obtain ⟨m,em',hm⟩:∃ m:Nat,(if (ns.length:Int)<11 then (ns.length:Int) else 11)=(m:Int)/\(m<=11/\m<=ns.length):=by
  split
  .exact ⟨ns.length,rfl,by lia,ak _⟩
  .exact ⟨11,rfl,by lia,by lia⟩
 rw [em'];refine ⟨_,_,rfl,⟨by lia,by lia,by lia,by lia⟩,?_⟩;refine oG (λi Z H4=>∃ (zs:List Zt) (o4 o5 o6:Option V),Z=[some (.ref s),some (.int hd),some (.int n),some (.ref l),o4,o5,o6]/\Zl n H4 l zs/\zs.length<=36+i/\bh l H1 H4) ⟨zs0,_,_,_,rfl,⟨g1,pz1,nd1⟩,hl1,bh.refl _ _⟩ ?_ ?_
 .rintro i Z H4 hi ⟨zs,o4,o5,o6,rfl,Z4,hzl,B⟩
  have hi1:i+1<m:=by lia
  have gi:ns[i+1]?=some ns[i+1]:=ay (by lia);generalize ns[i+1]=z at gi
  have nsl:s≠l\/cL K H4 s (ns.map V.int):=by
   by_cases q:s=l
   .right
    subst q
    rcases hS with (e|⟨o,e⟩)|e
    .rw [hl0] at e;cases e
    .rw [hl0] at e;cases e
    .exact .inr e
   .exact .inl q
  have hS4:cL K H4 s (ns.map V.int):=by
   rcases nsl with q|q
   .rcases hS1 with (e|⟨o,e⟩)|e
    .exact .inl (.inl (B _ _ e q))
    .exact .inl (.inr ⟨o,B _ _ e q⟩)
    .exact .inr e
   .exact q
  obtain ⟨a,ea,ha⟩:=em (n:=n) (by lia) z;obtain ⟨r,er,hr⟩:=em (n:=n-1) (by lia) (z/(n:Int)+(1+(i:Int)));obtain ⟨b,eb,hbn⟩:=em (n:=n) (by lia) ((a:Int)+1+r)
  have hab:a≠b:=λe=>by
   rw [← e] at eb
   by_cases q:(a:Int)+1+r<n
   .rw [Vg (by lia) q] at eb;lia
   .rw [← Int.sub_emod_right,Vg (by lia) (by lia)] at eb;lia
  lk;refine A2 hS4 (j:=i+1) (by lia) gi ?_;lk;refine A2 hS4 (j:=i+1) (by lia) gi ?_;lk;rw [ea,show ((n:Int)-1)=((n-1:Nat):Int) by lia,er,eb];rw [show (if (b:Int)<a then (b:Int) else a)=((min a b:Nat):Int) by split<;>lia,show (if (b:Int)>a then (b:Int) else a)=((max a b:Nat):Int) by split<;>lia];refine ⟨bq (m:=2) (ak 2),λp hp=>?_⟩;generalize eu_:upd H4 p (.tup [.int (min a b:Nat),.int (max a b:Nat)])=H5;obtain ⟨S5,g5⟩:=km eu_ hp;have Z5:=Z4.same S5;have B5:bh l H1 H5:=λb' o' e hne=>S5 _ _ (B _ _ e hne);lk;refine AZ (F9 g5) (F0 Z5.g λz hz=>(Z5.pz z hz).1) (Ao _) (gp _ (ph _)) ?_;rw [QF];lk;refine FL (λc=>?_) λ_=>?_
  .lk;refine ⟨.inl ⟨rfl,_,cL.of Z5.g⟩,?_⟩;lk;rw [show (if (b:Int)<a then (b:Int) else a)=((min a b:Nat):Int) by split<;>lia,show (if (b:Int)>a then (b:Int) else a)=((max a b:Nat):Int) by split<;>lia];refine ⟨bq (m:=2) (ak 2),λp2 hp2=>?_⟩;generalize eu_:upd H5 p2 (.tup [.int (min a b:Nat),.int (max a b:Nat)])=H6;obtain ⟨S6,g6⟩:=km eu_ hp2;have Z6:=Z5.same S6;lk;refine oJ Z6.g (eL (m:=100) (by rw [af];lia)) ?_;exact ⟨_,_,_,_,rfl,Z6.put (by lia) (by lia) g6 c,by rw [bg];simp;lia,λb' o' e hne=>by rw [aG hne];exact S6 _ _ (B5 _ _ e hne)⟩
  .exact ⟨zs,_,_,_,rfl,Z5,by lia,B5⟩
 .rintro Z H4 ⟨zs,o4,o5,o6,rfl,Z4,hzl,B⟩;have S4:k9 Pt H H4:=λb' o' hb e=>B _ _ (S1 _ _ hb e) (aQ e hl0);have hS4:=Wu hT S4 hS;lk;refine jr (cL.of Z4.g) ?_;rw [af];refine ⟨_,rfl,by lia,by lia,λacc hacc=>HZ (n:=zs.length) (E:=λi y H'=>∃ z c w,zs[i]?=some z/\y=.ref c/\H' c=some (.tup [.int z.1,.int z.2.1,.int w])) (S:=λZ=>∃ o,Z=[o,some (.ref l),some (.ref s)]) hacc ⟨_,rfl⟩ (by lia) (λi y H2 H3 zs g B ⟨z,c,w,e1,e,h⟩=>⟨z,c,w,e1,e,B _ _ h (gK h g)⟩) ?_ ?_⟩
  .rintro i σ' H' G hi S' ⟨o,rfl⟩ go;have hz:zs[i]?=some zs[i]:=ay hi;generalize zs[i]=z at hz;have pz:=S' _ _ (Z4.pz z (aN hz)).1;lk;rw [CO];refine j4 (cL.of (S' _ _ Z4.g)) (eI (j:=i) rfl (by rw [aA,hz];rfl)) ?_;lk;refine ⟨s,ns,i+1,rfl,S'.seq hS4,λz'=>?_⟩;lk;refine ⟨_,i,rfl,by lia,λw=>?_⟩;lk;refine ⟨bq (m:=1) (ak 1),λq hq=>?_⟩;have S6:=bQ.cC (o:=.tup [.int w]) hq;refine ⟨z.2.2,q,[.int z.1,.int z.2.1],_,rfl,rfl,ie.of (S6 _ _ pz),ie.of aE,by simp,bq (m:=3) (ak 3),(λe=>nomatch e),λ_ c hc=>?_⟩;exact go _ _ _ ⟨_,rfl⟩ (S6.trans (bQ.cC hc)) ⟨z,c,_,hz,rfl,aE⟩
  .intro ys H6 hyl g6 S6 hys;exact Z4.trs (Q:=λa H=>Q (.ref a) H) S6 hyl g6 hys λts g ht hnd hl=>k acc ts H6 (λb o hb e=>S6 _ _ (S4 _ _ hb e)) g ht hnd (by lia)
theorem Ac.same {c1 c2 c3 c4:Int}(h:Ac H p c1 c2 c3 c4) (S:bQ H H'):Ac H' p c1 c2 c3 c4:=by
 obtain ⟨e1,e2,e3,e4,e5,q⟩:=h;exact ⟨e1,e2,e3,e4,e5,S _ _ q⟩
theorem KP.fm (h:KP C A H p dx a n T ts as R) (hP:nH Pt H) (F:Fm (p::Pt::fp a) H H') {b:ag}{o:HO}(e:H b=some o) (h2:∀ x y z,o≠.ins x y z) (h3:∀ ps,o≠.tbl ps) (h4:b∉fp a):H' b=some o:=F _ _ (λz=>by
 obtain ⟨_,hp⟩:=h.p0
 rcases au.mp z with rfl|z
 .rw [hp] at e;cases e;exact h2 _ _ _ rfl
 .exact (au.mp z).elim (hP.ne e h3) h4) e
theorem KP.tup (h:KP C A H p dx a n T ts as R) (hP:nH Pt H) (F:Fm (p::Pt::fp a) H H') {b:ag}{xs:List V}(e:H b=some (.tup xs)):H' b=some (.tup xs):=h.fm hP F e (λ_ _ _ z=>nomatch z) (λ_ z=>nomatch z) (h.lv.vA e)
theorem KP.seq (h:KP C A H p dx a n T ts as R) (hP:nH Pt H) (F:Fm (p::Pt::fp a) H H') {s:ag}{ns:List Int}(hS:cL K H s (ns.map V.int)):cL K H' s (ns.map V.int):=by
 rcases hS with (e|⟨o,e⟩)|e
 .exact .inl (.inl (h.fm hP F e (λ_ _ _ z=>nomatch z) (λ_ z=>nomatch z) (h.lv.Tw e)))
 .exact .inl (.inr ⟨o,h.fm hP F e (λ_ _ _ z=>nomatch z) (λ_ z=>nomatch z) (h.lv.out e (λ_ z=>nomatch z) (λ_ _ z=>nomatch z))⟩)
 .exact .inr e
theorem O7 {q:ag}{α:Type} {f:α->V}{ws:List α}(g:H q=some (.lst (ws.map f))) (k:∀ H',bQ H H'->Q (.bl ws.isEmpty) H'):(u7 aY) [] H λy H2=>Wj K (.ref q) y H2 Q:=by
 lk;refine ⟨bq (m:=0) (ak 0),λe he=>?_⟩;have S:=bQ.cC (o:=.lst []) he;have g1:(upd H e (.lst [])) e=some (.lst []):=aE;have k:=k _ S;generalize upd H e (.lst [])=H1 at S g1 k
 cases ws with
 | nil=>exact .inl (XZ (.lst (cL.of (S _ _ g)) .nil) (.lst (cL.of g1) .nil) (An []) (An []) k)
 | cons u ws=>exact .inr ⟨q,e,_,_,rfl,rfl,S _ _ g,g1,by simp,k⟩
theorem IW {u:Ti}:∀ {ts:List Ti},(ts.map Ti.key).Nodup->u∈ts->(ts.filter λv=>decide (v.key≠u.key)).length+1=ts.length
 | [],_,hu=>nomatch hu
 | t::ts,hn,hu=>by
  rw [aW,bb] at hn
  by_cases c:t.key=u.key
  .have ef:(ts.filter λv=>decide (v.key≠u.key))=ts:=iQ.mpr λv hv=>decide_eq_true λe=>hn.1 (by rw [c,← e];exact aX hv);rw [jT,if_neg (by simp [c]),ef];rfl
  .have hu':u∈ts:=(au.mp hu).resolve_left λe=>c (by rw [e]);rw [jT,if_pos (by simp [c]),bI,bI,IW hn.2 hu']
def d5 (c1 c2 c3 c4 c5:Int):List Int:=[c1,c2,c3,c4,c5]
def Hd (T:Nat) (ts:List Ti):Int:=(T:Int)*ts.length-jg ts
inductive cU (K:aa) (C:ag) (A:CA) (Pt:ag) (vs:List V) (H:Hp) (Q:VK) (E:XK):Prop
 | mk (p dx:ag) (a:AL) (n T:Nat) (ts:List Ti) (as:Nat->List ag) (R:Nat->Nat->List Int) (u:Ti) (r t:ag) (c1 c2 c3 c4:Int):vs=[.ref p,.ref r,.ref t,.int T]->CS K C A->KP C A H p dx a n T ts as R->nH Pt H->n<=200->ts.length<64->u∈ts->qq H (u,r)->Ac H p c1 c2 c3 c4->H t=some (.tup ((d5 c1 c2 c3 c4 (Hd T ts)).map V.int))->(∀ (t':ag) (ts':List Ti) (as':Nat->List ag) (R':Nat->Nat->List Int) (e2 e3 e4:Int) H',KP C A H' p dx a n T ts' as' R'->nH Pt H'->ts'.length+1=ts.length->Ac H' p c1 e2 e3 e4->H' t'=some (.tup ((d5 c1 e2 e3 e4 (Hd T ts')).map V.int))->e3+e4+Hd T ts'=c3+c4+Hd T ts->e2-e3-(if u.wd then 1 else 0)<=c2-c3->Fm (p::Pt::fp a) H H'->Q (.ref t') H')->cU K C A Pt vs H Q E
theorem Du:Rn (cU K C A Pt) (wF K C A (fJ K C A Pt) (bw K C A) (bV K C)) Ys:=by
 rintro vs H Q E ⟨p,dx,a,n,T,ts,as,R,u,r,t,c1,c2,c3,c4,rfl,ct,h,hP,hn,hlen,hu,hr,ac,ht,k⟩;obtain ⟨l1,l2,l3⟩:=h.iv.lt u hu
 obtain ⟨fs,hp⟩:∃ fs,H p=some (.ins A.aO dx fs)/\fs.lookup ("out":bD)=none:=let ⟨w,b1,b2,b3,b4,hw,hp⟩:=h.ob;⟨_,hp,J5⟩
 obtain ⟨hp,hf0⟩:=hp;have hr:H r=some (.tup [.int u.x,.int u.y,.int u.cA,.bl u.wd]):=hr
 have em1:min u.y u.x=u.x:=by lia
 have em2:max u.y u.x=u.y:=by lia
 unfold wF;k_in;refine ⟨p,dx,_,rfl,hp,hf0,?_⟩;lk;refine dX (ie.of hr) (v:=.int u.y) rfl ?_;lk;refine dX (ie.of hr) (v:=.int u.x) rfl ?_;lk;refine ⟨p,dx,a,n,T,ts,as,R,u.y,u.x,rfl,ct,h,hn,l2,by lia,by lia,by rw [em1,em2];exact aX (f:=Ti.key) hu,by lia,hP,λq ws v ts' as' R' H4 hv' ev gq oks hlu hf hs ac4 h4 ek P4 F4=>?_⟩;rw [em1,em2] at ev ek;obtain rfl:v=u:=m6 h.iv.nd hv' hu ev;have ac4:=ac4 _ _ _ _ ac;have r4:=h.tup hP F4 hr;have t4:=h.tup hP F4 ht
 have hl':ts'.length+1=ts.length:=by
  have:=congrArg eD ek;rw [af,ui,af] at this;rw [this];exact IW h.iv.nd hu
 have hcr:Hd T ts'+T-v.cA+E7 ws=Hd T ts:=by
  unfold Hd
  have e:(ts.length:Int)=ts'.length+1:=by lia
  rw [e,Int.mul_add];lia
 lk;refine .inl ⟨⟨_,cL.of gq⟩,λacc hacc=>mF (K:=K) ws (λ_=>true) (λv=>.int v.xs.length) (λZ=>∃ o,Z=[o]) (by rw [af]) (cL.of gq) hacc ⟨_,rfl⟩ (by rw [af];lia) ?_ λH5 S5 g5=>?_⟩
 .rintro i w x σ' H' G G' hw hx S' ⟨o,rfl⟩ hG hG';rw [aA,hw] at hx;cases hx;obtain ⟨o1,o2⟩:=oks w (aN hw);lk;refine mD ?_;lk;refine dX (ie.of (S' _ _ o1)) (v:=.ref w.q) rfl ?_;lk;refine jr (cL.of (S' _ _ o2)) ?_;exact hG rfl _ ⟨_,rfl⟩
 rw [iQ.mpr λ_ _=>rfl] at g5;lk;refine ⟨acc,(ws.map λv=>(v.xs.length:Int)),rfl,by rw [cf];exact cL.of g5,?_⟩;rw [MF];have h5:=h4.same S5;obtain ⟨w,b1,b2,b3,b4,hw,hp5⟩:=h5.ob;k_in;refine ⟨p,dx,_,rfl,hp5,J5,?_⟩;lk;refine ⟨p,dx,a,n,T,ts',as',R',_,_,_,_,rfl,ct,h5,by lia,ac4.same S5,λt' H6 S6 gt=>?_⟩;have gt:H6 t'=some (.tup ((d5 c1 (c2+(E7 ws+Eh ws:Nat)) (c3+(E7 ws:Nat)) (c4+(T-v.cA)) (Hd T ts')).map V.int)):=gt;lk;refine ⟨t',_,rfl,gt,rfl,λH7 S7=>⟨true,rfl,mX ?_⟩⟩;have S47:=S5.trans (S6.trans S7);have r7:=S47 _ _ r4;lk;refine jr (cL.of (S47 _ _ gq)) ?_;rw [af];lk;refine dX (ie.of r7) (v:=.int v.cA) rfl ?_;lk;refine qC (λc=>absurd c (by have:=hf.len;lia)) λ_=>?_;k_ne;k_ne;k_ne;k_ne;refine O7 (S47 _ _ gq) λH8 S8=>?_;have S48:=S47.trans S8;have r8:=S48 _ _ r4;have t8:=S48 _ _ t4;have n8:=S8 _ _ (S7 _ _ gt);lk;refine dX (ie.of r8) (v:=.bl v.wd) rfl ?_;lk;refine qC (λc=>?_) λ_=>?_
 .exfalso
  injection c with c
  rcases hf with ⟨e1,rfl⟩|⟨e1,_,us0,w0,rfl,_⟩
  .rw [e1] at c;cases c
  .rw [e1] at c;cases us0<;>cases c
 lk;refine dX (ie.of n8) (v:=.int c1) rfl ?_;lk;refine dX (ie.of t8) (v:=.int c1) rfl ?_;lk;refine FL (λc=>absurd rfl c) λ_=>?_;lk;refine dX (ie.of n8) (v:=.int (c3+(E7 ws:Nat))) rfl ?_;lk;refine dX (ie.of t8) (v:=.int c3) rfl ?_;lk;refine FL (λc=>absurd rfl c) λ_=>?_;lk;refine dX (ie.of n8) (v:=.int (c4+(T-v.cA))) rfl ?_;lk;refine dX (ie.of t8) (v:=.int c4) rfl ?_;lk;refine dX (ie.of r8) (v:=.int v.cA) rfl ?_;lk;refine FL (λc=>absurd (congrArg V.int (by lia)) c) λ_=>?_;k_ne
 with_reducible refine Gm (λZ H9=>bQ H8 H9/\Z=[some (.ref p),some (.ref r),some (.ref t),some (.int T),some (.ref q),some (.int (E7 ws:Nat)),some (.ref t'),some (.int (Eh ws:Nat))]) ?_ λgo=>?_
 .rintro Z H9 ⟨S9,rfl⟩;have n9:=S9 _ _ n8;have t9:=S9 _ _ t8;lk;refine dX (ie.of n9) (v:=.int (Hd T ts')) rfl ?_;lk;refine dX (ie.of t9) (v:=.int (Hd T ts)) rfl ?_;lk;refine dX (ie.of (S9 _ _ r8)) (v:=.int v.cA) rfl ?_;lk;refine FL (λc=>absurd (congrArg V.int (by lia)) c) λ_=>?_;lk;refine dX (ie.of n9) (v:=.int (c2+(E7 ws+Eh ws:Nat))) rfl ?_;lk;refine dX (ie.of t9) (v:=.int c2) rfl ?_;lk;refine FL (λc=>absurd (congrArg V.int (by lia)) c) λ_=>?_;lk;have S49:=S48.trans S9;refine k t' ts' as' R' _ _ _ H9 (h4.same S49) (P4.same S49) hl' (ac4.same S49) n9 (by lia) ?_ (F4.trans (Fm.of S49))
  rcases hf with ⟨e1,rfl⟩|⟨e1,hf⟩
  .rw [e1]
   show c2+((0:Nat):Int)-(c3+((0:Nat):Int))-0<=c2-c3
   lia
  .have:=TC.Eh (.inr ⟨e1,hf⟩);rw [e1,if_pos rfl];lia
 .have g8:=S48 _ _ gq;k_ne;k_ne;k_ne;k_ne;k_ne;k_ne
  refine K3 g8 λH9 S9=>⟨_,rfl,?_⟩
  rcases hf with ⟨e1,rfl⟩|⟨e1,_,us0,w0,rfl,e0⟩
  .refine mX ?_;lk;refine .inr ⟨_,rfl,?_⟩;k_ne;exact go _ _ ⟨S9,rfl⟩
  .have e:(!(us0++[w0]).isEmpty)=true:=by cases us0<;>rfl
   rw [e];refine mD ?_;lk;refine j4 (cL.of (S9 _ _ g8)) (v:=.ref w0.p) (by rw [aZ];exact HJ _ _) ?_;lk;refine dX (ie.of (S9 _ _ (S48 _ _ (oks w0 (bH _ aw)).1))) (v:=w0.f) rfl ?_;lk;refine .inr ⟨_,rfl,?_⟩;k_ne;refine go _ _ ⟨S9,?_⟩
   have ef:((Eh (us0++[w0]):Nat):Int)=if (!decide (w0.f=V.non))=true then 1 else 0:=by rw [Aq,e0];by_cases c:w0.f=V.non<;>simp [c]
   rw [ef];rfl
theorem QH {Pt2:ag}{p p2:sT}{q q2:bD}(h:pC Pt p q H) (h2:pC Pt2 p2 q2 H) (hne:Pt≠Pt2) (S:k9 Pt2 H H'):pC Pt p q H':=by
 obtain ⟨ps,hp⟩:=h2.tbl
 rcases h with h|⟨c',oc,vs,t,q1,q2,q3,q4⟩
 .exact .inl (S _ _ hne h)
 .exact .inr ⟨c',oc,vs,t,S _ _ hne q1,S _ _ (λz=>by rw [z,hp] at q2;cases q2) q2,q3,q4⟩
theorem Gn (xs:List Int):vX (.tuple (xs.map Fj)):=⟨oK _ (by simp only [kj];exact mY xs),(Nq xs).2⟩
inductive BQ (K:aa) (Pt1 Pt2:ag) (vs:List V) (H:Hp) (Q:VK) (E:XK):Prop
 | mk (a:ag) (ns:List Int):vs=[.ref a]->cL K H a (ns.map V.int)->ns.length<=63->Pt1≠Pt2->nH Pt1 H->Yy Pt2 H->(∀ H',Q (.bl true) H')->BQ K Pt1 Pt2 vs H Q E
abbrev sgL (s:ag) (b:Bool) (z n T:Int) (wl p t:ag) (o d:Int) (u v w:Option V):L2.St:=[some (.ref s),some (.bl b),some (.int z),some (.int n),some (.int T),some (.ref wl),some (.ref p),some (.ref t),some (.int o),some (.int d),u,v,w]
abbrev LwI (K:aa) (C:ag) (A:CA) (Pt1 p dx:ag) (a:AL) (n T:Nat) (ws:List Tr) (s:ag) (ns:List Int) (b:Bool) (z:Int) (wl:ag) (i:Nat) (Z:L2.St) (H4:Hp):Prop:=∃ (ts:List Ti) (as:Nat->List ag) (R:Nat->Nat->List Int) (t:ag) (c2 c3 c4 o d:Int) (o1 o2 o3:Option V),KP C A H4 p dx a n T ts as R/\nH Pt1 H4/\ts.length+i=ws.length/\Ac H4 p ws.length c2 c3 c4/\H4 t=some (.tup ((d5 ws.length c2 c3 c4 (Hd T ts)).map V.int))/\c3+c4+Hd T ts=(T:Int)*ws.length/\c2<=c3+o/\cL K H4 s (ns.map V.int)/\H4 wl=some (.lst (ws.map Dq))/\Z=sgL s b z n T wl p t o d o1 o2 o3
theorem Th {Pt1 Pt2:ag}(ct:CS K C A):Rn (BQ K Pt1 Pt2) (Qy K C A (dv K C) (bF K C A Pt1) (bw K C A) (a8 K C) (cT K C) (cg K C Pt2) (cu K C A) (cU K C A Pt1) (bV K C) (cw K C) (cq K C) (bN K C A)) Yr:=by
 rintro vs H Q E ⟨s,ns,rfl,hS,hlen,hne,hP,hT,k⟩;unfold Qy;lk;refine ⟨s,ns,0,rfl,hS,λz=>?_⟩;lk;refine ⟨s,ns,0,rfl,hS,λz'=>?_⟩;generalize hb:decide (V.int (z%2)=V.int 0)=b
 obtain ⟨n,en,hn1,hn2⟩:∃ m:Nat,(2+z'/2%23:Int)=(m:Int)/\2<=m/\m<=24:=⟨(2+z'/2%23).toNat,by lia,by lia,by lia⟩
 lk;rw [en];refine ⟨n,rfl,λT tp=>?_⟩;k_ne
 with_reducible refine Gm (λZ H1=>∃ (wl:ag) (ws:List Tr),H1 wl=some (.lst (ws.map Dq))/\(∀ t∈ws,K2 n H1 t)/\(ws.map λt=>(za t).1).Nodup/\ws.length<64/\nH Pt1 H1/\cL K H1 s (ns.map V.int)/\Z=[some (.ref s),some (.bl b),some (.int (z'/2)),some (.int n),some (.int T),some (.ref wl),none,none,none,none,none,none,none]) ?_ λgo=>?_
 rotate_left
 .lk;refine ⟨_,rfl,?_⟩
  cases b with
  | true =>
   refine mD ?_;lk;refine ⟨s,ns,n,rfl,hS,hn1,hn2,λl ts H' S g ht nd hl=>?_⟩;k_ne
   exact go _ _ ⟨l,ts,g,ht,nd,hl,hP.same S,S.seq hS,rfl⟩
  | false =>
   refine mX ?_;lk;refine ⟨s,_,ns,n,rfl,hS,hn1,hn2,hT,λl ts H' S g ht nd hl=>?_⟩;k_ne;exact go _ _ ⟨l,ts,g,ht,nd,hl,QH hP hT hne S,Wu hT S hS,rfl⟩
 rintro Z H1 ⟨wl,ws,gw,htr,hnd,hwl,P1,hS1,rfl⟩;lk;refine K1 ?_;lk;refine ⟨wl,_,rfl,.inl (cL.of gw),λq hq=>?_⟩;generalize eu_:upd H1 q (.lst (ws.map Dq))=H2;obtain ⟨S2,g2⟩:=km eu_ hq;lk;intro p dx hp hdx _
 have S3:bQ H2 (upd (upd H2 dx (.own p)) p (.ins A.aO dx [])):=λb o e=>by rw [aG (aQ e hp),aG (aQ e hdx)];exact e
 have p3:(upd (upd H2 dx (.own p)) p (.ins A.aO dx [])) p=some (.ins A.aO dx []):=aE;generalize upd (upd H2 dx (.own p)) p (.ins A.aO dx [])=H3 at S3 p3;have S13:=S2.trans S3;refine ⟨p,dx,q,n,ws,rfl,p3,ct,by lia,by lia,S3 _ _ g2,λt ht=>⟨S13 _ _ (htr t ht).1,(htr t ht).2⟩,hnd,hwl,P1.same S13,λa T' us as R H4 h4 hul ls ac P4 fr kp=>⟨rfl,?_⟩⟩;obtain rfl:=tp.one h4.tp;have hT8:=h4.tp.small (by lia)
 have npw:wl≠p:=λe=>by have:=S13 _ _ gw;rw [e,p3] at this;cases this
 have w4:H4 wl=some (.lst (ws.map Dq)):=kp _ _ npw ((P1.same S13).ne (S13 _ _ gw) (λ_ z=>nomatch z)) (S13 _ _ gw)
 have wn:wl∉fp a:=λhm=>by have:=fr wl (ai _ hm);rw [S13 _ _ gw] at this;cases this
 have hS4:cL K H4 s (ns.map V.int):=by
  have k3:∀ {o:HO},H3 s=some o->(∀ x y z,o≠.ins x y z)->(∀ ps,o≠.tbl ps)->H4 s=some o:=λ{o} e h1 h2=>kp _ _ (λz=>by rw [z,p3] at e;cases e;exact h1 _ _ _ rfl) ((P1.same S13).ne e h2) e
  rcases S13.seq hS1 with (e|⟨o,e⟩)|e
  .exact .inl (.inl (k3 e (λ_ _ _ z=>nomatch z) (λ_ z=>nomatch z)))
  .exact .inl (.inr ⟨o,k3 e (λ_ _ _ z=>nomatch z) (λ_ z=>nomatch z)⟩)
  .exact .inr e
 have hc0:Hd T us=(T:Int)*ws.length:=by unfold Hd;rw [ls,hul];simp
 obtain ⟨w,b1,b2,b3,b4,hw,hp4⟩:=h4.ob;k_in;refine ⟨p,dx,_,rfl,hp4,J5,?_⟩;lk;refine ⟨p,dx,a,n,T,us,as,R,_,_,_,_,rfl,ct,h4,by lia,ac,λt H5 S5 gt=>?_⟩;have gt:H5 t=some (.tup ((d5 ws.length 0 0 0 (Hd T us)).map V.int)):=gt;lk;refine ⟨t,_,rfl,gt,rfl,λH6 S6=>⟨true,rfl,mX ?_⟩⟩;have S46:=S5.trans S6;lk;refine jr (cL.of (S46 _ _ w4)) ?_;rw [af];lk;refine jr (cL.of (S46 _ _ w4)) ?_;rw [af];lk;refine ⟨bq (m:=5) (ak 5),λt2 ht2=>?_⟩;have S7:=bQ.cC (o:=.tup [.int ws.length,.int 0,.int 0,.int 0,.int ((ws.length:Int)*T)]) ht2
 have g7:(upd H6 t2 (.tup [.int ws.length,.int 0,.int 0,.int 0,.int ((ws.length:Int)*T)])) t2=some (.tup ((d5 ws.length 0 0 0 (Hd T us)).map V.int)):=by rw [aE,hc0,Om];rfl
 generalize upd H6 t2 (.tup [.int ws.length,.int 0,.int 0,.int 0,.int ((ws.length:Int)*T)])=H7 at S7 g7;have S57:=S6.trans S7;have S47:=S5.trans S57;refine Uh (.tup (.of (S57 _ _ gt)) (d9.ints _)) (.tup (.of g7) (d9.ints _)) (Gn _) (Gn _) ?_;rw [SeqAt.eqv_refl _ (Gn _).1];lk;refine mX ?_;lk;refine ⟨s,ns,4,rfl,S47.seq hS4,λz4=>?_⟩;lk;unfold IR;lk;refine jr (cL.of (S47 _ _ w4)) ?_;rw [af];refine ⟨_,rfl,by lia,by lia,oG (LwI K C A Pt1 p dx a n T ws s ns b (z'/2) wl) ⟨us,as,R,t,0,0,0,0,z4,_,_,_,h4.same S47,P4.same S47,by lia,ac.same S47,S57 _ _ gt,by lia,by lia,S47.seq hS4,S47 _ _ w4,rfl⟩ ?_ ?_⟩
 .rintro i Z H8 hi ⟨ts,as8,R8,t8,c2,c3,c4,o,d,o1,o2,o3,h8,P8,hl8,ac8,gt8,he1,he2,hS8,w8,rfl⟩;obtain ⟨w,b1,b2,b3,b4,hw,hp8⟩:=h8.ob;k_in;refine ⟨p,dx,_,rfl,hp8,J5,?_⟩;lk;refine ⟨p,dx,a,n,T,ts,as8,R8,rfl,ct,h8,by lia,λr vs H9 hr gr fl pm S9=>?_⟩
  have hvl:vs.length=ts.length:=by have:=pm.length_eq;rwa [af] at this
  have tb:Tb H9 r vs ts:=⟨gr,fl,pm,by lia⟩
  k_ne
  with_reducible refine Gm (λZ HA=>bQ H9 HA/\∃ (u:Ti×ag) (d':Int),u∈vs/\Z=sgL s b (z'/2) n T wl p t8 o d' (some (.int (0+(i:Int)))) (some (.ref r)) (some (rT u))) ?_ λgo=>?_
  rotate_left
  .lk;refine ⟨_,rfl,?_⟩
   cases b with
   | true =>
    refine mD ?_;lk;refine jr (cL.of gr) ?_;rw [af];obtain ⟨u,hu,hat⟩:=Ws vs (by lia) d;lk;refine j4 (cL.of gr) hat ?_;lk;refine jr (cL.of gr) ?_;rw [af];k_ne;k_ne
    exact go _ _ ⟨λ_ _ e=>e,u,_,hu,rfl⟩
   | false =>
    refine mX ?_;lk;refine FP (S9.seq hS8) ?_
    obtain ⟨m,em',hm⟩:∃ m:Nat,(0+(i:Int))%(if (ns.length:Int)>1 then (ns.length:Int) else 1)=(m:Int)/\m<100:=by
     have h1:=Ha (0+(i:Int)) (show (if (ns.length:Int)>1 then (ns.length:Int) else 1)≠0 by split<;>lia);have h2:=pG (0+(i:Int)) (show (0:Int)<(if (ns.length:Int)>1 then (ns.length:Int) else 1) by split<;>lia)
     have h3:(if (ns.length:Int)>1 then (ns.length:Int) else 1)<=63:=by split<;>lia
     exact ⟨((0+(i:Int))%(if (ns.length:Int)>1 then (ns.length:Int) else 1)).toNat,by lia,by lia⟩
    have hpos:(0:Int)<(if (ns.length:Int)>1 then (ns.length:Int) else 1):=by split<;>lia
    lk;rw [em'];refine ⟨s,ns,1+m,by rw [Xl];rfl,S9.seq hS8,λz5=>?_⟩;lk;refine ⟨z5+i,i,r,vs,ts,by rw [CO];rfl,by lia,tb,by lia,λu hu HA SA=>?_⟩;k_ne;exact go _ _ ⟨SA,u,d,hu,rfl⟩
  rintro Z HA ⟨SA,u,d',hu,rfl⟩;have S8A:=S9.trans SA;have hut:=tb.mem hu;lk;refine ⟨p,dx,a,n,T,ts,as8,R8,u.1,u.2,t8,_,_,_,_,rfl,ct,h8.same S8A,P8.same S8A,by lia,by lia,hut,SA _ _ (fl u hu),ac8.same S8A,S8A _ _ gt8,λt' ts' as' R' e2 e3 e4 HB hB PB hlB acB gtB hcB hdB FB=>?_⟩;have rB:=(h8.same S8A).tup (P8.same S8A) FB (SA _ _ (fl u hu));lk;refine qC (λc=>by cases c) λ_=>?_;lk;refine dX (ie.of rB) (v:=.bl u.1.wd) rfl ?_;lk;refine .inr ⟨_,rfl,?_⟩;lk;exact ⟨ts',as',R',t',e2,e3,e4,_,d',_,_,_,hB,PB,by lia,acB,gtB,by lia,by lia,(h8.same S8A).seq (P8.same S8A) FB (S8A.seq hS8),(h8.same S8A).fm (P8.same S8A) FB (S8A _ _ w8) (λ_ _ _ z=>nomatch z) (λ_ z=>nomatch z) wn,rfl⟩
 .rintro Z H8 ⟨ts,as8,R8,t8,c2,c3,c4,o,d,o1,o2,o3,h8,P8,hl8,ac8,gt8,he1,he2,hS8,w8,rfl⟩;obtain rfl:ts=[]:=jc (by lia)
  have e0:Hd T []=0:=by unfold Hd jg;simp
  rw [e0] at gt8 he1
  have h8p:∀ {H':Hp},bQ H8 H'->∃ fs,H' p=some (.ins A.aO dx fs)/\fs.lookup ("ties":bD)=none/\fs.lookup ("weight":bD)=none:=λS=>by
   obtain ⟨w,b1,b2,b3,b4,hw,hp8⟩:=h8.ob;exact ⟨_,S _ _ hp8,J5,J5⟩
  obtain ⟨fs,q1,q2,q3⟩:=h8p λ_ _ e=>e;k_in;refine ⟨p,dx,_,rfl,q1,q2,?_⟩;lk;refine ⟨p,dx,a,n,T,[],as8,R8,rfl,ct,h8,by decide,λr vs H9 hr gr fl pm S9=>?_⟩;obtain rfl:vs=[]:=Rw.mp (On pm)
  refine K3 gr λHA SA=>⟨_,rfl,mX ?_⟩
  have S8A:=S9.trans SA;k_in;refine ⟨p,dx,_,rfl,S8A _ _ q1,q3,?_⟩;lk;refine ⟨p,dx,a,n,T,as8,R8,rfl,ct,h8.same S8A,λHB SB=>?_⟩;lk;refine ⟨0,rfl,⟨true,rfl,mX ?_⟩⟩;have S8B:=S8A.trans SB;k_in;refine ⟨p,dx,_,rfl,S8B _ _ q1,q3,?_⟩;lk;refine ⟨p,dx,a,n,T,as8,R8,rfl,ct,h8.same S8B,λHC SC=>?_⟩;have S8C:=S8B.trans SC;have gC:=S8C _ _ gt8;lk;refine FL (λc=>absurd rfl c) λ_=>?_;lk;refine dX (ie.of gC) (v:=.int 0) rfl ?_;lk;refine qC (λ_=>?_) λc=>absurd rfl c;lk;refine dX (ie.of gC) (v:=.int c3) rfl ?_;lk;refine dX (ie.of gC) (v:=.int c4) rfl ?_;lk;refine jr (cL.of (S8C _ _ w8)) ?_;rw [af];lk
  have hm:c3+c4=(ws.length:Int)*T:=by rw [Om];lia
  refine qC (λ_=>?_) λc=>absurd (congrArg V.int hm) c;lk;refine dX (ie.of gC) (v:=.int c2) rfl ?_;lk;refine dX (ie.of gC) (v:=.int c3) rfl ?_;lk;rw [decide_eq_true he2];exact k _
end K64
namespace K64
local macro_rules | `(tactic| walk_at "oz")=>`(tactic| first|exact rfl|with_reducible assumption|exact qS|exact .inl rfl|exact .inr rfl|exact jm _|exact λ_=>rfl|exact λ_ _=>rfl|(exact .inr (.inl rfl))|(exact .inr (.inr rfl))|exact eF|assumption|decide|exact gU.mono (by assumption) (by decide)|exact gU.units (by assumption)|with_unfolding_all rfl)
local macro_rules | `(tactic| walk_at "oc")=>`(tactic| first|exact x3|exact AW|exact M8 rfl|exact M7 rfl|exact v8|exact call_lenT|exact call_sortedE rfl|exact EN rfl)
local macro_rules | `(tactic| walk_at "op")=>`(tactic| first|exact ki|exact AI|exact u6|exact oP|exact Ko|exact Hz|exact LX|exact T3|exact T7|exact ll (gU.units (by assumption))|exact O3 (gU.units (by assumption))|exact O4 (gU.units (by assumption))|exact Nn (gU.units (by assumption))|exact Wk (gU.units (by assumption))|exact Wl (gU.units (by assumption)))
local macro_rules | `(tactic| walk_at "ob")=>`(tactic| first|exact BootT.len|exact BootT.vd|exact BootT.min|exact BootT.max|exact BootT.AX|exact BootT.list|exact BootT.tuple|exact BootT.bool)
local macro_rules | `(tactic| walk_at "om")=>`(tactic| first|exact KU.Q7 (by assumption)|exact KU.pZ (by assumption)|exact KU.GQ (by assumption)|exact KU.YW (by assumption)|exact KU.UX (by assumption)|exact KU.sO (by assumption)|exact KU.LA (by assumption)|exact KU.Tv (by assumption)|exact KU.WG (by assumption))
local macro_rules | `(tactic| walk_at "ok")=>`(tactic| first|exact KU.GO (by assumption)|exact KU.Fd (by assumption)|exact KU.zx (by assumption))
local macro_rules | `(tactic| walk_at "o1")=>`(tactic| first
 | (with_reducible first|exact gm|refine bX ?_|refine aF ?_ ?_|refine fH ?_|refine kh ?_ ?_ ?_|exact cp|exact Xn|exact Vm|exact dI|refine Vn ?_|refine qN ?_|refine Kt ?_|exact vR|refine vS ?_|exact vN|exact O0|refine qJ ?_ ?_|refine uZ ?_|refine qH ?_ ?_|refine Ht ?_ ?_|refine pK ?_|refine Fs ?_)
 | ((with_reducible refine mC ?_ ?hs);(case hs=>exact rfl))
 | ((with_reducible refine oO ?hN ?_ ?hi ?hx ?hs ?hf);(case hN|hi|hx|hs|hf=>walk_at "oz"))
 | ((with_reducible refine Yo ?_ ?_ ?hK ?hs);(case hK|hs=>exact rfl))
 | ((with_reducible refine Vp ?_ ?_ ?hs ?hw ?h1);(case hs|hw|h1=>exact rfl))
 | ((with_reducible refine pv _ ?hN ?hv ?hd ?hc);(case hN|hv|hd|hc=>walk_at "oz"))
 | ((with_reducible refine fU ?ho ?_ ?_);(case ho=>walk_at "op"))
 | ((with_reducible refine HK ?hr ?_ ?_ ?hs);(case hr=>exact O5 (gU.units (by assumption)));(case hs=>exact λ_ _=>rfl))
 | ((with_reducible refine gP ?ho ?_ ?_ ?hm);(case ho=>walk_at "op");(case hm=>walk_at "oz"))
 | ((with_reducible refine RW ?ho ?_ ?_ ?hm);(case ho=>walk_at "op");(case hm=>walk_at "oz"))
 | ((with_reducible refine b9 ?_ ?_ ?hs);(case hs=>exact rfl))
 | ((with_reducible refine Yn ?_ ?hK ?hb);(case hK|hb=>exact rfl))
 | ((with_reducible refine Ym ?_ ?hK ?he);(case hK=>exact rfl);(case he=>exact λ_=>rfl))
 | ((with_reducible refine qO ?hr ?_ ?_ ?_);(case hr=>first|exact vT|exact sl_tup))
 | ((with_reducible refine Yl ?_ ?hK);(case hK=>exact rfl))
 | ((with_reducible refine Es ?hg ?hm ?_ ?hs);(case hg|hs=>exact rfl);(case hm=>walk_at "om"))
 | ((with_reducible refine Et ?hg ?hm ?_ ?hs ?ht);(case hg|hs|ht=>exact rfl);(case hm=>walk_at "om"))
 | ((with_reducible refine gg ?hN ?hi ?hx ?hf);(case hN|hi|hx|hf=>walk_at "oz"))
 | ((with_reducible refine Vo ?_ ?_ ?hs ?ha);(case hs=>exact Xz (gU.units (by assumption)));(case ha=>exact λ_=>rfl))
 | ((with_reducible refine Yp ?hc ?_ ?hK ?hn ?hs);(case hc|hK|hn|hs=>exact rfl))
 | ((with_reducible refine gL ?_ ?_ ?hs);(case hs=>exact rfl))
 | ((with_reducible refine' Fp ?hg ?hm ?hv ?hr ?hn ?hd);(case hg|hr=>exact rfl);(case hm=>walk_at "om");(case hv=>walk_at "ob");(case hn|hd=>decide))
 | ((with_reducible refine' iS ?hc ?hg ?hm ?hv ?_ ?hn ?hd ?he ?hp);(case hc=>walk_at "oc");(case hg|he|hp=>exact rfl);(case hm=>walk_at "om");(case hv=>walk_at "ob");(case hn|hd=>decide))
 | ((with_reducible refine' pcl ?c ?hr ?hg ?hx ?_ ?hd ?he ?hp);(case c=>assumption);(case hr=>walk_at "oz");(case hg|he|hp=>exact rfl);(case hx=>exact qS);(case hd=>decide))
 | ((with_reducible refine' pcm ?c ?cl ?hr ?_ ?hx ?_ ?hs ?hp ?ht);(case c=>assumption);(case cl=>walk_at "ok");(case hr=>walk_at "oz");(case hx=>exact qS);(case hs|hp|ht=>exact rfl))
 | ((with_reducible refine' pcm0 ?c ?cl ?hr ?_ ?hx ?ht);(case c=>assumption);(case cl=>walk_at "ok");(case hr=>walk_at "oz");(case hx=>exact qS);(case ht=>exact rfl))
 | ((with_reducible refine' o_bm ?pa ?sl ?ty ?hm ?_ ?_ ?hK ?hb ?hf ?hl ?hs ?hp);(case pa=>exact cF);(case sl=>exact fO);(case ty=>exact fP);(case hm=>exact lj);(case hK|hb|hf|hl|hs|hp=>exact rfl))
 | with_reducible refine PW.pt ?_
 | (refine xV ?hp ?hc ?_ ?_ ?_ ?hs;(case hp=>exact eF);(case hc=>exact rfl);(case hs=>exact λ_=>rfl))
 | (refine vO ?hp ?_ ?_;(case hp=>exact eF)))
local macro_rules | `(tactic| w_up)=>`(tactic| repeat' walk_at "o1")
theorem Wv {l:qt}{w:ck}{K:aa}{h:cK}{mg:bD->Option aj}{fa:ag}(X:K.In h) (G:h.Ns bM mg) (hfa:mg "law"=some (.ref fa)) {c1 Pt1 c2 Pt2:ag}{C A_Levels A_Lightest A_Kept:ag}
  (Gp:cJ K bM "Wood"=some (some (.ref C))) (Gq:iK K C MU=true) (Gr:jl K C=true) (Gs:kQ K C=true) (Gu:bG K (.ref C) "__setattr__"=some (some (.builtin "object.__setattr__"))) (Gv:j8 K C=true) (Gw:dN K (.ref C)=true)
  (sR:bG K (.ref C) "n"=some none)
  (lY:bG K (.ref C) "rows"=some none)
  (yp:cJ K bM "Levels"=some (some (.ref A_Levels))) (yq:iK K A_Levels MU=true) (yr:jl K A_Levels=true) (yt:kQ K A_Levels=true) (yu:bG K (.ref A_Levels) "__setattr__"=some (some (.builtin "object.__setattr__"))) (yw:j8 K A_Levels=true) (yz:dN K (.ref A_Levels)=true)
  (ib:bG K (.ref A_Levels) "level_of"=some none)
  (gN:bG K (.ref A_Levels) "weight_of"=some none)
  (iW:bG K (.ref A_Levels) "wooden"=some none)
  (jw:bG K (.ref A_Levels) "woods"=some none)
  (rY:cJ K bM "Lightest"=some (some (.ref A_Lightest))) (rZ:iK K A_Lightest MU=true) (r0:jl K A_Lightest=true) (r9:kQ K A_Lightest=true) (sd:bG K (.ref A_Lightest) "__setattr__"=some (some (.builtin "object.__setattr__"))) (se:j8 K A_Lightest=true) (sf:dN K (.ref A_Lightest)=true)
  (iX:bG K (.ref A_Lightest) "came"=some none)
  (h9:bG K (.ref A_Lightest) "levels"=some none)
  (ia:bG K (.ref A_Lightest) "looked"=some none)
  (iU:bG K (.ref A_Lightest) "lost"=some none)
  (kH:bG K (.ref A_Lightest) "n"=some none)
  (iF:bG K (.ref A_Lightest) "risen"=some none)
  (iV:bG K (.ref A_Lightest) "wood"=some none)
  (Gx:cJ K bM "Kept"=some (some (.ref A_Kept)))
  (BR:qD K mg "is_whole" ET yV)
  (BS:qD K mg "is_count" EU yV)
  (BU:qD K mg "is_place" EV yT)
  (UR:qD K mg "top" stop ["n"])
  (IX:qD K mg "tie_of" Mz Bh)
  (IY:qD K mg "credit" MA ["n","ties"])
  (MI:qD K mg "rises" Qn ["trail"])
  (MJ:qD K mg "looks" Qo ["trail"])
  (uB:qD K mg "steps_along" wc ["row"])
  (IZ:qD K mg "turned" MB ["row","a"])
  (E8:qD K mg "spliced" IC ["row","other","a","b"])
  (I0:qD K mg "parted" MC ["row","a","b"])
  (nY:qD K mg "refuse_no_place" oQ yT)
  (nq:qD K mg "refuse_no_places" nS yS)
  (pj:qD K mg "refuse_no_pair" qh yS)
  (vo:qD K mg "in_order" yc ES)
  (uC:qD K mg "ends_within" we Mx)
  (E9:qD K mg "new_tie" ID Mu)
  (sg:qD K mg "standing_tie" uj Mu)
  (si:qD K mg "_law_cell_at" uk Mv)
  (wU:qD K mg "_law_whole" yW ["_law_found"])
  (pV:qD K mg "_law_shape" rg Qm)
  (BV:qD K mg "_law_top" EW ["_law_n"])
  (uD:qD K mg "_law_weight" wg ["_law_cell","_law_k"])
  (sj:qD K mg "_law_weighed" um UL)
  (uE:qD K mg "_law_picked" wj UM)
  (zb:qD K mg "_law_five" Bi ["_law_told"])
  (uF:qD K mg "_law_digits" wk UJ)
  (zc:qD K mg "_law_free" Bj ["_law_script","_law_n"])
  (zd:qD K mg "_law_step" Bk UG)
  (MK:qD K mg "law" Yv My)
  (qr:kd K C "__init__" "Wood.__init__" rh yb)
  (ze:kd K C "keep" "Wood.keep" Bl ["self","row"])
  (zf:kd K C "link" "Wood.link" Bn zF)
  (BW:kd K C "cut" "Wood.cut" EX zF)
  (uG:kd K C "joined" "Wood.joined" wm zF)
  (wV:kd K C "group" "Wood.group" yX yU)
  (zg:kd K C "size" "Wood.size" Bo yU)
  (zh:kd K C "ties" "Wood.ties" Bp mv)
  (nZ:kd K A_Levels "__init__" "Levels.__init__" oR yb)
  (wW:kd K A_Levels "add" "Levels.add" yY IA)
  (sk:kd K A_Levels "adopt" "Levels.adopt" uo wb)
  (uH:kd K A_Levels "lift" "Levels.lift" wo wb)
  (uI:kd K A_Levels "drop" "Levels.drop" wq wb)
  (n0:kd K A_Levels "at_level" "Levels.at_level" oS ["self","level","wooden"])
  (uJ:kd K A_Levels "told" "Levels.told" wu wb)
  (lW:kd K A_Levels "lesser_side" "Levels.lesser_side" mw Mw)
  (uK:kd K A_Levels "look" "Levels.look" wx Mw)
  (uL:kd K A_Levels "take" "Levels.take" wy wb)
  (hU:kd K A_Kept "__init__" "Kept.__init__" rj yb)
  (sr:kd K A_Lightest "receive" "Kept.receive" uq IA)
  (BX:kd K A_Lightest "out" "Kept.out" EY zF)
  (zj:kd K A_Lightest "ties" "Kept.ties" Bq mv)
  (sA:kd K A_Lightest "account" "Kept.account" ur mv)
  (mB:kd K A_Lightest "__init__" "Lightest.__init__" m7 ["self","n","weighed"])
  (n5:kd K A_Lightest "weight" "Lightest.weight" oU mv)
  {f_K:ag}(e_K:hU.f=f_K) (g_K:yJ K (.ref A_Kept) "__getattribute__"=some (some (.builtin "type.__getattribute__"))) (r_K:RJ K A_Kept (.type "type")=true) (t_K:RK K (.ref A_Kept) (.type "type") "__init__"=some (.val (.ref f_K)))
  (vp:vo.d.code=.ref c1)
  (pW:pV.d.code=.ref c2)
  (QI:cJ K bM "all"=some none)
  (K5:cJ K bM "bool"=some none)
  (sC:cJ K bM "enumerate"=some none)
  (QJ:cJ K bM "int"=some none)
  (pX:cJ K bM "isinstance"=some none)
  (QK:cJ K bM "len"=some none)
  (K6:cJ K bM "list"=some none)
  (QL:cJ K bM "max"=some none)
  (QM:cJ K bM "min"=some none)
  (Gy:cJ K bM "range"=some none)
  (QN:cJ K bM "set"=some none)
  (BY:cJ K bM "sorted"=some none)
  (QO:cJ K bM "sum"=some none)
  (Gz:cJ K bM "tuple"=some none)
  (QP:cJ K bM "zip"=some none)
  {Dw:TF}(oq:cJ K bM "MOST_PLACES"=some (some (.int 200 Dw)))
  : ∃ fd:fz,(∀ (s:ax) (v:aj),GT s fd ⟨[v],[]⟩ [("_law_script",v)])/\∀ base:cK,K.In base->base.Ns bM mg->ic base c1 Pt1->base.BuiltinsAt mg Pt1->ic base c2 Pt2->base.BuiltinsAt mg Pt2->kF l.prog w K mg base Hc 12 fa fd My (BQ K Pt1 Pt2):=by
 have e:=MK.law hfa;subst e
 have T:KU K mg C (⟨A_Levels,A_Lightest,A_Kept⟩:CA):=⟨⟨Gq,Gr,Gs,Gu⟩,l7 X G Gp,sR,lY,⟨yq,yr,yt,yu⟩,l7 X G yp,ib,gN,iW,jw,⟨rZ,r0,r9,sd⟩,l7 X G rY,iX,h9,ia,iU,kH,iF,iV,l7 X G Gx,cm X G QI,cm X G K5,cm X G sC,cm X G QJ,cm X G pX,cm X G QK,cm X G K6,cm X G QL,cm X G QM,cm X G Gy,cm X G QN,cm X G BY,cm X G QO,cm X G Gz,cm X G QP,⟨_,l7 X G oq⟩⟩
 have ct:CS K C (⟨A_Levels,A_Lightest,A_Kept⟩:CA):=⟨⟨T.GO,T.sR,T.lY⟩,T.Fd,T.ib,T.iW,T.gN,T.jw,T.zx,T.kH,T.h9,T.iV,T.iX,T.ia,T.iF,T.iU⟩
 refine ⟨MK.d,λs v=>MK.bt s [v] rfl,λbase _ _ CH1 B1 CH2 B2=>?_⟩;have BZ:=BR.l6 l.prog w base (BR.F.lJ (k:=0) KJ (@Ga K C) λhr nd=>bX (fH (qJ (iS AW rfl T.pZ BootT.vd (b9 (pv 0) (b9 (Fp rfl T.MN BootT.int rfl) dI))) (uZ (OJ (by w_up))))));have US:=UR.l6 l.prog w base (UR.F.lJ (k:=0) Qp (@SZ K C) λhr nd=>aF (by w_up) (aF (by w_up) (aF (vO eF (by w_up) (aF (AF (i:=1) Qp.nd rfl (Or.inl rfl) cp Fw) (bX (AF (i:=2) Qp.nd rfl (Or.inl rfl) cp RV)))) (by w_up))));have Ja:=IX.l6 l.prog w base (IX.F.lJ (k:=0) Qq (@KZ K C) λhr nd=>bX (fH (vM (by w_up) (by w_up) (by w_up))));have ML:=MI.l6 l.prog w base (MI.F.lJ (k:=0) SY (@NI K C) λhr nd=>bX (fH (iS (tw rfl) rfl T.MP BootT.sum (b9 (je C7 (ys:=[]) [] rfl (mf (pv 0)) trivial (λ_ _ _=>AE rfl (gL (gg (show (C7:List bD).Nodup by decide +kernel)) (gL (gg (show (C7:List bD).Nodup by decide +kernel)) (gL (gg (show (C7:List bD).Nodup by decide +kernel)) (gL (gg (show (C7:List bD).Nodup by decide +kernel)) vN))))) (λ_ _ _=>jo) (λ_ _ _=>(by w_up))) dI))));have uM:=uB.l6 l.prog w base (uB.F.lJ (k:=0) C8 (@zJ K C) λhr nd=>bX (fH (Sz rfl rfl T.LA rfl T.YT (by w_up))));have Jb:=IZ.l6 l.prog w base (IZ.F.lJ (k:=0) IE (@KY K C) λhr nd=>aF (oO IE.nd (nO cF f9 kg (tq hr.units) (pv 0) (by w_up))) (by w_up));have vq:=vo.l6 l.prog w base (IQ vo.F T vp CH1 B1 (by walk_at "l") Gh);have uN:=uC.l6 l.prog w base (uC.F.lJ (k:=0) C9 (@zL K C) λhr nd=>bX (fH (iS x3 rfl T.Q7 BootT.len (b9 (je ["place"] (ys:=["side"]) [1] rfl (mf (pv 0)) ⟨rfl,.inl rfl,rfl,trivial⟩ (λ_ _ _=>gg (show (["place","side"]:List bD).Nodup by decide +kernel)) (λ_ _ _=>lS (by w_up)) (λ_ _ _=>(pv 0))) dI))));have sD:=si.l6 l.prog w base (si.F.lJ (k:=0) Bu (@yn K C) λhr nd=>aF (by w_up) (by w_up));have wX:=wU.l6 l.prog w base (wU.F.lJ (k:=0) FX (@BO K C) λhr nd=>bX (fH (qJ (iS AW rfl T.pZ BootT.vd (b9 (pv 0) (b9 (Fp rfl T.MN BootT.int rfl) dI))) (uZ (OJ (by w_up))))));have wY:=pV.l6 l.prog w base (Di pV.F T pW CH2 B2 (by walk_at "l") BP);have B7:=BV.l6 l.prog w base (BV.F.lJ (k:=0) Bw (@Gk K C) λhr nd=>aF (by w_up) (aF (by w_up) (aF (vO eF (by w_up) (aF (AF (i:=1) Bw.nd rfl (Or.inl rfl) cp Fw) (by w_up))) (by w_up))));have uO:=uD.l6 l.prog w base (uD.F.lJ (k:=0) Da (@zU K C) λhr nd=>aF (by w_up) (aF (by w_up) (aF (kh (by w_up) (bX (fH (fU AI (fU u6 (by w_up) (fU Ko cp (fU Fv cp cp))) (fU Fv cp cp)))) gm) (by w_up))));have uP:=uE.l6 l.prog w base (uE.F.lJ (k:=0) lH (@zV K C) λhr nd=>aF (vW (i:=3) IB (ys:=[]) [] rfl lH.nd rfl rfl (mf (pv 2)) trivial (λ_ _ _=>gg (show (IB:List bD).Nodup by decide +kernel)) (λ_ _ _=>lS (by w_up)) (λ_ _ _=>(pv 0))) (aF (kh (by w_up) (aF (xS (i:=4) lH.nd rfl (Or.inr rfl) (iS (EN rfl) rfl T.UX BootT.max (b9 (je IB (ys:=[]) [] rfl (mf (pv 3)) trivial (λ_ _ _=>gg (show (IB:List bD).Nodup by decide +kernel)) (λ_ _ _=>jo) (λ_ _ _=>(by w_up))) dI))) (aF (vW (i:=3) IB (ys:=["_law_most"]) [4] rfl lH.nd rfl rfl (mf (pv 3)) ⟨rfl,.inl rfl,rfl,trivial⟩ (λ_ _ _=>gg (show (["_law_row","_law_most"]:List bD).Nodup by decide +kernel)) (λ_ _ _=>lS (by w_up)) (λ_ _ _=>(pv 0))) (by w_up))) gm) (by w_up)));have ou:=uF.l6 l.prog w base (uF.F.lJ (k:=0) Dc (@zT K C) λhr nd=>aF (by w_up) (by w_up));have iT:=qr.WC l.prog w base Gv Gw (qr.F.lJ (mg:=mg) (k:=0) zG (@wL K C) λhr nd=>aF (by w_up) (bX (Fy (pv 0) (je ["place"] (ys:=[]) [] rfl (by w_up) trivial (λ_ _ _=>gg (show (["place"]:List bD).Nodup by decide +kernel)) (λ_ _ _=>jo) (λ_ _ _=>(by w_up))) rfl)));have zk:=ze.l6 l.prog w base (ze.F.lJ (mg:=mg) (k:=0) IG (@Dl K C) λhr nd=>bX (xV eF rfl (mf (pv 1)) (by w_up) (by w_up)));have uQ:=uJ.l6 l.prog w base (uJ.F.lJ (mg:=mg) (k:=0) Dh (@zM K C ⟨A_Levels,A_Lightest,A_Kept⟩) λhr nd=>bX (fH (by w_up)));have B8:=BS.l6 l.prog w base (BS.F.lJ (k:=1) KL (@Ge K C) λhr nd=>bX (fH (qJ (by w_up) (uZ (HD LX LX cp (pv 0) (LN rfl T.Ei.choose_spec ⟨_,rfl⟩))))));have B9:=BU.l6 l.prog w base (BU.F.lJ (k:=1) KM (@Gb K C) λhr nd=>bX (fH (qJ (by w_up) (uZ (HD LX Hz cp (pv 1) (pv 0))))));have Jc:=IY.l6 l.prog w base (IY.F.lJ (k:=1) Qr (@K0 K C) λhr nd=>bX (fH (iS (tw rfl) rfl T.MP BootT.sum (b9 (je ["a","b","level","in_wood"] (ys:=["n"]) [0] rfl (mf (pv 1)) ⟨rfl,.inl rfl,rfl,trivial⟩ (λ_ _ _=>AE rfl (gL (gg (show (Ms:List bD).Nodup by decide +kernel)) (gL (gg (show (Ms:List bD).Nodup by decide +kernel)) (gL (gg (show (Ms:List bD).Nodup by decide +kernel)) (gL (gg (show (Ms:List bD).Nodup by decide +kernel)) vN))))) (λ_ _ _=>jo) (λ_ _ _=>(by w_up))) dI))));have MM:=MJ.l6 l.prog w base (MJ.F.lJ (k:=1) MD (@NJ K C) λhr nd=>aF (vW (i:=1) C7 (ys:=[]) [] rfl MD.nd rfl rfl (mf (pv 0)) trivial (λ_ _ _=>AE rfl (gL (gg (show (C7:List bD).Nodup by decide +kernel)) (gL (gg (show (C7:List bD).Nodup by decide +kernel)) (gL (gg (show (C7:List bD).Nodup by decide +kernel)) (gL (gg (show (C7:List bD).Nodup by decide +kernel)) vN))))) (λ_ _ _=>lS (OI (LP (pv 3)))) (λ_ _ _=>(pv 3))) (bX (fH (vM (by w_up) (by w_up) (by w_up)))));have Fb:=E8.l6 l.prog w base (E8.F.lJ (k:=1) EZ (@IU K C) λhr nd=>aF (oO EZ.nd (nO cF f9 kg (tq hr.units) (pv 0) (by w_up))) (by w_up));have Jd:=I0.l6 l.prog w base (I0.F.lJ (k:=1) Br (@KW K C) λhr nd=>aF (by w_up) (aF (oO Br.nd (nO cF f9 kg (tq hr.units) (pv 3) (by w_up))) (aF (oO Br.nd (nO cF f9 kg (tq hr.units) (pv 3) (by w_up))) (aF (by w_up) (aF (by w_up) (aF (by w_up) (aF (by w_up) (bX (fH (vM (by w_up) (by w_up) (by w_up)))))))))));have sE:=sj.l6 l.prog w base (sj.F.lJ (k:=1) rk (@yo K C Pt2) λhr nd=>aF (xS (i:=3) rk.nd rfl (Or.inr rfl) (by w_up)) (aF (by w_up) (bX (fH (je ["_law_k"] (ys:=["_law_ties","_law_script"]) [3,0] rfl (by w_up) ⟨rfl,.inl rfl,rfl,⟨rfl,.inl rfl,rfl,trivial⟩⟩ (λ_ _ _=>gg (show (["_law_k","_law_ties","_law_script"]:List bD).Nodup by decide +kernel)) (λ_ _ _=>jo) (λ_ _ _=>fU LY (by w_up) (by w_up)))))));have zl:=zb.l6 l.prog w base (zb.F.lJ (k:=1) IF (@Ds K C) λhr nd=>bX (fH (qJ (by w_up) (qJ (by w_up) (uZ (iS (O6 rfl) rfl T.YG BootT.all (b9 (je ["_law_x"] (ys:=[]) [] rfl (mf (pv 0)) trivial (λ_ _ _=>gg (show (["_law_x"]:List bD).Nodup by decide +kernel)) (λ_ _ _=>jo) (λ_ _ _=>(by w_up))) dI)))))));have zm:=zc.l6 l.prog w base (zc.F.lJ (k:=1) rm (@Dt K C) λhr nd=>aF (xS (i:=2) rm.nd rfl (Or.inr rfl) (Kt dI)) (aF (by w_up) (aF (xS (i:=5) rm.nd rfl (Or.inr rfl) (pcl ou hr.m rfl qS (b9 (by w_up) (b9 (fU Ko cp (fU Fv cp cp)) (by w_up))))) (bX (fH (je ["_law_k"] (ys:=["_law_ties","_law_weights"]) [2,5] rfl (by w_up) ⟨rfl,.inl rfl,rfl,⟨rfl,.inl rfl,rfl,trivial⟩⟩ (λ_ _ _=>gg (show (["_law_k","_law_ties","_law_weights"]:List bD).Nodup by decide +kernel)) (λ_ _ _=>jo) (λ_ _ _=>fU LY (by w_up) (qN (b9 (fU AI (by w_up) (fU Fv cp cp)) dI)))))))));have zq:=zh.l6 l.prog w base (zh.F.lJ (mg:=mg) (k:=1) IJ (@Dp K C) λhr nd=>aF (by w_up) (aF (xV eF rfl (SI rfl T.JP (by w_up)) (by w_up) (bX (kh (by w_up) (bX (mC (nO cF PySem.F.slot_list_extend PySem.F.type_list_extend Ng (pv 1) (b9 (je Bh (ys:=[]) [] rfl (by w_up) trivial (λ_ _ _=>AE rfl (gL (gg (show (Bh:List bD).Nodup by decide +kernel)) (gL (gg (show (Bh:List bD).Nodup by decide +kernel)) vN))) (λ_ _ _=>lS (by w_up)) (λ_ _ _=>(by w_up))) dI)))) gm))) (by w_up)));have n6:=n0.l6 l.prog w base (kF.NS (n0.F.lJ (mg:=mg) (k:=1) nU (@rX K C ⟨A_Levels,A_Lightest,A_Kept⟩ Pt1) λhr nd=>aF (vW (i:=3) ["tie"] (ys:=["level","self"]) [1,0] rfl nU.nd rfl rfl (Uk (by w_up)) ⟨rfl,.inl rfl,rfl,⟨rfl,.inl rfl,rfl,trivial⟩⟩ (λ_ _ _=>gg (show (["tie","level","self"]:List bD).Nodup by decide +kernel)) (λ_ _ _=>lS (by w_up)) (λ_ _ _=>(pv 0))) (bX (fH (pcl vq hr.m rfl qS (b9 (je ["tie"] (ys:=["wooden","self"]) [2,0] rfl (mf (pv 3)) ⟨rfl,.inl rfl,rfl,⟨rfl,.inl rfl,rfl,trivial⟩⟩ (λ_ _ _=>gg (show (["tie","wooden","self"]:List bD).Nodup by decide +kernel)) (λ_ _ _=>lS (by w_up)) (λ_ _ _=>(pv 0))) (by w_up)))))) rW);have zr:=zj.l6 l.prog w base (kF.NS (zj.F.lJ (mg:=mg) (k:=1) IK (@BN K C ⟨A_Levels,A_Lightest,A_Kept⟩) λhr nd=>bX (fH (iS v8 rfl T.sO BootT.AX (b9 (je ["tie"] (ys:=mv) [0] rfl (Uk (by w_up)) ⟨rfl,.inl rfl,rfl,trivial⟩ (λ_ _ _=>gg (show (["tie","self"]:List bD).Nodup by decide +kernel)) (λ_ _ _=>jo) (λ_ _ _=>(by w_up))) dI)))) BM);have oe:=nY.l6 l.prog w base (nY.F.lJ (k:=2) wz (@tR K C) λhr nd=>bX (kh (by w_up) (bX mV) gm));have hZ:=nZ.WC l.prog w base yw yz (nZ.F.lJ (mg:=mg) (k:=2) wA (@tS K C ⟨A_Levels,A_Lightest,A_Kept⟩) λhr nd=>aF (by w_up) (aF (by w_up) (aF (by w_up) (bX (Fy (pv 0) (je ["level"] (ys:=["n"]) [1] rfl (by w_up) ⟨rfl,.inl rfl,rfl,trivial⟩ (λ_ _ _=>gg (show (["level","n"]:List bD).Nodup by decide +kernel)) (λ_ _ _=>jo) (λ_ _ _=>FA iT.m iT.G hr.m rfl T.Tu iT.b .nil qS (by w_up))) rfl)))));have sF:=sA.l6 l.prog w base (sA.F.lJ (mg:=mg) (k:=2) Bz (@ym K C ⟨A_Levels,A_Lightest,A_Kept⟩) λhr nd=>bX (fH (by w_up)));have og:=n5.l6 l.prog w base (n5.F.lJ (k:=2) wB (@tT K C ⟨A_Levels,A_Lightest,A_Kept⟩) λhr nd=>bX (fH (iS (tw rfl) rfl T.MP BootT.sum (b9 (je ["tie"] (ys:=mv) [0] rfl (by w_up) ⟨rfl,.inl rfl,rfl,trivial⟩ (λ_ _ _=>gg (show (["tie","self"]:List bD).Nodup by decide +kernel)) (λ_ _ _=>jo) (λ_ _ _=>(by w_up))) dI))));have nu:=nq.l6 l.prog w base (nq.F.lJ (k:=3) vi (@rS K C) λhr nd=>aF (by w_up) (by w_up));have pY:=wV.l6 l.prog w base (wV.F.lJ (mg:=mg) (k:=3) FY (@BH K C) λhr nd=>aF (by w_up) (bX (fH (Iy rfl rfl T.sO rfl T.YQ (by w_up)))));have zt:=zg.l6 l.prog w base (zg.F.lJ (mg:=mg) (k:=3) II (@Do K C) λhr nd=>aF (by w_up) (by w_up));have pq:=pj.l6 l.prog w base (pj.F.lJ (k:=4) yd (@vn K C) λhr nd=>aF (by w_up) (bX (kh (by w_up) (bX mV) gm)));have uR:=uG.l6 l.prog w base (uG.F.lJ (mg:=mg) (k:=4) De (@zK K C) λhr nd=>aF (by w_up) (by w_up));have lX:=lW.l6 l.prog w base (lW.F.lJ (mg:=mg) (k:=4) rA (@pU K C ⟨A_Levels,A_Lightest,A_Kept⟩) λhr nd=>aF (by w_up) (bX (fH (pcm pY T.GO hr.m (pv 3) qS (b9 (vM (by w_up) (by w_up) (by w_up)) dI)))))
 have mi:X2 l.prog w K mg base Hc 5 A_Kept "__init__" yb (dr K C (⟨A_Levels,A_Lightest,A_Kept⟩:CA)):=⟨hU.f,hU.d,hU.F.lJ (mg:=mg) (k:=4) zH (@wQ K C ⟨A_Levels,A_Lightest,A_Kept⟩) λhr nd=>aF (kh (by w_up) (bX mV) gm) (aF (by w_up) (aF (Fy (pv 0) (FA hZ.m hZ.G hr.m rfl T.NQ hZ.b .nil qS (by w_up)) rfl) (by w_up))),.type "type",g_K,r_K,(by rw [e_K];exact t_K),hU.F.kp,hU.b⟩
 have Fc:=E9.l6 l.prog w base (E9.F.lJ (k:=5) NH (@IV K C) λhr nd=>aF (by w_up) (aF (by w_up) (aF (kh (by w_up) (bX mV) gm) (by w_up))));have sG:=sg.l6 l.prog w base (sg.F.lJ (k:=5) Bt (@yi K C) λhr nd=>aF (by w_up) (aF (by w_up) (aF (kh (by w_up) (bX mV) gm) (by w_up))));have zu:=zf.l6 l.prog w base (zf.F.lJ (mg:=mg) (k:=5) IH (@Dm K C) λhr nd=>aF (by w_up) (aF (kh (by w_up) (bX mV) gm) (by w_up)));have Ca:=BW.l6 l.prog w base (BW.F.lJ (mg:=mg) (k:=5) KQ (@Gd K C) λhr nd=>aF (by w_up) (aF (kh (by w_up) (bX mV) gm) (by w_up)));have sH:=sk.l6 l.prog w base (sk.F.lJ (mg:=mg) (k:=6) Bx (@yj K C ⟨A_Levels,A_Lightest,A_Kept⟩) λhr nd=>aF (by w_up) (by w_up));have uS:=uH.l6 l.prog w base (uH.F.lJ (mg:=mg) (k:=6) Dg (@zN K C ⟨A_Levels,A_Lightest,A_Kept⟩) λhr nd=>aF (Sj (bz (yK (by decide) _) hr.units) (by w_up) (pv 1) cp AO (λ_ _ _=>rfl)) (by w_up));have uT:=uI.l6 l.prog w base (uI.F.lJ (mg:=mg) (k:=6) uu (@zO K C ⟨A_Levels,A_Lightest,A_Kept⟩) λhr nd=>aF (mC (nO qg sX sY (FR hr.units) (by w_up) (by w_up))) (aF (oO uu.nd (nO qg sX sY (FR hr.units) (by w_up) (by w_up))) (bX (kh (O9 (nO qg sX sY (FR hr.units) (by w_up) (by w_up)) (λ_=>rfl)) (by w_up) gm))));have wZ:=wW.l6 l.prog w base (wW.F.lJ (mg:=mg) (k:=7) FZ (@BK K C ⟨A_Levels,A_Lightest,A_Kept⟩) λhr nd=>aF (by w_up) (by w_up));have uU:=uK.l6 l.prog w base (uK.F.lJ (mg:=mg) (k:=7) oi (@zQ K C ⟨A_Levels,A_Lightest,A_Kept⟩ Pt1) λhr nd=>aF (xS (i:=3) oi.nd rfl (Or.inr rfl) (by w_up)) (aF (vW (i:=4) ["other"] (ys:=["side"]) [3] rfl oi.nd rfl rfl (by w_up) ⟨rfl,.inl rfl,rfl,trivial⟩ (λ_ _ _=>gg (show (["other","side"]:List bD).Nodup by decide +kernel)) (λ_ _ _=>lS (by w_up)) (λ_ _ _=>(pv 0))) (by w_up)));have uV:=uL.l6 l.prog w base (uL.F.lJ (mg:=mg) (k:=8) om (@zS K C ⟨A_Levels,A_Lightest,A_Kept⟩ Pt1) λhr nd=>aF (by w_up) (aF (by w_up) (aF (by w_up) (aF (by w_up) (aF (vO eF (by w_up) (aF (by w_up) (aF (oO om.nd (OH (OG (HK (O5 hr.units) (HK (O5 hr.units) (pv 4) (TZ ON cp) (λ_ _=>rfl)) cp (λ_ _=>rfl))))) (bX (AF (i:=2) om.nd rfl (Or.inl rfl) cp RU))))) (by w_up))))));have sI:=sr.l6 l.prog w base (sr.F.lJ (mg:=mg) (k:=8) By (@yk K C ⟨A_Levels,A_Lightest,A_Kept⟩) λhr nd=>aF (tm (pv 0) cp AO) (by w_up));have Cb:=BX.l6 l.prog w base (BX.F.lJ (mg:=mg) (k:=9) KR (@Gi K C ⟨A_Levels,A_Lightest,A_Kept⟩ Pt1) λhr nd=>aF (by w_up) (aF (tm (pv 0) (by w_up) AO) (aF (by w_up) (aF (tm (pv 0) (by w_up) AO) (aF (tm (pv 0) (by w_up) AO) (by w_up))))));have gj:=mB.WC l.prog w base se sf (mB.F.lJ (k:=9) tQ (@qw K C ⟨A_Levels,A_Lightest,A_Kept⟩ Pt1) λhr nd=>aF (mC (pcb mi hr.m (LN rfl T.TB rfl) qS (b9 (pv 0) (b9 (pv 1) dI)))) (by w_up));have zw:=zd.l6 l.prog w base (zd.F.lJ (k:=10) rn (@Du K C ⟨A_Levels,A_Lightest,A_Kept⟩ Pt1) λhr nd=>aF (by w_up) (aF (oO rn.nd (iS (tw rfl) rfl T.MP BootT.sum (b9 (je ["_law_turn"] (ys:=[]) [] rfl (mf (pv 4)) trivial (λ_ _ _=>gg (show (["_law_turn"]:List bD).Nodup by decide +kernel)) (λ_ _ _=>jo) (λ_ _ _=>(by w_up))) dI))) (aF (by w_up) (aF (by w_up) (aF (by w_up) (aF (oO rn.nd (xX Eu rfl T.MN BootT.int (b9 (qJ (by w_up) (uZ (OH (LP (HK (O5 hr.units) (HK (O5 hr.units) (pv 4) (TZ ON cp) (λ_ _=>rfl)) cp (λ_ _=>rfl)))))) dI))) (by w_up)))))));exact MK.F.lJ (k:=11) ME (Th ct) λhr nd=>aF (by w_up) (aF (by w_up) (aF (by w_up) (aF (by w_up) (aF (by w_up) (aF (oO ME.nd (FA gj.m gj.G hr.m rfl T.JN gj.b .nil qS (b9 (pv 3) (b9 (xX FF rfl T.LA BootT.list (by w_up)) dI)))) (aF (by w_up) (aF (by w_up) (aF (by w_up) (aF (by w_up) (aF (xV eF rfl (by w_up) (gg ME.nd) (aF (by w_up) (aF (by w_up) (aF (by w_up) (aF (kh (OI (OG (pv 7))) (by w_up) gm) (bX (AF (i:=8) ME.nd rfl (Or.inl rfl) (xX Eu rfl T.MN BootT.int (by w_up)) Fw))))))) (by w_up)))))))))))
theorem walk {l:qt}{q:bB}{loose:List bD}{XP:(bD->Option aj)->cK->Prop}{YP:ck->cK->Prop}{d dy1 dy2:DefRec}{K:Params->aa}{c1 Pt1 c2 Pt2:ag}(hn:l.most=some 63) (hdf:d.params.defaults=[])
  (hY:∀ (w:ck) (h:cK),YP w h->(K w.params).In h)
  (hrec1:(recsOf q).find? (λe=>e.name == ("in_order":bD))=some dy1) (htab1:∀ w:ck,Rt (K w.params) "in_order"=some (c1,Pt1))
  (hrec2:(recsOf q).find? (λe=>e.name == ("_law_shape":bD))=some dy2) (htab2:∀ w:ck,Rt (K w.params) "_law_shape"=some (c2,Pt2))
  (hnt:∀ w:ck,PySem.W.noTabs (K w.params)=true) (hne:Pt1≠Pt2)
  (F:∀ (w:ck) (mg:bD->Option aj) (fa:ag) (h:cK),(K w.params).In h->h.Ns bM mg->mg d.name=some (.ref fa) ->
   ∃ fd:fz,(∀ (s:ax) (u:aj),GT s fd ⟨[u],[]⟩ [("_law_script",u)])/\∀ base:cK,(K w.params).In base->base.Ns bM mg->ic base c1 Pt1->base.BuiltinsAt mg Pt1->ic base c2 Pt2->base.BuiltinsAt mg Pt2->kF l.prog w (K w.params) mg base Hc 12 fa fd My (BQ (K w.params) Pt1 Pt2)) :
  Rj q loose XP YP l.row.toRowW d [] (λf vs=>Rk f vs):=by
 have m1:(c1,Pt1)∈[(c1,Pt1),(c2,Pt2)]:=aw;have m2:(c2,Pt2)∈[(c1,Pt1),(c2,Pt2)]:=ai _ aw;refine L2.PL (n:=63) (k:=12) (x:="_law_script") (Ps:=[(c1,Pt1),(c2,Pt2)]) (sp:=λw=>BQ (K w.params) Pt1 Pt2) hn (by decide) hdf ⟨rfl,by decide,by decide⟩ hY (λp hp=>?_) hnt (λw mg fa h a b c=>?_) (λ_ _ a ns hl hT hS=>⟨a,ns,rfl,hS,hl,hne,.inl (hT _ m1),.inl (hT _ m2),λ_=>rfl⟩) λ_ _ _ _ z=>z
 .rcases au.mp hp with e|hp
  .subst e;exact ⟨_,dy1,hrec1,htab1⟩
  .rw [aC.mp hp];exact ⟨_,dy2,hrec2,htab2⟩
 .obtain ⟨fd,q1,q2⟩:=F w mg fa h a b c;exact ⟨fd,q1,λbase i1 i2 hP=>q2 base i1 i2 (hP _ m1).1 (hP _ m1).2 (hP _ m2).1 (hP _ m2).2⟩
end K64
end
end
local macro_rules | `(tactic| walk_at "b1")=>`(tactic| exact λ_ _ _ _ _ _=>L2.m1 λ_=>rfl)
local macro_rules | `(tactic| walk_at "b2")=>`(tactic| exact λ_ _ _ _ _ _=>L2.m2 λ_ _=>rfl)
local macro_rules | `(tactic| walk_at "b3")=>`(tactic| exact λ_ _ _ _ _ _=>L2.m3 λ_ _ _=>rfl)
local macro_rules | `(tactic| walk_at "b4")=>`(tactic| exact λ_ _ _ _ _ _=>L2.m4 λ_ _ _ _=>rfl)
local macro_rules | `(tactic| walk_at "b5")=>`(tactic| exact λ_ _ _ _ _ _ us hl=>match us,hl with|[_,_,_,_,_],_=>rfl)
structure PySem.W.Fast:Prop where(tw12203351590642457343 tw1408885890607062874 tw16180523367130642973 tw8551898463592291087 tw15876716399648412633 tw8698659978742992428 tw13344095896462994197 tw10448712220598367986 tw2879884030302021118 tw4312707703929579002 tw10301089034746867227 tw7425316501876744983 tw15199587521490013702 tw946962755832373137 tw2604199364396601784 tw11119585999223886682 tw17611969586858905818 tw7917821448087874451 tw16810410817149961185 tw11602868437191664482 tw68419523035061048 tw16397884436900189743 tw13917192116165352905 tw13627095393076609730 tw10538311732268097594 tw15629238419598124302 tw11848161557787586110 tw7062923361595250066 tw9459201583862971124 tw15688858202473239269 tw5914192841944747181 tw8065685572402931148 tw11366236787430699632 tw14073400848038794184 tw12454315526534003929 tw17111150764216267219 tw3955154126189980577 tw6801794759245549332 tw8173895839911745346 tw10684704368284649128 tw3916783726409780134 tw6757404862132922567 tw6020395492066779668 tw5382552970060075164 tw12608034113422564023 tw16510618214300933972 tw5701677863593960079 tw13101898690741098823 tw9478642283740807055 tw4300079900964040855 tw11056755563581160047 tw6122935344899381124 tw11367801290232912738 tw8942735373054324366 tw11072458823213839640 tw12872589776057459920 tw3059726606067257921 tw15805880375489664364 tw10196183528743734807 tw1187064128621128358 tw4520664724842176541 tw159436797966836987 tw4983043784123762223 tw4466954926976858748 tw4149552931941130343 tw13158890995919473766 tw4009019191749181448 tw1842727418606731687 tw14072952924925768795 tw3856731598041085506 tw3813164064505458500 tw6405219346934602647 tw15032772287573345096 tw12280846611183736279 tw11788332082396327255 tw12225247246071902713 tw14017551658182860575 tw5806303962626271905 tw10428224865780930657 tw17454245533147554185 tw319819088914129594 tw14462113054456750237 tw2341046814386668454 tw14505818618072971502 tw7831675814884234658 tw18240543773736540173 tw14969599781205599411 tw7380495164356498155 tw13017006080044421251 tw11363934686310187055 tw15619203641908547893 tw5576264102766238825 tw15651040605610545507 tw10110440177146413202 tw8646042312147547651 tw12840705829207022741 tw603174698935966329 tw979381168480678603 tw16805873076610782211 tw8978826656719736819 tw10407876171781502780 tw2222011343511350654 tw9036174359448868528 tw1589539518196938089 tw10267326325517985252 tw18398320407355285294 tw2792005450079818900 tw2065708850536323602 tw10880830032792298877 tw11846046589069816507 tw15973921337698777902 tw7082396434843869739 tw4270043108216548558 tw9625689369497347829 tw417104276955694013 tw7668121326916509662 tw15007827646707326454 tw9465045103300809550 tw8179171366391325140 tw5670370414938769908 tw17102573786530218011 tw382035142242911197 tw1958941530449478076 tw17034691243877521644 tw12754217481989480619 tw5206428745353293525 tw2686730138384728005 tw9866885441661689741 tw4098106970218110529 tw15359696833652437925 tw16609071234730324328 tw2555195744182584202 tw7100709217867901736 tw13233775789646016084 tw14358322072672572083 tw2428751407197413699 tw12134591881235842036 tw541251278483895653 tw15640885779169419588 tw17484053002553392910 tw12843369503085854977 tw8587220386918370719 tw18373082058950365067 tw2438103066562766018 tw12582071376234791034 tw11445805737092181969 tw11957031911588027467 tw6339772673318928402 tw11433848854488032894 tw15980120380311599476 tw2836263717913736793 tw2018334377993226980 tw5521405793391750915 tw15535915556291885841 tw4238741757015889372 tw5217278628394326607 tw16566631806279569739 tw14821756769447256643 tw8068742161785343374 tw11805458163712617574 tw17186734840506072271 tw6652889530920896613 tw3565043038850951506 tw957937740466636806 tw14421965818264859865 tw6413659541512147171 tw3597194060866121371 tw6803984933130878089 tw6235342286843564557 tw964881581923548836 tw6720004931543958873 tw9922519728178512500 tw1528196137642063716 tw2443921993612571976 tw9239180598805359519 tw10742960630734033942 tw14320330202385737530 tw18272199174869473079 tw8001960471837704135 tw8507544811102496287 tw12831109877554061546 tw10675273357014264728 tw9413130343912941774 tw8627023795860303436 tw7573356876213036470 tw3251819701750225010 tw5213899692711928034 tw9071058683647915280 tw11351610491691191744 tw419482487487328172 tw13061490429305677956 tw11603752045193569492 tw3500963256377453728 tw9451905631327061340 tw13551438026455857237 tw18446513592738890775 tw2085706471190898327 tw11816596006021712591 tw1535175036062093501 tw12914774165227305019 tw6488922018005230615 tw2588373957088611369 tw17292989158734580841 tw7411356544457519152 tw11359599178242887354 tw10674912908779406800 tw10839471118514766229 tw3284877022842308627 tw7277830713092059274 tw8988805789943803769 tw5230359400554040946 tw4831506056690427731 tw15119146337200261233 tw17836879757896248817 tw955964314398035589 tw6454295039522949523 tw17345954736503752821 tw16690539994340454673 tw14040356184865612333 tw8291923136652895966 tw6737378540469345539 tw573055354044851684 tw5819899769633174532 tw14465821107101938994 tw5553019569146467373 tw1902303855223618157 tw15721852755479692523 tw1919292472284547409 tw6228342369711591206 tw16259663084486312164 tw5074081330884169352 tw10931513734766210933 tw917979209800454941 tw12095421840392222329 tw5394653816677420 tw2241503844200254010 tw12940969557544995612 tw15098842315653472327 tw2307744305925816181 tw8705536737824980122 tw154798603742034020 tw2240414040151864831 tw11709472954788739370 tw13638496376791243484 tw3186629918643157668 tw16276741850463525935 tw12261474085337498247 tw1613687051263961385 tw3210017394290380243 tw2040633714748546429 tw12241916153647074068 tw493491005209566752 tw12369465729940414211 tw8972226943728788815 tw11298106766940365663 tw8170255036671654892 tw8977968783616866360 tw555133972705145134 tw9666851385064408804 tw16754790360641694806 tw4778217553300694268 tw931945492954316519 tw1378036044376247871 tw2207293060808379801 tw12322658400343244245 tw9150411737128376506 tw13317773456049627155 tw1010288233616716268 tw9514413390205706251 tw17213512933789635646 tw3880120635401436105 tw11054694262389739305 tw11084124882510908818 tw3455495350620652110 tw8566931556443075587 tw5796816837829938209 tw1385483971007021210 tw2446283873554106184 tw13930298359022921015 tw10737094907340021691 tw12195725234272291541 tw16108219167182990336 tw8627613251560953935 tw7142200939667681834 tw18197089128856475231 tw10274737887328695228 tw8451572165853537699 tw15416472991591835248 tw10464467556479563505 tw3441871961486996637 tw851402215100892688 tw14453389937811032899 tw12229319926520231506 tw18133595956228471648 tw14285698306238988811 tw3516613139266033543 tw13741888304564657276 tw9273289665339980842 tw6159256420196091453 tw16161423860543105654 tw16475769009875675710 tw15838916474669801835 tw8876993274260029951 tw3824846719656875750 tw10952039809824984201 tw3058468042092346697 tw1854229635649133902 tw17571993578229145264 tw8853388412592902573 tw9152756157542164105 tw3978381361018243741 tw3443434176125502941 tw8266797717565939458 tw8936681291688732139 tw4946742077281708842 tw1916359510758718798 tw11878924433666844211 tw1353745137747882693 tw8849655314918097604 tw1311401514159029677 tw8811636578706837643 tw4785544636723323993 tw3134255270525673274 tw12685201825137452593 tw3742358593864318520 tw12790710778186306714 tw16371142449996258092 tw9193639163054948330 tw13072871440664115848 tw9621683429244863478 tw8471011889110190677 tw7077379002666302286 tw16586652036493862718 tw3902816050666116549 tw13971855677807396438 tw18289048841752750799 tw3368535345862037080 tw5541520856777167337 tw15181676866530671880 tw16247098566573536547 tw17244414994390042877 tw3532724043455780629 tw17895180684460514819 tw17989402866931594530 tw17478581592712965755 tw7668029297545350972 tw11167472191726246170 tw12857749668067274956 tw543711258641184876 tw18376111636137947575 tw12169986005852849810 tw14445665696214055998 tw1695980959004693931 tw1633755095392788321 tw17135057845670675367 tw730430752636279859 tw14367154915150044805 tw4100672785880935831 tw10857349526913990047 tw6341772297777053722 tw9528096387390349596 tw10366977532838842568 tw9927194091769114085 tw9747263977808586120 tw14107417342649075700 tw9535394740591359836 tw15039566595259398609 tw17426446951382420738 tw12557662331055570394 tw1753958254217655368 tw8492864079609885369 tw7110185845952707565 tw10635177324349240939 tw7236600812586542736 tw1654658575536695655 tw2285363167864565176 tw2256253774552416305 tw9022009733123206676 tw16504313004474373387 tw14964581525526434196 tw16305218549005733416 tw2059528357128113850 tw14498664603588751533 tw15365066387212769155 tw7759772986033271610 tw11066095298477744045 tw6872751528065414950 tw85996672484262017 tw16654763998614342307 tw4229808516274735131 tw17642484812179076662 tw174889443777854547 tw4779785489610117466 tw2153619081540952942 tw9036591410885699448 tw912086368361461915 tw6207393443913772711 tw1139740920358777113 tw16635290056201040552 tw15808350973328392096 tw11670103018049604767 tw5603667285150360477 tw635631961901862018 tw8466440210820260642 tw1193761703640139263 tw16281928653277599700 tw8490077332803637760 tw10463443350841997789 tw6028950769522645843 tw8076816812049958073 tw874024063176911957 tw4911029097506151998 tw14115168354229907390 tw3731821623575500930 tw2421752938152064618 tw5492469183763076783 tw14418193058850293431 tw7204518908523795670 tw13446924560220860356 tw7990223547723803707 tw8225015770550288035 tw2979426687286829496 tw11919435609466653199 tw3477080969149650344 tw1159976229890578962 tw16990835435177462043 tw16586390318694027960 tw12914360929277519840 tw6414840626385659415 tw11380503711132752680 tw12694687396948008243 tw14052512563725583893 tw5742331476694013731 tw6686214601502462381 tw14813886466517320651 tw2719043355217679996 tw14283952832009873051 tw11933661729013251278 tw10962210947273359138 tw8725149158545006860 tw13138698389594304369 tw5645300417219819980 tw5841410946796342394 tw7423919708317012892 tw13076436935925271025 tw11467752652040661017 tw11099374981277181554 tw2596096468995019537 tw11283221671929936303 tw16375742390445020237 tw387575214821073879 tw2229415863087628368 tw6029196839874388853 tw6472633490892468841 tw12639341873288019154 tw11308955803971621439 tw3927350576061422228 tw6480627260690371739 tw6159630814524645514 tw13632285113023704186 tw15882344092203632596 tw3620121236432070530 tw3417935327874766066 tw7288384322532636890 tw13726203837059994856 tw14567299677068886721 tw16217584022032551730 tw16637078999171050675 tw8602296813313778242 tw14651388811669945954 tw321303417992744234 tw1607435608653898818 tw12466772830364071940 tw2197244196678141502 tw6277529339823727953 tw16994326889395428729 tw7503212221859090770 tw4171416181350940568 tw412265211866817760 tw4377852396258772418 tw16340170226765812039 tw12080007521875315021 tw11368887988749228988 tw9022486755553783100 tw18308283936705027072 tw16991154874784043215 tw4474835882240966906 tw6346488633576622579 tw11319682793773513261 tw280321776725168121 tw16657722061364581849 tw2478060491785998159 tw15211955154695319804 tw13579081663857784679 tw13386115218990770019 tw2091831216317458701 tw5891566150408669091 tw234980879439401375 tw4878531338412414036 tw7413878715418124170 tw12246713222759995304 tw6672548114882678386 tw13123888597366761100 tw17442852952480034158 tw6401305044573217548 tw69869491415982133 tw18171318835421402943 tw1067645040726351487 tw7094744849774571449 tw4947653418634422249 tw6386809531009737692 tw3336904702964590222 tw4481021179452352904 tw12030756946671362692 tw13389273869218481721 tw11369026266798097465 tw11142293278123296486 tw16567650640953949241 tw2869350491724309436 tw2648599438864283778 tw2643547773402846765 tw2714190515293176406 tw9563203705648855076 tw10244471531972151749:True)
open PySem PySem.W PyProof.Rows
theorem PySem.Challenge.cw_tiewood_k64_whole_all_taken_out_holds : PySem.Challenge.rw_tiewood_k64_whole_all_taken_out.Holds := by
  w_on;o_law;k_head;(case hw=>w_witness2)
  k_fill
  refine' K64.walk (l:=PySem.Challenge.rw_tiewood_k64_whole_all_taken_out) rfl rfl (λw h Y=>PySem.W.km_in_of Y) ?hrec1 ?htab1 ?hrec2 ?htab2 ?hnt ?hne ?F
  case hrec1=>exact rfl
  case htab1=>intro w;exact rfl
  case hrec2=>exact rfl
  case htab2=>intro w;exact rfl
  case hnt=>intro w;exact rfl
  case hne=>decide
  case F =>
    intro w mg fa h KX G hmg;refine' K64.Wv KX G hmg ?Gp ?Gq ?Gr ?Gs ?Gu ?Gv ?Gw ?sR ?lY ?yp ?yq ?yr ?yt ?yu ?yw ?yz ?ib ?gN ?iW ?jw ?rY ?rZ ?r0 ?r9 ?sd ?se ?sf ?iX ?h9 ?ia ?iU ?kH ?iF ?iV ?Gx (L2.ve KX G ?K7 ?K8 ?BZ ?K9 (by walk_at "b1")) (L2.ve KX G ?La ?Lb ?B8 ?Lc (by walk_at "b1")) (L2.ve KX G ?Ld ?Le ?B9 ?Lg (by walk_at "b2")) (L2.ve KX G ?Yz ?YA ?US ?YB (by walk_at "b1")) (L2.ve KX G ?QQ ?QR ?Ja ?QS (by walk_at "b2")) (L2.ve KX G ?QU ?QV ?Jc ?QW (by walk_at "b2")) (L2.ve KX G ?Tj ?Tn ?ML ?To (by walk_at "b1")) (L2.ve KX G ?Tp ?Tq ?MM ?Ts (by walk_at "b1")) (L2.ve KX G ?Dx ?Dy ?uM ?Dz (by walk_at "b1")) (L2.ve KX G ?QX ?QY ?Jb ?QZ (by walk_at "b2")) (L2.ve KX G ?NK ?NL ?Fb ?NM (by walk_at "b4")) (L2.ve KX G ?Q0 ?Q1 ?Jd ?Q2 (by walk_at "b3")) (L2.ve KX G ?w6 ?xa ?oe ?xc (by walk_at "b2")) (L2.ve KX G ?vt ?vv ?nu ?vw (by walk_at "b3")) (L2.ve KX G ?yA ?yB ?pq ?yC (by walk_at "b3")) (L2.ve KX G ?Lh ?Li ?vq ?Lj (by walk_at "b2")) (L2.ve KX G ?DA ?DB ?uN ?DC (by walk_at "b2")) (L2.ve KX G ?NN ?NO ?Fc ?NP (by walk_at "b4")) (L2.ve KX G ?Cc ?Cd ?sG ?Ce (by walk_at "b4")) (L2.ve KX G ?Cg ?Ci ?sD ?Cj (by walk_at "b2")) (L2.ve KX G ?GA ?GB ?wX ?GC (by walk_at "b1")) (L2.ve KX G ?GD ?GE ?wY ?GF (by walk_at "b2")) (L2.ve KX G ?Lk ?Ll ?B7 ?Lm (by walk_at "b1")) (L2.ve KX G ?DD ?DE ?uO ?DF (by walk_at "b2")) (L2.ve KX G ?Ck ?Cm ?sE ?Cn (by walk_at "b3")) (L2.ve KX G ?DG ?DH ?uP ?DI (by walk_at "b3")) (L2.ve KX G ?Je ?Jg ?zl ?Ji (by walk_at "b1")) (L2.ve KX G ?DJ ?DK ?ou ?DL (by walk_at "b3")) (L2.ve KX G ?Jj ?Jk ?zm ?Jl (by walk_at "b2")) (L2.ve KX G ?Jm ?Jo ?zw ?Jp (by walk_at "b4")) (L2.ve KX G ?YC ?YD ?YE ?YF (by walk_at "b1")) (L2.zE ?zW ?zX ?zY ?iT ?zZ (by walk_at "b2")) (L2.zE ?Jq ?Jr ?Js ?zk ?Jt (by walk_at "b2")) (L2.zE ?Ju ?Jw ?Jx ?zu ?Jy (by walk_at "b3")) (L2.zE ?Lo ?Lp ?Lq ?Ca ?Lr (by walk_at "b3")) (L2.zE ?DM ?DN ?DO ?uR ?DP (by walk_at "b3")) (L2.zE ?GG ?GH ?GI ?pY ?GJ (by walk_at "b2")) (L2.zE ?Jz ?JA ?JB ?zt ?JC (by walk_at "b2")) (L2.zE ?JD ?JE ?JF ?zq ?JG (by walk_at "b1")) (L2.zE ?xf ?xg ?xh ?hZ ?xi (by walk_at "b2")) (L2.zE ?GK ?GL ?GM ?wZ ?GN (by walk_at "b3")) (L2.zE ?Co ?Cp ?Cq ?sH ?Cr (by walk_at "b2")) (L2.zE ?DQ ?DR ?DS ?uS ?DT (by walk_at "b2")) (L2.zE ?DU ?DV ?DW ?uT ?DX (by walk_at "b2")) (L2.zE ?xj ?xk ?xm ?n6 ?xn (by walk_at "b3")) (L2.zE ?DY ?DZ ?D0 ?uQ ?D5 (by walk_at "b2")) (L2.zE ?sJ ?sL ?sM ?lX ?sN (by walk_at "b3")) (L2.zE ?D6 ?D7 ?D8 ?uU ?D9 (by walk_at "b3")) (L2.zE ?Ea ?Eb ?Ec ?uV ?Ee (by walk_at "b2")) (L2.zE ?z6 ?z7 ?z8 ?mi ?z9 (by walk_at "b2")) (L2.zE ?Cs ?Ct ?Cu ?sI ?Cv (by walk_at "b3")) (L2.zE ?Ls ?Lu ?Lw ?Cb ?Lx (by walk_at "b3")) (L2.zE ?JH ?JI ?JJ ?zr ?JK (by walk_at "b1")) (L2.zE ?Cw ?Cy ?Cz ?sF ?CB (by walk_at "b1")) (L2.zE ?tU ?tV ?tW ?gj ?tX (by walk_at "b3")) (L2.zE ?xo ?xp ?xq ?og ?xr (by walk_at "b1")) ?e_K ?g_K ?r_K ?t_K ?vp ?pW ?QI ?K5 ?sC ?QJ ?pX ?QK ?K6 ?QL ?QM ?Gy ?QN ?BY ?QO ?Gz ?QP ?oq
    case Gp|Gq|Gr|Gs|Gu|Gv|Gw|sR|lY|yp|yq|yr|yt|yu|yw|yz|ib|gN|iW|jw|rY|rZ|r0|r9|sd|se|sf|iX|h9|ia|iU|kH|iF|iV|Gx|K7|K8|BZ|K9|La|Lb|B8|Lc|Ld|Le|B9|Lg|Yz|YA|US|YB|QQ|QR|Ja|QS|QU|QV|Jc|QW|Tj|Tn|ML|To|Tp|Tq|MM|Ts|Dx|Dy|uM|Dz|QX|QY|Jb|QZ|NK|NL|Fb|NM|Q0|Q1|Jd|Q2|w6|xa|oe|xc|vt|vv|nu|vw|yA|yB|pq|yC|Lh|Li|vq|Lj|DA|DB|uN|DC|NN|NO|Fc|NP|Cc|Cd|sG|Ce|Cg|Ci|sD|Cj|GA|GB|wX|GC|GD|GE|wY|GF|Lk|Ll|B7|Lm|DD|DE|uO|DF|Ck|Cm|sE|Cn|DG|DH|uP|DI|Je|Jg|zl|Ji|DJ|DK|ou|DL|Jj|Jk|zm|Jl|Jm|Jo|zw|Jp|YC|YD|YE|YF|zW|zX|zY|iT|zZ|Jq|Jr|Js|zk|Jt|Ju|Jw|Jx|zu|Jy|Lo|Lp|Lq|Ca|Lr|DM|DN|DO|uR|DP|GG|GH|GI|pY|GJ|Jz|JA|JB|zt|JC|JD|JE|JF|zq|JG|xf|xg|xh|hZ|xi|GK|GL|GM|wZ|GN|Co|Cp|Cq|sH|Cr|DQ|DR|DS|uS|DT|DU|DV|DW|uT|DX|xj|xk|xm|n6|xn|DY|DZ|D0|uQ|D5|sJ|sL|sM|lX|sN|D6|D7|D8|uU|D9|Ea|Eb|Ec|uV|Ee|z6|z7|z8|mi|z9|Cs|Ct|Cu|sI|Cv|Ls|Lu|Lw|Cb|Lx|JH|JI|JJ|zr|JK|Cw|Cy|Cz|sF|CB|tU|tV|tW|gj|tX|xo|xp|xq|og|xr=>k_is
    case e_K|vp|pW=>exact rfl
    case g_K|r_K|t_K|QI|K5|sC|QJ|pX|QK|K6|QL|QM|Gy|QN|BY|QO|Gz|QP|oq=>k_is
