import PyProof.Rows.All
import Wide.All
import OpenK.AllK
import Wide.FinOn
import Lean
import PyProof.EqAt
import PyProof.EqKinds
import PyProof.TupleCall
import KE.KMinKey
import KE.KLam
import PyProof.Rows.CallKwBuiltin
import PyProof.Rows.Range3
import PyProof.Rows.SeqMore2
import PyProof.SeqI3
import KE.KSortTup
import PyProof.ZipIter
import KE.KItemsList
import KE.KDictList
import KE.KRevIter
import PyProof.Rows.SetFrom
import PyProof.EnumMake
import PyProof.EnumStmt
import PyProof.EnumFor
import KE.KTryMore
import KE.KTryOn
import KE.KSortKey
import PyProof.ListRange
import PyProof.Rows.SumAny
import KE.KSortTup
import PySem.Challenge.RW_tiewood_k40_whole_keeper_by_the_letter
set_option Elab.async false
set_option linter.all false
set_option maxRecDepth 100000
set_option maxHeartbeats 0
open PySem.W renaming Frag->aa,findIn->bJ,mg_none_of->cQ,nsIn->dj,keepIn->eV,kia_one->eY,emptyDict->fA,instObj->iB,fnOf->iD,plainGet->iS,hasDictIn->jy,makesIn->kD,plainOver->lA,kitOne->lB,CodeHd->mX,codeIn->nZ,mg_of->pT,OpenLaw->qC,isFn->qJ,lookIn->tE,plainGet_of->vh,callWith_K->xn,kla_obj->xo,methodObj->yz,takerIn->CP,kat_cons->Hn,kat_yes->Ho,cellsFrom_some->JZ,tabObj->J0,methodCall_KW->Kb,kitx_list->OY,kitx_dict->OZ,handedIn->Sd,WalkO->Se
open PySem renaming wpAny_bind->ae,Addr->ai,Value->ak,wpAny_pure->ar,Shared->aA,wpAny->aO,model->aR,sizeLine->aY,Str->bF,Program->bI,starEach->bL,mainGlobals->bV,World->cC,rawInt->cD,wpAny_holding->cJ,Heap->cR,Around->cT,wpAny_call_entry->de,wpAny_newObj_type->df,compareOp->dw,bootBuiltins->dE,Stmt->dP,wpAny_mono->dQ,wpAny_callSpecial?_slot->d8,wpAny_Call_Name_kw->eE,eval->fz,codeAny_builtin->gB,FuncData->gG,plainId_quiet->gP,wpAny_rule->ib,backTo->iA,wpAny_attempt->iC,wpAny_askSetting->iE,sysModules->iH,builtinLookup_eq_fast->iJ,cLine->iQ,wpAny_ite_split->iX,wpAny_setState_of->iZ,pyNext->je,Builtin->jt,Obj->jv,wpAny_setField->jw,wpAny_typeNameOfWhole_keyiter->jJ,codeAny->jO,tupleKind_room_in1->jP,wpAny_passesOwn->jT,wpAny_updateSeq->jU,behindInMarks->jV,wpAny_truthy_bool->kb,mem_of_lookup->kj,tupleKind->kY,holding->kZ,wpAny_isInstance->lg,wpAny_setEntries_of->lD,wpAny_typeNameOf_keyiter->lP,SetTable->lQ,typeLookup_type->lW,NameKind->mR,intKind->mT,codeAny_mono->mU,wpAny_dictEntries->mY,wpAny_fieldsOf->mZ,firstArgMember->m5,assignEach->nY,wpAny_loadName_local->oQ,sizeLine_eq->oR,sliceBounds->oS,wpAny_specialOf->pS,Arguments->qB,Scope->qH,foldedSetIterable->sJ,keywordEach->sL,valueAt->sN,wpAny_field->sO,wpAny_standAt->tD,attributeBase->tF,IsPair->tJ,wpAny_newList->tM,binaryOp->vg,updateSeq->vi,relayAll->vj,scanBound->vk,wpAny_Name->xk,standAt->xm,wpAny_nextOf_list_item->xp,Pos->xu,wpAny_execs_nil->xB,letOwnedTupleGo->xC,GenState->zZ,recursionLimit->z4,wpAny_pyIter_keyiter->z6,ZipApart->z7,wpAny_newTuple->z8,isSubtype_stop->z9,isSubtype_type->Ab,codeAny_extend_loopS->Ac,revObj->Ad,layNew->Ae,swapsWith->Ar,inplaceOp->As,getMethod->Au,pickOrder->Av,seqItems?->Aw,rule->CO,wpAny_load->Eh,typeLookup->Ei,setsByText->El,Operator->Ha,BindsTo->Hb,bindArgs->Hc,backToKw->Hd,atKey->He,callerA->Hg,wpAny_typeOf->Hi,wpAny_pyIter_slot->Hj,collect->Hk,fits_of_scanBound->Hl,Env->JW,assign->JX,Result->JY,Fin->Kd,wpAny_letGo->Kg,wpAny_of_eq->Kh,Within->Mh,wpAny_dictEpoch->Mj,setNext->Nv,pyIter->OE,wpAny_call->OF,wpAny_runValue->OJ,slotArgs->ON,setEntries->OO,assignInOrder->Sb,call->Sg,wpAny_handled->Si,bindL->Sz,bindC->SB,Sem->Uz,spliced->UA,Keyword->UB,newExc->UE,ItemsOf->UF,wpAny_isTrue_Compare1->VT,wpAny_nextOf_list_end->VY,wpAny_notOrdered_dict->V0,wpAny_isOneOf_keyiter->V1,bindName->XQ,callWith->XR,seqIndex_of->XS,wpAny_newFunctionEnv->XT,wpAny_throw->XW,intItems->X3,Tok->Yj,wpAny_loadName_cell->Yk,wpAny_loadName_free->Yl,wpAny_Tuple_spliced->Ym
open List renaming length_map->af,mem_cons_of_mem->ag,mem_cons_self->aj,getElem?_eq_some_iff->av,mem_cons->aw,mem_singleton->ax,getElem?_eq_getElem->aB,getElem?_map->aG,map_append->aH,mem_map->aI,mem_append->aL,mem_map_of_mem->aN,mem_of_getElem?->aP,size_toArray->aQ,map_cons->aZ,map_map->a7,length_append->bj,nodup_cons->bq,take_of_length_le->bu,mem_filter->bB,mem_append_right->bC,mem_iff_getElem?->bE,length_take->bG,length_cons->bR,pairwise_map->bY,length_filter_le->b0,filter_append->cb,take_add_one->cH,append_assoc->cI,length->cK,getLast?_append->cM,lookup_cons->cP,length_drop->cW,not_mem_nil->cX,getElem?_eq_none->dm,take_append_drop->dr,nodup_append->du,mem_append_left->d5,getElem?_append_right->d7,getElem?_append_left->eI,lookup->eU,range->fh,count_eq_zero->fi,map_congr_left->fH,filter_sublist->fI,drop_eq_getElem_cons->fU,perm_append_comm->fV,eq_nil_or_concat->fW,concat_eq_append->fX,filter_cons->gj,idxOf_lt_length_iff->gF,pairwise_append->gK,count_append->gQ,append_nil->gY,length_range->iK,mem_range->i5,eq_nil_of_length_eq_zero->jk,zip_cons_cons->ju,filter_map->jz,mem_of_mem_head?->jK,count_cons_self->jX,getElem_mem->kd,pairwise_iff_getElem->km,map_take->kF,length_nil->k8,find?_cons->lb,getElem?_take->lj,append_of_mem->lp,getLast?_cons->lu,getElem?_cons_zero->lC,getElem?_set_self->lU,drop_of_length_le->lV,ext_getElem?->lX,getElem_cons_drop->lY,length_pos_of_mem->l6,filter_congr->l8,filter_eq_self->n5,mem_filterMap->oV,replicate->oW,getElem?_drop->oY,filter_filter->oZ,getElem?_zip_eq_some->pY,reverse_perm->ql,map_drop->qD,pairwise_singleton->qK,map_nil->sM,append_eq_nil_iff->sS,append_inj_right'->sT,of_mem_zip->tG,forIn_cons->tI,length_zip->tK,count_cons->tN,length_replicate->uD,getElem?_zipWith->uF,getElem?_toArray->uG,getElem?_set_ne->vn,nodup_nil->vq,drop_eq_nil_iff->vz,filterMap_cons->xA,sum_cons->yC,getElem_idxOf->zt,count_pos_iff->zu,map_singleton->zw,cons_append->CZ,perm_middle->C2,any_eq_true->C5,drop_zero->Hu,forIn_nil->Hv,nodup_iff_pairwise_ne->Hz,mem_of_find?_eq_some->J1,getElem?_eq_none_iff->J2,any_cons->Kc,length_erase_of_mem->Kj,sublist_append_left->Kk,getElem?_replicate->Mi,getElem?_cons_succ->Ml,eraseIdx_cons_succ->Mm,pairwise_lt_range->Nt,any_map->Nz,length_singleton->OG,countP_mono_left->OI,singleton_append->OQ,length_eraseIdx->O3,mem_iff_getElem->O4,nodup_iff_count->O5,length_reverse->Sj,length_pos_iff->Sn,find?_eq_none->SD,reverse_cons->UD,drop_sublist->UR,all_eq_true->VW,countP_cons->VX,take_length->V3,map_snd_zip->V4,take_append->V5,nodup_range->V7,find?_some->XU,foldl_cons->X7,head?_cons->X9,idxOf_cons->Ya,filter_nil->Yc,take_succ->Yp,drop_drop->Yq,map->Ys
open PySem.Heap renaming get?_push_of_some->ao,lt_size->aJ,get?_push_size->aM,get?_update_other->bh,get?_update_self->bD,size_push->gI,SameBut->ia,size_update->qL,get?_none_of_le->OX,ExtBut->O1
open Nat renaming le_refl->ay,zero_le->aK,ne_of_lt->bg,lt_of_lt_of_le->br,le_trans->bw,lt_of_le_of_lt->bx,ne_of_gt->dG,lt_irrefl->e9,le_succ->gN,lt_succ_self->ip,le_add_right->iq,le_of_lt->kh,le_of_eq->ki,lt_succ_of_lt->mC,le_of_not_lt->mV,mul_le_mul_right->nV,succ_le_succ->sA,min_eq_left->uE,add_le_add_left->yB,min_eq_right->Ej,lt_trans->OH,add_comm->OR,pow_succ->OS,pow_le_pow_right->So,le_zero->Sq,pos_of_ne_zero->UK,le_succ_of_le->VZ,min_le_left->Yn
open PySem.Value renaming ref->aD,type->dD,none->dZ,int->gO,str->qI,bool->sk,float->OD,isStrOf->Yi
open Array renaming length_toList->aS,getElem?_eq_getElem->cg,getElem?_eq_some_iff->cE,getElem?_toList->dk,perm_iff_toList_perm->fF,toList_append->hU,size_push->iG,getElem?_eq_none->ji,toList_inj->j8,toList_map->mH,reverse_append->m9,size_append->pZ,append_assoc->yA,toList_push->Aa,toList_zip->CQ,getElem?_reverse->Mo,reverse_reverse->Nw,forIn_toList->Sh,getD->Sk
open PyProof.Rows renaming wpS_bind->aU,Keyed->aW,wpS_pure->bo,seqObj->cz,pendingOf->cL,callWith_type1->dI,SortSt->dM,IntsAre->eX,wpS_forRange->fT,wpS_modify->iI,failedOf->i4,SortKind->jx,listUpdate_at->jW,get?_update_seq->lZ,elem'->mE,arrOf->m7,wpS_mono->m8,wpS_get->qk,minRun'->sR,envOfC->tH,reverseSlice'_eq->vm,callWith_builtin1->vo,wpS->vv,AllBare->xj,listItems_at->xq,IsTup->xv,reverseSlice'->C3,assignInOrder_cons->Eg,wpS_lift->Hq,seqEpoch_at->Ki,entry_list_sort->Mp,slot_list_sort->OP,Constant_none->Sa,lt_int->Sx,subscriptTail_builtinR->UC,tuples'->UL,minRun'_succ->UM,plain_sorted->UO,entry_sorted->UP,collect_list->UQ,iadd_int->VU,mirror_size->X4,binarySort'->X5,mergeAt'->X6,kind_sorted->X8,getElem?_mirror_all->Yr
open Option.some renaming inj->aX,injEq->gh
open Sum renaming inl->a9,inr->CN
open PyProof.Rows.SortSt renaming mk'->bf
open PySem.Obj renaming mapSeq->bz,data_mapFields->dg,isFreed_of_fields->jQ,mapFields->nh,cls_mapFields->qE,putSet->tL,data_mapDictKeys->xr,isFreed_of_dict->SE
open Bool renaming false_ne_true->bM,false_eq_true->bN,and_eq_true->gp,eq_iff_iff->gX,or_false->Ke,and_eq_true_iff->O6
open PySem.NameKind renaming free->bQ,cell->hJ
open PySem.PyData renaming canLayAll0->cm,depthAll->cu,eqv->dt,depth->gA,canLay0->ic,eqvAll->Yb
open Prod.mk renaming inj->cp,injEq->vw
open PySem.Builtin.List renaming listExtendWith->cV,listLengthHint->eZ,listSameRef->fJ,listUpdate->gf,listItems->oX
open Int renaming le_trans->c8,le_of_lt->gH,toNat_natCast->gZ,le_refl->nU,not_lt->pU,pow_succ->CS
open PySem.Heap.SameBut renaming update->c9
open Option renaming map_eq_some_iff->dz,map_some->jr,map->xD,isSome_map->zr,isSome_iff_exists->Ht,bind_eq_some_iff->J3,bind_eq_bind->OM,isNone_some->O0,getD_none->SC,pure_def->UI
open PySem.SetTable renaming below->dF,grown->iR,has->Hw,orStandIn->Nu,relaid->Sl,fresh->SF,slot->UG,laid->UH,fits->UJ
open PySem.Around renaming under_plainId->dU,under->Ka
open PySem.F renaming plain_extend_loop->ee,plainAttrs_list->fg,slot_list_index->gJ,plainAttrs_dict->gL,type_list_index->kH,slot_dict_pop->l9,type_dict_pop->ma,slot_dict_setdefault->mW,slot_list_append->pV,type_list_append->pX,type_dict_setdefault->CU,slot_dict_getitem->Fn,args_list_index_2->Fo,entry_extend_loop->Fp,entry_list_index->Hh
open PySem.PassesOwn renaming never->fD
open PySem.Builtin.SmallTypes renaming ownedTupleIsFree->gb,nextOf->jg
open True renaming intro->gi
open False renaming elim->ik
open List.cons renaming inj->iF
open PySem.Str renaming ofString->iP,empty->Nq
open PySem.SeqAt.EqAt renaming int_int->iW
open ForInStep renaming yield->jf
open PySem.Calls renaming spliced_cons->jh,spliced_nil->lO,Name_function_global->G9,call_function_entry->Hx
open List.Perm renaming cons->lh,append_left->lG,eq_of_pairwise->oU,refl->sr
open PySem.SetTable.below renaming go->m6
open List.Pairwise renaming nil->nc,and->Hy
open PySem.Builtin.Dict_items renaming ownsTuple->sP
open PySem.SetTable.probe renaming go->sQ
open List.Sublist renaming map->vt
open PySem.Paired renaming length->xi
open Classical renaming byContradiction->C4,epsilon_spec->Hr,epsilon->Ny
open PySem.Builtin.Dict renaming showsAll->Ek
open PySem.pickOrder renaming go->Hm
open Sum.inl renaming inj->Mg
open PySem.ItemsOf renaming nil->Mn
open PySem.Code renaming isFrame->Nr
open PySem.Moved renaming trans->OL,eq_with->Yo
open Prod renaming ext->O2
open PyProof.Rows.IntsAre renaming int_at->SG
open StateT renaming run_pure->UN
open PySem.SetTable.Met.empty renaming injEq->V2
open PySem.Builtin.Frozenset renaming newClass->XX,updateFrom->XY,slot0->XZ,addrOf->X0,sizeOf->X1
open PySem.W.KatTups renaming cons->X2
open PySem.SeqAt renaming eqv_refl->Yd
section
open PySem PySem.Spec PyProof.Rows
namespace L2
variable{s s':aA}{pos p pos' apos:xu}{x m qual name:bF}{A:cT}{pins:List (ai×jv)}{u v:ak}{a C b dx f L it:ai}{h h' g base:cR}{w:cC}{E Q:ak->aA->Prop}{e tg c:Expr}{P prog:bI}{us:List ak}{k t' i n j:Nat}{es:List Expr}{o:jv}{op:CmpOp}{M:Model}{ps N:List bF}{kindOf:bF->Option mR}{ch:List ai}{body:List dP}{mA mg:bF->Option ak}{fd:gG}{g':Array zZ}{d':Drawn}{outer:List JW}{scope:qH}
abbrev dJ:=Sum Int bF
def Ax:dJ->ak->Bool
 | .inl k,v=>Value.isInt k v
 | .inr x,v=>Yi x v
def keyH(w:cC):dJ->Int
 | .inl k=>hashInt k
 | .inr x=>hashStr w x
theorem gR:∀{k:dJ}{v:ak},Ax k v=true->(∃i t,k=a9 i/\v=gO i t)\/(∃x t,k=CN x/\v=qI x t)
 | .inl i,v,h=>by
  obtain⟨t,e⟩:=Value.isInt_shape (k:=i) (v:=v) h
  exact .inl ⟨i,t,rfl,e⟩
 | .inr x,v,h=>by obtain⟨t,e⟩:=Value.isStrOf_shape (x:=x) (v:=v) h;exact .inr ⟨x,t,rfl,e⟩
theorem NA(i:Int)(t:Yj):Ax (.inl i) (.int i t)=true:=by simp[Ax,Value.isInt]
theorem NB(x:bF)(t:Yj):Ax (.inr x) (.str x t)=true:=by simp[Ax,Yi]
theorem V8(a b:Int):decide ((a9 a:dJ)=a9 b)=(a == b):=by
 by_cases e:a=b
 .subst e;simp
 .have h:¬ (a9 a:dJ)=a9 b:=λq=>e (Mg q);rw[decide_eq_false h];exact(beq_eq_false_iff_ne.mpr e).symm
theorem V9(a b:bF):decide ((CN a:dJ)=CN b)=decide (a=b):=by
 by_cases e:a=b
 .subst e;simp
 .have h:¬ (CN a:dJ)=CN b:=λq=>e (Sum.inr.inj q);rw[decide_eq_false h,decide_eq_false e]
theorem Wa(a:Int)(b:bF):decide ((a9 a:dJ)=CN b)=false:=decide_eq_false nofun
theorem Wb(a:bF)(b:Int):decide ((CN a:dJ)=a9 b)=false:=decide_eq_false nofun
def eP(prog:bI)(w:cC):PySem.KeyKind prog w dJ where
 is:=Ax
 hash:=keyH w
 inj:=λv a b ha hb=>by
  rcases gR ha with⟨i,t,rfl,rfl⟩|⟨x,t,rfl,rfl⟩
  .rcases gR hb with⟨j,u,rfl,e⟩|⟨y,u,rfl,e⟩
   .injection e with e1 _;rw[e1]
   .exact nomatch e
  .rcases gR hb with⟨j,u,rfl,e⟩|⟨y,u,rfl,e⟩
   .exact nomatch e
   .injection e with e1 _;rw[e1]
 byValue:=λk v h=>by rcases gR h with⟨i,t,rfl,rfl⟩|⟨x,t,rfl,rfl⟩<;>rfl
 pyHash:=λhv h=>by
  rcases gR hv with⟨i,t,rfl,rfl⟩|⟨x,t,rfl,rfl⟩
  .exact wpAny_pyHash_int h
  .exact wpAny_pyHash_str h
 eqBool:=λhu hv h=>by
  rcases gR hu with⟨i,t,rfl,rfl⟩|⟨x,t,rfl,rfl⟩
  .rcases gR hv with⟨j,u,rfl,rfl⟩|⟨y,u,rfl,rfl⟩
   .rw [V8]at h;exact wpAny_eqBool_int h
   .rw [Wa]at h;exact SeqAt.EqAt.int_str i t y u _ _ _ _ h
  .rcases gR hv with⟨j,u,rfl,rfl⟩|⟨y,u,rfl,rfl⟩
   .rw [Wb]at h;exact SeqAt.EqAt.str_int x t j u _ _ _ _ h
   .rw [V9]at h;exact wpAny_eqBool_str h
 «strs»:=λk x t v h=>by
  rcases gR h with⟨i,u,rfl,e⟩|⟨y,u,rfl,e⟩
  .exact nomatch e
  .injection e with e1 _
   subst e1;cases v<;>rfl
theorem HB(prog:bI)(w:cC)(i:Int)(t:Yj):(eP prog w).is (.inl i) (.int i t)=true:=NA i t
theorem HC(prog:bI)(w:cC)(x:bF)(t:Yj):(eP prog w).is (.inr x) (.str x t)=true:=NB x t
inductive V where
 |non|bl (b:Bool)|int (i:Int)|str (x:bF)|byt (b:Array UInt8)|flt (b:UInt64)|ref (a:ai)|ty (n:String)
 deriving DecidableEq
def RelV:V->ak->Prop
 | .non,u=>u=dZ
 | .bl b,u=>u=sk b
 | .int i,u=>∃t,u=gO i t
 | .str x,u=>∃t,u=qI x t
 | .byt b,u=>∃t,u=Value.bytes b t
 | .flt b,u=>∃t,u=OD b t
 | .ref a,u=>u=aD a
 | .ty n,u=>u=dD n
abbrev Vals:List V->List ak->Prop:=Paired RelV
theorem Vals.length{xs:List V}(r:Vals xs us):xs.length=us.length:=xi r
theorem Vals.get:∀{xs:List V}{us:List ak}{i:Nat}{x:V},Vals xs us->xs[i]?=some x->∃u,us[i]?=some u/\RelV x u
 |_,_,_,_,.nil,e=>by simp at e
 |_,_,0,_,.cons r _,e=>by simp at e;subst e;exact⟨_,rfl,r⟩
 |_,_,i+1,x,.cons _ t,e=>by obtain⟨u,h1,h2⟩:=Vals.get (i:=i) (x:=x) t (by simpa using e);exact⟨u,by simpa using h1,h2⟩
theorem Vals.set{x:V}(r:RelV x u):∀{xs:List V}{us:List ak}(i:Nat),Vals xs us->Vals (xs.set i x) (us.set i u)
 |_,_,_,.nil=>.nil
 |_,_,0,.cons _ t=>.cons r t
 |_,_,i+1,.cons q t=>.cons q (Vals.set r i t)
theorem Vals.append:∀{xs ys:List V}{us ws:List ak},Vals xs us->Vals ys ws->Vals (xs++ys) (us++ws)
 |_,_,_,_,.nil,s=>s
 |_,_,_,_,.cons r t,s=>.cons r (Vals.append t s)
theorem Vals.take:∀{xs:List V}{us:List ak}(n:Nat),Vals xs us->Vals (xs.take n) (us.take n)
 |_,_,0,_=>.nil
 |_,_,_+1,.nil=>.nil
 |_,_,n+1,.cons r t=>.cons r (Vals.take n t)
theorem Vals.drop:∀{xs:List V}{us:List ak}(n:Nat),Vals xs us->Vals (xs.drop n) (us.drop n)
 |_,_,0,r=>r
 |_,_,_+1,.nil=>.nil
 |_,_,n+1,.cons _ t=>Vals.drop n t
def pQ:Option V->Option ak->Prop
 |some v,some u=>RelV v u
 |none,none=>True
 |_,_=>False
def KV{κ:Type}:List (κ×V)->List (κ×ak)->Prop:=Paired λ(p:κ×V) (q:κ×ak)=>p.1=q.1/\RelV p.2 q.2
def kV:dJ->V
 | .inl i=>.int i
 | .inr x=>.str x
inductive HO where
 |lst (xs:List V)
 |tup (xs:List V)
 |dK (kvs:List (dJ×V))|dT (kvs:List (List dJ×V))
 |set (S:Int->Bool) (n:Nat)
 |ins (C dx:ai) (fs:List (bF×V))
 |own (x:ai)
 |xd (fs:List (bF×V))
 |met (f x:ai)
 |rng (lo hi:Int)
 |frz (o:jv) (u:HO)
 |tbl (ps:Array ak)
 |ext (φ:cR->Prop)
abbrev Hp:=ai->Option HO
def upd(H:Hp)(a:ai)(o:HO):Hp:=λb=>if b=a then some o else H b
theorem aC{H:Hp}{o:HO}:upd H a o a=some o:=by unfold upd;rw[if_pos rfl]
theorem aF{H:Hp}{o:HO}(h:b≠a):upd H a o b=H b:=by unfold upd;rw[if_neg h]
theorem dO{H:Hp}{o u:HO}(h:H a=some o)(h':H b=some u)(d:o≠u:=by intro z;cases z):a≠b:=by intro e;subst e;rw[h]at h';exact d (aX h')
theorem aT{H:Hp}{o:HO}(h:H a=some o)(h':H b=none):a≠b:=by intro e;subst e;rw[h]at h';cases h'
section
variable(P:bI)(w:cC)
def fv(H:Hp)(h:cR)(a:ai):HO->Prop
 | .lst xs=>xs.length<=aY/\∃(its:List ak) (n:Nat),Vals xs its/\h.get? a=some { cls:=.type "list",data:=.seq its.toArray n }
 | .tup xs=>xs.length<=aY/\∃its:List ak,Vals xs its/\xv h a its.toArray
 | .dK kvs=>kvs.length<=aY/\(a == iH)=false/\∃vs,KV kvs vs/\h.DictOf (eP P w) a vs
 | .dT kvs=>kvs.length<=aY/\(a == iH)=false/\∃xs:List (List dJ×ai×ak),Paired (λ(p:List dJ×V) (q:List dJ×ai×ak)=>p.1=q.1/\H q.2.1=some (.tup (p.1.map kV))/\RelV p.2 q.2.2) kvs xs /\∃o es ep,h.get? a=some o/\o.ExactDict/\o.data=.dict es ep/\es.toList=xs.map (entryOfKey (kY (eP P w)))/\(xs.map (·.1)).Nodup
 | .set S n=>h.SetOf (mT P w) a S n
 | .ins C dx fs=>H dx=some (.own a)/\fs.length<=1000/\dx≠a/\h.get? a=some (iB C dx) /\∃mA,h.Ns1 dx mA/\(∀f,pQ (fs.lookup f) (mA f))/\Mh mA (fs.map (·.1))
 | .own _=>∃o,h.get? a=some o
 | .xd fs=>∃mA,h.Ns1 a mA/\∀f,pQ (fs.lookup f) (mA f)
 | .rng lo hi=>∃t u v,h.get? a=some { cls:=.type "range",data:=.fields #[.int lo t,.int hi u,.int 1 v] }
 | .frz o u=>h.get? a=some o/\fv H h a u
 | .tbl ps=>h.get? a=some { cls:=.none,data:=.fields ps }
 | .met f x=>h.get? a=some (yz (.ref f) (.ref x))
 | .ext φ=>φ h/\(∃o,h.get? a=some o)/\∀h1 h2:cR,φ h1->(∀o,h1.get? a=some o->h2.get? a=some o)->φ h2
def qG(H:Hp)(h:cR):Prop:=∀a o,H a=some o->fv P w H h a o
end
section
variable{H H':Hp}{o:HO}
theorem fv.lt(x:fv P w H h a o):a<h.objs.size:=by
 cases o with
 |lst xs=>obtain⟨_,_,_,_,e⟩:=x;exact aJ e
 |tup xs=>obtain⟨_,_,_,p⟩:=x;exact p.lt
 |dK kvs=>obtain⟨_,_,_,_,o,_,_,e,_⟩:=x;exact aJ e
 |dT kvs=>obtain⟨_,_,_,_,o,_,_,e,_⟩:=x;exact aJ e
 |set S n=>obtain⟨o,_,_,_,e,_⟩:=x;exact aJ e
 |ins C dx fs=>obtain⟨_,_,_,e,_⟩:=x;exact aJ e
 |own y=>obtain⟨_,e⟩:=x;exact aJ e
 |xd fs=>obtain⟨_,⟨_,_,_,e,_⟩,_⟩:=x;exact aJ e
 |rng lo hi=>obtain⟨_,_,_,e⟩:=x;exact aJ e
 |frz ob u=>obtain⟨e,_⟩:=x;exact aJ e
 |tbl ps=>exact aJ (show h.get? a=some _ from x)
 |met f y=>exact aJ (show h.get? a=some _ from x)
 |ext φ=>obtain⟨_,⟨_,e⟩,_⟩:=x;exact aJ e
theorem Paired.OA{α β:Type}{F G:α->β->Prop}:∀{l₁:List α} {l₂:List β},Paired F l₁ l₂->(∀a b,F a b->G a b)->Paired G l₁ l₂
 |_,_,.nil,_=>.nil
 |_,_,.cons r t,f=>.cons (f _ _ r) (Paired.OA t f)
theorem fv.zX(x:fv P w H h a o)(k:∀b u,(b=a\/H b=some (.own a))->h.get? b=some u->h'.get? b=some u)(ho:∀b,H b=some (.own a)->H' b=some (.own a))(ht:∀b xs,H b=some (.tup xs)->H' b=some (.tup xs)):fv P w H' h' a o:=by
 induction o with
 |lst xs=>obtain⟨z,its,n,r,e⟩:=x;exact⟨z,its,n,r,k _ _ (.inl rfl) e⟩
 |tup xs=>obtain⟨z,its,r,ob,e,c⟩:=x;exact⟨z,its,r,ob,k _ _ (.inl rfl) e,c⟩
 |dK kvs=>obtain⟨z,y,vs,r,ob,es,ep,e,c⟩:=x;exact⟨z,y,vs,r,ob,es,ep,k _ _ (.inl rfl) e,c⟩
 |dT kvs=>
  obtain⟨z,y,xs,r,ob,es,ep,e,c⟩:=x
  exact⟨z,y,xs,Paired.OA r λp q z=>⟨z.1,ht _ _ z.2.1,z.2.2⟩,ob,es,ep,k _ _ (.inl rfl) e,c⟩
 |set S n=>obtain⟨ob,es,ep,t,e,c⟩:=x;exact⟨ob,es,ep,t,k _ _ (.inl rfl) e,c⟩
 |ins C dx fs=>
  obtain⟨d,z,ne,e,mA,⟨od,es,ep,e2,c⟩,r⟩:=x
  exact⟨ho _ d,z,ne,k _ _ (.inl rfl) e,mA,⟨od,es,ep,k _ _ (.inr d) e2,c⟩,r⟩
 |own y=>obtain⟨ob,e⟩:=x;exact⟨ob,k _ _ (.inl rfl) e⟩
 |xd fs=>obtain⟨mA,⟨od,es,ep,e,c⟩,r⟩:=x;exact⟨mA,⟨od,es,ep,k _ _ (.inl rfl) e,c⟩,r⟩
 |rng lo hi=>obtain⟨t,u,v,e⟩:=x;exact⟨t,u,v,k _ _ (.inl rfl) e⟩
 |frz ob u ih=>obtain⟨e,q⟩:=x;exact⟨k _ _ (.inl rfl) e,ih q⟩
 |tbl ps=>
  have e:h.get? a=some { cls:=.none,data:=.fields ps }:=x
  show h'.get? a=some { cls:=.none,data:=.fields ps }
  exact k a _ (.inl rfl) e
 |met f y=>
  have e:h.get? a=some (yz (.ref f) (.ref y)):=x
  show h'.get? a=some (yz (.ref f) (.ref y))
  exact k a _ (.inl rfl) e
 |ext φ=>obtain⟨p,⟨o,e⟩,st⟩:=x;exact⟨st _ _ p λo q=>k _ _ (.inl rfl) q,⟨o,k _ _ (.inl rfl) e⟩,st⟩
theorem qG.lt(x:qG P w H h)(e:H a=some o):a<h.objs.size:=(x a o e).lt
theorem qG.fresh(x:qG P w H h)(e:h.objs.size<=a):H a=none:=by
 cases q:H a with
 |none=>rfl
 |some u=>exact absurd (br (x.lt q) e) (e9 _)
theorem qG.kept(x:qG P w H h)(k:∀b u,h.get? b=some u->h'.get? b=some u):qG P w H h':=λa o e =>(x a o e).zX (λb u _ q=>k b u q) (λ_ q=>q) λ_ _ q=>q
theorem qG.laid(x:qG P w H h)(k:∀b u,h.get? b=some u->h'.get? b=some u)(hp:h.objs.size<=a)(new:fv P w (upd H a o) h' a o):qG P w (upd H a o) h':=λb u e=>by
 have hn:=x.fresh hp
 by_cases hb:b=a
 .subst hb;rw[aC]at e;cases e;exact new
 .rw [aF hb]at e
  exact(x b u e).zX (λc v _ q=>k c v q) (λc q=>by rw[aF (aT q hn)];exact q) λc xs q=>by rw[aF (aT q hn)];exact q
end
def Rd(H:Hp)(a:ai)(u:HO):Prop:=H a=some u\/∃o,H a=some (.frz o u)
theorem Rd.ok{H:Hp}{u:HO}(r:Rd H a u)(x:qG P w H h):fv P w H h a u:=by
 rcases r with r|⟨o,r⟩
 .exact x a u r
 .obtain ⟨_,q⟩:=x a _ r;exact q
def Yt:Option HO->Prop
 |some (.lst _)=>True
 |some (.dK _)=>True
 |some (.dT _)=>True
 |some (.set _ _)=>True
 |some (.ins _ _ _)=>True
 |some (.ext _)=>True
 |_=>False
section
variable{H:Hp}{x e:ai}{o':HO}
theorem qG.write(ok:qG P w H h)(mu:Yt (H x))(he:e=x\/H e=some (.own x))(k:∀b u,b≠e->h.get? b=some u->h'.get? b=some u)(heo:∃u,h'.get? e=some u)(new:fv P w (upd H x o') h' x o'):qG P w (upd H x o') h':=λb u q=>by
 have nown:∀c y,H c=some (.own y)->c≠x:=λc y r z=>by subst z;rw[r]at mu;exact mu
 have ntup:∀c xs,H c=some (.tup xs)->c≠x:=λc xs r z=>by subst z;rw[r]at mu;exact mu
 by_cases hb:b=x
 .subst hb;rw[aC]at q;cases q;exact new
 .rw [aF hb]at q
  by_cases hbe:b=e
  .have q':H b=some (.own x):=by
    rcases he with z|z
    .exact absurd (hbe.trans z) hb
    .rw [hbe];exact z
   rw[q]at q';cases q';obtain⟨v,hv⟩:=heo;exact⟨v,by rw[hbe];exact hv⟩
  .refine (ok b u q).zX (λc v hc r=>k c v ?_ r) (λc r=>by rw[aF (nown c b r)];exact r) λc xs r=>by rw[aF (ntup c xs r)];exact r
   rcases hc with rfl|hc
   .exact hbe
   .rintro rfl
    rcases he with z|z
    .exact nown c b hc z
    .rw [hc]at z;cases z;exact hb rfl
end
structure Un(fs ex:List ai)(H H':Hp)(h h':cR):Prop where
 keep:∀b o,h.get? b=some o->H b=none->b∉fs->b∉ex->h'.get? b=some o
 slot:∀b o,h.get? b=some o->H b=none->b∈fs->b∉ex->∃sl,h'.get? b=some { o with slots:=sl }
 free:∀b o,h.get? b=some o->H b=none->b∉ex->H' b=none
 there:∀b o,h.get? b=some o->b∉ex->∃o',h'.get? b=some o'
 Ee:∀b xs,H b=some (.tup xs)->H' b=some (.tup xs)
 CL:∀b o u,H b=some (.frz o u)->H' b=some (.frz o u)
 CM:∀b ps,H b=some (.tbl ps)->∃more,H' b=some (.tbl (ps++more))
section
variable{fs fs' ex ex':List ai}{H H1 H2:Hp}{h1 h2:cR}{x e:ai}{o:HO}
theorem Un.any(u:Un fs ex H H1 h h1){b:ai}{ob:jv}(q:h.get? b=some ob)(n:H b=none)(hx:b∉ex):∃sl,h1.get? b=some { ob with slots:=sl }:=by
 by_cases hb:b∈fs
 .exact u.slot b ob q n hb hx
 .exact ⟨ob.slots,u.keep b ob q n hb hx⟩
theorem Un.kept(k:∀b u,h.get? b=some u->h'.get? b=some u):Un fs ex H H h h':=
 ⟨λb ob q _ _ _=>k b ob q,λb ob q _ _ _=>⟨ob.slots,k b ob q⟩,λ_ _ _ n _=>n,λb ob q _=>⟨ob,k b ob q⟩,λ_ _ q=>q,λ_ _ _ q=>q,λ_ ps q=>⟨#[],by rw[q];simp⟩⟩
theorem Un.refl:Un fs ex H H h h:=Un.kept λ_ _ q=>q
theorem Un.laid(k:∀b u,h.get? b=some u->h'.get? b=some u)(hp:h.objs.size<=a)(hn:H a=none):Un fs ex H (upd H a o) h h' where
 keep:=λb u q _ _ _=>k b u q
 slot:=λb u q _ _ _=>⟨u.slots,k b u q⟩
 free:=λb u q n _=>by rw[aF (bg (br (aJ q) hp))];exact n
 there:=λb u q _=>⟨u,k b u q⟩
 Ee:=λb xs q=>by rw[aF (aT q hn)];exact q
 CL:=λb u xs q=>by rw[aF (aT q hn)];exact q
 CM:=λb ps q=>⟨#[],by rw[aF (aT q hn),q];simp⟩
theorem Un.write(mu:Yt (H x))(he:e=x\/H e=some (.own x))(k:∀b u,b≠e->h.get? b=some u->h'.get? b=some u)(heo:∃u,h'.get? e=some u):Un fs ex H (upd H x o) h h':=by
 have hx:∀b,H b=none->b≠x:=λb n z=>by subst z;rw[n]at mu;exact mu
 have hb:∀b,H b=none->b≠e:=λb n z=>by
  subst z
  rcases he with r|r
  .exact hx b n r
  .rw [n]at r;cases r
 have hm:∀b u,H b=some u->¬ Yt (some u)->b≠x:=λb u q nm z=>by subst z;rw[q]at mu;exact nm mu
 refine⟨λb u q n _ _=>k b u (hb b n) q,λb u q n _ _=>⟨u.slots,k b u (hb b n) q⟩,λb u q n _=>by rw[aF (hx b n)];exact n,λb u q _=>?_,λb xs q=>by rw[aF (hm b _ q λz=>z)];exact q,λb u xs q=>by rw[aF (hm b _ q λz=>z)];exact q,λb ps q=>⟨#[],by rw[aF (hm b _ q λz=>z),q];simp⟩⟩
 by_cases hbe:b=e
 .subst hbe;exact heo
 .exact ⟨u,k b u hbe q⟩
end
def trk(h:cR)(H:Hp):List ai:=(fh h.objs.size).filter λa=>(H a).isSome
def Ay(h:cR)(H:Hp):cR:=PySem.W.hideAll h (trk h H)
theorem NC(h:cR)(H:Hp):(Ay h H).objs.size=h.objs.size:=PySem.W.hideAll_size _ _
theorem O7{H:Hp}(e:h.get? b=some o)(n:H b=none):(Ay h H).get? b=some o:=
 PySem.W.hideAll_get _ e λhm=>by have q:(H b).isSome=true:=(bB.mp hm).2;rw[n]at q;simp at q
theorem SI{H:Hp}(e:(Ay h H).get? b=some o):h.get? b=some o/\H b=none:=by
 have e':h.get? b=some o:=PySem.W.of_hideAll (trk h H) e;refine⟨e',?_⟩
 cases q:H b with
 |none=>rfl
 |some x=>
  have hm:b∈trk h H:=bB.mpr ⟨i5.mpr (aJ e'),by simp[q]⟩;have z:(Ay h H).get? b=none:=PySem.W.hideAll_none (trk h H) hm;rw[z]at e;cases e
def sC(g h:cR)(L:ai):List (ai×jv):=(fh h.objs.size).filterMap λa=>if a=L\/(g.get? a).isSome=true then none else(h.get? a).map λo=>(a,o)
theorem yD(h1:a≠L)(h2:g.get? a=none)(h3:h.get? a=some o):(a,o)∈sC g h L:=
 oV.mpr ⟨a,i5.mpr (aJ h3),by simp[h1,h2,h3]⟩
theorem Az{p:ai×jv}(hp:p∈sC g h L):p.1≠L/\g.get? p.1=none/\h.get? p.1=some p.2:=by
 obtain⟨b,_,e⟩:=oV.mp hp
 split at e
 .cases e
 .rename_i hn
  cases q:h.get? b with
  |none=>rw[q]at e;simp at e
  |some u=>
   rw[q]at e;simp only[jr,gh]at e;subst e;refine⟨λz=>hn (.inl z),?_,q⟩
   show g.get? b=none
   cases r:g.get? b with
   |none=>rfl
   |some v=>exact(hn (.inr (by simp[r]))).elim
theorem O8:News g L h (sC g h L):=λp hp=>let ⟨a,b,c⟩:=Az hp;⟨c,a,b⟩
structure Mod(K:aa)(mg:bF->Option ak)(base:cR):Prop where
 Z2:K.In base
 glob:base.Ns bV mg
 blt:∃mb,base.Ns builtinsNs mb/\∀x:bF,x≠"__name__"->mb x=dE x
 nolimit:base.NoLimit
structure Cx where
 prog:bI
 w:cC
 K:aa
 mg:bF->Option ak
 base:cR
 A:cT
 N:List bF
 s₀:aA
 H₀:Hp
 env:JW
 outer:List JW
 stack:List JW
 ex:List ai
 fn:bF->Bool
 calm:Bool
 pn:List (ai×jv)
 xe:ak->aA->Prop
def Ou(l:List JW):List ai:=l.filterMap (·.frame)
abbrev Cx.fs(X:Cx):List ai:=Ou X.outer
def Vis(sc:qH)(x:bF):Prop:=sc.names.lookup x=some .local\/sc.names.lookup x=some .cell\/sc.names.lookup x=some .free
def Loc(sc:qH)(x:bF):Prop:=sc.names.lookup x=some .local\/sc.names.lookup x=some .cell
def Look(env:JW)(h:cR)(m:bF->Option ak)(x:bF)(u:ak):Prop:=
 (env.kindOf x=some .local/\m x=some u)\/((env.kindOf x=some .cell\/env.kindOf x=some .free)/\∃c,env.cells.lookup x=some c/\h.IsCell c (some u))
structure Cx.Ok(X:Cx):Prop where
 mod:Mod X.K X.mg X.base
 kind:X.env.scope.kind=.function
 glob:X.env.globals=bV
 blt:X.env.builtins=builtinsNs
 above:X.s₀.heap.objs.size<=X.env.locals
 inj:∀x y c,X.env.cells.lookup x=some c->X.env.cells.lookup y=some c->x=y
 has:∀x,(X.env.kindOf x=some .cell\/X.env.kindOf x=some .free)->∃c,X.env.cells.lookup x=some c
 Yh:∀x c,X.fn x=true->X.env.cells.lookup x=some c->X.s₀.heap.objs.size<=c
 hd:X.calm=true->X.A.handled=none
 frames:X.A.frames=some X.stack
 ZT:X.stack=X.outer\/(X.stack=X.env::X.outer/\X.env.frame=some X.env.locals)
 exf:∀b∈X.ex,b≠X.env.locals/\∀x c,X.env.cells.lookup x=some c->c≠b
 bs:∀b o,X.base.get? b=some o->X.s₀.heap.get? b=some o/\X.H₀ b=none
 R6:X.base.objs.size<=X.s₀.heap.objs.size
 Os:∀b o,X.base.get? b=some o->b∉X.ex
 Oq:∀b∈X.ex,b∉X.fs
 yw:X.s₀.heap.FunFrames X.base X.outer
 VL:∀b∈X.fs,X.H₀ b=none
structure Inv(X:Cx)(pins:List (ai×jv))(Z:List (Option V))(H:Hp)(s:aA):Prop where
 ok:X.Ok
 os:s.os=X.s₀.os
 bare:xj s.gens
 base:Un X.fs X.ex X.H₀ H X.s₀.heap s.heap
 loc:∃m,s.heap.Ns X.env.locals m/\∀(i:Nat) (x:bF) (v:V),X.N[i]?=some x->Z[i]?=some (some v)->Vis X.env.scope x->∃u,RelV v u/\Look X.env s.heap m x u
 cell:∀x c,X.env.cells.lookup x=some c->∃v,s.heap.IsCell c v
 free:H X.env.locals=none
 sj:∀x c,X.env.cells.lookup x=some c->H c=none
 pin:∀p∈X.pn++pins,s.heap.get? p.1=some p.2/\H p.1=none/\p.1≠X.env.locals/\p.1∉X.fs/\∀v,p.2.data≠.cell v
 fw:qG X.prog X.w H s.heap
 len:Z.length=X.N.length
section
variable{X:Cx}{Z:List (Option V)}{H H':Hp}
theorem Cx.Ok.nofr(ok:X.Ok){b:ai}{o:jv}(e:X.base.get? b=some o):b∉X.fs:=λhb=>by have:=(ok.yw.mem hb).1;rw[e]at this;cases this
theorem Inv.bs(I:Inv X pins Z H s):∀b o,X.base.get? b=some o->s.heap.get? b=some o/\H b=none:=λb o e =>⟨I.base.keep b o (I.ok.bs b o e).1 (I.ok.bs b o e).2 (I.ok.nofr e) (I.ok.Os b o e),I.base.free b o (I.ok.bs b o e).1 (I.ok.bs b o e).2 (I.ok.Os b o e)⟩
theorem Inv.bk(I:Inv X pins Z H s):∀b o,X.base.get? b=some o->s.heap.get? b=some o:=λb o e=>(I.bs b o e).1
theorem Inv.mod(I:Inv X pins Z H s):Mod X.K X.mg X.base:=I.ok.mod
theorem Inv.zY(I:Inv X pins Z H s):X.K.In s.heap:=I.ok.mod.Z2.keeps I.bk
theorem Inv.fr(I:Inv X pins Z H s):∃m,Fr X.base X.env.locals s.heap m:=
 let ⟨m,hn,_⟩:=I.loc
 ⟨m,hn,I.bk,bw I.ok.R6 I.ok.above⟩
theorem Inv.lt(I:Inv X pins Z H s):X.env.locals<s.heap.objs.size:=let ⟨_,hn,_⟩:=I.loc;hn.lt
theorem Inv.sz(I:Inv X pins Z H s):X.s₀.heap.objs.size<=s.heap.objs.size:=bw I.ok.above (kh I.lt)
theorem Inv.nofs(I:Inv X pins Z H s){a:ai}(h:s.heap.objs.size<=a):a∉X.fs:=λhb=>by obtain⟨_,o,ho,_⟩:=I.ok.yw.mem hb;exact absurd (br (aJ ho) (bw I.sz h)) (e9 _)
theorem Inv.XB(I:Inv X pins Z H s):∀x c,X.env.cells.lookup x=some c->c≠X.env.locals:=λx c e z=>by obtain⟨v,o,ho,hd⟩:=I.cell x c e;obtain⟨m,⟨o',es,ep,ho',hd',_⟩,_⟩:=I.loc;rw[z,ho']at ho;cases ho;rw[hd']at hd;cases hd
theorem Inv.yw(I:Inv X pins Z H s):s.heap.FunFrames X.base X.outer:=by
 have all:∀(l:List JW),(∀b∈Ou l,b∈X.fs)->X.s₀.heap.FunFrames X.base l->s.heap.FunFrames X.base l:=by
  intro l
  induction l with
  |nil=>intro _ _;trivial
  |cons env r ih=>
   intro hs hl;obtain⟨hk,⟨L,o,hf,hn,ho,hd⟩,hr⟩:=hl;have hL:L∈X.fs:=hs L (by unfold Ou;rw[xA,hf];exact aj);obtain⟨sl,e⟩:=I.base.slot L o ho (I.ok.VL L hL) hL λz=>I.ok.Oq L z hL;exact⟨hk,⟨L,_,hf,hn,e,hd⟩,ih (λb hb=>hs b (by unfold Ou;rw[xA,hf];exact ag _ hb)) hr⟩
 exact all X.outer (λ_ hb=>hb) I.ok.yw
theorem Inv.stack(I:Inv X pins Z H s):s.heap.FunFrames X.base X.stack:=by
 rcases I.ok.ZT with e|⟨e,hf⟩
 .rw [e];exact I.yw
 .rw [e];obtain⟨m,hn,_⟩:=I.loc;refine .cons (by rw[I.ok.kind];decide) hf hn ?_ I.yw;exact OX (bw I.ok.R6 I.ok.above)
theorem Inv.L3(I:Inv X pins Z H s):∀b∈Ou X.stack,b∈X.env.locals::X.fs:=λb hb=>by
 rcases I.ok.ZT with e|⟨e,hf⟩
 .rw [e]at hb;exact ag _ hb
 .rw [e]at hb;unfold Ou at hb;rw[xA,hf]at hb;exact hb
theorem Inv.Np(I:Inv X pins Z H s):∀b∈Ou X.stack,H b=none:=λb hb=>by
 rcases aw.mp (I.L3 b hb)with e|hb
 .rw [e];exact I.free
 .obtain ⟨_,o,ho,_⟩:=I.ok.yw.mem hb;exact I.base.free b o ho (I.ok.VL b hb) λz=>I.ok.Oq b z hb
theorem Inv.step(I:Inv X pins Z H s)(hch:∀b∈ch,(b∈X.ex\/X.s₀.heap.objs.size<=b)/\b≠X.env.locals/\(∀x c,X.env.cells.lookup x=some c->c≠b)/\∀p∈X.pn++pins,p.1≠b)(keep:∀b o,b≠X.env.locals->b∉X.fs->b∉ch->s.heap.get? b=some o->H b=none->h'.get? b=some o)(slot:∀b o,b≠X.env.locals->b∈X.fs->b∉ch->s.heap.get? b=some o->H b=none->∃sl,h'.get? b=some { o with slots:=sl })(free:∀b o,b∉ch->s.heap.get? b=some o->H b=none->H' b=none)(there:∀b o,b∉ch->s.heap.get? b=some o->∃o',h'.get? b=some o')(Ee:∀b xs,H b=some (.tup xs)->H' b=some (.tup xs))(CL:∀b o u,H b=some (.frz o u)->H' b=some (.frz o u))(CM:∀b ps,H b=some (.tbl ps)->∃more,H' b=some (.tbl (ps++more)))(ns:∀m,s.heap.Ns X.env.locals m->h'.Ns X.env.locals m)(fw:qG X.prog X.w H' h')(hg:xj g'):Inv X pins Z H' { s with heap:=h',gens:=g',drawn:=d',toks:=t' }:=by
 have neL:∀b o,X.s₀.heap.get? b=some o->b≠X.env.locals:=λb o e=>bg (br (aJ e) I.ok.above)
 have neC:∀b o,X.s₀.heap.get? b=some o->b∉X.ex->b∉ch:=λb o e hx hb=>by
  rcases(hch b hb).1 with z|z
  .exact hx z
  .exact absurd (br (aJ e) z) (e9 _)
 have cellK:∀x c,X.env.cells.lookup x=some c->∀v,s.heap.IsCell c v->h'.IsCell c v:=λx c e v ⟨o,ho,hd⟩=>by
  have nch:c∉ch:=λz=>(hch c z).2.2.1 x c e rfl
  by_cases hc:c∈X.fs
  .obtain ⟨sl,q⟩:=slot c o (I.XB x c e) hc nch ho (I.sj x c e);exact⟨_,q,hd⟩
  .exact ⟨o,keep c o (I.XB x c e) hc nch ho (I.sj x c e),hd⟩
 refine⟨I.ok,I.os,hg,⟨λb o e n hb hx=>?_,λb o e n hb hx=>?_,λb o e n hx=>?_,λb o e hx=>?_,λb xs e=>Ee b xs (I.base.Ee b xs e),λb o xs e=>CL b o xs (I.base.CL b o xs e),λb ps e=>?_⟩,?_,λx c e=>?_,?_,λx c e=>?_,λp hp=>?_,fw,I.len⟩
 .exact keep b o (neL b o e) hb (neC b o e hx) (I.base.keep b o e n hb hx) (I.base.free b o e n hx)
 .obtain ⟨sl,e1⟩:=I.base.slot b o e n hb hx;obtain⟨sl',e2⟩:=slot b _ (neL b o e) hb (neC b o e hx) e1 (I.base.free b o e n hx);exact⟨sl',e2⟩
 .obtain ⟨o',e1⟩:=I.base.there b o e hx;exact free b o' (neC b o e hx) e1 (I.base.free b o e n hx)
 .obtain ⟨o',e1⟩:=I.base.there b o e hx;exact there b o' (neC b o e hx) e1
 .obtain ⟨m1,e1⟩:=I.base.CM b ps e;obtain⟨m2,e2⟩:=CM b _ e1;exact⟨m1++m2,by rw[e2,yA]⟩
 .obtain ⟨m,hn,hl⟩:=I.loc;refine⟨m,ns m hn,λi x v e1 e2 e3=>?_⟩;obtain⟨u,r,l⟩:=hl i x v e1 e2 e3;refine⟨u,r,?_⟩
  rcases l with l|⟨k,c,e,z⟩
  .exact .inl l
  .exact .inr ⟨k,c,e,cellK x c e _ z⟩
 .obtain ⟨v,z⟩:=I.cell x c e;exact⟨v,cellK x c e v z⟩
 .obtain ⟨m,⟨o,_,_,ho,_⟩,_⟩:=I.loc;exact free _ o (λz=>(hch _ z).2.1 rfl) ho I.free
 .obtain ⟨v,o,ho,hd⟩:=I.cell x c e;exact free c o (λz=>(hch c z).2.2.1 x c e rfl) ho (I.sj x c e)
 .obtain ⟨e,n,ne,nf,d⟩:=I.pin p hp;have nch:p.1∉ch:=λz=>(hch p.1 z).2.2.2 p hp rfl;exact⟨keep p.1 p.2 ne nf nch e n,free p.1 p.2 nch e n,ne,nf,d⟩
theorem Inv.un(I:Inv X pins Z H s)(u:Un X.fs [] H H' s.heap h')(fw:qG X.prog X.w H' h'):Inv X pins Z H' { s with heap:=h',toks:=t' }:=by
 obtain⟨m,⟨o,es,ep,ho,r⟩,_⟩:=id I.loc;obtain⟨sl,hL⟩:=u.any ho I.free (by simp)
 exact I.step (g':=s.gens) (d':=s.drawn) (ch:=[]) (λ_ z=>nomatch z) (λb o _ hb _ e n=>u.keep b o e n hb (by simp)) (λb o _ hb _ e n=>u.slot b o e n hb (by simp)) (λb o _ e n=>u.free b o e n (by simp)) (λb o _ e=>u.there b o e (by simp)) u.Ee u.CL u.CM (λm' hm=>by
  obtain⟨o',es',ep',ho',r'⟩:=hm;rw[ho]at ho';cases ho'
  exact⟨_,es',ep',hL,r'⟩) fw I.bare
theorem Inv.call(I:Inv X pins Z H s)(u:Un (Ou X.stack) ch H H' s.heap h')(fw:qG X.prog X.w H' h')(hg:xj g')(hch:∀b∈ch,(b∈X.ex\/X.s₀.heap.objs.size<=b)/\b≠X.env.locals/\(∀x c,X.env.cells.lookup x=some c->c≠b)/\∀p∈X.pn++pins,p.1≠b):Inv X pins Z H' { s with heap:=h',gens:=g',drawn:=d',toks:=t' }:=by
 obtain⟨m,⟨o,es,ep,ho,r⟩,_⟩:=id I.loc;obtain⟨sl,hL⟩:=u.any ho I.free λz=>(hch _ z).2.1 rfl
 exact I.step (ch:=ch) hch (λb o hL hb hc e n=>u.keep b o e n (λz=>(aw.mp (I.L3 b z)).elim hL hb) hc) (λb o _ _ hc e n=>u.any e n hc) (λb o hc e n=>u.free b o e n hc) (λb o hc e=>u.there b o e hc) u.Ee u.CL u.CM (λm' hm=>by
  obtain⟨o',es',ep',ho',r'⟩:=hm;rw[ho]at ho';cases ho'
  exact⟨_,es',ep',hL,r'⟩) fw hg
theorem Inv.turned(I:Inv X pins Z H s)(k:∀b o,b≠it->s.heap.get? b=some o->h'.get? b=some o)(hn:H it=none)(hL:it≠X.env.locals)(h1:it∈X.ex\/X.s₀.heap.objs.size<=it)(h2:∀x c,X.env.cells.lookup x=some c->c≠it)(h3:∀p∈X.pn++pins,p.1≠it):Inv X pins Z H { s with heap:=h',toks:=t' }:=by
 have nit:∀b u,H b=some u->b≠it:=λb u e z=>by rw[z,hn]at e;cases e
 refine I.step (g':=s.gens) (d':=s.drawn) (ch:=[it]) (λb hb=>?_) (λb o _ _ hc e _=>k b o (λz=>hc (by simp[z])) e) (λb o _ _ hc e _=>⟨o.slots,k b o (λz=>hc (by simp[z])) e⟩) (λ_ _ _ _ n=>n)
  (λb o hc e=>⟨o,k b o (λz=>hc (by simp[z])) e⟩) (λ_ _ e=>e) (λ_ _ _ e=>e) (λb ps e=>⟨#[],by rw[e];simp⟩) (λm hm=>?_) (λb u e=>?_) I.bare
 .have e:b=it:=by simpa using hb
  subst e;exact⟨h1,hL,h2,h3⟩
 .obtain ⟨o,es,ep,ho,r⟩:=hm;exact⟨o,es,ep,k _ o (Ne.symm hL) ho,r⟩
 .refine (I.fw b u e).zX (λc v hc q=>k c v ?_ q) (λ_ q=>q) λ_ _ q=>q
  rcases hc with z|z
  .rw [z];exact nit b u e
  .exact nit c _ z
theorem Inv.tok(I:Inv X pins Z H s)(t:Nat):Inv X pins Z H { s with toks:=t }:=I.un (h':=s.heap) (t':=t) Un.refl I.fw
theorem Inv.kept(I:Inv X pins Z H s)(k:∀b u,s.heap.get? b=some u->h'.get? b=some u):Inv X pins Z H { s with heap:=h',toks:=t' }:=I.un (Un.kept k) (I.fw.kept k)
theorem Inv.laid{o:HO}(I:Inv X pins Z H s)(k:∀b u,s.heap.get? b=some u->h'.get? b=some u)(hp:s.heap.objs.size<=a)(new:fv X.prog X.w (upd H a o) h' a o):Inv X pins Z (upd H a o) { s with heap:=h',toks:=t' }:=I.un (Un.laid k hp (I.fw.fresh hp)) (I.fw.laid k hp new)
theorem Inv.write{x e:ai}{o:HO}(I:Inv X pins Z H s)(mu:Yt (H x))(he:e=x\/H e=some (.own x))(k:∀b u,b≠e->s.heap.get? b=some u->h'.get? b=some u)(heo:∃u,h'.get? e=some u)(new:fv X.prog X.w (upd H x o) h' x o):Inv X pins Z (upd H x o) { s with heap:=h',toks:=t' }:=I.un (Un.write mu he k heo) (I.fw.write mu he k heo new)
theorem Inv.Nn{pins':List (ai×jv)}(I:Inv X pins Z H s)(h:∀p∈pins',s.heap.get? p.1=some p.2/\H p.1=none/\p.1≠X.env.locals/\p.1∉X.fs/\∀v,p.2.data≠.cell v):Inv X pins' Z H s:=
 ⟨I.ok,I.os,I.bare,I.base,I.loc,I.cell,I.free,I.sj,λp hp=>(aL.mp hp).elim (λz=>I.pin p (d5 _ z)) (h p),I.fw,I.len⟩
theorem HD(hN:N.Nodup){i j:Nat}{x:bF}(a:N[i]?=some x)(b:N[j]?=some x):i=j:=by obtain⟨h1,e1⟩:=av.mp a;obtain⟨h2,e2⟩:=av.mp b;exact(List.getElem_inj hN).mp (e1.trans e2.symm)
theorem Em{v:V}{Q:Unit->aA->Prop}(I:Inv X pins Z H s)(hN:X.N.Nodup)(hi:X.N[i]?=some x)(hx:Loc X.env.scope x)(r:RelV v u)(h:∀s',Inv X pins (Z.set i (some v)) H s'->(∃a,ia a s.heap s'.heap/\(a=X.env.locals\/X.env.cells.lookup x=some a))->Q () s')(hf:X.fn x=true\/X.env.scope.names.lookup x=some .local:=by first|exact .inl rfl|exact .inr rfl|assumption):aO M A (storeName X.env x u) Q E s:=by
 obtain⟨m,hn,hl⟩:=id I.loc
 have hcls:(X.env.scope.kind == .class || (X.env.scope.kind == .module && X.env.locals != X.env.globals))=false:=by rw[I.ok.kind];rfl
 have hiσ:i<Z.length:=by rw[I.len];exact(av.mp hi).1
 have XB:=I.XB
 have tracked:∀{a:ai}{h':cR},(∃o,s.heap.get? a=some o/\H a=none)->ia a s.heap h'->qG X.prog X.w H h':=λ{a h'} ha hs b ob e=>by
  obtain⟨_,_,hfree⟩:=ha;refine(I.fw b ob e).zX (λc w' hc q=>(hs.2 c ?_).trans q) (λ_ q=>q) λ_ _ q=>q;rintro rfl
  rcases hc with rfl|hc
  .rw [hfree]at e;cases e
  .rw [hfree]at hc;cases hc
 rcases hx with hk|hk
 .refine wpAny_storeName_local hk hn (λh' hn' hs=>?_) hcls;obtain⟨oL,_,_,hoL,_⟩:=id hn;refine h _ ⟨I.ok,I.os,I.bare,⟨λb o e n hb hx=>?_,λb o e n hb hx=>?_,I.base.free,λb o e hx=>?_,I.base.Ee,I.base.CL,I.base.CM⟩,⟨_,hn',λj y v' e1 e2 e3=>?_⟩,λy c e=>?_,I.free,I.sj,λp hp=>?_,tracked ⟨oL,hoL,I.free⟩ hs,by simpa using I.len⟩ ⟨_,hs,.inl rfl⟩
  .exact (hs.2 b (bg (br (aJ e) I.ok.above))).trans (I.base.keep b o e n hb hx)
  .obtain ⟨sl,e1⟩:=I.base.slot b o e n hb hx;exact⟨sl,(hs.2 b (bg (br (aJ e) I.ok.above))).trans e1⟩
  .obtain ⟨o',e1⟩:=I.base.there b o e hx;exact⟨o',(hs.2 b (bg (br (aJ e) I.ok.above))).trans e1⟩
  .by_cases hj:j=i
   .subst hj;rw[hi]at e1;cases e1;rw[lU hiσ]at e2;cases e2;exact⟨u,r,.inl ⟨hk,by simp⟩⟩
   .rw [vn (Ne.symm hj)]at e2;obtain⟨u',r',q⟩:=hl j y v' e1 e2 e3;refine⟨u',r',?_⟩
    rcases q with⟨k,e⟩|⟨k,c,e,z⟩
    .refine .inl ⟨k,?_⟩;have:y≠x:=λe=>hj (HD hN e1 (e▸hi));simp[this,e]
    .exact .inr ⟨k,c,e,z.sameBut hs (XB y c e)⟩
  .obtain ⟨w',z⟩:=I.cell y c e;exact⟨w',z.sameBut hs (XB y c e)⟩
  .obtain ⟨e,n,ne,nf,d⟩:=I.pin p hp;exact⟨(hs.2 p.1 ne).trans e,n,ne,nf,d⟩
 .have hfn:X.fn x=true:=by
   rcases hf with z|z
   .exact z
   .rw [z]at hk;cases hk
  obtain⟨c,hc⟩:=I.ok.has x (.inl hk);obtain⟨w',z⟩:=I.cell x c hc;refine wpAny_storeName_cell I.ok.kind hk hc z (λh' hc' hs=>?_);obtain⟨oc,hoc,hocd⟩:=id z;refine h { s with heap:=h' } ⟨I.ok,I.os,I.bare,⟨λb o e n hb hx=>?_,λb o e n hb hx=>?_,I.base.free,λb o e hx=>?_,I.base.Ee,I.base.CL,I.base.CM⟩,⟨m,hn.sameBut hs (Ne.symm (XB x c hc)),λj y v' e1 e2 e3=>?_⟩,λy c' e=>?_,I.free,I.sj,λp hp=>?_,tracked ⟨oc,hoc,I.sj x c hc⟩ hs,by simpa using I.len⟩ ⟨c,hs,.inr hc⟩
  .exact (hs.2 b (bg (br (aJ e) (I.ok.Yh x c hfn hc)))).trans (I.base.keep b o e n hb hx)
  .obtain ⟨sl,e1⟩:=I.base.slot b o e n hb hx;exact⟨sl,(hs.2 b (bg (br (aJ e) (I.ok.Yh x c hfn hc)))).trans e1⟩
  .obtain ⟨o',e1⟩:=I.base.there b o e hx;exact⟨o',(hs.2 b (bg (br (aJ e) (I.ok.Yh x c hfn hc)))).trans e1⟩
  .by_cases hj:j=i
   .subst hj;rw[hi]at e1;cases e1;rw[lU hiσ]at e2;cases e2;exact⟨u,r,.inr ⟨.inl hk,c,hc,hc'⟩⟩
   .rw [vn (Ne.symm hj)]at e2;obtain⟨u',r',q⟩:=hl j y v' e1 e2 e3;refine⟨u',r',?_⟩
    rcases q with q|⟨k,c',e,z'⟩
    .exact .inl q
    .refine .inr ⟨k,c',e,z'.sameBut hs ?_⟩;rintro rfl;exact hj (HD hN e1 (I.ok.inj _ _ _ e hc▸hi))
  .by_cases hcc:c'=c
   .subst hcc;exact⟨_,hc'⟩
   .obtain ⟨w2,z2⟩:=I.cell y c' e;exact⟨w2,z2.sameBut hs hcc⟩
  .obtain ⟨e,n,ne,nf,d⟩:=I.pin p hp;refine⟨(hs.2 p.1 ?_).trans e,n,ne,nf,d⟩;intro q;rw[q,hoc]at e;have q':oc=p.2:=aX e;exact d w' (by rw[← q'];exact hocd)
theorem qM{v:V}{Q:Unit->aA->Prop}(I:Inv X pins Z H s)(hN:X.N.Nodup)(hi:X.N[i]?=some x)(hx:Loc X.env.scope x)(r:RelV v u)(h:∀s',Inv X pins (Z.set i (some v)) H s'->Q () s')(hf:X.fn x=true\/X.env.scope.names.lookup x=some .local:=by first|exact .inl rfl|exact .inr rfl|assumption):aO M A (storeName X.env x u) Q E s:=
 Em I hN hi hx r (λs' I' _=>h s' I') hf
theorem Inv.ZQ(I:Inv X pins Z H s)(ho:s'.os=s.os)(u:Un (Ou X.stack) ch H H' s.heap s'.heap)(fw:qG X.prog X.w H' s'.heap)(hg:xj s'.gens)(hch:∀b∈ch,(b∈X.ex\/X.s₀.heap.objs.size<=b)/\b≠X.env.locals/\(∀x c,X.env.cells.lookup x=some c->c≠b)/\∀p∈X.pn++pins,p.1≠b):Inv X pins Z H' s':=by obtain⟨h',g',d',t',o'⟩:=s';have e:o'=s.os:=ho;subst e;exact I.call (g':=g') (t':=t') (d':=d') u fw hg hch
end
abbrev XK:=ak->Option ai->Hp->Prop
abbrev St:=List (Option V)
abbrev VK:=V->Hp->Prop
abbrev TE:=St->Hp->VK->Prop
abbrev TT:=St->Hp->(Bool->Hp->Prop)->Prop
abbrev TA:=St->Hp->(List V->Hp->Prop)->Prop
structure vA where
 nx:St->Hp->Prop
 rt:VK
 bk:St->Hp->Prop:=λ_ _=>False
 ct:St->Hp->Prop:=λ_ _=>False
abbrev TS:=vA->St->Hp->Prop
def EP(X:Cx)(pins:List (ai×jv))(Z:St)(Q:VK)(u:ak)(s':aA):Prop:=∃v H',Inv X pins Z H' s'/\RelV v u/\Q v H'
def TP(X:Cx)(pins:List (ai×jv))(Z:St)(Q:Bool->Hp->Prop)(b:Bool)(s':aA):Prop:=∃H',Inv X pins Z H' s'/\Q b H'
def AP(X:Cx)(pins:List (ai×jv))(Z:St)(Q:List V->Hp->Prop)(us:List ak)(s':aA):Prop:=∃vs H',Inv X pins Z H' s'/\Vals vs us/\Q vs H'
def SP(X:Cx)(pins:List (ai×jv))(D:vA)(f:Flow)(s':aA):Prop:=
 match f with
 | .next=>∃σ' H',Inv X pins σ' H' s'/\D.nx σ' H'
 | .brk=>∃σ' H',Inv X pins σ' H' s'/\D.bk σ' H'
 | .cont=>∃σ' H',Inv X pins σ' H' s'/\D.ct σ' H'
 | .ret u=>∃v σ' H',Inv X pins σ' H' s'/\RelV v u/\D.rt v H'
def PE(X:Cx)(e:Expr)(t:TE):Prop:=
 ∀(pins:List (ai×jv)) (s:aA) (Z:St) (H:Hp) (Q:VK),Inv X pins Z H s->t Z H Q->aO (aR X.prog X.w) X.A (fz e X.env) (EP X pins Z Q) X.xe s
def PT(X:Cx)(e:Expr)(t:TT):Prop:=
 ∀(pins:List (ai×jv)) (s:aA) (Z:St) (H:Hp) (Q:Bool->Hp->Prop),Inv X pins Z H s->t Z H Q->aO (aR X.prog X.w) X.A (isTrue e X.env (fz e X.env)) (TP X pins Z Q) X.xe s
def PW(X:Cx)(e:Expr)(t:TT):Prop:=
 ∀(whole:Uz ak) (pins:List (ai×jv)) (s:aA) (Z:St) (H:Hp) (Q:Bool->Hp->Prop),Inv X pins Z H s->t Z H Q->aO (aR X.prog X.w) X.A (isTrue e X.env whole) (TP X pins Z Q) X.xe s
theorem PW.pt{X:Cx}{t:TT}(h:PW X e t):PT X e t:=h _
def PA(X:Cx)(es:List Expr)(t:TA):Prop:=
 ∀(pos:xu) (pins:List (ai×jv)) (s:aA) (Z:St) (H:Hp) (Q:List V->Hp->Prop),Inv X pins Z H s->t Z H Q->aO (aR X.prog X.w) X.A (UA (iA pos (bL es X.env))) (AP X pins Z Q) X.xe s
def PS(X:Cx)(st:dP)(t:TS):Prop:=
 ∀(pins:List (ai×jv)) (s:aA) (Z:St) (H:Hp) (D:vA),Inv X pins Z H s->t D Z H->aO (aR X.prog X.w) X.A (exec st X.env) (SP X pins D) X.xe s
def J9(X:Cx)(st:List dP)(t:TS):Prop:=
 ∀(pins:List (ai×jv)) (s:aA) (Z:St) (H:Hp) (D:vA),Inv X pins Z H s->t D Z H->aO (aR X.prog X.w) X.A (execs st X.env) (SP X pins D) X.xe s
theorem hZ{α:Type}{t:Uz α}{Q Q':α->aA->Prop}(h:aO M A t Q E s)(hQ:∀a s,Q a s->Q' a s):aO M A t Q' E s:=dQ h hQ λ_ _ x=>x
section
variable{X:Cx}
def aq(i:Nat):TE:=λZ H Q=>∃v,Z[i]?=some (some v)/\Q v H
def tC(v:V):TE:=λ_ H Q=>Q v H
theorem Wc(hN:X.N[i]?=some x)(hv:Vis X.env.scope x)(hd:(x == ("__debug__":bF))=false:=by decide)(hcd:(x == ("__classdict__":bF))=false:=by decide):PE X (.Name x pos) (aq i):=by
 intro pins s Z H Q I h;obtain⟨v,e,h⟩:=h;obtain⟨m,hn,hl⟩:=I.loc;obtain⟨u,r,l⟩:=hl i x v hN e hv
 have fin:EP X pins Z Q u s:=⟨v,H,I,r,h⟩
 rcases l with⟨hk,hm⟩|⟨hk,c,hc,hcell⟩
 .exact xk (oQ I.ok.kind hk hn hm fin) hd
 .rcases hk with hk|hk
  .exact xk (Yk I.ok.kind hk hc hcell fin) hd
  .exact xk (Yl I.ok.kind hk hc hcell fin hcd) hd
theorem ni{i j pos}:PE X (.Constant (.int i) j pos) (tC (.int i)):=λ_ _ _ H _ I h=>wpAny_Constant_int ⟨.int i,H,I.tok _,⟨_,rfl⟩,h⟩
theorem US{b j pos}:PE X (.Constant (.bool b) j pos) (tC (.bl b)):=λ_ _ _ H _ I h=>Constant_bool ⟨.bl b,H,I,rfl,h⟩
theorem We{j pos}:PE X (.Constant .none j pos) (tC .non):=λ_ _ _ H _ I h=>Sa ⟨.non,H,I,rfl,h⟩
theorem qN{x j pos}:PE X (.Constant (.str x) j pos) (tC (.str x)):=λ_ _ _ H _ I h=>Calls.Constant_str ⟨.str x,H,I.tok _,⟨_,rfl⟩,h⟩
def Gl(X:Cx)(x:bF):Prop:=X.env.kindOf x=some .globalImplicit
theorem Fs{Z:St}{H:Hp}(I:Inv X pins Z H s)(hg:Gl X x)(hm:X.mg x=some u)(h:Q u s)(hd:(x == ("__debug__":bF))=false:=by decide):aO (aR X.prog X.w) X.A (fz (.Name x pos) X.env) Q E s:=
 G9 I.ok.kind hg (Calls.loadGlobal_global (by rw[I.ok.glob];exact I.mod.glob.keeps I.bk) hm h) hd
theorem nj{Z:St}{H:Hp}(I:Inv X pins Z H s)(hg:Gl X x)(hm:X.mg x=none)(hv:dE x=some u)(h:Q u s)(hn:x≠"__name__":=by decide)(hd:(x == ("__debug__":bF))=false:=by decide):aO (aR X.prog X.w) X.A (fz (.Name x pos) X.env) Q E s:=by obtain⟨mb,h1,h2⟩:=I.mod.blt;exact G9 I.ok.kind hg (Calls.loadGlobal_builtin (by rw[I.ok.glob];exact I.mod.glob.keeps I.bk) hm (by rw[I.ok.blt];exact h1.keeps I.bk) ((h2 x hn).trans hv) h) hd
theorem SJ{v:V}(hg:Gl X x)(hm:X.mg x=some u)(r:RelV v u)(hd:(x == ("__debug__":bF))=false:=by decide):PE X (.Name x pos) (tC v):=
 λ_ _ _ H _ I h=>Fs I hg hm ⟨v,H,I,r,h⟩ hd
theorem Mq{v:V}(hg:Gl X x)(hm:X.mg x=none)(hv:dE x=some u)(r:RelV v u)(hn:x≠"__name__":=by decide)(hd:(x == ("__debug__":bF))=false:=by decide):PE X (.Name x pos) (tC v):=
 λ_ _ _ H _ I h=>nj I hg hm hv ⟨v,H,I,r,h⟩ hn hd
variable{a b:Expr}{ta tb:TE}
def PC(X:Cx)(op:CmpOp)(a b:Expr)(t:TE):Prop:=
 ∀(pins:List (ai×jv)) (s:aA) (Z:St) (H:Hp) (Q:VK),Inv X pins Z H s->t Z H Q ->aO (aR X.prog X.w) X.A (fz a X.env) (λv s₁=>aO (aR X.prog X.w) X.A (fz b X.env) (λu s₂=>aO (aR X.prog X.w) X.A (dw op v u) (EP X pins Z Q) X.xe s₂) X.xe s₁) X.xe s
theorem HE(b:Expr){op:CmpOp}(h:op≠.In)(h2:op≠.NotIn):jV op b=false:=by
 have e1:(op == CmpOp.In)=false:=by cases op<;>first|rfl|exact absurd rfl h
 have e2:(op == CmpOp.NotIn)=false:=by cases op<;>first|rfl|exact absurd rfl h2
 cases b<;>simp[jV,e1,e2]
def Wg(ta:TE):TE:=λZ H Q=>ta Z H λx H1=>Q (.bl (decide (x=.non))) H1
def HF(ta:TE):TE:=λZ H Q=>ta Z H λx H1=>Q (.bl (!decide (x=.non))) H1
theorem RelV.JV{x:V}(r:RelV x v):(v == dZ)=decide (x=.non):=by
 cases x with
 |non=>cases r;rfl
 |bl _=>cases r;rfl
 |int _=>obtain⟨t,rfl⟩:=r;rfl
 |str _=>obtain⟨t,rfl⟩:=r;rfl
 |byt _=>obtain⟨t,rfl⟩:=r;rfl
 |flt _=>obtain⟨t,rfl⟩:=r;rfl
 |ref _=>cases r;rfl
 |ty _=>cases r;rfl
theorem Wh{j pos'}(ha:PE X a ta):PC X .Is a (.Constant .none j pos') (Wg ta):=by intro pins s Z H Q I h;refine hZ (ha pins s Z H _ I h) λv s1 ⟨x,H1,I1,r1,q1⟩=>?_;exact Sa (is_none_gen ⟨.bl _,H1,I1,by rw[r1.JV];rfl,q1⟩)
theorem Ft{j pos'}(ha:PE X a ta):PC X .IsNot a (.Constant .none j pos') (HF ta):=by intro pins s Z H Q I h;refine hZ (ha pins s Z H _ I h) λv s1 ⟨x,H1,I1,r1,q1⟩=>?_;exact Sa (isnot_none_gen ⟨.bl _,H1,I1,by rw[r1.JV];rfl,q1⟩)
def tB(t:TE):TT:=λZ H Q=>t Z H λx H1=>∃c,x=.bl c/\Q c H1
theorem Wi{t:TE}(h:PC X op a b t)(h1:jV op b=false:=by first|exact HE _ (by decide) (by decide)|rfl):PE X (.Compare a [op] [b] pos) t:=λpins s Z H Q I hw=>wpAny_Compare1 (h pins s Z H Q I hw) h1
theorem Kl{t:TE}(h:PC X op a b t)(h1:jV op b=false:=by first|exact HE _ (by decide) (by decide)|rfl):PT X (.Compare a [op] [b] pos) (tB t):=by intro pins s Z H Q I hw;refine VT (hZ (h pins s Z H _ I hw) λv s1 h1=>hZ h1 λu s2 h2=>hZ h2 λc s3 ⟨x,H1,I1,r1,q1⟩=>?_) h1;obtain⟨d,rfl,q⟩:=q1;cases r1;exact kb ⟨H1,I1,q⟩
variable{tA tB':TT}{rest:List Expr}
def zx(t u:TT):TT:=λZ H Q=>t Z H λc H1=>if c=true then u Z H1 Q else Q false H1
def tOr(t u:TT):TT:=λZ H Q=>t Z H λc H1=>if c=true then Q true H1 else u Z H1 Q
def HG(t:TT):TT:=λZ H Q=>t Z H λc H1=>Q (!c) H1
theorem SK(ha:PT X a tA):PW X (.BoolOp .And [a] pos) tA:=by
 intro wh pins s Z H Q I h;refine isTrue_and (hZ (ha pins s Z H Q I h) λc s1 e=>?_)
 cases c with
 |true=>exact isTrue_and_nil e
 |false=>exact e
theorem Wj(ha:PT X a tA):PW X (.BoolOp .Or [a] pos) tA:=by
 intro wh pins s Z H Q I h;refine isTrue_or (hZ (ha pins s Z H Q I h) λc s1 e=>?_)
 cases c with
 |false=>exact isTrue_or_nil e
 |true=>exact e
theorem Wk(ha:PT X a tA)(hb:PW X (.BoolOp .And (b::rest) pos) tB'):PW X (.BoolOp .And (a::b::rest) pos) (zx tA tB'):=by
 intro wh pins s Z H Q I h;refine isTrue_and (hZ (ha pins s Z H _ I h) λc s1 ⟨H1,I1,q1⟩=>?_)
 cases c with
 |true=>exact hb wh pins s1 Z H1 Q I1 q1
 |false=>exact⟨H1,I1,q1⟩
theorem Yu(ha:PT X a tA)(hb:PW X (.BoolOp .Or (b::rest) pos) tB'):PW X (.BoolOp .Or (a::b::rest) pos) (tOr tA tB'):=by
 intro wh pins s Z H Q I h;refine isTrue_or (hZ (ha pins s Z H _ I h) λc s1 ⟨H1,I1,q1⟩=>?_)
 cases c with
 |true=>exact⟨H1,I1,q1⟩
 |false=>exact hb wh pins s1 Z H1 Q I1 q1
theorem O9(ha:PT X a tA):PT X (.UnaryOp .Not a pos) (HG tA):=by intro pins s Z H Q I h;exact isTrue_not (ha pins s Z H (λc H1=>Q (!c) H1) I h)
def En(ta tb:TE):TE:=λZ H Q=>ta Z H λx H1=>∃c,x=.bl c/\if c=true then tb Z H1 Q else Q (.bl false) H1
def Pa(ta:TE):TE:=λZ H Q=>ta Z H λx H1=>∃c,x=.bl c/\Q (.bl (!c)) H1
theorem Fv{op}{t:TE}(h:PE X a t):PE X (.BoolOp op [a] pos) t:=λpins s Z H Q I hw=>BoolOp_one (h pins s Z H Q I hw)
theorem Fw(ha:PE X a ta)(hb:PE X (.BoolOp .And (b::rest) pos) tb):PE X (.BoolOp .And (a::b::rest) pos) (En ta tb):=by
 intro pins s Z H Q I h;refine BoolOp_and (hZ (ha pins s Z H _ I h) λv s1 ⟨x,H1,I1,r1,q1⟩=>?_);obtain⟨c,rfl,q1⟩:=q1;cases r1;refine kb ?_
 cases c with
 |true=>exact hb pins s1 Z H1 Q I1 q1
 |false=>exact⟨.bl false,H1,I1,rfl,q1⟩
theorem Wl(ha:PE X a ta):PE X (.UnaryOp .Not a pos) (Pa ta):=by intro pins s Z H Q I h;refine UnaryOp_ (hZ (ha pins s Z H _ I h) λv s1 ⟨x,H1,I1,r1,q1⟩=>?_);obtain⟨c,rfl,q1⟩:=q1;cases r1;exact not_of (kb ⟨.bl (!c),H1,I1,rfl,q1⟩)
def Ye(t:TT)(ta tb:TE):TE:=λZ H Q=>t Z H λc H1=>if c=true then ta Z H1 Q else tb Z H1 Q
theorem vB(hc:PT X c tA)(ha:PE X a ta)(hb:PE X b tb):PE X (.IfExp c a b pos) (Ye tA ta tb):=by
 intro pins s Z H Q I h;refine wpAny_IfExp (hZ (hc pins s Z H _ I h) λd s1 ⟨H1,I1,q1⟩=>?_)
 cases d with
 |true=>exact ha pins s1 Z H1 Q I1 q1
 |false=>exact hb pins s1 Z H1 Q I1 q1
end
def c6(K:aa)(H:Hp)(a:ai)(xs:List V):Prop:=
 Rd H a (.lst xs) \/∃(o:jv) (its:Array ak) (n:Nat),K.lookup a=some o/\o.cls=.type "list"/\o.dict=none/\o.data=.seq its n/\its.size<=aY/\Vals xs its.toList
def jq(K:aa)(H:Hp)(a:ai)(xs:List V):Prop:=
 Rd H a (.tup xs) \/∃(o:jv) (its:Array ak) (n:Nat),K.lookup a=some o/\o.cls=.type "tuple"/\o.data=.seq its n/\its.size<=aY/\Vals xs its.toList
def absV:ak->Option V
 | .none=>some .non
 | .bool b=>some (.bl b)
 | .int i _=>some (.int i)
 | .str x _=>some (.str x)
 | .bytes b _=>some (.byt b)
 | .float b _=>some (.flt b)
 | .ref a=>some (.ref a)
 | .type n=>some (.ty n)
 |_=>none
theorem RelV.abs{x:V}(r:RelV x u):absV u=some x:=by
 cases x with
 |non=>cases r;rfl
 |bl _=>cases r;rfl
 |int _=>obtain⟨t,rfl⟩:=r;rfl
 |str _=>obtain⟨t,rfl⟩:=r;rfl
 |byt _=>obtain⟨t,rfl⟩:=r;rfl
 |flt _=>obtain⟨t,rfl⟩:=r;rfl
 |ref _=>cases r;rfl
 |ty _=>cases r;rfl
theorem RelV.inj{x y:V}(r:RelV x u)(q:RelV y u):x=y:=aX (r.abs.symm.trans q.abs)
theorem Vals.inj{xs ys:List V}(h:Vals xs us):Vals ys us->xs=ys:=by
 induction h generalizing ys with
 |nil=>intro q;cases q;rfl
 |cons r _ ih=>
  intro q
  cases q with
  |cons r' t'=>rw[r.inj r',ih t']
section
variable{X:Cx}{Z:St}{H:Hp}{xs ys:List V}
theorem c6.of{K:aa}(h:H a=some (.lst xs)):c6 K H a xs:=.inl (.inl h)
theorem jq.of{K:aa}(h:H a=some (.tup xs)):jq K H a xs:=.inl (.inl h)
theorem Inv.list(I:Inv X pins Z H s)(h:c6 X.K H a xs):∃its:List ak,Vals xs its/\PlainL s.heap a its.toArray/\xs.length<=aY:=by
 rcases h with h|⟨o,its,n,hk,hc,hd,hs,hz,r⟩
 .obtain ⟨z,its,n,r,e⟩:=h.ok I.fw;exact⟨its,r,⟨_,n,e,rfl,rfl,rfl⟩,z⟩
 .refine ⟨its.toList,r,⟨o,n,I.zY a o hk,hc,hd,by simpa using hs⟩,?_⟩;have e:=r.length;simp only[aS]at e;lia
theorem Inv.tuple(I:Inv X pins Z H s)(h:jq X.K H a xs):∃its:List ak,Vals xs its/\xv s.heap a its.toArray/\xs.length<=aY:=by
 rcases h with h|⟨o,its,n,hk,hc,hs,hz,r⟩
 .obtain ⟨z,its,r,p⟩:=h.ok I.fw;exact⟨its,r,p,z⟩
 .refine ⟨its.toList,r,⟨o,I.zY a o hk,hc,n,by simpa using hs⟩,?_⟩;have e:=r.length;simp only[aS]at e;lia
theorem Inv.RX(I:Inv X pins Z H s)(h:c6 X.K H a xs)(h':c6 X.K H a ys):xs=ys:=by
 obtain⟨its,r,⟨o,n,e,_,_,d⟩,_⟩:=I.list h;obtain⟨its',r',⟨o',n',e',_,_,d'⟩,_⟩:=I.list h';rw[e]at e';cases e';rw[d]at d'
 injection d' with d1 _
 have:its=its':=by simpa using congrArg Array.toList d1
 subst this;exact r.inj r'
theorem Inv.OB(I:Inv X pins Z H s)(h:jq X.K H a xs)(h':jq X.K H a ys):xs=ys:=by
 obtain⟨its,r,⟨o,e,_,n,d⟩,_⟩:=I.tuple h;obtain⟨its',r',⟨o',e',_,n',d'⟩,_⟩:=I.tuple h';rw[e]at e';cases e';rw[d]at d'
 injection d' with d1 _
 have:its=its':=by simpa using congrArg Array.toList d1
 subst this;exact r.inj r'
end
abbrev Cx.Ea(X:Cx)(E:ak->aA->Prop):Cx:={ X with xe:=E }
abbrev Cx.VQ(X:Cx):Cx:=X.Ea λ_ _=>False
theorem Cx.Ok.Ea{X:Cx}(ok:X.Ok)(E:ak->aA->Prop):(X.Ea E).Ok:=
 ⟨ok.mod,ok.kind,ok.glob,ok.blt,ok.above,ok.inj,ok.has,ok.Yh,ok.hd,ok.frames,ok.ZT,ok.exf,ok.bs,ok.R6,ok.Os,ok.Oq,ok.yw,ok.VL⟩
theorem Cx.Ok.si{X:Cx}(ok:(X.Ea E).Ok):X.Ok:=
 ⟨ok.mod,ok.kind,ok.glob,ok.blt,ok.above,ok.inj,ok.has,ok.Yh,ok.hd,ok.frames,ok.ZT,ok.exf,ok.bs,ok.R6,ok.Os,ok.Oq,ok.yw,ok.VL⟩
section
variable{X:Cx}{Z:St}{H:Hp}
theorem Inv.Ea(I:Inv X pins Z H s)(E:ak->aA->Prop):Inv (X.Ea E) pins Z H s:=⟨I.ok.Ea E,I.os,I.bare,I.base,I.loc,I.cell,I.free,I.sj,I.pin,I.fw,I.len⟩
theorem Inv.si(I:Inv (X.Ea E) pins Z H s):Inv X pins Z H s:=⟨I.ok.si,I.os,I.bare,I.base,I.loc,I.cell,I.free,I.sj,I.pin,I.fw,I.len⟩
theorem SP.si{D:vA}{f:Flow}(h:SP (X.Ea E) pins D f s'):SP X pins D f s':=by
 cases f with
 |next=>obtain⟨σ',H',I,q⟩:=h;exact⟨σ',H',I.si,q⟩
 |brk=>obtain⟨σ',H',I,q⟩:=h;exact⟨σ',H',I.si,q⟩
 |cont=>obtain⟨σ',H',I,q⟩:=h;exact⟨σ',H',I.si,q⟩
 |ret u=>obtain⟨v,σ',H',I,r,q⟩:=h;exact⟨v,σ',H',I.si,r,q⟩
theorem J9.VQ{st:List dP}{t:TS}(h:J9 X.VQ st t):J9 X st t:=λpins s Z H D I hw =>dQ (h pins s Z H D (I.Ea _) hw) (λ_ _ q=>q.si) λ_ _ z=>ik z
end
section
variable{X:Cx}{st:dP}{rest:List dP}{t u:TS}{te:TE}
def eJ:TS:=λD Z H=>D.nx Z H
def bP(t u:TS):TS:=λD Z H=>t { D with nx:=u D } Z H
theorem fc:J9 X [] eJ:=λ_ _ Z H _ I h=>xB ⟨Z,H,I,h⟩
theorem aE(h1:PS X st t)(h2:J9 X rest u):J9 X (st::rest) (bP t u):=by
 intro pins s Z H D I h;refine wpAny_execs_cons (hZ (h1 pins s Z H { D with nx:=u D } I h) λf s1 q=>?_)
 cases f with
 |next=>
  obtain⟨σ',H',I',q⟩:=q
  exact h2 pins s1 σ' H' D I' q
 |ret v=>exact q
 |brk=>exact q
 |cont=>exact q
theorem bW(h1:PS X st t):J9 X [st] t:=by
 intro pins s Z H D I h;refine wpAny_execs_cons (hZ (h1 pins s Z H D I h) λf s1 q=>?_)
 cases f with
 |next=>exact xB q
 |ret v=>exact q
 |brk=>exact q
 |cont=>exact q
theorem Inv.quiet{Z:St}{H:Hp}(I:Inv X pins Z H s):interactive X.env=false:=by simp[interactive,I.ok.kind]
def gU(te:TE):TS:=λD Z H=>te Z H λ_ H1=>D.nx Z H1
theorem Ag(he:PE X e te)(hs:Ar e none pos.line X.env=pure false:=by rfl):PS X (.Expr e pos) (gU te):=by intro pins s Z H D I h;exact wpAny_Expr_any (hZ (he pins s Z H _ I h) λv s1 ⟨x,H1,I1,r1,q1⟩=>⟨Z,H1,I1,q1⟩) I.quiet hs
def dW(te:TE):TS:=λD Z H=>te Z H D.rt
theorem d9(he:PE X e te):PS X (.Return (some e) pos) (dW te):=by intro pins s Z H D I h;exact wpAny_Return_some (hZ (he pins s Z H _ I h) λv s1 ⟨x,H1,I1,r1,q1⟩=>⟨x,Z,H1,I1,r1,q1⟩)
def ie(c:TT)(t u:TS):TS:=λD Z H=>c Z H λb H1=>if b=true then t D Z H1 else u D Z H1
theorem jl{a b:List dP}{tc:TT}(hc:PT X c tc)(ha:J9 X a t)(hb:J9 X b u):PS X (.If c a b pos) (ie tc t u):=by
 intro pins s Z H D I h;refine wpAny_If (hZ (hc pins s Z H _ I h) λd s1 ⟨H1,I1,q1⟩=>?_)
 cases d with
 |true=>exact ha pins s1 Z H1 D I1 q1
 |false=>exact hb pins s1 Z H1 D I1 q1
def qO:TS:=λ_ _ _=>False
theorem nr:PS X st qO:=λ_ _ _ _ _ _ h=>h.elim
end
abbrev TG:=V->St->Hp->(St->Hp->Prop)->Prop
abbrev Sr:=List V->St->Hp->(St->Hp->Prop)->Prop
def PG(X:Cx)(target:Expr)(t:TG):Prop:=
 ∀(pins:List (ai×jv)) (s:aA) (Z:St) (H:Hp) (v:V) (u:ak) (Q:St->Hp->Prop),Inv X pins Z H s->RelV v u->t v Z H Q ->aO (aR X.prog X.w) X.A (JX target X.env u) (λ_ s'=>∃σ' H',Inv X pins σ' H' s'/\Q σ' H') X.xe s
def Yv(X:Cx)(ts:List Expr)(t:Sr):Prop:=
 ∀(pins:List (ai×jv)) (s:aA) (Z:St) (H:Hp) (vs:List V) (us:List ak) (Q:St->Hp->Prop),Inv X pins Z H s->Vals vs us->t vs Z H Q ->aO (aR X.prog X.w) X.A (Sb ((nY ts X.env).map (·.2)) us) (λ_ s'=>∃σ' H',Inv X pins σ' H' s'/\Q σ' H') X.xe s
abbrev SL:=V->V->V->Hp->(Hp->Prop)->Prop
def SN(X:Cx)(t:SL):Prop:=
 ∀(pins:List (ai×jv)) (s:aA) (Z:St) (H:Hp) (o i v:V) (ov iv u:ak) (Q:Hp->Prop),Inv X pins Z H s->RelV o ov->RelV i iv->RelV v u->t o i v H Q ->aO (aR X.prog X.w) X.A (setItem ov iv u) (λ_ s'=>∃H',Inv X pins Z H' s'/\Q H') X.xe s
abbrev TIp:=V->V->Hp->VK->Prop
def PIp(X:Cx)(op:Ha)(t:TIp):Prop:=
 ∀(pins:List (ai×jv)) (s:aA) (Z:St) (H:Hp) (x y:V) (v u:ak) (Q:VK),Inv X pins Z H s->RelV x v->RelV y u->t x y H Q ->aO (aR X.prog X.w) X.A (As op v u) (EP X pins Z Q) X.xe s
section
variable{X:Cx}
def bp(i:Nat):TG:=λv Z H Q=>Q (Z.set i (some v)) H
theorem SQ(hN:X.N.Nodup)(hi:X.N[i]?=some x)(hx:Loc X.env.scope x)(hf:X.fn x=true\/X.env.scope.names.lookup x=some .local:=by first|exact .inl rfl|exact .inr rfl|assumption):PG X (.Name x pos) (bp i):=by intro pins s Z H v u Q I r h;exact wpAny_assign_Name (qM I hN hi hx r (λs' I'=>⟨_,H,I',h⟩) hf)
def C6:Sr:=λvs Z H Q=>vs=[]/\Q Z H
def jm(t:TG)(u:Sr):Sr:=λvs Z H Q=>∃v r,vs=v::r/\t v Z H λσ' H'=>u r σ' H' Q
theorem Ah:Yv X [] C6:=by intro pins s Z H vs us Q I r h;obtain⟨e,h⟩:=h;subst e;cases r;exact assignInOrder_nil ⟨Z,H,I,h⟩
theorem iL{t:TG}{u:Sr}(h1:PG X e t)(h2:Yv X es u)(hs:(nY (e::es) X.env).map (·.2)=JX e X.env::(nY es X.env).map (·.2):=by rfl):Yv X (e::es) (jm t u):=by
 intro pins s Z H vs us Q I r h;obtain⟨v,vr,e1,h⟩:=h;subst e1
 cases r with
 |cons r rr=>
  rw[hs];refine Eg (hZ (h1 pins s Z H _ _ _ I r h) λ_ s1 ⟨σ1,H1,I1,q1⟩=>?_);exact h2 pins s1 σ1 H1 _ _ Q I1 rr q1
def AA(K:aa)(n:Nat)(t:Sr):TG:=λv Z H Q=>∃a xs,v=.ref a/\jq K H a xs/\xs.length=n/\t xs Z H Q
theorem Fx{t:Sr}(hc:X.calm=true)(h:Yv X es t)(hn:(nY es X.env).length=n:=by rfl)(hst:(nY es X.env).findIdx? (·.1)=none:=by rfl):PG X (.Tuple es k pos) (AA X.K n t):=by intro pins s Z H v u Q I r hw;obtain⟨a,xs,e1,hq,hl,hw⟩:=hw;subst e1;cases r;obtain⟨its,rv,ht,hz⟩:=I.tuple hq;refine assign_Tuple_tuple (I.ok.hd hc) ht (by simp[hn,← hl,rv.length]) hst λh' hx=>?_;have I1:Inv X pins Z H { s with heap:=h' }:=I.kept (t':=s.toks) λb o e=>hx b o (bg (aJ e)) e;exact h pins _ Z H xs _ Q I1 (by simpa using rv) hw
def AB(to ti:TE)(t:SL):TG:=λv Z H Q=>to Z H λo H1=>ti Z H1 λi H2=>t o i v H2 λH3=>Q Z H3
theorem Wm{o i:Expr}{to ti:TE}{t:SL}(ho:PE X o to)(hi:PE X i ti)(hs:SN X t)(ha:∀v,JX (.Subscript o i pos) X.env v=(do
  let ov ← kZ [v] (fz o X.env)
  let iv ← kZ [v,ov] (fz i X.env)
  xm pos
  kZ [v,ov,iv] (setItem ov iv v)
  release [v,ov,iv] []):=by intro _;rfl):PG X (.Subscript o i pos) (AB to ti t):=by
 intro pins s Z H v u Q I r h;rw[ha];refine ae (cJ (hZ (ho pins s Z H _ I h) λov s1 ⟨x,H1,I1,r1,q1⟩=>?_));refine ae (cJ (hZ (hi pins s1 Z H1 _ I1 q1) λiv s2 ⟨y,H2,I2,r2,q2⟩=>?_));refine ae (tD (ae (cJ (hZ (hs pins s2 Z H2 x y v ov iv u _ I2 r1 r2 r q2) λ_ s3 ⟨H3,I3,q3⟩=>?_))));exact wpAny_release ⟨Z,H3,I3,q3⟩
def cU(te:TE)(g:TG):TS:=λD Z H=>te Z H λx H1=>g x Z H1 D.nx
theorem Pb{te:TE}{g:TG}(he:PE X e te)(hg:PG X tg g)(hs:swapsWithSole [tg] e pos.line X.env=pure false:=by rfl)(hw:swappedStores [tg] e X.env=pure none:=by rfl)(h1:(nY [tg] X.env).map (·.2)=[JX tg X.env]:=by rfl):PS X (.Assign [tg] e pos) (cU te g):=by intro pins s Z H D I h;refine wpAny_Assign_stores (hZ (he pins s Z H _ I h) λv s1 ⟨x,H1,I1,r1,q1⟩=>?_) hs hw;rw[h1];exact hZ (hg pins s1 Z H1 x v _ I1 r1 q1) λ_ s2 q=>q
theorem Km{te:TE}(hN:X.N.Nodup)(hi:X.N[i]?=some x)(hx:Loc X.env.scope x)(he:PE X e te)(hs:Ar e (some (.Name x pos')) pos.line X.env=pure false:=by rfl)(hf:X.fn x=true\/X.env.scope.names.lookup x=some .local:=by first|exact .inl rfl|exact .inr rfl|assumption):PS X (.Assign [.Name x pos'] e pos) (cU te (bp i)):=by intro pins s Z H D I h;refine wpAny_Assign_Name (hZ (he pins s Z H _ I h) λv s1 ⟨y,H1,I1,r1,q1⟩=>?_) hs;exact qM I1 hN hi hx r1 (λs2 I2=>⟨_,H1,I2,q1⟩) hf
def Wn(i j:Nat)(ta:TA):TS:=λD Z H=>ta Z H λvs H1=>∃v w,vs=[v,w]/\D.nx ((Z.set i (some v)).set j (some w)) H1
theorem Wo{y:bF}{a b:Expr}{ta:TA}{px py pt:xu}{kt k2 pt2}(hc:X.calm=true)(hN:X.N.Nodup)(hi:X.N[i]?=some x)(hj:X.N[j]?=some y)(hij:i≠j)(hx:X.env.scope.names.lookup x=some .local)(hy:X.env.scope.names.lookup y=some .local)(ha:PA X [a,b] ta)(hw:swappedStores [.Tuple [.Name x px,.Name y py] kt pt] (.Tuple [a,b] k2 pt2) X.env=pure (some [x,y]))(hs:swapsWithSole [.Tuple [.Name x px,.Name y py] kt pt] (.Tuple [a,b] k2 pt2) pos.line X.env=pure false:=by rfl):PS X (.Assign [.Tuple [.Name x px,.Name y py] kt pt] (.Tuple [a,b] k2 pt2) pos) (Wn i j ta):=by
 intro pins s Z H D I h;rw[exec_Assign_arm];refine ae (tD ?_);rw[hs];refine ae (ar ?_);rw[if_neg (by decide)];refine ae (Tuple_ (hZ (ha _ pins s Z H _ I h) λus s1 ⟨vs,H1,I1,r1,q1⟩=>?_));obtain⟨v,w,e1,q1⟩:=q1;subst e1
 obtain⟨u1,u2,rfl,rv,rw'⟩:∃u1 u2,us=[u1,u2]/\RelV v u1/\RelV w u2:=by
  cases r1 with
  |cons p q=>
   cases q with
   |cons p' q'=>
    cases q';exact⟨_,_,rfl,p,p'⟩
 refine df ?_ (by show 2<=aY;decide);have I2:Inv X pins Z H1 { s1 with heap:=s1.heap.push { cls:=.type "tuple",data:=.seq [u1,u2].toArray } }:=I1.kept (t':=s1.toks) λb o e=>ao _ e;rw[hw];refine ae (ar ?_)
 show aO (aR X.prog X.w) X.A (do CO "assign.swapped-stores";let items ← unpackItems (.ref s1.heap.objs.size) 2 none;Sb [λv=>XQ X.env y v,λv=>XQ X.env x v] items.reverse;pure Flow.next) _ _ _
 refine ae (ib (ae (unpackItems_tuple (items:=#[u1,u2]) (I.ok.hd hc) (IsTup.new s1.heap _) λh' hx'=>?_)));have I3:=I2.kept (h':=h') (t':=s1.toks) λb o e=>hx' b o (bg (aJ e)) e
 show aO _ _ (Sb [λv=>XQ X.env y v,λv=>XQ X.env x v] [u2,u1] >>= λ_=>pure Flow.next) _ _ _
 refine ae (Eg (wpAny_bindName (qM I3 hN hj (.inl hy) rw' (λs2 I4=>?_) (.inr hy))));refine Eg (wpAny_bindName (qM I4 hN hi (.inl hx) rv (λs3 I5=>assignInOrder_nil (ar ?_)) (.inr hx)));rw[List.set_comm _ _ (Ne.symm hij)]at I5;exact⟨_,H1,I5,q1⟩
def Pc(i:Nat)(te:TE)(ti:TIp):TS:=λD Z H=>∃x,Z[i]?=some (some x)/\te Z H λy H1=>ti x y H1 λz H2=>D.nx (Z.set i (some z)) H2
theorem Kn{te:TE}{op:Ha}{ti:TIp}(hN:X.N.Nodup)(hi:X.N[i]?=some x)(hx:Loc X.env.scope x)(he:PE X e te)(ho:PIp X op ti)(hf:X.fn x=true\/X.env.scope.names.lookup x=some .local:=by first|exact .inl rfl|exact .inr rfl|assumption):PS X (.AugAssign (.Name x pos') op e pos) (Pc i te ti):=by
 intro pins s Z H D I h;obtain⟨v,e1,h⟩:=h;obtain⟨m,hn,hl⟩:=I.loc
 have vis:Vis X.env.scope x:=by rcases hx with k|k;exact .inl k;exact .inr (.inl k)
 obtain⟨u,r,l⟩:=hl i x v hi e1 vis;refine wpAny_AugAssign_Name ?_
 have go:aO (aR X.prog X.w) X.A (fz e X.env) (λw s₂=>aO (aR X.prog X.w) X.A (As op u w) (λr s₃=>aO (aR X.prog X.w) X.A (storeName X.env x r) (λ_=>SP X pins D .next) X.xe s₃) X.xe s₂) X.xe s:=by refine hZ (he pins s Z H _ I h) λw s1 ⟨y,H1,I1,r1,q1⟩=>?_;refine hZ (ho pins s1 Z H1 v y u w _ I1 r r1 q1) λz s2 ⟨zv,H2,I2,r2,q2⟩=>?_;exact qM I2 hN hi hx r2 (λs3 I3=>⟨_,H2,I3,q2⟩) hf
 rcases l with⟨hk,hm⟩|⟨hk,c,hc,hcell⟩
 .exact oQ I.ok.kind hk hn hm go
 .rcases hk with hk|hk
  .exact Yk I.ok.kind hk hc hcell go
  .rcases hx with k|k
   .have:X.env.scope.names.lookup x=some .free:=hk;rw[k]at this;cases this
   .have:X.env.scope.names.lookup x=some .free:=hk;rw[k]at this;cases this
end
section
variable{X:Cx}
def xE(c:TT)(tb:TS):TS:=λD Z H=>∃W:Nat->St->Hp->Prop,(∃m,W m Z H)/\∀m Z H,W m Z H ->c Z H λb H1=>if b=true then∃N:St->Hp->Prop,(∀σ' H',N σ' H'->∃m',m'<m/\W m' σ' H')/\tb { D with nx:=N,ct:=N,bk:=D.nx } Z H1 else D.nx Z H1
theorem vC{tc:TT}{tb:TS}(hp:PassesOwn (aR X.prog X.w) X.A X.env X.xe)(hc:PT X c tc)(hb:J9 X body tb):PS X (.While c body [] pos) (xE tc tb):=by
 intro pins s Z H D I h;obtain⟨W,⟨m0,w0⟩,turn⟩:=h;refine wpAny_While (codeAny_whileLoop (λn s'=>∃σ' H',Inv X pins σ' H' s'/\W n σ' H') ?_ m0 ⟨Z,H,I,w0⟩);rintro n s1 ⟨σ1,H1,I1,w1⟩;refine jT hp (hZ (hc pins s1 σ1 H1 _ I1 (turn n σ1 H1 w1)) λb s2 ⟨H2,I2,q2⟩=>?_)
 cases b with
 |true=>
  obtain⟨N,hN,q2⟩:=q2;rw[if_pos rfl];refine jT hp (hZ (hb pins s2 σ1 H2 _ I2 q2) λf s3 q3=>?_)
  cases f with
  |next=>
   obtain⟨σ3,H3,I3,n3⟩:=q3;obtain⟨m',hm,w3⟩:=hN σ3 H3 n3
   exact⟨m',hm,σ3,H3,I3,w3⟩
  |cont=>
   obtain⟨σ3,H3,I3,n3⟩:=q3;obtain⟨m',hm,w3⟩:=hN σ3 H3 n3
   exact⟨m',hm,σ3,H3,I3,w3⟩
  |brk=>exact q3
  |ret v=>exact q3
 |false=>
  rw[if_neg bM];exact xB ⟨σ1,H2,I2,q2⟩
end
structure It where
 go:Nat->Hp->Prop
 Md:Nat->Hp->V->Hp->Prop
 stop:Nat->Hp->Prop
def xF(X:Cx)(pins:List (ai×jv))(H:Hp)(b:ai):Prop:=
 H b=none/\b≠X.env.locals/\b∉X.fs/\(b∈X.ex\/X.s₀.heap.objs.size<=b)/\(∀x c,X.env.cells.lookup x=some c->c≠b)/\∀p∈X.pn++pins,p.1≠b
theorem Inv.LY{X:Cx}{Z:St}{H H':Hp}(I:Inv X pins Z H s)(hb:s.heap.objs.size<=b)(hn:H' b=none):xF X pins H' b:=by
 refine⟨hn,dG (br I.lt hb),I.nofs hb,.inr (bw I.sz hb),λx c e z=>?_,λp hp z=>?_⟩
 .obtain ⟨v,q⟩:=I.cell x c e;exact absurd (br q.lt (by rw[z];exact hb)) (e9 _)
 .exact absurd (br (aJ (I.pin p hp).1) (by rw[z];exact hb)) (e9 _)
structure ND(P:bI)(w:cC)(K:aa)(tg:Expr)(J:It)(fp:List ai)(it:ai)(tn:Nat->cR->Prop):Prop where
 mem:it∈fp
 obj:∀i h,tn i h->∀b∈fp,∃o,h.get? b=some o/\∀v,o.data≠.cell v
 keep:∀i h h',tn i h->(∀b∈fp,∀o,h.get? b=some o->h'.get? b=some o)->tn i h'
 item:∀(X:Cx),X.prog=P->X.w=w->X.K=K->X.calm=true->∀(i:Nat) (pins:List (ai×jv)) (s:aA) (Z:St) (H:Hp) (E:ak->aA->Prop),Inv X pins Z H s->(∀b∈fp,xF X pins H b)->tn i s.heap->J.go i H ->aO (aR P w) X.A (je (.ref it)) (λr s1=>∃u,r=some u /\aO (aR P w) X.A (xC tg (.ref it) u) (λ_ s2=>∃x H',Inv X pins Z H' s2/\RelV x u/\J.Md i H x H'/\tn (i+1) s2.heap/\∀b∈fp,H' b=none) E s1) E s
 done:∀(X:Cx),X.prog=P->X.w=w->X.K=K->X.calm=true->∀(i:Nat) (pins:List (ai×jv)) (s:aA) (Z:St) (H:Hp) (E:ak->aA->Prop),Inv X pins Z H s->(∀b∈fp,xF X pins H b)->tn i s.heap->J.stop i H ->aO (aR P w) X.A (je (.ref it)) (λr s1=>r=none/\Inv X pins Z H s1) E s
 self:∀(A:cT) (i:Nat) (s:aA) (Q:ak->aA->Prop) (E:ak->aA->Prop),tn i s.heap->Q (.ref it) s->aO (aR P w) A (OE (.ref it)) Q E s
abbrev TI:=St->Hp->(It->Hp->Prop)->Prop
def PIE(X:Cx)(pins:List (ai×jv))(Z:St)(tg:Expr)(R:It->Hp->Prop)(itv:ak)(s2:aA):Prop:=
 ∃(it:ai) (fp:List ai) (tn:Nat->cR->Prop) (J:It) (H':Hp),itv=.ref it/\Inv X pins Z H' s2/\ND X.prog X.w X.K tg J fp it tn/\tn 0 s2.heap/\(∀b∈fp,xF X pins H' b)/\R J H'
def PI(X:Cx)(tg iter:Expr)(wi:TI):Prop:=
 ∀(pins:List (ai×jv)) (s:aA) (Z:St) (H:Hp) (R:It->Hp->Prop),Inv X pins Z H s->wi Z H R ->aO (aR X.prog X.w) X.A (fz iter X.env) (λv s1=>aO (aR X.prog X.w) X.A (OE v) (PIE X pins Z tg R) X.xe s1) X.xe s
theorem HH{n:String}{vs:Array ak}{Q:Unit->aA->Prop}(ho:s.heap.get? it=some o)(hc:o.cls=.type n)(hd:o.data=.fields vs)(hn:["enumerate","zip","dict_itemiterator","dict_reverseitemiterator","odict_iterator","itertools.zip_longest","itertools.pairwise"].contains n=false)(hQ:Q () s):aO M A (xC tg (.ref it) u) Q E s:=by
  unfold xC
  cases tg<;>first
    | exact ar hQ
    | (cases u<;>first
        | exact ar hQ
        | (refine ae (Eh ho ?_)
           rw[hc,hd]
           show aO M A (if(["enumerate","zip","dict_itemiterator","dict_reverseitemiterator","odict_iterator","itertools.zip_longest","itertools.pairwise"].contains n && vs[0]? == some (cD _))=true then _ else _) Q E s
           rw[if_neg (by intro h;rw[hn,Bool.false_and]at h;cases h)]
           exact ar hQ))
def Ko(K:aa)(a:ai):It:=
 ⟨λi H=>∃xs x,c6 K H a xs/\xs[i]?=some x,λi H x H'=>H'=H/\∀xs,c6 K H a xs->xs[i]?=some x,λi H=>∃xs,c6 K H a xs/\xs.length<=i⟩
def Yg(K:aa)(a:ai):It:=
 ⟨λi H=>∃xs x,jq K H a xs/\xs[i]?=some x,λi H x H'=>H'=H/\∀xs,jq K H a xs->xs[i]?=some x,λi H=>∃xs,jq K H a xs/\xs.length<=i⟩
def SR(lo:Int)(n:Nat):It:=⟨λi _=>i<n,λi H x H'=>H'=H/\x=.int (lo+i),λi _=>n<=i⟩
theorem NF{K:aa}(a it:ai):ND P w K tg (Ko K a) [it] it (λi h=>h.IsListIter it a i) where
 mem:=by simp
 obj:=λi h st b hb=>by
  have e:b=it:=by simpa using hb
  subst e;obtain⟨o,e,c,d⟩:=st;exact⟨o,e,λv z=>by rw[d]at z;cases z⟩
 keep:=λi h h' st k=>st.at λo e=>k it (by simp) o e
 item:=by intro X hP hw hK hc i pins s Z H E I hf st hg;subst hP hw hK;obtain⟨xs,x,hq,hx⟩:=hg;obtain⟨its,rv,p,hz⟩:=I.list hq;obtain⟨u,hu,ru⟩:=rv.get hx;obtain⟨f0,f1,f2,f3,f4,f5⟩:=hf it (by simp);refine wpAny_pyNext_list_item st p.isList (x:=u) (by simpa using hu) λh' st' sb=>?_;have I1:Inv X pins Z H { s with heap:=h' }:=I.turned (t':=s.toks) (λb o hb e=>(sb.2 b hb).trans e) f0 f1 f3 f4 f5;obtain⟨o,e,c,d⟩:=id st';exact⟨u,rfl,HH (s:={ s with heap:=h' }) e c d (by decide) ⟨x,H,I1,ru,⟨rfl,λys hy=>by rw[I.RX hy hq];exact hx⟩,st',λb hb=>(hf b hb).1⟩⟩
 done:=by
  intro X hP hw hK hc i pins s Z H E I hf st hg;subst hP hw hK;obtain⟨xs,hq,hx⟩:=hg;obtain⟨its,rv,p,hz⟩:=I.list hq;obtain⟨f0,f1,f2,f3,f4,f5⟩:=hf it (by simp);have hl:=rv.length
  exact wpAny_pyNext_list_end (I.ok.hd hc) st p.isList (by simp;lia) λh' eb=>⟨rfl,I.turned (t':=s.toks) (λb o hb e=>eb b o hb e) f0 f1 f3 f4 f5⟩
 self:=λ_ _ _ _ _ st h=>wpAny_pyIter_listiter st h
theorem Kp{K:aa}(a it:ai):ND P w K tg (Yg K a) [it] it (λi h=>h.IsTupleIter it a i) where
 mem:=by simp
 obj:=λi h st b hb=>by
  have e:b=it:=by simpa using hb
  subst e;obtain⟨o,e,c,d⟩:=st;exact⟨o,e,λv z=>by rw[d]at z;cases z⟩
 keep:=λi h h' st k=>st.at λo e=>k it (by simp) o e
 item:=by intro X hP hw hK hc i pins s Z H E I hf st hg;subst hP hw hK;obtain⟨xs,x,hq,hx⟩:=hg;obtain⟨its,rv,p,hz⟩:=I.tuple hq;obtain⟨u,hu,ru⟩:=rv.get hx;obtain⟨f0,f1,f2,f3,f4,f5⟩:=hf it (by simp);refine wpAny_pyNext_tuple_item st (show s.heap.IsTuple a its.toArray from p) (x:=u) (by simpa using hu) λh' st' sb=>?_;have I1:Inv X pins Z H { s with heap:=h' }:=I.turned (t':=s.toks) (λb o hb e=>(sb.2 b hb).trans e) f0 f1 f3 f4 f5;obtain⟨o,e,c,d⟩:=id st';exact⟨u,rfl,HH (s:={ s with heap:=h' }) e c d (by decide) ⟨x,H,I1,ru,⟨rfl,λys hy=>by rw[I.OB hy hq];exact hx⟩,st',λb hb=>(hf b hb).1⟩⟩
 done:=by
  intro X hP hw hK hc i pins s Z H E I hf st hg;subst hP hw hK;obtain⟨xs,hq,hx⟩:=hg;obtain⟨its,rv,p,hz⟩:=I.tuple hq;obtain⟨f0,f1,f2,f3,f4,f5⟩:=hf it (by simp);have hl:=rv.length
  exact wpAny_pyNext_tuple_end (I.ok.hd hc) st (show s.heap.IsTuple a its.toArray from p) (by simp;lia) λh' eb=>⟨rfl,I.turned (t':=s.toks) (λb o hb e=>eb b o hb e) f0 f1 f3 f4 f5⟩
 self:=λ_ _ _ _ _ st h=>wpAny_pyIter_tupleiter st h
theorem Kq{K:aa}(it:ai)(lo:Int)(n:Nat):ND P w K tg (SR lo n) [it] it (λi h=>IsRangeIter h it (lo+(i:Nat)*1) ((n:Int)-(i:Nat)) 1) where
 mem:=by simp
 obj:=λi h st b hb=>by
  have e:b=it:=by simpa using hb
  subst e
  exact⟨_,st,λv z=>by
   have z':Data.fields _=Data.cell v:=z
   cases z'⟩
 keep:=λi h h' st k=>k it (by simp) _ st
 item:=by intro X hP hw hK hc i pins s Z H E I hf st hg;subst hP hw hK;obtain⟨f0,f1,f2,f3,f4,f5⟩:=hf it (by simp);have W:=Walks.range (prog:=X.prog) (w:=X.w) (I.ok.hd hc) it lo 1 n;refine W.item i s _ _ hg st λv h' tk hv st' kk=>?_;obtain⟨t,rfl⟩:=hv;have I1:Inv X pins Z H { s with heap:=h',toks:=tk }:=I.turned (λb o hb e=>kk b o (by simpa using hb) e) f0 f1 f3 f4 f5;refine⟨_,rfl,HH (s:={ s with heap:=h',toks:=tk }) (n:="range_iterator") st' rfl rfl (by decide) ⟨.int (lo+i),H,I1,⟨t,?_⟩,⟨rfl,rfl⟩,st',λb hb=>(hf b hb).1⟩⟩;rw[Int.mul_one]
 done:=by
  intro X hP hw hK hc i pins s Z H E I hf st hg;subst hP hw hK;obtain⟨f0,f1,f2,f3,f4,f5⟩:=hf it (by simp)
  exact wpAny_pyNext_range_end (I.ok.hd hc) st (by have:n<=i:=hg;lia) λh' eb=>⟨rfl,I.turned (t':=s.toks) (λb o hb e=>eb b o hb e) f0 f1 f3 f4 f5⟩
 self:=λ_ _ _ _ _ st h=>wpAny_pyIter_rangeiter st h
section
variable{X:Cx}
theorem HI{Z:St}{H:Hp}{R:It->Hp->Prop}{lo hi:Int}{t u v:Yj}{tk:Nat}(I:Inv X pins Z H s)(h1:-(2^62)<=lo)(h2:lo<2^62)(h3:-(2^62)<=hi)(h4:hi<2^62)(q:R (SR lo (hi-lo).toNat) H):aO (aR X.prog X.w) X.A (OE (.ref s.heap.objs.size)) (PIE X pins Z tg R) E { s with heap:=s.heap.push { cls:=.type "range",data:=.fields #[.int lo t,.int hi u,.int 1 v] },toks:=tk }:=by
 refine wpAny_pyIter_range (IsRange.new ..) (small_one h1 h2 h3 h4) ?_;have I1:Inv X pins Z H { s with heap:=s.heap.push { cls:=.type "range",data:=.fields #[.int lo t,.int hi u,.int 1 v] },toks:=tk }:=I.kept λb o e=>ao _ e
 refine⟨(s.heap.push { cls:=.type "range",data:=.fields #[.int lo t,.int hi u,.int 1 v] }).objs.size,[(s.heap.push { cls:=.type "range",data:=.fields #[.int lo t,.int hi u,.int 1 v] }).objs.size],_,_,H,rfl,I1.kept (t':=tk) λb o e=>ao _ e,Kq _ lo (hi-lo).toNat,?_,λb hb=>?_,q⟩
 .have e1:lo+((0:Nat):Int)*1=lo:=by simp
  have e2:(((hi-lo).toNat:Nat):Int)-((0:Nat):Int)=Builtin.Range.rangeSize lo hi 1:=by rw[rangeSize_one];split<;>lia
  show IsRangeIter _ _ (lo+((0:Nat):Int)*1) ((((hi-lo).toNat:Nat):Int)-((0:Nat):Int)) 1
  rw[e1,e2];exact aM _ rfl
 .have e:b=(s.heap.push { cls:=.type "range",data:=.fields #[.int lo t,.int hi u,.int 1 v] }).objs.size:=by simpa using hb
  subst e;exact I1.LY (ay _) (I1.fw.fresh (ay _))
def yE(ta:TA):TI:=λZ H R=>ta Z H λvs H1=>∃j:Int,vs=[.int j]/\-(2^62)<=j/\j<2^62/\R (SR 0 j.toNat) H1
def Pd(ta:TA):TI:=λZ H R=>ta Z H λvs H1=>∃i j:Int,vs=[.int i,.int j]/\(-(2^62)<=i/\i<2^62/\-(2^62)<=j/\j<2^62)/\R (SR i (j-i).toNat) H1
theorem NG{a:Expr}{ta:TA}(hg:Gl X "range")(hm:X.mg "range"=none)(ha:PA X [a] ta)(hs:bL [a] X.env=[(false,fz a X.env)]:=by rfl):PI X tg (.Call (.Name "range" p) [a] [] pos) (yE ta):=by
 intro pins s Z H R I h;refine Call_ (nj I hg hm boot_range (dI (hZ (ha pos pins s Z H _ I h) λus s1 ⟨vs,H1,I1,r1,q1⟩=>?_) hs rfl));obtain⟨j,e,q1,q2,q⟩:=q1;subst e
 cases r1 with
 |cons r rr=>
  cases rr;obtain⟨t,rfl⟩:=r;exact call_range_1 (HI I1 (by lia) (by lia) q1 q2 (by simpa using q))
theorem NH{a b:Expr}{ta:TA}(hg:Gl X "range")(hm:X.mg "range"=none)(ha:PA X [a,b] ta)(hs:bL [a,b] X.env=[(false,fz a X.env),(false,fz b X.env)]:=by rfl)(hs2:bL [b] X.env=[(false,fz b X.env)]:=by rfl):PI X tg (.Call (.Name "range" p) [a,b] [] pos) (Pd ta):=by
 intro pins s Z H R I h;refine Call_ (nj I hg hm boot_range (dI (hZ (ha pos pins s Z H _ I h) λus s1 ⟨vs,H1,I1,r1,q1⟩=>?_) (by rw[hs,hs2]) (by rw[hs2];rfl)));obtain⟨i,j,e,⟨q1,q2,q3,q4⟩,q⟩:=q1;subst e
 cases r1 with
 |cons r rr=>
  cases rr with
  |cons r' rr=>
   cases rr;obtain⟨t,rfl⟩:=r;obtain⟨t',rfl⟩:=r';exact call_range_2 (HI I1 q1 q2 q3 q4 q)
def uH(wi:TI)(g:TG)(tb:TS):TS:=λD Z H=>wi Z H λJ H1=>∃W:Nat->Nat->St->Hp->Prop,(∃m,W 0 m Z H1)/\∀i m Z H,W i m Z H ->(J.stop i H/\D.nx Z H)\/(J.go i H/\∃N:St->Hp->Prop,(∀σ' H',N σ' H'->∃m',m'<m/\W (i+1) m' σ' H')/\∀x H',J.Md i H x H'->g x Z H' λσ2 H2=>tb { D with nx:=N,ct:=N,bk:=D.nx } σ2 H2)
def AC(fp:List ai)(h:cR):List (ai×jv):=fp.filterMap λb=>(h.get? b).map λo=>(b,o)
theorem qa{fp:List ai}(hb:b∈fp)(e:h.get? b=some o):(b,o)∈AC fp h:=oV.mpr ⟨b,hb,by rw[e];rfl⟩
theorem NI{fp:List ai}{p:ai×jv}(hp:p∈AC fp h):p.1∈fp/\h.get? p.1=some p.2:=by
 obtain⟨b,hb,e⟩:=oV.mp hp
 cases q:h.get? b with
 |none=>rw[q]at e;cases e
 |some o=>
  rw[q]at e;have e':(b,o)=p:=aX e;subst e';exact⟨hb,q⟩
theorem Inv.pinned{Z:St}{H:Hp}{fp:List ai}(I:Inv X pins Z H s)(hf:∀b∈fp,xF X pins H b)(ho:∀b∈fp,∃o,s.heap.get? b=some o/\∀v,o.data≠.cell v):Inv X (pins++AC fp s.heap) Z H s:=
 I.Nn λp hp=>(aL.mp hp).elim (λz=>I.pin p (bC _ z)) λz=>by obtain⟨hb,e⟩:=NI z;obtain⟨f0,f1,f2,_⟩:=hf p.1 hb;obtain⟨o,e',d⟩:=ho p.1 hb;rw[e]at e';cases e';exact⟨e,f0,f1,f2,d⟩
theorem Inv.xg{pl:List (ai×jv)}{Z:St}{H:Hp}(I:Inv X (pins++pl) Z H s):Inv X pins Z H s:=I.Nn λp hp=>I.pin p (bC _ (d5 _ hp))
theorem AD{iter:Expr}{wi:TI}{g:TG}{tb:TS}(hp:PassesOwn (aR X.prog X.w) X.A X.env X.xe)(hc:X.calm=true)(hi:PI X tg iter wi)(hg:PG X tg g)(hb:J9 X body tb)(hs:∀x,sJ iter X.env x=pure x:=by intro _;rfl):PS X (.For tg iter body [] pos) (uH wi g tb):=by
 intro pins s Z H D I h;refine wpAny_For (hZ (hi pins s Z H _ I h) λv s1 h1=>hZ h1 λitv s2 h2=>?_) hs;obtain⟨it,fp,tn,J,H2,e,I2,T,st2,f2,W,⟨m0,w0⟩,turn⟩:=h2;subst e
 -- what stays true of the iterator's objects through the Kr
 have stat:∀{H':Hp},(∀b∈fp,H' b=none)->∀b∈fp,xF X pins H' b:=λhn b hb=>⟨hn b hb,(f2 b hb).2⟩
 refine codeAny_forLoop_any (λn s'=>∃i σ' H',Inv X pins σ' H' s'/\tn i s'.heap/\(∀b∈fp,H' b=none)/\W i n σ' H') ?_ m0 ⟨0,Z,H2,I2,st2,λb hb=>(f2 b hb).1,w0⟩;rintro n s3 ⟨i,σ3,H3,I3,st3,fr3,w3⟩
 rcases turn i n σ3 H3 w3 with⟨stop,qn⟩|⟨go,N,hN,step⟩
 .refine jT hp (hZ (T.done X rfl rfl rfl hc i pins s3 σ3 H3 X.xe I3 (stat fr3) st3 stop) λr s4 ⟨hr,I4⟩=>?_);subst hr;exact xB ⟨σ3,H3,I4,qn⟩
 .refine jT hp (hZ (T.item X rfl rfl rfl hc i pins s3 σ3 H3 X.xe I3 (stat fr3) st3 go) λr s4 ⟨u,hr,h4⟩=>?_);subst hr;refine jT hp (hZ h4 λ_ s5 ⟨x,H5,I5,r5,y5,st5,fr5⟩=>?_);have I5':=I5.pinned (stat fr5) (T.obj _ _ st5);refine jT hp (hZ (hg _ s5 σ3 H5 x u _ I5' r5 (step x H5 y5)) λ_ s6 ⟨σ6,H6,I6,q6⟩=>?_);refine jT hp (hZ (hb _ s6 σ6 H6 _ I6 q6) λf s7 q7=>?_)
  have again:∀{σ7:St}{H7:Hp},Inv X (pins++AC fp s5.heap) σ7 H7 s7->N σ7 H7->∃m,m<n/\∃i σ' H',Inv X pins σ' H' s7/\tn i s7.heap/\(∀b∈fp,H' b=none)/\W i m σ' H':=λ{σ7 H7} I7 n7=>by obtain⟨m',hm,w7⟩:=hN σ7 H7 n7;refine⟨m',hm,i+1,σ7,H7,I7.xg,T.keep _ _ _ st5 λb hb o e=>(I7.pin (b,o) (bC _ (bC _ (qa hb e)))).1,λb hb=>?_,w7⟩;obtain⟨o,e,d⟩:=T.obj _ _ st5 b hb;exact(I7.pin (b,o) (bC _ (bC _ (qa hb e)))).2.1
  cases f with
  |next=>obtain⟨σ7,H7,I7,n7⟩:=q7;exact again I7 n7
  |cont=>obtain⟨σ7,H7,I7,n7⟩:=q7;exact again I7 n7
  |brk=>obtain⟨σ7,H7,I7,q7⟩:=q7;exact⟨σ7,H7,I7.xg,q7⟩
  |ret v=>obtain⟨x7,σ7,H7,I7,r7,q7⟩:=q7;exact⟨x7,σ7,H7,I7.xg,r7,q7⟩
end
theorem i6{K:aa}{xs:List V}{g:TG}{tb:TS}{D:vA}{Z:St}{H:Hp}(Pv:Nat->St->Hp->Prop)(h0:Pv 0 Z H)(hl:∀i Z H,i<=xs.length->Pv i Z H->c6 K H a xs)(hs:∀i x Z H,xs[i]?=some x->Pv i Z H->g x Z H λσ2 H2=>tb { D with nx:=Pv (i+1),ct:=Pv (i+1),bk:=D.nx } σ2 H2)(hd:∀Z H,Pv xs.length Z H->D.nx Z H):∃W:Nat->Nat->St->Hp->Prop,(∃m,W 0 m Z H)/\∀i m Z H,W i m Z H ->((Ko K a).stop i H/\D.nx Z H)\/((Ko K a).go i H/\∃N:St->Hp->Prop,(∀σ' H',N σ' H'->∃m',m'<m/\W (i+1) m' σ' H')/\∀x H',(Ko K a).Md i H x H'->g x Z H' λσ2 H2=>tb { D with nx:=N,ct:=N,bk:=D.nx } σ2 H2):=by
 refine⟨λi m Z H=>m=xs.length-i/\i<=xs.length/\Pv i Z H,⟨xs.length,by simp,aK _,h0⟩,?_⟩;rintro i m Z H ⟨rfl,hi,p⟩;have q:=hl i Z H hi p
 by_cases hlt:i<xs.length
 .refine .inr ⟨⟨xs,xs[i],q,by simp[hlt]⟩,Pv (i+1),λσ' H' p'=>⟨xs.length-(i+1),by lia,rfl,hlt,p'⟩,λx H' y=>?_⟩;obtain⟨e,y⟩:=y;subst e;exact hs i x Z _ (y xs q) p
 .have e:i=xs.length:=by lia
  subst e;exact .inl ⟨⟨xs,q,ay _⟩,hd Z H p⟩
theorem SS{K:aa}{xs:List V}{g:TG}{tb:TS}{D:vA}{Z:St}{H:Hp}(Pv:Nat->St->Hp->Prop)(h0:Pv 0 Z H)(hl:∀i Z H,i<=xs.length->Pv i Z H->jq K H a xs)(hs:∀i x Z H,xs[i]?=some x->Pv i Z H->g x Z H λσ2 H2=>tb { D with nx:=Pv (i+1),ct:=Pv (i+1),bk:=D.nx } σ2 H2)(hd:∀Z H,Pv xs.length Z H->D.nx Z H):∃W:Nat->Nat->St->Hp->Prop,(∃m,W 0 m Z H)/\∀i m Z H,W i m Z H ->((Yg K a).stop i H/\D.nx Z H)\/((Yg K a).go i H/\∃N:St->Hp->Prop,(∀σ' H',N σ' H'->∃m',m'<m/\W (i+1) m' σ' H')/\∀x H',(Yg K a).Md i H x H'->g x Z H' λσ2 H2=>tb { D with nx:=N,ct:=N,bk:=D.nx } σ2 H2):=by
 refine⟨λi m Z H=>m=xs.length-i/\i<=xs.length/\Pv i Z H,⟨xs.length,by simp,aK _,h0⟩,?_⟩;rintro i m Z H ⟨rfl,hi,p⟩;have q:=hl i Z H hi p
 by_cases hlt:i<xs.length
 .refine .inr ⟨⟨xs,xs[i],q,by simp[hlt]⟩,Pv (i+1),λσ' H' p'=>⟨xs.length-(i+1),by lia,rfl,hlt,p'⟩,λx H' y=>?_⟩;obtain⟨e,y⟩:=y;subst e;exact hs i x Z _ (y xs q) p
 .have e:i=xs.length:=by lia
  subst e;exact .inl ⟨⟨xs,q,ay _⟩,hd Z H p⟩
abbrev R2:=V->V->Hp->VK->Prop
def qy(X:Cx)(f:ak->ak->Uz ak)(r:R2):Prop:=
 ∀(pins:List (ai×jv)) (s:aA) (Z:St) (H:Hp) (x y:V) (v u:ak) (Q:VK),Inv X pins Z H s->RelV x v->RelV y u->r x y H Q ->aO (aR X.prog X.w) X.A (f v u) (EP X pins Z Q) X.xe s
def UnR(X:Cx)(f:ak->Uz ak)(r:V->Hp->VK->Prop):Prop:=
 ∀(pins:List (ai×jv)) (s:aA) (Z:St) (H:Hp) (x:V) (v:ak) (Q:VK),Inv X pins Z H s->RelV x v->r x H Q ->aO (aR X.prog X.w) X.A (f v) (EP X pins Z Q) X.xe s
def mO(X:Cx)(f:ak)(r:List V->Hp->VK->Prop):Prop:=
 ∀(pins:List (ai×jv)) (s:aA) (Z:St) (H:Hp) (xs:List V) (us:List ak) (Q:VK),Inv X pins Z H s->Vals xs us->r xs H Q ->aO (aR X.prog X.w) X.A (call f us) (EP X pins Z Q) X.xe s
def TruR(X:Cx)(r:V->Hp->(Bool->Hp->Prop)->Prop):Prop:=
 ∀(pins:List (ai×jv)) (s:aA) (Z:St) (H:Hp) (x:V) (v:ak) (Q:Bool->Hp->Prop),Inv X pins Z H s->RelV x v->r x H Q ->aO (aR X.prog X.w) X.A (truthy v) (TP X pins Z Q) X.xe s
def cq(r:R2)(ta tb:TE):TE:=λZ H Q=>ta Z H λx H1=>tb Z H1 λy H2=>r x y H2 Q
def tUn(r:V->Hp->VK->Prop)(ta:TE):TE:=λZ H Q=>ta Z H λx H1=>r x H1 Q
def rI(C:Int->Int->Prop)(g:Int->Int->V):R2:=λx y H Q=>∃i j,x=.int i/\y=.int j/\C i j/\Q (g i j) H
def o9(g:Int->Int->V):R2:=λx y H Q=>∃i j,x=.int i/\y=.int j/\Q (g i j) H
def rU(g:Int->V):V->Hp->VK->Prop:=λx H Q=>∃i,x=.int i/\Q (g i) H
section
variable{X:Cx}{a b:Expr}{ta tb tc:TE}
theorem Wp(ha:PE X a ta)(hb:PE X b tb){pins:List (ai×jv)}{s:aA}{Z:St}{H:Hp}{R:V->V->Hp->Prop}(I:Inv X pins Z H s)(h:ta Z H λx H1=>tb Z H1 λy H2=>R x y H2){Q:ak->aA->Prop}{f:ak->ak->Uz ak}(hf:∀v u s2 x y H2,Inv X pins Z H2 s2->RelV x v->RelV y u->R x y H2->aO (aR X.prog X.w) X.A (f v u) Q X.xe s2):aO (aR X.prog X.w) X.A (fz a X.env) (λv s₁=>aO (aR X.prog X.w) X.A (fz b X.env) (λu s₂=>aO (aR X.prog X.w) X.A (f v u) Q X.xe s₂) X.xe s₁) X.xe s:=by refine hZ (ha pins s Z H _ I h) λv s1 ⟨x,H1,I1,r1,q1⟩=>?_;refine hZ (hb pins s1 Z H1 _ I1 q1) λu s2 ⟨y,H2,I2,r2,q2⟩=>?_;exact hf v u s2 x y H2 I2 r1 r2 q2
theorem UT{op:Ha}{r:R2}(ho:qy X (vg op) r)(ha:PE X a ta)(hb:PE X b tb):PE X (.BinOp a op b pos) (cq r ta tb):=by intro pins s Z H Q I h;exact wpAny_BinOp (Wp ha hb I h λv u s2 x y H2 I2 rx ry q=>ho pins s2 Z H2 x y v u Q I2 rx ry q)
theorem UU{op:UnaryOp}{r:V->Hp->VK->Prop}(ho:UnR X (unaryOp op) r)(ha:PE X a ta):PE X (.UnaryOp op a pos) (tUn r ta):=by intro pins s Z H Q I h;exact UnaryOp_ (hZ (ha pins s Z H _ I h) λv s1 ⟨x,H1,I1,r1,q1⟩=>ho pins s1 Z H1 x v Q I1 r1 q1)
theorem opI{f:ak->ak->Uz ak}{C:Int->Int->Prop}{g:Int->Int->Int}(CO:∀(i j:Int) (t u:Yj) (s:aA) (Q:ak->aA->Prop) (E:ak->aA->Prop),C i j->Q (.int (g i j) s.toks) { s with toks:=s.toks+1 }->aO (aR X.prog X.w) X.A (f (.int i t) (.int j u)) Q E s):qy X f (rI C λi j=>.int (g i j)):=by intro pins s Z H x y v u Q I rx ry h;obtain⟨i,j,rfl,rfl,hc,q⟩:=h;obtain⟨t,rfl⟩:=rx;obtain⟨t',rfl⟩:=ry;exact CO i j t t' s _ _ hc ⟨.int (g i j),H,I.tok _,⟨_,rfl⟩,q⟩
theorem SU{f:ak->ak->Uz ak}{g:Int->Int->Int}(CO:∀(i j:Int) (t u:Yj) (s:aA) (Q:ak->aA->Prop) (E:ak->aA->Prop),Q (.int (g i j) s.toks) { s with toks:=s.toks+1 }->aO (aR X.prog X.w) X.A (f (.int i t) (.int j u)) Q E s):qy X f (o9 λi j=>.int (g i j)):=by intro pins s Z H x y v u Q I rx ry h;obtain⟨i,j,rfl,rfl,q⟩:=h;obtain⟨t,rfl⟩:=rx;obtain⟨t',rfl⟩:=ry;exact CO i j t t' s _ _ ⟨.int (g i j),H,I.tok _,⟨_,rfl⟩,q⟩
theorem SV{f:ak->ak->Uz ak}{g:Int->Int->Bool}(CO:∀(i j:Int) (t u:Yj) (s:aA) (Q:ak->aA->Prop) (E:ak->aA->Prop),Q (.bool (g i j)) s->aO (aR X.prog X.w) X.A (f (.int i t) (.int j u)) Q E s):qy X f (o9 λi j=>.bl (g i j)):=by intro pins s Z H x y v u Q I rx ry h;obtain⟨i,j,rfl,rfl,q⟩:=h;obtain⟨t,rfl⟩:=rx;obtain⟨t',rfl⟩:=ry;exact CO i j t t' s _ _ ⟨.bl (g i j),H,I,rfl,q⟩
def qF(i j:Int):Prop:=0<j/\j<1073741824
def Ox(i j:Int):Prop:=(-(2^64)<i/\i<2^64)\/(-(2^64)<j/\j<2^64)
theorem Ox.ok{i j:Int}(h:Ox i j):IntMulOk i j:=by
 rcases h with⟨h1,h2⟩|⟨h1,h2⟩
 .exact .of_left (intBits_le_64 h1 h2)
 .exact .of_right (intBits_le_64 h1 h2)
theorem Wq:qy X (vg .Add) (o9 λi j=>.int (i+j)):=SU λ_ _ _ _ _ _ _ q=>add_int q
theorem Wr:qy X (vg .Sub) (o9 λi j=>.int (i-j)):=SU λ_ _ _ _ _ _ _ q=>sub_int q
theorem Ws:qy X (vg .Mult) (rI Ox λi j=>.int (i*j)):=opI λ_ _ _ _ _ _ _ hc q=>mul_int q hc.ok
theorem SW:qy X (vg .FloorDiv) (rI qF λi j=>.int (i/j)):=opI λi j _ _ _ _ _ hc q=>by have h1:(0:Int)<j:=hc.1;have h2:j<1073741824:=hc.2;exact floordiv_int (by lia) (by rw[Int.fdiv_eq_ediv_of_nonneg i (by lia)];exact q) (.inl (PyProof.noPylong_small (by lia)))
theorem Wt:qy X (vg .Mod) (rI (λ_ j=>0<j) λi j=>.int (i%j)):=opI λi j _ _ _ _ _ hc q=>by have h1:(0:Int)<j:=hc;exact mod_int' (by lia) (by rw[Int.fmod_eq_emod_of_nonneg i (by lia)];exact q)
theorem SX:qy X (As .Add) (o9 λi j=>.int (i+j)):=SU λ_ _ _ _ _ _ _ q=>VU q
theorem SY:qy X (As .Sub) (o9 λi j=>.int (i-j)):=SU λ_ _ _ _ _ _ _ q=>isub_int q
theorem SZ:qy X (As .Mult) (rI Ox λi j=>.int (i*j)):=opI λ_ _ _ _ _ _ _ hc q=>imul_int q hc.ok
theorem unI{f:ak->Uz ak}{g:Int->Int}(CO:∀(i:Int) (t:Yj) (s:aA) (Q:ak->aA->Prop) (E:ak->aA->Prop),Q (.int (g i) s.toks) { s with toks:=s.toks+1 }->aO (aR X.prog X.w) X.A (f (.int i t)) Q E s):UnR X f (rU λi=>.int (g i)):=by intro pins s Z H x v Q I rx h;obtain⟨i,rfl,q⟩:=h;obtain⟨t,rfl⟩:=rx;exact CO i t s _ _ ⟨.int (g i),H,I.tok _,⟨_,rfl⟩,q⟩
theorem Pe:UnR X (unaryOp .USub) (rU λi=>.int (-i)):=unI λ_ _ _ _ _ q=>neg_int q
end
def Yw:V->V->Bool
 | .non,.non=>true | .non,.int _=>true | .int _,.non=>true | .non,.bl _=>true | .bl _,.non=>true | .non,.str _=>true | .str _,.non=>true
 | .int _,.int _=>true | .bl _,.bl _=>true | .str _,.str _=>true | .byt _,.byt _=>true
 | .int _,.str _=>true | .str _,.int _=>true | .bl _,.str _=>true | .str _,.bl _=>true
 |_,_=>false
def rEq:R2:=λx y H Q=>Yw x y=true/\Q (.bl (decide (x=y))) H
def rNe:R2:=λx y H Q=>Yw x y=true/\Q (.bl (!decide (x=y))) H
theorem Mr{i j:Int}:decide (V.int i=V.int j)=(i == j):=by rw[gX];simp
theorem Pg{i j:Bool}:decide (V.bl i=V.bl j)=(i == j):=by rw[gX];simp
theorem Mt{i j:bF}:decide (V.str i=V.str j)=(i == j):=by rw[gX];simp
theorem Mu{i j:Array UInt8}:decide (V.byt i=V.byt j)=(i.toList == j.toList):=by rw[gX];cases i;cases j;simp
section
variable{X:Cx}{a b:Expr}{ta tb tc:TE}
theorem fe{Z:St}{H:Hp}{Q:VK}{k k':Bool}(I:Inv X pins Z H s)(q:Q (.bl k) H)(e:k=k'):EP X pins Z Q (.bool k') s:=by subst e;exact⟨.bl k,H,I,rfl,q⟩
theorem Yx:qy X (dw .Eq) rEq:=by
 intro pins s Z H x y v u Q I rx ry h;obtain⟨hs,q⟩:=h
 cases x with
 |non=>
  cases rx
  cases y with
  |non=>cases ry;exact PySem.EqNone.eq_none_none (fe I q (by simp))
  |bl j=>cases ry;exact PySem.EqNone.eq_none_bool (fe I q (by simp))
  |int j=>obtain⟨t',rfl⟩:=ry;exact PySem.EqNone.eq_none_int (fe I q (by simp))
  |str j=>obtain⟨t',rfl⟩:=ry;exact PySem.EqNone.eq_none_str (fe I q (by simp))
  |_=>exact absurd (show false=true from hs) bM
 |bl i=>
  cases rx
  cases y with
  |non=>cases ry;exact PySem.EqNone.eq_bool_none (fe I q (by simp))
  |bl j=>cases ry;exact eq_bool (fe I q Pg)
  |str j=>obtain⟨t',rfl⟩:=ry;exact PySem.EqMixed.eq_bool_str (fe I q (by simp))
  |_=>exact absurd (show false=true from hs) bM
 |int i=>
  obtain⟨t,rfl⟩:=rx
  cases y with
  |non=>cases ry;exact PySem.EqNone.eq_int_none (fe I q (by simp))
  |int j=>obtain⟨t',rfl⟩:=ry;exact eq_int (fe I q Mr)
  |str j=>obtain⟨t',rfl⟩:=ry;exact PySem.EqMixed.eq_int_str (fe I q (by simp))
  |_=>exact absurd (show false=true from hs) bM
 |str i=>
  obtain⟨t,rfl⟩:=rx
  cases y with
  |non=>cases ry;exact PySem.EqNone.eq_str_none (fe I q (by simp))
  |bl j=>cases ry;exact PySem.EqMixed.eq_str_bool (fe I q (by simp))
  |int j=>obtain⟨t',rfl⟩:=ry;exact PySem.EqMixed.eq_str_int (fe I q (by simp))
  |str j=>obtain⟨t',rfl⟩:=ry;exact eq_str (fe I q Mt)
  |_=>exact absurd (show false=true from hs) bM
 |byt i=>
  obtain⟨t,rfl⟩:=rx
  cases y with
  |byt j=>obtain⟨t',rfl⟩:=ry;exact PySem.W.eq_bytes (fe I q Mu)
  |_=>exact absurd (show false=true from hs) bM
 |_=>cases y<;>exact absurd (show false=true from hs) bM
theorem Yy:qy X (dw .NotEq) rNe:=by
 intro pins s Z H x y v u Q I rx ry h;obtain⟨hs,q⟩:=h
 cases x with
 |non=>
  cases rx
  cases y with
  |non=>cases ry;exact PySem.EqNone.ne_none_none (fe I q (by simp))
  |bl j=>cases ry;exact PySem.EqNone.ne_none_bool (fe I q (by simp))
  |int j=>obtain⟨t',rfl⟩:=ry;exact PySem.EqNone.ne_none_int (fe I q (by simp))
  |str j=>obtain⟨t',rfl⟩:=ry;exact PySem.EqNone.ne_none_str (fe I q (by simp))
  |_=>exact absurd (show false=true from hs) bM
 |bl i=>
  cases rx
  cases y with
  |non=>cases ry;exact PySem.EqNone.ne_bool_none (fe I q (by simp))
  |bl j=>cases ry;exact ne_bool (fe I q (congrArg not Pg))
  |str j=>obtain⟨t',rfl⟩:=ry;exact PySem.EqMixed.ne_bool_str (fe I q (by simp))
  |_=>exact absurd (show false=true from hs) bM
 |int i=>
  obtain⟨t,rfl⟩:=rx
  cases y with
  |non=>cases ry;exact PySem.EqNone.ne_int_none (fe I q (by simp))
  |int j=>obtain⟨t',rfl⟩:=ry;exact ne_int (fe I q (congrArg not Mr))
  |str j=>obtain⟨t',rfl⟩:=ry;exact PySem.EqMixed.ne_int_str (fe I q (by simp))
  |_=>exact absurd (show false=true from hs) bM
 |str i=>
  obtain⟨t,rfl⟩:=rx
  cases y with
  |non=>cases ry;exact PySem.EqNone.ne_str_none (fe I q (by simp))
  |bl j=>cases ry;exact PySem.EqMixed.ne_str_bool (fe I q (by simp))
  |int j=>obtain⟨t',rfl⟩:=ry;exact PySem.EqMixed.ne_str_int (fe I q (by simp))
  |str j=>obtain⟨t',rfl⟩:=ry;exact ne_str (fe I q (congrArg not Mt))
  |_=>exact absurd (show false=true from hs) bM
 |byt i=>
  obtain⟨t,rfl⟩:=rx
  cases y with
  |byt j=>obtain⟨t',rfl⟩:=ry;exact PySem.W.ne_bytes (fe I q (congrArg not Mu))
  |_=>exact absurd (show false=true from hs) bM
 |_=>cases y<;>exact absurd (show false=true from hs) bM
theorem UV:qy X (dw .Lt) (o9 λi j=>.bl (decide (i<j))):=SV λ_ _ _ _ _ _ _ q=>Sx q
theorem Mv:qy X (dw .LtE) (o9 λi j=>.bl (decide (i<=j))):=SV λ_ _ _ _ _ _ _ q=>le_int q
theorem Yz:qy X (dw .Gt) (o9 λi j=>.bl (decide (j<i))):=SV λ_ _ _ _ _ _ _ q=>gt_int q
theorem YA:qy X (dw .GtE) (o9 λi j=>.bl (decide (j<=i))):=SV λ_ _ _ _ _ _ _ q=>ge_int q
theorem qy.or{f:ak->ak->Uz ak}{r r':R2}(h:qy X f r)(h':qy X f r'):qy X f (λx y H Q=>r x y H Q\/r' x y H Q):=by
 intro pins s Z H x y v u Q I rx ry q
 rcases q with q|q
 .exact h pins s Z H x y v u Q I rx ry q
 .exact h' pins s Z H x y v u Q I rx ry q
theorem Ph(b:Expr){op:CmpOp}(h:op≠.In:=by decide)(h2:op≠.NotIn:=by decide):jV op b=false:=by
 have e1:(op == CmpOp.In)=false:=by cases op<;>first|rfl|exact absurd rfl h
 have e2:(op == CmpOp.NotIn)=false:=by cases op<;>first|rfl|exact absurd rfl h2
 cases b<;>simp[jV,e1,e2]
theorem Ta{r:R2}(ho:qy X (dw op) r)(ha:PE X a ta)(hb:PE X b tb)(hm:jV op b=false):PE X (.Compare a [op] [b] pos) (cq r ta tb):=by intro pins s Z H Q I h;exact wpAny_Compare1 (Wp ha hb I h λv u s2 x y H2 I2 rx ry q=>ho pins s2 Z H2 x y v u Q I2 rx ry q) hm
def dh(t:TE):TT:=λZ H Q=>t Z H λx H'=>∃k,x=.bl k/\Q k H'
theorem Mw{r:R2}(ho:qy X (dw op) r)(ha:PE X a ta)(hb:PE X b tb)(hm:jV op b=false):PT X (.Compare a [op] [b] pos) (dh (cq r ta tb)):=by
 intro pins s Z H Q I h
 refine VT (hZ (ha pins s Z H _ I h) λv s1 ⟨x,H1,I1,r1,q1⟩=>hZ (hb pins s1 Z H1 _ I1 q1) λu s2 ⟨y,H2,I2,r2,q2⟩ =>hZ (ho pins s2 Z H2 x y v u _ I2 r1 r2 q2) λc s3 ⟨z,H3,I3,r3,k,e,q3⟩=>?_) hm
 subst e;cases r3;exact kb ⟨H3,I3,q3⟩
def Fy(r r':R2)(ta tb tc:TE):TE:=λZ H Q=>ta Z H λx H1=>tb Z H1 λy H2=>r x y H2 λz H3=>∃k,z=.bl k /\(if k=true then tc Z H3 λw' H4=>r' y w' H4 Q else Q (.bl false) H3)
theorem HJ{op':CmpOp}{r r':R2}(ho:qy X (dw op) r)(ho':qy X (dw op') r')(ha:PE X a ta)(hb:PE X b tb)(hc:PE X c tc)(hm:lastMarks [op,op'] [b,c]=false:=by with_unfolding_all rfl):PE X (.Compare a [op,op'] [b,c] pos) (Fy r r' ta tb tc):=by
 intro pins s Z H Q I h
 refine Compare_chain (hZ (ha pins s Z H _ I h) λv s1 ⟨x,H1,I1,r1,q1⟩=>chain_link (hZ (hb pins s1 Z H1 _ I1 q1) λu s2 ⟨y,H2,I2,r2,q2⟩ =>hZ (ho pins s2 Z H2 x y v u _ I2 r1 r2 q2) λd s3 ⟨z,H3,I3,r3,k,e,q3⟩=>?_)) hm
 subst e;cases r3;refine kb ?_
 cases k with
 |false=>exact ite_ff ⟨.bl false,H3,I3,rfl,q3⟩
 |true=>exact ite_tt (chain_last (hZ (hc pins s3 Z H3 _ I3 q3) λw' s4 ⟨z',H4,I4,r4,q4⟩=>ho' pins s4 Z H4 y z' u w' Q I4 r2 r4 q4))
def Tb(K:aa)(x:V)(H:Hp)(k:Bool):Prop:=
 match x with
 | .non=>k=false
 | .bl b=>k=b
 | .int i=>k=(i != 0)
 | .str y=>y.length<=aY/\k=((y.length:Int) != 0)
 | .byt y=>y.size<=aY/\k=((y.size:Int) != 0)
 | .ref p=>(∃xs,c6 K H p xs/\k=!xs.isEmpty)\/(∃xs,jq K H p xs/\k=!xs.isEmpty)\/∃kvs,H p=some (.dK kvs)/\k=!kvs.isEmpty
 |_=>False
theorem Kt{κ:Type}{kvs:List (κ×V)}{vs:List (κ×ak)}(r:KV kvs vs):(!vs.isEmpty)=!kvs.isEmpty:=by
 cases r<;>rfl
theorem AE{xs:List V}{its:List ak}(r:Vals xs its):(!its.toArray.isEmpty)=!xs.isEmpty:=by
 cases r<;>simp
theorem uI:(aY:Nat)<2^63:=by rw[oR];decide
theorem Wu:TruR X (λx H Q=>∃k,Tb X.K x H k/\Q k H):=by
 intro pins s Z H x v Q I rx h;obtain⟨k,e,q⟩:=h;have hl:=uI;have hs:aY=16777216:=oR
 cases x with
 |non=>
  cases rx;have e':k=false:=e;subst e'
  exact truthy_none ⟨H,I,q⟩
 |bl b=>
  cases rx;have e':k=b:=e;subst e'
  exact kb ⟨H,I,q⟩
 |int i=>
  obtain⟨t,rfl⟩:=rx;have e':k=(i != 0):=e;subst e'
  exact PySem.P.truthy_int ⟨H,I,q⟩
 |str y=>
  obtain⟨t,rfl⟩:=rx;obtain⟨hy,e'⟩:y.length<=aY/\k=((y.length:Int) != 0):=e;subst e'
  exact PySem.P.truthy_str (by lia) ⟨H,I.tok _,q⟩
 |byt y=>
  obtain⟨t,rfl⟩:=rx;obtain⟨hy,e'⟩:y.size<=aY/\k=((y.size:Int) != 0):=e;subst e'
  exact PySem.W.truthy_bytes (by lia) ⟨H,I.tok _,q⟩
 |ref p=>
  cases rx;have e':(∃xs,c6 X.K H p xs/\k=!xs.isEmpty)\/(∃xs,jq X.K H p xs/\k=!xs.isEmpty)\/∃kvs,H p=some (.dK kvs)/\k=!kvs.isEmpty:=e
  rcases e' with⟨xs,hx,e'⟩|⟨xs,hx,e'⟩|⟨kvs,hx,e'⟩
  .subst e';obtain⟨its,r,pl,hz⟩:=I.list hx;have hlen:=r.length;exact wpAny_truthy_list pl.isList (by simp only[aQ];lia) ⟨H,I.tok _,by rw[AE r];exact q⟩
  .subst e';obtain⟨its,r,pl,hz⟩:=I.tuple hx;have hlen:=r.length;exact truthy_tuple pl (by simp only[aQ];lia) ⟨H,I.tok _,by rw[AE r];exact q⟩
  .subst e';obtain⟨hz,hS,vs,r,m⟩:kvs.length<=aY/\(p == iH)=false/\∃vs,KV kvs vs/\s.heap.DictOf (eP X.prog X.w) p vs:=I.fw p _ hx;have hlen:kvs.length=vs.length:=xi r
   exact wpAny_truthy_dict hS m (by lia) ⟨H,I.tok _,by rw[Kt r];exact q⟩
 |_=>exact(show False from e).elim
theorem Pi(ha:PE X a ta)(he:∀whole,isTrue a X.env whole=(do let v ← whole;xm a.pos;kZ [v] (truthy v))):PT X a (λZ H Q=>ta Z H λx H'=>∃k,Tb X.K x H' k/\Q k H'):=by intro pins s Z H Q I h;exact isTrue_plain (hZ (ha pins s Z H _ I h) λv s1 ⟨x,H1,I1,r1,q1⟩=>Wu pins s1 Z H1 x v Q I1 r1 q1) (he _)
theorem vals1{x:V}(r:Vals [x] us):∃u,us=[u]/\RelV x u:=by
 cases r with
 |cons r1 r2=>cases r2;exact⟨_,rfl,r1⟩
theorem vals2{x y:V}(r:Vals [x,y] us):∃u w',us=[u,w']/\RelV x u/\RelV y w':=by
 cases r with
 |cons r1 r2=>
  cases r2 with
  |cons r3 r4=>cases r4;exact⟨_,_,rfl,r1,r3⟩
theorem NJ(hc:X.calm=true):mO X (.builtin "max") (λxs H Q=>∃i j,xs=[.int i,.int j]/\Q (.int (if j>i then j else i)) H):=by
 intro pins s Z H xs us Q I r h;obtain⟨i,j,rfl,q⟩:=h;obtain⟨u,w',rfl,⟨t,rfl⟩,⟨t',rfl⟩⟩:=vals2 r
 refine max_two_ints (I.ok.hd hc) λh' tk k=>⟨_,H,I.kept k,?_,q⟩
 by_cases hj:j>i
 .rw [if_pos hj,if_pos hj];exact⟨_,rfl⟩
 .rw [if_neg hj,if_neg hj];exact⟨_,rfl⟩
theorem NK(hc:X.calm=true):mO X (.builtin "min") (λxs H Q=>∃i j,xs=[.int i,.int j]/\Q (.int (if j<i then j else i)) H):=by
 intro pins s Z H xs us Q I r h;obtain⟨i,j,rfl,q⟩:=h;obtain⟨u,w',rfl,⟨t,rfl⟩,⟨t',rfl⟩⟩:=vals2 r
 refine min_two_ints (I.ok.hd hc) λh' tk k=>⟨_,H,I.kept k,?_,q⟩
 by_cases hj:j<i
 .rw [if_pos hj,if_pos hj];exact⟨_,rfl⟩
 .rw [if_neg hj,if_neg hj];exact⟨_,rfl⟩
end
structure LX(h:cR)(x dx C:ai)(mA:bF->Option ak):Prop where
 obj:h.get? x=some (iB C dx)
 ns:h.Ns1 dx mA
 ne:dx≠x
theorem NL(n:h.Ns1 dx mA):∃od,h.get? dx=some od/\∀name,tE name od=some (mA name):=by
 obtain⟨o,es,ep,ho,hd,hk,_,hm⟩:=n;refine⟨o,ho,λname=>?_⟩;have e:=hm name;unfold nsFind findBy at e;rw[← Array.find?_toList]at e;unfold tE;rw[hd];dsimp only
 split
 .rename_i y q
  rw[q]at e;exact congrArg some e
 .rename_i q
  rw[q]at e
  have a:es.toList.any (·.refKey)=false:=by rw[List.any_eq_false];intro y hy;obtain⟨z,t,hkey⟩:=hk y (Array.mem_toList_iff.mp hy);simp[DictEntry.refKey,hkey]
  have a':¬ es.toList.any (·.refKey)=true:=by rw[a];exact bM
  rw[if_neg a'];exact congrArg some e
theorem LX.look{x:ai}(I:LX h x dx C mA):∃od,PySem.W.InstAt h x (iB C dx) C (some od)/\∀name,tE name od=some (mA name):=
 let ⟨od,ho,hl⟩:=NL I.ns
 ⟨od,⟨I.obj,rfl,rfl,ho⟩,hl⟩
section
variable{K:aa}{x:ai}
theorem Tc{expr:Bool}(X:K.In s.heap)(I:LX s.heap x dx C mA)(hg:iS K C name=true)(hh:jy K C=true)(ha:bJ K (.ref C) name=some none)(hv:mA name=some v)(hv':Sd v=true)(h:Q v { s with toks:=s.toks+1 }):aO (aR prog w) A (getAttr (.ref x) name expr) Q E s:=by obtain⟨od,J,hl⟩:=I.look;exact PySem.W.get_value X J (vh hg).1 (PySem.W.findObj_own hh ha rfl (by rw[hl,hv])) hv' h
theorem Pj{pl:Uz Bool}{Q:ak×List ak->aA->Prop}(X:K.In s.heap)(I:LX s.heap x dx C mA)(hg:iS K C name=true)(hf:bJ K (.ref C) name=some (some (.ref f)))(ht:qJ K (.ref f)=true)(hv:mA name=none)(h:Q (.ref f,[.ref x]) s):aO (aR prog w) A (Au (.ref x) name pl) Q E s:=by obtain⟨od,J,hl⟩:=I.look;exact PySem.W.method_fn X J (vh hg).1 (vh hg).2 hf (beq_iff_eq.mp ht) (by show(tE name od).map (·.isSome)=some false;rw[hl,hv];rfl) h
theorem Td{ns:List bF}{Q:Unit->aA->Prop}(X:K.In s.heap)(I:LX s.heap x dx C mA)(hs:bJ K (.ref C) "__setattr__"=some (some (.builtin "object.__setattr__")))(hp:lA K C=true)(ht:CP K C name=some none)(hh:jy K C=true)(hw:Mh mA ns)(hsz:ns.length<=aY)(h:∀h',LX h' x dx C (λy=>if y=name then some v else mA y)->ia dx s.heap h'->Q () { s with heap:=h',toks:=s.toks+2 }):aO (aR prog w) A (setAttr (.ref x) name v) Q E s:=by obtain⟨od,J,hl⟩:=I.look;refine PySem.W.set_plain X J hs (PySem.W.osa_open (s:={ s with toks:=s.toks+1 }) (r:=none) X J hp ht λb=>?_);obtain⟨cd,hc,hd'⟩:=PySem.W.any_some hh;have hx:s.heap.get? x=some ⟨.ref C,some dx,.plain,#[]⟩:=I.obj;refine ae (ar (ae (ae (wpAny_loadPart hx (ae (PySem.W.Looks.here (s:={ s with toks:=s.toks+1 }) (PySem.W.looks_clsIn X hc) ?_))))));rw[hd'];refine ar (a:=some dx) (ae (ar (ae ?_)));refine wpAny_nsSet1 (s:={ s with toks:=s.toks+1 }) I.ns λh' hn2 hs2=>?_;obtain⟨oD,esD,epD,hoD,hdD,hcD⟩:=hn2.count (PySem.Within.cons name v hw);refine ae (wpAny_lookBehind hoD (by rw[hdD];exact pastItsLine_dict (bw hcD (by rw[bR];lia))) ?_);exact ar (h _ ⟨(hs2.2 _ (Ne.symm I.ne)).trans I.obj,hn2,I.ne⟩ hs2)
theorem Pk{R:JY->aA->Prop}{vs:List ak}{kw:List (bF×ak)}(X:K.In s.heap)(hm:kD K C=true)(hi:bJ K (.ref C) "__init__"=some (some (.ref f)))(hf:PySem.W.typeIn K (.ref f)=some (.type "function"))(h:jO (aR prog w) (A.under (.builtin "type.__call__" ⟨.ref C::vs,kw⟩)) (.call (.ref f) ⟨.ref (s.heap.objs.size+1)::vs,kw⟩) (PySem.W.InitBack (s.heap.objs.size+1) R)
  { s with heap:=(s.heap.push fA).push (iB C s.heap.objs.size) }):jO (aR prog w) A (.call (.ref C) ⟨vs,kw⟩) R s:=by
 obtain⟨hh,g,d,t,os⟩:=s;exact PySem.W.make_core (PySem.W.makes_of X hm) (PySem.W.looks_findIn X hi) (λself=>PySem.W.bind_fn X self hf) (.inl rfl) h
end
def dX(f:bF)(v:V):List (bF×V)->List (bF×V)
 | []=>[(f,v)]
 |(g,x)::r=>if g=f then(g,v)::r else(g,x)::dX f v r
theorem fB(f g:bF)(v:V):∀fs:List (bF×V),(dX f v fs).lookup g=if g=f then some v else fs.lookup g
 | []=>by
  show eU g [(f,v)]=_
  by_cases h:g=f
  .have hb:(g == f)=true:=beq_iff_eq.mpr h;simp only[eU,hb,if_pos h]
  .have hb:(g == f)=false:=beq_eq_false_iff_ne.mpr h
   simp only[eU,hb,if_neg h]
 |(k,x)::r=>by
  have ih:=fB f g v r;rw[show dX f v ((k,x)::r)=(if k=f then(k,v)::r else(k,x)::dX f v r)from rfl]
  by_cases hk:k=f
  .rw [if_pos hk]
   by_cases h:g=k
   .have hb:(g == k)=true:=beq_iff_eq.mpr h;simp only[eU,hb,if_pos (h.trans hk)]
   .have hb:(g == k)=false:=beq_eq_false_iff_ne.mpr h;simp only[eU,hb,if_neg (λe:g=f=>h (e.trans hk.symm))]
  .rw [if_neg hk]
   by_cases h:g=k
   .have hb:(g == k)=true:=beq_iff_eq.mpr h;simp only[eU,hb,if_neg (λe:g=f=>hk (h.symm.trans e))]
   .have hb:(g == k)=false:=beq_eq_false_iff_ne.mpr h;simp only[eU,hb];exact ih
theorem xG(f:bF)(v:V):∀fs:List (bF×V),f∈(dX f v fs).map (·.1)/\∀g,g∈fs.map (·.1)->g∈(dX f v fs).map (·.1)
 | []=>⟨by simp[dX],λg h=>by simp at h⟩
 |(k,x)::r=>by
  obtain⟨i1,i2⟩:=xG f v r;rw[show dX f v ((k,x)::r)=(if k=f then(k,v)::r else(k,x)::dX f v r)from rfl]
  by_cases hk:k=f
  .rw [if_pos hk];subst hk;exact⟨by simp,λg h=>by simpa using h⟩
  .rw [if_neg hk];refine⟨?_,λg h=>?_⟩
   .rw [aZ];exact ag _ i1
   .rw [aZ]at h ⊢
    rcases aw.mp h with e|e
    .exact aw.mpr (.inl e)
    .exact ag _ (i2 g e)
theorem yF(f:bF)(v:V):∀fs:List (bF×V),(dX f v fs).length<=fs.length+1
 | []=>by simp[dX]
 |(k,x)::r=>by
  have ih:=yF f v r;rw[show dX f v ((k,x)::r)=(if k=f then(k,v)::r else(k,x)::dX f v r)from rfl]
  by_cases hk:k=f
  .rw [if_pos hk,bR,bR];lia
  .rw [if_neg hk,bR,bR];lia
theorem pQ.some_of{v:V}{o:Option ak}(r:pQ (some v) o):∃u,o=some u/\RelV v u:=by
 cases o with
 |none=>exact(show False from r).elim
 |some u=>exact⟨u,rfl,r⟩
theorem pQ.none_of{o:Option ak}(r:pQ none o):o=none:=by
 cases o with
 |none=>rfl
 |some u=>exact(show False from r).elim
theorem NM{v:V}(r:RelV v u):Sd u=true:=by
 cases v with
 |non=>cases(show u=dZ from r);rfl
 |bl b=>cases(show u=sk b from r);rfl
 |int i=>obtain⟨t,e⟩:=(show∃t,u=gO i t from r);cases e;rfl
 |str x=>obtain⟨t,e⟩:=(show∃t,u=qI x t from r);cases e;rfl
 |byt b=>obtain⟨t,e⟩:=(show∃t,u=Value.bytes b t from r);cases e;rfl
 |flt b=>obtain⟨t,e⟩:=(show∃t,u=OD b t from r);cases e;rfl
 |ref a=>cases(show u=aD a from r);rfl
 |ty n=>cases(show u=dD n from r);rfl
section
variable{H H':Hp}{fs fs':List (bF×V)}
theorem Ai(fw:qG P w H h)(e:H a=some (.ins C dx fs)):∃mA,LX h a dx C mA/\(∀f,pQ (fs.lookup f) (mA f))/\Mh mA (fs.map (·.1))/\fs.length<=1000/\H dx=some (.own a):=by
 obtain⟨d,z,ne,ob,mA,n,r,q⟩:=(show fv P w H h a (.ins C dx fs)from fw a _ e)
 exact⟨mA,⟨ob,n,ne⟩,r,q,z,d⟩
end
structure CY(K:aa)(C:ai):Prop where
 pg:iS K C Nq=true
 hd:jy K C=true
 po:lA K C=true
 sa:bJ K (.ref C) "__setattr__"=some (some (.builtin "object.__setattr__"))
theorem CY.get{K:aa}(c:CY K C)(f:bF):iS K C f=true:=c.pg
def dN(K:aa)(C:ai)(f:bF):Prop:=bJ K (.ref C) f=some none
theorem dN.Z0{K:aa}{f:bF}(n:dN K C f):CP K C f=some none:=by
 unfold CP;rw[show bJ K (.ref C) f=some none from n]
 rfl
structure Te(K:aa)(C:ai)(m:bF)(f:ai):Prop where
 at_:bJ K (.ref C) m=some (some (.ref f))
 fn:qJ K (.ref f)=true
 kp:eV K (.ref f)=true
section
variable{X:Cx}{Z:St}{H:Hp}{fs:List (bF×V)}{f:bF}{v:V}
theorem AF{b:Bool}(I:Inv X pins Z H s)(e:H a=some (.ins C dx fs))(c:CY X.K C)(n:dN X.K C f)(l:fs.lookup f=some v)(h:∀u s',Inv X pins Z H s'->RelV v u->Q u s'):aO (aR X.prog X.w) A (getAttr (.ref a) f b) Q E s:=by obtain⟨mA,O,r,_,_,_⟩:=Ai I.fw e;obtain⟨u,hu,ru⟩:=pQ.some_of (v:=v) (o:=mA f) (by rw[← l];exact r f);exact Tc I.zY O (c.get f) c.hd n hu (NM ru) (h u _ (I.tok _) ru)
theorem AG{g:ai}{pl:Uz Bool}{Q:ak×List ak->aA->Prop}(I:Inv X pins Z H s)(e:H a=some (.ins C dx fs))(c:CY X.K C)(k:Te X.K C m g)(l:fs.lookup m=none)(h:Q (.ref g,[.ref a]) s):aO (aR X.prog X.w) A (Au (.ref a) m pl) Q E s:=by obtain⟨mA,O,r,_,_,_⟩:=Ai I.fw e;have hn:mA m=none:=pQ.none_of (by rw[← l];exact r m);exact Pj I.zY O (c.get m) k.at_ k.fn hn h
theorem AH{y:V}{Q:Unit->aA->Prop}(I:Inv X pins Z H s)(e:H a=some (.ins C dx fs))(c:CY X.K C)(n:dN X.K C f)(hl:fs.length<1000)(ry:RelV y u)(h:∀s',Inv X pins Z (upd H a (.ins C dx (dX f y fs))) s'->Q () s'):aO (aR X.prog X.w) A (setAttr (.ref a) f u) Q E s:=by
 obtain⟨mA,O,r,wi,_,ho⟩:=Ai I.fw e
 have hz:(fs.map (·.1)).length<=aY:=by rw[af,oR];lia
 refine Td I.zY O c.sa c.po n.Z0 c.hd wi hz λh' O' sb=>h _ ?_
 have hd:∃o,h'.get? dx=some o:=let ⟨o,_,_,e',_⟩:=O'.ns;⟨o,e'⟩
 refine I.write (x:=a) (e:=dx) (by rw[e];exact gi) (.inr ho) (λb q hb z=>(sb.2 b hb).trans z) hd ?_;refine⟨by rw[aF O.ne];exact ho,?_,O.ne,O'.obj,_,O'.ns,λg=>?_,λg hg=>?_⟩
 .have:=yF f y fs;lia
 .show pQ ((dX f y fs).lookup g) (if g=f then some u else mA g)
  rw[fB]
  by_cases q:g=f
  .rw [if_pos q,if_pos q];exact ry
  .rw [if_neg q,if_neg q];exact r g
 .by_cases q:g=f
  .rw [q];exact(xG f y fs).1
  .refine (xG f y fs).2 g (wi g λz=>hg ?_)
   show(if g=f then some u else mA g)=none
   rw[if_neg q];exact z
theorem Inv.made(I:Inv X pins Z H s):Inv X pins Z (upd (upd H s.heap.objs.size (.own (s.heap.objs.size+1))) (s.heap.objs.size+1) (.ins C s.heap.objs.size []))
 { s with heap:=(s.heap.push fA).push (iB C s.heap.objs.size) }:=by
 have e1:(s.heap.push fA).get? s.heap.objs.size=some fA:=aM s.heap rfl
 have e2:((s.heap.push fA).push (iB C s.heap.objs.size)).get? (s.heap.objs.size+1)=some (iB C s.heap.objs.size):=by
  have:=aM (s.heap.push fA) (o:=iB C s.heap.objs.size) rfl
  rwa [gI]at this
 have e3:(s.heap.push fA).Ns s.heap.objs.size (λ_=>none):=⟨fA,#[],_,e1,rfl,(λe he=>absurd he (by simp)),λ_=>rfl⟩
 have I1:=I.laid (a:=s.heap.objs.size) (o:=.own (s.heap.objs.size+1)) (h':=s.heap.push fA) (t':=s.toks) (λb u q=>ao _ q) (ay _) ⟨_,e1⟩;refine I1.laid (a:=s.heap.objs.size+1) (o:=.ins C s.heap.objs.size []) (t':=s.toks) (λb u q=>ao _ q) (ki (gI _ _)) ?_;have ne:s.heap.objs.size≠s.heap.objs.size+1:=bg (ip _);refine⟨by rw[aF ne,aC],aK _,ne,e2,λ_=>none,(Heap.Ns1.of_empty e3).at λo q=>ao _ q,λ_=>gi,λy hy=>absurd rfl hy⟩
theorem Tg{env:JW}{f:bF}(hb:tF e f env (fz e env)=fz e env)(h:aO (aR prog w) A (fz e env) (λo s₁=>aO (aR prog w) A (getAttr o f true) Q E s₁) E s):aO (aR prog w) A (fz (.Attribute e f pos) env) Q E s:=
 Attribute_any_ h (by rw[arm_eval_Attribute,hb])
end
def fE(K:aa)(ta:TE)(f:bF):TE:=λZ H Q=>ta Z H λx H1=>∃a C dx fs v,x=.ref a/\H1 a=some (.ins C dx fs)/\CY K C/\dN K C f/\fs.lookup f=some v/\Q v H1
def sU(K:aa)(ta tv:TE)(f:bF):TS:=λD Z H=>tv Z H λy H1=>ta Z H1 λx H2=>∃a C dx fs,x=.ref a/\H2 a=some (.ins C dx fs)/\CY K C/\dN K C f/\fs.length<1000 /\D.nx Z (upd H2 a (.ins C dx (dX f y fs)))
def Wv(X:Cx)(op:Ha)(rd:V->V->Hp->VK->Prop):Prop:=
 ∀(pins:List (ai×jv)) (s:aA) (Z:St) (H:Hp) (x y:V) (u v:ak) (Q:VK),Inv X pins Z H s->RelV x u->RelV y v->rd x y H Q->aO (aR X.prog X.w) X.A (As op u v) (EP X pins Z Q) X.xe s
def sD(K:aa)(ta tv:TE)(rd:V->V->Hp->VK->Prop)(f:bF):TS:=λD Z H=>ta Z H λx H1=>∃a C dx fs v,x=.ref a/\H1 a=some (.ins C dx fs)/\CY K C/\dN K C f/\fs.lookup f=some v /\tv Z H1 λy H2=>rd v y H2 λz H3=>∃dx' fs',H3 a=some (.ins C dx' fs')/\fs'.length<1000/\D.nx Z (upd H3 a (.ins C dx' (dX f z fs')))
section
variable{X:Cx}{o value:Expr}{f:bF}{tpos:xu}{ta tv:TE}
theorem Ww(he:PE X e ta)(hb:tF e f X.env (fz e X.env)=fz e X.env):PE X (.Attribute e f pos) (fE X.K ta f):=by
 intro pins s Z H Q I h;refine Tg hb (hZ (he pins s Z H _ I h) λu s1 ⟨x,H1,I1,rx,a,C,dx,fs,v,ex,ea,c,n,l,q⟩=>?_);subst ex;obtain rfl:u=aD a:=rx
 exact AF I1 ea c n l λu' s2 I2 ru=>⟨v,H1,I2,ru,q⟩
theorem Fz(ha:PE X o ta)(hv:PE X value tv)(hs:Ar value (some (.Attribute o f pos')) pos.line X.env=pure false):PS X (.Assign [.Attribute o f pos'] value pos) (sU X.K ta tv f):=by
 intro pins s Z H D I h;refine plainObj_wpAny_Assign_Attribute (hZ (hv pins s Z H _ I h) λu s1 ⟨y,H1,I1,ry,q⟩=>hZ (ha pins s1 Z H1 _ I1 q) λov s2 ⟨x,H2,I2,rx,a,C,dx,fs,ex,ea,c,n,l,q2⟩=>?_) hs;subst ex;obtain rfl:ov=aD a:=rx
 exact AH I2 ea c n l ry λs3 I3=>⟨Z,_,I3,q2⟩
theorem sE{op:Ha}{rd:V->V->Hp->VK->Prop}(ha:PE X o ta)(hv:PE X value tv)(hop:Wv X op rd):PS X (.AugAssign (.Attribute o f tpos) op value pos) (sD X.K ta tv rd f):=by
 intro pins s Z H D I h;refine wpAny_AugAssign_AttributeAny (hZ (ha pins s Z H _ I h) λov s1 ⟨x,H1,I1,rx,a,C,dx,fs,v,ex,ea,c,n,l,q⟩=>?_);subst ex;obtain rfl:ov=aD a:=rx;refine AF I1 ea c n l λu s2 I2 ru=>hZ (hv pins s2 Z H1 _ I2 q) λw3 s3 ⟨y,H2,I3,ry,q3⟩=>hZ (hop pins s3 Z H2 v y u w3 _ I3 ru ry q3) λw4 s4 ⟨z,H3,I4,rz,dx',fs',ea',l',q4⟩=>?_
 exact AH I4 ea' c n l' rz λs5 I5=>⟨Z,_,I5,q4⟩
def NN:V->V->Hp->VK->Prop:=λx y H Q=>∃i j,x=.int i/\y=.int j/\Q (.int (i+j)) H
theorem AI:Wv X .Add NN:=by
 rintro pins s Z H x y u v Q I rx ry ⟨i,j,rfl,rfl,q⟩
 obtain⟨t,rfl⟩:=(show∃t,u=gO i t from rx)
 obtain⟨t',rfl⟩:=(show∃t',v=gO j t' from ry)
 exact VU ⟨.int (i+j),H,I.tok _,⟨_,rfl⟩,q⟩
end
section
variable{X:Cx}{Z:St}{H:Hp}{c:ak}{b:Bool}
inductive vD(K:aa)(H:Hp):V->ak->Prop where
 |non:vD K H .non (.type "NoneType")
 |bl (x:Bool):vD K H (.bl x) (.type "bool")
 |int (i:Int):vD K H (.int i) (.type "int")
 |str (x:bF):vD K H (.str x) (.type "str")
 |flt (x:UInt64):vD K H (.flt x) (.type "float")
 |lst {a:ai}{xs:List V}(e:H a=some (.lst xs)):vD K H (.ref a) (.type "list")
 |frz {a:ai}{o:jv}{xs:List V}(e:H a=some (.frz o (.lst xs))):vD K H (.ref a) (.type "list")
 |tup {a:ai}{xs:List V}(e:H a=some (.tup xs)):vD K H (.ref a) (.type "tuple")
 |dK {a:ai}{kvs:List (dJ×V)}(e:H a=some (.dK kvs)):vD K H (.ref a) (.type "dict")
 |dT {a:ai}{kvs:List (List dJ×V)}(e:H a=some (.dT kvs)):vD K H (.ref a) (.type "dict")
 |ins {a C dx:ai}{fs:List (bF×V)}(e:H a=some (.ins C dx fs)) (cl:CY K C) (ha:bJ K (.ref C) "__class__"=some (some (.builtin "object.__class__")))
  (hn:PySem.W.specialIn K (.builtin "object.__class__") "__get__"=some (some (.builtin "getset_descriptor.__get__"))) (htk:PySem.W.takesIn K (.builtin "object.__class__")=some true)
  (hm:PySem.W.mroIn K C (.type "object")=some true):vD K H (.ref a) (.ref C)
theorem NO{x:V}{t:ak}(I:Inv X pins Z H s)(rx:RelV x u)(ty:vD X.K H x t)(e:lB X.K t c=some b)(h:∀tk,Q (.bool b) { s with toks:=tk }):aO (aR X.prog X.w) A (call (.builtin "isinstance") [u,c]) Q E s:=by
 cases ty with
 |non=>cases(show u=dZ from rx);exact eY PySem.W.kitx_none I.zY gi e nofun h
 |bl y=>cases(show u=sk y from rx);exact eY PySem.W.kitx_bool I.zY gi e nofun h
 |int i=>obtain⟨t,q⟩:=(show∃t,u=gO i t from rx);cases q;exact eY PySem.W.kitx_int I.zY gi e nofun h
 |str y=>obtain⟨t,q⟩:=(show∃t,u=qI y t from rx);cases q;exact eY PySem.W.kitx_str I.zY gi e nofun h
 |flt y=>obtain⟨t,q⟩:=(show∃t,u=OD y t from rx);cases q;exact eY PySem.W.kitx_float I.zY gi e nofun h
 |@lst a xs ea=>
  cases(show u=aD a from rx)
  obtain⟨_,_,n,_,h1⟩:=(show fv X.prog X.w H s.heap a (.lst xs)from I.fw a _ ea)
  exact eY OY I.zY ⟨_,h1,rfl⟩ e nofun h
 |@frz a ob xs ea=>
  cases(show u=aD a from rx)
  obtain⟨_,_,_,n,_,h1⟩:=(show fv X.prog X.w H s.heap a (.frz ob (.lst xs))from I.fw a _ ea)
  exact eY OY I.zY ⟨_,h1,rfl⟩ e nofun h
 |@tup a xs ea=>
  cases(show u=aD a from rx)
  obtain⟨_,_,_,p⟩:=(show fv X.prog X.w H s.heap a (.tup xs)from I.fw a _ ea)
  obtain⟨o,h1,h2,_⟩:=p
  exact eY PySem.W.kitx_tuple I.zY ⟨o,h1,h2⟩ e nofun h
 |@dK a kvs ea=>
  cases(show u=aD a from rx)
  obtain⟨_,_,vs,_,p⟩:=(show fv X.prog X.w H s.heap a (.dK kvs)from I.fw a _ ea)
  obtain⟨o,es,ep,h1,h2,_⟩:=p
  exact eY OZ I.zY ⟨o,h1,h2.1⟩ e nofun h
 |@dT a kvs ea=>
  cases(show u=aD a from rx)
  obtain⟨_,_,xs,_,o,es,ep,h1,h2,_⟩:=(show fv X.prog X.w H s.heap a (.dT kvs)from I.fw a _ ea)
  exact eY OZ I.zY ⟨o,h1,h2.1⟩ e nofun h
 |@ins a C dx fs ea cl ha hn htk hm=>
  cases(show u=aD a from rx);obtain⟨mA,O,_⟩:=Ai I.fw ea;obtain⟨od,J,_⟩:=O.look;exact eY (PySem.W.kitx_own (cl.get _) cl.hd ha hn htk hm) I.zY J e nofun h
end
structure ij(k:Nat)(A:cT):Prop where
 hd:A.handled=none
 dp:A.depth+3*k+5<z4
 un:A.units+16*k+200<iQ
theorem ij.mono(r:ij k A)(h:j<=k):ij j A:=⟨r.hd,by have:=r.dp;lia,by have:=r.un;lia⟩
theorem ij.deeper(r:ij (k+1) A)(env:JW):ij k (A.deeper env):=
 ⟨r.hd,by have:=r.dp;show A.depth+1+3*k+5<_;lia,by have:=r.un;show A.units+3+16*k+200<_;lia⟩
theorem Ku{kw:List (bF×ak)}:(A.under (.builtin "type.__call__" ⟨.ref C::us,kw⟩)).depth=A.depth+1:=by
 first|rfl|simp[Ka,Code.weight,Code.isCreation,Code.isGuard,Code.isCaller,Code.frames,Nr,guardIds]
theorem Kv{kw:List (bF×ak)}:(A.under (.builtin "type.__call__" ⟨.ref C::us,kw⟩)).units=A.units+1:=by
 first|rfl|simp[Ka,Code.cUnits,Code.frames,Nr]
theorem ij.make(r:ij (k+1) A)(C:ai)(us:List ak)(kw:List (bF×ak)):ij k (A.under (.builtin "type.__call__" ⟨.ref C::us,kw⟩)):=
 ⟨r.hd,by have:=r.dp;rw[Ku];lia,by have:=r.un;rw[Kv];lia⟩
theorem ij.depth(r:ij k A):A.depth<z4:=by have:=r.dp;lia
theorem ij.units(r:ij k A):A.units+64<iQ:=by have:=r.un;lia
def a8:TA:=λ_ H Q=>Q [] H
def au(ta:TE)(tr:TA):TA:=λZ H Q=>ta Z H λx H1=>tr Z H1 λxs H2=>Q (x::xs) H2
section
variable{X:Cx}{te:TE}{t:TA}
theorem oG:PA X [] a8:=λ_ _ _ _ H Q I h=>lO ⟨[],H,I,.nil,h⟩
theorem fP(ha:PE X e te)(hr:PA X es t)(hs:bL (e::es) X.env=(false,fz e X.env)::bL es X.env:=by rfl):PA X (e::es) (au te t):=by
 intro pos pins s Z H Q I h;rw[hs]
 show aO _ _ (UA ((false,fz e X.env)::iA pos (bL es X.env))) _ _ s
 refine jh (hZ (ha pins s Z H _ I h) λu s1 ⟨x,H1,I1,r1,q1⟩=>?_)
 exact hZ (hr pos pins s1 Z H1 _ I1 q1) λus s2 ⟨xs,H2,I2,r2,q2⟩=>⟨x::xs,H2,I2,.cons r1 r2,q2⟩
def ir(t:TA):TE:=λZ H Q=>t Z H λxs H1=>xs.length<=aY/\∀p,H1 p=none->Q (.ref p) (upd H1 p (.tup xs))
def sV(t:TA):TE:=λZ H Q=>t Z H λxs H1=>xs.length<=aY/\∀p,H1 p=none->Q (.ref p) (upd H1 p (.lst xs))
theorem qP{x1}(h:PA X es t):PE X (.Tuple es x1 pos) (ir t):=by intro pins s Z H Q I hq;refine Ym (hZ (h pos pins s Z H _ I hq) λus s1 ⟨xs,H1,I1,r,z,q⟩=>⟨by rw[← r.length];exact z,?_⟩);have hf:H1 s1.heap.objs.size=none:=I1.fw.fresh (ay _);refine⟨.ref s1.heap.objs.size,upd H1 s1.heap.objs.size (.tup xs),I1.laid (t':=s1.toks) (λb u e=>ao _ e) (ay _) ?_,rfl,q _ hf⟩;exact⟨z,us,r,⟨_,aM _ rfl,rfl,_,rfl⟩⟩
theorem Pl(h:PA X es t):PE X (.List es pos) (sV t):=by intro pins s Z H Q I hq;refine wpAny_List_spliced (hZ (h pos pins s Z H _ I hq) λus s1 ⟨xs,H1,I1,r,z,q⟩=>⟨by rw[← r.length];exact z,?_⟩);have hf:H1 s1.heap.objs.size=none:=I1.fw.fresh (ay _);refine⟨.ref s1.heap.objs.size,upd H1 s1.heap.objs.size (.lst xs),I1.laid (t':=s1.toks) (λb u e=>ao _ e) (ay _) ?_,rfl,q _ hf⟩;exact⟨z,us,0,r,aM _ rfl⟩
end
abbrev Sp:=List V->Hp->VK->XK->Prop
abbrev J5:=List JW->Hp->aA->XK->ak->aA->Prop
structure Mc(P:bI)(w:cC)(K:aa)(mg:bF->Option ak)(base:cR)(A:cT)(outer:List JW)(s:aA)(H:Hp):Prop where
 frames:A.frames=some outer
 mod:Mod K mg base
 bs:∀b o,base.get? b=some o->s.heap.get? b=some o/\H b=none
 R6:base.objs.size<=s.heap.objs.size
 yw:s.heap.FunFrames base outer
 VL:∀b∈Ou outer,H b=none
 fw:qG P w H s.heap
 bare:xj s.gens
def CE(outer:List JW)(P:bI)(w:cC)(H:Hp)(s:aA)(Q:VK)(u:ak)(s':aA):Prop:=
 ∃v H',s'.os=s.os/\xj s'.gens/\Un (Ou outer) [] H H' s.heap s'.heap/\qG P w H' s'.heap/\RelV v u/\Q v H'
def CR(CX:J5)(outer:List JW)(P:bI)(w:cC)(H:Hp)(s:aA)(Q:VK)(E:XK)(r:JY)(s':aA):Prop:=
 match r with
 | .ok (.ret u)=>CE outer P w H s Q u s'
 | .ok _=>False
 | .error e=>CX outer H s E e s'
structure lN(P:bI)(w:cC)(K:aa)(mg:bF->Option ak)(base:cR)(CX:J5)(k:Nat)(f:ai)(fd:gG)(ps:List bF)(sp:Sp):Prop where
 len:∀vs H Q E,sp vs H Q E->vs.length=ps.length
 run:∀(A:cT) (outer:List JW) (s:aA) (H:Hp) (args:Args) (us:List ak) (vs:List V) (Q:VK) (E:XK),ij k A->Mc P w K mg base A outer s H->Hb s fd args (ps.zip us)->Vals vs us->sp vs H Q E ->jO (aR P w) A (.call (.ref f) args) (CR CX outer P w H s Q E) s
theorem Mc.make{K:aa}{H:Hp}(e:Mc P w K mg base A outer s H)(C:ai)(us:List ak)(kw:List (bF×ak)):Mc P w K mg base (A.under (.builtin "type.__call__" ⟨.ref C::us,kw⟩)) outer s H:=⟨by first|exact e.frames|(simpa[Ka,Code.envs,Nr,pushEnvs]using e.frames),e.mod,e.bs,e.R6,e.yw,e.VL,e.fw,e.bare⟩
section
variable{X:Cx}{Z:St}{H:Hp}
theorem Inv.ZU(I:Inv X pins Z H s):Mc X.prog X.w X.K X.mg X.base X.A X.stack s H:=
 ⟨I.ok.frames,I.ok.mod,I.bs,bw I.ok.R6 I.sz,I.stack,I.Np,I.fw,I.bare⟩
theorem Inv.after{Q:VK}(I:Inv X pins Z H s)(h:CE X.stack X.prog X.w H s Q u s'):EP X pins Z Q u s':=by obtain⟨v,H',os,bare,un,fw,r,q⟩:=h;obtain⟨hh,g,d,t,os'⟩:=s';obtain rfl:os'=s.os:=os;exact⟨v,H',I.call (h':=hh) (g':=g) (d':=d) (t':=t) (ch:=[]) un fw bare (λb z=>absurd z (by simp)),r,q⟩
end
def cY(sp:Sp)(dvs:List V)(E:XK)(t:TA):TE:=λZ H Q=>t Z H λvs H1=>sp (vs++dvs) H1 Q E
def gC(C:ai)(m:bF)(sp:Sp)(dvs:List V)(E:XK)(ta:TE)(t:TA):TE:=λZ H Q=>ta Z H λx H1=>∃a dx fs,x=.ref a/\H1 a=some (.ins C dx fs)/\fs.lookup m=none /\t Z H1 λvs H2=>sp (x::(vs++dvs)) H2 Q E
def Eo(C:ai)(sp:Sp)(dvs:List V)(E:XK)(t:TA):TE:=λZ H Q=>t Z H λvs H1=>∀x dx,H1 x=none->H1 dx=none->dx≠x ->sp (.ref x::(vs++dvs)) (upd (upd H1 dx (.own x)) x (.ins C dx [])) (λv H2=>v=.non/\Q (.ref x) H2) E
def Binds(K:aa)(fd:gG)(ps:List bF)(ds:List ak):Prop:=
 ∀(s:aA) (us:List ak),K.In s.heap->(us++ds).length=ps.length->Hb s fd ⟨us,[]⟩ (ps.zip (us++ds))
theorem Binds.all{K:aa}(h:∀us:List ak,us.length=ps.length->Hc fd ⟨us,[]⟩=pure (ps.zip us)):Binds K fd ps []:=λs us _ hl=>by rw[gY]at hl ⊢;exact .of_eq (h us hl)
def oH(CX:J5)(X:Cx)(E:XK):Prop:=∀(pins:List (ai×jv)) (Z:St) (H:Hp) (s:aA) (e:ak) (s':aA),Inv X pins Z H s->CX X.stack H s E e s'->X.xe e s'
section
variable{X:Cx}{CX:J5}{sp:Sp}{dvs:List V}{ds:List ak}{E:XK}{o:Expr}{ta:TE}{t:TA}
theorem Kx{Z:St}{H:Hp}{Q:VK}{vs:List V}(F:lN X.prog X.w X.K X.mg X.base CX k f fd ps sp)(hr:ij k X.A)(hb:Binds X.K fd ps ds)(hd:Vals dvs ds)(hx:oH CX X E)(I:Inv X pins Z H s)(r:Vals vs us)(h:sp (vs++dvs) H Q E):aO (aR X.prog X.w) X.A (call (.ref f) us) (EP X pins Z Q) X.xe s:=by
 have r2:Vals (vs++dvs) (us++ds):=r.append hd
 have hl:(us++ds).length=ps.length:=by rw[← r2.length];exact F.len _ _ _ _ h
 refine OF (mU (F.run X.A X.stack s H ⟨us,[]⟩ (us++ds) (vs++dvs) Q E hr I.ZU (hb s us I.zY hl) r2 h) λr s' hq=>?_)
 cases r with
 |error e=>exact hx pins Z H s e s' I hq
 |ok fl=>
  cases fl with
  |ret u=>exact I.after hq
  |next=>exact ik hq
  |brk=>exact ik hq
  |cont=>exact ik hq
theorem Th(F:lN X.prog X.w X.K X.mg X.base CX k f fd ps sp)(hr:ij k X.A)(hg:Gl X x)(hm:X.mg x=some (.ref f))(hk:eV X.K (.ref f)=true)(hb:Binds X.K fd ps ds)(hd:Vals dvs ds)(hx:oH CX X E)(ha:PA X (e::es) t)(hdb:(x == ("__debug__":bF))=false:=by decide)(he:bL (e::es) X.env=(false,fz e X.env)::bL es X.env:=by rfl)(hpl:(iA pos (bL es X.env)).any (·.1)=false:=by rfl):PE X (.Call (.Name x p) (e::es) [] pos) (cY sp dvs E t):=by intro pins s Z H Q I h;refine eE (Fs I hg hm ?_ hdb);refine xn (h₀:=X.base) I.ok.mod.Z2 hk (hZ (ha pos pins s Z H _ I h) λus s1 ⟨vs,H1,I1,r,q⟩=>⟨I1.zY,?_⟩) he hpl;exact Kx F hr hb hd hx I1 r q
theorem Tj{pl:Uz Bool}(he:PE X o ta)(c:CY X.K C)(hm:Te X.K C m f)(F:lN X.prog X.w X.K X.mg X.base CX k f fd ps sp)(hr:ij k X.A)(hb:Binds X.K fd ps ds)(hd:Vals dvs ds)(hx:oH CX X E)(ha:PA X (e::es) t)(hst:bL (e::es) X.env=(false,fz e X.env)::bL es X.env:=by rfl)(hpl:(iA pos (bL es X.env)).any (·.1)=false:=by rfl)(ht:fz (.Call (.Attribute o m apos) (e::es) [] pos) X.env=(do
  let ov ← fz o X.env
  xm apos.atName
  let (f,first) ← kZ [ov] (Au ov m pl)
  XR pos f first (iA pos (bL (e::es) X.env)) (Hd pos (sL [] X.env))):=by rfl):PE X (.Call (.Attribute o m apos) (e::es) [] pos) (gC C m sp dvs E ta t):=by
 intro pins s Z H Q I h;refine Kb (pl:=pl) (hZ (he pins s Z H _ I h) λu s1 ⟨x,H1,I1,rx,a,dx,fs,ex,ea,l,q⟩=>?_) ht;subst ex;obtain rfl:u=aD a:=rx;refine AG I1 ea c hm l ?_;refine xn (first:=[.ref a]) (h₀:=X.base) I.ok.mod.Z2 hm.kp (hZ (ha pos pins s1 Z H1 _ I1 q) λus s2 ⟨vs,H2,I2,r,q2⟩=>⟨I2.zY,?_⟩) hst hpl;exact Kx (us:=.ref a::us) (vs:=.ref a::vs) F hr hb hd hx I2 (.cons rfl r) q2
theorem Pm{pl:Uz Bool}(he:PE X o ta)(c:CY X.K C)(hm:Te X.K C m f)(F:lN X.prog X.w X.K X.mg X.base CX k f fd ps sp)(hr:ij k X.A)(hb:Binds X.K fd ps ds)(hd:Vals dvs ds)(hx:oH CX X E)(ht:fz (.Call (.Attribute o m apos) [] [] pos) X.env=(do
  let ov ← fz o X.env
  xm apos.atName
  let (f,first) ← kZ [ov] (Au ov m pl)
  XR pos f first (iA pos (bL [] X.env)) (Hd pos (sL [] X.env))):=by rfl):PE X (.Call (.Attribute o m apos) [] [] pos) (gC C m sp dvs E ta a8):=by
 intro pins s Z H Q I h;refine Kb (pl:=pl) (hZ (he pins s Z H _ I h) λu s1 ⟨x,H1,I1,rx,a,dx,fs,ex,ea,l,q⟩=>?_) ht;subst ex;obtain rfl:u=aD a:=rx;refine AG I1 ea c hm l ?_;exact PySem.W.callWith_K0 (first:=[.ref a]) I1.zY hm.kp (Kx (us:=[.ref a]) (vs:=[.ref a]) F hr hb hd hx I1 (.cons rfl .nil) q)
structure Mk(K:aa)(C f:ai):Prop where
 makes:kD K C=true
 init:bJ K (.ref C) "__init__"=some (some (.ref f))
 fn:qJ K (.ref f)=true
 kp:eV K (.ref C)=true
theorem Pn{Z:St}{H:Hp}{Q:VK}{vs:List V}(M:Mk X.K C f)(F:lN X.prog X.w X.K X.mg X.base CX k f fd ps sp)(hr:ij (k+1) X.A)(hb:Binds X.K fd ps ds)(hd:Vals dvs ds)(hx:oH CX X E)(I:Inv X pins Z H s)(r:Vals vs us)(h:∀x dx,H x=none->H dx=none->dx≠x->sp (.ref x::(vs++dvs)) (upd (upd H dx (.own x)) x (.ins C dx [])) (λv H2=>v=.non/\Q (.ref x) H2) E):aO (aR X.prog X.w) X.A (call (.ref C) us) (EP X pins Z Q) X.xe s:=by
 have hq:=h (s.heap.objs.size+1) s.heap.objs.size (I.fw.fresh (gN _)) (I.fw.fresh (ay _)) (bg (ip _));have I2:=Inv.made (C:=C) I;have r2:Vals (V.ref (s.heap.objs.size+1)::(vs++dvs)) (aD (s.heap.objs.size+1)::(us++ds)):=.cons rfl (r.append hd)
 have hl:(aD (s.heap.objs.size+1)::us++ds).length=ps.length:=by have e:=r2.length;rw[F.len _ _ _ _ hq]at e;exact e.symm
 refine OF (Pk (f:=f) I.zY M.makes M.init (beq_iff_eq.mp M.fn) (mU (F.run _ X.stack _ _ ⟨aD (s.heap.objs.size+1)::us,[]⟩ (aD (s.heap.objs.size+1)::(us++ds)) _ _ E (hr.make C us [])
  (I2.ZU.make C us []) (hb _ (aD (s.heap.objs.size+1)::us) I2.zY hl) r2 hq) λr s' hq'=>?_))
 cases r with
 |error e=>exact hx pins Z _ _ e s' I2 hq'
 |ok fl=>
  cases fl with
  |ret u=>
   obtain⟨v,H',I3,rv,ev,q3⟩:=I2.after hq';subst ev
   exact⟨rv,⟨V.ref (s.heap.objs.size+1),H',I3,rfl,q3⟩⟩
  |next=>exact ik hq'
  |brk=>exact ik hq'
  |cont=>exact ik hq'
theorem FA(M:Mk X.K C f)(F:lN X.prog X.w X.K X.mg X.base CX k f fd ps sp)(hr:ij (k+1) X.A)(hg:Gl X x)(hm:X.mg x=some (.ref C))(hb:Binds X.K fd ps ds)(hd:Vals dvs ds)(hx:oH CX X E)(ha:PA X (e::es) t)(hdb:(x == ("__debug__":bF))=false:=by decide)(he:bL (e::es) X.env=(false,fz e X.env)::bL es X.env:=by rfl)(hpl:(iA pos (bL es X.env)).any (·.1)=false:=by rfl):PE X (.Call (.Name x p) (e::es) [] pos) (Eo C sp dvs E t):=by intro pins s Z H Q I h;refine eE (Fs I hg hm ?_ hdb);refine xn (h₀:=X.base) I.ok.mod.Z2 M.kp (hZ (ha pos pins s Z H _ I h) λus s1 ⟨vs,H1,I1,r,q⟩=>⟨I1.zY,?_⟩) he hpl;exact Pn M F hr hb hd hx I1 r q
end
section
variable{X:Cx}{CX:J5}{ks:List bF}{sp:Sp}{E:XK}{kpos:xu}{o:Expr}{kws:List UB}{te ta:TE}{t tk:TA}{nm:Option bF}
variable{g:List ak->List ak->List ak}{gV:List V->List V->List V}
end
structure bO(N P:List bF)(sc:qH):Prop where
 kind:sc.kind=.function
 co:sc.isCoroutine=false
 gen:sc.isGenerator=false
 nd:N.Nodup
 pre:N.take P.length=P
 par:∀x∈P,sc.names.lookup x=some .local\/sc.names.lookup x=some .cell
 XH:∀y∈sc.names,y.2≠.free
theorem Ep:∀{binds:List (bF×ak)}{m:bF->Option ak},(∀v,(x,v)∉binds)->Sz kindOf binds m x=m x
 | [],_,_=>rfl
 |(n,v)::r,m,h=>by
  unfold Sz;rw[Ep λw hw=>h w (ag _ hw)]
  split
  .have:x≠n:=by rintro rfl;exact h v aj
   simp[this]
  .rfl
theorem Er:∀{binds:List (bF×ak)}{m:bF->Option ak},(∀v,(x,v)∉binds)->SB kindOf binds m x=m x
 | [],_,_=>rfl
 |(n,v)::r,m,h=>by
  unfold SB;rw[Er λw hw=>h w (ag _ hw)]
  split
  .rfl
  .have:x≠n:=by rintro rfl;exact h v aj
   simp[this]
theorem Es:∀{P:List bF}{vs:List ak}{i:Nat}{m:bF->Option ak},P.Nodup->P[i]?=some x->vs[i]?=some v->kindOf x=some .local ->Sz kindOf (P.zip vs) m x=some v
 | [],_,_,_,_,h,_,_=>by simp at h
 |_::_,[],_,_,_,_,h,_=>by simp at h
 |p::P,w::vs,0,m,nd,h1,h2,hk=>by
  simp at h1 h2;subst h1;subst h2
  show Sz kindOf ((p,w)::P.zip vs) m p=_
  unfold Sz;rw[Ep λv hv=>(bq.mp nd).1 (tG hv).1,if_pos hk]
  simp
 |p::P,w::vs,i+1,m,nd,h1,h2,hk=>by
  show Sz kindOf ((p,w)::P.zip vs) m x=_
  unfold Sz;exact Es (i:=i) (bq.mp nd).2 (by simpa using h1) (by simpa using h2) hk
theorem Et:∀{P:List bF}{vs:List ak}{i:Nat}{m:bF->Option ak},P.Nodup->P[i]?=some x->vs[i]?=some v->kindOf x≠some .local ->SB kindOf (P.zip vs) m x=some v
 | [],_,_,_,_,h,_,_=>by simp at h
 |_::_,[],_,_,_,_,h,_=>by simp at h
 |p::P,w::vs,0,m,nd,h1,h2,hk=>by
  simp at h1 h2;subst h1;subst h2
  show SB kindOf ((p,w)::P.zip vs) m p=_
  unfold SB;rw[Er λv hv=>(bq.mp nd).1 (tG hv).1,if_neg hk]
  simp
 |p::P,w::vs,i+1,m,nd,h1,h2,hk=>by
  show SB kindOf ((p,w)::P.zip vs) m x=_
  unfold SB;exact Et (i:=i) (bq.mp nd).2 (by simpa using h1) (by simpa using h2) hk
def start(N:List bF)(vs:List V):St:=vs.map some++oW (N.length-vs.length) none
def FB(CX:J5)(P:bI)(w:cC)(K:aa)(mg:bF->Option ak)(base:cR)(N:List bF)(qual:bF)(scope:qH)(f:ai)(cd:ak)(A:cT)(outer:List JW)(s:aA)(H:Hp)(E:XK):Cx where
 prog:=P
 w:=w
 K:=K
 mg:=mg
 base:=base
 A:=A.deeper (tH qual scope s.heap.objs.size f cd)
 N:=N
 s₀:=s
 H₀:=H
 env:=tH qual scope s.heap.objs.size f cd
 outer:=outer
 stack:=tH qual scope s.heap.objs.size f cd::outer
 ex:=[]
 calm:=true
 fn:=λ_=>true
 pn:=[]
 xe:=λe s'=>aO (aR P w) (A.deeper (tH qual scope s.heap.objs.size f cd)) (leaving (tH qual scope s.heap.objs.size f cd) e) (λ_ s''=>CX outer H s E e s'') (λe' s''=>CX outer H s E e' s'') s'
theorem HK{sc:qH}(h:sc.names.lookup x=some .cell):∃c,(cellsFrom n sc.names []).lookup x=some c:=by have q:=JZ sc.names n [] (.inl h);exact Ht.mp q
theorem NP{CX:J5}{K:aa}{cd:ak}{s1:aA}{H:Hp}{E:XK}{vs:List V}(S:bO N ps scope)(hd:A.handled=none)(e0:Mc P w K mg base A outer s H)(hl:vs.length=ps.length)(r:Vals vs us)(x:InCallC s s.heap.objs.size (Sz (tH qual scope s.heap.objs.size f cd).kindOf (ps.zip us) λ_=>none) (cellsFrom (s.heap.objs.size+1) scope.names []) (SB (tH qual scope s.heap.objs.size f cd).kindOf (ps.zip us) λ_=>none) s1):Inv (FB CX P w K mg base N qual scope f cd A outer s H E) [] (start N vs) H s1:=by
 have hpl:ps.length<=N.length:=by have:=congrArg cK S.pre;rw[bG]at this;lia
 obtain⟨h1,tk,rfl,hk⟩:=x.done;have noA:∀b:ai,b∉(FB CX P w K mg base N qual scope f cd A outer s H E).ex:=λb z=>absurd (show b∈([]:List ai)from z) (by simp)
 refine⟨⟨e0.mod,S.kind,rfl,rfl,ay _,λy z c h1 h2=>?_,λy hy=>?_,λy c _ h=>?_,λ_=>hd,Around.frames_deeper e0.frames,.inr ⟨rfl,rfl⟩,λb z=>absurd z (noA b),e0.bs,e0.R6,λb _ _=>noA b,λb z=>absurd z (noA b),e0.yw,e0.VL⟩,rfl,e0.bare,Un.kept hk,⟨_,x.toInCall.ns,λi y v h1 h2 h3=>?_⟩,λy c h=>⟨_,x.cell y c h⟩,e0.fw.fresh (ay _),λy c h=>?_,λp hp=>absurd (show p∈([]:List (ai×jv))from hp) (by simp),e0.fw.kept hk,?_⟩
 .exact name_of_addr x.apart (kj h1) (kj h2)
 .have hy:scope.names.lookup y=some .cell\/scope.names.lookup y=some .free:=hy
  rcases hy with hy|hy
  .exact HK hy
  .exact absurd rfl (S.XH _ (kj hy))
 .exact kh (x.above y c (kj h))
 .have hi:i<vs.length:=by
   unfold start at h2
   by_cases hi:i<vs.length
   .exact hi
   .rw [d7 (by simpa using hi)]at h2;rw[Mi]at h2
    split at h2<;>cases h2
  have ha:vs[i]?=some v:=by
   unfold start at h2;rw[eI (by simpa using hi),aG]at h2
   cases e:vs[i]? with
   |none=>rw[e]at h2;cases h2
   |some a=>rw[e]at h2;cases h2;rfl
  obtain⟨u,hu,rv⟩:=r.get ha
  have hp:ps[i]?=some y:=by rw[← S.pre,List.getElem?_take_of_lt (by lia)];exact h1
  have ndP:ps.Nodup:=by rw[← S.pre];exact S.nd.sublist (List.take_sublist _ _)
  refine⟨u,rv,?_⟩
  rcases S.par y (aP hp)with k|k
  .exact .inl ⟨k,Es ndP hp hu k⟩
  .obtain ⟨c,e⟩:=HK (n:=s.heap.objs.size+1) k;refine .inr ⟨.inl k,c,e,?_⟩;have q:=x.cell y c e;rw[Et ndP hp hu (by show scope.names.lookup y≠_;rw[k];decide)]at q;exact q
 .exact e0.fw.fresh (kh (x.above y c (kj h)))
 .unfold start
  show _=N.length
  rw[bj,af,uD];lia
theorem UW{CX:J5}{K:aa}{params:qB}{dV kV doc pm oF ct oc:ak}{an od:Option ai}{osl:Array (Option ak)}{N ps:List bF}{sp:Sp}(lk:K.lookup f=some ⟨oc,od,.func (iD name qual params body scope dV kV doc pm an oF ct),osl⟩)(hcd:nZ K oF qual=true)(S:bO N ps scope)(len:∀vs H Q E,sp vs H Q E->vs.length=ps.length)(hbody:∀(A:cT) (outer:List JW) (s:aA) (H:Hp) (vs:List V) (Q:VK) (E:XK),ij k (A.deeper (tH qual scope s.heap.objs.size f oF))->sp vs H Q E ->∃t,J9 (FB CX P w K mg base N qual scope f oF A outer s H E) body t/\t { nx:=λ_ H'=>Q .non H',rt:=Q } (start N vs) H):lN P w K mg base CX (k+1) f (iD name qual params body scope dV kV doc pm an oF ct) ps sp:=by
 refine⟨len,λA outer s H args us vs Q E hr e0 hb r hsp=>?_⟩;have hl:=len _ _ _ _ hsp;have KX:K.In s.heap:=e0.mod.Z2.keeps λb o e=>(e0.bs b o e).1;have lim:s.heap.NoLimit:=e0.mod.nolimit.keeps λb o e=>(e0.bs b o e).1
 have hkind:∀y∈ps.zip us,scope.names.lookup y.1=some .local\/(scope.names.lookup y.1=some .cell/\((cellsFrom (s.heap.objs.size+1) scope.names []).lookup y.1).isSome=true):=λ⟨n,v⟩ hy=>by
  rcases S.par n (tG hy).1 with q|q
  .exact .inl q
  .exact .inr ⟨q,JZ _ _ _ (.inl q)⟩
 refine codeAny_call_function hr.depth (KX _ _ lk) rfl S.co S.gen rfl (PySem.W.codeRec_of KX hcd) (hb _ _ _ _ ?_);refine wpAny_newFunctionEnv_cells S.kind hkind λenv he s1 x=>?_;subst he;refine⟨lim.keeps x.toInCall.keep,codeAny_func ?_⟩;obtain⟨t,ht,hq⟩:=hbody A outer s H vs Q E (hr.deeper _) hsp;have I:Inv (FB CX P w K mg base N qual scope f oF A outer s H E) [] (start N vs) H s1:=NP S hr.hd e0 hl r x;refine dQ (ht [] s1 (start N vs) H _ I hq) (λfl s' hs=>?_) λe s' hs=>hs
 have fin:∀{σ':St}{H':Hp}{v:V}{u:ak},Inv (FB CX P w K mg base N qual scope f oF A outer s H E) [] σ' H' s'->RelV v u->Q v H'->CE outer P w H s Q u s':=
  λ{σ' H' v u} J rv q=>⟨v,H',J.os,J.bare,J.base,J.fw,rv,q⟩
 cases fl with
 |ret u=>
  obtain⟨v,σ',H',J,rv,q⟩:=hs
  exact fin J rv q
 |next=>
  obtain⟨σ',H',J,q⟩:=hs
  exact fin (v:=V.non) (u:=dZ) J rfl q
 |brk=>
  obtain⟨_,_,_,q⟩:=hs
  exact ik q
 |cont=>
  obtain⟨_,_,_,q⟩:=hs;exact ik q
section
variable{X:Cx}{t:TA}{id T:String}{r:List V->Hp->VK->Prop}
def oI(r:List V->Hp->VK->Prop)(t:TA):TE:=λZ H Q=>t Z H λvs H1=>r vs H1 Q
theorem md(hc:mO X (.builtin id) r)(hg:Gl X x)(hm:X.mg x=none)(hv:dE x=some (.builtin id))(ha:PA X (e::es) t)(hn:x≠"__name__":=by decide)(hdb:(x == ("__debug__":bF))=false:=by decide)(he:bL (e::es) X.env=(false,fz e X.env)::bL es X.env:=by rfl)(hpl:(iA pos (bL es X.env)).any (·.1)=false:=by rfl):PE X (.Call (.Name x p) (e::es) [] pos) (oI r t):=by intro pins s Z H Q I h;refine eE (nj I hg hm hv ?_ hn hdb);exact vo (hZ (ha pos pins s Z H _ I h) λus s1 ⟨vs,H1,I1,r1,q1⟩=>hc pins s1 Z H1 vs us Q I1 r1 q1) he hpl
end
end L2
namespace HT
open PySem PyProof.Rows
def lexLt:List Int->List Int->Bool
 | [],[]=>false
 | [],_::_=>true
 |_::_,[]=>false
 |x::xs,y::ys=>if x=y then lexLt xs ys else decide (x<y)
theorem AJ(x y:Int)(xs ys:List Int):lexLt (x::xs) (y::ys)=if x=y then lexLt xs ys else decide (x<y):=rfl
theorem C7:lexLt [] []=false:=rfl
theorem AK(y:Int)(ys:List Int):lexLt [] (y::ys)=true:=rfl
theorem AM(x:Int)(xs:List Int):lexLt (x::xs) []=false:=rfl
theorem Po(A:cT)(s:aA)(a:Int)(t:Yj)(c:Int)(u:Yj):∃e,SeqAt.EqAt A s (.int a t) (.int c u) e/\(e=true↔a=c):=
 ⟨(a == c),iW a t c u,by simp⟩
theorem Pp(A:cT)(s:aA)(a:Int)(t:Yj)(c:Int)(u:Yj)(prog:bI)(w:cC)(E:ak->aA->Prop)(Q:ak->aA->Prop)(h:Q (.bool (decide (a<c))) s):aO (aR prog w) A (richCompare .Lt (.int a t) (.int c u)) Q E s:=
 (Sx h:aO (aR prog w) A (dw .Lt (.int a t) (.int c u)) Q E s)
section
open PySem.SeqAt
open PySem.AutoSeq1 (wpAny_loadPart')
open PySem.MeetsSeq PySem.MeetsSeq2 PySem.MeetsSeq3
theorem C8(l b:ai)(items items2:Array ak)(n n2:Nat)(dd dd2:Option ai)(sl sl2:Array (Option ak))(ns ms:List Int)(hi:eX items.toList ns)(hj:eX items2.toList ms):Meets (jt.«tuple.__lt__» ⟨[.ref l,.ref b],[]⟩)
  (λ_ R s=>s.heap.get? l=some { cls:=.type "tuple",dict:=dd,data:=.seq items n,slots:=sl }/\s.heap.get? b=some { cls:=.type "tuple",dict:=dd2,data:=.seq items2 n2,slots:=sl2 } /\R (.ok (.ret (.bool (lexLt ns ms)))) s):=
 .of_wp λprog w A R s h=>by
  obtain⟨hp,g,d,tk,os⟩:=s;obtain⟨hl,hb,h⟩:=h;have f2:=AutoSeq1.sub_tuple_tuple
  have z1:items.size=ns.length:=by rw[← hi.length];simp
  have z2:items2.size=ms.length:=by rw[← hj.length];simp
  wp_walk using wpAny_loadPart' hl,wpAny_loadPart' hb,wpAny_forIn_list _ (λrest b s'=>b.1=none/\s'=⟨hp,g,d,tk,os⟩/\∃(vs ws:List ak) (ns' ms':List Int),rest=vs.zip ws /\eX vs ns'/\eX ws ms'/\ns'.length+items2.size=ms'.length+items.size/\R (.ok (.ret (.bool (lexLt ns' ms')))) ⟨hp,g,d,tk,os⟩) _
  case turn=>
   rintro⟨y,x⟩ rest b s' ⟨hb',rfl,vs,ws,ns',ms',hz,hvi,hwi,hlen,hR⟩
   cases hvi with
   |nil=>rw[List.zip_nil_left]at hz;cases hz
   |cons a t hvi'=>
    cases hwi with
    |nil=>rw[List.zip_nil_right]at hz;cases hz
    |cons c u hwi'=>
     rw[ju]at hz
     injection hz with hyx hrest
     injection hyx with hy hx
     subst hy hx;rw[AJ]at hR;simp only[bR]at hlen;obtain⟨e,he,hiff⟩:=Po A.in1 ⟨hp,g,d,tk,os⟩ a t c u;refine ae (he prog w _ _ ?_)
     cases e with
     |true=>
      rw[if_pos (hiff.mp rfl)]at hR
      wp_walk
      exact⟨rfl,rfl,_,_,_,_,hrest,hvi',hwi',by lia,hR⟩
     |false=>
      rw[if_neg (λq=>absurd (hiff.mpr q) bM)]at hR;have hri:=Pp A.in1 ⟨hp,g,d,tk,os⟩ a t c u prog w
      wp_walk using hri
      exact⟨_,rfl,by simpa using hR⟩
  case fin=>
   rintro⟨b1,b2⟩ s' ⟨hb',rfl,vs,ws,ns',ms',hz,hvi,hwi,hlen,hR⟩;simp only at hb';subst hb'
   have hv:lexLt ns' ms'=decide (items.size<items2.size):=by
    cases hvi with
    |nil=>
     cases hwi with
     |nil=>
      simp only[k8]at hlen;rw[C7]
      exact(decide_eq_false (by lia)).symm
     |cons c u hw=>
      simp only[k8,bR]at hlen;rw[AK]
      exact(decide_eq_true (by lia)).symm
    |cons a t hv=>
     cases hwi with
     |nil=>
      simp only[k8,bR]at hlen;rw[AM]
      exact(decide_eq_false (by lia)).symm
     |cons c u hw=>
      rw[ju]at hz;cases hz
   rw[hv]at hR
   wp_walk
   exact⟨_,rfl,by simpa[Builtin.Tuple.tupleCompareSizes]using hR⟩
  case h=>
   exact⟨rfl,rfl,items.toList,items2.toList,ns,ms,rfl,hi,hj,by lia,h⟩
end
section
variable{prog:bI}{w:cC}{A:cT}{E:ak->aA->Prop}{s:aA}
theorem Ky{l b:ai}{items items2:Array ak}{ns ms:List Int}{Q:ak->aA->Prop}(hl:xv s.heap l items)(hb:xv s.heap b items2)(hi:eX items.toList ns)(hj:eX items2.toList ms)(hu:A.units<iQ)(h:Q (.bool (lexLt ns ms)) s):aO (aR prog w) A (dw .Lt (.ref l) (.ref b)) Q E s:=by
 obtain⟨⟨cls,dd,data,sl⟩,ho,hc,n,hd⟩:=id hl;obtain⟨⟨cls2,dd2,data2,sl2⟩,ho2,hc2,n2,hd2⟩:=id hb;simp only at hc hd hc2 hd2;subst hc hd hc2 hd2
 exact richCompare_meets_room (op:=.Lt) ⟨_,ho,rfl⟩ ⟨_,ho2,rfl⟩ PySem.F.slot_tuple_lt PySem.F.entry_tuple_lt (PySem.F.args_tuple_lt_2 _ _) (C8 l b items items2 n n2 dd dd2 sl sl2 ns ms hi hj)
  ⟨ho,ho2,show sk (lexLt ns ms)≠Value.notImplemented/\Q (.bool (lexLt ns ms)) s from⟨nofun,h⟩⟩ hu
def Hs(n d:Nat):Option Int->Nat
 |none=>d
 |some v=>if v<0 then(v+(n:Int)).toNat else min v.toNat n
theorem HL(n d:Nat):Hs n d none=d:=rfl
theorem Tn(n d k:Nat):Hs n d (some (k:Int))=min k n:=by
 show(if(k:Int)<0 then((k:Int)+(n:Int)).toNat else min (k:Int).toNat n)=min k n
 rw[if_neg (by lia),gZ]
end
end HT
namespace L2
variable{H H':Hp}{X:Cx}{s:aA}{a b p:ai}{pins:List (ai×jv)}{Z:St}{w:cC}{P:bI}{pos apos cpos:xu}{A:cT}{E Q:ak->aA->Prop}{y x v:V}{u:ak}{xs ys:List V}{o:Option V}{e:Expr}{n t' j:Nat}{its us its':List ak}{i:Int}{r:R2}{T:String}{h':cR}{trs:List (TE×TE)}
abbrev TO:=St->Hp->(Option Int->Hp->Prop)->Prop
def PO(X:Cx)(e:Option Expr)(t:TO):Prop:=
 ∀(pins:List (ai×jv)) (s:aA) (Z:St) (H:Hp) (Q:Option Int->Hp->Prop),Inv X pins Z H s->t Z H Q ->aO (aR X.prog X.w) X.A (evalPart e X.env) (λu s'=>∃o H',Inv X pins Z H' s'/\IsPart u o/\Q o H') X.xe s
def j9:TO:=λ_ H Q=>Q none H
def kq(t:TE):TO:=λZ H Q=>t Z H λx H1=>∃i,x=.int i/\Q (some i) H1
theorem intsAre_of{ns:List Int}:∀{us:List ak},Vals (ns.map V.int) us->eX us ns:=by
 induction ns with
 |nil=>intro us r;rw[sM]at r;cases r;exact .nil
 |cons n ns ih=>
  intro us r;rw[aZ]at r
  cases r with
  |cons r1 r2=>
   obtain⟨t,e⟩:=r1;subst e;exact .cons n t (ih r2)
section
variable{te:TE}{lo hi:Option Expr}{tl th:TO}{p2:xu}
theorem To:PO X none j9:=by intro pins s Z H Q I h;rw[evalPart_none];exact ar ⟨none,H,I,.none,h⟩
theorem Tp(h:PE X e te):PO X (some e) (kq te):=by intro pins s Z H Q I hw;rw[evalPart_some];refine hZ (h pins s Z H _ I hw) λu s1 ⟨x,H1,I1,r1,q1⟩=>?_;obtain⟨i,rfl,q⟩:=q1;obtain⟨t,rfl⟩:=r1;exact⟨some i,H1,I1,.int i t,q⟩
def SlR(X:Cx)(r:V->Option Int->Option Int->Hp->VK->Prop):Prop:=
 ∀(pins:List (ai×jv)) (s:aA) (Z:St) (H:Hp) (x:V) (v vl vu:ak) (lo hi:Option Int) (sl:ai) (Q:VK),Inv X pins Z H s->RelV x v->s.heap.IsSliceOf sl vl vu .none->IsPart vl lo->IsPart vu hi->r x lo hi H Q ->∃T id,Ei (.type T) "__getitem__"=pure (some (.builtin id))/\s.TypeIs v T/\aO (aR X.prog X.w) X.A (getItem v (.ref sl)) (EP X pins Z Q) X.xe s
def J7(r:V->Option Int->Option Int->Hp->VK->Prop)(te:TE)(tl th:TO):TE:=λZ H Q=>te Z H λx H1=>tl Z H1 λl H2=>th Z H2 λu H3=>r x l u H3 Q
theorem Pq{r:V->Option Int->Option Int->Hp->VK->Prop}(hr:SlR X r)(he:PE X e te)(hl:PO X lo tl)(hu:PO X hi th):PE X (.Subscript e (.Slice lo hi none p2) pos) (J7 r te tl th):=by
 intro pins s Z H Q I h;refine Subscript_ (hZ (he pins s Z H _ I h) λv s1 ⟨x,H1,I1,r1,q1⟩=>?_);refine wpAny_Slice (hZ (hl pins s1 Z H1 _ I1 q1) λvl s2 ⟨l,H2,I2,pl,q2⟩=>hZ (hu pins s2 Z H2 _ I2 q2) λvu s3 ⟨u,H3,I3,pu,q3⟩=>?_);rw[evalPart_none];refine ar ?_;have I4:Inv X pins Z H3 { s3 with heap:=s3.heap.push { cls:=.type "slice",data:=.fields #[vl,vu,.none] } }:=I3.kept (t':=s3.toks) λb ob q=>ao _ q;obtain⟨T,id,hT,ht,hg⟩:=hr pins { s3 with heap:=s3.heap.push { cls:=.type "slice",data:=.fields #[vl,vu,.none] } } Z H3 x v vl vu l u s3.heap.objs.size Q I4 r1 (Heap.IsSliceOf.new ..) pl pu q3
 show aO (aR X.prog X.w) X.A (subscriptTail e (.Slice lo hi none p2) v (.ref s3.heap.objs.size)) (EP X pins Z Q) X.xe { s3 with heap:=s3.heap.push { cls:=.type "slice",data:=.fields #[vl,vu,.none] } }
 exact tail_any (ops:=[.ref s3.heap.objs.size,v]) ht hT hg (by with_unfolding_all rfl)
def xH(xs:List V)(lo hi:Option Int):List V:=(xs.drop (HT.Hs xs.length 0 lo)).take (HT.Hs xs.length xs.length hi-HT.Hs xs.length 0 lo)
theorem HM(xs:List V)(lo hi:Option Int):(xH xs lo hi).length<=xs.length:=by unfold xH;rw[bG,cW];lia
end
def OT(n:Nat)(i:Int):Option Nat:=if 0<=i then(if i<n then some i.toNat else none)else if -(n:Int)<=i then some (i+n).toNat else none
def Pr{α:Type}(xs:List α)(i:Int):Option α:=(OT xs.length i).bind λj=>xs[j]?
theorem Mx(h:OT n i=some j):seqIndex? i n=some j/\j<n/\-(n:Int)<=i/\i<n:=by
 unfold OT at h
 by_cases h0:0<=i
 .rw [if_pos h0]at h
  by_cases h1:i<n
  .rw [if_pos h1]at h;have e:i.toNat=j:=aX h;exact⟨by rw[XS h0 h1,e],by lia,by lia,h1⟩
  .rw [if_neg h1]at h;cases h
 .rw [if_neg h0]at h
  by_cases h1:-(n:Int)<=i
  .rw [if_pos h1]at h;have e:(i+n).toNat=j:=aX h;exact⟨by rw[seqIndex_neg (by lia) h1,e],by lia,h1,by lia⟩
  .rw [if_neg h1]at h;cases h
theorem My{α:Type}{xs:List α}{v:α}(h:Pr xs i=some v):∃j,seqIndex? i xs.length=some j/\xs[j]?=some v/\j<xs.length/\-(xs.length:Int)<=i/\i<xs.length:=by
 unfold Pr at h
 cases e:OT xs.length i with
 |none=>rw[e]at h;cases h
 |some j=>
  rw[e]at h;obtain⟨h1,h2,h3,h4⟩:=Mx e;exact⟨j,h1,h,h2,h3,h4⟩
theorem Tq{α:Type}{xs:List α}{v:α}(h:xs[j]?=some v):Pr xs (j:Int)=some v:=by
 have hj:j<xs.length:=(av.mp h).1
 have e:OT xs.length (j:Int)=some j:=by unfold OT;rw[if_pos (by lia),if_pos (by lia)];simp
 unfold Pr;rw[e];exact h
theorem Pu{α:Type}(xs:List α)(v:α):Pr (xs++[v]) (-1)=some v:=by
 have hl:(xs++[v]).length=xs.length+1:=by simp
 have e:OT (xs++[v]).length (-1)=some xs.length:=by
  unfold OT;rw[hl,if_neg (by decide),if_pos (by lia)]
  congr 1
  lia
 unfold Pr;rw[e]
 show(xs++[v])[xs.length]?=some v
 simp
def Tr(b:Expr):Prop:=∀o i,subscripted b false o i=operate [o,i] (getItem o i)
def Uv(X:Cx)(r:R2):Prop:=
 ∀(value slice:Expr) (pins:List (ai×jv)) (s:aA) (Z:St) (H:Hp) (x y:V) (v u:ak) (Q:VK),Inv X pins Z H s->RelV x v->RelV y u->r x y H Q ->subscripted slice false v u=operate [v,u] (getItem v u)->aO (aR X.prog X.w) X.A (subscriptTail value slice v u) (EP X pins Z Q) X.xe s
def MtR(X:Cx)(id:String)(r:V->List V->Hp->VK->Prop):Prop:=
 ∀(pins:List (ai×jv)) (s:aA) (Z:St) (H:Hp) (x:V) (xs:List V) (v:ak) (us:List ak) (Q:VK),Inv X pins Z H s->RelV x v->Vals xs us->r x xs H Q ->aO (aR X.prog X.w) X.A (call (.builtin id) (v::us)) (EP X pins Z Q) X.xe s
section
variable{a b:Expr}{ta tb:TE}
theorem Uv.or{r':R2}(h:Uv X r)(h':Uv X r'):Uv X (λx y H Q=>r x y H Q\/r' x y H Q):=by
 intro value slice pins s Z H x y v u Q I rx ry q hs
 rcases q with q|q
 .exact h value slice pins s Z H x y v u Q I rx ry q hs
 .exact h' value slice pins s Z H x y v u Q I rx ry q hs
theorem Pw(hr:Uv X r)(ha:PE X a ta)(hb:PE X b tb)(hs:Tr b):PE X (.Subscript a b pos) (cq r ta tb):=by intro pins s Z H Q I h;exact Subscript_ (Wp ha hb I h λv u s2 x y H2 I2 rx ry q=>hr a b pins s2 Z H2 x y v u Q I2 rx ry q (hs _ _))
def YB(K:aa):R2:=λx y H Q=>∃p xs i v,x=.ref p/\y=.int i/\c6 K H p xs/\Pr xs i=some v/\Q v H
def YC(K:aa):R2:=λx y H Q=>∃p xs i v,x=.ref p/\y=.int i/\jq K H p xs/\Pr xs i=some v/\Q v H
theorem Ts:Uv X (YB X.K):=by
 intro value slice pins s Z H x y v u Q I rx ry h hs;obtain⟨p,xs,i,z,rfl,rfl,hq,he,q⟩:=h;cases rx;obtain⟨t,rfl⟩:=ry;obtain⟨its,r,pl,hz⟩:=I.list hq;obtain⟨j,h1,h2,h3,h4,h5⟩:=My he;obtain⟨w,ew,rw'⟩:=r.get h2;have hl:=r.length;have hn:=uI
 have fin:EP X pins Z Q w s:=⟨z,H,I,rw',q⟩
 by_cases h0:0<=i
 .have hj:i.toNat=j:=by
   rw[XS h0 h5]at h1;exact aX h1
  exact item_listR pl.isList h0 (by lia) (by rw[hj];simpa using ew) fin hs
 .have hj:(i+(its.toArray.size:Int)).toNat=j:=by
   rw[seqIndex_neg (by lia) h4]at h1;rw[aQ,← hl];exact aX h1
  exact UC (x:=w) pl.isList.typeIs slot_list_getitem.lookup
   (wpAny_getItem_list_neg (Q:=λr s'=>r=w/\EP X pins Z Q r s') pl.isList (by lia) (by rw[aQ]<;>lia) (by lia) (by rw[hj];simpa using ew) ⟨rfl,fin⟩) hs
theorem Wx:Uv X (YC X.K):=by
 intro value slice pins s Z H x y v u Q I rx ry h hs;obtain⟨p,xs,i,z,rfl,rfl,hq,he,q⟩:=h;cases rx;obtain⟨t,rfl⟩:=ry;obtain⟨its,r,pl,hz⟩:=I.tuple hq;obtain⟨j,h1,h2,h3,h4,h5⟩:=My he;obtain⟨w,ew,rw'⟩:=r.get h2;have hl:=r.length;have hn:=uI
 have fin:EP X pins Z Q w s:=⟨z,H,I,rw',q⟩
 exact UC (x:=w) pl.typeIs slot_tuple_getitem.lookup
  (getItem_tuple (j:=j) (Q:=λr s'=>r=w/\EP X pins Z Q r s') pl (by lia) (by lia) (by rw[aQ,← hl];exact h1) (by simpa using ew) ⟨rfl,fin⟩) hs
theorem Kz(its:List ak)(n j:Nat)(u:ak):bz (·.setIfInBounds j u) { cls:=.type "list",data:=.seq its.toArray n }={ cls:=.type "list",data:=.seq (its.set j u).toArray n }:=by simp[bz]
theorem Inv.lst(I:Inv X pins Z H s)(h:H p=some (.lst xs)):∃(its:List ak) (n:Nat),Vals xs its/\s.heap.get? p=some { cls:=.type "list",data:=.seq its.toArray n }/\xs.length<=aY:=by obtain⟨z,its,n,r,e⟩:=I.fw p _ h;exact⟨its,n,r,e,z⟩
theorem Inv.XD{n':Nat}{f:jv->jv}(I:Inv X pins Z H s)(h:H p=some (.lst xs))(ho:s.heap.get? p=some { cls:=.type "list",data:=.seq its.toArray n })(hf:f { cls:=.type "list",data:=.seq its.toArray n }={ cls:=.type "list",data:=.seq its'.toArray n' })(r:Vals ys its')(hz:ys.length<=aY)(t:Nat):Inv X pins Z (upd H p (.lst ys)) { s with heap:=s.heap.update p f,toks:=t }:=by
 have e:(s.heap.update p f).get? p=some { cls:=.type "list",data:=.seq its'.toArray n' }:=by rw[bD f ho (by rw[hf]<;>rfl),hf]
 refine I.write (x:=p) (e:=p) (by rw[h];trivial) (.inl rfl) (λb u hb q=>(bh _ _ (Ne.symm hb)).trans q) ⟨_,e⟩ ?_;exact⟨hz,its',n',r,e⟩
def UX:V->V->V->Hp->(Hp->Prop)->Prop:=λo i v H Q=>∃p xs k j,o=.ref p/\i=.int k/\H p=some (.lst xs)/\OT xs.length k=some j/\Q (upd H p (.lst (xs.set j v)))
theorem Px:SN X UX:=by
 intro pins s Z H o i v ov iv u Q I ro ri rv h;obtain⟨p,xs,k,j,rfl,rfl,hp,hj,q⟩:=h;cases ro;obtain⟨t,rfl⟩:=ri;obtain⟨its,n,r,ho,hz⟩:=I.lst hp;obtain⟨h1,h2,h3,h4⟩:=Mx hj;have hl:=r.length;have hn:=uI
 have I':Inv X pins Z (upd H p (.lst (xs.set j v))) { s with heap:=s.heap.update p (bz (·.setIfInBounds j u)) }:=
  I.XD hp ho (Kz its n j u) (r.set rv j) (by rw[List.length_set];exact hz) s.toks
 by_cases h0:0<=k
 .have hk:k.toNat=j:=by
   rw[XS h0 h4]at h1;exact aX h1
  exact PySem.W.ki_setAt ho h0 (by lia) (by rw[aQ,← hl];exact h4) (by rw[hk];exact⟨_,I',q⟩)
 .have hk:(k+(its.toArray.size:Int)).toNat=j:=by
   rw[seqIndex_neg (by lia) h3]at h1;rw[aQ,← hl];exact aX h1
  exact PySem.W.ki_setBack ho (by lia) (by rw[aQ,← hl];exact h3) (by lia) (by rw[hk];exact⟨_,I',q⟩)
theorem FC(lo hi:Option Int)(n:Nat):(oS lo hi none n).1=((HT.Hs n 0 lo:Nat):Int)/\(oS lo hi none n).2.1=((HT.Hs n n hi:Nat):Int)/\(oS lo hi none n).2.2=1:=by
 refine⟨?_,?_,rfl⟩
 .cases lo with
  |none=>simp[oS,HT.Hs]
  |some i=>
   simp only[oS,HT.Hs,SC,show(1:Int)>0 by decide,if_true]
   by_cases h:i<0
   .simp only[h,if_true]<;>lia
   .simp only[h,if_false]<;>lia
 .cases hi with
  |none=>simp[oS,HT.Hs]
  |some i=>
   simp only[oS,HT.Hs,SC,show(1:Int)>0 by decide,if_true]
   by_cases h:i<0
   .simp only[h,if_true]<;>lia
   .simp only[h,if_false]<;>lia
theorem C9(its:List ak)(lo hi:Option Int):slicePick its.toArray lo hi none=((its.drop (HT.Hs its.length 0 lo)).take (HT.Hs its.length its.length hi-HT.Hs its.length 0 lo)).toArray:=by obtain⟨h1,h2,h3⟩:=FC lo hi its.toArray.size;unfold slicePick;rw[h1,h2,h3];simp only[sliceRange_one,pick_run,aQ]<;>rfl
def qb(K:aa):V->Option Int->Option Int->Hp->VK->Prop:=λx lo hi H Q=>∃a xs,x=.ref a/\c6 K H a xs/\∀p,H p=none->Q (.ref p) (upd H p (.lst (xH xs lo hi)))
theorem Tu:SlR X (qb X.K):=by intro pins s Z H x v vl vu lo hi sl Q I rx hs pl pu h;obtain⟨a,xs,rfl,hx,q⟩:=h;cases rx;obtain⟨its,r,ht,hz⟩:=I.list hx;have hlen:=r.length;refine⟨"list",_,slot_list_getitem.lookup,ht.isList.typeIs,?_⟩;refine wpAny_getItem_list_slice ht.isList hs pl pu .none (by simp) ?_ (by rw[aQ]<;>lia);rw[C9,← hlen];refine⟨.ref s.heap.objs.size,_,I.laid (t':=s.toks) (o:=.lst (xH xs lo hi)) (λb ob q=>ao _ q) (ay _) ?_,rfl,q _ (I.fw.fresh (ay _))⟩;exact⟨bw (HM xs lo hi) hz,_,0,(r.drop (HT.Hs xs.length 0 lo)).take (HT.Hs xs.length xs.length hi-HT.Hs xs.length 0 lo),aM _ rfl⟩
theorem FD:mO X (.builtin "len") (λxs H Q=>∃p ys,xs=[.ref p]/\(c6 X.K H p ys\/jq X.K H p ys)/\Q (.int ys.length) H):=by
 intro pins s Z H xs us Q I r h;obtain⟨p,ys,rfl,hq,q⟩:=h;obtain⟨u,rfl,rx⟩:=vals1 r;cases rx;have hn:=uI
 rcases hq with hq|hq
 .obtain ⟨its,r',pl,hz⟩:=I.list hq;have hlen:=r'.length;exact Calls.call_len_list pl.isList (by simp only[aQ]<;>lia) ⟨.int ys.length,H,I.tok _,⟨s.toks+1,by rw[aQ,hlen]⟩,q⟩
 .obtain ⟨its,r',pl,hz⟩:=I.tuple hq;have hlen:=r'.length;exact len_tuple pl (by simp only[aQ]<;>lia) ⟨.int ys.length,H,I.tok _,⟨s.toks+1,by rw[aQ,hlen]⟩,q⟩
theorem mO.or{f:ak}{r r':List V->Hp->VK->Prop}(h:mO X f r)(h':mO X f r'):mO X f (λxs H Q=>r xs H Q\/r' xs H Q):=by
 intro pins s Z H xs us Q I rs q
 rcases q with q|q
 .exact h pins s Z H xs us Q I rs q
 .exact h' pins s Z H xs us Q I rs q
def tyV(K:aa)(T:String)(x:V)(H:Hp):Prop:=match x with
 | .str _=>T="str"
 | .int _=>T="int"
 | .ref p=>(T="list"/\∃xs,c6 K H p xs)\/(T="tuple"/\∃o,K.lookup p=some o/\o.cls=.type "tuple"/\o.dict=none) \/(T="dict"/\((∃kvs,H p=some (.dK kvs))\/∃kvs,H p=some (.dT kvs)))\/(T="set"/\∃S n,H p=some (.set S n))
 |_=>False
theorem Wy{v:ak}(I:Inv X pins Z H s)(r:RelV x v)(ty:tyV X.K T x H):s.TypeIs v T/\∀a,v=.ref a->∃ob,s.heap.get? a=some ob/\ob.dict=none:=by
 cases x with
 |str z=>
  obtain⟨t,rfl⟩:=r;cases(show T="str"from ty)
  exact⟨typeIs_str s z t,λ_ e=>nomatch e⟩
 |int i=>
  obtain⟨t,rfl⟩:=r;cases(show T="int"from ty)
  exact⟨typeIs_int s i t,λ_ e=>nomatch e⟩
 |ref p=>
  cases r
  rcases ty with⟨rfl,xs,hq⟩|⟨rfl,o,hk,hc,hd⟩|⟨rfl,hk⟩|⟨rfl,S,n,hk⟩
  .obtain ⟨its,_,pl,_⟩:=I.list hq;refine⟨pl.isList.typeIs,λa e=>?_⟩;cases e;obtain⟨o,n,e,c,hd,_⟩:=pl;exact⟨o,e,hd⟩
  .refine ⟨⟨o,I.zY p o hk,hc⟩,λa e=>?_⟩;cases e;exact⟨o,I.zY _ o hk,hd⟩
  .have z:∃o,s.heap.get? p=some o/\o.ExactDict:=by
    rcases hk with⟨kvs,hk⟩|⟨kvs,hk⟩
    .obtain ⟨_,_,_,_,o,_,_,e,ex,_⟩:=I.fw p _ hk;exact⟨o,e,ex⟩
    .obtain ⟨_,_,_,_,o,_,_,e,ex,_⟩:=I.fw p _ hk;exact⟨o,e,ex⟩
   obtain⟨o,e,ex⟩:=z;refine⟨⟨o,e,ex.1⟩,λa e2=>?_⟩;cases e2;exact⟨o,e,ex.2.1⟩
  .obtain ⟨o,_,_,_,e,ex,_⟩:=I.fw p _ hk;refine⟨⟨o,e,ex.1⟩,λa e2=>?_⟩;cases e2
   exact⟨o,e,ex.2.1⟩
 |_=>exact ik ty
def AN(K:aa)(T:String)(r:V->List V->Hp->VK->Prop)(to:TE)(t:TA):TE:=λZ H Q=>to Z H λx H1=>tyV K T x H1/\t Z H1 λxs H2=>r x xs H2 Q
variable{o:Expr}{es:List Expr}{to:TE}{t:TA}{name:bF}{id:String}{r:V->List V->Hp->VK->Prop}
theorem pe(pa:PlainAttrs T)(slot:Slot T name id)(hty:typeOf (.builtin id)=pure (.type "method_descriptor"))(hm:MtR X id r)(ho:PE X o to)(ha:PA X (e::es) t)(hbase:tF o name X.env (fz o X.env)=fz o X.env:=by rfl)(hfew:((iA cpos (bL (e::es) X.env)).all (λx=>!x.1) && (Hd cpos (sL [] X.env)).all (λx=>x.1.isSome)
  && decide ((e::es).length+([]:List UB).length+(if([]:List UB).isEmpty then 0 else 1)<30))=true:=by rfl)(hline:(apos.endLine == cpos.line)=true:=by rfl)(hs:bL (e::es) X.env=(false,fz e X.env)::bL es X.env:=by rfl)(hplain:(iA cpos (bL es X.env)).any (·.1)=false:=by rfl):PE X (.Call (.Attribute o name apos) (e::es) [] cpos) (AN X.K T r to t):=by
 intro pins s Z H Q I h;refine wpAny_Call_method_late hbase hfew hline rfl (hZ (ho pins s Z H _ I h) λv s1 ⟨x,H1,I1,r1,ty,q1⟩=>?_);obtain⟨h1,h2⟩:=Wy I1 r1 ty;refine⟨T,id,pa,slot,hty,h1,h2,?_⟩;have hA:=ha cpos pins s1 Z H1 _ I1 q1;rw[hs]at hA ⊢;refine Calls.callWith_builtin (by show(false || (iA cpos (bL es X.env)).any (·.1))=false;rw[hplain]<;>rfl) (Calls.evalArgs_plain ?_);exact hZ hA λus s2 ⟨vs,H2,I2,r2,q2⟩=>hm pins s2 Z H2 x vs v us Q I2 r1 r2 q2
end
def Su(X:Cx)(id:String)(r:V->List V->Hp->VK->Prop):Prop:=
 ∀(pins:List (ai×jv)) (s:aA) (Z:St) (H:Hp) (x:V) (xs:List V) (v:ak) (us:List ak) (Q:VK),Inv X pins Z H s->RelV x v->Vals xs us->r x xs H Q ->aO (aR X.prog X.w) X.A (call (.builtin id) (v::us)) (EP X pins Z Q) X.xe s
theorem Vals.one(h:Vals [x] us):∃u,us=[u]/\RelV x u:=by
 cases h with
 |cons r t=>cases t;exact⟨_,rfl,r⟩
theorem Vals.two(h:Vals [x,y] us):∃u v,us=[u,v]/\RelV x u/\RelV y v:=by
 cases h with
 |cons r t=>
  cases t with
  |cons q t=>cases t;exact⟨_,_,rfl,r,q⟩
theorem Vals.reverse(h:Vals xs us):Vals xs.reverse us.reverse:=by
 induction h with
 |nil=>exact .nil
 |cons r t ih=>rw[UD,UD];exact Vals.append ih (.cons r .nil)
section
variable{l:ai}{zs:List V}
theorem Inv.lset{f:Array ak->Array ak}(I:Inv X pins Z H s)(hH:H l=some (.lst xs))(e:s.heap.get? l=some { cls:=.type "list",data:=.seq its.toArray n })(hf:f its.toArray=its'.toArray)(hv:Vals ys its')(hz:ys.length<=aY):Inv X pins Z (upd H l (.lst ys)) { s with heap:=s.heap.update l (bz f),toks:=t' }:=by have q:=PySem.IsL.update e f;rw[hf]at q;refine I.write (x:=l) (e:=l) (by rw[hH];exact trivial) (.inl rfl) (λb' u hb hu=>(bh s.heap (bz f) (Ne.symm hb)).trans hu) ⟨_,q⟩ ?_;exact⟨hz,its',_,hv,q⟩
theorem Inv.ZM(I:Inv X pins Z H s)(hv:Vals ys its)(hz:ys.length<=aY):Inv X pins Z (upd H s.heap.objs.size (.lst ys)) { s with heap:=s.heap.push { cls:=.type "list",data:=.seq its.toArray },toks:=t' }:=
 I.laid (λ_ _ q=>ao _ q) (ay _) ⟨hz,its,0,hv,aM _ rfl⟩
theorem Inv.fresh(I:Inv X pins Z H s):H s.heap.objs.size=none:=I.fw.fresh (ay _)
theorem Inv.XE(I:Inv X pins Z H s)(hH:H l=some (.lst xs)):xs.length<=aY/\∃(its:List ak) (n:Nat),Vals xs its/\xs.length=its.length/\s.heap.get? l=some { cls:=.type "list",data:=.seq its.toArray n }:=by obtain⟨z,its,n,r,e⟩:=I.fw l _ hH;exact⟨z,its,n,r,r.length,e⟩
end
def kJ:V->List V->Hp->VK->Prop:=λx vs H Q=>∃l xs y,x=.ref l/\vs=[y]/\H l=some (.lst xs)/\xs.length<aY/\Q .non (upd H l (.lst (xs++[y])))
theorem sF:Su X "list.append" kJ:=by intro pins s Z H x vs v us Q I rx rv h;obtain⟨l,xs,y,rfl,rfl,hH,hz,q⟩:=h;cases rx;obtain⟨u,rfl,ru⟩:=rv.one;obtain⟨z,its,n,r,hl,e⟩:=I.XE hH;refine call_meets F.slot_list_append ⟨_,e,rfl⟩ F.entry_list_append (F.args_list_append_2 _ _) (PySem.list_append l its.toArray n u (by rw[aQ];lia)) ⟨e,?_⟩;refine⟨.non,_,I.lset (its':=its++[u]) hH e (by simp) (r.append (.cons ru .nil)) ?_,rfl,q⟩;rw[bj,OG];lia
def YD:R2:=λx y H Q=>∃l b xs zs,x=.ref l/\y=.ref b/\H l=some (.lst xs)/\H b=some (.lst zs)/\xs.length+zs.length<=aY/\∀p,H p=none->Q (.ref p) (upd H p (.lst (xs++zs)))
theorem Wz:qy X (vg .Add) YD:=by
 intro pins s Z H x y v u Q I rx ry h;obtain⟨l,b,xs,zs,rfl,rfl,hH,hB,hz,q⟩:=h;cases rx;cases ry;obtain⟨z,its,n,r,hl,e⟩:=I.XE hH;obtain⟨z2,its2,n2,r2,hl2,e2⟩:=I.XE hB;refine PySem.P.add_list e e2 ?_ (by rw[aQ,aQ];lia)
 have ea:its.toArray++its2.toArray=(its++its2).toArray:=by simp
 rw[ea];exact⟨.ref _,_,I.ZM (t':=s.toks) (r.append r2) (by rw[bj];lia),rfl,q _ I.fresh⟩
section
variable{prog:bI}
end
section
variable{κ:Type}[DecidableEq κ]
def eD(kvs:List (κ×V))(k:κ):Option V:=(kvs.find? λkv=>decide (kv.1=k)).map (·.2)
def i7(kvs:List (κ×V))(k:κ)(v:V):List (κ×V):=
 if(kvs.any λkv=>decide (kv.1=k))=true then kvs.map (λkv=>if kv.1=k then(kv.1,v)else kv)else kvs++[(k,v)]
def mf(kvs:List (κ×V))(k:κ):List (κ×V):=kvs.filter λkv=>decide (kv.1≠k)
theorem iu{p:κ×V}{r:List (κ×V)}{k:κ}(e:p.1=k):eD (p::r) k=some p.2:=by simp[eD,lb,e]
theorem gM{p:κ×V}{r:List (κ×V)}{k:κ}(e:¬ p.1=k):eD (p::r) k=eD r k:=by simp[eD,lb,e]
theorem nu(k:κ):∀kvs:List (κ×V),(kvs.any λkv=>decide (kv.1=k))=(eD kvs k).isSome
 | []=>rfl
 |p::r=>by
  rw[Kc]
  by_cases e:p.1=k
  .simp only[iu e,decide_eq_true e,Bool.true_or,Option.isSome_some]
  .rw [gM e,decide_eq_false e,Bool.false_or];exact nu k r
theorem HN(k j:κ)(y:V):∀kvs:List (κ×V),eD (kvs.map λkv=>if kv.1=k then(kv.1,y)else kv) j=(eD kvs j).map λx=>if j=k then y else x
 | []=>rfl
 |p::r=>by
  have ih:=HN k j y r;rw[aZ]
  by_cases h:p.1=k
  .rw [if_pos h]
   by_cases e:p.1=j
   .rw [iu (p:=(p.1,y)) e,iu e,jr,if_pos (e.symm.trans h)]
   .rw [gM (p:=(p.1,y)) e,gM e,ih]
  .rw [if_neg h]
   by_cases e:p.1=j
   .rw [iu (p:=p) e,iu e,jr,if_neg (λz=>h (e.trans z))]
   .rw [gM (p:=p) e,gM e,ih]
theorem Eu(k j:κ)(y:V):∀kvs:List (κ×V),eD kvs k=none->eD (kvs++[(k,y)]) j=if j=k then some y else eD kvs j
 | [],_=>by
  by_cases e:k=j
  .rw [if_pos e.symm];exact iu (p:=(k,y)) e
  .rw [if_neg (λz=>e z.symm)];exact gM (p:=(k,y)) e
 |p::r,hn=>by
  rw[CZ]
  have hk:¬ p.1=k:=λz=>by rw[iu z]at hn;cases hn
  rw[gM hk]at hn;have ih:=Eu k j y r hn
  by_cases e:p.1=j
  .rw [iu e,iu e,if_neg (λz=>hk (e.trans z))]
  .rw [gM e,gM e,ih]
theorem AO(kvs:List (κ×V))(k j:κ)(y:V):eD (i7 kvs k y) j=if j=k then some y else eD kvs j:=by
 unfold i7
 by_cases a:(kvs.any λkv=>decide (kv.1=k))=true
 .rw [if_pos a,HN];rw[nu]at a
  by_cases e:j=k
  .obtain ⟨x,hx⟩:=Ht.mp a;rw[if_pos e,e,hx,jr,if_pos rfl]
  .rw [if_neg e]
   cases eD kvs j with
   |none=>rfl
   |some x=>rw[jr,if_neg e]
 .rw [if_neg a];refine Eu k j y kvs ?_;rw[nu]at a
  cases q:eD kvs k with
  |none=>rfl
  |some x=>rw[q]at a;exact(a rfl).elim
theorem kr(kvs:List (κ×V))(k:κ)(v:V):(i7 kvs k v).length<=kvs.length+1:=by
 unfold i7
 split
 .rw [af];lia
 .rw [bj,bR,k8];lia
theorem HP{kvs:List (κ×V)}{k:κ}(v:V)(h:eD kvs k=none):i7 kvs k v=kvs++[(k,v)]:=by unfold i7;rw[nu,h];exact if_neg (by decide)
theorem pQ.pO{u:Option ak}(r:pQ o u):o.isSome=u.isSome:=by
 cases o with
 |none=>cases u with
  |none=>rfl
  |some _=>exact(show False from r).elim
 |some _=>cases u with
  |none=>exact(show False from r).elim
  |some _=>rfl
theorem KV.val{kvs:List (κ×V)}{vs:List (κ×ak)}(r:KV kvs vs)(k:κ):pQ (eD kvs k) (sN vs k):=by
 unfold KV at r
 induction r with
 |nil=>exact gi
 |@cons p q ps qs h t ih=>
  obtain⟨h1,h2⟩:=h
  by_cases e:p.1=k
  .have e':q.1=k:=h1.symm.trans e
   have b:sN (q::qs) k=some q.2:=by simp[sN,lb,e']
   rw[iu e,b];exact h2
  .have e':¬ q.1=k:=λz=>e (h1.trans z)
   have b:sN (q::qs) k=sN qs k:=by simp[sN,lb,e']
   rw[gM e,b];exact ih
theorem KV.any{kvs:List (κ×V)}{vs:List (κ×ak)}(r:KV kvs vs)(k:κ):(kvs.any λkv=>decide (kv.1=k))=vs.any λkv=>decide (kv.1=k):=by
 unfold KV at r
 induction r with
 |nil=>rfl
 |cons h t ih=>rw[Kc,Kc,ih,h.1]
theorem KV.XO{kvs:List (κ×V)}{vs:List (κ×ak)}(r:KV kvs vs)(k:κ){y:V}{u:ak}(ry:RelV y u):KV (kvs.map λkv=>if kv.1=k then(kv.1,y)else kv) (vs.map λkv=>if kv.1=k then(kv.1,u)else kv):=by
 unfold KV at r ⊢
 induction r with
 |nil=>exact .nil
 |@cons p q ps qs h t ih=>
  rw[aZ,aZ];refine .cons ?_ ih;obtain⟨h1,h2⟩:=h
  by_cases e:p.1=k
  .rw [if_pos e,if_pos (h1.symm.trans e)];exact⟨h1,ry⟩
  .rw [if_neg e,if_neg (λz=>e (h1.trans z))];exact⟨h1,h2⟩
theorem KV.put{kvs:List (κ×V)}{vs:List (κ×ak)}(r:KV kvs vs)(k:κ){y:V}{u:ak}(ry:RelV y u):KV (i7 kvs k y) (stored vs k u):=by
 unfold i7 stored;rw[r.any k]
 by_cases e:(vs.any λkv=>decide (kv.1=k))=true
 .rw [if_pos e,if_pos e];exact r.XO k ry
 .rw [if_neg e,if_neg e];exact Paired.snoc r ⟨rfl,ry⟩
theorem KV.length{kvs:List (κ×V)}{vs:List (κ×ak)}(r:KV kvs vs):kvs.length=vs.length:=xi r
end
theorem AQ{k:dJ}(r:RelV (kV k) u):(eP P w).is k u=true:=by
 cases k with
 |inl i=>obtain⟨t,e⟩:=(show∃t,u=gO i t from r);subst e;exact HB P w i t
 |inr x=>obtain⟨t,e⟩:=(show∃t,u=qI x t from r);subst e;exact HC P w x t
theorem Ew:∀{ks:List dJ}{us:List ak},Vals (ks.map kV) us->ItemsAre (eP P w) ks us
 | [],_,r=>by rw[sM]at r;cases r;exact .nil
 |k::ks,_,r=>by
  rw[aZ]at r
  cases r with
  |cons h t=>exact .cons (AQ h) (Ew t)
abbrev KT(H:Hp):List (List dJ×V)->List (List dJ×ai×ak)->Prop:=Paired λp q=>p.1=q.1/\H q.2.1=some (.tup (p.1.map kV))/\RelV p.2 q.2.2
theorem KT.val{kvs:List (List dJ×V)}{xs:List (List dJ×ai×ak)}(r:KT H kvs xs)(k:List dJ):pQ (eD kvs k) ((He xs k).map (·.2)):=by
 induction r with
 |nil=>exact gi
 |@cons p q ps qs h t ih=>
  obtain⟨h1,_,h2⟩:=h
  by_cases e:p.1=k
  .have e':q.1=k:=h1.symm.trans e
   have b:He (q::qs) k=some q.2:=by simp[He,lb,e']
   rw[iu e,b];exact h2
  .have e':¬ q.1=k:=λz=>e (h1.trans z)
   have b:He (q::qs) k=He qs k:=by simp[He,lb,e']
   rw[gM e,b];exact ih
theorem KT.XO{kvs:List (List dJ×V)}{xs:List (List dJ×ai×ak)}(r:KT H kvs xs)(k:List dJ){y:V}{u:ak}(ry:RelV y u):KT H (kvs.map λkv=>if kv.1=k then(kv.1,y)else kv) (xs.map (putAt k u)):=by
 induction r with
 |nil=>exact .nil
 |@cons p q ps qs h t ih=>
  rw[aZ,aZ];refine .cons ?_ ih;obtain⟨h1,h2,h3⟩:=h;unfold putAt
  by_cases e:p.1=k
  .rw [if_pos e,if_pos (h1.symm.trans e)];exact⟨h1,h2,ry⟩
  .rw [if_neg e,if_neg (λz=>e (h1.trans z))];exact⟨h1,h2,h3⟩
theorem KT.put{kvs:List (List dJ×V)}{xs:List (List dJ×ai×ak)}(r:KT H kvs xs)(k:List dJ){b:ai}{y:V}{u:ak}(hb:H b=some (.tup (k.map kV)))(ry:RelV y u):KT H (i7 kvs k y) (storedH xs k b u):=by
 have e:(kvs.any λkv=>decide (kv.1=k))=(He xs k).isSome:=by rw[nu,(r.val k).pO,zr]
 unfold i7 storedH;rw[e]
 by_cases q:(He xs k).isSome=true
 .rw [if_pos q,if_pos q];exact r.XO k ry
 .rw [if_neg q,if_neg q];exact Paired.snoc r ⟨rfl,hb,ry⟩
theorem KT.keeps{kvs:List (List dJ×V)}{xs:List (List dJ×ai×ak)}(r:KT H kvs xs)(ht:∀b ys,H b=some (.tup ys)->H' b=some (.tup ys)):KT H' kvs xs:=
 Paired.OA r λ_ _ z=>⟨z.1,ht _ _ z.2.1,z.2.2⟩
section
variable{h:cR}
theorem UY{u:HO}(ok:qG P w H h)(e:Rd H a u):fv P w H h a u:=e.ok ok
theorem Ex{kvs:List (dJ×V)}(ok:qG P w H h)(e:Rd H a (.dK kvs)):kvs.length<=aY/\(a == iH)=false/\∃vs,KV kvs vs/\h.DictOf (eP P w) a vs:=
 show fv P w H h a (.dK kvs)from UY ok e
theorem Mz{kvs:List (dJ×V)}(ok:qG P w H h)(e:H a=some (.dK kvs)):kvs.length<=aY/\(a == iH)=false/\∃vs,KV kvs vs/\h.DictOf (eP P w) a vs:=Ex ok (.inl e)
theorem qQ{ks:List dJ}(ok:qG P w H h)(e:H a=some (.tup (ks.map kV))):(kY (eP P w)).is h ks a:=by
 obtain⟨_,its,r,o,h1,h2,n,h3⟩:=(show fv P w H h a (.tup (ks.map kV))from ok a _ e)
 exact⟨o,its.toArray,n,h1,h2,h3,by simpa using Ew r⟩
theorem Ey{kvs:List (List dJ×V)}(ok:qG P w H h)(e:Rd H a (.dT kvs)):kvs.length<=aY/\(a == iH)=false /\∃xs,KT H kvs xs/\h.DictOfH (kY (eP P w)) a xs:=by
 obtain⟨z,y,xs,r,o,es,ep,h1,h2,h3,h4,h5⟩:=(show fv P w H h a (.dT kvs)from UY ok e)
 refine⟨z,y,xs,r,o,es,ep,h1,h2,h3,h4,λx hx=>?_,h5⟩
 have all:∀{l:List (List dJ×V)}{m:List (List dJ×ai×ak)},KT H l m->∀x∈m,(kY (eP P w)).is h x.1 x.2.1:=by
  intro l m q
  induction q with
  |nil=>intro x hx;exact nomatch hx
  |@cons p q ps qs hq t ih=>
   intro x hx
   rcases aw.mp hx with e|hx
   .subst e;exact qQ ok (by rw[← hq.1];exact hq.2.1)
   .exact ih x hx
 exact all r x hx
theorem YE{kvs:List (List dJ×V)}(ok:qG P w H h)(e:H a=some (.dT kvs)):kvs.length<=aY/\(a == iH)=false /\∃xs,KT H kvs xs/\h.DictOfH (kY (eP P w)) a xs:=Ey ok (.inl e)
end
def vf(H:Hp)(a:ai)(y:V)(r:Option V):Prop:=
 (∃kvs k,Rd H a (.dK kvs)/\y=kV k/\r=eD kvs k)\/∃kvs k b,Rd H a (.dT kvs)/\y=.ref b/\H b=some (.tup (k.map kV))/\r=eD kvs k
def tw(H:Hp)(a:ai)(y v:V)(H':Hp):Prop:=
 (∃kvs k,H a=some (.dK kvs)/\y=kV k/\kvs.length<aY/\H'=upd H a (.dK (i7 kvs k v))) \/∃kvs k b,H a=some (.dT kvs)/\y=.ref b/\H b=some (.tup (k.map kV))/\kvs.length<aY/\H'=upd H a (.dT (i7 kvs k v))
theorem vf.k{kvs:List (dJ×V)}{k:dJ}(e:H a=some (.dK kvs)):vf H a (kV k) (eD kvs k):=.inl ⟨kvs,k,.inl e,rfl,rfl⟩
theorem vf.t{kvs:List (List dJ×V)}{k:List dJ}(e:H a=some (.dT kvs))(eb:H b=some (.tup (k.map kV))):vf H a (.ref b) (eD kvs k):=.inr ⟨kvs,k,b,.inl e,rfl,eb,rfl⟩
theorem tw.k{kvs:List (dJ×V)}{k:dJ}(e:H a=some (.dK kvs))(hl:kvs.length<aY):tw H a (kV k) v (upd H a (.dK (i7 kvs k v))):=.inl ⟨kvs,k,e,rfl,hl,rfl⟩
theorem tw.t{kvs:List (List dJ×V)}{k:List dJ}(e:H a=some (.dT kvs))(eb:H b=some (.tup (k.map kV)))(hl:kvs.length<aY):tw H a (.ref b) v (upd H a (.dT (i7 kvs k v))):=.inr ⟨kvs,k,b,e,rfl,eb,hl,rfl⟩
section
variable{r:ak}
theorem Inv.big(I:Inv X pins Z H s):iH<s.heap.objs.size:=by have h:bV<s.heap.objs.size:=(I.mod.glob.keeps I.bk).lt;exact OH (by decide) h
theorem Ez(hu:A.units+1<iQ)(I:Inv X pins Z H s)(g:vf H a y (some v))(ry:RelV y u)(h:∀w' s',Inv X pins Z H s'->RelV v w'->Q w' s'):aO (aR X.prog X.w) A (getItem (.ref a) u) Q E s:=by
 rcases g with⟨kvs,k,e,ey,l⟩|⟨kvs,k,b,e,ey,eb,l⟩
 .subst ey;obtain⟨z,hd,vs,rel,dd⟩:=Ex I.fw e;obtain⟨w',hw,rw'⟩:=pQ.some_of (v:=v) (o:=sN vs k) (by rw[l];exact rel.val k);exact wpAny_getItem_of (AQ ry) dd.mapOf hw (h w' _ (I.tok _) rw')
 .subst ey;cases(show u=aD b from ry);obtain⟨z,hd,xs,rel,dd⟩:=Ey I.fw e;obtain⟨w',hw,rw'⟩:=pQ.some_of (v:=v) (o:=(He xs k).map (·.2)) (by rw[l];exact rel.val k);obtain⟨p,hp,hp2⟩:=dz.mp hw;refine wpAny_getItem_heap (jP hu) (qQ I.fw eb) dd hp ?_;rw[hp2];exact h w' _ (I.tok _) rw'
theorem d_in(hu:A.units+1<iQ)(I:Inv X pins Z H s)(g:vf H a y o)(ry:RelV y u)(h:∀s',Inv X pins Z H s'->Q (.bool o.isSome) s'):aO (aR X.prog X.w) A (dw .In u (.ref a)) Q E s:=by
 rcases g with⟨kvs,k,e,ey,l⟩|⟨kvs,k,b,e,ey,eb,l⟩
 .subst ey;obtain⟨z,hd,vs,rel,dd⟩:=Ex I.fw e;refine wpAny_in_of (AQ ry) hd dd.mapOf ?_;rw[← (rel.val k).pO,← l];exact h _ (I.tok _)
 .subst ey;cases(show u=aD b from ry);obtain⟨z,hd,xs,rel,dd⟩:=Ey I.fw e;refine wpAny_in_heap (jP hu) (qQ I.fw eb) hd dd ?_;have q:=(rel.val k).pO;rw[zr]at q;rw[← q,← l];exact h _ (I.tok _)
theorem Tv(hu:A.units+1<iQ)(I:Inv X pins Z H s)(g:vf H a y o)(ry:RelV y u)(h:∀s',Inv X pins Z H s'->Q (.bool (!o.isSome)) s'):aO (aR X.prog X.w) A (dw .NotIn u (.ref a)) Q E s:=by
 rcases g with⟨kvs,k,e,ey,l⟩|⟨kvs,k,b,e,ey,eb,l⟩
 .subst ey;obtain⟨z,hd,vs,rel,dd⟩:=Ex I.fw e;refine wpAny_notIn_of (AQ ry) hd dd.mapOf ?_;rw[← (rel.val k).pO,← l];exact h _ (I.tok _)
 .subst ey;cases(show u=aD b from ry);obtain⟨z,hd,xs,rel,dd⟩:=Ey I.fw e;refine wpAny_notIn_heap (jP hu) (qQ I.fw eb) hd dd ?_;have q:=(rel.val k).pO;rw[zr]at q;rw[← q,← l];exact h _ (I.tok _)
theorem vE{ob:HO}(I:Inv X pins Z H s)(mu:Yt (H a))(hs:ia a s.heap h')(he:∃q,h'.get? a=some q)(new:fv X.prog X.w (upd H a ob) h' a ob):Inv X pins Z (upd H a ob) { s with heap:=h',toks:=t' }:=
 I.write (x:=a) (e:=a) mu (.inl rfl) (λb q hb z=>(hs.2 b hb).trans z) he new
theorem KA{kvs:List (dJ×V)}{vs:List (dJ×ak)}(z:kvs.length<=aY)(hd:(a == iH)=false)(rel:KV kvs vs)(dd:h'.DictOf (eP P w) a vs):fv P w H' h' a (.dK kvs):=⟨z,hd,vs,rel,dd⟩
theorem EA{Q:Unit->aA->Prop}(hu:A.units+1<iQ)(I:Inv X pins Z H s)(g:tw H a y v H')(ry:RelV y u)(rv:RelV v r)(h:∀s',Inv X pins Z H' s'->Q () s'):aO (aR X.prog X.w) A (setItem (.ref a) u r) Q E s:=by
 rcases g with⟨kvs,k,e,ey,l,eH⟩|⟨kvs,k,b,e,ey,eb,l,eH⟩
 .subst ey eH;obtain⟨z,hd,vs,rel,dd⟩:=Mz I.fw e
  have hz:vs.length<=aY:=by rw[← rel.length];exact z
  have hl:(i7 kvs k v).length<=aY:=by have:=kr kvs k v;lia
  refine wpAny_setItem_pairs (hsz:=hz) (AQ ry) dd λh' dd' hs=>h _ ?_
  have he:∃q,h'.get? a=some q:=let ⟨q,_,_,hq,_⟩:=dd';⟨q,hq⟩
  exact vE I (by rw[e];exact gi) hs he (KA hl hd (rel.put k rv) dd')
 .subst ey eH;cases(show u=aD b from ry);obtain⟨z,hd,xs,rel,dd⟩:=YE I.fw e
  have hz:xs.length<=aY:=by rw[← xi rel];exact z
  have hl:(i7 kvs k v).length<=aY:=by have:=kr kvs k v;lia
  refine wpAny_setItem_heap (hsz:=hz) (jP hu) (qQ I.fw eb) dd λh' dd' hs=>h _ ?_;obtain⟨q,es,ep,hq,h2,h3,h4,_,h5⟩:=dd';refine vE I (by rw[e];exact gi) hs ⟨q,hq⟩ ⟨hl,hd,_,(rel.put k eb rv).keeps λc ys ec=>?_,q,es,ep,hq,h2,h3,h4,h5⟩;rw[aF (dO ec e nofun)];exact ec
end
section
variable{kvs:List (dJ×V)}{k:dJ}
theorem YF(I:Inv X pins Z H s)(e:Rd H a (.dK kvs))(h:∀t s',Inv X pins Z H s'->Q (.int kvs.length t) s'):aO (aR X.prog X.w) A (call (.builtin "len") [.ref a]) Q E s:=by obtain⟨z,hd,vs,rel,dd⟩:=Ex I.fw e;refine call_len_dict hd dd (by rw[← rel.length];rw[oR]at z;lia) ?_;rw[← rel.length];exact h _ _ (I.tok _)
end
theorem HQ(I:Inv X pins Z H s)(g:vf H a y o):s.TypeIs (.ref a) "dict":=by
 rcases g with⟨kvs,k,e,_,_⟩|⟨kvs,k,b,e,_,_,_⟩
 .obtain ⟨_,_,vs,_,dd⟩:=Ex I.fw e;exact dd.typeIs
 .obtain ⟨_,_,xs,_,dd⟩:=Ey I.fw e;exact dd.typeIs
def UZ(td ty tv:TE)(rd:V->V->Hp->VK->Prop):TS:=λD Z H=>td Z H λx H1=>ty Z H1 λy H2=>∃a v,x=.ref a/\vf H2 a y (some v) /\tv Z H2 λy2 H3=>rd v y2 H3 λz H4=>∃H5,tw H4 a y z H5/\D.nx Z H5
section
variable{o i value:Expr}{pos' tpos:xu}{td ty tv:TE}
theorem Tw{op:Ha}{rd:V->V->Hp->VK->Prop}(hu:X.A.units+1<iQ)(ho:PE X o td)(hi:PE X i ty)(hv:PE X value tv)(hop:Wv X op rd)(ha:∀ov iv new,augStore i ov iv new=(do kZ [new,ov,iv] (setItem ov iv new);release [new,ov,iv] [];pure .next)):PS X (.AugAssign (.Subscript o i tpos) op value pos) (UZ td ty tv rd):=by
 intro pins s Z H D I h;refine wpAny_AugAssign_SubscriptAny (hZ (ho pins s Z H _ I h) λu s1 ⟨x,H1,I1,rx,q1⟩=>hZ (hi pins s1 Z H1 _ I1 q1) λiv s2 ⟨y,H2,I2,ry,a,v,ex,g,q2⟩=>?_) ha;subst ex;obtain rfl:u=aD a:=rx;refine Ez hu I2 g ry λw' s3 I3 rw'=>hZ (hv pins s3 Z H2 _ I3 q2) λw2 s4 ⟨y2,H3,I4,ry2,q3⟩=>hZ (hop pins s4 Z H3 v y2 w' w2 _ I4 rw' ry2 q3) λw3 s5 ⟨z,H4,I5,rz,H5,g5,q4⟩=>?_
 exact EA hu I5 g5 ry rz λs6 I6=>⟨Z,H5,I6,q4⟩
end
theorem Py(h:cR)(hb:iH<h.objs.size):fv P w H (h.push { cls:=.type "dict",data:=.dict #[] }) h.objs.size (.dK []):=
 ⟨aK _,beq_eq_false_iff_ne.mpr (Ne.symm (bg hb)),[],.nil,Heap.DictOf.new h⟩
theorem Pz(h:cR)(hb:iH<h.objs.size):fv P w H (h.push { cls:=.type "dict",data:=.dict #[] }) h.objs.size (.dT []):=
 ⟨aK _,beq_eq_false_iff_ne.mpr (Ne.symm (bg hb)),[],.nil,_,#[],0,aM _ rfl,⟨rfl,rfl,rfl⟩,rfl,rfl,vq⟩
def xI:TE:=λ_ H Q=>∀p,H p=none->Q (.ref p) (upd H p (.dT []))
theorem PB:PE X (.Dict [] [] pos) xI:=λpins s Z H Q I h =>wpAny_Dict_empty ⟨.ref s.heap.objs.size,_,I.laid (a:=s.heap.objs.size) (o:=.dT []) (t':=s.toks) (λ_ _ q=>ao _ q) (ay _) (Pz s.heap I.big),rfl,h _ (I.fw.fresh (ay _))⟩
def KB:List (TE×TE)->St->Hp->(List (V×V)->Hp->Prop)->Prop
 | [],_,H,Q=>Q [] H
 |(tk,tv)::r,Z,H,Q=>tk Z H λx H1=>tv Z H1 λy H2=>KB r Z H2 λps H3=>Q ((x,y)::ps) H3
abbrev VV:List (V×V)->List (ak×ak)->Prop:=Paired λp q=>RelV p.1 q.1/\RelV p.2 q.2
def PPs(X:Cx)(pos:xu)(keys:List (Option Expr))(values:List Expr)(trs:List (TE×TE)):Prop:=
 ∀(pins:List (ai×jv)) (s:aA) (Z:St) (H:Hp) (Q:List (V×V)->Hp->Prop),Inv X pins Z H s->KB trs Z H Q ->aO (aR X.prog X.w) X.A (evalPairs (pairTrees keys values X.env pos)) (λvs s'=>∃ps H',Inv X pins Z H' s'/\VV ps vs/\Q ps H') X.xe s
theorem MA:PPs X pos [] [] []:=λpins s Z H Q I h=>pairTrees_nil_walk ⟨[],H,I,.nil,h⟩
theorem HR{k v:Expr}{ks:List (Option Expr)}{vs:List Expr}{tk tv:TE}(hk:PE X k tk)(hv:PE X v tv)(hr:PPs X pos ks vs trs):PPs X pos (some k::ks) (v::vs) ((tk,tv)::trs):=λpins s Z H Q I h =>pairTrees_cons_walk (hZ (hk pins s Z H _ I h) λu s1 ⟨x,H1,I1,rx,q1⟩=>hZ (hv pins s1 Z H1 _ I1 q1) λw2 s2 ⟨y,H2,I2,ry,q2⟩ =>hZ (hr pins s2 Z H2 _ I2 q2) λws s3 ⟨ps,H3,I3,rel,q3⟩=>⟨(x,y)::ps,H3,I3,.cons ⟨rx,ry⟩ rel,q3⟩)
def uJ(kvs more:List (dJ×V)):List (dJ×V):=more.foldl (λacc kv=>i7 acc kv.1 kv.2) kvs
theorem KV.merge:∀{more:List (dJ×V)}{rs:List (dJ×ak)}{kvs:List (dJ×V)}{vs:List (dJ×ak)},KV more rs->KV kvs vs->KV (uJ kvs more) (merged vs rs):=by
 intro more rs kvs vs r;unfold KV at r
 induction r generalizing kvs vs with
 |nil=>intro q;exact q
 |@cons p q ps qs h t ih=>
  intro r0
  have e:KV (i7 kvs p.1 p.2) (stored vs q.1 q.2):=by have:=r0.put p.1 h.2;rw[← h.1];exact this
  exact ih e
theorem tO:∀(more kvs:List (dJ×V)),(uJ kvs more).length<=kvs.length+more.length
 | [],kvs=>by show kvs.length<=kvs.length+0;lia
 |p::r,kvs=>by
  have h1:=tO r (i7 kvs p.1 p.2);have h2:=kr kvs p.1 p.2
  show(uJ (i7 kvs p.1 p.2) r).length<=_
  rw[bR];lia
theorem AR:∀{kvs:List (dJ×V)}{ws:List (ak×ak)},VV (kvs.map λkv=>(kV kv.1,kv.2)) ws->∃rs,Carries (eP P w) ws rs/\KV kvs rs
 | [],_,r=>by rw[sM]at r;cases r;exact⟨[],gi,.nil⟩
 |p::kvs,_,r=>by
  rw[aZ]at r
  cases r with
  |@cons a b as bs h t=>
   obtain⟨rs,c,q⟩:=AR t;obtain⟨b1,b2⟩:=b;exact⟨(p.1,b2)::rs,⟨AQ h.1,rfl,c⟩,.cons ⟨rfl,h.2⟩ q⟩
def PD(trs:List (TE×TE)):TE:=λZ H Q=>∀p,H p=none->KB trs Z (upd H p (.dK [])) λps H2=>H2 p=some (.dK [])/\∃kvs:List (dJ×V),ps=kvs.map (λkv=>(kV kv.1,kv.2))/\kvs.length<=15/\Q (.ref p) (upd H2 p (.dK (uJ [] kvs)))
theorem MB{keys:List (Option Expr)}{values:List Expr}(h:PPs X pos keys values trs)(hall:keys.all (·.isSome)=true)(hl:keys.length=values.length)(h0:keys≠[])(h15:keys.length<=15):PE X (.Dict keys values pos) (PD trs):=by
 intro pins s Z H Q I q;have hn:=I.fw.fresh (ay s.heap.objs.size);have I1:=I.laid (a:=s.heap.objs.size) (o:=.dK []) (h':=s.heap.push { cls:=.type "dict",data:=.dict #[] }) (t':=s.toks) (λ_ _ q=>ao _ q) (ay _) (Py s.heap I.big);refine wpAny_Dict_walk (knd:=eP X.prog X.w) hall hl h0 h15 (hZ (h pins _ Z _ _ I1 (q _ hn)) λws s2 ⟨ps,H2,I2,rel,e,kvs,ep,lk,q2⟩=>?_);subst ep;obtain⟨rs,c,rk⟩:=AR (P:=X.prog) (w:=X.w) rel;obtain⟨z,hd,vs0,r0,dd⟩:=Mz I2.fw e;cases r0;refine⟨rs,c,dd,λh' dd' hs=>⟨.ref s.heap.objs.size,_,?_,rfl,q2⟩⟩
 have hz:(uJ [] kvs).length<=aY:=by have h1:=tO kvs [];rw[k8]at h1;rw[oR];lia
 have he:∃q,h'.get? s.heap.objs.size=some q:=let ⟨q,_,_,hq,_⟩:=dd';⟨q,hq⟩
 exact vE I2 (by rw[e];exact gi) hs he (KA hz hd (rk.merge .nil) dd')
section
variable{d:V}{r:ak}
end
section
variable{o f:Expr}{td ty tx:TE}
end
section
variable{kvs:List (dJ×V)}
end
end L2
namespace Att
open PySem PySem.W PySem.Calls PyProof.Rows
theorem zy{P:Params}{h:cR}:∀(ns:List Int) (vs:List ak),WellAll P h vs (ns.map WData.int)->eX vs ns:=by
 intro ns
 induction ns with
 |nil=>
  intro vs w;rw[sM]at w;cases w
  exact .nil
 |cons n ns ih=>
  intro vs w;rw[aZ]at w
  cases w with
  |cons a b=>
   cases a;exact .cons _ _ (ih _ b)
theorem NQ{l:qC}{n:Nat}(hn:l.most=some n){P:Params}{h:cR}{args:List WData}{vals:List ak}(hpre:l.row.toRowW.claim.pre args=true)(hwl:WellAll P h vals args):∃a vs ns,vals=[aD a]/\args=[WData.list (ns.map WData.int)]/\h.get? a=some { cls:=.type "list",data:=.seq vs.toArray }/\eX vs ns/\ns.length<=n:=by
 have hsh:WShape.hasAll [] args [.list .int]=true:=(pre_splitW hpre).1;have hc:l.pre.holds [] { args:=args }=true:=(pre_splitW hpre).2;obtain⟨d,r,rfl,h1,h2⟩:=hasAllW_cons hsh;obtain rfl:=hasAllW_nil h2;obtain⟨xs,rfl,h3⟩:=hasW_list h1;obtain⟨ns,rfl⟩:=items_int h3
 have hlen:ns.length<=n:=by
  unfold OpenLaw.pre at hc
  have h4:(WTm.not (.lt (.lit (.int (n:Int))) (.len (.arg 0)))).holds [] { args:=[.list (ns.map .int)] }=true:=by have h4:=(holds_andW hc).1;rw[hn]at h4;exact h4
  have h5:=condW_of h4 (w_not (w_lt w_lit (w_len_list (w_arg rfl))));rw[af]at h5;refine mV λq=>?_
  have q':(n:Int)<((ns.length:Nat):Int):=by lia
  first
   |(rw[decide_eq_true q']at h5;exact absurd h5 (by decide))
   |(simp at h5;lia)
 cases hwl with
 |cons w1 w2=>
  cases w2
  cases w1 with
  |list ho hall=>exact⟨_,_,ns,rfl,rfl,ho,zy ns _ hall,hlen⟩
theorem NR(l:qC)(args:List WData):l.row.toRowW.claim.post args (.bool true) args=true:=
 postW_of (r:=l.row.toRowW) (X:=(true == true))
  (show WShape.has [] (.bool true) .bool=true by first|rfl|decide|simp[WShape.has,WShape.arms,WShape.armsAll])
  (show(WTm.eq .res (.lit (.bool true))).value [] { args:=args,res:=some (.bool true),after:=args }=some (.bool (true == true))from w_eq_bool (w_res rfl) w_lit) rfl
theorem HS{l:qC}{n:Nat}{q:bI}{loose:List bF}{XP:(bF->Option ak)->cR->Prop}{YP:cC->cR->Prop}{d:DefRec}(hn:l.most=some n)(hdf:d.params.defaults=[])(call:∀(w:cC) (s₀ s₁:aA) (mg mb:bF->Option ak) (fa:ai) (o:jv) (pm cd doc:ak) (a:ai) (vs:List ak) (ns:List Int),Ground q loose [] XP w s₀ mg mb s₁.heap->YP w s₁.heap ->s₁.heap.get? fa=some o->o.data=.func (docDef d.name d.params d.body d.scope pm cd doc)->s₁.heap.CodeRec cd d.name->mg d.name=some (.ref fa) ->s₁.heap.get? a=some { cls:=.type "list",data:=.seq vs.toArray }->eX vs ns->ns.length<=n->s₁.gens=#[] ->jO (aR l.prog w) Hg (.call (.ref fa) ⟨[.ref a],[]⟩) (λr s'=>r=.ok (.ret (.bool true))/\OldK s₁.heap s'.heap/\s'.os=s₁.os/\xj s'.gens) s₁):Se q loose XP YP l.row.toRowW d [] (λf vs=>Sg f vs):=by intro w s₀ s₁ mg mb G Y fa o pm cd doc dV kV ho hd hcd hD hmg hg args vals as hpre hlay hrd hwl hlo;obtain rfl:dV=.none:=Dflts.none hD hdf;obtain rfl:kV=.none:=Dflts.noKw hD;obtain⟨a,vs,ns,rfl,rfl,hobj,hints,hlen⟩:=NQ hn hpre hwl;refine enter_call (mU (call w s₀ s₁ mg mb fa o pm cd doc a vs ns G Y ho (fd_plain hd) hcd hmg hobj hints hlen hg) λr s' hq=>?_);obtain⟨rfl,h2,h3,h4⟩:=hq;exact⟨.inl ⟨.bool true,.bool true,[],rfl,λ_=>rfl,.bool true,NR l _,λ_=>⟨nc,λ_ hm=>(nomatch hm)⟩⟩,h2,h3,h4⟩
section
variable{prog:bI}{w:cC}{A:cT}{E:ak->aA->Prop}{s:aA}{K:aa}
end
end Att
namespace L2
variable{H H':Hp}{X:Cx}{xs:List V}{scope:qH}{v:V}{i j:Int}{Z:St}{x qual y:bF}{s:aA}{pins:List (ai×jv)}{a p f:ai}{elt iter tg:Expr}{ifs:List Expr}{pos:xu}{st:dP}{N ps own ys:List bF}{env:JW}{ds:List PyData}{fd:gG}{sp:Sp}{cells:List (bF×ai)}{js:List Nat}{g:TG}{te to:TE}{Q:VK}{R:St->Hp->Prop}{w:cC}
theorem sG:∀{vs:List ak}{ns:List Int},eX vs ns->Vals (ns.map V.int) vs
 |_,_,.nil=>.nil
 |_,_,.cons n t h=>.cons ⟨t,rfl⟩ (sG h)
def fG(s:dP)(j:Nat):dP:=match s with
 | .ClassDef _ _ _ body _ _ _ _ _ _ _=>body.getD j (.Pass ⟨0,0,0,0⟩)
 |_=>.Pass ⟨0,0,0,0⟩
def n6(s:dP):qB:=match s with
 | .FunctionDef _ a _ _ _ _ _ _ _ _=>a
 |_=>{ posonlyargs:=[],args:=[],vararg:=none,kwonlyargs:=[],kw_defaults:=[],kwarg:=none,defaults:=[] }
def ka(s:dP):List dP:=match s with
 | .FunctionDef _ _ b _ _ _ _ _ _ _=>b
 |_=>[]
def a0(s:dP):qH:=match s with
 | .FunctionDef _ _ _ _ _ _ sc _ _ _=>sc
 |_=>{ kind:=.function,names:=[],isGenerator:=false,isCoroutine:=false }
abbrev J8:J5:=λ_ _ _ _ _ _=>False
abbrev E0:XK:=λ_ _ _=>False
theorem tP:oH J8 X E0:=λ_ _ _ _ _ _ _ h=>h.elim
structure Nm(K:aa)(x qual:bF)(st:dP)(f:ai)(fd:gG):Prop where
 ex:∃(oc:ak) (od:Option ai) (kV doc pm:ak) (an:Option ai) (oF ct:ak) (osl:Array (Option ak)),fd=iD x qual (n6 st) (ka st) (a0 st) .none kV doc pm an oF ct/\K.lookup f=some ⟨oc,od,.func fd,osl⟩/\nZ K oF qual=true
 kp:eV K (.ref f)=true
section
variable{P:bI}{K:aa}{mg:bF->Option ak}{base:cR}
theorem Nm.ok{k:Nat}(F:Nm K x qual st f fd)(S:bO N ps (a0 st))(len:∀vs H Q E,sp vs H Q E->vs.length=ps.length)(hbody:∀(oF:ak) (A:cT) (outer:List JW) (s:aA) (H:Hp) (vs:List V) (Q:VK) (E:XK),ij k (A.deeper (tH qual (a0 st) s.heap.objs.size f oF))->sp vs H Q E ->∃t,J9 (FB J8 P w K mg base N qual (a0 st) f oF A outer s H E).VQ (ka st) t/\t { nx:=λ_ H'=>Q .non H',rt:=Q } (start N vs) H):lN P w K mg base J8 (k+1) f fd ps sp:=by obtain⟨oc,od,kV,doc,pm,an,oF,ct,osl,rfl,lk,hcd⟩:=F.ex;refine UW lk hcd S len λA outer s H vs Q E hr hsp=>?_;obtain⟨t,h,q⟩:=hbody oF A outer s H vs Q E hr hsp;exact⟨t,h.VQ,q⟩
theorem Nm.binds(F:Nm K x qual st f fd)(h:∀(kV doc pm:ak) (an:Option ai) (oF ct:ak) (us:List ak),us.length=ps.length->Hc (iD x qual (n6 st) (ka st) (a0 st) .none kV doc pm an oF ct) ⟨us,[]⟩=pure (ps.zip us)):Binds K fd ps []:=by obtain⟨oc,od,kV,doc,pm,an,oF,ct,osl,rfl,lk,hcd⟩:=F.ex;exact .all (h kV doc pm an oF ct)
theorem FE{oc:ak}{od an:Option ai}{osl:Array (Option ak)}{kV doc pm oF ct:ak}(l:K.lookup f=some ⟨oc,od,.func (iD x qual (n6 st) (ka st) (a0 st) .none kV doc pm an oF ct),osl⟩)(c:nZ K oF qual=true)(k:eV K (.ref f)=true):Nm K x qual st f (iD x qual (n6 st) (ka st) (a0 st) .none kV doc pm an oF ct):=⟨⟨oc,od,kV,doc,pm,an,oF,ct,osl,rfl,l,c⟩,k⟩
end
theorem pv(i:Nat){x:bF}{pos:xu}(hN:X.N[i]?=some x:=by rfl)(hv:Vis X.env.scope x:=by first|exact Or.inl rfl|exact Or.inr (Or.inl rfl)|exact Or.inr (Or.inr rfl))(hd:(x == ("__debug__":bF))=false:=by decide)(hcd:(x == ("__classdict__":bF))=false:=by decide):PE X (.Name x pos) (aq i):=Wc hN hv hd hcd
theorem kg{A B:Prop}(h:B):if false=true then A else B:=by rw[if_neg bM];exact h
theorem lz{A B:Prop}(h:A):if true=true then A else B:=by rw[if_pos rfl];exact h
def bU(H H':Hp):Prop:=∀b o,H b=some o->H' b=some o
theorem bU.trans{H1 H2:Hp}(a:bU H H1)(b:bU H1 H2):bU H H2:=λc o h=>b c o (a c o h)
theorem bU.free(e:bU H H'){l:ai}(h:H' l=Option.none):H l=Option.none:=by
 cases q:H l with
 |none=>rfl
 |some o=>
  rw[e l o q]at h;cases h
theorem bU.seq{K:aa}(e:bU H H')(h:c6 K H a xs):c6 K H' a xs:=by
 rcases h with(h|⟨o,h⟩)|h
 .exact .inl (.inl (e _ _ h))
 .exact .inl (.inr ⟨o,e _ _ h⟩)
 .exact .inr h
theorem NS:mO X (.builtin "len") (λxs H Q=>∃a kvs,xs=[V.ref a]/\H a=some (.dK kvs)/\Q (.int kvs.length) H):=by
 intro pins s Z H xs us Q I r h;obtain⟨a,kvs,rfl,ha,q⟩:=h;obtain⟨u,rfl,ru⟩:=vals1 r;cases ru
 exact YF I (.inl ha) λt s' I'=>⟨.int kvs.length,H,I',⟨t,rfl⟩,q⟩
section
variable{κ:Type}[DecidableEq κ]
theorem MC:∀{l:List κ}{k:κ},l.Nodup->¬ k∈l->(l++[k]).Nodup
 | [],k,_,_=>by simp
 |a::r,k,h,hk=>by
  obtain⟨h1,h2⟩:=bq.mp h
  show(a::(r++[k])).Nodup
  refine bq.mpr ⟨λm=>?_,MC h2 λm=>hk (aw.mpr (Or.inr m))⟩
  rcases aL.mp m with q|q
  .exact h1 q
  .exact hk (aw.mpr (Or.inl (ax.mp q).symm))
theorem NT{p:κ×V}{r:List (κ×V)}{k:κ}(e:p.1=k):mf (p::r) k=mf r k:=by unfold mf;rw[gj,if_neg (by simp[e])]
theorem EB{p:κ×V}{r:List (κ×V)}{k:κ}(e:¬ p.1=k):mf (p::r) k=p::mf r k:=by unfold mf;rw[gj,if_pos (by simp[e])]
theorem HU:∀{kvs:List (κ×V)}{k:κ},¬ k∈kvs.map (·.1)->mf kvs k=kvs
 | [],_,_=>rfl
 |p::r,k,h=>by
  have h':¬ k∈r.map (·.1):=λm=>by obtain⟨q,hq,e⟩:=aI.mp m;exact h (aI.mpr ⟨q,aw.mpr (Or.inr hq),e⟩)
  rw[EB λe=>h (aI.mpr ⟨p,aw.mpr (Or.inl rfl),e⟩),HU h']
end
def nX(cells:List (bF×ai)):List (bF×mR)->List (bF×ai)->List (bF×ai)
 | [],acc=>acc
 |(n,k)::r,acc=>nX cells r (if k == .free then(n,(cells.lookup n).getD 0)::acc else acc)
theorem uK:∀(names:List (bF×mR)) (acc:List (bF×ai)),(∀n,(n,bQ)∈names->∃c,env.cells.lookup n=some c) ->(forIn names acc λ(x:bF×mR) (r:List (bF×ai))=>(if x.2 == .free then(cellOf env x.1 >>= λc=>pure (jf ((x.1,c)::r)))else pure (jf r):Uz (ForInStep (List (bF×ai)))))=pure (nX env.cells names acc)
 | [],acc,_=>rfl
 |(n,k)::r,acc,h=>by
  rw[tI];have hr:∀n,(n,bQ)∈r->∃c,env.cells.lookup n=some c:=λn hn=>h n (ag _ hn)
  cases hk:k == bQ with
  |false=>
   simp only[hk,bN,if_false,pure_bind];rw[uK r acc hr]
   show _=pure (nX env.cells r (if k == bQ then _ else acc))
   rw[hk];rfl
  |true=>
   have e:k=.free:=by simpa using hk
   subst e;obtain⟨c,hc⟩:=h n aj
   have e2:cellOf env n=pure c:=by unfold cellOf;rw[hc]
   simp only[hk,if_true,e2,pure_bind];rw[uK r _ hr]
   show _=pure (nX env.cells r (if bQ == bQ then(n,(env.cells.lookup n).getD 0)::acc else acc))
   rw[hc];rfl
theorem uL(h:∀n,(n,bQ)∈scope.names->∃c,env.cells.lookup n=some c):closureFor scope env=pure (nX env.cells scope.names []):=by have e:=uK (env:=env) scope.names [] h;unfold closureFor;rw[← bind_pure (pure (nX env.cells scope.names []):Uz _),← e]
theorem ku{c:ai}:∀(names:List (bF×mR)) (acc:List (bF×ai)),(∀n,(n,bQ)∈names->∃c,cells.lookup n=some c) ->(nX cells names acc).lookup x=some c->cells.lookup x=some c\/acc.lookup x=some c
 | [],acc,_,h=>.inr h
 |(n,k)::r,acc,hf,h=>by
  have hr:∀n,(n,bQ)∈r->∃c,cells.lookup n=some c:=λn hn=>hf n (ag _ hn);unfold nX at h
  rcases ku r _ hr h with z|z
  .exact .inl z
  .cases hk:k == bQ with
   |false=>rw[hk]at z;exact .inr z
   |true=>
    have e:k=.free:=by simpa using hk
    subst e;obtain⟨d,hd⟩:=hf n aj;rw[hk,if_pos rfl,hd]at z
    by_cases hx:x=n
    .subst hx;rw[cP,beq_self_eq_true]at z;exact .inl (by rw[hd];exact z)
    .rw [cP,beq_false_of_ne hx]at z;exact .inr z
theorem vF:∀(names:List (bF×mR)) (acc:List (bF×ai)),((x,bQ)∈names\/∃c,acc.lookup x=some c)->∃c,(nX cells names acc).lookup x=some c
 | [],acc,h=>h.elim nofun λz=>z
 |(n,k)::r,acc,h=>by
  unfold nX;refine vF r _ ?_
  rcases h with z|⟨c,z⟩
  .rcases aw.mp z with e|z
   .have e1:n=x:=(cp e).1.symm;have e2:k=.free:=(cp e).2.symm;subst e1 e2;exact .inr ⟨_,by rw[if_pos (by rfl),cP,beq_self_eq_true]⟩
   .exact .inl z
  .refine .inr ?_
   split
   .rw [cP];cases x == n
    .exact ⟨c,z⟩
    .exact ⟨_,rfl⟩
   .exact ⟨c,z⟩
theorem vG{env:JW}{x:bF}{k:mR}:∀{names:List (bF×mR)},(names.map λ(n,k)=>if(k == bQ && env.scope.kind == .function && env.kindOf n == some .cell)then(n,hJ)else(n,k)).lookup x=some k ->∃k0,names.lookup x=some k0/\(k=k0\/(k0=.free/\k=.cell))
 | [],h=>by simp at h
 |(n,k1)::r,h=>by
  have ih:=@vG env x k r;have h:eU x ((if(k1 == bQ && env.scope.kind == .function && env.kindOf n == some .cell)=true then(n,hJ)else(n,k1))::r.map λ(n,k)=>if(k == bQ && env.scope.kind == .function && env.kindOf n == some .cell)then(n,hJ)else(n,k))=some k:=h
  by_cases hc:(k1 == bQ && env.scope.kind == .function && env.kindOf n == some .cell)=true
  .rw [if_pos hc,cP]at h;rw[cP]
   have e:k1=.free:=by
    rw[gp,gp]at hc
    simpa using hc.1.1
   cases hx:x == n with
   |true=>rw[hx]at h;exact⟨k1,rfl,.inr ⟨e,(aX h).symm⟩⟩
   |false=>rw[hx]at h;exact ih h
  .rw [if_neg hc,cP]at h;rw[cP]
   cases hx:x == n with
   |true=>rw[hx]at h;exact⟨k1,rfl,.inl (aX h).symm⟩
   |false=>rw[hx]at h;exact ih h
theorem yG{env:JW}{x:bF}:∀{names:List (bF×mR)},names.lookup x=some .free ->(names.map λ(n,k)=>if(k == bQ && env.scope.kind == .function && env.kindOf n == some .cell)then(n,hJ)else(n,k)).lookup x=some .free \/(names.map λ(n,k)=>if(k == bQ && env.scope.kind == .function && env.kindOf n == some .cell)then(n,hJ)else(n,k)).lookup x=some .cell
 | [],h=>by simp at h
 |(n,k1)::r,h=>by
  have ih:=@yG env x r
  show eU x ((if(k1 == bQ && env.scope.kind == .function && env.kindOf n == some .cell)=true then(n,hJ)else(n,k1))::r.map λ(n,k)=>if(k == bQ && env.scope.kind == .function && env.kindOf n == some .cell)then(n,hJ)else(n,k))=some .free \/eU x ((if(k1 == bQ && env.scope.kind == .function && env.kindOf n == some .cell)=true then(n,hJ)else(n,k1))::r.map λ(n,k)=>if(k == bQ && env.scope.kind == .function && env.kindOf n == some .cell)then(n,hJ)else(n,k))=some .cell
  rw[cP]at h
  by_cases hc:(k1 == bQ && env.scope.kind == .function && env.kindOf n == some .cell)=true
  .rw [if_pos hc,cP]
   cases hx:x == n with
   |true=>exact .inr rfl
   |false=>rw[hx]at h;exact ih h
  .rw [if_neg hc,cP]
   cases hx:x == n with
   |true=>rw[hx]at h;exact .inl h
   |false=>rw[hx]at h;exact ih h
theorem mem_of_lookup{k:mR}:∀{names:List (bF×mR)},names.lookup x=some k->(x,k)∈names
 | [],h=>by simp at h
 |(n,k1)::r,h=>by
  rw[cP]at h
  cases hx:x == n with
  |true=>
   rw[hx]at h
   have e:x=n:=by simpa using hx
   rw[e,aX h];exact aj
  |false=>rw[hx]at h;exact ag _ (mem_of_lookup h)
def FF(X:Cx)(N:List bF)(scope:qH)(s:aA)(H:Hp)(fp:List ai):Cx where
 prog:=X.prog
 w:=X.w
 K:=X.K
 mg:=X.mg
 base:=X.base
 A:=X.A
 N:=N
 s₀:=s
 H₀:=H
 env:=compEnvC scope (nX X.env.cells scope.names []) s.heap.objs.size X.env
 outer:=X.stack
 stack:=X.stack
 ex:=fp
 fn:=λ_=>false
 calm:=X.calm
 pn:=[]
 xe:=λ_ _=>False
def CK(X:Cx)(scope:qH):List Nat->List bF->Prop
 | [],[]=>True
 |j::js,y::ys=>X.N[j]?=some y/\(X.env.kindOf y=some .cell\/X.env.kindOf y=some .free)/\scope.names.lookup y=some .free/\CK X scope js ys
 |_,_=>False
def HV(Z:St)(js:List Nat):St:=js.map λj=>(Z[j]?).join
theorem CK.len:∀{js:List Nat}{ys:List bF},CK X scope js ys->js.length=ys.length
 | [],[],_=>rfl
 |_::_,_::_,h=>by rw[bR,bR,CK.len h.2.2.2]
 | [],_::_,h=>h.elim
 |_::_,[],h=>h.elim
theorem CK.get:∀{js:List Nat}{ys:List bF}{i:Nat},CK X scope js ys->ys[i]?=some y->(HV Z js)[i]?=some (some v) ->∃j:Nat,X.N[j]?=some y/\Z[j]?=some (some v)/\(X.env.kindOf y=some .cell\/X.env.kindOf y=some .free)/\scope.names.lookup y=some .free
 | [],[],i,_,e,_=>by simp at e
 |j::js,z::ys,0,h,e,q=>by
  simp only[lC,gh]at e;subst e;refine⟨j,h.1,?_,h.2.1,h.2.2.1⟩
  have q':(Z[j]?).join=some v:=by simpa[HV]using q
  cases hj:Z[j]? with
  |none=>rw[hj]at q';simp at q'
  |some o=>rw[hj]at q';rw[← q'];rfl
 |j::js,z::ys,i+1,h,e,q=>CK.get (i:=i) h.2.2.2 (by simpa using e) (by simpa[HV]using q)
 | [],_::_,_,h,_,_=>h.elim
 |_::_,[],_,h,_,_=>h.elim
section
variable{s':aA}{fp:List ai}
theorem KC(I:Inv X pins Z H s)(hf:∀b∈fp,xF X pins H b)(hlt:∀b∈fp,b<s.heap.objs.size)(hkind:scope.kind=.function)(hcell:∀y∈scope.names,y.2≠.cell)(hfr:∀n,(n,bQ)∈scope.names->∃c,X.env.cells.lookup n=some c):(FF X N scope s H fp).Ok where
 mod:=I.mod
 kind:=hkind
 glob:=I.ok.glob
 blt:=I.ok.blt
 above:=ay _
 inj:=λx y c h1 h2=>I.ok.inj x y c ((ku _ _ hfr h1).resolve_right (by simp)) ((ku _ _ hfr h2).resolve_right (by simp))
 has:=λx hx=>by
  refine vF _ _ (.inl ?_)
  have key:∀k,(k=hJ\/k=bQ)->(relabel scope X.env).names.lookup x=some k->(x,bQ)∈scope.names:=λk hk e=>by
   obtain⟨k0,e0,z⟩:=vG e
   rcases z with z|⟨z,_⟩
   .subst z
    rcases hk with hk|hk
    .subst hk;exact absurd rfl (hcell _ (mem_of_lookup e0))
    .subst hk;exact mem_of_lookup e0
   .subst z;exact mem_of_lookup e0
  rcases hx with hx|hx
  .exact key _ (.inl rfl) hx
  .exact key _ (.inr rfl) hx
 Yh:=λx c h=>by cases h
 hd:=I.ok.hd
 frames:=I.ok.frames
 ZT:=.inl rfl
 exf:=λb hb=>⟨bg (hlt b hb),λx c e=>(hf b hb).2.2.2.2.1 x c ((ku _ _ hfr e).resolve_right (by simp))⟩
 bs:=I.bs
 R6:=bw I.ok.R6 I.sz
 Os:=λb o e hb=>by
  rcases(hf b hb).2.2.2.1 with z|z
  .exact I.ok.Os b o e z
  .exact absurd (br (aJ e) (bw I.ok.R6 z)) (e9 _)
 Oq:=λb hb hs=>by
  rcases aw.mp (I.L3 b hs)with z|z
  .exact (hf b hb).2.1 z
  .exact (hf b hb).2.2.1 z
 yw:=I.stack
 VL:=I.Np
theorem Tx{h1:cR}{tk:Nat}{m:bF->Option ak}(I:Inv X pins Z H s)(hf:∀b∈fp,xF X pins H b)(hlt:∀b∈fp,b<s.heap.objs.size)(hkind:scope.kind=.function)(hcell:∀y∈scope.names,y.2≠.cell)(hfr:∀n,(n,bQ)∈scope.names->∃c,X.env.cells.lookup n=some c)(hc:CK X scope js ys)(hn:h1.Ns s.heap.objs.size m)(hk:∀b o,s.heap.get? b=some o->h1.get? b=some o):Inv (FF X (own++ys) scope s H fp) [] (oW own.length none++HV Z js) H { s with heap:=h1,toks:=tk }:=by
 have hcl:∀x c,(nX X.env.cells scope.names []).lookup x=some c->X.env.cells.lookup x=some c:=λx c e=>(ku _ _ hfr e).resolve_right (by simp);refine⟨KC I hf hlt hkind hcell hfr,rfl,I.bare,Un.kept hk,⟨m,hn,λi x v e1 e2 e3=>?_⟩,λx c e=>?_,I.fresh,λx c e=>I.sj x c (hcl x c e),(λp hp=>nomatch hp),I.fw.kept hk,?_⟩
 .have e1':(own++ys)[i]?=some x:=e1
  by_cases hi:i<own.length
  .rw [eI (by simpa using hi)]at e2;rw[Mi]at e2
   split at e2
   .cases aX e2
   .cases e2
  .have hi':own.length<=i:=mV hi;rw[d7 hi']at e1';rw[d7 (by simpa using hi'),uD]at e2;obtain⟨j,q1,q2,q3,q4⟩:=hc.get e1' e2;obtain⟨m0,_,hl⟩:=I.loc
   obtain⟨u,r,l⟩:=hl j x v q1 q2 (by
    rcases q3 with q3|q3
    .exact .inr (.inl q3)
    .exact .inr (.inr q3))
   refine⟨u,r,.inr ⟨?_,?_⟩⟩
   .rcases yG (env:=X.env) q4 with z|z
    .exact .inr z
    .exact .inl z
   .rcases l with⟨k,_⟩|⟨_,c,hc1,hc2⟩
    .rcases q3 with q3|q3<;>rw[k]at q3<;>cases aX q3
    .obtain ⟨d,hd⟩:=vF (cells:=X.env.cells) (x:=x) scope.names [] (.inl (mem_of_lookup q4));have hd':=hcl x d hd;rw[hc1]at hd';cases aX hd';obtain⟨o,ho,hod⟩:=hc2;exact⟨c,hd,o,hk c o ho,hod⟩
 .obtain ⟨v,o,ho,hod⟩:=I.cell x c (hcl x c e);exact⟨v,o,hk c o ho,hod⟩
 .show (oW own.length none++HV Z js).length=(own++ys).length
  rw[bj,bj,uD,HV,af,hc.len]
theorem PF{σ':St}(I:Inv X pins Z H s)(hf:∀b∈fp,xF X pins H b)(J:Inv (FF X N scope s H fp) [] σ' H' s'):Inv X pins Z H' s':=
 I.ZQ (ch:=fp) J.os J.base J.fw J.bare λb hb=>⟨(hf b hb).2.2.2.1,(hf b hb).2.1,(hf b hb).2.2.2.2.1,(hf b hb).2.2.2.2.2⟩
end
section
variable{prog:bI}{A:cT}{R:JY->aA->Prop}
theorem FG{target:Expr}{it acc:ak}(I:Nat->aA->Prop)(turn:∀n s,I n s->aO (aR prog w) A (je it) (λr s₁=>match r with
  |none=>R (.ok .next) s₁
  |some v=>aO (aR prog w) A (xC target it v) (λ_ s₁'=>aO (aR prog w) A (JX target env v) (λ_ s₂ =>aO (aR prog w) A (forIn ifs true λc r=>if r=true then do let ok ← isTrue c env (fz c env);pure (jf ok)else pure (jf r)) (λok s₃ =>if ok=true then aO (aR prog w) A (fz elt env) (λx s₄ =>aO (aR prog w) A (call (.builtin "list.append") [acc,x]) (λ_ s₅=>∃m,m<n/\I m s₅) (λ_ _=>False) s₄) (λ_ _=>False) s₃
    else∃m,m<n/\I m s₃) (λ_ _=>False) s₂) (λ_ _=>False) s₁') (λ_ _=>False) s₁) (λ_ _=>False) s)(n:Nat)(h:I n s):jO (aR prog w) A (.compLoop (.ListComp elt [⟨target,iter,ifs,0⟩] scope pos) 0 it acc env) R s:=by
 refine codeAny_loop rfl I (λn s hI=>?_) n h
 show aO _ A ((compTurn (.ListComp elt [⟨target,iter,ifs,0⟩] scope pos) 0 it acc env).onRaise (λx=>do noteFrame x env;theTreesLotGoes x)) _ _ s
 refine wpAny_noted ?_;rw[compTurn_list];refine ae (tD (ae (dQ (turn n s hI) (λr s₁ h₁=>?_) λ_ _ h'=>h'.elim)))
 cases r with
 |none=>exact ar h₁
 |some v=>
  refine ae (dQ h₁ (λ_ s₁' h₁'=>?_) λ_ _ h'=>h'.elim);refine ae (dQ h₁' (λ_ s₂ h₂=>ae (dQ h₂ (λok s₃ h₃=>?_) λ_ _ h'=>h'.elim)) λ_ _ h'=>h'.elim)
  cases ok with
  |false=>exact ar ⟨rfl,h₃⟩
  |true=>
   exact ae (ae (dQ h₃ (λx s₄ h₄=>ae (dQ h₄ (λ_ s₅ h₅=>ar (ar ⟨rfl,h₅⟩)) λ_ _ h'=>h'.elim)) λ_ _ h'=>h'.elim))
end
def PH(X:Cx)(ifs:List Expr)(t:TT):Prop:=
 ∀(pins:List (ai×jv)) (s:aA) (Z:St) (H:Hp) (Q:Bool->Hp->Prop),Inv X pins Z H s->t Z H Q ->aO (aR X.prog X.w) X.A (forIn ifs true λc r=>if r=true then do let ok ← isTrue c X.env (fz c X.env);pure (jf ok)else pure (jf r)) (TP X pins Z Q) X.xe s
def vH:TT:=λ_ H Q=>Q true H
theorem kK:PH X [] vH:=λ_ _ _ H _ I h=>wpAny_tests_nil ⟨H,I,h⟩
theorem jA{c:Expr}{t:TT}(h:PT X c t):PH X [c] t:=λpins s Z H Q I q=>wpAny_tests_one (h pins s Z H Q I q)
def jo(own:Nat)(js:List Nat)(wi:TI)(g:TG)(tt:TT)(te:TE):TE:=λZ H Q=>wi Z H λJ H1=>∀acc,H1 acc=none ->∃W:Nat->Nat->List V->St->Hp->Prop,(∃m,W 0 m [] (oW own none++HV Z js) (upd H1 acc (.lst [])))/\∀i m ys σ' H',W i m ys σ' H'->H' acc=some (.lst ys) /\((J.stop i H'/\Q (.ref acc) H')\/(J.go i H'/\∀x H2,J.Md i H' x H2->g x σ' H2 λσ2 H3=>tt σ2 H3 λb H4 =>if b=true then te σ2 H4 λy H5=>H5 acc=some (.lst ys)/\ys.length<aY/\∃m',m'<m/\W (i+1) m' (ys++[y]) σ2 (upd H5 acc (.lst (ys++[y])))else∃m',m'<m/\W (i+1) m' ys σ2 H4))
theorem HW{wi:TI}{tt:TT}{use:Option (ak->Uz Unit)}{Q':ak->aA->Prop}{p:xu}(hcalm:X.calm=true)(hi:PI X tg iter wi)(hkind:scope.kind=.function)(hcell:∀y∈scope.names,y.2≠.cell)(hnames:∀y∈scope.names,y.2=.local->scope.names.lookup y.1=some .local)(hfr:∀n,(n,bQ)∈scope.names->∃c,X.env.cells.lookup n=some c)(hc:CK X scope js ys)(hg:∀s0 H0 fp,PG (FF X (own++ys) scope s0 H0 fp) tg g)(ht:∀s0 H0 fp,PH (FF X (own++ys) scope s0 H0 fp) ifs tt)(he:∀s0 H0 fp,PE (FF X (own++ys) scope s0 H0 fp) elt te)(I:Inv X pins Z H s)(h:jo own.length js wi g tt te Z H Q)(hu:∀(D C:ai) (H':Hp) (s':aA),Inv X pins Z H' s'->Q (.ref D) H'->xF X pins H' C->(∃m,s'.heap.Ns C m)->compPost (aR X.prog X.w) X.A X.xe use Q' (.ref D) C (.ok .next) s')(hs:∀x,sJ iter X.env x=pure x):aO (aR X.prog X.w) X.A (comprehension (.ListComp elt [⟨tg,iter,ifs,0⟩] scope pos) scope X.env p (newList []) false (fz iter X.env) use) Q' X.xe s:=by
 refine wpAny_comprehension_free (g:=⟨tg,iter,ifs,0⟩) (gs:=[]) rfl hs (uL hfr) hkind hnames (hZ (hi pins s Z H _ I h) λv s1 h1=>hZ h1 λitv s2 h2=>?_);obtain⟨it,fp,tn,J,H2,e,I2,T,st2,f2,q⟩:=h2;subst e;refine df (XT hcell (by intro y hy;simp at hy) (λh₁ hns₁ hsb₁=>?_) hkind);dsimp only at hns₁ hsb₁ ⊢;have nD:H2 s2.heap.objs.size=none:=I2.fresh;have I3:Inv X pins Z (upd H2 s2.heap.objs.size (.lst [])) { s2 with heap:=s2.heap.push { cls:=.type "list",data:=.seq ([]:List ak).toArray },toks:=s2.toks }:=I2.ZM (its:=[]) .nil (aK _)
 have hlt2:∀b∈fp,b<s2.heap.objs.size:=λb hb=>let ⟨o,e,_⟩:=T.obj _ _ st2 b hb;aJ e
 obtain⟨W,⟨m0,w0⟩,turn⟩:=q _ nD;generalize hs3:({ s2 with heap:=s2.heap.push { cls:=.type "list",data:=.seq ([]:List ak).toArray },toks:=s2.toks }:aA)=s3 at I3
 have hh3:s2.heap.push { cls:=.type "list",dict:=none,data:=.seq ([]:List ak).toArray }=s3.heap:=by rw[← hs3]
 have hsz3:s3.heap.objs.size=s2.heap.objs.size+1:=by rw[← hh3,gI]
 have hlt3:∀b∈fp,b<s3.heap.objs.size:=λb hb=>by rw[hsz3];exact mC (hlt2 b hb)
 have f3:∀b∈fp,xF X pins (upd H2 s2.heap.objs.size (.lst [])) b:=λb hb=>⟨by rw[aF (bg (hlt2 b hb))];exact(f2 b hb).1,(f2 b hb).2⟩
 have fC:xF X pins (upd H2 s2.heap.objs.size (.lst [])) s3.heap.objs.size:=I3.LY (ay _) I3.fresh;rw[hh3]at hns₁ hsb₁ ⊢;have hk3:∀b o,s3.heap.get? b=some o->h₁.get? b=some o:=λb o e=>hsb₁.extBut b o (bg (aJ e)) (ao _ e)
 have es4:({ s2 with heap:=h₁,toks:=s2.toks+([]:List (bF×ak)).length }:aA)={ s3 with heap:=h₁,toks:=s2.toks+([]:List (bF×ak)).length }:=by rw[← hs3]
 have I4:=Tx (own:=own) (h1:=h₁) (tk:=s2.toks+([]:List (bF×ak)).length) I3 f3 hlt3 hkind hcell hfr hc hns₁ hk3;have st4:tn 0 h₁:=T.keep _ _ _ st2 λb hb o e=>hk3 b o (by rw[← hh3];exact ao _ e)
 have stat:∀{H':Hp},(∀b∈fp,H' b=none)->∀b∈fp,xF (FF X (own++ys) scope s3 (upd H2 s2.heap.objs.size (.lst [])) fp) [] H' b:=λhn b hb =>⟨hn b hb,bg (hlt3 b hb),(KC (N:=own++ys) I3 f3 hlt3 hkind hcell hfr).Oq b hb,.inl hb,λx c e=>((KC (N:=own++ys) I3 f3 hlt3 hkind hcell hfr).exf b hb).2 x c e,λp hp=>nomatch hp⟩
 have Kr:∀s4:aA,s4={ s3 with heap:=h₁,toks:=s2.toks+([]:List (bF×ak)).length } ->jO (aR X.prog X.w) X.A (.compLoop (.ListComp elt [⟨tg,iter,ifs,0⟩] scope pos) 0 (.ref it) (.ref s2.heap.objs.size) (compEnvC scope (nX X.env.cells scope.names []) s3.heap.objs.size X.env))
   (compPost (aR X.prog X.w) X.A X.xe use Q' (.ref s2.heap.objs.size) s3.heap.objs.size) s4:=by
  rintro s4 rfl
  refine FG (λn s'=>∃i ys' σ' H',Inv (FF X (own++ys) scope s3 (upd H2 s2.heap.objs.size (.lst [])) fp) [] σ' H' s'/\tn i s'.heap/\(∀b∈fp,H' b=none)/\W i n ys' σ' H') ?_ m0
   ⟨0,[],_,_,I4,st4,λb hb=>(f3 b hb).1,w0⟩
  rintro n s5 ⟨i,ys',σ5,H5,I5,st5,fr5,w5⟩;obtain⟨hacc,rest⟩:=turn i n ys' σ5 H5 w5
  rcases rest with⟨stop,qn⟩|⟨go,step⟩
  .refine hZ (T.done (FF X (own++ys) scope s3 (upd H2 s2.heap.objs.size (.lst [])) fp) rfl rfl rfl hcalm i [] s5 σ5 H5 _ I5 (stat fr5) st5 stop) λr s6 ⟨hr,I6⟩=>?_;subst hr;exact hu _ _ H5 s6 (PF I3 f3 I6) qn ⟨I6.free,fC.2⟩ (let ⟨m,hn,_⟩:=I6.loc;⟨m,hn⟩)
  .refine hZ (T.item (FF X (own++ys) scope s3 (upd H2 s2.heap.objs.size (.lst [])) fp) rfl rfl rfl hcalm i [] s5 σ5 H5 _ I5 (stat fr5) st5 go) λr s6 ⟨u,hr,h6⟩=>?_;subst hr;refine hZ h6 λ_ s7 ⟨x,H7,I7,r7,y7,st7,fr7⟩=>?_;have I7':=I7.pinned (stat fr7) (T.obj _ _ st7);refine hZ (hg _ _ _ _ s7 σ5 H7 x u _ I7' r7 (step x H7 y7)) λ_ s8 ⟨σ8,H8,I8,q8⟩=>?_;refine hZ (ht _ _ _ _ s8 σ8 H8 _ I8 q8) λok s9 ⟨H9,I9,q9⟩=>?_
   have kept:∀{s10:aA}{σ10:St}{H10:Hp},Inv (FF X (own++ys) scope s3 (upd H2 s2.heap.objs.size (.lst [])) fp) ([]++AC fp s7.heap) σ10 H10 s10 ->Inv (FF X (own++ys) scope s3 (upd H2 s2.heap.objs.size (.lst [])) fp) [] σ10 H10 s10/\tn (i+1) s10.heap/\∀b∈fp,H10 b=none:=λ{s10 σ10 H10} I10=>by refine⟨I10.xg,T.keep _ _ _ st7 λb hb o e=>(I10.pin (b,o) (bC _ (bC _ (qa hb e)))).1,λb hb=>?_⟩;obtain⟨o,e,d⟩:=T.obj _ _ st7 b hb;exact(I10.pin (b,o) (bC _ (bC _ (qa hb e)))).2.1
   cases ok with
   |false=>
    simp only[bN,if_false]at q9 ⊢;obtain⟨m',hm,w9⟩:=q9;obtain⟨k1,k2,k3⟩:=kept I9
    exact⟨m',hm,i+1,ys',σ8,H9,k1,k2,k3,w9⟩
   |true=>
    simp only[if_true]at q9 ⊢;refine hZ (he _ _ _ _ s9 σ8 H9 _ I9 q9) λyv s10 ⟨y,H10,I10,r10,a10,l10,m',hm,w10⟩=>?_;refine hZ (sF (X:=FF X (own++ys) scope s3 (upd H2 s2.heap.objs.size (.lst [])) fp) _ s10 σ8 H10 (.ref s2.heap.objs.size) [y] (.ref s2.heap.objs.size) [yv] (λv H'=>v=.non/\H'=upd H10 s2.heap.objs.size (.lst (ys'++[y]))) I10 rfl (.cons r10 .nil) ⟨_,_,_,rfl,rfl,a10,l10,rfl,rfl⟩) λ_ s11 ⟨_,H11,I11,_,_,e11⟩=>?_;subst e11;obtain⟨k1,k2,k3⟩:=kept I11;exact⟨m',hm,i+1,_,σ8,_,k1,k2,k3,w10⟩
 have fin:=codeAny_compStart_list (R:=compPost (aR X.prog X.w) X.A X.xe use Q' (.ref s2.heap.objs.size) s3.heap.objs.size) (Kr _ rfl) (T.self X.A 0 { s3 with heap:=h₁,toks:=s2.toks+([]:List (bF×ak)).length } _ _ st4 (Kr _ rfl));rw[← hs3]at fin ⊢;exact fin
theorem vJ(I:Inv X pins Z H s)(h:(scope.names.all λy=>y.2 != .free || X.env.kindOf y.1 == some .cell || X.env.kindOf y.1 == some .free)=true):∀n,(n,bQ)∈scope.names->∃c,X.env.cells.lookup n=some c:=λn hn=>by have q:=VW.mp h _ hn;simp only[bne_self_eq_false,Bool.false_or,Bool.or_eq_true,beq_iff_eq]at q;exact I.ok.has n q
theorem iY(own:List bF){ys:List bF}(js:List Nat){wi:TI}{g:TG}{tt:TT}{te:TE}(hcalm:X.calm=true)(hi:PI X tg iter wi)(hc:CK X scope js ys)(hg:∀s0 H0 fp,PG (FF X (own++ys) scope s0 H0 fp) tg g)(ht:∀s0 H0 fp,PH (FF X (own++ys) scope s0 H0 fp) ifs tt)(he:∀s0 H0 fp,PE (FF X (own++ys) scope s0 H0 fp) elt te)(hfr:(scope.names.all λy=>y.2 != .free || X.env.kindOf y.1 == some .cell || X.env.kindOf y.1 == some .free)=true:=by rfl)(hkind:scope.kind=.function:=by rfl)(hcell:∀y∈scope.names,y.2≠.cell:=by decide +kernel)(hnames:∀y∈scope.names,y.2=.local->scope.names.lookup y.1=some .local:=by decide +kernel)(hs:∀x,sJ iter X.env x=pure x:=by intro _;rfl):PE X (.ListComp elt [⟨tg,iter,ifs,0⟩] scope pos) (jo own.length js wi g tt te):=by intro pins s Z H Q I h;rw[eval_ListComp];refine HW (use:=none) hcalm hi hkind hcell hnames (vJ I hfr) hc hg ht he I h (λD C H' s' I' q fC ⟨m,hn⟩=>⟨m,hn,λh' hs'=>⟨.ref D,H',?_,rfl,q⟩⟩) hs;exact I'.turned (t':=s'.toks) (λb o hb e=>(hs'.2 b hb).trans e) fC.1 fC.2.1 fC.2.2.2.1 fC.2.2.2.2.1 fC.2.2.2.2.2
theorem vK{spos py:xu}{i:Nat}(own:List bF){ys:List bF}(js:List Nat){wi:TI}{g:TG}{tt:TT}{te:TE}(hcalm:X.calm=true)(hN:X.N.Nodup)(hy:X.N[i]?=some y)(hl:X.env.scope.names.lookup y=some .local)(hi:PI X tg iter wi)(hc:CK X scope js ys)(hg:∀s0 H0 fp,PG (FF X (own++ys) scope s0 H0 fp) tg g)(ht:∀s0 H0 fp,PH (FF X (own++ys) scope s0 H0 fp) ifs tt)(he:∀s0 H0 fp,PE (FF X (own++ys) scope s0 H0 fp) elt te)(hfr:(scope.names.all λy=>y.2 != .free || X.env.kindOf y.1 == some .cell || X.env.kindOf y.1 == some .free)=true:=by rfl)(hsw:Ar (.ListComp elt [⟨tg,iter,ifs,0⟩] scope pos) (some (.Name y py)) spos.line X.env=pure true:=by rfl)(hkind:scope.kind=.function:=by rfl)(hcell:∀y∈scope.names,y.2≠.cell:=by decide +kernel)(hnames:∀y∈scope.names,y.2=.local->scope.names.lookup y.1=some .local:=by decide +kernel)(hs:∀x,sJ iter X.env x=pure x:=by intro _;rfl):PS X (.Assign [.Name y py] (.ListComp elt [⟨tg,iter,ifs,0⟩] scope pos) spos) (cU (jo own.length js wi g tt te) (bp i)):=by
 intro pins s Z H D I h;rw[exec_Assign_Name_used _ _ _ _ hsw];refine ae (tD (ae ?_))
 show aO _ X.A (do let _ ← comprehension (.ListComp elt [⟨tg,iter,ifs,0⟩] scope pos) scope X.env _ (newList []) false (fz iter X.env) (some (JX (.Name y py) X.env))) _ _ s
 refine ae (dQ (HW (Q:=λx H1=>bp i x Z H1 D.nx) (Q':=λ_ s'=>SP X pins D .next s') (use:=some (JX (.Name y py) X.env)) hcalm hi hkind hcell hnames (vJ I hfr) hc hg ht he I h (λDd C H' s' I' q fC ⟨m,hn⟩=>?_) hs) (λ_ s' hq=>ar (ar hq)) λ_ _ e=>e)
 show aO _ X.A (JX (.Name y py) X.env (.ref Dd)) _ _ _
 refine wpAny_assign_Name (Em (v:=.ref Dd) I' hN hy (.inl hl) rfl (λs'' I'' ⟨a,sb,ha⟩=>?_) (.inr hl))
 have hCa:C≠a:=by
  rcases ha with z|z
  .rw [z];exact fC.2.1
  .exact Ne.symm (fC.2.2.2.2.1 _ _ z)
 refine⟨m,hn.sameBut sb hCa,λh' hs'=>?_⟩;exact⟨_,H',I''.turned (t':=s''.toks) (λb o hb e=>(hs'.2 b hb).trans e) fC.1 fC.2.1 fC.2.2.2.1 fC.2.2.2.2.1 fC.2.2.2.2.2,q⟩
mutual
def Rep(K:aa)(H:Hp):PyData->V->Prop
 | .none,v=>v=.non
 | .bool b,v=>v=.bl b
 | .int i,v=>v=.int i
 | .str x,v=>v=.str x
 | .list ds,v=>∃a xs,v=.ref a/\c6 K H a xs/\dY K H ds xs
 | .tuple ds,v=>∃a xs,v=.ref a/\jq K H a xs/\dY K H ds xs
 | .dict _,_=>False
def dY(K:aa)(H:Hp):List PyData->List V->Prop
 | [],vs=>vs=[]
 |d::ds,vs=>∃v r,vs=v::r/\Rep K H d v/\dY K H ds r
end
mutual
theorem Rep.reads(I:Inv X pins Z H s):∀(d:PyData) (v:V) (u:ak),Rep X.K H d v->RelV v u->∃as,Reads s.heap u d as
 | .none,v,u,h,r=>by
  cases(show v=.non by simpa only[Rep]using h)
  cases(show u=dZ from r);exact⟨_,.none⟩
 | .bool b,v,u,h,r=>by
  cases(show v=.bl b by simpa only[Rep]using h)
  cases(show u=sk b from r);exact⟨_,.bool b⟩
 | .int i,v,u,h,r=>by
  cases(show v=.int i by simpa only[Rep]using h)
  obtain⟨t,rfl⟩:=(show∃t,u=gO i t from r);exact⟨_,.int i t⟩
 | .str x,v,u,h,r=>by
  cases(show v=.str x by simpa only[Rep]using h)
  obtain⟨t,rfl⟩:=(show∃t,u=qI x t from r);exact⟨_,.str x t⟩
 | .list ds,v,u,h,r=>by
  obtain⟨a,xs,rfl,hq,ha⟩:=(show∃a xs,v=.ref a/\c6 X.K H a xs/\dY X.K H ds xs by simpa only[Rep]using h)
  cases(show u=aD a from r);obtain⟨its,rv,⟨o,n,e1,e2,_,e3⟩,_⟩:=I.list hq;obtain⟨as,ra⟩:=dY.reads I ds xs its ha rv
  exact⟨_,.list e1 e2 e3 (by simpa using ra)⟩
 | .tuple ds,v,u,h,r=>by
  obtain⟨a,xs,rfl,hq,ha⟩:=(show∃a xs,v=.ref a/\jq X.K H a xs/\dY X.K H ds xs by simpa only[Rep]using h)
  cases(show u=aD a from r);obtain⟨its,rv,⟨o,e1,e2,n,e3⟩,_⟩:=I.tuple hq;obtain⟨as,ra⟩:=dY.reads I ds xs its ha rv
  exact⟨_,.tuple e1 e2 e3 (by simpa using ra)⟩
 | .dict _,v,u,h,r=>absurd h (by simp only[Rep];exactλz=>z)
theorem dY.reads(I:Inv X pins Z H s):∀(ds:List PyData) (vs:List V) (us:List ak),dY X.K H ds vs->Vals vs us->∃as,ReadsAll s.heap us ds as
 | [],vs,us,h,r=>by
  cases(show vs=[] by simpa only[dY]using h)
  cases r;exact⟨_,.nil⟩
 |d::ds,vs,us,h,r=>by
  obtain⟨v,rr,rfl,h1,h2⟩:=(show∃v r,vs=v::r/\Rep X.K H d v/\dY X.K H ds r by simpa only[dY]using h)
  cases r with
  |cons ru rs=>
   obtain⟨as,r1⟩:=Rep.reads I d v _ h1 ru;obtain⟨bs,r2⟩:=dY.reads I ds rr _ h2 rs;exact⟨_,.cons r1 r2⟩
end
theorem bU.XC{K:aa}(e:bU H H')(h:jq K H a xs):jq K H' a xs:=by
 rcases h with(h|⟨o,h⟩)|h
 .exact .inl (.inl (e _ _ h))
 .exact .inl (.inr ⟨o,e _ _ h⟩)
 .exact .inr h
theorem dY.cons{K:aa}{d:PyData}{vs:List V}(h1:Rep K H d v)(h2:dY K H ds vs):dY K H (d::ds) (v::vs):=by simp only[dY];exact⟨v,vs,rfl,h1,h2⟩
theorem dY.nil{K:aa}:dY K H [] []:=by simp only[dY]
theorem Rep.int{K:aa}(i:Int):Rep K H (.int i) (.int i):=by simp only[Rep]
theorem Rep.lst{K:aa}(h:c6 K H a xs)(r:dY K H ds xs):Rep K H (.list ds) (.ref a):=by simp only[Rep];exact⟨a,xs,rfl,h,r⟩
theorem Rep.tup{K:aa}(h:jq K H a xs)(r:dY K H ds xs):Rep K H (.tuple ds) (.ref a):=by simp only[Rep];exact⟨a,xs,rfl,h,r⟩
theorem dY.ints{K:aa}:∀(ns:List Int),dY K H (ns.map .int) (ns.map V.int)
 | []=>dY.nil
 |n::ns=>dY.cons (Rep.int n) (dY.ints ns)
structure uM(d:PyData):Prop where
 lay:d.canLay0=true
 dep:d.depth<=60
def Tz(K:aa)(neg:Bool):R2:=λx y H Q=>∃dx dy,Rep K H dx x/\Rep K H dy y/\uM dx/\uM dy/\Q (.bl (if neg then !PyData.eqv dx dy else dt dx dy)) H
theorem WB(hu:X.A.units+64<iQ):qy X (dw .Eq) (Tz X.K false):=by intro pins s Z H x y v u Q I rx ry h;obtain⟨dx,dy,h1,h2,f1,f2,q⟩:=h;obtain⟨as,r1⟩:=Rep.reads I dx x v h1 rx;obtain⟨bs,r2⟩:=Rep.reads I dy y u h2 ry;have:=f1.dep;exact SeqAt.compareEq_reads r1 r2 f1.lay f2.lay (bx (yB (bw (Yn _ _) (bw f1.dep (by decide))) _) hu) ⟨.bl _,H,I,rfl,q⟩
theorem WC(hu:X.A.units+64<iQ):qy X (dw .NotEq) (Tz X.K true):=by intro pins s Z H x y v u Q I rx ry h;obtain⟨dx,dy,h1,h2,f1,f2,q⟩:=h;obtain⟨as,r1⟩:=Rep.reads I dx x v h1 rx;obtain⟨bs,r2⟩:=Rep.reads I dy y u h2 ry;exact SeqAt.compareNe_reads r1 r2 f1.lay f2.lay (bx (yB (bw (Yn _ _) (bw f1.dep (by decide))) _) hu) ⟨.bl _,H,I,rfl,q⟩
def kL(K:aa):R2:=λx y H Q=>rEq x y H Q\/Tz K false x y H Q
def HX(K:aa):R2:=λx y H Q=>rNe x y H Q\/Tz K true x y H Q
theorem PJ(hu:X.A.units+64<iQ):qy X (dw .Eq) (kL X.K):=Yx.or (WB hu)
theorem WD(hu:X.A.units+64<iQ):qy X (dw .NotEq) (HX X.K):=Yy.or (WC hu)
def WE(K:aa)(neg:Bool):R2:=λx y H Q=>∃d ds,Rep K H d x/\(Rep K H (.list ds) y\/Rep K H (.tuple ds) y)/\uM d/\cm ds=true/\Q (.bl (if neg then !(ds.any λe=>dt e d)else ds.any λe=>dt e d)) H
theorem WG(hu:X.A.units+64<iQ):qy X (dw .In) (WE X.K false):=by
 intro pins s Z H x y v u Q I rx ry h;obtain⟨d,ds,h1,h2,f1,f2,q⟩:=h;obtain⟨as,r1⟩:=Rep.reads I d x v h1 rx;have hb:X.A.units+1+min (cu ds) d.depth<iQ:=bx (by have:=f1.dep;lia) hu
 rcases h2 with h2|h2
 .obtain ⟨bs,r2⟩:=Rep.reads I _ y u h2 ry;exact SeqAt.in_list_reads r2 r1 f2 f1.lay hb ⟨.bl _,H,I,rfl,q⟩
 .obtain ⟨bs,r2⟩:=Rep.reads I _ y u h2 ry;exact SeqAt.in_tuple_reads r2 r1 f2 f1.lay hb ⟨.bl _,H,I,rfl,q⟩
theorem NU(hu:X.A.units+64<iQ):qy X (dw .NotIn) (WE X.K true):=by
 intro pins s Z H x y v u Q I rx ry h;obtain⟨d,ds,h1,h2,f1,f2,q⟩:=h;obtain⟨as,r1⟩:=Rep.reads I d x v h1 rx;have hb:X.A.units+1+min (cu ds) d.depth<iQ:=bx (by have:=f1.dep;lia) hu
 rcases h2 with h2|h2
 .obtain ⟨bs,r2⟩:=Rep.reads I _ y u h2 ry;exact SeqAt.notIn_list_reads r2 r1 f2 f1.lay hb ⟨.bl _,H,I,rfl,q⟩
 .obtain ⟨bs,r2⟩:=Rep.reads I _ y u h2 ry;exact SeqAt.notIn_tuple_reads r2 r1 f2 f1.lay hb ⟨.bl _,H,I,rfl,q⟩
def WH(neg:Bool):R2:=λy x H Q=>∃a o,x=.ref a/\vf H a y o/\Q (.bl (if neg then !o.isSome else o.isSome)) H
theorem WI(hu:X.A.units+64<iQ):qy X (dw .In) (WH false):=by
 intro pins s Z H y x iv u Q I ry rx h;obtain⟨a,o,rfl,g,q⟩:=h;cases rx
 exact d_in (bx (by lia) hu) I g ry λs' I'=>⟨.bl _,H,I',rfl,q⟩
theorem NV(hu:X.A.units+64<iQ):qy X (dw .NotIn) (WH true):=by
 intro pins s Z H y x iv u Q I ry rx h;obtain⟨a,o,rfl,g,q⟩:=h;cases rx
 exact Tv (bx (by lia) hu) I g ry λs' I'=>⟨.bl _,H,I',rfl,q⟩
def oJ(K:aa)(neg:Bool):R2:=λx y H Q=>WE K neg x y H Q\/WH neg x y H Q
theorem WJ(hu:X.A.units+64<iQ):qy X (dw .In) (oJ X.K false):=(WG hu).or (WI hu)
theorem NW(hu:X.A.units+64<iQ):qy X (dw .NotIn) (oJ X.K true):=(NU hu).or (NV hu)
def fN:R2:=λx y H Q=>o9 (λi j=>.int (i+j)) x y H Q\/YD x y H Q
theorem MD:qy X (vg .Add) fN:=Wq.or Wz
def YG:R2:=λx y H Q=>∃a v,x=.ref a/\vf H a y (some v)/\Q v H
theorem TB(hu:X.A.units+64<iQ):Uv X YG:=by intro value slice pins s Z H x y v u Q I rx ry h hs;obtain⟨a,z,rfl,g,q⟩:=h;cases rx;exact tail_any (HQ I g) Fn.lookup (Ez (bx (by lia) hu) I g ry λw' s' I' r'=>⟨z,H,I',r',q⟩) hs
def cS(K:aa):R2:=λx y H Q=>(YB K x y H Q\/YC K x y H Q)\/YG x y H Q
theorem WK(hu:X.A.units+64<iQ):Uv X (cS X.K):=(Ts.or Wx).or (TB hu)
def U0:V->V->V->Hp->(Hp->Prop)->Prop:=λo i v H Q=>∃a H',o=.ref a/\tw H a i v H'/\Q H'
theorem set_dict(hu:X.A.units+64<iQ):SN X U0:=by
 intro pins s Z H o i v ov iv u Q I ro ri rv h;obtain⟨a,H',rfl,g,q⟩:=h;cases ro
 exact EA (bx (by lia) hu) I g ri rv λs' I'=>⟨H',I',q⟩
def qm:V->V->V->Hp->(Hp->Prop)->Prop:=λo i v H Q=>UX o i v H Q\/U0 o i v H Q
theorem YH(hu:X.A.units+64<iQ):SN X qm:=by
 intro pins s Z H o i v ov iv u Q I ro ri rv h
 rcases h with h|h
 .exact Px pins s Z H o i v ov iv u Q I ro ri rv h
 .exact set_dict hu pins s Z H o i v ov iv u Q I ro ri rv h
def sW(K:aa):List V->Hp->VK->Prop:=λxs H Q=>(∃p ys,xs=[.ref p]/\(c6 K H p ys\/jq K H p ys)/\Q (.int ys.length) H)\/(∃a kvs,xs=[V.ref a]/\H a=some (.dK kvs)/\Q (.int kvs.length) H)
theorem EC:mO X (.builtin "len") (sW X.K):=FD.or NS
def PK(K:aa):List V->Hp->VK->Prop:=λxs H Q=>∃x T t b,xs=[x,.ty T]/\vD K H x t/\lB K t (.type T)=some b/\Q (.bl b) H
theorem HY:mO X (.builtin "isinstance") (PK X.K):=by
 intro pins s Z H xs us Q I r h;obtain⟨x,T,t,b,rfl,ty,e,q⟩:=h;obtain⟨u,w',rfl,ru,rw'⟩:=vals2 r;cases(show w'=dD T from rw')
 exact NO I ru ty e λtk=>⟨.bl b,H,I.tok tk,rfl,q⟩
theorem Inv.Ou(I:Inv X pins Z H s):∃m,Fr X.base X.env.locals s.heap m/\News X.base X.env.locals s.heap (sC X.base s.heap X.env.locals):=
 let ⟨m,F⟩:=I.fr
 ⟨m,F,O8⟩
section
variable{D:vA}{ta tb:TE}{t u:TS}{c c':TT}{tA:TA}{QT:Bool->Hp->Prop}{QA:List V->Hp->Prop}
theorem PL(h:t { D with nx:=u D } Z H):bP t u D Z H:=h
theorem YI(h:te Z H λx H1=>g x Z H1 D.nx):cU te g D Z H:=h
theorem Aj{i:Nat}(h:R (Z.set i (some v)) H):bp i v Z H R:=h
theorem WL{ti:TE}{ts:SL}(h:to Z H λo H1=>ti Z H1 λi H2=>ts o i v H2 λH3=>R Z H3):AB to ti ts v Z H R:=h
theorem kx{i:Nat}(h:Z[i]?=some (some v))(k:Q v H):aq i Z H Q:=⟨v,h,k⟩
theorem x_c(k:Q v H):tC v Z H Q:=k
theorem x_op{r:R2}(h:ta Z H λx H1=>tb Z H1 λy H2=>r x y H2 Q):cq r ta tb Z H Q:=h
theorem x_un{r:V->Hp->VK->Prop}(h:ta Z H λx H1=>r x H1 Q):tUn r ta Z H Q:=h
theorem YJ(h:te Z H D.rt):dW te D Z H:=h
theorem PN(h:te Z H λ_ H1=>D.nx Z H1):gU te D Z H:=h
theorem WM(h:D.nx Z H):eJ D Z H:=h
theorem YK(h:c Z H λb H1=>if b=true then t D Z H1 else u D Z H1):ie c t u D Z H:=h
theorem x_if(h:c Z H λb H1=>if b=true then ta Z H1 Q else tb Z H1 Q):Ye c ta tb Z H Q:=h
theorem WN(h:te Z H λx H'=>∃k,x=.bl k/\QT k H'):dh te Z H QT:=h
theorem YL(h:c Z H λb H1=>if b=true then c' Z H1 QT else QT false H1):zx c c' Z H QT:=h
theorem x_or(h:c Z H λb H1=>if b=true then QT true H1 else c' Z H1 QT):tOr c c' Z H QT:=h
theorem YM(h:c Z H λb H1=>QT (!b) H1):HG c Z H QT:=h
theorem WO(h:ta Z H λx H1=>∃c,x=.bl c/\if c=true then tb Z H1 Q else Q (.bl false) H1):En ta tb Z H Q:=h
theorem WQ(h:ta Z H λx H1=>∃c,x=.bl c/\Q (.bl (!c)) H1):Pa ta Z H Q:=h
theorem YN(h:QT true H):vH Z H QT:=h
theorem ED(h:QA [] H):a8 Z H QA:=h
theorem AS(h:te Z H λx H1=>tA Z H1 λxs H2=>QA (x::xs) H2):au te tA Z H QA:=h
theorem YO(h:tA Z H λxs H1=>xs.length<=aY/\∀p,H1 p=none->Q (.ref p) (upd H1 p (.tup xs))):ir tA Z H Q:=h
theorem PP(h:tA Z H λxs H1=>xs.length<=aY/\∀p,H1 p=none->Q (.ref p) (upd H1 p (.lst xs))):sV tA Z H Q:=h
theorem WR{dvs:List V}{E:XK}(h:tA Z H λvs H1=>sp (vs++dvs) H1 Q E):cY sp dvs E tA Z H Q:=h
theorem x_cb{r:List V->Hp->VK->Prop}(h:tA Z H λvs H1=>r vs H1 Q):oI r tA Z H Q:=h
theorem WS{K:aa}{T:String}{r:V->List V->Hp->VK->Prop}(h:to Z H λx H1=>tyV K T x H1/\tA Z H1 λxs H2=>r x xs H2 Q):AN K T r to tA Z H Q:=h
theorem x_sl{r:V->Option Int->Option Int->Hp->VK->Prop}{tl th:TO}(h:te Z H λx H1=>tl Z H1 λl H2=>th Z H2 λu H3=>r x l u H3 Q):J7 r te tl th Z H Q:=h
theorem PQ{R:Option Int->Hp->Prop}(h:R none H):j9 Z H R:=h
theorem WT{R:Option Int->Hp->Prop}(h:te Z H λx H1=>∃i,x=.int i/\R (some i) H1):kq te Z H R:=h
theorem YQ{g:Int->Int->V}(h:Q (g i j) H):o9 g (.int i) (.int j) H Q:=⟨i,j,rfl,rfl,h⟩
theorem x_rI{C:Int->Int->Prop}{g:Int->Int->V}(hc:C i j)(h:Q (g i j) H):rI C g (.int i) (.int j) H Q:=⟨i,j,rfl,rfl,hc,h⟩
theorem WU(h:Q (.int (i+j)) H):fN (.int i) (.int j) H Q:=.inl ⟨i,j,rfl,rfl,h⟩
theorem YR{K:aa}(h:Q (.bl (decide (V.int i=V.int j))) H):kL K (.int i) (.int j) H Q:=.inl ⟨rfl,h⟩
theorem YS{K:aa}(h:Q (.bl (!decide (V.int i=V.int j))) H):HX K (.int i) (.int j) H Q:=.inl ⟨rfl,h⟩
theorem nz{K:aa}(h:c6 K H p xs)(e:Pr xs i=some v)(k:Q v H):cS K (.ref p) (.int i) H Q:=.inl (.inl ⟨p,xs,i,v,rfl,rfl,h,e,k⟩)
theorem eh{K:aa}(h:jq K H p xs)(e:Pr xs i=some v)(k:Q v H):cS K (.ref p) (.int i) H Q:=.inl (.inr ⟨p,xs,i,v,rfl,rfl,h,e,k⟩)
theorem uN{K:aa}(h:c6 K H p xs)(k:Q (.int xs.length) H):sW K [.ref p] H Q:=.inl ⟨p,xs,rfl,.inl h,k⟩
theorem mh{l:ai}{y:V}(h:H l=some (.lst xs))(hl:xs.length<aY)(k:Q .non (upd H l (.lst (xs++[y])))):kJ (.ref l) [y] H Q:=⟨l,xs,y,rfl,rfl,h,hl,k⟩
theorem WV{k:Int}{j:Nat}{R:Hp->Prop}(h:H p=some (.lst xs))(e:OT xs.length k=some j)(q:R (upd H p (.lst (xs.set j v)))):qm (.ref p) (.int k) v H R:=.inl ⟨p,xs,k,j,rfl,rfl,h,e,q⟩
theorem mP{p A B:Prop}[Decidable p](h1:p->A)(h2:¬ p->B):if decide p=true then A else B:=by
 by_cases h:p
 .rw [if_pos (decide_eq_true h)];exact h1 h
 .rw [if_neg (by rw[decide_eq_false h];decide)];exact h2 h
theorem PR{p A B:Prop}[Decidable p](h1:¬ p->A)(h2:p->B):if(!decide p)=true then A else B:=by
 by_cases h:p
 .rw [if_neg (by rw[decide_eq_true h];decide)];exact h2 h
 .rw [if_pos (by rw[decide_eq_false h];decide)];exact h1 h
theorem jB:(V.int i=V.int j)↔i=j:=⟨λh=>by injection h,λh=>by rw[h]⟩
end
end L2
namespace BootT
open PySem
theorem len:dE "len"=some (.builtin "len"):=by decide +kernel
theorem AU:dE "isinstance"=some (.builtin "isinstance"):=by decide +kernel
theorem sorted:dE "sorted"=some (.builtin "sorted"):=by decide +kernel
theorem min:dE "min"=some (.builtin "min"):=by decide +kernel
theorem max:dE "max"=some (.builtin "max"):=by decide +kernel
theorem int:dE "int"=some (.type "int"):=by decide +kernel
theorem bool:dE "bool"=some (.type "bool"):=by decide +kernel
theorem list:dE "list"=some (.type "list"):=by decide +kernel
end BootT
namespace L2
variable{H:Hp}{i j:Int}{Z:St}{n m:Nat}{x v y:V}{a c l:ai}{g:TG}{ta te:TE}{xs:List V}{R:St->Hp->Prop}{Q:VK}{tg:Expr}{tt:TT}{D:vA}{wi:TI}{d:PyData}{ds:List PyData}{o:HO}{X:Cx}
def EE:List V->Hp->VK->Prop:=λxs H Q=>∃i j,xs=[.int i,.int j]/\Q (.int (if j<i then j else i)) H
def HZ:List V->Hp->VK->Prop:=λxs H Q=>∃i j,xs=[.int i,.int j]/\Q (.int (if j>i then j else i)) H
def ph(K:aa)(ta:TE):TT:=λZ H Q=>ta Z H λx H'=>∃k,Tb K x H' k/\Q k H'
theorem YT{K:aa}{Q:Bool->Hp->Prop}(h:ta Z H λx H'=>∃k,Tb K x H' k/\Q k H'):ph K ta Z H Q:=h
section
variable{a:Expr}
theorem KD(ha:PE X a ta)(he:∀whole,isTrue a X.env whole=(do let v ← whole;xm a.pos;kZ [v] (truthy v))):PT X a (ph X.K ta):=Pi ha he
end
def Itd(a:ai)(kvs:List (dJ×V))(o:jv):It:=
 ⟨λi H=>i<kvs.length/\H a=some (.frz o (.dK kvs)),λi H x H'=>H'=H/\∃k v,kvs[i]?=some (k,v)/\x=kV k,λi H=>kvs.length<=i/\H a=some (.frz o (.dK kvs))⟩
theorem WW{k:dJ}{u:ak}(h:Ax k u=true):RelV (kV k) u:=by
 rcases gR h with⟨i,t,rfl,rfl⟩|⟨x,t,rfl,rfl⟩
 .exact ⟨t,rfl⟩
 .exact ⟨t,rfl⟩
theorem KV.get{kvs:List (dJ×V)}{vs:List (dJ×ak)}(r:KV kvs vs){i:Nat}{k:dJ}{v:V}(e:kvs[i]?=some (k,v)):∃u,vs[i]?=some (k,u)/\RelV v u:=by
 unfold KV at r
 induction r generalizing i with
 |nil=>simp at e
 |@cons p q ps qs h t ih=>
  cases i with
  |zero=>
   simp at e;subst e;obtain⟨q1,q2⟩:=q;obtain⟨h1,h2⟩:=h;simp only at h1 h2;subst h1
   exact⟨q2,rfl,h2⟩
  |succ i=>
   obtain⟨u,e1,e2⟩:=ih (by simpa using e);exact⟨u,by simpa using e1,e2⟩
theorem NX{P:bI}{w:cC}{K:aa}(a it:ai)(o:jv)(kvs:List (dJ×V))(vs:List (dJ×ak))(ep:Nat)(rel:KV kvs vs)(od:∀h:cR,h.get? a=some o->h.DictAt (eP P w) a vs ep):ND P w K tg (Itd a kvs o) [it] it (λi h=>h.IsKeyIter it a i vs.length ep) where
 mem:=by simp
 obj:=λi h st b hb=>by
  have e:b=it:=by simpa using hb
  subst e;obtain⟨o,e,c,d⟩:=st;exact⟨o,e,λv z=>by rw[d]at z;cases z⟩
 keep:=λi h h' st k=>st.at λo e=>k it (by simp) o e
 item:=by
  intro X hP hw hK hc i pins s Z H E I hf st hg;subst hP hw hK;obtain⟨hlt,hq⟩:=hg
  obtain⟨e0,_⟩:=(show fv X.prog X.w H s.heap a (.frz o (.dK kvs))from I.fw a _ hq)
  obtain⟨⟨k,v⟩,hx⟩:∃p,kvs[i]?=some p:=⟨kvs[i],by simp[hlt]⟩
  obtain⟨u,hu,ru⟩:=rel.get hx;obtain⟨f0,f1,f2,f3,f4,f5⟩:=hf it (by simp);refine wpAny_pyNext_dict_item st (od _ e0) hu λkey h' hkey st' sb=>?_;have I1:Inv X pins Z H { s with heap:=h' }:=I.turned (t':=s.toks) (λb o hb e=>(sb.2 b hb).trans e) f0 f1 f3 f4 f5;obtain⟨o',e,c,d⟩:=id st';exact⟨key,rfl,HH (s:={ s with heap:=h' }) e c d (by decide) ⟨kV k,H,I1,WW hkey,⟨rfl,k,v,hx,rfl⟩,st',λb hb=>(hf b hb).1⟩⟩
 done:=by
  intro X hP hw hK hc i pins s Z H E I hf st hg;subst hP hw hK;obtain⟨hle,hq⟩:=hg
  obtain⟨e0,_⟩:=(show fv X.prog X.w H s.heap a (.frz o (.dK kvs))from I.fw a _ hq)
  obtain⟨f0,f1,f2,f3,f4,f5⟩:=hf it (by simp);have hl:=rel.length
  exact wpAny_pyNext_dict_end (I.ok.hd hc) st (od _ e0) (by simp;lia) λh' eb=>⟨rfl,I.turned (t':=s.toks) (λb o hb e=>eb b o hb e) f0 f1 f3 f4 f5⟩
 self:=λ_ _ _ _ _ st h=>z6 st h
def lH(K:aa)(tl:TE):TI:=λZ H R=>tl Z H λx H1=>∃a,x=.ref a/\(((∃xs,c6 K H1 a xs)/\R (Ko K a) H1)\/((∃xs,jq K H1 a xs)/\R (Yg K a) H1) \/∃kvs,H1 a=some (.dK kvs)/\∀o,R (Itd a kvs o) (upd H1 a (.frz o (.dK kvs))))
theorem PU{K:aa}{tl:TE}{R:It->Hp->Prop}(h:tl Z H λx H1=>∃a,x=.ref a/\(((∃xs,c6 K H1 a xs)/\R (Ko K a) H1)\/((∃xs,jq K H1 a xs)/\R (Yg K a) H1) \/∃kvs,H1 a=some (.dK kvs)/\∀o,R (Itd a kvs o) (upd H1 a (.frz o (.dK kvs))))):lH K tl Z H R:=h
theorem mF{l:Expr}{tl:TE}(hl:PE X l tl):PI X tg l (lH X.K tl):=by
 intro pins s Z H R I h;refine hZ (hl pins s Z H _ I h) λv s1 ⟨x,H1,I1,r1,q1⟩=>?_;obtain⟨a,e,q1⟩:=q1;subst e;cases r1
 rcases q1 with⟨⟨xs,hq⟩,q⟩|⟨⟨xs,hq⟩,q⟩|⟨kvs,hq,q⟩
 .obtain ⟨its,rv,p,hz⟩:=I1.list hq;refine wpAny_pyIter_list p.isList ?_;refine⟨s1.heap.objs.size,[s1.heap.objs.size],_,_,H1,rfl,I1.kept (t':=s1.toks) λb o e=>ao _ e,NF a _,⟨_,aM _ rfl,rfl,rfl⟩,λb hb=>?_,q⟩
  have e:b=s1.heap.objs.size:=by simpa using hb
  subst e;exact I1.LY (ay _) (I1.fw.fresh (ay _))
 .obtain ⟨its,rv,p,hz⟩:=I1.tuple hq;refine wpAny_pyIter_tuple (show s1.heap.IsTuple a its.toArray from p) ?_;refine⟨s1.heap.objs.size,[s1.heap.objs.size],_,_,H1,rfl,I1.kept (t':=s1.toks) λb o e=>ao _ e,Kp a _,⟨_,aM _ rfl,rfl,rfl⟩,λb hb=>?_,q⟩
  have e:b=s1.heap.objs.size:=by simpa using hb
  subst e;exact I1.LY (ay _) (I1.fw.fresh (ay _))
 .obtain ⟨hz,hsys,vs,rel,dd⟩:=Mz I1.fw hq;obtain⟨ep,da⟩:=dd.dictAt;obtain⟨ob,es,ho,rr⟩:=id da
  have od:∀h:cR,h.get? a=some ob->h.DictAt (eP X.prog X.w) a vs ep:=λh e=>⟨ob,es,e,rr⟩
  have un:Un X.fs [] H1 (upd H1 a (.frz ob (.dK kvs))) s1.heap s1.heap:=by
   have hne:∀b u,H1 b=some u->u≠.dK kvs->b≠a:=λb u e n z=>by subst z;rw[hq]at e;exact n (aX e).symm
   refine⟨λb o e _ _ _=>e,λb o e _ _ _=>⟨o.slots,e⟩,λb o e n _=>?_,λb o e _=>⟨o,e⟩,λb ys e=>?_,λb o u e=>?_,λb ps e=>?_⟩
   .rw [aF (λz=>by subst z;rw[hq]at n;cases n)];exact n
   .rw [aF (hne b _ e (by intro z;cases z))];exact e
   .rw [aF (hne b _ e (by intro z;cases z))];exact e
   .exact ⟨#[],by rw[aF (hne b _ e (by intro z;cases z)),e];simp⟩
  have fw:qG X.prog X.w (upd H1 a (.frz ob (.dK kvs))) s1.heap:=λb u e=>by
   by_cases hb:b=a
   .subst hb;rw[aC]at e;cases e;exact⟨ho,hz,hsys,vs,rel,dd⟩
   .rw [aF hb]at e;refine(I1.fw b u e).zX (λc v _ q=>q) (λc q0=>?_) λc ys q0=>?_
    .rw [aF (λz=>by rw[z,hq]at q0;cases q0)];exact q0
    .rw [aF (λz=>by rw[z,hq]at q0;cases q0)];exact q0
  have I2:Inv X pins Z (upd H1 a (.frz ob (.dK kvs))) { s1 with heap:=s1.heap,toks:=s1.toks }:=I1.un un fw;refine wpAny_pyIter_dict hsys da ?_;refine⟨s1.heap.objs.size,[s1.heap.objs.size],_,_,_,rfl,I2.kept (t':=s1.toks) λb o e=>ao _ e,NX a _ ob kvs vs ep rel od,⟨_,aM _ rfl,rfl,rfl⟩,λb hb=>?_,q ob⟩
  have e:b=s1.heap.objs.size:=by simpa using hb
  subst e;exact I2.LY (ay _) (I2.fw.fresh (ay _))
def vL:V->List V->Hp->VK->Prop:=λx vs H Q=>∃a kvs k v,x=.ref a/\vs=[kV k,v]/\H a=some (.dK kvs)/\kvs.length<aY /\((∃z,eD kvs k=some z/\Q z H)\/(eD kvs k=none/\Q v (upd H a (.dK (i7 kvs k v)))))
theorem EF:Su X "dict.setdefault" vL:=by
 intro pins s Z H x xs v us Q I rx rs h;obtain⟨a,kvs,k,y,rfl,rfl,ha,hl,h⟩:=h;cases rx;obtain⟨u,r,rfl,ru,rr⟩:=Vals.two rs;obtain⟨z,hd,vs,rel,dd⟩:=Mz I.fw ha;have hlen:=rel.length;refine call_meetsIn mW dd.typeIs PySem.F.entry_dict_setdefault (PySem.F.args_dict_setdefault_3 _ _ _) (kt_meets_setdefault (eP X.prog X.w) a (AQ ru) hd r) ⟨vs,dd,by rw[← hlen];exact z,λw' hw=>?_,λhn h' dd' hs=>?_⟩
 .rcases h with⟨y',e,q⟩|⟨e,_⟩
  .obtain ⟨w2,e2,r2⟩:=pQ.some_of (v:=y') (o:=sN vs k) (by rw[← e];exact rel.val k);rw[hw]at e2;cases e2;exact⟨y',H,I.tok _,r2,q⟩
  .have:=pQ.none_of (o:=sN vs k) (by rw[← e];exact rel.val k);rw[hw]at this;cases this
 .rcases h with⟨y',e,q⟩|⟨e,q⟩
  .obtain ⟨w2,e2,r2⟩:=pQ.some_of (v:=y') (o:=sN vs k) (by rw[← e];exact rel.val k);rw[hn]at e2;cases e2
  .have he:∃q,h'.get? a=some q:=let ⟨q,_,_,hq,_⟩:=dd';⟨q,hq⟩
   exact⟨y,_,vE (t':=s.toks+1) I (by rw[ha];exact gi) hs he (KA (bw (kr kvs k y) hl) hd (rel.put k rr) dd'),rr,q⟩
section
variable{K:aa}
structure jH(n i:Nat)(S:St->Prop)(Pv:List V->Hp->Prop)(m:Nat)(ys:List V)(Z:St)(H:Hp):Prop where
 m:m=n-i
 le:i<=n
 s:S Z
 p:Pv ys H
theorem jH.mk'{i:Nat}{S:St->Prop}{Pv:List V->Hp->Prop}{ys:List V}(hi:i<n)(s:S Z)(p:Pv ys H):∃m',m'<n-i/\jH n (i+1) S Pv m' ys Z H:=⟨n-(i+1),by lia,rfl,hi,s,p⟩
theorem kM{σ0:St}{J:It}{acc:ai}{R:Hp->Prop}(Pv:Nat->List V->Hp->Prop)(S:St->Prop)(h0:Pv 0 [] (upd H acc (.lst [])))(s0:S σ0)(ha:∀i ys H,Pv i ys H->H acc=some (.lst ys))(hst:∀ys H,Pv n ys H->J.stop n H/\R H)(hgo:∀i ys H,i<n->Pv i ys H->J.go i H)(hs:∀i ys σ' H x H2,i<n->Pv i ys H->S σ'->J.Md i H x H2->g x σ' H2 λσ2 H3=>tt σ2 H3 λb H4=>if b=true then te σ2 H4 λy H5=>H5 acc=some (.lst ys)/\ys.length<aY/\∃m',m'<n-i/\jH n (i+1) S (Pv (i+1)) m' (ys++[y]) σ2 (upd H5 acc (.lst (ys++[y])))else∃m',m'<n-i/\jH n (i+1) S (Pv (i+1)) m' ys σ2 H4):∃W:Nat->Nat->List V->St->Hp->Prop,(∃m,W 0 m [] σ0 (upd H acc (.lst [])))/\∀i m ys σ' H',W i m ys σ' H'->H' acc=some (.lst ys) /\((J.stop i H'/\R H')\/(J.go i H'/\∀x H2,J.Md i H' x H2->g x σ' H2 λσ2 H3=>tt σ2 H3 λb H4 =>if b=true then te σ2 H4 λy H5=>H5 acc=some (.lst ys)/\ys.length<aY/\∃m',m'<m/\W (i+1) m' (ys++[y]) σ2 (upd H5 acc (.lst (ys++[y])))else∃m',m'<m/\W (i+1) m' ys σ2 H4)):=by
 refine⟨λi m ys σ' H'=>jH n i S (Pv i) m ys σ' H',⟨n,by simp,aK _,s0,h0⟩,?_⟩;rintro i m ys σ' H' ⟨rfl,hi,hS,p⟩;refine⟨ha i ys H' p,?_⟩
 by_cases hlt:i<n
 .exact .inr ⟨hgo i ys H' hlt p,λx H2 y=>hs i ys σ' H' x H2 hlt p hS y⟩
 .have e:i=n:=by lia
  subst e;exact .inl (hst ys H' p)
structure PV(Pv:St->Hp->Prop)(μ:St->Hp->Nat)(m:Nat)(Z:St)(H:Hp):Prop where
 m:m=μ Z H
 p:Pv Z H
theorem qR{c:TT}{tb:TS}(Pv:St->Hp->Prop)(μ:St->Hp->Nat)(h0:Pv Z H)(hs:∀Z H,Pv Z H->c Z H λb H1=>if b=true then∃N:St->Hp->Prop,(∀σ' H',N σ' H'->∃m',m' < μ Z H/\PV Pv μ m' σ' H')/\tb { D with nx:=N,ct:=N,bk:=D.nx } Z H1 else D.nx Z H1):xE c tb D Z H:=by refine⟨PV Pv μ,⟨_,rfl,h0⟩,?_⟩;rintro m Z H ⟨rfl,p⟩;exact hs Z H p
def wN(Pv:St->Hp->Prop)(μ:St->Hp->Nat)(b:Nat):St->Hp->Prop:=λZ H=>Pv Z H/\μ Z H<b
theorem ME{Pv:St->Hp->Prop}{μ:St->Hp->Nat}{b:Nat}:∀σ' H',wN Pv μ b σ' H'->∃m',m'<b/\PV Pv μ m' σ' H':=λσ' H' ⟨p,l⟩=>⟨_,l,rfl,p⟩
end
section
variable{tb:TE}{t u:TS}{tA:TA}{QT:Bool->Hp->Prop}{QA:List V->Hp->Prop}{K:aa}
theorem TC{r r':R2}{tc:TE}(h:ta Z H λx H1=>tb Z H1 λy H2=>r x y H2 λz H3=>∃k,z=.bl k/\(if k=true then tc Z H3 λw' H4=>r' y w' H4 Q else Q (.bl false) H3)):Fy r r' ta tb tc Z H Q:=h
theorem x_rU{g:Int->V}(h:Q (g i) H):rU g (.int i) H Q:=⟨i,rfl,h⟩
theorem YU{i j:Bool}(h:Q (.bl (decide (V.bl i=V.bl j))) H):kL K (.bl i) (.bl j) H Q:=.inl ⟨rfl,h⟩
theorem x_tB(h:te Z H λx H1=>∃c,x=.bl c/\QT c H1):tB te Z H QT:=h
theorem YV(h:ta Z H λx H1=>Q (.bl (decide (x=.non))) H1):Wg ta Z H Q:=h
theorem WX(h:ta Z H λx H1=>Q (.bl (!decide (x=.non))) H1):HF ta Z H Q:=h
theorem WY{R:It->Hp->Prop}(h:tA Z H λvs H1=>∃j:Int,vs=[.int j]/\-(2^62)<=j/\j<2^62/\R (SR 0 j.toNat) H1):yE tA Z H R:=h
theorem PX{tb:TS}(h:wi Z H λJ H1=>∃W:Nat->Nat->St->Hp->Prop,(∃m,W 0 m Z H1)/\∀i m Z H,W i m Z H ->(J.stop i H/\D.nx Z H)\/(J.go i H/\∃N:St->Hp->Prop,(∀σ' H',N σ' H'->∃m',m'<m/\W (i+1) m' σ' H')/\∀x H',J.Md i H x H'->g x Z H' λσ2 H2=>tb { D with nx:=N,ct:=N,bk:=D.nx } σ2 H2)):uH wi g tb D Z H:=h
theorem WZ{own:Nat}{js:List Nat}(h:wi Z H λJ H1=>∀acc,H1 acc=none ->∃W:Nat->Nat->List V->St->Hp->Prop,(∃m,W 0 m [] (oW own none++HV Z js) (upd H1 acc (.lst [])))/\∀i m ys σ' H',W i m ys σ' H'->H' acc=some (.lst ys) /\((J.stop i H'/\Q (.ref acc) H')\/(J.go i H'/\∀x H2,J.Md i H' x H2->g x σ' H2 λσ2 H3=>tt σ2 H3 λb H4 =>if b=true then te σ2 H4 λy H5=>H5 acc=some (.lst ys)/\ys.length<aY/\∃m',m'<m/\W (i+1) m' (ys++[y]) σ2 (upd H5 acc (.lst (ys++[y])))else∃m',m'<m/\W (i+1) m' ys σ2 H4))):jo own js wi g tt te Z H Q:=h
theorem YW{i:Nat}{ti:TIp}(hx:Z[i]?=some (some x))(h:te Z H λy H1=>ti x y H1 λz H2=>D.nx (Z.set i (some z)) H2):Pc i te ti D Z H:=⟨x,hx,h⟩
theorem qS{ts:Sr}(h:jq K H a xs)(hn:xs.length=n)(k:ts xs Z H R):AA K n ts (.ref a) Z H R:=⟨a,xs,rfl,h,hn,k⟩
theorem FH{gs:Sr}{r:List V}(h:g v Z H λσ' H'=>gs r σ' H' R):jm g gs (v::r) Z H R:=⟨v,r,rfl,h⟩
theorem PY(h:R Z H):C6 [] Z H R:=⟨rfl,h⟩
theorem PZ{b:ai}{zs:List V}(h:H l=some (.lst xs))(h':H b=some (.lst zs))(hl:xs.length+zs.length<=aY)(k:∀p,H p=none->Q (.ref p) (upd H p (.lst (xs++zs)))):fN (.ref l) (.ref b) H Q:=.inr ⟨l,b,xs,zs,rfl,rfl,h,h',hl,k⟩
theorem YX(k:Q (.int (if j<i then j else i)) H):EE [.int i,.int j] H Q:=⟨i,j,rfl,k⟩
theorem YY(k:Q (.int (if j>i then j else i)) H):HZ [.int i,.int j] H Q:=⟨i,j,rfl,k⟩
theorem P0{T:String}{t:ak}{b:Bool}(ty:vD K H x t)(e:lB K t (.type T)=some b)(k:Q (.bl b) H):PK K [x,.ty T] H Q:=⟨x,T,t,b,rfl,ty,e,k⟩
theorem vM{lo hi:Option Int}(h:c6 K H a xs)(k:∀p,H p=none->Q (.ref p) (upd H p (.lst (xH xs lo hi)))):qb K (.ref a) lo hi H Q:=⟨a,xs,rfl,h,k⟩
theorem P8{dx dy:PyData}(h1:Rep K H dx x)(h2:Rep K H dy y)(f1:uM dx)(f2:uM dy)(k:Q (.bl (dt dx dy)) H):kL K x y H Q:=.inr ⟨dx,dy,h1,h2,f1,f2,k⟩
theorem YZ{dx dy:PyData}(h1:Rep K H dx x)(h2:Rep K H dy y)(f1:uM dx)(f2:uM dy)(k:Q (.bl (!PyData.eqv dx dy)) H):HX K x y H Q:=.inr ⟨dx,dy,h1,h2,f1,f2,k⟩
theorem Ia(h1:Rep K H d x)(h2:Rep K H (.list ds) y)(f1:uM d)(f2:cm ds=true)(k:Q (.bl (!(ds.any λe=>dt e d))) H):oJ K true x y H Q:=.inl ⟨d,ds,h1,.inl h2,f1,f2,k⟩
theorem P9(h1:Rep K H d x)(h2:Rep K H (.list ds) y)(f1:uM d)(f2:cm ds=true)(k:Q (.bl (ds.any λe=>dt e d)) H):oJ K false x y H Q:=.inl ⟨d,ds,h1,.inl h2,f1,f2,k⟩
theorem Qa{kvs:List (dJ×V)}(h:H a=some (.dK kvs))(hl:kvs.length<aY)(k:(∃z,eD kvs (a9 i:dJ)=some z/\Q z H)\/(eD kvs (a9 i:dJ)=none/\Q v (upd H a (.dK (i7 kvs (a9 i) v))))):vL (.ref a) [.int i,v] H Q:=
 ⟨a,kvs,a9 i,v,rfl,rfl,h,hl,k⟩
theorem Y0{kvs:List (dJ×V)}(h:Rd H a (.dK kvs))(e:eD kvs (a9 i:dJ)=some v)(k:Q v H):cS K (.ref a) (.int i) H Q:=.inr ⟨a,v,rfl,.inl ⟨kvs,a9 i,h,rfl,e.symm⟩,k⟩
end
section
variable{K:aa}
theorem W4:lB K (.type "int") (.type "int")=some true:=by rfl
theorem W5:lB K (.type "int") (.type "bool")=some false:=by rfl
theorem W6:lB K (.type "bool") (.type "bool")=some true:=by rfl
end
theorem bU.cw(h:H l=none):bU H (upd H l o):=λb u e=>by rw[aF (aT e h)];exact e
def aV(c:ai)(H H':Hp):Prop:=∀b o,H b=some o->b≠c->H' b=some o
theorem aV.refl(c:ai)(H:Hp):aV c H H:=λ_ _ h _=>h
theorem aV.trans{H1 H2:Hp}(a:aV c H H1)(b:aV c H1 H2):aV c H H2:=λx o h n=>b x o (a x o h n) n
theorem aV.same{H':Hp}(e:bU H H'):aV c H H':=λb o h _=>e b o h
theorem aV.upd:aV c H (upd H c o):=λb u e n=>by rw[aF n];exact e
theorem fj{α:Type}{xs:List α}{j:Nat}{v:α}(hi:i=(j:Int))(h:xs[j]?=some v):Pr xs i=some v:=by subst hi;exact Tq h
theorem W7{j:Nat}(hi:i=(j:Int))(h:j<n):OT n i=some j:=by
 subst hi;unfold OT;rw[if_pos (by lia),if_pos (by lia)]
 rfl
theorem di(h:n<=m)(hm:m<=100000:=by decide):n<=aY:=bw h (bw hm (by rw[oR];decide))
theorem cZ(h:n<m)(hm:m<=100000:=by decide):n<aY:=br h (bw hm (by rw[oR];decide))
mutual
def nB:PyData->Bool
 | .int _=>true
 | .list xs=>jC xs
 | .tuple xs=>jC xs
 |_=>false
def jC:List PyData->Bool
 | []=>true
 |x::xs=>nB x && jC xs
end
mutual
theorem EG:∀d:PyData,nB d=true->d.canLay0=true
 | .int _,_=>by simp[ic]
 | .list xs,h=>by simp only[nB]at h;simp only[ic];exact fQ xs h
 | .tuple xs,h=>by simp only[nB]at h;simp only[ic];exact fQ xs h
 | .none,h=>by simp[nB]at h
 | .bool _,h=>by simp[nB]at h
 | .str _,h=>by simp[nB]at h
 | .dict _,h=>by simp[nB]at h
theorem fQ:∀ds:List PyData,jC ds=true->cm ds=true
 | [],_=>by simp[cm]
 |d::ds,h=>by simp only[jC,gp]at h;simp only[cm,gp];exact⟨EG d h.1,fQ ds h.2⟩
end
section
variable{K:aa}
theorem W8{kvs:List (dJ×V)}{R:Hp->Prop}(h:H a=some (.dK kvs))(hl:kvs.length<aY)(q:R (upd H a (.dK (i7 kvs (a9 i) v)))):qm (.ref a) (.int i) v H R:=
 .inr ⟨a,_,rfl,tw.k (k:=a9 i) h hl,q⟩
theorem Qb{kvs:List (dJ×V)}(h:H a=some (.dK kvs))(k:Q (.bl (!(eD kvs (a9 i:dJ)).isSome)) H):oJ K true (.int i) (.ref a) H Q:=.inr ⟨a,_,rfl,vf.k (k:=a9 i) h,k⟩
end
end L2
namespace L2
open PySem.Calls
open PySem.W (kla_fn kla_obj tabObj CodeHd)
variable{pos:xu}{H:Hp}{params:qB}{scope:qH}{X:Cx}
def Ib(Pt:ai)(H H':Hp):Prop:=∀b o,b≠Pt->H b=some o->H' b=some o
def L0(Pt:ai)(pos:xu)(qual:bF)(H:Hp):Prop:=
 H Pt=some (.tbl #[])\/∃c' oc vs t,H Pt=some (.tbl #[cD pos.line,cD pos.col,.ref c'])/\H c'=some (.frz oc (.ext λ_=>True))/\oc.data=.fields vs/\vs[1]?=some (qI qual t)
theorem L0.tbl{Pt:ai}{qual:bF}(h:L0 Pt pos qual H):∃ps,H Pt=some (.tbl ps):=by
 rcases h with h|⟨_,_,_,_,h,_⟩
 .exact ⟨_,h⟩
 .exact ⟨_,h⟩
section
variable{pins:List (ai×jv)}{Z:St}{s:aA}{c Pt:ai}
theorem Qc{E:ak->aA->Prop}{Q:ak->aA->Prop}{body:Expr}(I:Inv X pins Z H s)(hcode:X.env.code=.ref c)(C:mX X.base c Pt)(B:X.base.BuiltinsAt X.mg Pt)(hdef:defaultsOf params X.env=([],[]))(hfr:∀n,(n,bQ)∈scope.names->∃c,X.env.cells.lookup n=some c)(hT:L0 Pt pos (X.env.qual++"<lambda>") H)(h:∀f c' ctv h' tk H2,Inv X pins Z H2 { s with heap:=h',toks:=tk }->h'.get? f=some (xo "<lambda>" (X.env.qual++"<lambda>") params body scope (nX X.env.cells scope.names []) ((X.mg "__name__").getD .none) c' ctv)->h'.CodeRec (.ref c') (X.env.qual++"<lambda>") ->Ib Pt H H2->L0 Pt pos (X.env.qual++"<lambda>") H2->(∀b o,b≠Pt->s.heap.get? b=some o->h'.get? b=some o)->Q (.ref f) { s with heap:=h',toks:=tk }):aO (aR X.prog X.w) X.A (fz (.Lambda params body scope pos) X.env) Q E s:=by
 have hg:s.heap.Ns bV X.mg:=I.mod.glob.keeps I.bk;have C1:=C.keeps I.bk
 have B1:s.heap.BuiltinsAt X.mg Pt:=let ⟨bm,o,b1,b2,b3,b4,b5,b6⟩:=B;⟨bm,o,b1,b2,b3,b4,I.bk _ _ b5,b6⟩
 refine PySem.W.kla_eval hdef ?_
 rcases hT with hT|⟨c',oc,vs,t,hT,hc',hd,hv⟩
 .have hP:s.heap.get? Pt=some (J0 #[]):=I.fw Pt _ hT
  have hgP:bV≠Pt:=λq=>by obtain⟨o,es,ep,e,hd,_⟩:=hg;rw[q,hP]at e;cases e;cases hd
  refine PySem.W.kla_makeFunction (mg:=X.mg) (uL hfr) I.ok.glob hg hcode C1 hP trivial rfl hgP B1 λc' ctv h' tk hx hge hlt hrec htb=>?_;obtain⟨c₂,oc,vs,t,e2,hoc,hd,hv⟩:=id hrec;cases e2;have hn:H c'=none:=I.fw.fresh hge
  have ncP:c'≠Pt:=λq=>by rw[q,hT]at hn;cases hn
  have hL:X.env.locals≠Pt:=λq=>by have:=I.free;rw[q,hT]at this;cases this
  have k:∀b o,b≠Pt->s.heap.get? b=some o->(h'.push (xo "<lambda>" (X.env.qual++"<lambda>") params body scope (nX X.env.cells scope.names []) ((X.mg "__name__").getD .none) c' ctv)).get? b=some o:=λb o hb e=>ao _ (hx b o hb e);have hP':(h'.push (xo "<lambda>" (X.env.qual++"<lambda>") params body scope (nX X.env.cells scope.names []) ((X.mg "__name__").getD .none) c' ctv)).get? Pt=some (J0 #[cD pos.line,cD pos.col,.ref c']):=ao _ htb;have hoc':(h'.push (xo "<lambda>" (X.env.qual++"<lambda>") params body scope (nX X.env.cells scope.names []) ((X.mg "__name__").getD .none) c' ctv)).get? c'=some oc:=ao _ hoc;have hf:(h'.push (xo "<lambda>" (X.env.qual++"<lambda>") params body scope (nX X.env.cells scope.names []) ((X.mg "__name__").getD .none) c' ctv)).get? h'.objs.size=some (xo "<lambda>" (X.env.qual++"<lambda>") params body scope (nX X.env.cells scope.names []) ((X.mg "__name__").getD .none) c' ctv):=aM _ rfl;generalize h'.push (xo "<lambda>" (X.env.qual++"<lambda>") params body scope (nX X.env.cells scope.names []) ((X.mg "__name__").getD .none) c' ctv)=h2 at k hP' hoc' hf
  have st:∀b o,b≠Pt->H b=some o->upd (upd H Pt (.tbl #[cD pos.line,cD pos.col,.ref c'])) c' (.frz oc (.ext λ_=>True)) b=some o:=λb o hb e=>by rw[aF (aT e hn),aF hb];exact e
  refine h _ c' ctv h2 tk (upd (upd H Pt (.tbl #[cD pos.line,cD pos.col,.ref c'])) c' (.frz oc (.ext λ_=>True))) ?_ hf ⟨c',oc,vs,t,rfl,hoc',hd,hv⟩ st (.inr ⟨c',oc,vs,t,by rw[aF (Ne.symm ncP)];exact aC,aC,hd,hv⟩) k
  have nP:∀b,H b=none->b≠Pt:=λb e q=>by rw[q,hT]at e;cases e
  refine I.step (g':=s.gens) (d':=s.drawn) (ch:=[]) (λ_ z=>nomatch z) (λb o _ _ _ e n=>k b o (nP b n) e) (λb o _ _ _ e n=>⟨o.slots,k b o (nP b n) e⟩) (λb o _ e n=>?_) (λb o _ e=>?_) (λb xs e=>?_) (λb o u e=>?_)
   (λb ps e=>?_) (λm' hm'=>?_) (λb u e=>?_) I.bare
  .rw [aF (bg (br (aJ e) hge)),aF (nP b n)];exact n
  .by_cases hb:b=Pt
   .exact ⟨_,hb▸hP'⟩
   .exact ⟨o,k b o hb e⟩
  .exact st b _ (λq=>by rw[q,hT]at e;cases e) e
  .exact st b _ (λq=>by rw[q,hT]at e;cases e) e
  .by_cases hb:b=Pt
   .subst hb;rw[hT]at e;cases e;exact⟨#[cD pos.line,cD pos.col,.ref c'],by rw[aF (Ne.symm ncP),aC];simp⟩
   .exact ⟨#[],by rw[st b _ hb e];simp⟩
  .obtain ⟨o,es,ep,e,r⟩:=hm';exact⟨o,es,ep,k _ o hL e,r⟩
  .by_cases hb:b=c'
   .subst hb;rw[aC]at e;cases e;exact⟨hoc',trivial,⟨oc,hoc'⟩,λ_ _ _ _=>trivial⟩
   .rw [aF hb]at e
    by_cases hb2:b=Pt
    .subst hb2;rw[aC]at e;cases e;exact hP'
    .rw [aF hb2]at e;refine(I.fw b u e).zX (λd v hc q=>k d v ?_ q) (λd q=>st d _ (λz=>by rw[z,hT]at q;cases q) q) λd xs q=>st d _ (λz=>by rw[z,hT]at q;cases q) q;rintro rfl
     rcases hc with hc|hc
     .exact hb2 hc.symm
     .rw [hT]at hc;cases hc
 .have hP:s.heap.get? Pt=some (J0 #[cD pos.line,cD pos.col,.ref c']):=I.fw Pt _ hT;refine PySem.W.kla_makeFunctionHit (mg:=X.mg) (cv:=.ref c') (uL hfr) I.ok.glob hg hcode C1 hP (by simp[TriplesOk,cD]) (by simp[codeAmong,cD]) B1 λctv h' tk hk hsz=>?_;have k:∀b o,s.heap.get? b=some o->(h'.push (xo "<lambda>" (X.env.qual++"<lambda>") params body scope (nX X.env.cells scope.names []) ((X.mg "__name__").getD .none) c' ctv)).get? b=some o:=λb o e=>ao _ (hk b o e);refine h h'.objs.size c' ctv _ tk H (I.kept k) (aM _ rfl) ⟨c',oc,vs,t,rfl,k _ _ (I.fw c' _ hc').1,hd,hv⟩ (λ_ _ _ e=>e) (.inr ⟨c',oc,vs,t,hT,hc',hd,hv⟩) λb o _ e=>k b o e
end
section
variable{c Pt:ai}{e:Expr}{tx:TA}{x y:bF}{j:Nat}{p0 p1 p2 p3 lpos kpos:xu}
end
end L2
namespace L2
open PySem.Calls
open PySem.W (tabObj CodeHd noTabs tabIn)
end L2
namespace L2
theorem Nm.okC{P:bI}{w:cC}{K:aa}{mg:bF->Option ak}{base:cR}{x qual:bF}{st:dP}{f:ai}{fd:gG}{N ps:List bF}{k:Nat}{sp:Sp}{oF:ak}(F:Nm K x qual st f fd)(hc:fd.code=oF)(S:bO N ps (a0 st))(len:∀vs H Q E,sp vs H Q E->vs.length=ps.length)(hbody:∀(A:cT) (outer:List JW) (s:aA) (H:Hp) (vs:List V) (Q:VK) (E:XK),ij k (A.deeper (tH qual (a0 st) s.heap.objs.size f oF))->sp vs H Q E ->∃t,J9 (FB J8 P w K mg base N qual (a0 st) f oF A outer s H E).VQ (ka st) t/\t { nx:=λ_ H'=>Q .non H',rt:=Q } (start N vs) H):lN P w K mg base J8 (k+1) f fd ps sp:=by obtain⟨oc,od,kV,doc,pm,an,cdv',ct,osl,rfl,lk,hcd⟩:=F.ex;have e:cdv'=oF:=hc;subst e;refine UW lk hcd S len λA outer s H vs Q E hr hsp=>?_;obtain⟨t,h,q⟩:=hbody A outer s H vs Q E hr hsp;exact⟨t,h.VQ,q⟩
section
variable{K:aa}{Z:St}{H:Hp}{Q:VK}
theorem vN{σ0:St}{g:TG}{tt:TT}{te:TE}{z acc:ai}{xs:List V}{R:Hp->Prop}{α:Type}(items:List α)(p:α->Bool)(f:α->V)(S:St->Prop)(hlen:items.length=xs.length)(hz:c6 K H z xs)(ha:H acc=none)(s0:S σ0)(hs:xs.length<=100000)(turn:∀(i:Nat) (a:α) (x:V) (σ':St) (H':Hp) (G:V->St->Hp->Prop) (G':St->Hp->Prop),items[i]?=some a->xs[i]?=some x->bU H H'->S σ'->(p a=true->∀σ2,S σ2->G (f a) σ2 H')->(p a=false->∀σ2,S σ2->G' σ2 H') ->g x σ' H' λσ2 H3=>tt σ2 H3 λb H4=>if b=true then te σ2 H4 λy H5=>G y σ2 H5 else G' σ2 H4)(fin:∀H',bU H H'->H' acc=some (.lst ((items.filter p).map f))->R H'):∃W:Nat->Nat->List V->St->Hp->Prop,(∃m,W 0 m [] σ0 (upd H acc (.lst [])))/\∀i m ys σ' H',W i m ys σ' H'->H' acc=some (.lst ys) /\(((Ko K z).stop i H'/\R H')\/((Ko K z).go i H'/\∀x H2,(Ko K z).Md i H' x H2->g x σ' H2 λσ2 H3=>tt σ2 H3 λb H4 =>if b=true then te σ2 H4 λy H5=>H5 acc=some (.lst ys)/\ys.length<aY/\∃m',m'<m/\W (i+1) m' (ys++[y]) σ2 (upd H5 acc (.lst (ys++[y])))else∃m',m'<m/\W (i+1) m' ys σ2 H4)):=by
 refine kM (n:=xs.length) (λi ys H'=>ys=((items.take i).filter p).map f/\H' acc=some (.lst ys)/\bU H H') S ⟨by simp,aC,bU.cw ha⟩ s0 ?_ ?_ ?_ ?_
 .rintro i ys H' ⟨_,h,_⟩;exact h
 .rintro ys H' ⟨e,h,S'⟩;refine⟨⟨_,S'.seq hz,ay _⟩,fin H' S' ?_⟩;rw[h,e,bu (by lia)]
 .rintro i ys H' hi ⟨e,h,S'⟩;exact⟨_,_,S'.seq hz,aB hi⟩
 .rintro i ys σ' H' x H2 hi ⟨e,h,S'⟩ hσ ⟨e2,hx⟩;subst e2;have hxi:=hx _ (S'.seq hz)
  obtain⟨a,hai⟩:∃a,items[i]?=some a:=⟨_,aB (by lia)⟩
  have et:items.take (i+1)=items.take i++[a]:=by rw[cH,hai];rfl
  refine turn i a x σ' H2 _ _ hai hxi S' hσ (λhp σ2 h2=>?_) λhp σ2 h2=>?_
  .refine ⟨h,bx (m:=i) ?_ (br hi (di hs)),jH.mk' hi h2 ⟨?_,aC,λb o q=>by rw[aF (aT q ha)];exact S' _ _ q⟩⟩
   .rw [e,af];exact bw (b0 _ _) (by rw[bG];lia)
   .rw [et,e,cb,aH];simp[hp]
  .refine jH.mk' hi h2 ⟨?_,h,S'⟩;rw[et,e,cb,aH];simp[hp]
theorem nC:∀ns:List Int,jC (ns.map .int)=true
 | []=>rfl
 |n::ns=>by simp only[aZ,jC,gp];exact⟨by simp[nB],nC ns⟩
theorem uO:∀ns:List Int,cu (ns.map .int)<=1
 | []=>by simp[cu]
 |n::ns=>by
  have:=uO ns;simp only[aZ,cu]
  have e:(PyData.int n).depth<=1:=by simp[gA]
  lia
theorem vO{H:Hp}{a:ai}{ns:List Int}(h:c6 K H a (ns.map V.int)):Rep K H (.list (ns.map .int)) (.ref a):=.lst h (dY.ints ns)
end
end L2
namespace BootT
open PySem
theorem sum:dE "sum"=some (.builtin "sum"):=by decide +kernel
theorem zip:dE "zip"=some (.type "zip"):=by decide +kernel
theorem set:dE "set"=some (.type "set"):=by decide +kernel
end BootT
namespace L2
open PySem PySem.Spec PyProof.Rows PySem.SeqAt
section
variable{X:Cx}
def Qd(K:aa):V->List V->Hp->VK->Prop:=λx vs H Q=>∃(l:ai) (ns:List Int) (k:Int),x=.ref l/\vs=[.int k]/\c6 K H l (ns.map V.int)/\k∈ns/\Q (.int (ns.idxOf k:Nat)) H
theorem Qe:Su X "list.index" (Qd X.K):=by
 intro pins s Z H x vs v us Q I rx rv h;obtain⟨l,ns,k,rfl,rfl,hq,hk,q⟩:=h;cases rx;obtain⟨u,rfl,t,rfl⟩:=rv.one;obtain⟨its,r,pl,hz⟩:=I.list hq;have hi:eX its ns:=intsAre_of r;have hlen:=hi.length;have hl2:=r.length;have hj:ns.idxOf k<ns.length:=gF.mpr hk;have h63:=uI;rw[af]at hz hl2;obtain⟨⟨cls,dd,data,sl⟩,ho,hc,n,hd⟩:=pl.isList;simp only at hc hd;subst hc hd
 refine call_meets gJ ⟨_,ho,rfl⟩ Hh (Fo _ _)
  (list_indexAt l its.toArray n dd sl (.int k t) (isInt k) (ns.idxOf k) (by rw[aQ];lia) (by lia) ?_ ?_) ⟨ho,λy hy=>(eq_isInt k t hi y (by simpa using hy)).at _ _,⟨.int _,H,I.tok _,⟨_,rfl⟩,q⟩⟩
 .show isInt k its[ns.idxOf k]=true
  rw[isInt_at k hi _ (by lia) hj]
  simpa using zt hj
 .intro j hjs hlt
  show isInt k its[j]=false
  rw[isInt_at k hi j (by simpa using hjs) (by lia)];exact ne_of_lt_idxOf hlt _
def MF(K:aa):V->List V->Hp->VK->Prop:=λx vs H Q=>∃(l:ai) (y:V) (ds:List PyData) (d:PyData) (j:Nat) (ej:PyData),x=.ref l/\vs=[y]/\Rep K H (.list ds) (.ref l)/\Rep K H d y/\uM d/\cm ds=true /\ds.length<=aY/\ds[j]?=some ej/\dt ej d=true/\(∀m e,m<j->ds[m]?=some e->dt e d=false)/\Q (.int (j:Nat)) H
theorem NY(hu:X.A.units+64<iQ):Su X "list.index" (MF X.K):=by
 intro pins s Z H x vs v us Q I rx rv h;obtain⟨l,y,ds,d,j,ej,rfl,rfl,hR,hd,hf,hc,hz,hj,he,hno,q⟩:=h;cases rx;obtain⟨u,rfl,ru⟩:=rv.one;obtain⟨as,r1⟩:=Rep.reads I _ _ _ hR rfl;obtain⟨bs,r2⟩:=Rep.reads I d y u hd ru;have h63:=uI;have hdep:=hf.dep;have hjl:j<ds.length:=(av.mp hj).1
 cases r1 with
 |@list _ o items n _ as2 h1 h2 h3 h4=>
  obtain⟨cls,dd,data,sl⟩:=o;have h2':cls=_:=h2;have h3':data=_:=h3;subst h2' h3';have hm:=readsAll_map _ _ _ hc h4
  have hsz:items.size=ds.length:=by rw[← hm,af,aS]
  have at_:∀(m:Nat) (hm':m<items.size) (e:PyData),ds[m]?=some e->readOf s.heap items[m]=e:=λm hm' e z=>by rw[← hm,aG,dk,cg hm']at z;exact aX z
  refine call_meets gJ ⟨_,h1,rfl⟩ Hh (Fo _ _)
   (list_indexAt l items n dd sl u (λy=>dt (readOf s.heap y) d) j (by lia) (by lia) ?_ ?_) ⟨h1,items_eqAt h4 r2 hc hf.lay (by lia),⟨.int _,H,I.tok _,⟨_,rfl⟩,q⟩⟩
  .show dt (readOf s.heap items[j]) d=true
   rw[at_ j (by lia) _ hj];exact he
  .intro m hm' hlt
   obtain⟨e,z⟩:∃e,ds[m]?=some e:=⟨_,aB (by lia)⟩
   show dt (readOf s.heap items[m]) d=false
   rw[at_ m hm' e z];exact hno m e hlt z
theorem Su.or{id:String}{r r':V->List V->Hp->VK->Prop}(h:Su X id r)(h':Su X id r'):Su X id (λx vs H Q=>r x vs H Q\/r' x vs H Q):=by
 intro pins s Z H x vs v us Q I rx rv z
 rcases z with z|z
 .exact h pins s Z H x vs v us Q I rx rv z
 .exact h' pins s Z H x vs v us Q I rx rv z
def qc(K:aa):V->List V->Hp->VK->Prop:=λx vs H Q=>Qd K x vs H Q\/MF K x vs H Q
theorem sH(hu:X.A.units+64<iQ):Su X "list.index" (qc X.K):=Qe.or (NY hu)
variable{tg:Expr}
theorem MG{K:aa}{l:ai}{ns:List Int}{k:Int}{H:Hp}{Q:VK}(h:c6 K H l (ns.map V.int))(hk:k∈ns)(q:Q (.int (ns.idxOf k:Nat)) H):qc K (.ref l) [.int k] H Q:=.inl ⟨l,ns,k,rfl,rfl,h,hk,q⟩
end
end L2
namespace L2
variable{v:Int}{σ0:St}{g:TG}{te:TE}{acc:ai}{R:Hp->Prop}{xs:List V}{H:Hp}{Q:VK}
section
variable{K:aa}{a:ai}{ns:List Int}{i i':Int}{j j':Nat}
theorem FI{n d:Nat}(h:i=(j:Int)):HT.Hs n d (some i)=min j n:=by subst h;exact HT.Tn n d j
theorem Ic(h:i=(j:Int)):xH xs (some i) none=xs.drop j:=by
 unfold xH;rw[FI h,HT.HL]
 by_cases e:j<=xs.length
 .rw [uE e,bu (by rw[cW];lia)]
 .rw [Ej (by lia),lV (ay _),lV (by lia)];simp
theorem FJ(h:i=(j:Int)):xH xs none (some i)=xs.take j:=by
 unfold xH;rw[FI h,HT.HL,Hu,Nat.sub_zero]
 by_cases e:j<=xs.length
 .rw [uE e]
 .rw [Ej (by lia),bu (ay _),bu (by lia)]
theorem FK(h:i=(j:Int))(h':i'=(j':Int)):xH xs (some i) (some i')=(xs.drop j).take (j'-j):=by
 unfold xH;rw[FI h,FI h']
 by_cases e:j<=xs.length
 .rw [uE e]
  by_cases e':j'<=xs.length
  .rw [uE e']
  .rw [Ej (by lia),bu (by rw[cW];lia),bu (by rw[cW];lia)]
 .rw [lV (show xs.length<=min j xs.length by lia),lV (show xs.length<=j by lia)];simp
theorem vP(h:c6 K H a (ns.map V.int))(e:i=(j:Int))(k:∀p,H p=none->Q (.ref p) (upd H p (.lst ((ns.drop j).map V.int)))):qb K (.ref a) (some i) none H Q:=
 vM h λp hp=>by rw[Ic e,← qD];exact k p hp
theorem Qg(h:c6 K H a (ns.map V.int))(e:i=(j:Int))(k:∀p,H p=none->Q (.ref p) (upd H p (.lst ((ns.take j).map V.int)))):qb K (.ref a) none (some i) H Q:=
 vM h λp hp=>by rw[FJ e,← kF];exact k p hp
theorem MH(h:c6 K H a (ns.map V.int))(e:i=(j:Int))(e':i'=(j':Int))(k:∀p,H p=none->Q (.ref p) (upd H p (.lst (((ns.drop j).take (j'-j)).map V.int)))):qb K (.ref a) (some i) (some i') H Q:=
 vM h λp hp=>by rw[FK e e',← qD,← kF];exact k p hp
theorem FL{l b:ai}{ms:List Int}(h:H l=some (.lst (ns.map V.int)))(h':H b=some (.lst (ms.map V.int)))(hl:ns.length+ms.length<=100000)(k:∀p,H p=none->Q (.ref p) (upd H p (.lst ((ns++ms).map V.int)))):fN (.ref l) (.ref b) H Q:=
 PZ h h' (by rw[af,af];exact di hl) λp hp=>by rw[← aH];exact k p hp
theorem TF{j:Nat}(h:ns[j]?=some v):(ns.map V.int)[j]?=some (.int v):=by rw[aG,h];rfl
theorem MI(h:c6 K H a (ns.map V.int))(e:i=(j:Int))(g:ns[j]?=some v)(k:Q (.int v) H):cS K (.ref a) (.int i) H Q:=nz h (fj e (TF g)) k
theorem AV(h:c6 K H a (ns.map V.int))(k:Q (.int ns.length) H):sW K [.ref a] H Q:=uN h (by rw[af];exact k)
end
section
variable{K:aa}{Z:St}
theorem Qh{J:It}{n:Nat}(E:Nat->V->Hp->Prop)(X:Nat->V->Prop)(S:St->Prop)(ha:H acc=none)(s0:S σ0)(hn:n<=100000)(hgo:∀i H',bU H H'->i<n->J.go i H')(hstop:∀H',bU H H'->J.stop n H')(hy:∀i H' x H2,bU H H'->i<n->J.Md i H' x H2->H2=H'/\X i x)(st:∀i y H1 H2 zs,H1 acc=some (.lst zs)->aV acc H1 H2->E i y H1->E i y H2)(turn:∀(i:Nat) (x:V) (σ':St) (H':Hp) (G:V->St->Hp->Prop),i<n->X i x->bU H H'->S σ'->(∀y σ2 H5,S σ2->bU H' H5->E i y H5->G y σ2 H5)->g x σ' H' λσ2 H3=>te σ2 H3 λy H5=>G y σ2 H5)(fin:∀ys H',ys.length=n->H' acc=some (.lst ys)->bU H H'->(∀i y,ys[i]?=some y->E i y H')->R H'):∃W:Nat->Nat->List V->St->Hp->Prop,(∃m,W 0 m [] σ0 (upd H acc (.lst [])))/\∀i m ys σ' H',W i m ys σ' H'->H' acc=some (.lst ys) /\((J.stop i H'/\R H')\/(J.go i H'/\∀x H2,J.Md i H' x H2->g x σ' H2 λσ2 H3=>vH σ2 H3 λb H4 =>if b=true then te σ2 H4 λy H5=>H5 acc=some (.lst ys)/\ys.length<aY/\∃m',m'<m/\W (i+1) m' (ys++[y]) σ2 (upd H5 acc (.lst (ys++[y])))else∃m',m'<m/\W (i+1) m' ys σ2 H4)):=by
 refine kM (n:=n) (tt:=vH) (λi ys H'=>ys.length=i/\H' acc=some (.lst ys)/\bU H H'/\∀j y,ys[j]?=some y->E j y H') S ⟨rfl,aC,bU.cw ha,λj y e=>by simp at e⟩ s0 ?_ ?_ ?_ ?_
 .rintro i ys H' ⟨_,h,_⟩;exact h
 .rintro ys H' ⟨e,h,S',hE⟩;exact⟨hstop H' S',fin ys H' e h S' hE⟩
 .rintro i ys H' hi ⟨e,h,S',hE⟩;exact hgo i H' S' hi
 .rintro i ys σ' H' x H2 hi ⟨e,h,S',hE⟩ hσ hyl;obtain⟨rfl,hX⟩:=hy i H' x H2 S' hi hyl;have z:=turn i x σ' H2 (λy σ2 H5=>H5 acc=some (.lst ys)/\ys.length<aY/\∃m',m'<n-i/\jH n (i+1) S (λys H'=>ys.length=i+1/\H' acc=some (.lst ys)/\bU H H'/\∀j y,ys[j]?=some y->E j y H') m' (ys++[y]) σ2 (upd H5 acc (.lst (ys++[y])))) hi hX S' hσ ?_
  .exact z
  .intro y σ2 H5 h2 S5 hE5;refine⟨S5 _ _ h,cZ (m:=100000) (by lia),jH.mk' hi h2 ⟨by rw[bj,e];rfl,aC,λb o q=>by rw[aF (aT q ha)];exact S5 _ _ (S' _ _ q),λj v hv=>?_⟩⟩;have hb:aV acc H5 (upd H5 acc (.lst (ys++[y]))):=aV.upd
   by_cases hj:j<ys.length
   .rw [eI hj]at hv;exact st j v _ _ _ (S5 _ _ h) hb (st j v _ _ _ h (aV.same S5) (hE j v hv))
   .rw [d7 (by lia)]at hv
    have ej:j=i:=by
     by_cases z:j-ys.length=0
     .lia
     .rw [dm (by simp;lia)]at hv;cases hv
    subst ej;rw[e,Nat.sub_self]at hv
    have ev:y=v:=by simpa using hv
    subst ev;exact st j y _ _ _ (S5 _ _ h) hb hE5
theorem Qi{z:ai}(E:Nat->V->Hp->Prop)(S:St->Prop)(hz:c6 K H z xs)(ha:H acc=none)(s0:S σ0)(hn:xs.length<=100000)(st:∀i y H1 H2 zs,H1 acc=some (.lst zs)->aV acc H1 H2->E i y H1->E i y H2)(turn:∀(i:Nat) (x:V) (σ':St) (H':Hp) (G:V->St->Hp->Prop),i<xs.length->xs[i]?=some x->bU H H'->S σ'->(∀y σ2 H5,S σ2->bU H' H5->E i y H5->G y σ2 H5)->g x σ' H' λσ2 H3=>te σ2 H3 λy H5=>G y σ2 H5)(fin:∀ys H',ys.length=xs.length->H' acc=some (.lst ys)->bU H H'->(∀i y,ys[i]?=some y->E i y H')->R H'):∃W:Nat->Nat->List V->St->Hp->Prop,(∃m,W 0 m [] σ0 (upd H acc (.lst [])))/\∀i m ys σ' H',W i m ys σ' H'->H' acc=some (.lst ys) /\(((Ko K z).stop i H'/\R H')\/((Ko K z).go i H'/\∀x H2,(Ko K z).Md i H' x H2->g x σ' H2 λσ2 H3=>vH σ2 H3 λb H4 =>if b=true then te σ2 H4 λy H5=>H5 acc=some (.lst ys)/\ys.length<aY/\∃m',m'<m/\W (i+1) m' (ys++[y]) σ2 (upd H5 acc (.lst (ys++[y])))else∃m',m'<m/\W (i+1) m' ys σ2 H4)):=
 Qh E (λi x=>xs[i]?=some x) S ha s0 hn (λi H' S' h=>⟨xs,_,S'.seq hz,aB h⟩) (λH' S'=>⟨xs,S'.seq hz,ay _⟩) (λi H' x H2 S' _ h=>⟨h.1,h.2 xs (S'.seq hz)⟩) st turn fin
end
end L2
namespace Sx
open PySem.W
variable{n:Nat}{k:Nat->Int}
end Sx
namespace L2
open PySem.W
variable{X:Cx}{h:cR}{a:ai}{m:bF->Option ak}{w:cC}{H:Hp}{o:HO}{s:aA}
theorem W9{m':bF->Option ak}(x:h.Ns a m)(y:h.Ns a m'):m=m':=by
 obtain⟨o,es,ep,e,d,_,r⟩:=x;obtain⟨o',es',ep',e',d',_,r'⟩:=y;rw[e]at e';cases e';rw[d]at d';cases d'
 funext n
 rw[← r n,← r' n]
theorem fv.obj{P:bI}(x:fv P w H h a o):∃ob,h.get? a=some ob:=by
 cases o with
 |lst xs=>obtain⟨_,_,_,_,e⟩:=x;exact⟨_,e⟩
 |tup xs=>obtain⟨_,_,_,ob,e,_⟩:=x;exact⟨_,e⟩
 |dK kvs=>obtain⟨_,_,_,_,ob,_,_,e,_⟩:=x;exact⟨_,e⟩
 |dT kvs=>obtain⟨_,_,_,_,ob,_,_,e,_⟩:=x;exact⟨_,e⟩
 |set S n=>obtain⟨ob,_,_,_,e,_⟩:=x;exact⟨_,e⟩
 |ins C dx fs=>obtain⟨_,_,_,e,_⟩:=x;exact⟨_,e⟩
 |own y=>exact x
 |xd fs=>obtain⟨_,⟨ob,_,_,e,_⟩,_⟩:=x;exact⟨_,e⟩
 |rng lo hi=>obtain⟨_,_,_,e⟩:=x;exact⟨_,e⟩
 |frz ob u=>exact⟨_,x.1⟩
 |tbl ps=>exact⟨_,x⟩
 |met f y=>exact⟨_,x⟩
 |ext φ=>exact x.2.1
section
variable{pins:List (ai×jv)}{Z:St}
theorem Inv.RY{h':cR}{t':Nat}{D:ai}{ob:jv}(I:Inv X pins Z H s)(hm:s.heap.Ns X.env.locals m)(F:Fr X.base X.env.locals h' m)(N:News X.base X.env.locals h' ((D,ob)::sC X.base s.heap X.env.locals))(hD:∀q∈sC X.base s.heap X.env.locals,q.1<D)(new:fv X.prog X.w (upd H D o) h' D o):H D=none/\Inv X pins Z (upd H D o) { s with heap:=h',toks:=t' }:=by
 have nd:=N (D,ob) aj
 have gD:s.heap.get? D=none:=by
  cases q:s.heap.get? D with
  |none=>rfl
  |some u=>exact absurd (hD (D,u) (yD nd.2.1 nd.2.2 q)) (e9 _)
 have hn:H D=none:=by
  cases q:H D with
  |none=>rfl
  |some u=>
   obtain⟨w,e⟩:∃w,s.heap.get? D=some w:=(I.fw D u q).obj;rw[gD]at e;cases e
 have k:∀b o,b≠X.env.locals->s.heap.get? b=some o->h'.get? b=some o:=λb o h1 e=>by
  cases q:X.base.get? b with
  |some u=>
   have z:=I.bk b u q;rw[e]at z;cases z
   exact F.keep b _ q
  |none=>exact(N (b,o) (ag _ (yD h1 q e))).1
 have nD:∀b o,s.heap.get? b=some o->b≠D:=λb o e z=>by rw[z,gD]at e;cases e
 have hH:∀b u,H b=some u->b≠D:=λb u e=>aT e hn
 refine⟨hn,I.step (g':=s.gens) (d':=s.drawn) (ch:=[]) (λ_ z=>nomatch z) (λb o h1 _ _ e _=>k b o h1 e) (λb o h1 _ _ e _=>⟨o.slots,k b o h1 e⟩) (λb o _ e n=>by rw[aF (nD b o e)];exact n) (λb o _ e=>?_)
  (λb _ e=>by rw[aF (hH b _ e)];exact e) (λb _ _ e=>by rw[aF (hH b _ e)];exact e) (λb ps e=>⟨#[],by rw[aF (hH b _ e),e];simp⟩) (λm' hm'=>by rw[← W9 hm hm'];exact F.ns) (λb u e=>?_) I.bare⟩
 .by_cases hb:b=X.env.locals
  .subst hb;obtain⟨o',_,_,e',_⟩:=F.ns;exact⟨o',e'⟩
  .exact ⟨o,k b o hb e⟩
 .by_cases hb:b=D
  .subst hb;rw[aC]at e;cases e;exact new
  .rw [aF hb]at e
   refine(I.fw b u e).zX (λc v hc q=>k c v ?_ q) (λc q=>by rw[aF (hH c _ q)];exact q) λc _ q=>by rw[aF (hH c _ q)];exact q
   rintro rfl
   rcases hc with hc|hc
   .rw [← hc,I.free]at e;cases e
   .rw [I.free]at hc;cases hc
end
theorem Ie{α:Type}{p q:α->Bool}:∀{l:List α}{x:α},(∀y∈l,p y=true->q y=true)->x∈l->p x=false->q x=true->l.countP p<l.countP q
 |y::l,x,h,hx,h1,h2=>by
  have hl:∀y∈l,p y=true->q y=true:=λy hy=>h y (ag _ hy);have hle:l.countP p<=l.countP q:=OI hl;rw[VX,VX]
  rcases aw.mp hx with e|hx
  .subst e;rw[h1,h2];simp;lia
  .have hlt:=Ie hl hx h1 h2
   by_cases hp:p y=true
   .rw [if_pos hp,if_pos (h y aj hp)];lia
   .rw [if_neg hp];lia
abbrev Zt:=Int×Int×ai
def zP(z:Zt):Int×Int:=(z.1,z.2.1)
def jD(z:Zt):V:=.ref z.2.2
def ff(H:Hp)(z:Zt):Prop:=H z.2.2=some (.tup [.int z.1,.int z.2.1])
section
variable{prog:bI}{A:cT}
end
theorem EH:∀zs:List Zt,Vals (zs.map jD) (zs.map λz=>aD z.2.2)
 | []=>.nil
 |z::zs=>.cons rfl (EH zs)
end L2
namespace Zl
open PySem.W
variable{T S:ai}{f:Bool}{oT:jv}{n:Nat}{Q:Bool->aA->Prop}{R:JY->aA->Prop}
section
variable{prog:bI}{w:cC}{A:cT}{E:ak->aA->Prop}{s:aA}{z TI TO i1 i2 l1 l2:ai}{xs ys:Array ak}{k:Nat}
abbrev AW(h:cR)(z TI TO T:ai)(f:Bool):Prop:=h.get? z=some { cls:=.type "zip",dict:=none,data:=.fields #[cD T,.bool f,.bool false,.ref TI,.ref TO],slots:=#[] }
theorem Ig(hz:AW s.heap z TI TO T f)(hT:s.heap.get? T=some oT)(hQ:∀h',AW h' z TI TO T true->ia z s.heap h'->Q false { s with heap:=h' }):aO (aR prog w) A (gb (.ref z)) Q E s:=by
 unfold gb;refine ae (sO hz rfl (x:=cD T) rfl ?_);unfold cD;dsimp only;refine ae (kdx_alive (a:=T) hT ?_);simp only[O0,bN,if_false];refine ae (sO hz rfl (x:=.bool f) rfl ?_)
 cases f with
 |true=>
  rw[if_neg (by decide)]
  exact ar (hQ s.heap hz ⟨rfl,λb hb=>rfl⟩)
 |false=>
  rw[if_pos (by decide)];exact ae (wpAny_setField_rec hz (by simp) λh' hz' hs'=>ar (hQ h' hz' hs'))
theorem Qj{x y:ak}{Q:ak->aA->Prop}(D:z7 z TI TO i1 i2 l1 l2)(hz:AW s.heap z TI TO T f)(hT:s.heap.get? T=some oT)(hTI:tJ s.heap TI (.ref i1) (.ref i2))(h1:s.heap.IsListIter i1 l1 k)(h2:s.heap.IsListIter i2 l2 k)(hl1:s.heap.IsList l1 xs)(hl2:s.heap.IsList l2 ys)(hx:xs[k]?=some x)(hy:ys[k]?=some y)(hQ:∀h',AW h' z TI TO T true->h'.IsListIter i1 l1 (k+1)->h'.IsListIter i2 l2 (k+1)->tJ h' s.heap.objs.size x y ->(∀c o,c≠z->c≠i1->c≠i2->s.heap.get? c=some o->h'.get? c=some o)->Q (.ref s.heap.objs.size) { s with heap:=h' }):aO (aR prog w) A (jt.«zip.__next__» ⟨[.ref z],[]⟩) (λfin s'=>∃v,fin=.done (.ret v)/\Q v s') E s:=by
 show aO _ _ (field (.ref z) 2 >>= _) _ _ _
 refine ae (sO hz rfl (x:=.bool false) rfl ?_)
 show aO _ _ (field (.ref z) 3 >>= _) _ _ _
 refine ae (sO hz rfl (x:=.ref TI) rfl (ae (wpAny_seqItems hTI rfl ?_)))
 show aO _ _ (gb (.ref z) >>= _) _ _ _
 refine ae (Ig hz hT λh₀ z₀ s₀=>?_);simp only[bN,if_false];refine ae ?_;rw[← Sh];simp only[tI,Hv];refine ae (ae (cJ ?_))
 show aO _ _ (jg (.ref i1) >>= _) _ _ _
 refine ae (xp (s:={ s with heap:=h₀ }) (h1.extBut s₀.extBut D.i1z) (hl1.extBut s₀.extBut D.l1z) hx λh₁ j₁ s₁=>ar (ar ?_));refine ae (ae (cJ ?_))
 show aO _ _ (jg (.ref i2) >>= _) _ _ _
 refine ae (xp (s:={ s with heap:=h₁ }) ((h2.extBut s₀.extBut D.i2z).extBut s₁.extBut D.i12.symm) ((hl2.extBut s₀.extBut D.l2z).extBut s₁.extBut D.l2i1) hy λh₂ j₂ s₂=>ar (ar (ar ?_)))
 have sz:h₂.objs.size=s.heap.objs.size:=by rw[s₂.1,s₁.1,s₀.1]
 have zz:AW h₂ z TI TO T true:=s₂.extBut _ _ D.i2z.symm (s₁.extBut _ _ D.i1z.symm z₀);have kp:∀c o,c≠z->c≠i1->c≠i2->s.heap.get? c=some o->h₂.get? c=some o:=λc o c1 c2 c3 e=>s₂.extBut _ _ c3 (s₁.extBut _ _ c2 (s₀.extBut _ _ c1 e));refine ae (z8 ?_ (by show 2<=aY;exact L2.di (m:=2) (ay 2)));refine ar ⟨_,rfl,?_⟩
 show Q (.ref h₂.objs.size) { s with heap:=h₂.push { cls:=.type "tuple",data:=.seq #[x,y] } }
 rw[sz];refine hQ _ (ao _ zz) ((Heap.IsListIter.extBut j₁ s₂.extBut D.i12).at λo e=>ao _ e) (j₂.at λo e=>ao _ e) (by rw[← sz];exact aM _ rfl) λc o c1 c2 c3 e=>ao _ (kp c o c1 c2 c3 e)
theorem TH{Q:Kd->aA->Prop}(hh:A.handled=none)(D:z7 z TI TO i1 i2 l1 l2)(hz:AW s.heap z TI TO T f)(hT:s.heap.get? T=some oT)(hTI:tJ s.heap TI (.ref i1) (.ref i2))(h1:s.heap.IsListIter i1 l1 k)(h2:s.heap.IsListIter i2 l2 k)(hl1:s.heap.IsList l1 xs)(hl2:s.heap.IsList l2 ys)(hend:xs[k]?=none\/ys[k]?=none)(hE:∀h' e,(∀c o,c≠z->c≠i1->c≠i2->s.heap.get? c=some o->h'.get? c=some o)->(∃o,h'.get? e=some o/\o.cls=.type "StopIteration")->E (.ref e) { s with heap:=h' }):aO (aR prog w) A (jt.«zip.__next__» ⟨[.ref z],[]⟩) Q E s:=by
 show aO _ _ (field (.ref z) 2 >>= _) _ _ _
 refine ae (sO hz rfl (x:=.bool false) rfl ?_)
 show aO _ _ (field (.ref z) 3 >>= _) _ _ _
 refine ae (sO hz rfl (x:=.ref TI) rfl (ae (wpAny_seqItems hTI rfl ?_)))
 show aO _ _ (gb (.ref z) >>= _) _ _ _
 refine ae (Ig hz hT λh₀ z₀ s₀=>?_);simp only[bN,if_false];refine ae ?_;rw[← Sh];simp only[tI,Hv];refine ae (ae (cJ ?_))
 show aO _ _ (jg (.ref i1) >>= _) _ _ _
 cases hx:xs[k]? with
 |none=>exact ae (VY (s:={ s with heap:=h₀ }) hh (h1.extBut s₀.extBut D.i1z) (hl1.extBut s₀.extBut D.l1z) hx λh₁ e s₁ he=>hE h₁ e (λc o c1 c2 c3 q=>s₁ _ _ c2 (s₀.extBut _ _ c1 q)) he)
 |some x=>
  have hy:ys[k]?=none:=by rcases hend with q|q;rw[hx]at q;cases q;exact q
  refine ae (xp (s:={ s with heap:=h₀ }) (h1.extBut s₀.extBut D.i1z) (hl1.extBut s₀.extBut D.l1z) hx λh₁ j₁ s₁=>ar (ar ?_));refine ae (ae (cJ ?_))
  show aO _ _ (jg (.ref i2) >>= _) _ _ _
  exact ae (VY (s:={ s with heap:=h₁ }) hh ((h2.extBut s₀.extBut D.i2z).extBut s₁.extBut D.i12.symm) ((hl2.extBut s₀.extBut D.l2z).extBut s₁.extBut D.l2i1) hy λh₂ e s₂ he =>hE h₂ e (λc o c1 c2 c3 q=>s₂ _ _ c3 (s₁.extBut _ _ c2 (s₀.extBut _ _ c1 q))) he)
structure ZS(h:cR)(z TI TO i1 i2 l1 l2 S:ai)(xs ys:Array ak)(k:Nat):Prop where
 zz:(k=0/\IsZip h z TI TO .none/\∃a b,tJ h TO a b)\/∃T f oT,AW h z TI TO T f/\h.get? T=some oT/\T≠z/\T≠i1/\T≠i2/\T≠S
 ti:tJ h TI (.ref i1) (.ref i2)
 a1:h.IsListIter i1 l1 k
 a2:h.IsListIter i2 l2 k
 b1:h.IsList l1 xs
 b2:h.IsList l2 ys
structure Off(z TI TO i1 i2 l1 l2 S:ai):Prop where
 z:z≠S
 ti:TI≠S
 to:TO≠S
 i1:i1≠S
 i2:i2≠S
 l1:l1≠S
 l2:l2≠S
theorem ZS.keep{h h':cR}(x:ZS h z TI TO i1 i2 l1 l2 S xs ys k)(O:Off z TI TO i1 i2 l1 l2 S)(hk:∀b o,b≠S->h.get? b=some o->h'.get? b=some o):ZS h' z TI TO i1 i2 l1 l2 S xs ys k where
 zz:=by
  rcases x.zz with⟨e,hz,a,b,hp⟩|⟨T,f,oT,hz,hT,n1,n2,n3,n4⟩
  .exact .inl ⟨e,hk _ _ O.z hz,a,b,hk _ _ O.to hp⟩
  .exact .inr ⟨T,f,oT,hk _ _ O.z hz,hk _ _ n4 hT,n1,n2,n3,n4⟩
 ti:=hk _ _ O.ti x.ti
 a1:=x.a1.at λo e=>hk _ o O.i1 e
 a2:=x.a2.at λo e=>hk _ o O.i2 e
 b1:=x.b1.at λo e=>hk _ o O.l1 e
 b2:=x.b2.at λo e=>hk _ o O.l2 e
theorem ZS.item{x y:ak}{Q:Option ak->aA->Prop}(D:z7 z TI TO i1 i2 l1 l2)(st:ZS s.heap z TI TO i1 i2 l1 l2 S xs ys k)(hS:S<s.heap.objs.size)(hx:xs[k]?=some x)(hy:ys[k]?=some y)(hQ:∀h',ZS h' z TI TO i1 i2 l1 l2 S xs ys (k+1)->tJ h' s.heap.objs.size x y->(∀c o,c≠z->c≠TO->c≠i1->c≠i2->s.heap.get? c=some o->h'.get? c=some o)->Q (some (.ref s.heap.objs.size)) { s with heap:=h' }):aO (aR prog w) A (je (.ref z)) Q E s:=by
 have ZZ:i1<s.heap.objs.size:=by obtain⟨_,e,_⟩:=st.a1;exact aJ e
 have lt2:i2<s.heap.objs.size:=by obtain⟨_,e,_⟩:=st.a2;exact aJ e
 rcases st.zz with⟨e,hz,a,b,hp⟩|⟨T,f,oT,hz,hT,n1,n2,n3,n4⟩
 .refine wpAny_pyNext_zip_item D hz st.ti hp st.a1 st.a2 st.b1 st.b2 hx hy λh' q1 q2 q3 q4 q5 q6 q7=>?_;refine hQ h' ⟨.inr ⟨_,false,_,q1,q5,dG (aJ hz),dG ZZ,dG lt2,dG hS⟩,q7 _ _ D.TIz D.TITO D.TIi1 D.TIi2 st.ti,q3,q4,st.b1.at λo e=>q7 _ o D.l1z D.l1TO D.l1i1 D.l1i2 e,st.b2.at λo e=>q7 _ o D.l2z D.l2TO D.l2i1 D.l2i2 e⟩ q5 q7
 .have ty:s.TypeIs (.ref z) "zip":=⟨_,hz,rfl⟩
  unfold je
  refine ae (iC (d8 (name:=iP "__next__") ty F.slot_zip_next (de F.slot_zip_next ty F.entry_zip_next
   (Qj D hz hT st.ti st.a1 st.a2 st.b1 st.b2 hx hy λh' q1 q3 q4 q5 q7=>ar ?_) (F.args_zip_next_1 _))))
  refine hQ h' ⟨.inr ⟨T,true,oT,q1,q7 _ _ n1 n2 n3 hT,n1,n2,n3,n4⟩,q7 _ _ D.TIz D.TIi1 D.TIi2 st.ti,q3,q4,st.b1.at λo e=>q7 _ o D.l1z D.l1i1 D.l1i2 e,st.b2.at λo e=>q7 _ o D.l2z D.l2i1 D.l2i2 e⟩ q5 λc o c1 _ c3 c4 e=>q7 c o c1 c3 c4 e
theorem ZS.done{Q:Option ak->aA->Prop}(hh:A.handled=none)(D:z7 z TI TO i1 i2 l1 l2)(st:ZS s.heap z TI TO i1 i2 l1 l2 S xs ys k)(hend:xs[k]?=none\/ys[k]?=none)(hQ:∀h',(∀c o,c≠z->c≠TO->c≠i1->c≠i2->s.heap.get? c=some o->h'.get? c=some o)->Q none { s with heap:=h' }):aO (aR prog w) A (je (.ref z)) Q E s:=by
 rcases st.zz with⟨e,hz,a,b,hp⟩|⟨T,f,oT,hz,hT,n1,n2,n3,n4⟩
 .exact wpAny_pyNext_zip_end hh D hz st.ti hp st.a1 st.a2 st.b1 st.b2 hend hQ
 .have ty:s.TypeIs (.ref z) "zip":=⟨_,hz,rfl⟩
  unfold je
  refine ae (iC (d8 (name:=iP "__next__") ty F.slot_zip_next (de F.slot_zip_next ty F.entry_zip_next
   (TH hh D hz hT st.ti st.a1 st.a2 st.b1 st.b2 hend λh' e hk he=>?_) (F.args_zip_next_1 _))))
  obtain⟨o,ho,hc⟩:=he;exact ae (lg (T:="StopIteration") (b:=true) ⟨o,ho,hc⟩ z9 (ar (hQ _ λc o c1 _ c3 c4 q=>hk c o c1 c3 c4 q)))
structure Made(h:cR)(lo:ai)(xs ys:Array ak)(as:List ai):Prop where
 up:as.Pairwise (· < ·)
 lo:∀a∈as,lo<a
 pr:∀(j:Nat) (a:ai),as[j]?=some a->∃x y,xs[j]?=some x/\ys[j]?=some y/\tJ h a x y
theorem Kr{S:Nat}(hh:A.handled=none)(D:z7 z TI TO i1 i2 l1 l2)(O:Off z TI TO i1 i2 l1 l2 S)(hn:min xs.size ys.size=n)(hn2:n<=100000)(res:ak)(lo:ai)(hlo:z<=lo/\TO<=lo/\i1<=lo/\i2<=lo/\S<=lo){h₀:cR}(hR:∀h' tk acc c as,(∀b o,b≠S->b≠z->b≠TO->b≠i1->b≠i2->h₀.get? b=some o->h'.get? b=some o)->h'.get? S=some { cls:=.type "list",dict:=none,data:=.seq acc c,slots:=#[] }->acc.toList=as.map aD->as.length=n->Made h' lo xs ys as->R (.ok (.ret res)) { s with heap:=h',toks:=tk }):∀(m i:Nat) (h:cR) (tk c:Nat) (acc:Array ak) (as:List ai),n-i=m->i<=n->ZS h z TI TO i1 i2 l1 l2 S xs ys i->(∀b o,b≠S->b≠z->b≠TO->b≠i1->b≠i2->h₀.get? b=some o->h.get? b=some o) ->h.get? S=some { cls:=.type "list",dict:=none,data:=.seq acc c,slots:=#[] }->acc.toList=as.map aD->as.length=i->Made h lo xs ys as->lo<h.objs.size ->jO (aR prog w) A (.builtin "list.extend.loop" ⟨[.ref S,.ref z,res],[]⟩) R { s with heap:=h,toks:=tk }:=by
 intro m
 induction m with
 |zero=>
  intro i h tk c acc as hm hi st kp hS hacc hal hM hlh
  have ei:i=n:=by lia
  subst ei;refine gB Fp ?_;rw[dU ee _]
  show aO _ A.in1 (je (.ref z) >>= _) _ _ _
  have hend:xs[i]?=none\/ys[i]?=none:=by
   by_cases q:xs.size<=i
   .exact .inl (ji q)
   .exact .inr (ji (by lia))
  refine ae (ZS.done (s:={ s with heap:=h,toks:=tk }) (A:=A.in1) hh D st hend λh' he=>?_);refine ar (hR h' tk acc c as (λb o b1 b2 b3 b4 b5 e=>he b o b2 b3 b4 b5 (kp b o b1 b2 b3 b4 b5 e)) (he S _ (Ne.symm O.z) (Ne.symm O.to) (Ne.symm O.i1) (Ne.symm O.i2) hS) hacc hal ⟨hM.up,hM.lo,λj a hj=>?_⟩);obtain⟨x,y,q1,q2,q3⟩:=hM.pr j a hj;have far:∀{b:ai},b<=lo->a≠b:=λhb=>dG (bx hb (hM.lo a (aP hj)))
  exact⟨x,y,q1,q2,he a _ (far hlo.1) (far hlo.2.1) (far hlo.2.2.1) (far hlo.2.2.2.1) q3⟩
 |succ m ih=>
  intro i h tk c acc as hm hi st kp hS hacc hal hM hlh
  have hlt:i<n:=by lia
  obtain⟨x,hx⟩:∃x,xs[i]?=some x:=⟨_,cg (by lia)⟩
  obtain⟨y,hy⟩:∃y,ys[i]?=some y:=⟨_,cg (by lia)⟩
  refine gB Fp ?_;rw[dU ee _]
  show aO _ A.in1 (je (.ref z) >>= _) _ _ _
  refine ae (ZS.item (s:={ s with heap:=h,toks:=tk }) (A:=A.in1) D st (aJ hS) hx hy λh' st' hp kk=>?_);have hS':=kk S _ (Ne.symm O.z) (Ne.symm O.to) (Ne.symm O.i1) (Ne.symm O.i2) hS
  have hsz:acc.size=i:=by rw[← aS,hacc,af,hal]
  show aO _ A.in1 (vi S (·.push (aD h.objs.size)) >>= _) _ _ _
  refine ae (jU hS' rfl (ar ⟨gP ee _,?_⟩) (by rw[hsz];exact L2.di (m:=100000) (by lia)) (by rw[iG,hsz];exact VZ (L2.di (m:=100000) (by lia))));have oth:∀b o,b≠S->h'.get? b=some o->(h'.update S (bz (·.push (aD h.objs.size)))).get? b=some o:=λb o hb e=>(bh _ _ (Ne.symm hb)).trans e;have hnS:h.objs.size≠S:=dG (aJ hS);refine ih (i+1) _ tk _ (acc.push (aD h.objs.size)) (as++[h.objs.size]) (by lia) hlt (st'.keep O oth) (λb o b1 b2 b3 b4 b5 e=>oth b o b1 (kk b o b2 b3 b4 b5 (kp b o b1 b2 b3 b4 b5 e))) (bD _ hS' rfl) (by rw[Aa,hacc,aH];rfl) (by rw[bj,hal];rfl) ⟨?_,λa ha=>?_,λj a hj=>?_⟩ ?_
  .refine gK.mpr ⟨hM.up,qK _ _,λa ha b hb=>?_⟩;rw[ax.mp hb];obtain⟨j,hj⟩:=bE.mp ha;obtain⟨_,_,_,_,q⟩:=hM.pr j a hj;exact aJ q
  .rcases aL.mp ha with q|q
   .exact hM.lo a q
   .rw [ax.mp q];exact hlh
  .by_cases q:j<as.length
   .rw [eI q]at hj;obtain⟨x',y',q1,q2,q3⟩:=hM.pr j a hj;have far:∀{b:ai},b<=lo->a≠b:=λhb=>dG (bx hb (hM.lo a (aP hj)));exact⟨x',y',q1,q2,oth a _ (far hlo.2.2.2.2) (kk a _ (far hlo.1) (far hlo.2.1) (far hlo.2.2.1) (far hlo.2.2.2.1) q3)⟩
   .rw [d7 (by lia)]at hj
    have ej:j-as.length=0:=by
     by_cases w:j-as.length=0
     .exact w
     .rw [dm (by simp;lia)]at hj;cases hj
    rw[ej]at hj
    have ea:h.objs.size=a:=by simpa using hj
    have ej':j=i:=by lia
    subst ea ej';exact⟨x,y,hx,hy,oth _ _ hnS hp⟩
  .rw [qL];exact br hlh (kh (aJ hp))
theorem KE:Ei (.type "zip") "__len__"=pure none:=by rw[lW,iJ];kernel_rfl
theorem TJ:Ei (.type "zip") "__length_hint__"=pure none:=by rw[lW,iJ];kernel_rfl
theorem KF(ty:s.TypeIs (.ref z) "zip")(h:Q true s):aO (aR prog w) A (eZ (.ref z)) Q E s:=by unfold eZ;refine ae (pS ty KE ?_);refine ae (pS ty TJ ?_);exact ar h
theorem KG{S c₀:Nat}{va vb:ak}(hh:A.handled=none)(D:z7 z TI TO i1 i2 l1 l2)(O:Off z TI TO i1 i2 l1 l2 S)(hn:min xs.size ys.size=n)(hn2:n<=100000)(res:ak)(hz:IsZip s.heap z TI TO .none)(hTO:tJ s.heap TO va vb)(st:ZS s.heap z TI TO i1 i2 l1 l2 S xs ys 0)(hS:s.heap.get? S=some { cls:=.type "list",data:=.seq #[] c₀ })(hR:∀h' tk acc c as,(∀b o,b≠S->b≠z->b≠TO->b≠i1->b≠i2->s.heap.get? b=some o->h'.get? b=some o)->h'.get? S=some { cls:=.type "list",dict:=none,data:=.seq acc c,slots:=#[] }->acc.toList=as.map aD->as.length=n->Made h' (s.heap.objs.size-1) xs ys as->R (.ok (.ret res)) { s with heap:=h',toks:=tk }):aO (aR prog w) A.in1 (cV (.ref S) (.ref z) res) (λfin s'=>match fin with | .done f=>R (.ok f) s' | .again c'=>c'.quiet=true/\jO (aR prog w) A c' R s') (λe s'=>R (.error e) s') s:=by
 have ty:s.TypeIs (.ref z) "zip":=⟨_,hz,rfl⟩
 have lts:∀{b:ai}{o:jv},s.heap.get? b=some o->b<=s.heap.objs.size-1:=λe=>Nat.le_sub_one_of_lt (aJ e)
 have ZZ:i1<=s.heap.objs.size-1:=by obtain⟨_,e,_⟩:=st.a1;exact lts e
 have lt2:i2<=s.heap.objs.size-1:=by obtain⟨_,e,_⟩:=st.a2;exact lts e
 have pos:0<s.heap.objs.size:=bx (aK _) (aJ hz)
 have key:∀(h:cR) (c₁ tk:Nat),h.objs.size=s.heap.objs.size->(∀b o,b≠S->s.heap.get? b=some o->h.get? b=some o)->h.get? S=some { cls:=.type "list",data:=.seq #[] c₁ } ->jO (aR prog w) A (.builtin "list.extend.loop" ⟨[.ref S,.ref z,res],[]⟩) R { s with heap:=h,toks:=tk }:=λh c₁ tk hsz kp hS₁ =>Kr (h₀:=s.heap) hh D O hn hn2 res (s.heap.objs.size-1) ⟨lts hz,lts hTO,ZZ,lt2,lts hS⟩ hR n 0 h tk c₁ #[] [] rfl (aK _) (st.keep O kp) (λb o b1 _ _ _ _ e=>kp b o b1 e) hS₁ rfl rfl ⟨nc,(λa ha=>nomatch ha),λj a hj=>by simp at hj⟩ (by rw[hsz];exact Nat.sub_lt pos (by decide))
 unfold cV;refine ae (Hi (T:="zip") ty ?_)
 have e1:fJ (.ref S) (.ref z)=false:=by simp[fJ,Ne.symm O.z]
 have e2:(dD "zip" == dD "list")=false:=by decide
 have e3:(dD "zip" == dD "tuple")=false:=by decide
 simp only[e1,e2,e3,Ke,bN,if_false];refine ae (wpAny_pyIter_zip hz (ae (cJ (KF ty ?_))));refine iX (λ_=>ae (ib (ae ?_))) (λ_=>ar ⟨gP ee _,key _ c₀ _ rfl (λb o _ e=>e) hS⟩)
 show aO _ _ (vi S (·.push .none) >>= λ_=>vi S (·.pop)) _ _ _
 have g₂:=bD (bz (·.push dZ)) hS rfl;have g₃:=bD (bz (·.pop)) g₂ rfl;refine ae (jU hS rfl (jU (hz:=by seq_fits) g₂ rfl (ar ⟨gP ee _,key _ _ _ ?_ (λb o hb e=>?_) g₃⟩)))
 .rw [qL,qL]
 .exact (bh _ _ (Ne.symm hb)).trans ((bh _ _ (Ne.symm hb)).trans e)
theorem xJ{Q:ak->aA->Prop}{va vb:ak}(hh:A.handled=none)(D:z7 z TI TO i1 i2 l1 l2)(hn:min xs.size ys.size=n)(hn2:n<=100000)(hz:IsZip s.heap z TI TO .none)(hTO:tJ s.heap TO va vb)(hTI:tJ s.heap TI (.ref i1) (.ref i2))(a1:s.heap.IsListIter i1 l1 0)(a2:s.heap.IsListIter i2 l2 0)(b1:s.heap.IsList l1 xs)(b2:s.heap.IsList l2 ys)(hQ:∀h' tk acc c as,(∀b o,b≠z->b≠TO->b≠i1->b≠i2->s.heap.get? b=some o->h'.get? b=some o)->h'.get? s.heap.objs.size=some { cls:=.type "list",dict:=none,data:=.seq acc c,slots:=#[] }->acc.toList=as.map aD->as.length=n->Made h' s.heap.objs.size xs ys as->Q (.ref s.heap.objs.size) { s with heap:=h',toks:=tk }):aO (aR prog w) A (call (.type "list") [.ref z]) Q E s:=by
 refine callType_codes (Q₁:=λobj s₁=>obj=.ref s.heap.objs.size/\s₁={ s with heap:=s.heap.push { cls:=.type "list",data:=.seq #[] } }) PySem.F.called_list (PySem.F.typeCall_list_1 _) PySem.F.entry_list_init (code_list_new _ ⟨rfl,rfl⟩) ?_;rintro obj s₁ ⟨rfl,rfl⟩;have hS:(s.heap.push { cls:=.type "list",data:=.seq #[] }).get? s.heap.objs.size=some { cls:=.type "list",data:=.seq #[] }:=aM _ rfl;refine⟨⟨_,hS,rfl⟩,PySem.F.args_list_init_2 _ _,?_⟩;have ne:∀{b:ai}{o:jv},s.heap.get? b=some o->b≠s.heap.objs.size:=λe=>bg (aJ e)
 have O:Off z TI TO i1 i2 l1 l2 s.heap.objs.size:=⟨ne hz,ne hTI,ne hTO,by obtain⟨_,e,_⟩:=a1;exact ne e,by obtain⟨_,e,_⟩:=a2;exact ne e,by obtain⟨_,e,_⟩:=b1;exact ne e,by obtain⟨_,e,_⟩:=b2;exact ne e⟩
 show aO _ _ (do let old ← oX (.ref s.heap.objs.size);gf (.ref s.heap.objs.size) (λ_=>#[]);letGo old.toList.reverse;cV (.ref s.heap.objs.size) (.ref z) .none) _ _ _
 refine ae (xq hS rfl (ae (jW hS rfl (ae (Kg ?_)) (aK _) (aK _))));have g₂:=bD (bz (λ_=>(#[]:Array ak))) hS rfl;have kp:∀b o,s.heap.get? b=some o->((s.heap.push { cls:=.type "list",data:=.seq #[] }).update s.heap.objs.size (bz (λ_=>(#[]:Array ak)))).get? b=some o:=λb o e=>(bh _ _ (Ne.symm (ne e))).trans (ao _ e)
 have sz:((s.heap.push { cls:=.type "list",data:=.seq #[] }).update s.heap.objs.size (bz (λ_=>(#[]:Array ak)))).objs.size-1=s.heap.objs.size:=by rw[qL,gI];rfl
 refine KG (s:={ s with heap:=(s.heap.push { cls:=.type "list",data:=.seq #[] }).update s.heap.objs.size (bz (λ_=>(#[]:Array ak))) }) (A:=A.in1) hh D O hn hn2 .none (kp _ _ hz) (kp _ _ hTO) ⟨.inl ⟨rfl,kp _ _ hz,_,_,kp _ _ hTO⟩,kp _ _ hTI,a1.at λo e=>kp _ o e,a2.at λo e=>kp _ o e,b1.at λo e=>kp _ o e,b2.at λo e=>kp _ o e⟩ g₂ λh' tk acc c as k1 k2 k3 k4 k5=>?_;have k5':Made h' s.heap.objs.size xs ys as:=sz▸k5;exact⟨rfl,hQ h' tk acc c as (λb o c1 c2 c3 c4 e=>k1 b o (ne e) c1 c2 c3 c4 (kp b o e)) k2 k3 k4 k5'⟩
end
end Zl
namespace L2
open PySem.W
variable{H H':Hp}{h h':cR}{X:Cx}{Z:St}{d r a:ai}{ks:List ak}{ep n:Nat}{w:cC}{t:TA}{Q:Option ak->aA->Prop}{T:String}{P:Nat->ak->Prop}{OK:cR->Prop}{tg:Expr}{o:jv}{s:aA}
section
variable{pins:List (ai×jv)}
theorem Inv.grow{t':Nat}(I:Inv X pins Z H s)(k:∀b u,s.heap.get? b=some u->h'.get? b=some u)(sub:bU H H')(new:∀b,b<s.heap.objs.size->H b=none->H' b=none)(ok:qG X.prog X.w H' h'):Inv X pins Z H' { s with heap:=h',toks:=t' }:=
 I.un ⟨λb o e _ _ _=>k b o e,λb o e _ _ _=>⟨o.slots,k b o e⟩,λb o e n _=>new b (aJ e) n,λb o e _=>⟨o,k b o e⟩,λb _ e=>sub _ _ e,λb _ _ e=>sub _ _ e,λb ps e=>⟨#[],by rw[sub _ _ e];simp⟩⟩ ok
end
def Da(H:Hp)(zs:List Zt):Hp:=λb=>match zs.find? (λz=>z.2.2 == b)with|some z=>some (.tup [.int z.1,.int z.2.1])|none=>H b
theorem Qk{zs:List Zt}{b:ai}(h:∀z∈zs,z.2.2≠b):Da H zs b=H b:=by unfold Da;rw[SD.mpr λz hz=>by simpa using h z hz]
theorem Ih:∀{zs:List Zt}{z:Zt},(zs.map λz=>z.2.2).Nodup->z∈zs->Da H zs z.2.2=some (.tup [.int z.1,.int z.2.1])
 |y::zs,z,hn,hz=>by
  unfold Da;rw[aZ,bq]at hn
  rcases aw.mp hz with e|hz
  .subst e;rw[List.find?_cons_of_pos (by simp)]
  .have hne:¬ (y.2.2 == z.2.2)=true:=λq=>hn.1 (by
    have e:y.2.2=z.2.2:=by simpa using q
    rw[e];exact aN hz)
   rw[List.find?_cons_of_neg (p:=λw:Zt=>w.2.2 == z.2.2) hne];exact Ih hn.2 hz
def Ql(K:aa)(t:TA):TE:=λZ H Q=>t Z H λvs H1=>∃(a b:ai) (ns ms:List Int),vs=[.ref a,.ref b]/\c6 K H1 a (ns.map V.int)/\c6 K H1 b (ms.map V.int)/\ns.length<=100000 /\∀(l:ai) (zs:List Zt) (H2:Hp),bU H1 H2->H1 l=none->H2 l=some (.lst (zs.map jD))->(∀z∈zs,ff H2 z)->zs.map zP=ns.zip ms->Q (.ref l) H2
theorem FM:∀{vs:List ak}{ns:List Int}{j:Nat}{v:ak},eX vs ns->vs[j]?=some v->∃i t,ns[j]?=some i/\v=.int i t
 |_,_,0,v,.cons n t r,e=>by simp at e;exact⟨n,t,rfl,e.symm⟩
 |_,_,j+1,v,.cons n t r,e=>FM (j:=j) r (by simpa using e)
 |_,_,j,v,.nil,e=>by simp at e
theorem Qm{lo:ai}{xs ys:List ak}{ns ms:List Int}(hx:eX xs ns)(hy:eX ys ms):∀{as:List ai},(∀(j:Nat) (a:ai),as[j]?=some a->∃x y,xs.toArray[j]?=some x/\ys.toArray[j]?=some y/\tJ h a x y)->as.length=min ns.length ms.length ->∃zs:List Zt,zs.map (λz=>z.2.2)=as/\zs.map zP=ns.zip ms/\∀z∈zs,∃t u,tJ h z.2.2 (.int z.1 t) (.int z.2.1 u):=by
 intro as hp hl;have hlx:=hx.length;have hly:=hy.length;refine⟨(ns.zip ms).zipWith (λt a=>(t.1,t.2,a)) as,?_,?_,λz hz=>?_⟩
 .apply lX
  intro j;rw[aG,uF]
  by_cases hj:j<as.length
  .rw [aB hj,aB (by rw[tK];lia)];rfl
  .rw [dm (mV hj)];cases(ns.zip ms)[j]?<;>rfl
 .apply lX
  intro j;rw[aG,uF]
  by_cases hj:j<as.length
  .rw [aB hj,aB (by rw[tK];lia)];rfl
  .rw [dm (mV hj),dm (by rw[tK];lia)];rfl
 .obtain ⟨j,hj⟩:=bE.mp hz;rw[uF]at hj
  cases ea:as[j]? with
  |none=>
   rw[ea]at hj
   cases ew:(ns.zip ms)[j]? with
   |none=>rw[ew]at hj;cases hj
   |some w=>rw[ew]at hj;cases hj
  |some a=>
   obtain⟨x,y,q1,q2,q3⟩:=hp j a ea;obtain⟨i,t,e1,rfl⟩:=FM (j:=j) hx (by simpa using q1);obtain⟨i',u,e2,rfl⟩:=FM (j:=j) hy (by simpa using q2)
   have ez:(ns.zip ms)[j]?=some (i,i'):=by rw[pY];exact⟨e1,e2⟩
   rw[ea,ez]at hj;have:z=(i,i',a):=(aX hj).symm;subst this;exact⟨t,u,q3⟩
section
variable{x y:Expr}{p1 p2 q1 q2:xu}
theorem TK(hc:X.calm=true)(hgl:Gl X "list")(hml:X.mg "list"=none)(hgz:Gl X "zip")(hmz:X.mg "zip"=none)(ha:PA X [x,y] t)(he:bL [.Call (.Name "zip" p1) [x,y] [] p2] X.env=[(false,fz (.Call (.Name "zip" p1) [x,y] [] p2) X.env)]:=by rfl)(he2:bL [x,y] X.env=(false,fz x X.env)::bL [y] X.env:=by rfl)(hpl:(iA p2 (bL [y] X.env)).any (·.1)=false:=by rfl):PE X (.Call (.Name "list" q1) [.Call (.Name "zip" p1) [x,y] [] p2] [] q2) (Ql X.K t):=by
 intro pins s Z H Q I h;refine eE (nj I hgl hml BootT.list (dI ?_ he rfl));rw[he]
 show aO _ _ (UA ((false,fz (.Call (.Name "zip" p1) [x,y] [] p2) X.env)::iA q2 (bL [] X.env))) _ _ s
 refine jh (eE (nj I hgz hmz BootT.zip (dI (hZ (ha p2 pins s Z H _ I h) λus s1 ⟨vs,H1,I1,r1,q⟩=>?_) he2 hpl)));obtain⟨a,b,ns,ms,rfl,hA,hB,hle,k⟩:=q;obtain⟨u,v,rfl,ru,rv⟩:=vals2 r1;cases ru;cases rv;obtain⟨xs,vx,px,_⟩:=I1.list hA;obtain⟨ys,vy,py,_⟩:=I1.list hB;have ix:=intsAre_of vx;have iy:=intsAre_of vy;have lx:=ix.length;have ly:=iy.length
 have al:a<s1.heap.objs.size:=by obtain⟨_,e,_⟩:=px.isList;exact aJ e
 have bl:b<s1.heap.objs.size:=by obtain⟨_,e,_⟩:=py.isList;exact aJ e
 refine call_zip_2 px.isList py.isList λh' hz hTI hTO j1 j2 hsz hk=>lO ?_;refine Zl.xJ (s:={ s1 with heap:=h' }) (n:=min ns.length ms.length) (I1.ok.hd hc) (zipApart_new al bl) (by rw[aQ,aQ,lx,ly]) (by lia) hz hTO hTI j1 j2 (px.isList.at λo e=>hk _ o e) (py.isList.at λo e=>hk _ o e) λh2 tk acc c as k1 k2 k3 k4 k5=>?_;obtain⟨zs,e1,e2,e3⟩:=Qm (lo:=0) ix iy k5.pr k4
 have old:∀b o,s1.heap.get? b=some o->h2.get? b=some o:=λb o e=>by have hb:=aJ e;refine k1 b o (bg (br hb (iq _ _))) (bg (br hb (iq _ _))) (bg hb) (bg (br hb (iq _ _))) (hk b o e)
 have up:∀z∈zs,h'.objs.size<z.2.2:=λz hz=>k5.lo _ (by rw[← e1];exact aN hz);have hs5:h'.objs.size=s1.heap.objs.size+5:=hsz
 have nd:(zs.map λz=>z.2.2).Nodup:=by rw[e1];exact k5.up.imp λq=>bg q
 have far:∀z∈zs,∀b:ai,b<s1.heap.objs.size->z.2.2≠b:=λz hz b hb=>dG (OH (br hb (by rw[hs5];exact iq _ _)) (up z hz));have lf:∀b:ai,b<s1.heap.objs.size->b≠h'.objs.size:=λb hb=>bg (br hb (by rw[hs5];exact iq _ _))
 have hold:∀b:ai,b<s1.heap.objs.size->upd (Da H1 zs) h'.objs.size (.lst (zs.map jD)) b=H1 b:=λb hb=>by rw[aF (lf b hb),Qk λz hz=>far z hz b hb]
 have S:bU H1 (upd (Da H1 zs) h'.objs.size (.lst (zs.map jD))):=λb o e=>by rw[hold b (I1.fw.lt e)];exact e
 have hpair:∀z∈zs,ff (upd (Da H1 zs) h'.objs.size (.lst (zs.map jD))) z:=λz hz=>by
  show upd (Da H1 zs) h'.objs.size (.lst (zs.map jD)) z.2.2=_
  rw[aF (dG (up z hz))];exact Ih nd hz
 have hlz:zs.length<=100000:=by have:=congrArg cK e2;rw[af,tK]at this;lia
 have I2:Inv X pins Z (upd (Da H1 zs) h'.objs.size (.lst (zs.map jD))) { s1 with heap:=h2,toks:=tk }:=I1.grow old S (λb hb n=>by rw[hold b hb];exact n) λb o e=>by
  by_cases hb:b<s1.heap.objs.size
  .rw [hold b hb]at e;exact(I1.fw b o e).zX (λc v _ q=>old c v q) (λc q=>S _ _ q) λc _ q=>S _ _ q
  .by_cases hl:b=h'.objs.size
   .subst hl;rw[aC]at e;cases e;refine⟨by rw[af];exact di hlz,acc.toList,c,?_,by rw[Array.toArray_toList];exact k2⟩;rw[k3,← e1,a7];exact EH zs
   .rw [aF hl]at e;unfold Da at e
    cases w:zs.find? (λz=>z.2.2 == b)with
    |none=>
     rw[w]at e;have e:H1 b=some o:=e;rw[I1.fw.fresh (mV hb)]at e
     cases e
    |some z=>
     rw[w]at e;cases e;have hz':=J1 w
     have eb:z.2.2=b:=by simpa using XU w
     subst eb;obtain⟨t,u,hp⟩:=e3 z hz';exact⟨di (m:=2) (ay 2),[.int z.1 t,.int z.2.1 u],.cons ⟨t,rfl⟩ (.cons ⟨u,rfl⟩ .nil),⟨_,hp,rfl,_,rfl⟩⟩
 exact⟨.ref h'.objs.size,_,I2,rfl,k _ zs _ S (I1.fw.fresh (by rw[hs5];exact iq _ _)) aC hpair e2⟩
theorem Xa{K:aa}{Q:VK}(h:t Z H λvs H1=>∃(a b:ai) (ns ms:List Int),vs=[.ref a,.ref b]/\c6 K H1 a (ns.map V.int)/\c6 K H1 b (ms.map V.int)/\ns.length<=100000 /\∀(l:ai) (zs:List Zt) (H2:Hp),bU H1 H2->H1 l=none->H2 l=some (.lst (zs.map jD))->(∀z∈zs,ff H2 z)->zs.map zP=ns.zip ms->Q (.ref l) H2):Ql K t Z H Q:=h
end
def yt(h:cR)(d:ai)(ks:List ak)(ep:Nat):Prop:=∃o es,h.get? d=some o/\o.ExactDict/\o.data=.dict es ep/\es.toList.map (·.key)=ks
theorem yt.at(x:yt h d ks ep)(k:∀o,h.get? d=some o->h'.get? d=some o):yt h' d ks ep:=
 let ⟨o,es,e,r⟩:=x;⟨o,es,k o e,r⟩
theorem yt.lt(x:yt h d ks ep):d<h.objs.size:=let ⟨_,_,e,_⟩:=x;aJ e
section
variable{prog:bI}{A:cT}{E:ak->aA->Prop}{it:ai}{i:Nat}
theorem yt.typeIs(x:yt s.heap d ks ep):s.TypeIs (.ref d) "dict":=let ⟨o,_,e,c,_⟩:=x;⟨o,e,c.1⟩
theorem AX{Q:ak->aA->Prop}(hd:(d == iH)=false)(x:yt s.heap d ks ep)(q:Q (.ref s.heap.objs.size) { s with heap:=s.heap.push { cls:=.type "dict_keyiterator",data:=.fields #[.ref d,.int 0 0,.int ks.length 0,.int ep 0] } }):aO (aR prog w) A (OE (.ref d)) Q E s:=by
 have hT:=x.typeIs;obtain⟨o,es,e,c,da,hk⟩:=x
 have hs:es.size=ks.length:=by rw[← hk,af,aS]
 refine Hj hT F.slot_dict_iter (de F.slot_dict_iter hT F.entry_dict_iter ?_ (F.args_dict_iter_1 _));unfold jt.«dict.__iter__» Builtin.Dict.dictSlotNone;refine ae (ae (V0 hT ?_))
 show aO _ _ (pure (aD d)) _ _ s
 refine ar ?_
 show aO _ _ (Ek d >>= _) _ _ s
 unfold Ek;rw[if_neg (by rw[hd];exact bM)];refine ae (ar (ae (mY e da (ae (Mj e da ?_)))));refine ae (df (ar ⟨_,rfl,"dict_keyiterator",_,⟨_,aM _ rfl,rfl⟩,F.slot_dict_keyiterator_next.lookup,?_⟩))
 simpa[cD,hs]using q
theorem Ii{v:ak}(t:s.heap.IsKeyIter it d i ks.length ep)(x:yt s.heap d ks ep)(hv:ks[i]?=some v)(q:∀h',h'.IsKeyIter it d (i+1) ks.length ep->ia it s.heap h'->Q (some v) { s with heap:=h' }):aO (aR prog w) A (je (.ref it)) Q E s:=by
 have tt:=t.typeIs;obtain⟨ob,g,gc,gd⟩:=id t;obtain⟨o,es,e,c,da,hk⟩:=x
 have hs:es.size=ks.length:=by rw[← hk,af,aS]
 have hi:i<es.size:=by rw[hs];exact(av.mp hv).1
 have ev:es[i].key=v:=by
  rw[← hk,aG]at hv
  simpa[hi]using hv
 unfold je;refine ae (iC (d8 (name:=iP "__next__") tt F.slot_dict_keyiterator_next (de F.slot_dict_keyiterator_next tt F.entry_dict_keyiterator_next ?_ (F.args_dict_keyiterator_next_1 _))));refine ae (ar (ae (ae ?_)))
 first|refine ae (jJ tt (ar ?_))|refine ae (lP tt (ar ?_))
 refine ae (mZ g gd ?_);simp only[show sP "dict_keyiterator"=false by decide,bN,if_false]
 show aO _ _ (if(aD d == dZ)=true then _ else _) _ _ s
 rw[if_neg (show¬ ((aD d == dZ)=true)from bM)];refine ae (ar (ae (mY e da ?_)));rw[if_neg (by rw[hs];simp)];refine ae (ar (ae (Mj e da ?_)));rw[if_neg (by simp)];refine ar ?_;simp only[show¬ ((i:Int)<0)from by lia,if_false,gZ,cg hi];refine ae ?_
 first|refine ae (jJ tt (ar ?_))|refine ae (lP tt (ar ?_))
 refine ae (V1 tt ?_)
 show aO _ _ (setField (.ref it) 1 (cD ((i:Int)+1)) >>= _) _ _ s
 refine ae (jw g gd (by simp) ?_)
 have t':(s.heap.update it (nh (·.setIfInBounds 1 (cD ((i:Int)+1))))).IsKeyIter it d (i+1) ks.length ep:=
  ⟨_,bD _ g (jQ (dg gd _)),(qE ..).trans gc,by rw[dg gd];simp[cD]⟩
 refine ae (cJ ?_);refine ae (V1 (s:={ s with heap:=s.heap.update it (nh (·.setIfInBounds 1 (cD ((i:Int)+1)))) }) t'.typeIs ?_)
 show aO _ _ (pure es[i].key) _ _ _
 rw[ev];exact ar (ar ⟨_,rfl,ar (q _ t' (c9 ..))⟩)
theorem MJ(hh:A.handled=none)(hi:ks.length<=i)(t:s.heap.IsKeyIter it d i ks.length ep)(x:yt s.heap d ks ep)(q:∀h',O1 it s.heap h'->Q none { s with heap:=h' }):aO (aR prog w) A (je (.ref it)) Q E s:=by
 have tt:=t.typeIs;obtain⟨ob,g,gc,gd⟩:=id t;obtain⟨o,es,e,c,da,hk⟩:=x
 have hs:es.size=ks.length:=by rw[← hk,af,aS]
 unfold je;refine ae (iC (d8 (name:=iP "__next__") tt F.slot_dict_keyiterator_next (de F.slot_dict_keyiterator_next tt F.entry_dict_keyiterator_next ?_ (F.args_dict_keyiterator_next_1 _))));refine ae (ar (ae (ae ?_)))
 first|refine ae (jJ tt (ar ?_))|refine ae (lP tt (ar ?_))
 refine ae (mZ g gd ?_);simp only[show sP "dict_keyiterator"=false by decide,bN,if_false]
 show aO _ _ (if(aD d == dZ)=true then _ else _) _ _ s
 rw[if_neg (show¬ ((aD d == dZ)=true)from bM)];refine ae (ar (ae (mY e da ?_)));rw[if_neg (by rw[hs];simp)];refine ae (ar (ae (Mj e da ?_)));rw[if_neg (by simp)];refine ar ?_;simp only[show¬ ((i:Int)<0)from by lia,if_false,gZ,ji (bw (ki hs) hi)];refine ae ?_
 first|refine ae (jJ tt (ar ?_))|refine ae (lP tt (ar ?_))
 show aO _ _ (setField (.ref it) 0 .none >>= _) _ _ s
 refine ae (jw g gd (by simp) ?_)
 show aO _ _ (UE (.type "StopIteration") [] >>= _) _ _ _
 refine ae ?_;simp only[UE,newTuple];refine ae (df ?_ (by size_fits));refine ae (m:=m5 _ _) (Kh (a:=dZ) (by first|rfl|(simp only[m5];rfl)) ?_);refine df ?_ (by size_fits);simp only[raiseNew];refine ae (Si ?_);rw[show A.in1.handled=none from hh];refine ae (ar (XW ?_));refine ae (lg (T:="StopIteration") (b:=true) ⟨_,aM _ rfl,rfl⟩ z9 ?_);exact ar (q _ (((c9 ..).extBut.push _).push _))
theorem NZ(hh:A.handled=none)(I d:ai)(hne:d≠I)(ks:List ak)(ep:Nat):Walks prog w A I [I,d] [I] ks.length (λi v=>ks[i]?=some v) (λi h=>h.IsKeyIter I d i ks.length ep/\yt h d ks ep) where
 sub:=λb hb=>by simp at hb;simp[hb]
 frame:=λ_ _ _ st hk=>⟨st.1.at λo e=>hk I (by simp) o e,st.2.at λo e=>hk d (by simp) o e⟩
 item:=λi s Q E hi st hQ=>by have hv:ks[i]?=some ks[i]:=aB hi;refine Ii st.1 st.2 hv λh' t' hs'=>hQ _ h' s.toks hv ⟨t',st.2.at λo e=>hs'.extBut d o hne e⟩ λb o hb e=>hs'.extBut b o (λh=>hb (by simp[h])) e
 done:=λs Q E st hQ=>MJ hh (ay _) st.1 st.2 λh' he=>hQ h' s.toks λb o hb e=>he b o (λh=>hb (by simp[h])) e
 self:=λ_ _ _ _ st hQ=>z6 st.1 hQ
theorem TL(lo:(d == iH)=false):KdlSrc prog w "dict" d d ks.length (λi v=>ks[i]?=some v) (λh=>yt h d ks ep) where
 type:=λ_ x=>x.typeIs
 there:=λ_ x=>⟨x.lt,x.lt⟩
 keep:=λ_ _ x hk=>x.at λo e=>hk d (.inl rfl) o e
 notList:=by decide
 notTuple:=by decide
 hint:=λ_ _ _ _ x hq=>kdl_hint_dict x.typeIs hq
 iter:=λ_ _ hh x=>⟨_,_,(λ_ _ hq=>AX lo x hq),NZ hh _ d (bg x.lt) ks ep,⟨⟨_,aM _ rfl,rfl,rfl⟩,x.at λo e=>ao _ e⟩⟩
theorem Qn{S:ai}{R:JY->aA->Prop}(K:KdlSrc prog w T r d n P OK)(hh:A.handled=none)(ok:OK s.heap)(h1:S≠r)(h2:S≠d)(hn:n<=aY)(g:s.heap.get? S=some { cls:=.type "list",data:=.seq #[] 0 })(q:∀h' tk acc' c',(∀b o,b≠S->s.heap.get? b=some o->h'.get? b=some o)->h'.get? S=some { cls:=.type "list",dict:=none,data:=.seq acc' c',slots:=#[] }->UF P acc' n->R (.ok (.ret (.ref S))) { s with heap:=h',toks:=tk }):jO (aR prog w) A (.builtin "list.__iadd__" ⟨[.ref S,.ref r],[]⟩) R s:=by refine gB F.entry_list_iadd ?_;rw[dU F.plain_list_iadd _];exact kdl_extend K hh ok S h1 h2 (.ref S) 0 g q hn
theorem Ij{Q:List ak->aA->Prop}(K:KdlSrc prog w T r d n P OK)(hh:A.handled=none)(ok:OK s.heap)(hn:n<=aY)(q:∀h' tk acc,(∀b o,s.heap.get? b=some o->h'.get? b=some o)->UF P acc n->Q acc.toList { s with heap:=h',toks:=tk }):aO (aR prog w) A (Hk (.ref r)) Q E s:=by
 have th:=K.there _ ok;unfold Hk;refine ae (OJ (gB F.entry_proto_collect ?_));rw[dU F.plain_proto_collect _]
 show aO _ A.in1 (newList [] >>= λl=>again (.builtin "list.__iadd__" ⟨[l,.ref r],[]⟩)) _ _ s
 have g:(s.heap.push { cls:=.type "list",data:=.seq ([]:List ak).toArray }).get? s.heap.objs.size=some { cls:=.type "list",data:=.seq #[] 0 }:=aM _ rfl;refine ae (df (ar ⟨gP F.plain_list_iadd _,Qn (s:={ s with heap:=s.heap.push { cls:=.type "list",data:=.seq ([]:List ak).toArray } }) K hh (K.keep _ _ ok λb _ o e=>ao _ e) (dG th.1) (dG th.2) hn g λh' tk acc' c' hk hS hacc=>?_⟩))
 show aO _ A (load s.heap.objs.size >>= _) _ _ { s with heap:=h',toks:=tk }
 refine ae (Eh hS (ar (q h' tk acc' (λb o e=>hk b o (bg (aJ e)) (ao _ e)) hacc)))
theorem Ik{acc:Array ak}(h:UF (λi v=>ks[i]?=some v) acc ks.length):acc.toList=ks:=by
 apply lX
 intro j
 cases e:acc.toList[j]? with
 |some v=>exact(h.2 j v (by rw[← dk];exact e)).symm
 |none=>
  have:ks.length<=j:=by have:=J2.mp e;rw[aS,h.1]at this;exact this
  exact(dm this).symm
end
theorem MK:∀{kvs:List (List dJ×V)}{xs:List (List dJ×ai×ak)},Paired (λ(p:List dJ×V) (q:List dJ×ai×ak)=>p.1=q.1/\H q.2.1=some (.tup (p.1.map kV))/\RelV p.2 q.2.2) kvs xs ->(∀p∈kvs,∃x y:Int,p.1=[a9 x,a9 y])->∃zs:List Zt,xs.map (λq=>aD q.2.1)=(zs.map λz=>aD z.2.2)/\(∀z∈zs,ff H z)/\kvs.map (·.1)=zs.map λz=>[a9 z.1,a9 z.2.1]
 |_,_,.nil,_=>⟨[],rfl,(λz hz=>nomatch hz),rfl⟩
 |_,_,.cons (a:=p) (b:=q) r t,hp=>by
  obtain⟨zs,e1,e2,e3⟩:=MK t λp' hp'=>hp p' (ag _ hp');obtain⟨x,y,exy⟩:=hp _ aj;refine⟨(x,y,q.2.1)::zs,by simp[e1],λz hz=>?_,by simp[exy,e3]⟩
  rcases aw.mp hz with rfl|hz
  .have:=r.2.1;rw[exy]at this;exact this
  .exact e2 z hz
theorem Paired.at{α β:Type}{F:α->β->Prop}{l₁:List α}{l₂:List β}(r:Paired F l₁ l₂):∀{i:Nat}{a:α},l₁[i]?=some a->∃b,l₂[i]?=some b/\F a b:=by
 induction r with
 |nil=>intro i a e;simp at e
 |cons h t ih=>
  intro i a e
  cases i with
  |zero=>
   simp only[lC,gh]at e;subst e
   exact⟨_,rfl,h⟩
  |succ i=>exact ih (by simpa using e)
theorem Paired.len{α β:Type}{F:α->β->Prop}{l₁:List α}{l₂:List β}(r:Paired F l₁ l₂):l₁.length=l₂.length:=by
 induction r with
 |nil=>rfl
 |cons h t ih=>simp[ih]
def Y1(a:ai)(kvs:List (List dJ×V))(o:jv):It:=
 ⟨λi H=>i<kvs.length/\H a=some (.frz o (.dT kvs)),λi H x H'=>H'=H/\∃k v b,kvs[i]?=some (k,v)/\x=.ref b/\H b=some (.tup (k.map kV)),λi H=>kvs.length<=i/\H a=some (.frz o (.dT kvs))⟩
theorem ML{P:bI}{K:aa}(a it:ai)(o:jv)(kvs:List (List dJ×V))(es:Array DictEntry)(ep:Nat)(hx:o.ExactDict)(hd:o.data=.dict es ep)(hl:es.size=kvs.length):ND P w K tg (Y1 a kvs o) [it] it (λi h=>h.IsKeyIter it a i (es.toList.map (·.key)).length ep) where
 mem:=by simp
 obj:=λi h st b hb=>by
  have e:b=it:=by simpa using hb
  subst e;obtain⟨o,e,c,d⟩:=st;exact⟨o,e,λv z=>by rw[d]at z;cases z⟩
 keep:=λi h h' st k=>st.at λo e=>k it (by simp) o e
 item:=by
  intro X hP hw hK hc i pins s Z H E I hf st hg;subst hP hw hK;obtain⟨hlt,hq⟩:=hg
  obtain⟨e0,_,_,xs,rel,o',es',ep',e1,e2,e3,e4,e5⟩:=(show fv X.prog X.w H s.heap a (.frz o (.dT kvs))from I.fw a _ hq)
  rw[e0]at e1;cases e1;rw[hd]at e3
  injection e3 with e3 e3'
  subst e3 e3'
  obtain⟨⟨k,v⟩,hkv⟩:∃p,kvs[i]?=some p:=⟨kvs[i],by simp[hlt]⟩
  obtain⟨q,hq2,rq⟩:=L2.Paired.at rel hkv
  have hkey:(es.toList.map (·.key))[i]?=some (.ref q.2.1):=by rw[e4,a7,aG,hq2];rfl
  obtain⟨f0,f1,f2,f3,f4,f5⟩:=hf it (by simp);refine Ii st ⟨o,es,e0,hx,hd,rfl⟩ hkey λh' st' sb=>?_;have I1:Inv X pins Z H { s with heap:=h' }:=I.turned (t':=s.toks) (λb o hb e=>(sb.2 b hb).trans e) f0 f1 f3 f4 f5;obtain⟨o',e,c,d⟩:=id st';exact⟨_,rfl,HH (s:={ s with heap:=h' }) e c d (by decide) ⟨.ref q.2.1,H,I1,rfl,⟨rfl,k,v,q.2.1,hkv,rfl,rq.2.1⟩,st',λb hb=>(hf b hb).1⟩⟩
 done:=by
  intro X hP hw hK hc i pins s Z H E I hf st hg;subst hP hw hK;obtain⟨hle,hq⟩:=hg
  obtain⟨e0,_⟩:=(show fv X.prog X.w H s.heap a (.frz o (.dT kvs))from I.fw a _ hq)
  obtain⟨f0,f1,f2,f3,f4,f5⟩:=hf it (by simp)
  have hn:(es.toList.map (·.key)).length=kvs.length:=by rw[af,aS,hl]
  exact MJ (I.ok.hd hc) (by lia) st ⟨o,es,e0,hx,hd,rfl⟩ λh' eb=>⟨rfl,I.turned (t':=s.toks) (λb o hb e=>eb b o hb e) f0 f1 f3 f4 f5⟩
 self:=λ_ _ _ _ _ st h=>z6 st h
def iDT(tl:TE):TI:=λZ H R=>tl Z H λx H1=>∃a kvs,x=.ref a/\((H1 a=some (.dT kvs)/\∀o,R (Y1 a kvs o) (upd H1 a (.frz o (.dT kvs))))\/∃o,H1 a=some (.frz o (.dT kvs))/\R (Y1 a kvs o) H1)
theorem U3{tl:TE}{R:It->Hp->Prop}(h:tl Z H λx H1=>∃a kvs,x=.ref a/\((H1 a=some (.dT kvs)/\∀o,R (Y1 a kvs o) (upd H1 a (.frz o (.dT kvs))))\/∃o,H1 a=some (.frz o (.dT kvs))/\R (Y1 a kvs o) H1)):iDT tl Z H R:=h
theorem U4{l:Expr}{tl:TE}(hl:PE X l tl):PI X tg l (iDT tl):=by
 intro pins s Z H R I h;refine hZ (hl pins s Z H _ I h) λv s1 ⟨x,H1,I1,r1,q1⟩=>?_;obtain⟨a,kvs,e,q1⟩:=q1;subst e;cases r1
 rcases q1 with⟨hq,q⟩|⟨ob,hq,q⟩
 rotate_left
 .obtain ⟨ho,hz,hsys,xs,rel,ob',es,ep,ho',hx,hd,he,hn⟩:=(show fv X.prog X.w H1 s1.heap a (.frz ob (.dT kvs))from I1.fw a _ hq)
  rw[ho]at ho';cases ho'
  have hl:es.size=kvs.length:=by rw[← aS,he,af,Paired.len rel]
  refine AX hsys ⟨ob,es,ho,hx,hd,rfl⟩ ?_;refine⟨s1.heap.objs.size,[s1.heap.objs.size],_,_,_,rfl,I1.kept (t':=s1.toks) λb o e=>ao _ e,ML a _ ob kvs es ep hx hd hl,⟨_,aM _ rfl,rfl,rfl⟩,λb hb=>?_,q⟩
  have e:b=s1.heap.objs.size:=by simpa using hb
  subst e;exact I1.LY (ay _) (I1.fw.fresh (ay _))
 obtain⟨hz,hsys,xs,rel,ob,es,ep,ho,hx,hd,he,hn⟩:=(show fv X.prog X.w H1 s1.heap a (.dT kvs)from I1.fw a _ hq)
 have un:Un X.fs [] H1 (upd H1 a (.frz ob (.dT kvs))) s1.heap s1.heap:=by
  have hne:∀b u,H1 b=some u->u≠.dT kvs->b≠a:=λb u e n z=>by subst z;rw[hq]at e;exact n (aX e).symm
  refine⟨λb o e _ _ _=>e,λb o e _ _ _=>⟨o.slots,e⟩,λb o e n _=>?_,λb o e _=>⟨o,e⟩,λb ys e=>?_,λb o u e=>?_,λb ps e=>?_⟩
  .rw [aF (λz=>by subst z;rw[hq]at n;cases n)];exact n
  .rw [aF (hne b _ e (by intro z;cases z))];exact e
  .rw [aF (hne b _ e (by intro z;cases z))];exact e
  .exact ⟨#[],by rw[aF (hne b _ e (by intro z;cases z)),e];simp⟩
 have nt:∀c ys,H1 c=some (.tup ys)->(upd H1 a (.frz ob (.dT kvs))) c=some (.tup ys):=λc ys q0=>by rw[aF (λz=>by rw[z,hq]at q0;cases q0)];exact q0
 have fw:qG X.prog X.w (upd H1 a (.frz ob (.dT kvs))) s1.heap:=λb u e=>by
  by_cases hb:b=a
  .subst hb;rw[aC]at e;cases e;exact⟨ho,hz,hsys,xs,Paired.OA rel λp q z=>⟨z.1,nt _ _ z.2.1,z.2.2⟩,ob,es,ep,ho,hx,hd,he,hn⟩
  .rw [aF hb]at e;refine(I1.fw b u e).zX (λc v _ q=>q) (λc q0=>?_) nt;rw[aF (λz=>by rw[z,hq]at q0;cases q0)];exact q0
 have I2:Inv X pins Z (upd H1 a (.frz ob (.dT kvs))) { s1 with heap:=s1.heap,toks:=s1.toks }:=I1.un un fw
 have hl:es.size=kvs.length:=by rw[← aS,he,af,Paired.len rel]
 refine AX hsys ⟨ob,es,ho,hx,hd,rfl⟩ ?_;refine⟨s1.heap.objs.size,[s1.heap.objs.size],_,_,_,rfl,I2.kept (t':=s1.toks) λb o e=>ao _ e,ML a _ ob kvs es ep hx hd hl,⟨_,aM _ rfl,rfl,rfl⟩,λb hb=>?_,q ob⟩
 have e:b=s1.heap.objs.size:=by simpa using hb
 subst e;exact I2.LY (ay _) (I2.fw.fresh (ay _))
def TM(H:Hp)(Q:VK):VK:=λx H'=>Q x H'\/∃a o kvs,(∀o' u',H a≠some (.frz o' u'))/\H' a=some (.frz o (.dT kvs))/\Q x (upd H' a (.dT kvs))
theorem Un.Ov{fs ex:List ai}{kvs:List (List dJ×V)}(u:Un fs ex H H' h h')(hn:∀o' u',H a≠some (.frz o' u'))(ha:H' a=some (.frz o (.dT kvs))):Un fs ex H (upd H' a (.dT kvs)) h h' where
 keep:=u.keep
 slot:=u.slot
 free:=λb ob e n hx=>by have q:=u.free b ob e n hx;rw[aF (λz=>by rw[z,ha]at q;cases q)];exact q
 there:=u.there
 Ee:=λb xs e=>by have q:=u.Ee b xs e;rw[aF (λz=>by rw[z,ha]at q;cases q)];exact q
 CL:=λb ob w e=>by have q:=u.CL b ob w e;rw[aF (λz=>hn ob w (by rw[← z];exact e))];exact q
 CM:=λb ps e=>by obtain⟨more,q⟩:=u.CM b ps e;exact⟨more,by rw[aF (λz=>by rw[z,ha]at q;cases q)];exact q⟩
theorem qG.Ov{P:bI}{kvs:List (List dJ×V)}(k:qG P w H h)(ha:H a=some (.frz o (.dT kvs))):qG P w (upd H a (.dT kvs)) h:=by
 have nt:∀c ys,H c=some (.tup ys)->(upd H a (.dT kvs)) c=some (.tup ys):=λc ys q0=>by rw[aF (λz=>by rw[z,ha]at q0;cases q0)];exact q0
 intro b u e
 by_cases hb:b=a
 .subst hb;rw[aC]at e;cases e
  obtain⟨_,hz,hsys,xs,rel,ob,es,ep,r⟩:=(show fv P w H h b (.frz o (.dT kvs))from k b _ ha)
  exact⟨hz,hsys,xs,Paired.OA rel λp q z=>⟨z.1,nt _ _ z.2.1,z.2.2⟩,ob,es,ep,r⟩
 .rw [aF hb]at e;refine(k b u e).zX (λc v _ q=>q) (λc q0=>?_) nt;rw[aF (λz=>by rw[z,ha]at q0;cases q0)];exact q0
end L2
namespace BootT
theorem Qo:dE "reversed"=some (.type "reversed"):=by decide +kernel
end BootT
namespace L2
open PySem.W
variable{w:cC}{H:Hp}{n:Nat}{P:Nat->ak->Prop}{t:TA}{X:Cx}
theorem lN.Ov{P:bI}{K:aa}{mg:bF->Option ak}{base:cR}{CX:J5}{k:Nat}{f:ai}{fd:gG}{ps:List bF}{sp sp':Sp}(F:lN P w K mg base CX k f fd ps sp')(h:∀vs H Q E,sp vs H Q E->sp' vs H (TM H Q) E):lN P w K mg base CX k f fd ps sp:=by
 refine⟨λvs H Q E q=>F.len vs H _ E (h _ _ _ _ q),λA outer s H args us vs Q E hr he hb hv hs=>?_⟩;refine mU (F.run A outer s H args us vs _ E hr he hb hv (h _ _ _ _ hs)) λr s' q=>?_
 cases r with
 |error e=>exact q
 |ok fl=>
  cases fl with
  |ret u=>
   obtain⟨v,H',h1,h2,h3,h4,h5,q⟩:=(show CE outer P w H s (TM H Q) u s' from q)
   rcases q with q|⟨a,o,kvs,hn,ha,q⟩
   .exact (show CE outer P w H s Q u s' from⟨v,H',h1,h2,h3,h4,h5,q⟩)
   .exact (show CE outer P w H s Q u s' from⟨v,_,h1,h2,h3.Ov hn ha,h4.Ov ha,h5,q⟩)
  |_=>exact q
theorem Paired.eraseIdx{α β:Type}{F:α->β->Prop}{l₁:List α}{l₂:List β}(r:Paired F l₁ l₂):∀j,Paired F (l₁.eraseIdx j) (l₂.eraseIdx j):=by
 induction r with
 |nil=>intro j;exact .nil
 |cons h t ih=>
  intro j
  cases j with
  |zero=>exact t
  |succ j=>exact .cons h (ih j)
theorem AY{κ:Type}[DecidableEq κ]{k:κ}{v:V}:∀{kvs:List (κ×V)}{j:Nat},(kvs.map (·.1)).Nodup->kvs[j]?=some (k,v)->kvs.eraseIdx j=mf kvs k
 | [],j,_,e=>by simp at e
 |p::r,0,hn,e=>by
  simp only[lC,gh]at e;subst e;have h1:=(bq.mp hn).1
  rw[NT rfl,HU h1];rfl
 |p::r,j+1,hn,e=>by simp only[Ml]at e;have h1:=(bq.mp hn).1;have hm:k∈r.map (·.1):=aI.mpr ⟨_,aP e,rfl⟩;have hne:¬ p.1=k:=λz=>h1 (by rw[show(λx:κ×V=>x.1) p=k from z];exact hm);rw[EB hne,Mm,AY (bq.mp hn).2 e]
theorem yH{κ:Type}[DecidableEq κ]{k:κ}{v:V}:∀{kvs:List (κ×V)}{j:Nat},(kvs.map (·.1)).Nodup->kvs[j]?=some (k,v)->eD kvs k=some v
 | [],j,_,e=>by simp at e
 |p::r,0,hn,e=>by
  simp only[lC,gh]at e;subst e
  exact iu rfl
 |p::r,j+1,hn,e=>by simp only[Ml]at e;have h1:=(bq.mp hn).1;have hm:k∈r.map (·.1):=aI.mpr ⟨_,aP e,rfl⟩;have hne:¬ p.1=k:=λz=>h1 (by rw[show(λx:κ×V=>x.1) p=k from z];exact hm);rw[gM hne];exact yH (bq.mp hn).2 e
theorem EI{α β:Type}(f:α->β):∀(l:List α) (j:Nat),(l.map f).eraseIdx j=(l.eraseIdx j).map f
 | [],_=>by simp
 |a::l,0=>rfl
 |a::l,j+1=>by simp[Mm,EI f l j]
theorem N0{kvs:List (List dJ×V)}{xs:List (List dJ×ai×ak)}(r:KT H kvs xs):kvs.map (·.1)=xs.map (·.1):=by
 induction r with
 |nil=>rfl
 |cons h t ih=>simp[h.1,ih]
def Il:V->List V->Hp->VK->Prop:=λx vs H Q=>∃a kvs k b v,x=.ref a/\vs=[.ref b]/\H a=some (.dT kvs)/\H b=some (.tup (k.map kV))/\eD kvs k=some v/\Q v (upd H a (.dT (mf kvs k)))
theorem Ak(hu:X.A.units+64<iQ):Su X "dict.pop" Il:=by
 intro pins s Z H x xs v us Q I rx rs h;obtain⟨a,kvs,k,b,y,rfl,rfl,ha,hb,hy,q⟩:=h;cases rx;obtain⟨u,rfl,ru⟩:=vals1 rs;cases ru
 obtain⟨hz,lo,ys,rel,o,es,ep,e1,e2,e3,e4,e5⟩:=(show fv X.prog X.w H s.heap a (.dT kvs)from I.fw a _ ha)
 have hl:es.size=kvs.length:=by rw[← aS,e4,af,Paired.len rel]
 have hT:s.TypeIs (.ref a) "dict":=⟨o,e1,e2.1⟩
 have hes:es.size<=aY:=by rw[hl];exact hz
 have hkey:=qQ (P:=X.prog) (w:=X.w) I.fw hb
 have his:∀x∈ys,(kY (eP X.prog X.w)).is s.heap x.1 x.2.1:=λx hx=>by
  obtain⟨i,hi⟩:=bE.mp hx
  obtain⟨p,hp⟩:∃p,kvs[i]?=some p:=⟨kvs[i]'(by rw[Paired.len rel];exact(av.mp hi).1),by simp⟩
  obtain⟨x',hx',r1,r2,_⟩:=L2.Paired.at rel hp;rw[hi]at hx';cases hx';rw[← r1];exact qQ I.fw r2
 have rel:KT H kvs ys:=rel;have ev:=KT.val rel k;rw[hy]at ev;have hroom:(kY (eP X.prog X.w)).room X.A.in1:=jP (by lia)
 have hnd:(kvs.map (·.1)).Nodup:=by rw[N0 rel];exact e5
 refine de F.slot_dict_pop hT F.entry_dict_pop ?_ (F.args_dict_pop_2 _ _);unfold jt.«dict.pop» Builtin.Dict.keyAndDefault;refine ae (ae (V0 hT ?_))
 show aO _ _ (pure (a,aD b,none)) _ _ s
 refine ar ?_
 have hne:es.isEmpty=false:=by
  cases e:es.isEmpty with
  |false=>rfl
  |true=>
   have:es.size=0:=by simpa[Array.isEmpty]using e
   have:kvs=[]:=jk (by lia);subst this;cases hy
 show aO _ _ (dictEntries a >>= _) _ _ s
 refine ae (mY e1 e3 ?_);simp only[hne,bN,if_false,pure_bind];refine ae ?_;unfold Builtin.Dict.takeOut
 try with_reducible refine cJ ?_
 refine ae ((kY (eP X.prog X.w)).pyHash hroom hkey ?_);refine ae (wpAny_dictFind_heap (s:={ s with toks:=s.toks+(kY (eP X.prog X.w)).draws k }) hroom hkey e1 e3 e4 his e5 (λhno=>?_) λj p hj=>?_)
 .rw [atKey_none_of_get hno]at ev;exact ev.elim
 .have ep':He ys k=some p:=atKey_of_get e5 hj;rw[ep']at ev;have ev:RelV y p.2:=ev;refine ae (mY (s:={ s with toks:=s.toks+(kY (eP X.prog X.w)).draws k }) e1 e3 ?_);rw[entry_at e4 j,hj];refine ae (wpAny_updateDictKeys (hz:=hes) (s:={ s with toks:=s.toks+(kY (eP X.prog X.w)).draws k }) e1 e3 (ar ?_));simp only[jr,O0,bN,if_false];refine ae (Kg (ar ⟨_,rfl,y,upd H a (.dT (mf kvs k)),?_,ev,q⟩))
  have hk2:kvs[j]?=some (k,y):=by
   have hjl:j<kvs.length:=by rw[Paired.len rel];exact(av.mp hj).1
   obtain⟨x',hx',r1,_⟩:=L2.Paired.at rel (aB hjl);rw[hj]at hx';cases hx'
   have e:kvs[j]?=some (k,kvs[j].2):=by rw[aB hjl];have r1:kvs[j].1=k:=r1;exact congrArg some (O2 r1 rfl)
   have:=yH hnd e;rw[hy]at this;rw[e,← aX this]
  have hrel:KT H (mf kvs k) (ys.eraseIdx j):=by rw[← AY hnd hk2];exact Paired.eraseIdx rel j
  refine vE I (by rw[ha];exact gi) (c9 ..) ⟨_,bD _ e1 (SE (xr e3 _))⟩
   ⟨bw (b0 _ _) hz,lo,_,hrel.keeps λc zs ec=>?_,_,_,ep+1,bD _ e1 (SE (xr e3 _)),e2.mapDictKeys _,xr e3 _,?_,?_⟩
  .rw [aF (dO ec ha nofun)];exact ec
  .have:(es.eraseIdxIfInBounds j).toList=es.toList.eraseIdx j:=by obtain⟨l⟩:=es;simp
   rw[this,e4,EI]
  .exact (vt _ (List.eraseIdx_sublist _ _)).nodup e5
namespace Rv
theorem KE:Ei (.type "list_reverseiterator") "__len__"=pure none:=by rw[lW,iJ];kernel_rfl
theorem Qp:Ei (.type "list_reverseiterator") "__length_hint__"=pure (some (.builtin "list_reverseiterator.__length_hint__")):=by rw[lW,iJ];kernel_rfl
section
variable{prog:bI}{A:cT}{E:ak->aA->Prop}{s:aA}{I l:ai}
theorem KF{Q:Bool->aA->Prop}(ty:s.TypeIs (.ref I) "list_reverseiterator")(h:Q false s):aO (aR prog w) A (eZ (.ref I)) Q E s:=by
 unfold eZ;refine ae (pS ty KE ?_)
 show aO _ A (specialOf (aD I) (iP "__length_hint__") >>= _) _ _ _
 refine ae (pS ty Qp ?_);generalize hid:("list_reverseiterator.__length_hint__":String)=id0
 wp_delta
 rw[show splitId id0=some ("list_reverseiterator","__length_hint__")from by subst hid;decide +kernel];subst hid;refine ae (lg (T:="list_reverseiterator") (b:=true) ty (by rw[Ab];kernel_rfl) ?_);exact ar h
theorem KG{S c₀:Nat}{R:JY->aA->Prop}{fp wr:List ai}{G:Array zZ->Array zZ->Prop}{St:Nat->aA->Prop}(W:WalksS prog w A.in1 I fp wr G n P St)(ty:∀i s,St i s->s.TypeIs (.ref I) "list_reverseiterator")(res:ak)(hst:St 0 s)(hSf:S∉fp)(hI:I∈fp)(hS:s.heap.get? S=some { cls:=.type "list",data:=.seq #[] c₀ })(hn:n<=aY)(hR:∀s' acc' c',Moved (S::wr) G s s'->s'.heap.get? S=some { cls:=.type "list",dict:=none,data:=.seq acc' c',slots:=#[] }->UF P acc' n->R (.ok (.ret res)) s'):aO (aR prog w) A.in1 (cV (.ref S) (.ref I) res) (λfin s'=>match fin with | .done f=>R (.ok f) s' | .again c'=>c'.quiet=true/\jO (aR prog w) A c' R s') (λe s'=>R (.error e) s') s:=by
 have hSI:S≠I:=λe=>hSf (e▸hI);unfold cV;refine ae (Hi (ty 0 _ hst) ?_)
 have h1:fJ (.ref S) (.ref I)=false:=by simp[fJ,hSI]
 have h2:(dD "list_reverseiterator" == dD "list")=false:=by decide
 have h3:(dD "list_reverseiterator" == dD "tuple")=false:=by decide
 simp only[h1,h2,h3,Ke,bN,if_false];refine ae (W.self 0 _ _ _ hst (ae (cJ (KF (ty 0 _ hst) ?_))));refine iX (λ_=>?_) (λ_=>ar ⟨gP F.plain_extend_loop _,Ac W hn _ hSf _ n 0 _ _ _ rfl (aK _) hst hS (Mn P) hR⟩);refine ae (ib (ae ?_))
 show aO _ A.in1 (vi S (·.push .none) >>= λ_=>vi S (·.pop)) _ _ _
 refine ae (jU hS rfl ?_);have g2:=bD (bz (·.push dZ)) hS rfl;refine jU (hz:=by seq_fits) g2 rfl ?_;have g3:=bD (bz (·.pop)) g2 rfl
 have oth:∀b o,b≠S->s.heap.get? b=some o->((s.heap.update S (bz (·.push dZ))).update S (bz (·.pop))).get? b=some o:=
  λb o hb e=>(bh _ _ (Ne.symm hb)).trans ((bh _ _ (Ne.symm hb)).trans e)
 refine ar ⟨gP F.plain_extend_loop _,Ac W hn _ hSf _ n 0 _ _ _ rfl (aK _) (W.frame 0 s _ s.toks hst (ay _) λb hb o e=>oth b o (λh=>hSf (h▸hb)) e) g3 (Mn P) λs' acc' c' hm hS' hacc=>?_⟩;exact hR s' acc' c' (OL W.gtrans ((Moved.refl W.grefl).then_heap (ay _) λb o hb e=>oth b o (λh=>hb (h▸aj)) e) hm) hS' hacc
theorem xJ{Q:ak->aA->Prop}{fp wr:List ai}{G:Array zZ->Array zZ->Prop}{St:Nat->aA->Prop}(W:WalksS prog w A.in1.in1 I fp wr G n P St)(ty:∀i s,St i s->s.TypeIs (.ref I) "list_reverseiterator")(hst:St 0 s)(hfp:∀b∈fp,b<s.heap.objs.size)(hI:I∈fp)(hn:n<=aY)(hQ:∀s' acc' c',Moved (s.heap.objs.size::wr) G { s with heap:=s.heap.push { cls:=.type "list",data:=.seq #[] } } s'->s'.heap.get? s.heap.objs.size=some { cls:=.type "list",dict:=none,data:=.seq acc' c',slots:=#[] }->UF P acc' n->Q (.ref s.heap.objs.size) s'):aO (aR prog w) A (call (.type "list") [.ref I]) Q E s:=by
 have hSf:s.heap.objs.size∉fp:=λhm=>e9 _ (hfp _ hm);refine callType_codes (Q₁:=λobj s₁=>obj=.ref s.heap.objs.size/\s₁={ s with heap:=s.heap.push { cls:=.type "list",data:=.seq #[] } }) F.called_list (F.typeCall_list_1 _) F.entry_list_init (code_list_new _ ⟨rfl,rfl⟩) ?_;rintro obj s₁ ⟨rfl,rfl⟩;have hS:(s.heap.push { cls:=.type "list",data:=.seq #[] }).get? s.heap.objs.size=some { cls:=.type "list",data:=.seq #[] }:=aM _ rfl;refine⟨⟨_,hS,rfl⟩,F.args_list_init_2 _ _,?_⟩
 show aO _ _ (do let old ← oX (.ref s.heap.objs.size);gf (.ref s.heap.objs.size) (λ_=>#[]);letGo old.toList.reverse;cV (.ref s.heap.objs.size) (.ref I) .none) _ _ _
 refine ae (xq hS rfl (ae (jW hS rfl (ae (Kg ?_)) (aK _) (aK _))));have g2:=bD (bz (λ_=>(#[]:Array ak))) hS rfl
 have oth:∀b o,b≠s.heap.objs.size->(s.heap.push { cls:=.type "list",data:=.seq #[] }).get? b=some o->((s.heap.push { cls:=.type "list",data:=.seq #[] }).update s.heap.objs.size (bz (λ_=>(#[]:Array ak)))).get? b=some o:=
  λb o hb e=>(bh _ _ (Ne.symm hb)).trans e
 refine KG (A:=A.in1) (s:={ s with heap:=(s.heap.push { cls:=.type "list",data:=.seq #[] }).update s.heap.objs.size (bz (λ_=>(#[]:Array ak))) }) W ty .none (W.frame 0 s _ s.toks hst (ay _) λb hb o e=>oth b o (λh=>hSf (h▸hb)) (ao _ e)) hSf hI g2 hn λs' acc' c' hm hS' hacc=>?_;exact⟨rfl,hQ s' acc' c' (OL W.gtrans ((Moved.refl (s:={ s with heap:=s.heap.push { cls:=.type "list",data:=.seq #[] } }) W.grefl).then_heap (ay _) λb o hb e=>oth b o (λh=>hb (h▸aj)) e) hm) hS' hacc⟩
end
end Rv
def Qq(K:aa)(t:TA):TE:=λZ H Q=>t Z H λvs H1=>∃a xs,vs=[.ref a]/\c6 K H1 a xs/\∀p,H1 p=none->Q (.ref p) (upd H1 p (.lst xs.reverse))
theorem Xb{K:aa}{Z:St}{Q:VK}(h:t Z H λvs H1=>∃a xs,vs=[.ref a]/\c6 K H1 a xs/\∀p,H1 p=none->Q (.ref p) (upd H1 p (.lst xs.reverse))):Qq K t Z H Q:=h
section
variable{x:Expr}{p1 p2 q1 q2:xu}
theorem TN(hc:X.calm=true)(hgl:Gl X "list")(hml:X.mg "list"=none)(hgz:Gl X "reversed")(hmz:X.mg "reversed"=none)(ha:PA X [x] t)(he:bL [.Call (.Name "reversed" p1) [x] [] p2] X.env=[(false,fz (.Call (.Name "reversed" p1) [x] [] p2) X.env)]:=by rfl)(he2:bL [x] X.env=(false,fz x X.env)::bL [] X.env:=by rfl)(hpl:(iA p2 (bL [] X.env)).any (·.1)=false:=by rfl):PE X (.Call (.Name "list" q1) [.Call (.Name "reversed" p1) [x] [] p2] [] q2) (Qq X.K t):=by
 intro pins s Z H Q I h;refine eE (nj I hgl hml BootT.list (dI ?_ he rfl));rw[he]
 show aO _ _ (UA ((false,fz (.Call (.Name "reversed" p1) [x] [] p2) X.env)::iA q2 (bL [] X.env))) _ _ s
 refine jh (eE (nj I hgz hmz BootT.Qo (dI (hZ (ha p2 pins s Z H _ I h) λus s1 ⟨vs,H1,I1,r1,q⟩=>?_) he2 hpl)));obtain⟨a,xs,rfl,hA,k⟩:=q;obtain⟨u,rfl,ru⟩:=vals1 r1;cases ru;obtain⟨its,rv,pl,hz⟩:=I1.list hA;have hlen:=rv.length
 have al:a<s1.heap.objs.size:=by obtain⟨_,e,_⟩:=pl.isList;exact aJ e
 have I2:Inv X pins Z H1 { s1 with heap:=s1.heap.push (Ad a ((its.toArray.size:Int)-1)) }:=I1.kept (t':=s1.toks) λb o e=>ao _ e;refine call_reversed_list pl.isList (lO ?_)
 have st0:(s1.heap.push (Ad a ((its.toArray.size:Int)-1))).IsRevIter s1.heap.objs.size a ((its.toArray.size:Int)-1-((0:Nat):Int)):=⟨_,aM _ rfl,rfl,by simp[Ad]⟩
 have il:(s1.heap.push (Ad a ((its.toArray.size:Int)-1))).IsList a its.toArray:=pl.isList.at λo e=>ao _ e;refine Rv.xJ (s:={ s1 with heap:=s1.heap.push (Ad a ((its.toArray.size:Int)-1)) }) (Walks.listRev (A:=X.A.in1.in1) (I1.ok.hd hc) s1.heap.objs.size a (bg al) its.toArray).toS (λi s st=>st.2.1.typeIs) ⟨aK _,st0,il⟩ (λb hb=>?_) (by simp) (by rw[aQ];lia) λs' acc c hm hS hacc=>?_
 .have:(s1.heap.push (Ad a ((its.toArray.size:Int)-1))).objs.size=s1.heap.objs.size+1:=gI ..
  show b<(s1.heap.push (Ad a ((its.toArray.size:Int)-1))).objs.size
  rw[this]
  rcases aw.mp hb with rfl|hb
  .exact ip _
  .rw [ax.mp hb];exact mC al
 .have es:s'={ s1 with heap:=s'.heap,toks:=s'.toks }:=by have e:=Yo hm;exact e
  have hsz:(s1.heap.push (Ad a ((its.toArray.size:Int)-1))).objs.size=s1.heap.objs.size+1:=gI ..
  have old:∀b o,s1.heap.get? b=some o->s'.heap.get? b=some o:=λb o e=>by
   have hb:=aJ e;refine hm.heap b o (λhmem=>?_) (ao _ (ao _ e))
   rcases aw.mp hmem with z|z
   .rw [show({ s1 with heap:=s1.heap.push (Ad a ((its.toArray.size:Int)-1)) }:aA).heap.objs.size=s1.heap.objs.size+1 from hsz]at z;rw[z]at hb;exact Nat.not_succ_le_self _ (kh (br hb (ay _)))
   .rw [ax.mp z]at hb;exact e9 _ hb
  have eacc:acc.toList=its.reverse:=by
   apply lX
   intro j
   cases e:acc.toList[j]? with
   |some v=>
    have q:=hacc.2 j v (by rw[← dk];exact e)
    have hj:j<its.length:=by have:=(av.mp e).1;rw[aS,hacc.1,aQ]at this;exact this
    rw[List.getElem?_reverse hj];simp only[aQ,uG]at q
    exact q.symm
   |none=>
    have:its.length<=j:=by have:=J2.mp e;rw[aS,hacc.1,aQ]at this;exact this
    exact(dm (by rw[Sj];exact this)).symm
  rw[show({ s1 with heap:=s1.heap.push (Ad a ((its.toArray.size:Int)-1)) }:aA).heap.objs.size=s1.heap.objs.size+1 from hsz]at hS ⊢;rw[es];refine⟨.ref (s1.heap.objs.size+1),_,I1.laid (t':=s'.toks) (o:=.lst xs.reverse) old (gN _) ⟨by rw[Sj];exact hz,its.reverse,c,rv.reverse,?_⟩,rfl,k _ (I1.fw.fresh (gN _))⟩;rw[hS,← eacc]
end
end L2
namespace Sw
open PySem
variable{t:lQ}{xs:Array Nat}
def yu(xs:Array Nat):Prop:=xs.toList.Pairwise (· < ·)
theorem yu.lt(h:yu xs){i j a b:Nat}(hij:i<j)(h1:xs[i]?=some a)(h2:xs[j]?=some b):a<b:=by rw[← dk]at h1 h2;obtain⟨hi,e1⟩:=av.mp h1;obtain⟨hj,e2⟩:=av.mp h2;have:=km.mp h i j hi hj hij;rw[e1,e2]at this;exact this
theorem AZ{j:Nat}(h:yu xs):∀(fuel lo hi:Nat),lo<=hi->hi<=xs.size->hi-lo<=fuel->(∀i a,i<lo->xs[i]?=some a->a<j)->(∀i a,hi<=i->xs[i]?=some a->j<=a) ->(m6 xs j fuel lo hi<=xs.size/\(∀i a,i<m6 xs j fuel lo hi->xs[i]?=some a->a<j)/\∀i a,m6 xs j fuel lo hi<=i->xs[i]?=some a->j<=a)
 | 0,lo,hi,h1,h2,h3,h4,h5=>by
  have:lo=hi:=by lia
  subst this
  exact⟨h2,h4,h5⟩
 |fuel+1,lo,hi,h1,h2,h3,h4,h5=>by
  unfold m6
  by_cases c:lo<hi
  .rw [if_pos c]
   have hm:(lo+hi)/2<xs.size:=by lia
   have em:xs[(lo+hi)/2]?=some xs[(lo+hi)/2]:=cg hm
   have eg:xs.getD ((lo+hi)/2) j=xs[(lo+hi)/2]:=by simp[Sk,hm]
   simp only[eg]
   by_cases c2:xs[(lo+hi)/2]<j
   .rw [if_pos c2];refine AZ h fuel _ _ (by lia) h2 (by lia) (λi a hi' ha=>?_) h5
    by_cases e:i=(lo+hi)/2
    .subst e;rw[em]at ha;cases ha;exact c2
    .exact OH (h.lt (show i<(lo+hi)/2 by lia) ha em) c2
   .rw [if_neg c2];refine AZ h fuel _ _ (by lia) (by lia) (by lia) h4 (λi a hi' ha=>?_)
    by_cases e:i=(lo+hi)/2
    .subst e;rw[em]at ha;cases ha;lia
    .have:=h.lt (show(lo+hi)/2<i by lia) em ha;lia
  .rw [if_neg c]
   have:lo=hi:=by lia
   subst this;exact⟨h2,h4,h5⟩
theorem A1(h:yu xs)(j:Nat):dF xs j<=xs.size/\(∀i a,i<dF xs j->xs[i]?=some a->a<j)/\∀i a,dF xs j<=i->xs[i]?=some a->j<=a:=
 AZ h _ _ _ (aK _) (ay _) (by lia) (λi a hi=>absurd hi (by lia)) λi a hi ha=>by have:=(cE.mp ha).1;lia
theorem Im(h:yu xs){k p:Nat}(hk:k=0/\p=0\/∃k',k=k'+1/\∃a,xs[k']?=some a/\p=a+1):dF xs p=k:=by
 obtain⟨h1,h2,h3⟩:=A1 h p
 rcases hk with⟨rfl,rfl⟩|⟨k',rfl,a,ha,rfl⟩
 .by_cases e:dF xs 0=0
  .exact e
  .have:xs[0]?=some xs[0]:=cg (by lia);have:=h2 0 _ (by lia) this;lia
 .have hk:=(cE.mp ha).1
  rcases Nat.lt_trichotomy (dF xs (a+1)) (k'+1)with c|c|c
  .have:=h3 k' a (by lia) ha;lia
  .exact c
  .have e:xs[k'+1]?=some (xs[k'+1]'(by lia)):=cg (by lia);have q1:=h2 (k'+1) _ c e;have q2:=h.lt (show k'<k'+1 by lia) ha e;lia
theorem yu.insert(h:yu xs){j:Nat}(hj:xs[dF xs j]?≠some j):yu (SetTable.insertAt xs (dF xs j) j):=by
 obtain⟨h1,h2,h3⟩:=A1 h j;generalize dF xs j=p at h1 h2 h3 hj;unfold yu;rw[SetTable.toList_insertAt];have e:xs.toList=xs.toList.take p++xs.toList.drop p:=(dr _ _).symm
 have hp:(xs.toList.take p++xs.toList.drop p).Pairwise (· < ·):=by rw[← e];exact h
 rw[gK]at hp;obtain⟨p1,p2,p3⟩:=hp
 have m1:∀a∈xs.toList.take p,a<j:=λa ha=>by
  obtain⟨i,hi⟩:=bE.mp ha;rw[lj]at hi
  split at hi
  .exact h2 i a (by assumption) (by rw[← dk];exact hi)
  .cases hi
 have m2:∀a∈xs.toList.drop p,j<a:=λa ha=>by
  obtain⟨i,hi⟩:=bE.mp ha;rw[oY,dk]at hi;have q:=h3 (p+i) a (by lia) hi
  rcases Nat.lt_or_eq_of_le q with q|q
  .exact q
  .subst q
   cases i with
   |zero=>exact absurd hi hj
   |succ i=>
    have e0:xs[p]?=some (xs[p]'(by have:=(cE.mp hi).1;lia)):=cg _;have q1:=h3 p _ (ay _) e0;have q2:=h.lt (show p<p+(i+1) by lia) e0 hi;lia
 rw[gK];refine⟨p1,List.pairwise_cons.mpr ⟨m2,p2⟩,λa ha b hb=>?_⟩
 rcases aw.mp hb with rfl|hb
 .exact m1 a ha
 .exact p3 a ha b hb
structure TI(t:lQ):Prop where
 rise:yu t.place
 nod:t.dummies=#[]
theorem MM(j:Nat):Hw #[] j=false:=by simp[Hw]
theorem Io(h:TI t){hashAt:Nat->Int}{hh:Int}:∀(fuel:Nat) (p:SetTable.Probe) {j:Nat}{d:Option Nat},sQ t hashAt hh fuel p=some (.empty j d)->p.dummy=none->d=none/\t.place[dF t.place j]?≠some j
 | 0,p,j,d,e,_=>by simp[sQ]at e
 |fuel+1,p,j,d,e,hd=>by
  unfold sQ at e
  have adv:(t.advance p).dummy=none:=by unfold SetTable.advance;split<;>exact hd
  cases hs:t.slot p.j with
  |empty=>
   rw[hs]at e;simp only[gh,V2]at e;obtain⟨rfl,rfl⟩:=e;refine⟨hd,λz=>?_⟩;unfold UG at hs
   simp[z]at hs
  |dummy=>
   unfold UG at hs;rw[h.nod]at hs;simp only[MM]at hs
   split at hs<;>simp at hs
  |live i=>
   rw[hs]at e;simp only at e
   split at e
   .simp at e
   .exact Io h fuel _ e adv
theorem N2(h:TI t){hh:Int}{j:Nat}{b:Bool}(e:t.freeSlot hh=some (j,b)):t.place[dF t.place j]?≠some j:=by
 unfold SetTable.freeSlot at e
 split at e
 .rename_i j' d he
  obtain⟨e1,e2⟩:=Io h _ _ he rfl;subst e1;simp at e;rw[← e.1];exact e2
 .cases e
theorem TI.standIn(t:lQ)(n:Nat):TI (t.standIn n):=⟨by unfold yu SetTable.standIn;simp only[Array.toList_range];exact Nt,rfl⟩
theorem TI.orStandIn(h:TI t)(n:Nat):TI (t.orStandIn n):=by
 unfold Nu
 split
 .exact h
 .exact TI.standIn t n
theorem TI.put(h:TI t){j:Nat}(hj:t.place[dF t.place j]?≠some j):TI (t.put j).1:=by
 refine⟨h.rise.insert hj,?_⟩
 show(if Hw t.dummies j then _ else t.dummies)=#[]
 rw[h.nod,MM,if_neg (by decide)]
theorem TI.layNew(h:TI t)(es:Array (Int×ak))(hh:Int)(x:ak):TI (Ae t es hh x).2.1:=by
 unfold Ae
 split
 .rename_i slot wd he
  exact(h.put (N2 h he)).orStandIn _
 .exact TI.standIn t _
theorem TI.relayAll(es:Array (Int×ak))(wanted:Nat):TI (vj t es wanted).2.1:=by
 unfold vj
 split
 .rename_i t' order he
  dsimp only
  split
  .unfold Sl UH at he;simp only[OM,J3,UI,gh]at he;obtain⟨owner,_,he⟩:=he;have:=(cp he).1;subst this;refine⟨?_,rfl⟩
   show((fh _).filterMap _ |>.map _).toArray.toList.Pairwise _
   rw[List.toList_toArray,List.map_filterMap]
   have:(λx=>xD (λy:Nat×Nat=>y.1) (xD (λy=>(x,y)) (owner.getD x none)))=λx=>xD (λ_=>x) (owner.getD x none):=by funext x;cases owner.getD x none<;>rfl
   refine List.Pairwise.filterMap _ (λa b hab c hc d hd=>?_) Nt;cases ha:owner.getD a none<;>rw[ha]at hc<;>simp at hc;cases hb:owner.getD b none<;>rw[hb]at hd<;>simp at hd;lia
  .exact TI.standIn t _
 .exact TI.standIn t _
theorem TI.off(h:TI t):TI { t with plain:=false }:=⟨h.rise,h.nod⟩
theorem TI.fresh(a b:Nat)(c:Bool):TI (SF a b c):=⟨by simp[yu,SF],rfl⟩
theorem KH(t:lQ)(es:Array (Int×ak))(hh:Int)(x:ak):(Ae t es hh x).2.1.led=t.led:=by
 unfold Ae
 split
 .simp only[Nu];split<;>rfl
 .rfl
theorem FN(t:lQ)(es:Array (Int×ak))(wanted:Nat):(vj t es wanted).2.1.led=t.led:=by
 unfold vj
 split
 .rename_i t' order he
  dsimp only
  split
  .unfold Sl UH at he;simp only[OM,J3,UI,gh]at he;obtain⟨owner,_,he⟩:=he;have:=(cp he).1;subst this
   rfl
  .rfl
 .rfl
end Sw
namespace Sw
variable{a:ai}{ks:List Int}{h:cR}
def key(e:Int×ak):Int:=match e.2 with | .int i _=>i|_=>0
section
variable{prog:bI}{w:cC}
def SO(prog:bI)(w:cC)(bt:Bool)(h:cR)(a:ai)(ks:List Int):Prop:=
 ∃o es ep t,h.get? a=some o/\o.ExactSet/\o.data=.set es ep t/\ElemsOf (mT prog w) es.toList/\(∀e∈es.toList,∃u,e.2=.int (key e) u)/\es.size<vk/\t.fits es.size=true/\TI t/\t.led=!bt/\ks=es.toList.map key/\ks.Nodup
theorem SO.keep{bt:Bool}{h':cR}(x:SO prog w bt h a ks)(k:∀o,h.get? a=some o->h'.get? a=some o):SO prog w bt h' a ks:=
 let ⟨o,es,ep,t,e,r⟩:=x;⟨o,es,ep,t,k o e,r⟩
theorem SO.lt{bt:Bool}(x:SO prog w bt h a ks):a<h.objs.size:=let ⟨_,_,_,_,e,_⟩:=x;aJ e
variable{A:cT}{E:ak->aA->Prop}{s:aA}
theorem Ip{g:Bool->Uz Unit}(hg:∀(b:Bool) (s₁:aA) (Q':Unit->aA->Prop),Q' () s₁->aO (aR prog w) A (g b) Q' E s₁){a:ai}{o:jv}{es:Array (Int×ak)}{ep:Nat}{t:lQ}(ho:s.heap.get? a=some o)(hd:o.data=.set es ep t){es1:Array (Int×ak)}{t2:lQ}(hb1:es1.size<vk)(hf2:t2.fits es1.size=true)(ti:TI t2){wasDummy:Bool}{R:Option Bool->aA->Prop}(h:∀h' es2 ep2 t3,ia a s.heap h'->h'.get? a=some { o with data:=.set es2 ep2 t3 }->es2.toList.Perm es1.toList->t3.fits es2.size=true->TI t3->t3.led=t2.led->R (some true) { s with heap:=h' }):aO (aR prog w) A (do
  storeSet a es1 t2
  if(!wasDummy && t2.tooFull)=true then do
   g (relayAll t2 es1 (iR es1.size)).2.2
   storeSet a (relayAll t2 es1 (iR es1.size)).1 (relayAll t2 es1 (iR es1.size)).2.1
   pure (some true)
   else pure (some true)) R E s:=by
 refine ae (wpAny_storeSet_of ho hd ?_ (Hl hb1))
 have g1:(s.heap.update a (tL es1 t2)).get? a=some { o with data:=.set es1 (ep+1) t2 }:=by have:=bD (tL es1 t2) ho (by rw[putSet_of es1 t2 hd];rfl);rw[putSet_of es1 t2 hd]at this;exact this
 have b1:=c9 s.heap a (tL es1 t2)
 split
 .have hp:=relayAll_perm t2 es1 (iR es1.size);have hfr:=relayAll_fits t2 es1 (iR es1.size);have tir:=TI.relayAll (t:=t2) es1 (iR es1.size);have lr:=FN t2 es1 (iR es1.size);generalize relayAll t2 es1 (iR es1.size)=Rl at hp hfr tir lr ⊢;obtain⟨es2,t3,gave2⟩:=Rl;dsimp only at hp hfr tir lr ⊢
  have hsz:es2.size=es1.size:=by rw[← aS,hp.length_eq,aS]
  refine ae (hg _ _ _ (ae (wpAny_storeSet_of g1 rfl ?_ (Hl (by rw[hsz];exact hb1)))));have g2:((s.heap.update a (tL es1 t2)).update a (tL es2 t3)).get? a=some { o with data:=.set es2 (ep+1+1) t3 }:=bD (tL es2 t3) g1 rfl;exact ar (h _ es2 _ t3 (b1.trans (c9 _ a _)) g2 hp hfr tir lr)
 .exact ar (h _ es1 _ t2 b1 g1 (sr _) hf2 ti rfl)
theorem Xc{bt:Bool}{k:Int}{u:Yj}{Q:Bool->aA->Prop}(hS:SO prog w bt s.heap a ks)(hroom:ks.length+1<vk)(h:∀h' ks' b,ia a s.heap h'->SO prog w bt h' a ks'->(∀x,x∈ks'↔x∈ks\/x=k)->ks'.length<=ks.length+1->Q b { s with heap:=h' }):aO (aR prog w) A (setAddHashed a (.int k u) ((mT prog w).hash k)) Q E s:=by
 obtain⟨o,es,ep,t,ho,hex,hd,hel,hin,hb,hf,ti,hled,rfl,hnd⟩:=hS;have hsc:(gO k u).scannable=true:=rfl;have hkey:(mT prog w).is k (.int k u)=true:=intKind_is _ _ _ _
 have hisk:∀e∈es.toList,((mT prog w).is k e.2=true↔key e=k):=λe he=>by obtain⟨v,hv⟩:=hin e he;rw[hv,KeyKind.is_eq_decide (intKind_is prog w (key e) v) k,decide_eq_true_iff];exact eq_comm
 unfold setAddHashed setAddHashedIn;refine cJ (ae (iZ ho hd hf ?_));dsimp only;rw[byScan_of hsc hb hel];simp only[↓reduceIte];unfold setAddByScan;refine ae (ae (ib (ae (wpAny_setScan_of hkey ho hd hf hel ?_))))
 cases hr:List.findIdx? (λe=>(mT prog w).is k e.2) es.toList with
 |some j=>
  dsimp only;obtain⟨hj,hpj,_⟩:=List.findIdx?_eq_some_iff_getElem.mp hr;have hm:k∈es.toList.map key:=aI.mpr ⟨es.toList[j],kd hj,(hisk _ (kd hj)).mp hpj⟩;refine ar (ar ?_)
  have e:s={ s with heap:=s.heap }:=by cases s;rfl
  rw[e]
  exact h s.heap _ _ (Heap.SameBut.refl a s.heap) ⟨o,es,ep,t,ho,hex,hd,hel,hin,hb,hf,ti,hled,rfl,hnd⟩ (λx=>⟨.inl,λq=>q.elim id λe=>e▸hm⟩) (gN _)
 |none=>
  dsimp only
  have hnm:k∉es.toList.map key:=λhm=>by obtain⟨e,he,ek⟩:=aI.mp hm;have:=List.findIdx?_eq_none_iff.mp hr e he;rw[(hisk e he).mpr ek]at this;exact Bool.noConfusion this
  have hgw:∀(b:Bool) {s₁:aA} {Q':Unit->aA->Prop},Q' () s₁->aO (aR prog w) A (match b with|true=>CO "set.scan.the-table-gave-way" | false=>pure ()) Q' E s₁:=
   λb s₁ Q' hq=>by cases b<;>first|exact ar hq|exact ib hq
  have hperm:=layNew_perm t es ((mT prog w).hash k) (.int k u);have hfits:=layNew_fits t es ((mT prog w).hash k) (.int k u);have tin:=ti.layNew es ((mT prog w).hash k) (.int k u);have ledn:=KH t es ((mT prog w).hash k) (.int k u);generalize layNew t es ((mT prog w).hash k) (.int k u)=L at hperm hfits tin ledn ⊢;obtain⟨es1,t1,wasDummy,gave⟩:=L;dsimp only at hperm hfits tin ledn ⊢;rw[Aa]at hperm
  have hsz1:es1.size=es.size+1:=by rw[← aS,hperm.length_eq,bj,aS];rfl
  rw[af,aS]at hroom
  have hb1:es1.size<vk:=by lia
  refine ae (hgw _ ?_)
  have hend:∀(h':cR) (es2:Array (Int×ak)) (ep2:Nat) (t2 t3:lQ),t2.led=t1.led->ia a s.heap h'->h'.get? a=some { o with data:=.set es2 ep2 t3 }->es2.toList.Perm es1.toList->t3.fits es2.size=true->TI t3->t3.led=t2.led->Q true { s with heap:=h' }:=by
   intro h' es2 ep2 t2 t3 l2 sb g2 hp2 hf3 ti3 l3;have hpp:=hp2.trans hperm;have hpk:=hpp.map key;rw[aH]at hpk;have ek:[((mT prog w).hash k,gO k u)].map key=[k]:=rfl;rw[ek]at hpk
   have hs2:es2.size=es.size+1:=by rw[← aS,hp2.length_eq,aS];exact hsz1
   refine h h' (es2.toList.map key) true sb ⟨_,es2,ep2,t3,g2,hex,rfl,(hel.push hkey hsc).perm hpp,λe he=>?_,by lia,hf3,ti3,by rw[l3,l2,ledn,hled],rfl,?_⟩ (λx=>?_) (by rw[af,af,aS,aS];lia)
   .rcases aL.mp (hpp.mem_iff.mp he)with he|he
    .exact hin e he
    .rw [ax.mp he];exact⟨u,rfl⟩
   .exact hpk.nodup_iff.mpr (L2.MC hnd hnm)
   .rw [hpk.mem_iff,aL,ax]
  split
  .refine ae ?_;rw[hashByValue_scannable 8 hsc];refine ar ?_;refine Ip (λb s₁ Q' hq=>by cases b<;>first|exact ar hq|exact ib hq) ho hd hb1 ?_ ?_ ?_
   .split
    .exact hfits
    .exact SetTable.fits_plain_off hfits
   .split
    .exact tin
    .exact tin.off
   .intro h' es2 ep2 t3 q1 q2 q3 q4 q5 q6;dsimp only;refine ar (hend h' es2 ep2 _ t3 ?_ q1 q2 q3 q4 q5 q6)
    split<;>rfl
  .refine ae (ar ?_);simp only[↓reduceIte];refine Ip (λb s₁ Q' hq=>by cases b<;>first|exact ar hq|exact ib hq) ho hd hb1 hfits tin ?_;intro h' es2 ep2 t3 q1 q2 q3 q4 q5 q6;dsimp only;exact ar (hend h' es2 ep2 _ t3 rfl q1 q2 q3 q4 q5 q6)
end
end Sw
namespace Sw
abbrev bt(w:cC):Bool:=w.params.followText "set-order"
section
variable{prog:bI}{w:cC}{A:cT}{E:ak->aA->Prop}{s:aA}
theorem Qr(a:ak){Q₁:ak->aA->Prop}(h:Q₁ (.ref s.heap.objs.size) { s with heap:=s.heap.push { cls:=.type "set",dict:=none,data:=.set #[] 0 (.fresh 0 0 (!bt w)) } }):jO (aR prog w) A (.call (.builtin "set.__new__") ⟨[.type "set",a],[]⟩) (wants Q₁ E) s:=by
 refine codeAny_of_tree ?_
 show aO _ A.in1 (do checkBuiltinCall "set.__new__" ⟨[.type "set",a],[]⟩;again (.builtin "set.__new__" ⟨[.type "set",a],[]⟩)) _ _ s
 refine ae (Kh (F.newCall_set_1 a) (ar ⟨gP F.plain_set_new _,gB F.entry_set_new ?_⟩));rw[dU F.plain_set_new _];unfold jt.«set.__new__» XX;have hsub:=sub_set_self;obtain⟨hp,g,d,tk,os⟩:=s;dsimp only
 wp_walk
 refine iE (ar ?_);dsimp only;simp only[newObj];refine ae (wpAny_alloc (ar ?_));exact ar h
theorem TQ{R:JY->aA->Prop}{I:ai}{fp wr:List ai}{G:Array zZ->Array zZ->Prop}{n:Nat}{P:Nat->ak->Prop}{St:Nat->aA->Prop}(W:WalksS prog w A.in1 I fp wr G n P St)(S:ai)(hSf:S∉fp)(ns:List Int)(hl:ns.length=n)(hval:∀i v,P i v->∃k t,ns[i]?=some k/\v=.int k t)(hb:n+1<vk):∀(k i:Nat) (s:aA) (ks:List Int),n-i=k->i<=n->St i s->SO prog w (bt w) s.heap S ks->(∀x,x∈ks↔x∈ns.take i)->ks.length<=i ->(∀s' ks',Moved (S::wr) G s s'->SO prog w (bt w) s'.heap S ks'->(∀x,x∈ks'↔x∈ns)->ks'.length<=n->R (.ok (.ret .none)) s') ->jO (aR prog w) A (.builtin "set.update.loop" ⟨[.ref S,.ref I],[]⟩) R s:=by
 have hSw:S∉wr:=λh=>hSf (W.sub _ h);have hsub:∀b∈wr,b∈S::wr:=λb hb=>ag _ hb;intro k
 induction k with
 |zero=>
  intro i s ks hk hi hst hS hm0 hle hR
  have hin:i=n:=by lia
  subst hin;refine gB F.entry_set_update_loop ?_;rw[dU F.plain_set_update_loop _]
  show aO _ A.in1 (je (.ref I) >>= _) _ _ s
  refine ae (W.done s _ _ hst λs' hm=>?_)
  show aO _ A.in1 (ret dZ) _ _ s'
  exact ar (hR s' ks (hm.mono hsub) (hS.keep λo e=>hm.heap S o hSw e) (λx=>by rw[hm0,← hl,V3]) hle)
 |succ k ih=>
  intro i s ks hk hi hst hS hm0 hle hR
  have hlt:i<n:=by lia
  refine gB F.entry_set_update_loop ?_;rw[dU F.plain_set_update_loop _]
  show aO _ A.in1 (je (.ref I) >>= _) _ _ s
  refine ae (W.item i s _ _ hlt hst λv s' hP hst' hm=>?_);obtain⟨c,t,hc,rfl⟩:=hval i v hP
  show aO _ A.in1 (kZ [gO c t] (setAdd S (.int c t)) >>= _) _ _ s'
  refine ae (cJ ?_);unfold setAdd;refine cJ ?_;refine ae ((mT prog w).pyHash (k:=c) (intKind_is _ _ _ _) ?_);refine Xc (s:={ s' with toks:=s'.toks+1 }) (hS.keep λo e=>hm.heap S o hSw e) (by lia) λh' ks' b hsb hS2 hmem hlen=>?_;refine ar ⟨gP F.plain_set_update_loop _,ih (i+1) _ ks' (by lia) hlt (W.frame _ s' _ _ hst' (gN _) λb hb o e=>?_) hS2 (λx=>?_) (by lia) λs'' ks'' hm'' hS'' hmem'' hlen''=>?_⟩
  .rw [hsb.2 b (λh:b=S=>hSf (by rw[← h];exact hb))];exact e
  .rw [hmem,hm0,Yp,hc,aL];simp
  .refine hR s'' ks'' (OL W.gtrans ((hm.mono hsub).then_heap (gN _) λb o hb e=>?_) hm'') hS'' hmem'' hlen'';rw[hsb.2 b (λh:b=S=>hb (by rw[h];exact aj))];exact e
theorem Qs{l:ai}{items:Array ak}{ns:List Int}{Q:ak->aA->Prop}(hh:A.handled=none)(hl:s.heap.IsList l items)(hi:eX items.toList ns)(hb:items.size+1<vk)(h:∀(h':cR) (tk:Nat) (ks:List Int),SO prog w (bt w) h' s.heap.objs.size ks->(∀x,x∈ks↔x∈ns)->ks.length<=items.size->(∀b o,s.heap.get? b=some o->h'.get? b=some o)->Q (.ref s.heap.objs.size) { s with heap:=h',toks:=tk }):aO (aR prog w) A (call (.type "set") [.ref l]) Q E s:=by
 obtain⟨c,tl,hmro⟩:=F.called_set.mro;have hmade:=F.called_set.made;have hsub:=F.called_set.sub;refine OF (codeAny_of_tree ?_)
 show aO _ _ (callAny (.type "set") _) _ _ _
 refine ar ⟨Code.quiet_builtin _ (by decide +kernel),gB F.entry_type_call ?_⟩;rw[Around.under_plain (weight_type_call_type "set" [.ref l] []) rfl];have h1:=F.called_set.notType;have h2:=F.called_set.canCreate;have hct:=F.typeCall_set_1 (.ref l)
 repeat (any_goals (first|assumption|wp_step))
 refine mU (Qr (.ref l) (E:=E) (Q₁:=λobj s₁=>obj=.ref s.heap.objs.size/\s₁={ s with heap:=s.heap.push { cls:=.type "set",dict:=none,data:=.set #[] 0 (.fresh 0 0 (!bt w)) } }) ⟨rfl,rfl⟩) λr s₁ hr=>?_
 cases r with
 |error e=>exact hr
 |ok fl=>
  cases fl with
  |ret obj=>
   obtain⟨rfl,rfl⟩:=hr;have hS:(s.heap.push { cls:=.type "set",dict:=none,data:=.set #[] 0 (.fresh 0 0 (!bt w)) }).get? s.heap.objs.size=some { cls:=.type "set",dict:=none,data:=.set #[] 0 (.fresh 0 0 (!bt w)) }:=aM _ rfl
   have hT:Shared.TypeIs { s with heap:=s.heap.push { cls:=.type "set",dict:=none,data:=.set #[] 0 (.fresh 0 0 (!bt w)) } } (.ref s.heap.objs.size) "set":=⟨_,hS,rfl⟩
   have hli:=F.called_set.init.lookup;have hbi:=F.called_set.init.bind (.ref s.heap.objs.size)
   repeat (any_goals (first|assumption|wp_step))
   refine mU (codeAny_call_builtin (R:=wants (λr s₂=>r=.none/\∃h' tk ks,s₂={ s with heap:=h',toks:=tk }/\SO prog w (bt w) h' s.heap.objs.size ks/\(∀x,x∈ks↔x∈ns)/\ks.length<=items.size/\(∀b o,s.heap.get? b=some o->h'.get? b=some o)) E) F.called_set.init.plain F.entry_set_init (check_set_init_1 hT ?_)) λr₂ s₂ hr₂=>?_
   .obtain ⟨ol,hol,hcl,nl,hdl⟩:=hl;obtain⟨ocls,odict,odata,oslots⟩:=ol;simp only at hcl hdl;subst hcl;subst hdl;have hol':(s.heap.push { cls:=.type "set",dict:=none,data:=.set #[] 0 (.fresh 0 0 (!bt w)) }).get? l=some { cls:=.type "list",dict:=odict,data:=.seq items nl,slots:=oslots }:=ao _ hol;have hsls:=F.sub_list_set;have hslf:=F.sub_list_frozenset
    have hne:(dD "list" == dD "dict")=false:=by decide
    have hl1:(s.heap.push { cls:=.type "set",dict:=none,data:=.set #[] 0 (.fresh 0 0 (!bt w)) }).IsList l items:=⟨_,hol',rfl,nl,rfl⟩
    unfold jt.«set.__init__» noKeywords XY;generalize hPI:OE=PI
    wp_walk
    subst hPI;refine wpAny_pyIter_list hl1 ?_;refine ae (OJ ?_);have hlS:l<s.heap.objs.size:=aJ hol
    have hh3:A.in1.in1.in1.handled=none:=by simp[hh]
    have hneI:l≠(s.heap.push { cls:=.type "set",dict:=none,data:=.set #[] 0 (.fresh 0 0 (!bt w)) }).objs.size:=by rw[gI];exact bg (mC hlS)
    have hSf:s.heap.objs.size∉[(s.heap.push { cls:=.type "set",dict:=none,data:=.set #[] 0 (.fresh 0 0 (!bt w)) }).objs.size,l]:=by rw[gI];simp only[aw,ax,cX,or_false,not_or];exact⟨bg (ip _),dG hlS⟩
    have hlen:=hi.length;rw[aS]at hlen
    have hval:∀(i:Nat) (v:ak),items[i]?=some v->∃k t,ns[i]?=some k/\v=.int k t:=λi v hv=>by
     obtain⟨t,e⟩:=SG hi i v (by rw[dk];exact hv);have hlt:=(cE.mp hv).1
     have:ns[i]?=some (ns.getD i 0):=by rw[List.getD_eq_getElem?_getD,aB (by lia)];rfl
     exact⟨_,t,this,e⟩
    refine TQ ((Walks.list hh3 _ l hneI items).toS) s.heap.objs.size hSf ns hlen.symm hval hb (items.size-0) 0 _ [] (by lia) (aK _)
     ⟨⟨_,aM _ rfl,rfl,rfl⟩,(hl1.push _)⟩ ?hS0 (λx=>by simp) (ay _) ?hR
    case hS0=>
     have hget:((s.heap.push { cls:=.type "set",dict:=none,data:=.set #[] 0 (.fresh 0 0 (!bt w)) }).push { cls:=.type "list_iterator",data:=.fields #[.ref l,.int 0 0] }).get? s.heap.objs.size
      = some { cls:=.type "set",dict:=none,data:=.set #[] 0 (.fresh 0 0 (!bt w)) }:=ao _ hS
     exact⟨_,#[],0,_,hget,⟨rfl,rfl,rfl⟩,rfl,(λe he=>by simp at he),(λe he=>by simp at he),by decide,rfl,TI.fresh _ _ _,rfl,rfl,vq⟩
    case hR=>
     intro s' ks' hm hS' hmem hlen';obtain⟨h',g',d',tk',os'⟩:=s';have eg:g'=s.gens:=hm.gens;have ed:d'=s.drawn:=hm.drawn;have eo:os'=s.os:=hm.os;subst eg;subst ed;subst eo
     show aO _ _ _ _ _ _
     refine ar ?_
     show aO _ _ (ret dZ) _ _ _
     refine ar ⟨rfl,h',tk',ks',rfl,hS',hmem,hlen',λb o e=>?_⟩;have hb:=aJ e;have hb1:b≠s.heap.objs.size:=bg hb
     have hb2:b≠(s.heap.push { cls:=.type "set",dict:=none,data:=.set #[] 0 (.fresh 0 0 (!bt w)) }).objs.size:=by rw[gI];exact bg (mC hb)
     exact hm.heap b o (by simp only[aw,ax,cX,or_false,not_or];exact⟨hb1,hb2⟩) (ao _ (ao _ e))
   .cases r₂ with
    |error e=>exact hr₂
    |ok fl₂=>
     cases fl₂ with
     |ret r=>
      obtain⟨rfl,h',tk,ks,rfl,hS',hm',hl',hk'⟩:=hr₂
      repeat (any_goals (first|assumption|wp_step))
      exact h _ _ _ hS' hm' hl' hk'
     |_=>exact hr₂.elim
  |_=>exact hr.elim
end
end Sw
namespace Sw
variable{i ep n:Nat}{a it:ai}{first:ak}{es:Array (Int×ak)}{t:lQ}{vs:List ak}{sl:Nat->Nat}{Q:Option ak->aA->Prop}
theorem Iq:Manifest.owners.lookup (String.ofList ['r','o','t','a','r','e','t','i','_','t','e','s'].reverse)=some Manifest.sig_set_iterator:=by kernel_rfl
theorem fk:Slot "set_iterator" "__next__" "set_iterator.__next__":=
 .of (owner:="set_iterator") (n:="__next__") (by rw[lW,iJ];kernel_rfl) (by decide +kernel) (by decide +kernel) (by decide +kernel)
  (by first|exact .inl (by decide +kernel)|exact .inr (by decide +kernel)) (by rw[Ab];kernel_rfl)
theorem lR:entryFor table "set_iterator.__next__"=some jt.«set_iterator.__next__»:=entryFor_of_tree (by kernel_rfl)
theorem mQ(a:ak):argsOk "set_iterator.__next__" ⟨[a],[]⟩:=by unfold argsOk;rw[signature?_of (id:="set_iterator.__next__") (n:=['_','_','t','x','e','n','_','_']) (o:=['r','o','t','a','r','e','t','i','_','t','e','s']) (by kernel_rfl) Iq];kernel_rfl
theorem vQ:Slot "set_iterator" "__iter__" "set_iterator.__iter__":=
 .of (owner:="set_iterator") (n:="__iter__") (by rw[lW,iJ];kernel_rfl) (by decide +kernel) (by decide +kernel) (by decide +kernel)
  (by first|exact .inl (by decide +kernel)|exact .inr (by decide +kernel)) (by rw[Ab];kernel_rfl)
theorem FO(a:ak):argsOk "set_iterator.__iter__" ⟨[a],[]⟩:=by unfold argsOk;rw[signature?_of (id:="set_iterator.__iter__") (n:=['_','_','r','e','t','i','_','_']) (o:=['r','o','t','a','r','e','t','i','_','t','e','s']) (by kernel_rfl) Iq];kernel_rfl
theorem Dc:entryFor table "set_iterator.__iter__"=some jt.«dict_keyiterator.__iter__»:=
 entryFor_alias (id':="dict_keyiterator.__iter__") (by kernel_rfl) rfl (by decide +kernel) (by kernel_rfl)
theorem A2:entryFor table "set.__iter__"=some jt.«frozenset.__iter__»:=
 entryFor_alias (id':="frozenset.__iter__") (by kernel_rfl) rfl (by decide +kernel) (by kernel_rfl)
theorem A3{α:Type}{l:List α}(h:i<l.length):(l[i]::l.eraseIdx i).Perm l:=by
 rw[List.eraseIdx_eq_take_drop_succ]
 have e:l=l.take i++l[i]::l.drop (i+1):=by rw[lY,dr]
 conv=>rhs;rw[e]
 exact C2.symm
theorem EJ{α:Type}(next:Nat->Nat):∀(fuel k:Nat) (left:List α) (out:Array α),fuel=left.length->(Hm next fuel k left out).toList.Perm (out.toList++left)
 | 0,k,left,out,h=>by
  have:left=[]:=jk h.symm
  subst this;simp[Hm]
 |fuel+1,k,left,out,h=>by unfold Hm;have hlt:next k%left.length<left.length:=Nat.mod_lt _ (by lia);rw[aB hlt];dsimp only;refine(EJ next fuel _ _ _ (by rw[O3];simp[hlt];lia)).trans ?_;rw[Aa,cI];refine lG _ ?_;exact A3 hlt
def xf(h:cR)(it:ai)(first:ak)(i:Nat)(a:ai)(n ep:Nat):Prop:=∃o,h.get? it=some o/\o.cls=.type "set_iterator"/\o.data=.fields #[first,cD i,.ref a,cD n,cD ep]
theorem xf.keep{h h':cR}(x:xf h it first i a n ep)(k:∀o,h.get? it=some o->h'.get? it=some o):xf h' it first i a n ep:=let ⟨o,e,r⟩:=x;⟨o,k o e,r⟩
def RS(h:cR)(a:ai)(es:Array (Int×ak))(ep:Nat)(t:lQ):Prop:=∃o,h.get? a=some o/\o.ExactSet/\o.data=.set es ep t/\t.fits es.size=true
theorem RS.keep{h h':cR}(x:RS h a es ep t)(k:∀o,h.get? a=some o->h'.get? a=some o):RS h' a es ep t:=let ⟨o,e,r⟩:=x;⟨o,k o e,r⟩
section
variable{prog:bI}{w:cC}{A:cT}{E:ak->aA->Prop}{s:aA}
theorem MN{Q:ak->aA->Prop}(x:xf s.heap it first i a n ep)(h:Q (.ref it) s):aO (aR prog w) A (OE (.ref it)) Q E s:=by
 have hT:s.TypeIs (.ref it) "set_iterator":=let ⟨o,e,c,_⟩:=x;⟨o,e,c⟩
 refine Hj hT vQ (de vQ hT Dc ?_ (FO _))
 show aO _ _ (ret (.ref it)) _ _ s
 exact ar ⟨_,rfl,"set_iterator",_,hT,fk.lookup,h⟩
def Ord(w:cC)(a:ai)(es:Array (Int×ak))(ep:Nat)(t:lQ)(vs:List ak)(sl:Nat->Nat):Prop:=
 sl 0=0/\vs.length=es.size/\((bt w=true/\vs=(Av (w.params.setOrder a ep) es).toList.map (·.2)/\∀i,sl i=0) \/(bt w=false/\vs=es.toList.map (·.2)/\(!t.plain && decide (es.size>1))=false/\(t.led=true)/\yu t.place/\∀i p,t.place[i]?=some p->sl (i+1)=p+1))
theorem N3{v:ak}(x:xf s.heap it (cD (sl i)) i a es.size ep)(r:RS s.heap a es ep t)(o:Ord w a es ep t vs sl)(hv:vs[i]?=some v)(q:∀h',xf h' it (cD (sl (i+1))) (i+1) a es.size ep->ia it s.heap h'->Q (some v) { s with heap:=h' }):aO (aR prog w) A (je (.ref it)) Q E s:=by
 have hT:s.TypeIs (.ref it) "set_iterator":=let ⟨o,e,c,_⟩:=x;⟨o,e,c⟩
 obtain⟨ob,g,gc,gd⟩:=x;obtain⟨oa,ra,rx,rd,rf⟩:=r;unfold je;refine ae (iC (d8 (name:=iP "__next__") hT fk (de fk hT lR ?_ (mQ _))));unfold jt.«set_iterator.__next__»;refine ae (m:=ON "__next__" 0 _) (ar ?_);refine ae (mZ g gd ?_)
 show aO _ _ (OO a >>= _) _ _ s
 refine ae (lD ra rd rf ?_);rw[if_neg (by simp)]
 show aO _ _ (Nv a ((sl i:Nat):Int).toNat ((i:Nat):Int).toNat ((ep:Nat):Int).toNat >>= _) _ _ s
 simp only[gZ]
 have nxt:aO (aR prog w) A.in1 (Nv a (sl i) i ep) (λz s'=>z=some (v,sl (i+1))/\s'=s) (λ_ _=>False) s:=by
  unfold Nv;refine ae (iZ ra rd rf ?_);dsimp only;refine ae ?_;unfold El;refine ae (iE (ar ?_));obtain⟨o0,o1,⟨b1,b2,b3⟩|⟨b1,b2,b3,b4,b5,b6⟩⟩:=o
  .have b1':(({ program:=(aR prog w).prog,params:=(aR prog w).w.params }:Setting).params.followText "set-order")=true:=b1;rw[b1'];simp only[↓reduceIte];rw[if_neg (by simp)];refine ae ?_;unfold setWalk;refine ae (iZ ra rd rf ?_);dsimp only;refine ae ?_;unfold El;refine ae (iE (ar ?_));rw[b1'];simp only[↓reduceIte];refine ae (iE (ar (ar ⟨?_,rfl⟩)));have hv':=hv;rw[b2,aG,dk]at hv'
   show xD (λe=>(e.2,sl i)) (Av (w.params.setOrder a ep) es)[i]?=_
   obtain⟨e,he,ev⟩:=dz.mp hv';rw[he,b3 i,b3 (i+1)];simp[ev]
  .have b1':(({ program:=(aR prog w).prog,params:=(aR prog w).w.params }:Setting).params.followText "set-order")=false:=b1;rw[b1'];simp only[bN,↓reduceIte];refine iX (λhd=>absurd (show(!t.plain && decide (es.size>1))=true from hd) (by rw[b3];decide)) (λ_=>ae ?_)
   show aO _ _ (if(!t.led && !es.isEmpty)=true then _ else _) _ _ _
   rw[if_neg (by rw[b4];simp)];refine ar (ar ⟨?_,rfl⟩)
   have hlt:i<es.size:=by rw[← o1];exact(av.mp hv).1
   have hfs:t.place.size=es.size:=by have:=rf;unfold UJ at this;simp at this;exact this.1
   have hp:t.place[i]?=some (t.place[i]'(by lia)):=cg _
   have hbel:dF t.place (sl i)=i:=by
    refine Im b5 ?_
    cases i with
    |zero=>exact .inl ⟨rfl,o0⟩
    |succ k=>
     have hk:t.place[k]?=some (t.place[k]'(by lia)):=cg _;exact .inr ⟨k,rfl,_,hk,b6 k _ hk⟩
   rw[hbel,hp,b6 i _ hp];rw[b2,aG,dk]at hv;obtain⟨e,he,ev⟩:=dz.mp hv;rw[he];obtain⟨e1,e2⟩:=e;simp at ev;simp[ev]
 refine ae (dQ nxt (λz s' hz=>?_) λ_ _ x=>x.elim);obtain⟨rfl,rfl⟩:=hz;dsimp only;have g1:=bD (nh (·.setIfInBounds 0 (cD ((sl (i+1):Nat):Int)))) g (jQ (dg gd _));refine ae (jw g gd (by simp) (ae (jw g1 (dg gd _) (by simp) ?_)));have g2:=bD (nh (·.setIfInBounds 1 (cD ((i:Int)+1)))) g1 (jQ (dg (dg gd _) _));refine ar ⟨_,rfl,ar (q _ ⟨_,g2,(qE ..).trans ((qE ..).trans gc),?_⟩ ((c9 ..).trans (c9 ..)))⟩;rw[dg (dg gd _)];simp[cD]
theorem Qt(hh:A.handled=none)(x:xf s.heap it (cD (sl vs.length)) vs.length a es.size ep)(r:RS s.heap a es ep t)(o:Ord w a es ep t vs sl)(q:∀h',O1 it s.heap h'->Q none { s with heap:=h' }):aO (aR prog w) A (je (.ref it)) Q E s:=by
 have hT:s.TypeIs (.ref it) "set_iterator":=let ⟨o,e,c,_⟩:=x;⟨o,e,c⟩
 obtain⟨ob,g,gc,gd⟩:=x;obtain⟨oa,ra,rx,rd,rf⟩:=r;unfold je;refine ae (iC (d8 (name:=iP "__next__") hT fk (de fk hT lR ?_ (mQ _))));unfold jt.«set_iterator.__next__»;refine ae (m:=ON "__next__" 0 _) (ar ?_);refine ae (mZ g gd ?_)
 show aO _ _ (OO a >>= _) _ _ s
 refine ae (lD ra rd rf ?_);rw[if_neg (by simp)]
 show aO _ _ (Nv a ((sl vs.length:Nat):Int).toNat ((vs.length:Nat):Int).toNat ((ep:Nat):Int).toNat >>= _) _ _ s
 simp only[gZ]
 have nxt:aO (aR prog w) A.in1 (Nv a (sl vs.length) vs.length ep) (λz s'=>z=none/\s'=s) (λ_ _=>False) s:=by
  unfold Nv;refine ae (iZ ra rd rf ?_);dsimp only;refine ae ?_;unfold El;refine ae (iE (ar ?_));obtain⟨o0,o1,⟨b1,b2,b3⟩|⟨b1,b2,b3,b4,b5,b6⟩⟩:=o
  .have b1':(({ program:=(aR prog w).prog,params:=(aR prog w).w.params }:Setting).params.followText "set-order")=true:=b1;rw[b1'];simp only[↓reduceIte];rw[if_neg (by simp)];refine ae ?_;unfold setWalk;refine ae (iZ ra rd rf ?_);dsimp only;refine ae ?_;unfold El;refine ae (iE (ar ?_));rw[b1'];simp only[↓reduceIte];refine ae (iE (ar (ar ⟨?_,rfl⟩)))
   show xD (λe=>(e.2,sl vs.length)) (Av (w.params.setOrder a ep) es)[vs.length]?=_
   rw[ji (by have h:=o1;rw[b2,af,aS]at h;rw[o1];exact ki h)]
   rfl
  .have b1':(({ program:=(aR prog w).prog,params:=(aR prog w).w.params }:Setting).params.followText "set-order")=false:=b1;rw[b1'];simp only[bN,↓reduceIte];refine iX (λhd=>absurd (show(!t.plain && decide (es.size>1))=true from hd) (by rw[b3];decide)) (λ_=>ae ?_)
   show aO _ _ (if(!t.led && !es.isEmpty)=true then _ else _) _ _ _
   rw[if_neg (by rw[b4];simp)];refine ar (ar ⟨?_,rfl⟩)
   have hfs:t.place.size=es.size:=by have:=rf;unfold UJ at this;simp at this;exact this.1
   have hbel:dF t.place (sl vs.length)=vs.length:=by
    refine Im b5 ?_
    cases e:vs.length with
    |zero=>exact .inl ⟨rfl,o0⟩
    |succ k=>
     have hk:t.place[k]?=some (t.place[k]'(by lia)):=cg _;exact .inr ⟨k,rfl,_,hk,b6 k _ hk⟩
   rw[hbel,ji (by lia)]
 refine ae (dQ nxt (λz s' hz=>?_) λ_ _ x=>x.elim);obtain⟨rfl,rfl⟩:=hz;dsimp only;refine ae (jw g gd (by simp) ?_)
 show aO _ _ (UE (.type "StopIteration") [] >>= _) _ _ _
 refine ae ?_;simp only[UE,newTuple];refine ae (df ?_ (by size_fits));refine ae (m:=m5 _ _) (Kh (a:=dZ) (by first|rfl|(simp only[m5];rfl)) ?_);refine df ?_ (by size_fits);simp only[raiseNew];refine ae (Si ?_);rw[show A.in1.handled=none from hh];refine ae (ar (XW ?_));refine ae (lg (T:="StopIteration") (b:=true) ⟨_,aM _ rfl,rfl⟩ z9 ?_);exact ar (q _ (((c9 ..).extBut.push _).push _))
theorem N4(hh:A.handled=none)(I a:ai)(hne:a≠I){vs:List ak}{sl:Nat->Nat}(o:Ord w a es ep t vs sl):Walks prog w A I [I,a] [I] vs.length (λi v=>vs[i]?=some v) (λi h=>xf h I (cD (sl i)) i a es.size ep/\RS h a es ep t) where
 sub:=λb hb=>by simp at hb;simp[hb]
 frame:=λ_ _ _ st hk=>⟨st.1.keep λo e=>hk I (by simp) o e,st.2.keep λo e=>hk a (by simp) o e⟩
 item:=λi s Q E hi st hQ=>by have hv:vs[i]?=some vs[i]:=aB hi;exact N3 st.1 st.2 o hv λh' x' hs'=>hQ _ h' s.toks hv ⟨x',st.2.keep λo e=>hs'.extBut a o hne e⟩ λb o hb e=>hs'.extBut b o (λh=>hb (by simp[h])) e
 done:=λs Q E st hQ=>Qt hh st.1 st.2 o λh' he=>hQ h' s.toks λb o hb e=>he b o (λh=>hb (by simp[h])) e
 self:=λ_ _ _ _ st hQ=>MN st.1 hQ
end
end Sw
namespace Sw
variable{T:ai}{ord:List Nat}{vs:List ak}{Q:Option ak->aA->Prop}
section
variable{prog:bI}{w:cC}{A:cT}{E:ak->aA->Prop}{s:aA}{it a:ai}{es:Array (Int×ak)}{ep n:Nat}{t:lQ}
theorem N5{M:Model}{src:Source}{k:Nat}{Q:Nat->aA->Prop}(hk:k≠0)(h:∀i d,i<k->Q i { s with drawn:=d }):aO M A (choose src k) Q E s:=
 λΓ p hΓ=>⟨hk,h _ _ (Nat.mod_lt _ (UK hk))⟩
theorem MO{α:Type}:∀(k:Nat) (xs:List α) {s:aA}{Q:List α->aA->Prop},xs.length=k->(∀ys d,ys.Perm xs->Q ys { s with drawn:=d })->aO (aR prog w) A (drawOrder k xs) Q E s
 | 0,xs,s,Q,hl,h=>by
  have:xs=[]:=jk hl;subst this
  exact ar (h [] s.drawn (sr _))
 |k+1,[],s,Q,hl,h=>by simp at hl
 |k+1,x::xs,s,Q,hl,h=>by unfold drawOrder;refine ae (N5 (by simp) λi d hi=>?_);rw[aB hi];dsimp only;refine ae (MO k _ (by rw[O3,if_pos hi];lia) λys d' hp=>ar (h _ d' ?_));exact(hp.cons _).trans (A3 hi)
structure Dr(h:cR)(T:ai)(es:Array (Int×ak))(ord:List Nat)(vs:List ak):Prop where
 tup:∃o,h.get? T=some o/\o.data=.seq (ord.map λ(i:Nat)=>cD (i:Int)).toArray 0
 len:vs.length=ord.length
 at_:∀(i:Nat) p,ord[i]?=some p->∃e,es[p]?=some e/\vs[i]?=some e.2
theorem TU{i:Nat}{v:ak}(x:xf s.heap it (.ref T) i a es.size ep)(r:RS s.heap a es ep t)(o:Dr s.heap T es ord vs)(hv:vs[i]?=some v)(q:∀h',xf h' it (.ref T) (i+1) a es.size ep->ia it s.heap h'->Q (some v) { s with heap:=h' }):aO (aR prog w) A (je (.ref it)) Q E s:=by
 have hT:s.TypeIs (.ref it) "set_iterator":=let ⟨o,e,c,_⟩:=x;⟨o,e,c⟩
 obtain⟨ob,g,gc,gd⟩:=x;obtain⟨oa,ra,rx,rd,rf⟩:=r;obtain⟨⟨ot,gt,gtd⟩,ol,oat⟩:=o
 have hi:i<ord.length:=by rw[← ol];exact(av.mp hv).1
 obtain⟨e,he,hve⟩:=oat i _ (aB hi);rw[hv]at hve;cases hve;unfold je;refine ae (iC (d8 (name:=iP "__next__") hT fk (de fk hT lR ?_ (mQ _))));unfold jt.«set_iterator.__next__»;refine ae (m:=ON "__next__" 0 _) (ar ?_);refine ae (mZ g gd ?_)
 show aO _ _ (OO a >>= _) _ _ s
 refine ae (lD ra rd rf ?_);rw[if_neg (by simp)]
 show aO _ _ (Aw (.ref T) >>= _) _ _ s
 have sq:aO (aR prog w) A.in1 (Aw (.ref T)) (λz s'=>z=some (ord.map λ(i:Nat)=>cD (i:Int)).toArray/\s'=s) (λ_ _=>False) s:=by unfold Aw;refine ae (Eh gt ?_);rw[gtd];exact ar ⟨rfl,rfl⟩
 refine ae (dQ sq (λz s' hz=>?_) λ_ _ x=>x.elim);obtain⟨rfl,rfl⟩:=hz;dsimp only
 have hpi:(ord.map λ(i:Nat)=>cD (i:Int)).toArray[((i:Nat):Int).toNat]?=some (cD (ord[i]:Int)):=by rw[gZ,uG,aG,aB hi];rfl
 show aO _ _ (match (ord.map λ(i:Nat)=>cD (i:Int)).toArray[((i:Nat):Int).toNat]? with|some (.int place _)=>_|some _=>_|none=>_) _ _ _
 rw[hpi]
 show aO _ _ (setNextDrawn a ((ord[i]:Nat):Int).toNat ((ep:Nat):Int).toNat >>= _) _ _ _
 simp only[gZ];refine ae ?_;unfold setNextDrawn;refine ae (iZ ra rd rf ?_);dsimp only;rw[if_neg (by simp),he];refine ar (ae (jw g gd (by simp) ?_));have g1:=bD (nh (·.setIfInBounds 1 (cD ((i:Int)+1)))) g (jQ (dg gd _));refine ar ⟨_,rfl,ar (q _ ⟨_,g1,(qE ..).trans gc,?_⟩ (c9 ..))⟩;rw[dg gd];simp[cD]
theorem xK(hh:A.handled=none)(x:xf s.heap it (.ref T) vs.length a es.size ep)(r:RS s.heap a es ep t)(o:Dr s.heap T es ord vs)(q:∀h',O1 it s.heap h'->Q none { s with heap:=h' }):aO (aR prog w) A (je (.ref it)) Q E s:=by
 have hT:s.TypeIs (.ref it) "set_iterator":=let ⟨o,e,c,_⟩:=x;⟨o,e,c⟩
 obtain⟨ob,g,gc,gd⟩:=x;obtain⟨oa,ra,rx,rd,rf⟩:=r;obtain⟨⟨ot,gt,gtd⟩,ol,oat⟩:=o;unfold je;refine ae (iC (d8 (name:=iP "__next__") hT fk (de fk hT lR ?_ (mQ _))));unfold jt.«set_iterator.__next__»;refine ae (m:=ON "__next__" 0 _) (ar ?_);refine ae (mZ g gd ?_)
 show aO _ _ (OO a >>= _) _ _ s
 refine ae (lD ra rd rf ?_);rw[if_neg (by simp)]
 show aO _ _ (Aw (.ref T) >>= _) _ _ s
 have sq:aO (aR prog w) A.in1 (Aw (.ref T)) (λz s'=>z=some (ord.map λ(i:Nat)=>cD (i:Int)).toArray/\s'=s) (λ_ _=>False) s:=by unfold Aw;refine ae (Eh gt ?_);rw[gtd];exact ar ⟨rfl,rfl⟩
 refine ae (dQ sq (λz s' hz=>?_) λ_ _ x=>x.elim);obtain⟨rfl,rfl⟩:=hz;dsimp only
 have hpi:(ord.map λ(i:Nat)=>cD (i:Int)).toArray[((vs.length:Nat):Int).toNat]?=none:=by rw[gZ,uG,aG,dm (by lia)];rfl
 show aO _ _ (match (ord.map λ(i:Nat)=>cD (i:Int)).toArray[((vs.length:Nat):Int).toNat]? with|some (.int place _)=>_|some _=>_|none=>_) _ _ _
 rw[hpi];dsimp only;have g1:=bD (nh (·.setIfInBounds 0 (cD 0))) g (jQ (dg gd _));refine ae (jw g gd (by simp) (ae (jw g1 (dg gd _) (by simp) ?_)))
 show aO _ _ (UE (.type "StopIteration") [] >>= _) _ _ _
 refine ae ?_;simp only[UE,newTuple];refine ae (df ?_ (by size_fits));refine ae (m:=m5 _ _) (Kh (a:=dZ) (by first|rfl|(simp only[m5];rfl)) ?_);refine df ?_ (by size_fits);simp only[raiseNew];refine ae (Si ?_);rw[show A.in1.handled=none from hh];refine ae (ar (XW ?_));refine ae (lg (T:="StopIteration") (b:=true) ⟨_,aM _ rfl,rfl⟩ z9 ?_);exact ar (q _ ((((c9 ..).trans (c9 ..)).extBut.push _).push _))
theorem Qu(hh:A.handled=none)(I a T:ai)(hne:a≠I)(hnT:T≠I){ord:List Nat}{vs:List ak}:Walks prog w A I [I,a,T] [I] vs.length (λi v=>vs[i]?=some v) (λi h=>xf h I (.ref T) i a es.size ep/\RS h a es ep t/\Dr h T es ord vs) where
 sub:=λb hb=>by simp at hb;simp[hb]
 frame:=λ_ _ _ st hk=>⟨st.1.keep λo e=>hk I (by simp) o e,st.2.1.keep λo e=>hk a (by simp) o e,let ⟨o,e,d⟩:=st.2.2.tup;⟨⟨o,hk T (by simp) o e,d⟩,st.2.2.len,st.2.2.at_⟩⟩
 item:=λi s Q E hi st hQ=>by have hv:vs[i]?=some vs[i]:=aB hi;exact TU st.1 st.2.1 st.2.2 hv λh' x' hs'=>hQ _ h' s.toks hv ⟨x',st.2.1.keep λo e=>hs'.extBut a o hne e,let ⟨o,e,d⟩:=st.2.2.tup;⟨⟨o,hs'.extBut T o hnT e,d⟩,st.2.2.len,st.2.2.at_⟩⟩ λb o hb e=>hs'.extBut b o (λh=>hb (by simp[h])) e
 done:=λs Q E st hQ=>xK hh st.1 st.2.1 st.2.2 λh' he=>hQ h' s.toks λb o hb e=>he b o (λh=>hb (by simp[h])) e
 self:=λ_ _ _ _ st hQ=>MN st.1 hQ
theorem Qv{ks:List Int}{Q:ak->aA->Prop}(hh:A.handled=none)(hS:SO prog w (bt w) s.heap a ks)(q:∀I h1 d (vs:List ak) (ns:List Int) fp St,Walks prog w A I fp [I] vs.length (λi v=>vs[i]?=some v) St->St 0 h1->(∀b o,s.heap.get? b=some o->h1.get? b=some o)->I∈fp->(∀b∈fp,b=a\/s.heap.objs.size<=b)->s.heap.objs.size<=I->eX vs ns->ns.Perm ks->Q (.ref I) { s with heap:=h1,drawn:=d }):aO (aR prog w) A (OE (.ref a)) Q E s:=by
 have hlt:=hS.lt;obtain⟨o,es,ep,t,ho,hex,hd,hel,hin,hb,hf,ti,hled,rfl,hnd⟩:=hS
 have hT:s.TypeIs (.ref a) "set":=⟨o,ho,hex.1⟩
 have hints:∀{l:List (Int×ak)},(∀e∈l,∃u,e.2=.int (key e) u)->eX (l.map (·.2)) (l.map key):=by
  intro l
  induction l with
  |nil=>intro _;exact .nil
  |cons e l ih=>
   intro h;obtain⟨u,eu⟩:=h e aj;rw[aZ,aZ,eu];exact .cons _ _ (ih λe' he'=>h e' (ag _ he'))
 refine Hj hT F.slot_set_iter (de F.slot_set_iter hT A2 ?_ (F.args_set_iter_1 _));unfold jt.«frozenset.__iter__» XZ ON;simp only[List.isEmpty_nil,Bool.not_true,bN,↓reduceIte,bind_assoc,k8,bne_self_eq_false];unfold X0 X1;refine ae (ar ?_)
 try dsimp only
 refine ae (ar ?_);refine ae (ae (lD ho hd hf (ar ?_)));refine ae ?_;unfold setDrawn;refine ae (iZ ho hd hf ?_);dsimp only;refine ae ?_;unfold El;refine ae (iE (ar (ar ?_)));have hz:es.size<=aY:=Hl hb
 have hrs:RS s.heap a es ep t:=⟨o,ho,hex,hd,hf⟩
 refine iX (λhdr=>?_) (λhdr=>?_)
 .refine ae (MO es.size (fh es.size) iK λord d hp=>?_)
  have hol:ord.length=es.size:=by rw[hp.length_eq,iK]
  refine ae (z8 ?_ (by rw[af,hol];exact hz));have k1:∀b ob,s.heap.get? b=some ob->(s.heap.push (cz "tuple" (ord.map λ(i:Nat)=>cD (i:Int)).toArray 0)).get? b=some ob:=λb ob e=>ao _ e;have gT:(s.heap.push (cz "tuple" (ord.map λ(i:Nat)=>cD (i:Int)).toArray 0)).get? s.heap.objs.size=some (cz "tuple" (ord.map λ(i:Nat)=>cD (i:Int)).toArray 0):=aM _ rfl;have hsz:(s.heap.push (cz "tuple" (ord.map λ(i:Nat)=>cD (i:Int)).toArray 0)).objs.size=s.heap.objs.size+1:=gI ..;generalize s.heap.push (cz "tuple" (ord.map λ(i:Nat)=>cD (i:Int)).toArray 0)=h0 at k1 gT hsz;refine ae (wpAny_setEpoch_of (s:={ s with heap:=h0,drawn:=d }) (k1 _ _ ho) hd hf ?_);unfold newFields;refine ae (df (ar ⟨_,rfl,"set_iterator",_,⟨_,aM _ rfl,rfl⟩,fk.lookup,?_⟩))
  have hmem:∀p∈ord,p<es.size:=λp hpm=>by simpa using hp.mem_iff.mp hpm
  have hget:∀p,p<es.size->es[p]?=some (es.getD p (0,.none)):=λp hp'=>by rw[cg hp'];simp[Sk,hp']
  have hperm:(ord.map λp=>es.getD p (0,.none)).Perm es.toList:=by
   refine(hp.map _).trans ?_
   have:(fh es.size).map (λp=>es.getD p (0,.none))=es.toList:=by
    apply lX
    intro i;rw[aG]
    by_cases hi:i<es.size
    .rw [List.getElem?_range hi,dk,hget i hi];rfl
    .rw [dm (by rw[iK];lia),dm (by rw[aS];lia)];rfl
   rw[this]
  have hsub:∀e∈ord.map (λp=>es.getD p (0,.none)),∃u,e.2=.int (key e) u:=λe he=>hin e (hperm.mem_iff.mp he)
  have hst:xf (h0.push { cls:=.type "set_iterator",data:=.fields [aD s.heap.objs.size,cD 0,.ref a,cD es.size,cD ep].toArray }) h0.objs.size (.ref s.heap.objs.size) 0 a es.size ep:=⟨_,aM _ rfl,rfl,rfl⟩
  have haI:a≠h0.objs.size:=by rw[hsz];exact bg (mC hlt)
  have hTI:s.heap.objs.size≠h0.objs.size:=by rw[hsz];exact bg (ip _)
  refine q h0.objs.size _ d ((ord.map λp=>es.getD p (0,.none)).map (·.2)) ((ord.map λp=>es.getD p (0,.none)).map key) [h0.objs.size,a,s.heap.objs.size] _ (Qu (es:=es) (ep:=ep) (t:=t) (ord:=ord) hh h0.objs.size a s.heap.objs.size haI hTI) ⟨hst,hrs.keep λob e=>ao _ (k1 _ _ e),⟨_,ao _ gT,rfl⟩,by rw[af,af],λi p hip=>?_⟩
   (λb ob e=>ao _ (k1 _ _ e)) (by simp) (λb hb'=>?_) (by rw[hsz];exact gN _) (hints hsub) (hperm.map key)
  .have hpl:=hmem p (aP hip);exact⟨_,hget p hpl,by rw[aG,aG,hip];rfl⟩
  .simp only[aw,cX,or_false]at hb'
   rcases hb' with rfl|rfl|rfl
   .exact .inr (by rw[hsz];exact gN _)
   .exact .inl rfl
   .exact .inr (ay _)
 .refine ae (ar (ae (wpAny_setEpoch_of ho hd hf ?_)));unfold newFields;refine ae (df (ar ⟨_,rfl,"set_iterator",_,⟨_,aM _ rfl,rfl⟩,fk.lookup,?_⟩))
  have hst:xf (s.heap.push { cls:=.type "set_iterator",data:=.fields [cD 0,cD 0,.ref a,cD es.size,cD ep].toArray }) s.heap.objs.size (cD 0) 0 a es.size ep:=⟨_,aM _ rfl,rfl,rfl⟩
  obtain⟨vs,sl,ns,hord,hiv,hpn⟩:∃vs sl ns,Ord w a es ep t vs sl/\eX vs ns/\ns.Perm (es.toList.map key):=by
   by_cases hbt:bt w=true
   .have hpp:=EJ (w.params.setOrder a ep) es.size 0 es.toList #[] (aS).symm;rw[show(#[]:Array (Int×ak)).toList++es.toList=es.toList by simp]at hpp;have hpp:(Av (w.params.setOrder a ep) es).toList.Perm es.toList:=hpp;exact⟨(Av (w.params.setOrder a ep) es).toList.map (·.2),λ_=>0,(Av (w.params.setOrder a ep) es).toList.map key,⟨rfl,by rw[af,hpp.length_eq,aS],.inl ⟨hbt,rfl,λ_=>rfl⟩⟩,hints λe he=>hin e (hpp.mem_iff.mp he),hpp.map key⟩
   .have hbf:bt w=false:=by cases h:bt w<;>simp_all
    refine⟨es.toList.map (·.2),λi=>match i with|0=>0|k+1=>t.place.getD k 0+1,es.toList.map key,⟨rfl,by rw[af,aS],.inr ⟨hbf,rfl,?_,by rw[hled,hbf];rfl,ti.rise,λi p hp=>?_⟩⟩,hints hin,sr _⟩
    .cases hx:(!t.plain && decide (es.size>1))with
     |false=>rfl
     |true=>
      refine absurd ?_ hdr
      show(!(w.params.followText "set-order") && (!t.plain && decide (es.size>1)))=true
      rw[hx,show w.params.followText "set-order"=false from hbf];rfl
    .have:=(cE.mp hp)
     obtain⟨hlt',e⟩:=this
     show t.place.getD i 0+1=p+1
     simp[Sk,hlt',e]
  have h0:=hord.1;refine q s.heap.objs.size _ s.drawn vs ns [s.heap.objs.size,a] _ (N4 hh s.heap.objs.size a (bg hlt) hord) ⟨by rw[h0];exact hst,hrs.keep λob e=>ao _ e⟩ (λb ob e=>ao _ e) (by simp) (λb hb'=>?_) (ay _) hiv hpn;simp only[aw,cX,or_false]at hb'
  rcases hb' with rfl|rfl
  .exact .inr (ay _)
  .exact .inl rfl
end
end Sw
namespace Sw
open PySem.W
section
variable{prog:bI}{w:cC}{A:cT}{E:ak->aA->Prop}{s:aA}{a:ai}
theorem Qw{Q:Bool->aA->Prop}(hT:s.TypeIs (.ref a) "set")(h:Q false s):aO (aR prog w) A (eZ (.ref a)) Q E s:=by
 unfold eZ;refine ae (pS hT PySem.F.slot_set_len.lookup ?_);generalize hid:("set.__len__":String)=id0
 wp_delta
 rw[show splitId id0=some ("set","__len__")from by subst hid;decide +kernel];subst hid;refine ae (lg (T:="set") (b:=true) hT (by rw[Ab];kernel_rfl) ?_);refine iX (λhab=>absurd hab (by decide)) (λ_=>?_);refine iX (λ_=>?_) (λhab=>absurd (by decide +kernel) hab);refine ae (Hi hT ?_);exact ar h
theorem Qx{S:ai}{ks:List Int}{R:JY->aA->Prop}(hh:A.handled=none)(hS:SO prog w (bt w) s.heap a ks)(hSa:S≠a)(hn:ks.length<=aY)(g:s.heap.get? S=some { cls:=.type "list",data:=.seq #[] 0 })(q:∀h' tk d acc' c' (ns:List Int),(∀b o,b≠S->s.heap.get? b=some o->h'.get? b=some o)->h'.get? S=some { cls:=.type "list",dict:=none,data:=.seq acc' c',slots:=#[] }->eX acc'.toList ns->ns.Perm ks->R (.ok (.ret (.ref S))) { s with heap:=h',toks:=tk,drawn:=d }):jO (aR prog w) A (.builtin "list.__iadd__" ⟨[.ref S,.ref a],[]⟩) R s:=by
 have hT:s.TypeIs (.ref a) "set":=let ⟨o,_,_,_,e,c,_⟩:=hS;⟨o,e,c.1⟩
 refine gB F.entry_list_iadd ?_;rw[dU F.plain_list_iadd _]
 show aO _ A.in1 (cV (.ref S) (.ref a) (.ref S)) _ _ s
 unfold cV;refine ae (Hi (T:="set") hT ?_)
 have h1:fJ (.ref S) (.ref a)=false:=by simp[fJ,hSa]
 have h2:(dD "set" == dD "list")=false:=by decide
 have h3:(dD "set" == dD "tuple")=false:=by decide
 simp only[h1,h2,h3,Ke,bN,if_false];refine ae (Qv (A:=A.in1) hh hS λI h1 d vs ns fp St W st kp hI hfp hIl hiv hpn=>?_)
 have hSf:S∉fp:=λhm=>by
  rcases hfp S hm with e|e
  .exact hSa e
  .exact absurd (aJ g) (Nat.not_lt.mpr e)
 have hln:vs.length=ks.length:=by rw[hiv.length,hpn.length_eq]
 have hn':vs.length<=aY:=by lia
 have hT1:({ s with heap:=h1,drawn:=d }:aA).TypeIs (.ref a) "set":=let ⟨o,e,c⟩:=hT;⟨o,kp _ _ e,c⟩
 have key:∀(h:cR) (c₁:Nat),St 0 h->(∀b o,b≠S->s.heap.get? b=some o->h.get? b=some o)->h.get? S=some { cls:=.type "list",data:=.seq #[] c₁ } ->jO (aR prog w) A (.builtin "list.extend.loop" ⟨[.ref S,.ref I,.ref S],[]⟩) R { s with heap:=h,drawn:=d }:=by
  intro h c₁ hst hk hS₁;refine Ac W.toS hn' S hSf (.ref S) vs.length 0 _ #[] c₁ rfl (aK _) hst hS₁ (Mn _) λs' acc' c' hm hS' hacc=>?_
  have es:s'={ s with heap:=s'.heap,toks:=s'.toks,drawn:=d }:=by have e:=Yo hm;exact e
  rw[es];have ea:acc'.toList=vs:=L2.Ik hacc;refine q s'.heap s'.toks d acc' c' ns (λb o hb e=>hm.heap b o (λhmem=>?_) (hk b o hb e)) hS' (by rw[ea];exact hiv) hpn
  rcases aw.mp hmem with e'|hmem
  .exact hb e'
  .rw [ax.mp hmem]at e;exact absurd (aJ e) (Nat.not_lt.mpr hIl)
 refine ae (cJ (Qw hT1 ?_));refine iX (λ_=>?_) (λ_=>ar ⟨gP ee _,key _ 0 st (λb o _ e=>kp b o e) (kp _ _ g)⟩);refine ae (ib (ae ?_))
 show aO _ _ (vi S (·.push .none) >>= λ_=>vi S (·.pop)) _ _ _
 refine ae (jU (kp _ _ g) rfl ?_);have g2:=bD (bz (·.push dZ)) (kp _ _ g) rfl;refine jU (hz:=by seq_fits) g2 rfl ?_;have g3:=bD (bz (·.pop)) g2 rfl;refine ar ⟨gP ee _,key _ _ ?_ (λb o hb e=>?_) g3⟩
 .refine W.frame 0 _ _ st λb hb o e=>?_;have hbS:b≠S:=λh=>hSf (h▸hb);exact(bh _ _ (Ne.symm hbS)).trans ((bh _ _ (Ne.symm hbS)).trans e)
 .exact (bh _ _ (Ne.symm hb)).trans ((bh _ _ (Ne.symm hb)).trans (kp b o e))
theorem Ir{ks:List Int}{Q:List ak->aA->Prop}(hh:A.handled=none)(hS:SO prog w (bt w) s.heap a ks)(hn:ks.length<=aY)(q:∀h' tk d vs (ns:List Int),(∀b o,s.heap.get? b=some o->h'.get? b=some o)->eX vs ns->ns.Perm ks->Q vs { s with heap:=h',toks:=tk,drawn:=d }):aO (aR prog w) A (Hk (.ref a)) Q E s:=by
 have hlt:=hS.lt;unfold Hk;refine ae (OJ (gB F.entry_proto_collect ?_));rw[dU F.plain_proto_collect _]
 show aO _ A.in1 (newList [] >>= λl=>again (.builtin "list.__iadd__" ⟨[l,.ref a],[]⟩)) _ _ s
 have g:(s.heap.push { cls:=.type "list",data:=.seq ([]:List ak).toArray }).get? s.heap.objs.size=some { cls:=.type "list",data:=.seq #[] 0 }:=aM _ rfl;refine ae (df (ar ⟨gP F.plain_list_iadd _,Qx (s:={ s with heap:=s.heap.push { cls:=.type "list",data:=.seq ([]:List ak).toArray } }) hh (hS.keep λo e=>ao _ e) (dG hlt) hn g λh' tk d acc' c' ns hk hS' hi hp=>?_⟩))
 show aO _ A (load s.heap.objs.size >>= _) _ _ { s with heap:=h',toks:=tk,drawn:=d }
 refine ae (Eh hS' (ar (q h' tk d acc'.toList ns (λb o e=>hk b o (bg (aJ e)) (ao _ e)) hi hp)))
end
end Sw
namespace L2
open PySem.W
theorem Inv.drawn{X:Cx}{pins:List (ai×jv)}{Z:St}{H:Hp}{s:aA}(I:Inv X pins Z H s)(d:Drawn):Inv X pins Z H { s with drawn:=d }:=⟨I.ok,I.os,I.bare,I.base,I.loc,I.cell,I.free,I.sj,I.pin,I.fw,I.len⟩
theorem Iu{ks ds:List Int}(hn:ks.Nodup)(h:∀x∈ks,x∈ds):ks.length<=ds.length:=by
 induction ks generalizing ds with
 |nil=>simp
 |cons a ks ih=>
  obtain⟨h1,h2⟩:=bq.mp hn;obtain⟨l1,l2,rfl⟩:=lp (h a aj)
  have:=ih (ds:=l1++l2) h2 λx hx=>by
   have hx':=h x (ag _ hx)
   rcases aL.mp hx' with q|q
   .exact d5 _ q
   .rcases aw.mp q with q|q
    .exact absurd (q▸hx) h1
    .exact bC _ q
  simp at this ⊢;lia
section
variable{X:Cx}{x:Expr}{t:TA}{p1 p2 q1 q2:xu}
end
section
variable{X:Cx}
end
end L2
namespace L2
variable{x:bF}{ps:List bF}{f C:ai}{H:Hp}{X:Cx}{mg:bF->Option ak}{st:dP}{s:aA}{k:Nat}{sp:Sp}{e:Expr}{es:List Expr}{t:TA}{h:cR}{cd:ak}{P:bI}{w:cC}{E:XK}{Z:St}{fd:gG}
section
variable{st:List JW}{H2:Hp}{a:ai}{B h':cR}
end
section
variable{K:aa}{base:cR}{N:List bF}{qual:bF}{scope:qH}{A:cT}{outer:List JW}{E':XK}
end
section
variable{pins:List (ai×jv)}
end
section
variable{CT:ai}{xT n:bF}{p np cpos epos hpos pos:xu}{th:TS}{i:Nat}{b₀:dP}{suite:List dP}
end
section
variable{p pos:xu}
end
section
variable{K:aa}{Q:VK}
end
structure Cal(P:bI)(w:cC)(K:aa)(mg:bF->Option ak)(base:cR)(CX:J5)(k:Nat)(x:bF)(ps:List bF)(sp:Sp) where
 f:ai
 d:gG
 G:lN P w K mg base CX k f d ps sp
 m:mg x=some (.ref f)
 kp:eV K (.ref f)=true
 b:Binds K d ps []
structure Xd(P:bI)(w:cC)(K:aa)(mg:bF->Option ak)(base:cR)(CX:J5)(k:Nat)(C:ai)(x:bF)(ps:List bF)(sp:Sp) where
 f:ai
 d:gG
 G:lN P w K mg base CX k f d ps sp
 m:Te K C x f
 b:Binds K d ps []
structure CalI(P:bI)(w:cC)(K:aa)(mg:bF->Option ak)(base:cR)(CX:J5)(k:Nat)(C:ai)(ps:List bF)(sp:Sp) where
 f:ai
 d:gG
 G:lN P w K mg base CX k f d ps sp
 m:Mk K C f
 b:Binds K d ps []
structure qA(K:aa)(mg:bF->Option ak)(x:bF)(st:dP)(ps:List bF) where
 f:ai
 d:gG
 F:Nm K x x st f d
 m:mg x=some (.ref f)
 bt:∀(s:aA) (us:List ak),us.length=ps.length->Hb s d ⟨us,[]⟩ (ps.zip us)
 b:Binds K d ps []
structure lL(K:aa)(C:ai)(x q:bF)(st:dP)(ps:List bF) where
 f:ai
 d:gG
 F:Nm K x q st f d
 a:bJ K (.ref C) x=some (some (.ref f))
 i:qJ K (.ref f)=true
 b:Binds K d ps []
def sX{K:aa}(X:K.In h)(G:h.Ns bV mg){f:ai}{od an:Option ai}{sl:Array (Option ak)}{oc kV dc pm cd ct:ak}(a:dj K bV x=some (some (.ref f)))(l:K.lookup f=some ⟨oc,od,.func (iD x x (n6 st) (ka st) (a0 st) .none kV dc pm an cd ct),sl⟩)(c:nZ K cd x=true)(k:eV K (.ref f)=true)(hb:∀(kV doc pm:ak) (an:Option ai) (oF ct:ak) (us:List ak),us.length=ps.length->Hc (iD x x (n6 st) (ka st) (a0 st) .none kV doc pm an oF ct) ⟨us,[]⟩=pure (ps.zip us)):qA K mg x st ps:=
 ⟨f,_,FE l c k,pT X G a,λs us hl=>.of_eq (hb kV dc pm an cd ct us hl),(FE l c k).binds hb⟩
def CV{K:aa}{q:bF}{od an:Option ai}{sl:Array (Option ak)}{oc kV dc pm ct:ak}(a:bJ K (.ref C) x=some (some (.ref f)))(i:qJ K (.ref f)=true)(l:K.lookup f=some ⟨oc,od,.func (iD x q (n6 st) (ka st) (a0 st) .none kV dc pm an cd ct),sl⟩)(c:nZ K cd q=true)(k:eV K (.ref f)=true)(hb:∀(kV doc pm:ak) (an:Option ai) (oF ct:ak) (us:List ak),us.length=ps.length->Hc (iD x q (n6 st) (ka st) (a0 st) .none kV doc pm an oF ct) ⟨us,[]⟩=pure (ps.zip us)):lL K C x q st ps:=
 ⟨f,_,FE l c k,a,i,(FE l c k).binds hb⟩
theorem qA.law{K:aa}{y:bF}{fa:ai}(D:qA K mg x st [y])(h:mg x=some (.ref fa)):D.f=fa:=by have:=D.m.symm.trans h;cases this;rfl
section
variable{CX:J5}{p pos apos:xu}{o:Expr}{ta:TE}
theorem pcl(c:Cal X.prog X.w X.K X.mg X.base CX k x ps sp)(hr:ij k X.A)(hg:Gl X x)(hx:oH CX X E)(ha:PA X (e::es) t)(hdb:(x == ("__debug__":bF))=false:=by decide)(he:bL (e::es) X.env=(false,fz e X.env)::bL es X.env:=by rfl)(hpl:(iA pos (bL es X.env)).any (·.1)=false:=by rfl):PE X (.Call (.Name x p) (e::es) [] pos) (cY sp [] E t):=Th c.G hr hg c.m c.kp c.b .nil hx ha hdb he hpl
theorem pcm{pl:Uz Bool}(c:Xd X.prog X.w X.K X.mg X.base CX k C x ps sp)(cl:CY X.K C)(hr:ij k X.A)(he:PE X o ta)(hx:oH CX X E)(ha:PA X (e::es) t)(hst:bL (e::es) X.env=(false,fz e X.env)::bL es X.env:=by rfl)(hpl:(iA pos (bL es X.env)).any (·.1)=false:=by rfl)(ht:fz (.Call (.Attribute o x apos) (e::es) [] pos) X.env=(do
  let ov ← fz o X.env
  xm apos.atName
  let (f,first) ← kZ [ov] (Au ov x pl)
  XR pos f first (iA pos (bL (e::es) X.env)) (Hd pos (sL [] X.env))):=by rfl):PE X (.Call (.Attribute o x apos) (e::es) [] pos) (gC C x sp [] E ta t):=Tj he cl c.m c.G hr c.b .nil hx ha hst hpl ht
theorem pcm0{pl:Uz Bool}(c:Xd X.prog X.w X.K X.mg X.base CX k C x ps sp)(cl:CY X.K C)(hr:ij k X.A)(he:PE X o ta)(hx:oH CX X E)(ht:fz (.Call (.Attribute o x apos) [] [] pos) X.env=(do
  let ov ← fz o X.env
  xm apos.atName
  let (f,first) ← kZ [ov] (Au ov x pl)
  XR pos f first (iA pos (bL [] X.env)) (Hd pos (sL [] X.env))):=by rfl):PE X (.Call (.Attribute o x apos) [] [] pos) (gC C x sp [] E ta a8):=Pm he cl c.m c.G hr c.b .nil hx ht
end
end L2
namespace L2
open PySem.W
variable{m:List Bool}{xs:List V}{ks:List Int}
def fo:List Int->List Int->Bool
 | [],[]=>false
 | [],_::_=>true
 |_::_,[]=>false
 |x::xs,y::ys=>if x=y then fo xs ys else decide (x<y)
theorem sI:∀x:List Int,fo x x=false
 | []=>rfl
 |x::xs=>by unfold fo;rw[if_pos rfl];exact sI xs
theorem qd:∀{x y:List Int},fo x y=false->fo y x=true\/x=y
 | [],[],_=>.inr rfl
 | [],_::_,h=>by unfold fo at h;cases h
 |_::_,[],_=>.inl (by unfold fo;rfl)
 |x::xs,y::ys,h=>by
  unfold fo at h ⊢
  by_cases e:x=y
  .subst e;rw[if_pos rfl]at h ⊢
   rcases qd h with q|q
   .exact .inl q
   .exact .inr (by rw[q])
  .rw [if_neg e]at h;rw[if_neg (Ne.symm e)];exact .inl (by have:=of_decide_eq_false h;exact decide_eq_true (by lia))
theorem uP:∀{x y z:List Int},fo x y=true->fo y z=true->fo x z=true
 | [],[],_,h,_=>by unfold fo at h;cases h
 | [],_::_,[],_,h=>by unfold fo at h;cases h
 | [],_::_,_::_,_,_=>by unfold fo;rfl
 |_::_,[],_,h,_=>by unfold fo at h;cases h
 |_::_,_::_,[],_,h=>by unfold fo at h;cases h
 |x::xs,y::ys,z::zs,h,h'=>by
  unfold fo at h h' ⊢
  by_cases e:x=y
  .subst e;rw[if_pos rfl]at h
   by_cases e':x=z
   .rw [if_pos e']at h' ⊢;exact uP h h'
   .rw [if_neg e']at h' ⊢;exact h'
  .rw [if_neg e]at h;have h1:=of_decide_eq_true h
   by_cases e':y=z
   .subst e';rw[if_neg e];exact h
   .rw [if_neg e']at h';have h2:=of_decide_eq_true h';rw[if_neg (by lia)];exact decide_eq_true (by lia)
def EK(ts:List (List Int))(t:List Int):Int:=(ts.countP λu=>fo u t:Nat)
theorem vR{ts:List (List Int)}{t u:List Int}(ht:t∈ts):decide (EK ts t<EK ts u)=fo t u:=by
 unfold EK
 cases q:fo t u with
 |true=>
  have:=Ie (l:=ts) (p:=λv=>fo v t) (q:=λv=>fo v u) (x:=t) (λy _ h=>uP h q) ht (sI t) q
  exact decide_eq_true (by lia)
 |false=>
  have:ts.countP (λv=>fo v u)<=ts.countP λv=>fo v t:=OI λv _ h=>by
   rcases qd q with e|e
   .exact uP h e
   .rw [e];exact h
  exact decide_eq_false (by lia)
inductive Flat:List Bool->List V->List Int->Prop
 |nil:Flat [] [] []
 |int (i:Int) {m:List Bool}{xs:List V}{ks:List Int}:Flat m xs ks->Flat (false::m) (.int i::xs) (i::ks)
 |bl (b:Bool) {m:List Bool}{xs:List V}{ks:List Int}:Flat m xs ks->Flat (true::m) (.bl b::xs) (b2i b::ks)
theorem Flat.length(h:Flat m xs ks):xs.length=m.length:=by
 induction h with
 |nil=>rfl
 |int _ _ ih=>simp[ih]
 |bl _ _ ih=>simp[ih]
section
variable{prog:bI}{w:cC}{A:cT}{s:aA}{b:Bool}{Q:Bool->aA->Prop}
theorem Qy(fx:Flat m xs ks):∀{ys:List V}{ls:List Int}{us ws:List ak}{i:Nat},Flat m ys ls->Vals xs us->Vals ys ws->(b && i == 0)=false->Q (fo ks ls) s ->KatLex prog w A b false Q (us.zip ws) i s:=by
 induction fx with
 |nil=>
  intro ys ls us ws i fy rx ry hi q;cases fy;cases rx;cases ry;unfold fo at q
  exact kat_nil q
 |int a _ ih=>
  intro ys ls us ws i fy rx ry hi q
  cases fy with
  |int c fy=>
   cases rx with
   |cons r1 rx=>
    cases ry with
    |cons r2 ry=>
     obtain⟨t,rfl⟩:=r1;obtain⟨u,rfl⟩:=r2;rw[ju];refine Hn (iW a t c u _ _ _ _ ?_);unfold fo at q
     by_cases e:a=c
     .rw [if_pos e]at q;rw[show(a == c)=true by simpa using e];exact Ho (ih fy rx ry (by simp) q)
     .rw [if_neg e]at q;rw[show(a == c)=false by simpa using e];refine kat_no ?_;rw[hi]
      exact kat_one _ _ (Sx q)
 |bl a _ ih=>
  intro ys ls us ws i fy rx ry hi q
  cases fy with
  |bl c fy=>
   cases rx with
   |cons r1 rx=>
    cases ry with
    |cons r2 ry=>
     cases r1;cases r2;rw[ju];refine Hn (SeqAt.EqAt.bool_bool a c _ _ _ _ ?_);unfold fo at q
     by_cases e:a=c
     .rw [if_pos (by rw[e])]at q;rw[show(a == c)=true by simpa using e];exact Ho (ih fy rx ry (by simp) q)
     .rw [if_neg (by cases a<;>cases c<;>first|exact absurd rfl e|decide)]at q;rw[show(a == c)=false by simpa using e];refine kat_no ?_;rw[hi];exact kat_one _ _ (lt_bool q)
theorem TV{x y:ai}{ys:List V}{ls:List Int}{us ws:List ak}{E:ak->aA->Prop}(fx:Flat (false::m) xs ks)(fy:Flat (false::m) ys ls)(rx:Vals xs us)(ry:Vals ys ws)(hx:xv s.heap x us.toArray)(hy:xv s.heap y ws.toArray)(h:Q (fo ks ls) s):aO (aR prog w) A (keyLt' (UL true) (.ref x) (.ref y)) Q E s:=by
 obtain⟨ox,ex,cx,nx,dx⟩:=hx;obtain⟨oy,ey,cy,ny,dy⟩:=hy
 have l1:us.length=ws.length:=by rw[← rx.length,← ry.length,fx.length,fy.length]
 refine kat_lt ex dx ey dy ?_;rw[show decide (us.toArray.size<ws.toArray.size)=false by simp[l1]]
 cases fx with
 |int a fx=>
  cases fy with
  |int c fy=>
   cases rx with
   |cons r1 rx=>
    cases ry with
    |cons r2 ry=>
     obtain⟨t,rfl⟩:=r1;obtain⟨u,rfl⟩:=r2
     show KatLex _ _ _ _ _ _ (List.zip (_::_) (_::_)) 0 s
     rw[ju];refine Hn (iW a t c u _ _ _ _ ?_);unfold fo at h
     by_cases e:a=c
     .rw [if_pos e]at h;rw[show(a == c)=true by simpa using e];exact Ho (Qy fx fy rx ry (by simp) h)
     .rw [if_neg e]at h;rw[show(a == c)=false by simpa using e];exact kat_no (oneLt_int h)
end
abbrev Zn:=List Int×ai
def mG(z:Zn):V:=.ref z.2
def FP(m:List Bool)(H:Hp)(z:Zn):Prop:=∃xs,H z.2=some (.tup xs)/\Flat (false::m) xs z.1
theorem A4:∀{zs:List Zn}{us:List ak},Vals (zs.map mG) us->us=zs.map λz=>aD z.2
 | [],_,h=>by cases h;rfl
 |z::zs,_,h=>by
  cases h with
  |cons h1 h2=>cases h1;rw[A4 h2];rfl
theorem uQ:∀zs:List Zn,Vals (zs.map mG) (zs.map λz=>aD z.2)
 | []=>.nil
 |_::zs=>.cons rfl (uQ zs)
theorem MP{h:cR}:∀{zs:List Zn},(∀z∈zs,∃i t us,xv h z.2 (gO i t::us).toArray)->∃fs,KatTups h (zs.map λz=>aD z.2) fs/\fs.length=zs.length/\∀v∈fs,∃i t,v=gO i t
 | [],_=>⟨[],.nil,rfl,λ_ h=>nomatch h⟩
 |z::zs,hz=>by
  obtain⟨fs,k1,k2,k3⟩:=MP (zs:=zs) λz' h'=>hz z' (ag _ h');obtain⟨i,t,us,o,e,c,n,d⟩:=hz z aj;refine⟨.int i t::fs,X2 e c d (by simp) k1,by simp[k2],λv hv=>?_⟩
  rcases aw.mp hv with rfl|hv
  .exact ⟨i,t,rfl⟩
  .exact k3 v hv
section
variable{X:Cx}
end
end L2
namespace L2
open PySem.Calls
open PySem.W (kla_fn kla_obj tabObj CodeHd)
variable{prog:bI}{w:cC}{A:cT}{s:aA}{params:qB}{body:Expr}{scope:qH}{pos:xu}
theorem N6{E:ak->aA->Prop}{Q:ak->aA->Prop}{f c':ai}{qual x:bF}{clos:List (bF×ai)}{pm ctv v:ak}(hroom:A.depth<z4)(ho:s.heap.get? f=some (xo "<lambda>" qual params body scope clos pm c' ctv))(hrec:s.heap.CodeRec (.ref c') qual)(hlim:s.heap.NoLimit)(hb:Hc (kla_fn "<lambda>" qual params body scope clos pm (.ref c') ctv) ⟨[v],[]⟩=pure [(x,v)])(hx:scope.names.lookup x=some .local)(hk:scope.kind=.function)(hco:scope.isCoroutine=false)(hgen:scope.isGenerator=false)(hcell:∀z∈scope.names,z.2≠.cell)(h:∀(env:JW) (h₁:cR) (tk:Nat) (E':ak->aA->Prop),env.scope=scope->env.cells=clos->s.heap.objs.size<=env.locals->h₁.Ns env.locals (λz=>eU z [(x,v)])->(∀b o,s.heap.get? b=some o->h₁.get? b=some o) ->aO (aR prog w) (A.deeper env) (fz body env) Q E' { s with heap:=h₁,toks:=tk }):aO (aR prog w) A (call (.ref f) [v]) Q E s:=by refine OF (PySem.W.kla_callFunE hroom ho rfl hco hgen rfl hrec ?_);rw[hb];refine ar (XT hcell (λz hz=>by rw[ax.mp hz];exact hx) (λh₁ hns hsb=>⟨hlim.fresh _ hsb,?_⟩) hk);have hk₁:∀b o,s.heap.get? b=some o->h₁.get? b=some o:=λb o e=>hsb.extBut b o (bg (aJ e)) (ao _ e);exact PySem.W.kla_codeExpr (h _ h₁ _ _ rfl rfl (ay _) hns hk₁)
section
variable{env:JW}{h:cR}{a b:Expr}{i j:Int}
end
section
variable{X:Cx}{c Pt:ai}{e:Expr}{tx:TA}{x y:bF}{j:Nat}{p0 lpos kpos:xu}{C:Int->Int->Int->Prop}{g:Int->Int->Int->Int}
end
end L2
namespace L2
open PySem.Calls PySem.W
variable{w:cC}{A:cT}{s:aA}{prog:bI}{E:ak->aA->Prop}{h₀:cR}{m:bF->Option ak}{f:ak}{e1:Nat}{zs:List Zn}
theorem MQ:∀x y:List Int,fo x y=HT.lexLt x y
 | [],[]=>rfl
 | [],_::_=>rfl
 |_::_,[]=>rfl
 |x::xs,y::ys=>by unfold fo;rw[HT.AJ,MQ xs ys]
def Iv(z:Zn)(t:Yj):jv:=cz "tuple" #[.int (z.1.headD 0) t,.ref z.2] 0
section
variable{Q:Bool->aA->Prop}
theorem TX{k1 k2 b1 b2:ai}{w1 w2 x1 y1 x2 y2:Int}{t1 t2 ta tb tc td:Yj}(hx:xv s.heap k1 #[.int w1 t1,.ref b1])(hy:xv s.heap k2 #[.int w2 t2,.ref b2])(hb1:xv s.heap b1 #[.int x1 ta,.int y1 tb])(hb2:xv s.heap b2 #[.int x2 tc,.int y2 td])(hu:A.units<iQ)(h:Q (fo [w1,x1,y1] [w2,x2,y2]) s):aO (aR prog w) A (keyLt' (UL true) (.ref k1) (.ref k2)) Q E s:=by
 obtain⟨ox,ex,cx,nx,dx⟩:=hx;obtain⟨oy,ey,cy,ny,dy⟩:=hy;refine kat_lt ex dx ey dy ?_;have ez:(#[gO w1 t1,aD b1].toList.zip #[gO w2 t2,aD b2].toList)=[(.int w1 t1,.int w2 t2),(.ref b1,.ref b2)]:=rfl;rw[ez];refine Hn (iW w1 t1 w2 t2 _ _ _ _ ?_);unfold fo at h
 by_cases e:w1=w2
 .rw [if_pos e]at h;rw[show(w1 == w2)=true by simpa using e]
  by_cases eb:b1=b2
  .subst eb;refine Ho (Hn (SeqAt.EqAt.same _ _ _ _ _ (Ho (kat_nil ?_))))
   have:x1=x2/\y1=y2:=by obtain⟨o,e1,_,n,d1⟩:=hb1;obtain⟨o',e2,_,n',d2⟩:=hb2;rw[e1]at e2;cases e2;rw[d1]at d2;simp at d2;exact⟨d2.1.1.1,d2.1.2.1⟩
   rw[this.1,this.2,sI]at h;exact h
  .have rc:SeqAt.RcAt A s (.ref b1) (.ref b2) ((fh (min 2 2)).all (λj=>if j=0 then x1 == x2 else y1 == y2) && (2 == 2)):=SeqAt.RcAt.tuples (items:=#[.int x1 ta,.int y1 tb]) (items2:=#[.int x2 tc,.int y2 td]) hb1 hb2 hu λj h1 h2=>by
    match j,h1,h2 with
    | 0,_,_=>exact iW x1 ta x2 tc
    | 1,_,_=>exact iW y1 tb y2 td
    |j+2,h1,_=>exact absurd h1 (by simp)
   have er:((fh (min 2 2)).all (λj=>if j=0 then x1 == x2 else y1 == y2) && (2 == 2))=(x1 == x2 && y1 == y2):=by
    show([0,1].all _ && true)=_
    simp
   rw[er]at rc;refine Ho (Hn (SeqAt.EqAt.of_refs eb rc _ _ _ _ ?_))
   by_cases c1:x1=x2/\y1=y2
   .rw [show(x1 == x2 && y1 == y2)=true by simp[c1]];refine Ho (kat_nil ?_);rw[c1.1,c1.2,sI]at h;exact h
   .rw [show(x1 == x2 && y1 == y2)=false by
     cases q:(x1 == x2 && y1 == y2)with
     |false=>rfl
     |true=>simp at q;exact absurd q c1]
    refine kat_no (kat_one _ _ (HT.Ky hb1 hb2 (.cons _ _ (.cons _ _ .nil)) (.cons _ _ (.cons _ _ .nil)) hu ?_));rw[MQ]at h;exact h
 .rw [if_neg e]at h;rw[show(w1 == w2)=false by simpa using e];exact kat_no (oneLt_int h)
end
section
variable{P:bI}{env:JW}{h:cR}{H:Hp}
theorem Qz{x y:bF}{b d cl:ai}{wt:Int}{tk:Nat}{p1 p2 p3 p4 p5:xu}{x1}{Q:ak->aA->Prop}(fw:qG P w H h)(hk:env.scope.kind=.function)(hx:env.scope.names.lookup x=some .local)(hy:env.scope.names.lookup y=some .free)(hn:h.Ns env.locals (λz=>eU z [(x,aD b)]))(hcl:env.cells.lookup y=some cl)(hcv:h.IsCell cl (some (.ref d))){OW:List (List dJ×V)}{k:List dJ}(hd:H d=some (.dT OW))(hb:H b=some (.tup (k.map kV)))(hv:eD OW k=some (.int wt))(hu:A.units+64<iQ)(q:∀t tk',Q (.ref h.objs.size) { s with heap:=h.push (cz "tuple" #[.int wt t,.ref b] 0),toks:=tk' })(hdx:(x == ("__debug__":bF))=false:=by decide)(hdy:(y == ("__debug__":bF))=false:=by decide)(hdc:(y == ("__classdict__":bF))=false:=by decide):aO (aR P w) A (fz (.Tuple [.Subscript (.Name y p1) (.Name x p2) p3,.Name x p4] x1 p5) env) Q E { s with heap:=h,toks:=tk }:=by
 have lx:eU x [(x,aD b)]=some (aD b):=by rw[cP,beq_self_eq_true]
 refine Ym (jh (Subscript_ (xk (Yl hk hy hcl (v:=.ref d) hcv ?_ hdc) hdy)));refine xk (oQ hk hx hn (v:=.ref b) lx ?_) hdx;obtain⟨z,hm,xs,rel,dd⟩:=Ey fw (.inl hd);obtain⟨w',hw,rw'⟩:=pQ.some_of (v:=V.int wt) (o:=(He xs k).map (·.2)) (by rw[← hv];exact rel.val k);obtain⟨t,rfl⟩:=rw';obtain⟨p,hp,hp2⟩:=dz.mp hw
 have ty:({ s with heap:=h,toks:=tk }:aA).TypeIs (.ref d) "dict":=by obtain⟨o,es,ep,e1,e2,_⟩:=dd;exact⟨o,e1,e2.1⟩
 refine tail_any ty Fn.lookup (wpAny_getItem_heap (jP (by lia)) (qQ fw hb) dd hp ?_) rfl;rw[hp2];refine jh (xk (oQ hk hx hn (v:=.ref b) lx (lO ⟨?_,q t _⟩)) hdx);exact di (m:=2) (ay 2)
end
theorem yI{α β:Type}{R:α->β->Prop}{a:α}{b:β}(r:R a b):∀{xs:List α}{ys:List β},Paired R xs ys->Paired R (xs++[a]) (ys++[b])
 |_,_,.nil=>.cons r .nil
 |_,_,.cons h t=>.cons h (yI r t)
theorem uR{α β:Type}{R:α->β->Prop}:∀{xs:List α}{ys:List β},Paired R xs ys->ys.length=xs.length
 |_,_,.nil=>rfl
 |_,_,.cons _ t=>by simp[uR t]
theorem KI{α β:Type}{R:α->β->Prop}{xs:List α}{ys:List β}(p:Paired R xs ys):∀(i:Nat) (a:α),xs[i]?=some a->∃b,ys[i]?=some b/\R a b:=by
 induction p with
 |nil=>intro i a h;simp at h
 |cons r _ ih=>
  intro i a h
  cases i with
  |zero=>simp at h;subst h;exact⟨_,rfl,r⟩
  |succ i=>simpa using ih i a (by simpa using h)
section
variable{L a kS:ai}{ig:List (ai×jv)}{Fin:List ak->Nat->aA->Prop}
end
section
variable{L a kS:ai}{ig own:List (ai×jv)}{e:Nat}{ks:List ai}{Post:aA->Prop}
end
section
variable{L a:ai}{ig:List (ai×jv)}{n:Nat}{vs:List ak}{P:Kd->aA->Prop}
end
section
variable{X:Cx}{c Pt:ai}{e:Expr}{tx:TA}{x y:bF}{j:Nat}{params:qB}{scope:qH}{p0 p1 p2 p3 p4 p5 lpos kpos pos:xu}{x1:Nat}
end
end L2
namespace L2
open PySem.Calls
theorem ij.R3{k:Nat}{A:cT}(r:ij k A):A.units+128<iQ:=by have:=r.un;lia
section
variable{X:Cx}{CX:J5}{k:Nat}{B:ai}{x:bF}{ps:List bF}{sp:Sp}{o e:Expr}{es:List Expr}{t:TA}{E:XK}{apos pos:xu}
end
section
variable{X:Cx}{x:Expr}{t:TA}{p1 p2 q1 q2:xu}
end
end L2
namespace L2
open PySem.Calls
open PySem.W (tabObj CodeHd noTabs tabIn)
variable{Ps:List (ai×ai)}{x:bF}
theorem N7{P:bI}{w:cC}{K:aa}{mg mb:bF->Option ak}{k:Nat}{fa a:ai}{fd:gG}{sp:Sp}{s₁:aA}{vs:List ak}{ns:List Int}(KX:K.In s₁.heap)(hns:s₁.heap.Ns bV mg)(hb:s₁.heap.Ns builtinsNs mb)(hbb:∀x:bF,x≠"__name__"->mb x=dE x)(hlim:s₁.heap.NoLimit)(hg:s₁.gens=#[])(C:∀p∈Ps,mX s₁.heap p.1 p.2)(hPt0:∀p∈Ps,s₁.heap.get? p.2=some (J0 #[]))(Bm:∀p∈Ps,s₁.heap.BuiltinsAt mg p.2)(hnt:noTabs K=true)(ha:s₁.heap.get? a=some { cls:=.type "list",data:=.seq vs.toArray })(hi:eX vs ns)(hl:ns.length<=aY)(hr:ij k Hg)(F:∀base:cR,K.In base->base.Ns bV mg->(∀p∈Ps,mX base p.1 p.2/\base.BuiltinsAt mg p.2)->lN P w K mg base J8 k fa fd [x] sp)(hbind:∀(s:aA) (u:ak),Hb s fd ⟨[u],[]⟩ [(x,u)])(hsp:∀H:Hp,(∀p∈Ps,H p.2=some (.tbl #[]))->c6 K H a (ns.map V.int)->sp [.ref a] H (λv _=>v=.bl true) λ_ _ _=>False)(hCX:∀H e s',J8 [] H s₁ (λ_ _ _=>False) e s'->False):jO (aR P w) Hg (.call (.ref fa) ⟨[.ref a],[]⟩) (λr s'=>r=.ok (.ret (.bool true))/\OldK s₁.heap s'.heap/\s'.os=s₁.os/\xj s'.gens) s₁:=by
 have rv:=sG hi;have lenV:=hi.length
 have hPt:∀b,b∈Ps.map (·.2)->s₁.heap.get? b=some (J0 #[]):=λb hb=>by obtain⟨p,hp,rfl⟩:=aI.mp hb;exact hPt0 p hp
 have naP:a∉Ps.map (·.2):=λz=>by rw[hPt a z]at ha;cases ha
 have KPt:∀b,b∈Ps.map (·.2)->K.lookup b=none:=λb hb=>by
  cases q:K.lookup b with
  |none=>rfl
  |some o=>
   have e:=KX b o q;rw[hPt b hb]at e;cases e;have h2:=VW.mp hnt (b,J0 #[]) (PySem.W.mem_of_lookupK q);exact absurd (show false=true from h2) bM
 have core:∀H:Hp,(∀b,b∈Ps.map (·.2)->H b=some (.tbl #[]))->(∀b,b∉Ps.map (·.2)->H b=none\/∃o xs,H b=some (.frz o (.lst xs)))->c6 K H a (ns.map V.int)->qG P w H s₁.heap->(∀b,b∉Ps.map (·.2)->H b≠none->b=a)->(H a≠none->K.lookup a=none) ->jO (aR P w) Hg (.call (.ref fa) ⟨[.ref a],[]⟩) (λr s'=>r=.ok (.ret (.bool true))/\OldK s₁.heap s'.heap/\s'.os=s₁.os/\xj s'.gens) s₁:=by
  intro H hT hO hS fw hA hK;have base_of:∀{b:ai}{o:jv},s₁.heap.get? b=some o->H b=none->(Ay s₁.heap H).get? b=some o:=λe n=>O7 e n
  have noA:∀{b:ai}{o:jv},s₁.heap.get? b=some o->o.cls≠.type "list"->b∉Ps.map (·.2)->H b=none:=λ{b o} e d hbP=>by
   cases q:H b with
   |none=>rfl
   |some u=>
    have e':b=a:=hA b hbP (by rw[q];simp);subst e';rw[ha]at e;cases e;exact absurd rfl d
  have noD:∀{b:ai}{o:jv}{es:Array DictEntry}{ep:Nat},s₁.heap.get? b=some o->o.data=.dict es ep->H b=none:=λ{b o es ep} e d=>by
   have hbP:b∉Ps.map (·.2):=λz=>by rw[hPt b z]at e;cases e;cases d
   cases q:H b with
   |none=>rfl
   |some u=>
    have e':b=a:=hA b hbP (by rw[q];simp);subst e';rw[ha]at e;cases e;have d':Data.seq vs.toArray _=Data.dict es ep:=d;cases d'
  have nsK:∀{b:ai}{m:bF->Option ak},s₁.heap.Ns b m->(Ay s₁.heap H).Ns b m:=λ{b m} ⟨o,es,ep,e,d,r⟩=>⟨o,es,ep,base_of e (noD e d),d,r⟩
  have hKb:K.In (Ay s₁.heap H):=λb o e=>base_of (KX b o e) (by
   have hbP:b∉Ps.map (·.2):=λz=>by rw[KPt b z]at e;cases e
   cases q:H b with
   |none=>rfl
   |some u=>
    have e':b=a:=hA b hbP (by rw[q];simp);subst e'
    rw[hK (by rw[q];simp)]at e;cases e)
  have hM:Mod K mg (Ay s₁.heap H):=⟨hKb,nsK hns,⟨mb,nsK hb,hbb⟩,let ⟨mc,h1,h2⟩:=hlim;⟨mc,nsK h1,h2⟩⟩
  have notab:∀{b:ai}{o:jv},s₁.heap.get? b=some o->o.cls≠.none->b∉Ps.map (·.2):=λ{b o} e d z=>by rw[hPt b z]at e;cases e;exact d rfl
  have hCB:∀p∈Ps,mX (Ay s₁.heap H) p.1 p.2/\(Ay s₁.heap H).BuiltinsAt mg p.2:=λp hp=>by
   refine⟨?_,?_⟩
   .obtain ⟨o,vs',file,tf,flags,tg,inF,text,tt,e1,r1,r2,r3,r4,r5,r6,r7,r8,hne⟩:=C p hp;exact⟨o,vs',file,tf,flags,tg,inF,text,tt,base_of e1 (noA e1 (by rw[r1];decide) (notab e1 (by rw[r1];decide))),r1,r2,r3,r4,r5,r6,r7,r8,hne⟩
   .obtain ⟨bm,o,b1,b2,b3,b4,b5,b6,b7⟩:=Bm p hp;exact⟨bm,o,b1,b2,b3,b4,base_of b5 (noA b5 (by rw[b6];decide) (notab b5 (by rw[b6];decide))),b6,b7⟩
  have e0:Mc P w K mg (Ay s₁.heap H) Hg [] s₁ H:=⟨rfl,hM,λb o e=>SI e,ki (NC _ _),trivial,λb hb=>absurd (show b∈([]:List ai)from hb) (by simp),fw,.of_eq hg⟩
  refine mU ((F _ hKb (nsK hns) hCB).run Hg [] s₁ H ⟨[.ref a],[]⟩ [.ref a] [.ref a] _ _ hr e0 (hbind s₁ (.ref a)) (.cons rfl .nil) (hsp H (λp hp=>hT p.2 (aN hp)) hS)) λr s' h=>?_
  cases r with
  |error e=>exact(hCX H e s' h).elim
  |ok fl=>
   cases fl with
   |next=>exact ik h
   |brk=>exact ik h
   |cont=>exact ik h
   |ret u=>
    obtain⟨v,H',os,bare,un,hok',r',q⟩:=h;have q':v=.bl true:=q;subst q';obtain rfl:u=sk true:=r'
    have keep:∀b o,b∉Ps.map (·.2)->s₁.heap.get? b=some o->s'.heap.get? b=some o:=λb o hbP e=>by
     cases q:H b with
     |none=>exact un.keep b o e q (by intro z;exact absurd (show b∈([]:List ai)from z) (by simp)) (by simp)
     |some u=>
      rcases hO b hbP with z|⟨ob,xs,z⟩
      .rw [q]at z;cases z
      .have z2:=un.CL b ob _ z;obtain⟨e1,_⟩:=fw b _ z;obtain⟨e2,_⟩:=hok' b _ z2;rw[e]at e1;cases e1;exact e2
    have hmore:∀b,b∈Ps.map (·.2)->∃more,s'.heap.get? b=some (J0 (#[]++more)):=λb hb=>by obtain⟨more,hm⟩:=un.CM b _ (hT b hb);exact⟨more,hok' b _ hm⟩
    refine⟨rfl,⟨λb o e=>?_,λb o e=>?_⟩,os,bare⟩
    .by_cases hbP:b∈Ps.map (·.2)
     .obtain ⟨more,hP'⟩:=hmore b hbP;obtain⟨p,hp,rfl⟩:=aI.mp hbP;rw[hPt0 p hp]at e;cases e;exact .inr (.inl ⟨((C p hp).tab (hPt0 p hp)).isCodeTable,rfl,#[],more,rfl,hP'⟩)
     .exact .inl (keep b o hbP e)
    .by_cases hbP:b∈Ps.map (·.2)
     .obtain ⟨more,hP'⟩:=hmore b hbP;exact⟨_,hP'⟩
     .exact ⟨o,keep b o hbP e⟩
 cases hk:K.lookup a with
 |some o=>
  have e:=KX a o hk;rw[ha]at e;cases e;refine core (λb=>if b∈Ps.map (·.2)then some (.tbl #[])else none) (λb hb=>if_pos hb) (λb hb=>.inl (if_neg hb)) (.inr ⟨_,vs.toArray,_,hk,rfl,rfl,rfl,by rw[aQ,lenV];exact hl,by simpa using rv⟩) (λb u z=>?_) (λb hb z=>absurd (if_neg hb) z) λz=>absurd (if_neg naP) z
  by_cases hb:b∈Ps.map (·.2)
  .have z':=(if_pos hb).symm.trans z;cases z';exact hPt b hb
  .have z':=(if_neg hb).symm.trans z
   cases z'
 |none=>
  refine core (λb=>if b∈Ps.map (·.2)then some (.tbl #[])else if b=a then some (.frz { cls:=.type "list",data:=.seq vs.toArray } (.lst (ns.map V.int)))else none) (λb hb=>if_pos hb) (λb hb=>?_) (.inl (.inr ⟨{ cls:=.type "list",data:=.seq vs.toArray },(if_neg naP).trans (if_pos rfl)⟩)) (λb u z=>?_) (λb hb z=>?_) λ_=>hk
  .by_cases hba:b=a
   .exact .inr ⟨_,_,(if_neg hb).trans (if_pos hba)⟩
   .exact .inl ((if_neg hb).trans (if_neg hba))
  .by_cases hb:b∈Ps.map (·.2)
   .have z':=(if_pos hb).symm.trans z;cases z';exact hPt b hb
   .have z0:=(if_neg hb).symm.trans z
    by_cases hba:b=a
    .have z':=(if_pos hba).symm.trans z0;cases z';subst hba;exact⟨ha,by rw[af];exact hl,vs,_,rv,ha⟩
    .have z':=(if_neg hba).symm.trans z0;cases z'
  .by_cases hba:b=a
   .exact hba
   .exact absurd ((if_neg hb).trans (if_neg hba)) z
theorem QB{l:qC}{n k:Nat}{q:bI}{loose:List bF}{XP:(bF->Option ak)->cR->Prop}{YP:cC->cR->Prop}{d:DefRec}{K:Params->aa}{sp:cC->Sp}(hn:l.most=some n)(hn2:n<=aY)(hdf:d.params.defaults=[])(hr:ij k Hg)(hY:∀(w:cC) (h:cR),YP w h->(K w.params).In h)(htab:∀p∈Ps,∃(y:bF) (dy:DefRec),(recsOf q).find? (λe=>e.name == y)=some dy/\∀w:cC,tabIn (K w.params) y=some p)(hnt:∀w:cC,noTabs (K w.params)=true)(F:∀(w:cC) (mg:bF->Option ak) (fa:ai) (h:cR),(K w.params).In h->h.Ns bV mg->mg d.name=some (.ref fa) ->∃fd:gG,(∀(s:aA) (u:ak),Hb s fd ⟨[u],[]⟩ [(x,u)]) /\∀base:cR,(K w.params).In base->base.Ns bV mg->(∀p∈Ps,mX base p.1 p.2/\base.BuiltinsAt mg p.2)->lN l.prog w (K w.params) mg base J8 k fa fd [x] (sp w))(hsp:∀(w:cC) (H:Hp) (a:ai) (ns:List Int),ns.length<=n->(∀p∈Ps,H p.2=some (.tbl #[]))->c6 (K w.params) H a (ns.map V.int)->sp w [.ref a] H (λv _=>v=.bl true) λ_ _ _=>False)(hCX:∀(H:Hp) (s:aA) (e:ak) (s':aA),J8 [] H s (λ_ _ _=>False) e s'->False):Se q loose XP YP l.row.toRowW d [] (λf vs=>Sg f vs):=by
 refine Att.HS hn hdf λw s₀ s₁ mg mb fa o pm cd doc a vs ns G Y ho hd hcd hmg hobj hints hlen hg=>?_;have KX:=hY w _ Y;obtain⟨fd,hb,hF⟩:=F w mg fa _ KX G.T.g hmg
 have hC:∀p∈Ps,mX s₁.heap p.1 p.2/\s₁.heap.get? p.2=some (J0 #[]):=λp hp=>by obtain⟨y,dy,h1,h2⟩:=htab p hp;exact PySem.W.tab_of G.T KX h1 (h2 w)
 have hgs:=G.T.g;obtain⟨bm,ob,b1,b2,b3,b4,b5,b6⟩:=G.T.bmain
 have hbG:bm≠bV:=λq=>by obtain⟨o,es,ep,e,hd,_⟩:=hgs;rw[q,e]at b3;cases b3;rw[hd]at b6;cases b6
 refine N7 KX G.T.g G.T.b G.T.builtins G.T.nolimit hg (λp hp=>(hC p hp).1) (λp hp=>(hC p hp).2) (λp hp=>⟨bm,ob,b1,b2,hbG,λq=>?_,b3,b4,b5,b6⟩) (hnt w) hobj hints (bw hlen hn2) hr hF hb (λH hT hS=>hsp w H a ns hlen hT hS) λH e s'=>hCX H s₁ e s';have:=(hC p hp).2;rw[← q,b3]at this;cases this;cases b4
end L2
namespace L2
def QC(K:aa):List V->Hp->VK->Prop:=λxs H Q=>∃(p:ai) (ns:List Int),xs=[.ref p]/\c6 K H p (ns.map V.int)/\Q (.int ns.sum) H
theorem EL{X:Cx}(hc:X.calm=true):mO X (.builtin "sum") (QC X.K):=by
 intro pins s Z H xs us Q I r h;obtain⟨p,ns,rfl,hq,q⟩:=h;obtain⟨u,rfl,ru⟩:=vals1 r;cases ru;obtain⟨its,rv,pl,hz⟩:=I.list hq;have hi:eX its ns:=intsAre_of rv;obtain⟨ys,e⟩:=hi.allInts.items;have hn:=hi.numsOf
 have e':its=(X3 ys).toList:=by rw[← e]
 rw[e',nums_intItems]at hn
 have hl:s.heap.IsList p (X3 ys):=by rw[← e];exact pl.isList
 subst hn
 refine sum_intListG (I.ok.hd hc) hl λh' tk t' hk=>⟨.int _,H,I.kept hk,⟨t',?_⟩,q⟩
 rw[preSum_eq,bu (by simp)]
end L2
namespace L2
open PySem.W
section
variable{X:Cx}{a:Expr}{ta:TE}
end
end L2
namespace L2
open PySem.Calls PySem.W
section
variable{X:Cx}{c Pt:ai}{e:Expr}{tx:TA}{x y:bF}{j:Nat}{params:qB}{scope:qH}{p0 p1 p2 p3 p4 p5 lpos kpos pos:xu}{x1:Nat}
end
end L2
namespace Sw
section
variable{prog:bI}{w:cC}{A:cT}{E:ak->aA->Prop}{s:aA}
end
end Sw
namespace L2
open PySem.W
section
variable{X:Cx}{x:Expr}{t:TA}{p1 p2 q1 q2:xu}
end
end L2
namespace Sy
open PySem.W
abbrev SM:=StateT dM Uz
def n9:Bool->aW->Array aW->Nat->Nat->Nat->SM (Option Nat):=sortPriv% PySem.Builtin.gallop
abbrev TG:=Option (Option Nat)×Nat×Nat
def upS(b:Nat->SM (Option Bool))(g:Nat->Nat)(f:Bool->Bool)(m:Nat)(_:Nat)(z:TG):SM (ForInStep TG):=
 if z.2.2>=m then pure (.done (none,z.2))else do
  match ← b (g z.2.2)with
  |some c=>if f c=true then pure (.done (none,z.2))else pure (.yield (none,z.2.2,2*z.2.2+1))
  |_=>pure (.done (some none,z.2))
def Y2(b:Nat->SM (Option Bool))(_:Nat)(z:TG):SM (ForInStep TG):=
 if z.2.1>=z.2.2 then pure (.done (none,z.2))else do
  match ← b (z.2.1+(z.2.2-z.2.1)/2)with
  |some c=>if c=true then pure (.yield (none,z.2.1+(z.2.2-z.2.1)/2+1,z.2.2))else pure (.yield (none,z.2.1,z.2.1+(z.2.2-z.2.1)/2))
  |_=>pure (.done (some none,z.2))
def Xe(b:Nat->SM (Option Bool))(n lo hi:Nat):SM (Option Nat):=do
 let z ← forIn [0:n] ((none,lo,hi):TG) (Y2 b)
 (match z.1 with
 |some r=>pure r
 |none=>pure (some z.2.2))
def gal(b:Nat->SM (Option Bool))(n h:Nat):SM (Option Nat):=do
 match ← b h with
 |some c=>(if c=true then(do
  let z ← forIn [0:n] ((none,0,1):TG) (upS b (λo=>h+o) (λc=>!c) (n-h))
  (match z.1 with
  |some r=>pure r
  |none=>Xe b n (h+z.2.1+1) (h+min z.2.2 (n-h))))
  else(do
   let z ← forIn [0:n] ((none,0,1):TG) (upS b (λo=>h-o) (λc=>c) (h+1))
   (match z.1 with
   |some r=>pure r
   |none=>Xe b n (h+1-min z.2.2 (h+1)) (h-z.2.1))))
 |_=>pure none
def bey(left:Bool)(key:aW)(arr:Array aW)(base i:Nat):SM (Option Bool):=do
 let x ← mE arr (base+i)
 if left then lt' x key else return (← lt' key x).map (!·)
theorem N8(left:Bool)(key:aW)(arr:Array aW)(base n hint:Nat):n9 left key arr base n hint=gal (bey left key arr base) n hint:=by kernel_rfl
section
variable{M:Model}{A:cT}{E:ak->aA->Prop}{s:aA}{st:dM}{n m h:Nat}{P:Nat->Bool}{b:Nat->SM (Option Bool)}{Q:Option Nat->dM->Prop}
theorem Y3{g:Nat->Nat}{f:Bool->Bool}{Q:TG->dM->Prop}(hb:∀o (Q:Option Bool->dM->Prop),o<m->Q (some (P (g o))) st->vv M A E s (b (g o)) Q st)(hm:m<=n)(h0:0<m)(h:∀l o,l<o->l<m->(l=0\/f (P (g l))=false)->(o<m->f (P (g o))=true)->Q (none,l,o) st):vv M A E s (forIn [0:n] ((none,0,1):TG) (upS b g f m)) Q st:=by
 refine fT (I:=λx z st'=>st'=st/\z.1=none/\z.2.1<z.2.2/\z.2.1<m/\(z.2.1=0\/f (P (g z.2.1))=false)/\x<z.2.2) ?_ ?_ ⟨rfl,rfl,by decide,h0,.inl rfl,by decide⟩
 .rintro x ⟨z,l,o⟩ st' _ hx ⟨rfl,rfl,h1,h2,h3,h4⟩;unfold upS;dsimp only at h1 h2 h3 h4 ⊢
  by_cases c:o>=m
  .rw [if_pos c];exact bo (h l o h1 h2 h3 λq=>absurd q (by lia))
  .rw [if_neg c];refine aU (hb o _ (by lia) ?_);dsimp only
   by_cases d:f (P (g o))=true
   .rw [if_pos d];exact bo (h l o h1 h2 h3 λ_=>d)
   .rw [if_neg d];exact bo ⟨rfl,rfl,by dsimp only;lia,by dsimp only;lia,.inr (by simpa using d),by dsimp only;lia⟩
 .rintro ⟨z,l,o⟩ st' ⟨rfl,rfl,h1,h2,h3,h4⟩;exact h l o h1 h2 h3 λq=>absurd q (by dsimp only at h4;lia)
theorem U5{lo hi:Nat}(hb:∀i (Q:Option Bool->dM->Prop),i<n->Q (some (P i)) st->vv M A E s (b i) Q st)(hP:∀i j,i<=j->j<n->P j=true->P i=true)(h:∀k,k<=n->(∀i,i<k->P i=true)->(∀i,k<=i->i<n->P i=false)->Q (some k) st)(h1:lo<=hi)(h2:hi<=n)(h3:lo=0\/P (lo-1)=true)(h4:hi<n->P hi=false):vv M A E s (Xe b n lo hi) Q st:=by
 have fin:∀l r,l<=r->r<=n->(l=0\/P (l-1)=true)->(r<n->P r=false)->r<=l->Q (some r) st:=λl r a1 a2 a3 a4 a5=>h r a2 (λi hi=>a3.elim (λz=>by lia) λz=>hP i _ (by lia) (by lia) z) λi z1 z2=>by
  cases q:P i with
  |false=>rfl
  |true=>have:=hP r i z1 z2 q;rw[a4 (by lia)]at this;cases this
 refine aU (fT (I:=λx z st'=>st'=st/\z.1=none/\z.2.1<=z.2.2/\z.2.2<=n/\(z.2.1=0\/P (z.2.1-1)=true)/\(z.2.2<n->P z.2.2=false)/\z.2.2+x<=z.2.1+n) ?_ ?_ ⟨rfl,rfl,h1,h2,h3,h4,by dsimp only;lia⟩)
 .rintro x ⟨z,l,r⟩ st' _ hx ⟨rfl,rfl,a1,a2,a3,a4,a5⟩;unfold Y2;dsimp only at a1 a2 a3 a4 a5 ⊢
  by_cases c:l>=r
  .rw [if_pos c];exact bo (bo (fin l r a1 a2 a3 a4 c))
  .rw [if_neg c];refine aU (hb _ _ (by lia) ?_)
   cases d:P (l+(r-l)/2)with
   |true=>exact bo ⟨rfl,rfl,by dsimp only;lia,a2,.inr d,a4,by dsimp only;lia⟩
   |false=>exact bo ⟨rfl,rfl,by dsimp only;lia,by dsimp only;lia,a3,λ_=>d,by dsimp only;lia⟩
 .rintro ⟨z,l,r⟩ st' ⟨rfl,rfl,a1,a2,a3,a4,a5⟩;exact bo (fin l r a1 a2 a3 a4 (by dsimp only at a1 a5;lia))
theorem Y4(hb:∀i (Q:Option Bool->dM->Prop),i<n->Q (some (P i)) st->vv M A E s (b i) Q st)(hP:∀i j,i<=j->j<n->P j=true->P i=true)(hh:h<n)(hq:∀k,k<=n->(∀i,i<k->P i=true)->(∀i,k<=i->i<n->P i=false)->Q (some k) st):vv M A E s (gal b n h) Q st:=by
 refine aU (hb h _ hh ?_);dsimp only
 by_cases c:P h=true
 .rw [if_pos c];refine aU (Y3 (P:=P) (λo Q ho q=>hb _ Q (by lia) q) (by lia) (by lia) λl o h1 h2 h3 h4=>U5 hb hP hq (by dsimp only;lia) (by dsimp only;lia) (.inr ?_) λz=>?_)
  .rcases h3 with rfl|h3
   .exact c
   .show P (h+l)=true;simpa using h3
  .have e:min o (n-h)=o:=by dsimp only at z;lia
   dsimp only at z ⊢;rw[e]at z ⊢;simpa using h4 (by lia)
 .rw [if_neg c];refine aU (Y3 (P:=P) (λo Q ho q=>hb _ Q (by lia) q) (by lia) (by lia) λl o h1 h2 h3 h4=>U5 hb hP hq (by dsimp only;lia) (by dsimp only;lia) ?_ λz=>?_)
  .dsimp only
   by_cases q:o<h+1
   .refine .inr ?_
    have e:h+1-min o (h+1)-1=h-o:=by lia
    rw[e];exact h4 q
   .exact .inl (by lia)
  .rcases h3 with rfl|h3
   .simpa using c
   .exact h3
end
end Sy
namespace Sy
open PySem.W
structure G(r:aW->Int)(all out u v:List aW):Prop where
 pm:(out++(u++v)).Perm all
 so:out.Pairwise λx y=>r x<=r y
 su:u.Pairwise λx y=>r x<=r y
 sv:v.Pairwise λx y=>r x<=r y
 le:∀x∈out,∀y∈u++v,r x<=r y
section
variable{r:aW->Int}{all out u v c:List aW}{x:aW}
theorem G.swap(g:G r all out u v):G r all out v u:=
 ⟨(lG _ fV).trans g.pm,g.so,g.sv,g.su,λx hx y hy=>g.le x hx y (by simpa[or_comm]using hy)⟩
theorem G.take(g:G r all out (c++u) v)(h:∀x∈c,∀y∈v,r x<=r y):G r all (out++c) u v:=by
 obtain⟨s1,s2,s3⟩:=gK.mp g.su;refine⟨by simpa using g.pm,gK.mpr ⟨g.so,s1,λx hx y hy=>g.le x hx y (by simp[hy])⟩,s2,g.sv,λx hx y hy=>?_⟩
 rcases aL.mp hx with hx|hx
 .exact g.le x hx y (by rcases aL.mp hy with z|z<;>simp[z])
 .rcases aL.mp hy with z|z
  .exact s3 x hx y z
  .exact h x hx y z
theorem G.done(g:G r all out u []):G r all (out++u) [] []:=G.take (u:=[]) (by simpa using g) λ_ _ _ z=>nomatch z
theorem G.len(g:G r all out u v):out.length+u.length+v.length=all.length:=by have:=g.pm.length_eq;simp at this;lia
end
abbrev S1(α β γ:Type):=Option (Array aW)×α×β×γ×Nat×Nat
abbrev S2(α β γ:Type):=Option (Array aW)×α×β×γ×Nat×Nat×Nat
abbrev S0(α β γ:Type):=Option (Array aW)×α×β×γ×Nat
abbrev T1:=S1 (Array aW) Nat Nat
abbrev T2:=S2 (Array aW) Nat Nat
def QD(g:Nat):SM Unit:=modify λs=>bf (kindOf s) (m7 s) (cL s) g (i4 s)
def rnd{α β γ:Type}(N:Nat)(B:Nat->Nat->S1 α β γ->SM (ForInStep (S1 α β γ)))(g:Nat->S2 α β γ->SM (ForInStep (S2 α β γ)))(_:Nat)(z:S0 α β γ):SM (ForInStep (S0 α β γ)):=do
 let y ← forIn [0:N] ((none,z.2.1,z.2.2.1,z.2.2.2.1,0,0):S1 α β γ) (B z.2.2.2.2)
 (match y.1 with
 |some r=>pure (.done (some r,y.2.1,y.2.2.1,y.2.2.2.1,z.2.2.2.2))
 |none=>do
  liftM (CO "list.sort.gallop")
  let x ← forIn [0:N] ((none,y.2.1,y.2.2.1,y.2.2.2.1,z.2.2.2.2+1,y.2.2.2.2):S2 α β γ) g
  (match x.1 with
  |some r=>pure (.done (some r,x.2.1,x.2.2.1,x.2.2.2.1,x.2.2.2.2.1))
  |none=>do
   QD (x.2.2.2.2.1+1)
   pure (.yield (none,x.2.1,x.2.2.1,x.2.2.2.1,x.2.2.2.2.1+1))))
def mrg{α β γ:Type}(N:Nat)(B:Nat->Nat->S1 α β γ->SM (ForInStep (S1 α β γ)))(g:Nat->S2 α β γ->SM (ForInStep (S2 α β γ)))(x:α)(y:β)(z:γ):SM (Array aW):=do
 let t ← get
 let q ← forIn [0:N] ((none,x,y,z,gallopOf t):S0 α β γ) (rnd N B g)
 (match q.1 with
 |some r=>pure r
 |none=>liftM (unsupported "internal:list.sort.merge-bound"))
def A5:Array aW->Array aW->SM (Array aW):=sortPriv% PySem.Builtin.mergeLo
section
variable(a b:Array aW)
def dn(o:Array aW)(i j:Nat):Array aW:=o++a.extract i a.size++b.extract j b.size
def lst(o:Array aW)(i j:Nat):Array aW:=o++b.extract j b.size++a.extract i a.size
def loB(mg:Nat)(_:Nat)(z:T1):SM (ForInStep T1):=do
 match ← lt' (← mE b z.2.2.2.1) (← mE a z.2.2.1)with
 |some c=>(if c=true then(do
  let o:=z.2.1.push (← mE b z.2.2.2.1)
  if(z.2.2.2.1+1 == b.size)=true then pure (.done (some (dn a b o z.2.2.1 (z.2.2.2.1+1)),o,z.2.2.1,z.2.2.2.1+1,0,z.2.2.2.2.2+1))
  else if z.2.2.2.2.2+1>=mg then pure (.done (none,o,z.2.2.1,z.2.2.2.1+1,0,z.2.2.2.2.2+1))else pure (.yield (none,o,z.2.2.1,z.2.2.2.1+1,0,z.2.2.2.2.2+1)))
  else(do
   let o:=z.2.1.push (← mE a z.2.2.1)
   if(z.2.2.1+1+1 == a.size)=true then pure (.done (some (lst a b o (z.2.2.1+1) z.2.2.2.1),o,z.2.2.1+1,z.2.2.2.1,z.2.2.2.2.1+1,0))
   else if z.2.2.2.2.1+1>=mg then pure (.done (none,o,z.2.2.1+1,z.2.2.2.1,z.2.2.2.2.1+1,0))else pure (.yield (none,o,z.2.2.1+1,z.2.2.2.1,z.2.2.2.2.1+1,0))))
 |_=>pure (.done (some (dn a b z.2.1 z.2.2.1 z.2.2.2.1),z.2))
def TY(o:Array aW)(i j mg k m:Nat):SM (ForInStep T2):=do
 let o:=o.push (← mE a i)
 if(i+1+1 == a.size)=true then pure (.done (some (lst a b o (i+1) j),o,i+1,j,mg,k,m))
 else if(decide (k<7) && decide (m<7))=true then pure (.done (none,o,i+1,j,mg,k,m))else pure (.yield (none,o,i+1,j,mg,k,m))
def TZ(o:Array aW)(i j mg k q:Nat):SM (ForInStep T2):=do
 let o:=o.push (← mE b j)
 if(j+1 == b.size)=true then pure (.done (some (dn a b o i (j+1)),o,i,j+1,mg,k,q))
 else(do
  match ← n9 true (← mE a i) b (j+1) (b.size-(j+1)) 0 with
  |some m=>if m>0 then(if(j+1+m == b.size)=true then pure (.done (some (dn a b (o++b.extract (j+1) (j+1+m)) i (j+1+m)),o++b.extract (j+1) (j+1+m),i,j+1+m,mg,k,m))else TY a b (o++b.extract (j+1) (j+1+m)) i (j+1+m) mg k m)else TY a b o i (j+1) mg k m
  |_=>pure (.done (some (dn a b o i (j+1)),o,i,j+1,mg,k,q)))
def QE(z:T2)(mg:Nat):SM (ForInStep T2):=do
 QD mg
 match ← n9 false (← mE b z.2.2.2.1) a z.2.2.1 (a.size-z.2.2.1) 0 with
 |some k=>if k>0 then(if(z.2.2.1+k+1 == a.size)=true then pure (.done (some (lst a b (z.2.1++a.extract z.2.2.1 (z.2.2.1+k)) (z.2.2.1+k) z.2.2.2.1),z.2.1++a.extract z.2.2.1 (z.2.2.1+k),z.2.2.1+k,z.2.2.2.1,mg,k,z.2.2.2.2.2.2))
  else if(z.2.2.1+k == a.size)=true then pure (.done (some (dn a b (z.2.1++a.extract z.2.2.1 (z.2.2.1+k)) (z.2.2.1+k) z.2.2.2.1),z.2.1++a.extract z.2.2.1 (z.2.2.1+k),z.2.2.1+k,z.2.2.2.1,mg,k,z.2.2.2.2.2.2))
  else TZ a b (z.2.1++a.extract z.2.2.1 (z.2.2.1+k)) (z.2.2.1+k) z.2.2.2.1 mg k z.2.2.2.2.2.2)else TZ a b z.2.1 z.2.2.1 z.2.2.2.1 mg k z.2.2.2.2.2.2
 |_=>pure (.done (some (dn a b z.2.1 z.2.2.1 z.2.2.2.1),z.2.1,z.2.2.1,z.2.2.2.1,mg,z.2.2.2.2.2))
def loG(_:Nat)(z:T2):SM (ForInStep T2):=if z.2.2.2.2.1>1 then QE a b z (z.2.2.2.2.1-1)else QE a b z z.2.2.2.2.1
theorem Y5:A5 a b=(do
 liftM (CO "list.sort.merge-lo")
 let x ← mE b 0
 if(1 == b.size)=true then pure (dn a b #[x] 0 1)else if(0+1 == a.size)=true then pure (lst a b #[x] 0 1)
 else mrg (a.size+b.size) (loB a b) (loG a b) #[x] 0 1):=by kernel_rfl
end
end Sy
namespace Sy
open PySem.W
def St(r:aW->Int)(a:Array aW)(i j:Nat):Prop:=∀t u x y,i<=t->t<=u->u<j->a[t]?=some x->a[u]?=some y->r x<=r y
def Bv(r:aW->Int)(left:Bool)(key x:aW):Bool:=if left=true then decide (r x<r key)else !decide (r key<r x)
def FQ(prog:bI)(w:cC)(A:cT)(s:aA)(κ:jx)(D:aW->Prop)(r:aW->Int):Prop:=
 ∀x y,D x->D y->∀Q:Bool->aA->Prop,Q (decide (r x<r y)) s->aO (aR prog w) A (keyLt' κ x.1 y.1) Q (λ_ _=>False) s
section
variable{prog:bI}{w:cC}{A:cT}{E:ak->aA->Prop}{s:aA}{κ:jx}{D:aW->Prop}{r:aW->Int}{st:dM}{a b:Array aW}{x y key:aW}{i j n hint:Nat}{left:Bool}
theorem w_lt(hc:FQ prog w A s κ D r)(hk:kindOf st=κ)(hx:D x)(hy:D y){Q:Option Bool->dM->Prop}(h:Q (some (decide (r x<r y))) st):vv (aR prog w) A E s (lt' x y) Q st:=by rw[lt'_eq];refine aU (qk ?_);rw[hk];exact aU (Hq (iC (dQ (hc x y hx hy (λc s'=>s'=s/\c=decide (r x<r y)) ⟨rfl,rfl⟩) (λc s' q=>⟨q.1,by rw[q.2];exact bo h⟩) λ_ _ q=>q.elim)))
theorem nE{Q:aW->dM->Prop}(e:a[i]?=some x)(h:Q x st):vv (aR prog w) A E s (mE a i) Q st:=by rw[elem'_eq,e];exact bo h
theorem pj{Q:Option Nat->dM->Prop}(hc:FQ prog w A s κ D r)(hk:kindOf st=κ)(hD:∀(t:Nat) x,a[t]?=some x->D x)(hy:D key)(hz:i+n<=a.size)(hs:St r a i (i+n))(hh:hint<n)(h:∀k,k<=n->(∀t x,i<=t->t<i+k->a[t]?=some x->Bv r left key x=true)->(∀t x,i+k<=t->t<i+n->a[t]?=some x->Bv r left key x=false)->Q (some k) st):vv (aR prog w) A E s (n9 left key a i n hint) Q st:=by
 rw[N8]
 have get:∀t,t<n->∃x,a[i+t]?=some x:=λt ht=>⟨a[i+t],by simp⟩
 refine Y4 (P:=λt=>((a[i+t]?).map (Bv r left key)).getD false) (λt Q ht q=>?_) (λt u h1 h2 h3=>?_) hh λk h1 h2 h3=>h k h1 (λt x z1 z2 e=>?_) λt x z1 z2 e=>?_
 .obtain ⟨x,e⟩:=get t ht
  have q:Q (some (Bv r left key x)) st:=by simpa[e]using q
  refine aU (nE e ?_)
  cases left with
  |true=>exact w_lt hc hk (hD _ x e) hy q
  |false=>exact aU (w_lt hc hk hy (hD _ x e) (bo q))
 .obtain ⟨x,e⟩:=get t (by lia);obtain⟨y,f⟩:=get u h2;have le:=hs _ _ x y (by lia) (show i+t<=i+u by lia) (by lia) e f;simp only[e,f,jr,Option.getD_some]at h3 ⊢
  cases left with
  |true=>exact decide_eq_true (Int.lt_of_le_of_lt le (of_decide_eq_true h3))
  |false=>
   have h3:(!decide (r key<r y))=true:=h3
   show(!decide (r key<r x))=true
   simp only[Bool.not_eq_true',decide_eq_false_iff_not]at h3 ⊢;lia
 .have:=h2 (t-i) (by lia);rw[show i+(t-i)=t by lia]at this
  simpa[e]using this
 .have:=h3 (t-i) (by lia) (by lia);rw[show i+(t-i)=t by lia]at this
  simpa[e]using this
end
section
variable{a:Array aW}{x:aW}{i j k:Nat}
theorem MR(a:Array aW)(i k:Nat):a.toList.drop i=(a.extract i (i+k)).toList++a.toList.drop (i+k):=by
 have:=(dr k (a.toList.drop i)).symm
 simpa[Yq]using this
theorem KJ(h:x∈a.toList.drop i):∃t,i<=t/\t<a.size/\a[t]?=some x:=by obtain⟨t,ht,e⟩:=O4.mp h;simp at ht;exact⟨i+t,by lia,by lia,by rw[List.getElem_drop]at e;rw[← e];simp⟩
theorem xM(h:x∈(a.extract i j).toList):∃t,i<=t/\t<j/\t<a.size/\a[t]?=some x:=by obtain⟨t,ht,e⟩:=O4.mp h;simp at ht;exact⟨i+t,by lia,by lia,by lia,by rw[Array.getElem_toList,Array.getElem_extract]at e;rw[← e];simp⟩
theorem xK(h:a.size<=i):a.toList.drop i=[]:=List.drop_eq_nil_of_le (by simpa using h)
theorem qT(a:Array aW)(i:Nat):(a.extract i a.size).toList=a.toList.drop i:=by simpa using bu (by simp)
end
end Sy
namespace Sy
open PySem.W
section
variable{prog:bI}{w:cC}{A:cT}{E:ak->aA->Prop}{s:aA}{κ:jx}{D:aW->Prop}{r:aW->Int}{a b:Array aW}{xs o:Array aW}{pd:Array (Nat×Nat×Nat)}{i j k g mg N:Nat}{all:List aW}
def F(r:aW->Int)(all:List aW)(o:Array aW):Prop:=G r all o.toList [] []
def J(r:aW->Int)(all:List aW)(a b o:Array aW)(i j:Nat):Prop:=G r all o.toList (a.toList.drop i) (b.toList.drop j)
def JS(r:aW->Int)(all:List aW)(a b:Array aW)(k:Nat)(z:Option (Array aW))(o:Array aW)(i j:Nat):Prop:=
 (∀q,z=some q->F r all q)/\(z=none->J r all a b o i j/\i+1<a.size/\j<b.size/\k<=o.size)
structure G7(r:aW->Int)(D:aW->Prop)(a b:Array aW):Prop where
 da:∀(t:Nat) x,a[t]?=some x->D x
 db:∀(t:Nat) x,b[t]?=some x->D x
 sa:St r a 0 a.size
 sb:St r b 0 b.size
 la:∀(t u:Nat) x y,t+1=a.size->a[t]?=some x->b[u]?=some y->r y<=r x
theorem J.len(g:J r all a b o i j)(hi:i<=a.size)(hj:j<=b.size)(hl:all.length=a.size+b.size):o.size=i+j:=by have:=G.len g;simp at this;lia
theorem J.fb(g:J r all a b o i j)(h:j=b.size):F r all (dn a b o i j):=by unfold J at g;rw[xK (a:=b) (ki h.symm)]at g;have:=g.done;unfold F dn;rw[hU,hU,qT,qT,xK (a:=b) (ki h.symm),gY];exact this
theorem J.fa(g:J r all a b o i j)(h:i=a.size):F r all (dn a b o i j):=by unfold J at g;rw[xK (a:=a) (ki h.symm)]at g;have:=g.swap.done;unfold F dn;rw[hU,hU,qT,qT,xK (a:=a) (ki h.symm),gY];exact this
theorem J.fl(g:J r all a b o i j)(T:G7 r D a b)(h:i+1=a.size):F r all (lst a b o i j):=by
 have g2:G r all (o.toList++b.toList.drop j) [] (a.toList.drop i):=G.take (by simpa using G.swap g) λy hy x hx=>by obtain⟨t,h1,h2,e⟩:=KJ hx;obtain⟨u,_,_,f⟩:=KJ hy;exact T.la t u x y (by lia) e f
 have:=g2.swap.done;unfold F lst;rw[hU,hU,qT,qT];exact this
theorem J.ta(g:J r all a b o i j)(h:∀t x u y,i<=t->t<i+k->a[t]?=some x->j<=u->b[u]?=some y->r x<=r y):J r all a b (o++a.extract i (i+k)) (i+k) j:=by
 unfold J at g ⊢;rw[MR a i k]at g;rw[hU]
 exact g.take λx hx y hy=>by obtain⟨t,h1,h2,_,e⟩:=xM hx;obtain⟨u,h3,_,f⟩:=KJ hy;exact h t x u y h1 h2 e h3 f
theorem J.tb(g:J r all a b o i j)(h:∀t x u y,j<=t->t<j+k->b[t]?=some x->i<=u->a[u]?=some y->r x<=r y):J r all a b (o++b.extract j (j+k)) i (j+k):=
 G.swap (J.ta (a:=b) (b:=a) (G.swap g) h)
theorem QF{x:aW}(e:a[i]?=some x):o.push x=o++a.extract i (i+1):=by
 obtain⟨h,rfl⟩:=cE.mp e
 apply j8.mp
 have:=fU (l:=a.toList) (i:=i) (by simpa using h);simp[this]
theorem J.pa{x:aW}(g:J r all a b o i j)(T:G7 r D a b)(e:a[i]?=some x)(h:∀u y,j<=u->b[u]?=some y->r x<=r y):J r all a b (o.push x) (i+1) j:=by
 rw[QF e]
 exact J.ta g λt z u y h1 h2 f h3 h4=>by
  have:t=i:=by lia
  subst this;rw[e]at f;cases f;exact h u y h3 h4
theorem J.pb{x:aW}(g:J r all a b o i j)(T:G7 r D a b)(e:b[j]?=some x)(h:∀u y,i<=u->a[u]?=some y->r x<=r y):J r all a b (o.push x) i (j+1):=by
 rw[QF e]
 exact J.tb g λt z u y h1 h2 f h3 h4=>by
  have:t=j:=by lia
  subst this;rw[e]at f;cases f;exact h u y h3 h4
end
end Sy
namespace Sy
open PySem.W
variable{a:Array aW}{i:Nat}
section
variable{prog:bI}{w:cC}{A:cT}{E:ak->aA->Prop}{s:aA}{κ:jx}{D:aW->Prop}{r:aW->Int}{st:dM}{b:Array aW}{xs o:Array aW}{pd:Array (Nat×Nat×Nat)}{j k m q g mg N:Nat}{all:List aW}
def Sm(κ:jx)(xs:Array aW)(pd:Array (Nat×Nat×Nat))(st:dM):Prop:=∃g,st=bf κ xs pd g none
theorem gE(h:i<a.size):∃x,a[i]?=some x:=⟨a[i],by simp[h]⟩
theorem qU{x:aW}(h:a[i]?=some x):i<a.size:=(cE.mp h).1
theorem JS.told{q:Array aW}(h:F r all q):JS r all a b k (some q) o i j:=⟨λ_ e=>by cases e;exact h,nofun⟩
theorem JS.on(h1:J r all a b o i j)(h2:i+1<a.size)(h3:j<b.size)(h4:k<=o.size):JS r all a b k none o i j:=⟨(λ_ e=>nomatch e),λ_=>⟨h1,h2,h3,h4⟩⟩
theorem Y6(hc:FQ prog w A s κ D r)(hk:kindOf st=κ)(T:G7 r D a b){Q:T1->dM->Prop}(h1:J r all a b o i j)(h2:i+1<a.size)(h3:j<b.size)(h:∀z,JS r all a b o.size z.1 z.2.1 z.2.2.1 z.2.2.2.1->Q z st):vv (aR prog w) A E s (forIn [0:N] ((none,o,i,j,0,0):T1) (loB a b mg)) Q st:=by
 refine fT (I:=λx z st'=>st'=st/\z.1=none/\J r all a b z.2.1 z.2.2.1 z.2.2.2.1/\z.2.2.1+1<a.size/\z.2.2.2.1<b.size/\o.size<=z.2.1.size) ?_ ?_ ⟨rfl,rfl,h1,h2,h3,ay _⟩
 .rintro x ⟨z,o',i',j',ac,bc⟩ st' _ hx ⟨rfl,rfl,g,g2,g3,g4⟩;dsimp only at g g2 g3 g4;obtain⟨u,eu⟩:=gE (a:=a) (i:=i') (by lia);obtain⟨v,ev⟩:=gE g3;unfold loB;refine aU (nE ev (aU (nE eu (aU (w_lt hc hk (T.db _ _ ev) (T.da _ _ eu) ?_)))));dsimp only
  have sz:∀x:aW,o.size<=(o'.push x).size:=λx=>by rw[iG];lia
  by_cases c:r v<r u
  .rw [decide_eq_true c,if_pos rfl];have g5:=g.pb T ev λt y h1 e=>c8 (gH c) (T.sa _ _ _ _ (aK _) h1 (qU e) eu e);refine aU (nE ev ?_)
   by_cases e:j'+1=b.size
   .rw [if_pos (by simpa using e)];exact bo (h _ (JS.told (g5.fb e)))
   .rw [if_neg (by simpa using e)]
    by_cases f:bc+1>=mg
    .rw [if_pos f];exact bo (h _ (JS.on g5 g2 (by dsimp only;lia) (sz _)))
    .rw [if_neg f];exact bo ⟨rfl,rfl,g5,g2,by dsimp only;lia,sz _⟩
  .rw [decide_eq_false c,if_neg (by simp)];have g5:=g.pa T eu λt y h1 e=>c8 (pU.mp c) (T.sb _ _ _ _ (aK _) h1 (qU e) ev e);refine aU (nE eu ?_)
   by_cases e:i'+1+1=a.size
   .rw [if_pos (by simpa using e)];exact bo (h _ (JS.told (g5.fl T e)))
   .rw [if_neg (by simpa using e)]
    by_cases f:ac+1>=mg
    .rw [if_pos f];exact bo (h _ (JS.on g5 (by dsimp only;lia) g3 (sz _)))
    .rw [if_neg f];exact bo ⟨rfl,rfl,g5,by dsimp only;lia,g3,sz _⟩
 .rintro ⟨z,o',i',j',ac,bc⟩ st' ⟨rfl,rfl,g,g2,g3,g4⟩;exact h _ (JS.on g g2 g3 g4)
def Nx(κ:jx)(xs:Array aW)(pd:Array (Nat×Nat×Nat))(r:aW->Int)(all:List aW)(a b:Array aW)(k:Nat)(x:ForInStep T2)(st':dM):Prop:=
 Sm κ xs pd st'/\match x with
  | .done z=>JS r all a b k z.1 z.2.1 z.2.2.1 z.2.2.2.1
  | .yield z=>z.1=none/\J r all a b z.2.1 z.2.2.1 z.2.2.2.1/\z.2.2.1+1<a.size/\z.2.2.2.1<b.size/\k<=z.2.1.size
theorem U6(T:G7 r D a b)(h0:Sm κ xs pd st)(h1:J r all a b o i j)(h2:i+1<a.size)(h3:j<b.size)(h4:k<=o.size+1)(h:∀x,a[i]?=some x->∀u y,j<=u->b[u]?=some y->r x<=r y):vv (aR prog w) A E s (TY a b o i j mg m q) (Nx κ xs pd r all a b k) st:=by
 obtain⟨x,e⟩:=gE (a:=a) (i:=i) (by lia);unfold TY;have g:=h1.pa T e (h x e)
 have sz:k<=(o.push x).size:=by rw[iG];lia
 refine aU (nE e ?_);dsimp only
 by_cases c:i+1+1=a.size
 .rw [if_pos (by simpa using c)];exact bo ⟨h0,JS.told (g.fl T c)⟩
 .rw [if_neg (by simpa using c)]
  split
  .exact bo ⟨h0,JS.on g (by dsimp only;lia) h3 sz⟩
  .exact bo ⟨h0,rfl,g,by dsimp only;lia,h3,sz⟩
theorem U7(hc:FQ prog w A s κ D r)(T:G7 r D a b)(h0:Sm κ xs pd st)(h1:J r all a b o i j)(h2:i+1<a.size)(h3:j<b.size)(h4:k<=o.size+2)(h:∀x,b[j]?=some x->∀u y,i<=u->a[u]?=some y->r x<=r y):vv (aR prog w) A E s (TZ a b o i j mg m q) (Nx κ xs pd r all a b k) st:=by
 obtain⟨x,e⟩:=gE h3;obtain⟨y,f⟩:=gE (a:=a) (i:=i) (by lia);unfold TZ;have g:=h1.pb T e (h x e);refine aU (nE e ?_);dsimp only
 by_cases c:j+1=b.size
 .rw [if_pos (by simpa using c)];exact bo ⟨h0,JS.told (g.fb c)⟩
 .rw [if_neg (by simpa using c)]
  have hk:kindOf st=κ:=by obtain⟨_,rfl⟩:=h0;rfl
  refine aU (nE f (aU (pj hc hk T.db (T.da _ _ f) (by lia) (λt u x y z1 z2 z3=>T.sb t u x y (aK _) z2 (by lia)) (by lia) λn n1 n2 n3=>?_)));dsimp only;have ya:∀u z,i<=u->a[u]?=some z->r y<=r z:=λu z h1 e=>T.sa _ _ _ _ (aK _) h1 (qU e) f e;have g2:=g.tb (k:=n) λt x u z z1 z2 e1 z3 e2=>c8 (gH (of_decide_eq_true (n2 t x z1 z2 e1))) (ya u z z3 e2)
  have hb:∀x,a[i]?=some x->∀u z,j+1+n<=u->b[u]?=some z->r x<=r z:=λx e1 u z h1 e2=>by rw[f]at e1;cases e1;exact pU.mp (of_decide_eq_false (n3 u z h1 (by have:=qU e2;lia) e2))
  have sz:k<=(o.push x).size+1:=by rw[iG];lia
  by_cases d:n>0
  .rw [if_pos d]
   by_cases c2:j+1+n=b.size
   .rw [if_pos (by simpa using c2)];exact bo ⟨h0,JS.told (g2.fb c2)⟩
   .rw [if_neg (by simpa using c2)];exact U6 T h0 g2 h2 (by lia) (by rw[pZ];lia) hb
  .rw [if_neg d]
   have:n=0:=by lia
   subst this;exact U6 T h0 g h2 (by lia) sz hb
theorem Y7(hc:FQ prog w A s κ D r)(T:G7 r D a b)(h0:Sm κ xs pd st){z:T2}(h1:J r all a b z.2.1 z.2.2.1 z.2.2.2.1)(h2:z.2.2.1+1<a.size)(h3:z.2.2.2.1<b.size)(h4:k<=z.2.1.size+1):vv (aR prog w) A E s (QE a b z mg) (Nx κ xs pd r all a b k) st:=by
 obtain⟨z0,o,i,j,g0,ac,bc⟩:=z;dsimp only at h1 h2 h3 h4;obtain⟨x,e⟩:=gE h3;unfold QE QD;dsimp only;refine aU (iI ?_)
 have h0':Sm κ xs pd (bf (kindOf st) (m7 st) (cL st) mg (i4 st)):=by obtain⟨g,rfl⟩:=h0;exact⟨mg,rfl⟩
 have hk:kindOf (bf (kindOf st) (m7 st) (cL st) mg (i4 st))=κ:=by obtain⟨_,e⟩:=h0';rw[e]
 generalize bf (kindOf st) (m7 st) (cL st) mg (i4 st)=st1 at h0' hk;refine aU (nE e (aU (pj hc hk T.da (T.db _ _ e) (by lia) (λt u x y z1 z2 z3=>T.sa t u x y (aK _) z2 (by lia)) (by lia) λn n1 n2 n3=>?_)));dsimp only;have xb:∀u z,j<=u->b[u]?=some z->r x<=r z:=λu z h1 e1=>T.sb _ _ _ _ (aK _) h1 (qU e1) e e1
 have nx:∀t y,i<=t->t<i+n->a[t]?=some y->r y<=r x:=λt y h1 h2 e1=>by
  have:=n2 t y h1 h2 e1
  simpa[Bv]using this
 have g2:=h1.ta (k:=n) λt y u z z1 z2 e1 z3 e2=>c8 (nx t y z1 z2 e1) (xb u z z3 e2)
 have ha:∀y,b[j]?=some y->∀u z,i+n<=u->a[u]?=some z->r y<=r z:=λy e1 u z h1 e2=>by rw[e]at e1;cases e1;have:=n3 u z h1 (by have:=qU e2;lia) e2;exact gH (by simpa[Bv]using this)
 by_cases d:n>0
 .rw [if_pos d]
  by_cases c1:i+n+1=a.size
  .rw [if_pos (by simpa using c1)];exact bo ⟨h0',JS.told (g2.fl T c1)⟩
  .rw [if_neg (by simpa using c1)]
   by_cases c2:i+n=a.size
   .rw [if_pos (by simpa using c2)];exact bo ⟨h0',JS.told (g2.fa c2)⟩
   .rw [if_neg (by simpa using c2)];exact U7 hc T h0' g2 (by lia) h3 (by rw[pZ];lia) ha
 .rw [if_neg d]
  have:n=0:=by lia
  subst this;exact U7 hc T h0' h1 h2 h3 (by lia) ha
theorem U8{α β γ:Type}{B:Nat->Nat->S1 α β γ->SM (ForInStep (S1 α β γ))}{G:Nat->S2 α β γ->SM (ForInStep (S2 α β γ))}{Fq:Array aW->Prop}{Jv:α->β->γ->Prop}{sz:α->β->γ->Nat}{Q:Array aW->dM->Prop}{x:α}{y:β}{z:γ}(hB:∀mg st x y z (Q:S1 α β γ->dM->Prop),Sm κ xs pd st->Jv x y z->(∀u,(∀q,u.1=some q->Fq q)->(u.1=none->Jv u.2.1 u.2.2.1 u.2.2.2.1/\sz x y z<=sz u.2.1 u.2.2.1 u.2.2.2.1)->Q u st)->vv (aR prog w) A E s (forIn [0:N] ((none,x,y,z,0,0):S1 α β γ) (B mg)) Q st)(hG:∀i st (u:S2 α β γ),Sm κ xs pd st->Jv u.2.1 u.2.2.1 u.2.2.2.1->vv (aR prog w) A E s (G i u) (λv st'=>Sm κ xs pd st'/\match v with
  | .done v=>(∀q,v.1=some q->Fq q)/\(v.1=none->Jv v.2.1 v.2.2.1 v.2.2.2.1/\sz u.2.1 u.2.2.1 u.2.2.2.1+1<=sz v.2.1 v.2.2.1 v.2.2.2.1)
  | .yield v=>v.1=none/\Jv v.2.1 v.2.2.1 v.2.2.2.1/\sz u.2.1 u.2.2.1 u.2.2.2.1+1<=sz v.2.1 v.2.2.1 v.2.2.2.1) st)(hN:∀x y z,Jv x y z->sz x y z<N)(h0:Sm κ xs pd st)(h1:Jv x y z)(h:∀q st',Sm κ xs pd st'->Fq q->Q q st'):vv (aR prog w) A E s (mrg N B G x y z) Q st:=by
 refine aU (qk (aU (m8 (fT (I:=λk z st'=>Sm κ xs pd st'/\z.1=none/\Jv z.2.1 z.2.2.1 z.2.2.2.1/\k<=sz z.2.1 z.2.2.1 z.2.2.2.1)
  (Q:=λz st'=>Sm κ xs pd st'/\∃q,z.1=some q/\Fq q) ?_ ?_ ⟨h0,rfl,h1,aK _⟩) ?_)))
 .rintro k u st' _ hk ⟨i0,i1,i2,i3⟩;refine aU (hB _ _ _ _ _ _ i0 i2 λv v1 v2=>?_);obtain⟨v0,v⟩:=v
  cases v0 with
  |some q=>exact bo ⟨i0,q,rfl,v1 q rfl⟩
  |none=>
   obtain⟨v3,v4⟩:=v2 rfl;refine aU (Hq (ib ⟨rfl,?_⟩))
   refine aU (m8 (fT (I:=λm z st'=>Sm κ xs pd st'/\z.1=none/\Jv z.2.1 z.2.2.1 z.2.2.2.1/\k+m<=sz z.2.1 z.2.2.1 z.2.2.2.1)
    (Q:=λz st'=>Sm κ xs pd st'/\(∀q,z.1=some q->Fq q)/\(z.1=none->Jv z.2.1 z.2.2.1 z.2.2.2.1/\k+1<=sz z.2.1 z.2.2.1 z.2.2.2.1)) ?_ ?_ ⟨i0,rfl,v3,bw i3 v4⟩) ?_)
   .rintro m u' st2 _ hm ⟨j0,j1,j2,j3⟩;refine m8 (hG m st2 u' j0 j2) λv st3 q=>?_;obtain⟨p,q⟩:=q
    cases v with
    |done v=>exact⟨p,q.1,λe=>let ⟨a1,a2⟩:=q.2 e;⟨a1,by lia⟩⟩
    |yield v=>exact⟨p,q.1,q.2.1,by have:=q.2.2;lia⟩
   .rintro u' st2 ⟨j0,j1,j2,j3⟩;exact⟨j0,⟨λq e=>(by rw[j1]at e;cases e),λ_=>⟨j2,by have:=hN _ _ _ j2;lia⟩⟩⟩
   .rintro ⟨u0,u'⟩ st2 ⟨j0,j1,j2⟩
    cases u0 with
    |some q=>exact bo ⟨j0,q,rfl,j1 q rfl⟩
    |none=>
     have j3:=j2 rfl;exact aU (iI (bo ⟨by obtain⟨g,rfl⟩:=j0;exact⟨_,rfl⟩,rfl,j3.1,j3.2⟩))
 .rintro u st' ⟨i0,i1,i2,i3⟩;have:=hN _ _ _ i2;lia
 .rintro ⟨u0,u⟩ st' ⟨i0,q,e,hq⟩;cases e;exact bo (h q st' i0 hq)
theorem w_lo(hc:FQ prog w A s κ D r)(T:G7 r D a b)(h0:st=bf κ xs pd g none)(ha:0<a.size)(hb:0<b.size)(hl:∀x y,b[0]?=some x->a[0]?=some y->r x<=r y){Q:Array aW->dM->Prop}(h:∀q st',Sm κ xs pd st'->F r (a.toList++b.toList) q->Q q st'):vv (aR prog w) A E s (A5 a b) Q st:=by
 rw[Y5];refine aU (Hq (ib ⟨rfl,?_⟩));obtain⟨x,e⟩:=gE hb;obtain⟨y,f⟩:=gE ha;refine aU (nE e ?_);have pw:∀c:Array aW,St r c 0 c.size->c.toList.Pairwise λx y=>r x<=r y:=λc h=>km.mpr λi j hi hj hij=>h i j _ _ (aK _) (kh hij) (by simpa using hj) (by simp) (by simp)
 have g0:J r (a.toList++b.toList) a b #[] 0 0:=⟨by simp,nc,by simpa using pw a T.sa,by simpa using pw b T.sb,λ_ z=>nomatch z⟩
 have g:=g0.pb T e λu z h1 e1=>c8 (hl x y e f) (T.sa _ _ _ _ (aK _) h1 (qU e1) f e1);have g:J r (a.toList++b.toList) a b #[x] 0 1:=g
 by_cases c1:1=b.size
 .rw [if_pos (by simpa using c1)];exact bo (h _ _ ⟨_,h0⟩ (g.fb c1))
 .rw [if_neg (by simpa using c1)]
  by_cases c2:0+1=a.size
  .rw [if_pos (by simpa using c2)];exact bo (h _ _ ⟨_,h0⟩ (g.fl T c2))
  .rw [if_neg (by simpa using c2)]
   refine U8 (Fq:=F r (a.toList++b.toList)) (Jv:=λo i j=>J r (a.toList++b.toList) a b o i j/\i+1<a.size/\j<b.size) (sz:=λo _ _=>o.size) (λmg st o i j Q w1 w2 w3=>Y6 hc (by obtain⟨_,rfl⟩:=w1;rfl) T w2.1 w2.2.1 w2.2.2 λu q=>w3 u q.1 λe=>let ⟨a1,a2,a3,a4⟩:=q.2 e;⟨⟨a1,a2,a3⟩,a4⟩) (λk st u w1 w2=>?_) (λo i j q=>by
    have:=q.1.len (by lia) (by lia) (by simp)
    lia) ⟨_,h0⟩ ⟨g,by lia,by lia⟩ h
   have e:loG a b k u=QE a b u (if u.2.2.2.2.1>1 then u.2.2.2.2.1-1 else u.2.2.2.2.1):=by unfold loG;split<;>rfl
   rw[e]
   refine m8 (Y7 hc T w1 w2.1 w2.2.1 w2.2.2 (ay _)) λv st2 q=>⟨q.1,?_⟩
   have q:=q.2
   cases v with
   |done v=>exact⟨q.1,λe=>let ⟨a1,a2,a3,a4⟩:=q.2 e;⟨⟨a1,a2,a3⟩,a4⟩⟩
   |yield v=>exact⟨q.1,⟨q.2.1,q.2.2.1,q.2.2.2.1⟩,q.2.2.2.2⟩
end
end Sy
namespace Sy
open PySem.W
def A6:Array aW->Array aW->SM (Array aW):=sortPriv% PySem.Builtin.mergeHi
abbrev U1:=S1 Nat Nat (Array aW)
abbrev U2:=S2 Nat Nat (Array aW)
section
variable(a b:Array aW)
def QG(o:Array aW)(i j:Nat):Array aW:=a.extract 0 i++b.extract 0 j++o.reverse
def Xg(o:Array aW)(i j:Nat):Array aW:=b.extract 0 j++a.extract 0 i++o.reverse
def hiB(mg:Nat)(_:Nat)(z:U1):SM (ForInStep U1):=do
 match ← lt' (← mE b (z.2.2.1-1)) (← mE a (z.2.1-1))with
 |some c=>(if c=true then(do
  let o:=z.2.2.2.1.push (← mE a (z.2.1-1))
  if(z.2.1-1 == 0)=true then pure (.done (some (QG a b o (z.2.1-1) z.2.2.1),z.2.1-1,z.2.2.1,o,z.2.2.2.2.1+1,0))
  else if z.2.2.2.2.1+1>=mg then pure (.done (none,z.2.1-1,z.2.2.1,o,z.2.2.2.2.1+1,0))else pure (.yield (none,z.2.1-1,z.2.2.1,o,z.2.2.2.2.1+1,0)))
  else(do
   let o:=z.2.2.2.1.push (← mE b (z.2.2.1-1))
   if(z.2.2.1-1 == 1)=true then pure (.done (some (Xg a b o z.2.1 (z.2.2.1-1)),z.2.1,z.2.2.1-1,o,0,z.2.2.2.2.2+1))
   else if z.2.2.2.2.2+1>=mg then pure (.done (none,z.2.1,z.2.2.1-1,o,0,z.2.2.2.2.2+1))else pure (.yield (none,z.2.1,z.2.2.1-1,o,0,z.2.2.2.2.2+1))))
 |_=>pure (.done (some (QG a b z.2.2.2.1 z.2.1 z.2.2.1),z.2))
def T3(o:Array aW)(i j mg k m:Nat):SM (ForInStep U2):=do
 let o:=o.push (← mE a (i-1))
 if(i-1 == 0)=true then pure (.done (some (QG a b o (i-1) j),i-1,j,o,mg,k,m))
 else if(decide (k<7) && decide (m<7))=true then pure (.done (none,i-1,j,o,mg,k,m))else pure (.yield (none,i-1,j,o,mg,k,m))
def T4(o:Array aW)(i j mg k q:Nat):SM (ForInStep U2):=do
 let o:=o.push (← mE b (j-1))
 if(j-1 == 1)=true then pure (.done (some (Xg a b o i (j-1)),i,j-1,o,mg,k,q))
 else(do
  match ← n9 true (← mE a (i-1)) b 0 (j-1) (j-1-1)with
  |some m=>if j-1-m>0 then(if(m == 1)=true then pure (.done (some (Xg a b (o++(b.extract m (j-1)).reverse) i m),i,m,o++(b.extract m (j-1)).reverse,mg,k,j-1-m))
   else if(m == 0)=true then pure (.done (some (QG a b (o++(b.extract m (j-1)).reverse) i m),i,m,o++(b.extract m (j-1)).reverse,mg,k,j-1-m))
   else T3 a b (o++(b.extract m (j-1)).reverse) i m mg k (j-1-m))else T3 a b o i (j-1) mg k (j-1-m)
  |_=>pure (.done (some (QG a b o i (j-1)),i,j-1,o,mg,k,q)))
def QH(z:U2)(mg:Nat):SM (ForInStep U2):=do
 QD mg
 match ← n9 false (← mE b (z.2.2.1-1)) a 0 z.2.1 (z.2.1-1)with
 |some k=>if z.2.1-k>0 then(if(k == 0)=true then pure (.done (some (QG a b (z.2.2.2.1++(a.extract k z.2.1).reverse) k z.2.2.1),k,z.2.2.1,z.2.2.2.1++(a.extract k z.2.1).reverse,mg,z.2.1-k,z.2.2.2.2.2.2))
  else T4 a b (z.2.2.2.1++(a.extract k z.2.1).reverse) k z.2.2.1 mg (z.2.1-k) z.2.2.2.2.2.2)else T4 a b z.2.2.2.1 z.2.1 z.2.2.1 mg (z.2.1-k) z.2.2.2.2.2.2
 |_=>pure (.done (some (QG a b z.2.2.2.1 z.2.1 z.2.2.1),z.2.1,z.2.2.1,z.2.2.2.1,mg,z.2.2.2.2.2))
def hiG(_:Nat)(z:U2):SM (ForInStep U2):=if z.2.2.2.2.1>1 then QH a b z (z.2.2.2.2.1-1)else QH a b z z.2.2.2.2.1
theorem Y8:A6 a b=(do
 liftM (CO "list.sort.merge-hi")
 let x ← mE a (a.size-1)
 if(a.size-1 == 0)=true then pure (QG a b #[x] (a.size-1) b.size)else if(b.size == 1)=true then pure (Xg a b #[x] (a.size-1) b.size)
 else mrg (a.size+b.size) (hiB a b) (hiG a b) (a.size-1) b.size #[x]):=by kernel_rfl
end
end Sy
namespace Sy
open PySem.W
variable{a:Array aW}{n k:Nat}
section
variable{prog:bI}{w:cC}{A:cT}{E:ak->aA->Prop}{s:aA}{κ:jx}{D:aW->Prop}{r:aW->Int}{st:dM}{b:Array aW}{xs o:Array aW}{pd:Array (Nat×Nat×Nat)}{i j m q g mg N:Nat}{all:List aW}
def ng(r:aW->Int)(x:aW):Int:=- r x
theorem rv(h1:n<=a.size)(h0:0<n):a.reverse[a.size-n]?=a[n-1]?:=by rw[Mo (by lia)];congr 1;lia
theorem mI{t:Nat}{x:aW}(e:a.reverse[t]?=some x):t<a.size/\a[a.size-1-t]?=some x:=by have h:=qU e;simp at h;rw[Mo h]at e;exact⟨h,e⟩
theorem rx(h:n<=a.size)(hk:k<=n):(a.extract k n).reverse=a.reverse.extract (a.size-n) (a.size-n+(n-k)):=by
 apply Array.ext
 .simp;lia
 .intro t h1 h2;simp at h1 h2 ⊢
  congr 1;lia
theorem rx0(h:n<=a.size):(a.extract 0 n).reverse=a.reverse.extract (a.size-n) a.reverse.size:=by rw[rx h (aK _)];congr 1;simp;lia
theorem Xh(h1:i<=a.size)(h2:j<=b.size):(QG a b o i j).reverse=dn b.reverse a.reverse o (b.size-j) (a.size-i):=by unfold QG dn;rw[m9,m9,Nw,rx0 h1,rx0 h2,yA]
theorem Xi(h1:i<=a.size)(h2:j<=b.size):(Xg a b o i j).reverse=lst b.reverse a.reverse o (b.size-j) (a.size-i):=by unfold Xg lst;rw[m9,m9,Nw,rx0 h1,rx0 h2,yA]
structure Jh(r:aW->Int)(all:List aW)(a b:Array aW)(i j:Nat)(o:Array aW):Prop where
 jj:J (ng r) all b.reverse a.reverse o (b.size-j) (a.size-i)
 i0:0<i
 i1:i<=a.size
 j0:1<j
 j1:j<=b.size
def Fh(r:aW->Int)(all:List aW)(o:Array aW):Prop:=F (ng r) all o.reverse
theorem Fh.dn(g:J (ng r) all b.reverse a.reverse o (b.size-j) (a.size-i))(h1:i<=a.size)(h2:j<=b.size)(h:i=0\/j=0):Fh r all (QG a b o i j):=by
 unfold Fh;rw[Xh h1 h2]
 rcases h with rfl|rfl
 .exact g.fb (by simp)
 .exact g.fa (by simp)
theorem Fh.fs(T:G7 (ng r) D b.reverse a.reverse)(g:J (ng r) all b.reverse a.reverse o (b.size-j) (a.size-i))(h1:i<=a.size)(h2:j<=b.size)(h:j=1):Fh r all (Xg a b o i j):=by unfold Fh;rw[Xi h1 h2];exact g.fl T (by simp;lia)
theorem J.pA(T:G7 (ng r) D b.reverse a.reverse)(h:J (ng r) all b.reverse a.reverse o (b.size-j) (a.size-i))(h0:0<i)(h1:i<=a.size){x:aW}(e:a[i-1]?=some x)(hx:∀u y,u<j->b[u]?=some y->r y<=r x):J (ng r) all b.reverse a.reverse (o.push x) (b.size-j) (a.size-(i-1)):=by
 rw[show a.size-(i-1)=a.size-i+1 by lia]
 exact h.pb T (by rw[rv h1 h0,e]) λu y h1 f=>by obtain⟨f1,f⟩:=mI f;have:=hx _ y (by lia) f;unfold ng;lia
theorem J.pB(T:G7 (ng r) D b.reverse a.reverse)(h:J (ng r) all b.reverse a.reverse o (b.size-j) (a.size-i))(h0:0<j)(h1:j<=b.size){x:aW}(e:b[j-1]?=some x)(hx:∀u y,u<i->a[u]?=some y->r y<=r x):J (ng r) all b.reverse a.reverse (o.push x) (b.size-(j-1)) (a.size-i):=by
 rw[show b.size-(j-1)=b.size-j+1 by lia]
 exact h.pa T (by rw[rv h1 h0,e]) λu y h1 f=>by obtain⟨f1,f⟩:=mI f;have:=hx _ y (by lia) f;unfold ng;lia
theorem J.tA(h:J (ng r) all b.reverse a.reverse o (b.size-j) (a.size-i))(hk:k<=i)(h1:i<=a.size)(hx:∀t x u y,k<=t->t<i->a[t]?=some x->u<j->b[u]?=some y->r y<=r x):J (ng r) all b.reverse a.reverse (o++(a.extract k i).reverse) (b.size-j) (a.size-k):=by
 rw[rx h1 hk,show a.size-k=a.size-i+(i-k) by lia]
 exact h.tb λt x u y h1 h2 e h3 f=>by obtain⟨e1,e⟩:=mI e;obtain⟨f1,f⟩:=mI f;have:=hx _ x _ y (by lia) (by lia) e (by lia) f;unfold ng;lia
theorem J.tB(h:J (ng r) all b.reverse a.reverse o (b.size-j) (a.size-i))(hk:k<=j)(h1:j<=b.size)(hx:∀t x u y,k<=t->t<j->b[t]?=some x->u<i->a[u]?=some y->r y<=r x):J (ng r) all b.reverse a.reverse (o++(b.extract k j).reverse) (b.size-k) (a.size-i):=by
 rw[rx h1 hk,show b.size-k=b.size-j+(j-k) by lia]
 exact h.ta λt x u y h1 h2 e h3 f=>by obtain⟨e1,e⟩:=mI e;obtain⟨f1,f⟩:=mI f;have:=hx _ x _ y (by lia) (by lia) e (by lia) f;unfold ng;lia
structure XF(r:aW->Int)(D:aW->Prop)(a b:Array aW):Prop where
 da:∀(t:Nat) x,a[t]?=some x->D x
 db:∀(t:Nat) x,b[t]?=some x->D x
 sa:St r a 0 a.size
 sb:St r b 0 b.size
 fb:∀(u:Nat) x y,b[0]?=some x->a[u]?=some y->r x<=r y
theorem XF.two(T:XF r D a b):G7 (ng r) D b.reverse a.reverse where
 da t x e:=T.db _ x (mI e).2
 db t x e:=T.da _ x (mI e).2
 sa t u x y _ h2 h3 e f:=by have:=T.sb _ _ y x (aK _) (show b.size-1-u<=b.size-1-t by lia) (by have:=(mI e).1;lia) (mI f).2 (mI e).2;unfold ng;lia
 sb t u x y _ h2 h3 e f:=by have:=T.sa _ _ y x (aK _) (show a.size-1-u<=a.size-1-t by lia) (by have:=(mI e).1;lia) (mI f).2 (mI e).2;unfold ng;lia
 la t u x y h1 e f:=by simp at h1;have e':=(mI e).2;rw[show b.size-1-t=0 by lia]at e';have:=T.fb _ x y e' (mI f).2;unfold ng;lia
def JU(r:aW->Int)(all:List aW)(a b:Array aW)(k:Nat)(z:Option (Array aW))(i j:Nat)(o:Array aW):Prop:=
 (∀q,z=some q->Fh r all q)/\(z=none->Jh r all a b i j o/\k<=o.size)
theorem JU.told{q:Array aW}(h:Fh r all q):JU r all a b k (some q) i j o:=⟨λ_ e=>by cases e;exact h,nofun⟩
theorem JU.on(h1:Jh r all a b i j o)(h4:k<=o.size):JU r all a b k none i j o:=⟨(λ_ e=>nomatch e),λ_=>⟨h1,h4⟩⟩
theorem Y9(hc:FQ prog w A s κ D r)(hk:kindOf st=κ)(T:XF r D a b){Q:U1->dM->Prop}(h1:Jh r all a b i j o)(h:∀z,JU r all a b o.size z.1 z.2.1 z.2.2.1 z.2.2.2.1->Q z st):vv (aR prog w) A E s (forIn [0:N] ((none,i,j,o,0,0):U1) (hiB a b mg)) Q st:=by
 refine fT (I:=λx z st'=>st'=st/\z.1=none/\Jh r all a b z.2.1 z.2.2.1 z.2.2.2.1/\o.size<=z.2.2.2.1.size) ?_ ?_ ⟨rfl,rfl,h1,ay _⟩
 .rintro x ⟨z,i',j',o',ac,bc⟩ st' _ hx ⟨rfl,rfl,g,g4⟩;dsimp only at g g4;obtain⟨g,i0,i1,j0,j1⟩:=g;obtain⟨u,eu⟩:=gE (a:=a) (i:=i'-1) (by lia);obtain⟨v,ev⟩:=gE (a:=b) (i:=j'-1) (by lia);unfold hiB;refine aU (nE ev (aU (nE eu (aU (w_lt hc hk (T.db _ _ ev) (T.da _ _ eu) ?_)))));dsimp only
  have sz:∀x:aW,o.size<=(o'.push x).size:=λx=>by rw[iG];lia
  by_cases c:r v<r u
  .rw [decide_eq_true c,if_pos rfl];have g5:=g.pA T.two i0 i1 eu λt y h1 e=>c8 (T.sb _ _ _ _ (aK _) (by lia) (by lia) e ev) (gH c);refine aU (nE eu ?_)
   by_cases e:i'-1=0
   .rw [if_pos (by simpa using e)];exact bo (h _ (JU.told (Fh.dn g5 (by lia) j1 (.inl e))))
   .rw [if_neg (by simpa using e)]
    by_cases f:ac+1>=mg
    .rw [if_pos f];exact bo (h _ (JU.on ⟨g5,by dsimp only;lia,by dsimp only;lia,j0,j1⟩ (sz _)))
    .rw [if_neg f];exact bo ⟨rfl,rfl,⟨g5,by dsimp only;lia,by dsimp only;lia,j0,j1⟩,sz _⟩
  .rw [decide_eq_false c,if_neg (by simp)];have g5:=g.pB T.two (by lia) j1 ev λt y h1 e=>c8 (T.sa _ _ _ _ (aK _) (by lia) (by lia) e eu) (pU.mp c);refine aU (nE ev ?_)
   by_cases e:j'-1=1
   .rw [if_pos (by simpa using e)];exact bo (h _ (JU.told (Fh.fs T.two g5 i1 (by lia) e)))
   .rw [if_neg (by simpa using e)]
    by_cases f:bc+1>=mg
    .rw [if_pos f];exact bo (h _ (JU.on ⟨g5,i0,i1,by dsimp only;lia,by dsimp only;lia⟩ (sz _)))
    .rw [if_neg f];exact bo ⟨rfl,rfl,⟨g5,i0,i1,by dsimp only;lia,by dsimp only;lia⟩,sz _⟩
 .rintro ⟨z,o',i',j',ac,bc⟩ st' ⟨rfl,rfl,g,g4⟩;exact h _ (JU.on g g4)
def Nxh(κ:jx)(xs:Array aW)(pd:Array (Nat×Nat×Nat))(r:aW->Int)(all:List aW)(a b:Array aW)(k:Nat)(x:ForInStep U2)(st':dM):Prop:=
 Sm κ xs pd st'/\match x with
  | .done z=>JU r all a b k z.1 z.2.1 z.2.2.1 z.2.2.2.1
  | .yield z=>z.1=none/\Jh r all a b z.2.1 z.2.2.1 z.2.2.2.1/\k<=z.2.2.2.1.size
theorem U9(T:XF r D a b)(h0:Sm κ xs pd st)(h1:Jh r all a b i j o)(h4:k<=o.size+1)(h:∀x,a[i-1]?=some x->∀u y,u<j->b[u]?=some y->r y<=r x):vv (aR prog w) A E s (T3 a b o i j mg m q) (Nxh κ xs pd r all a b k) st:=by
 obtain⟨g,i0,i1,j0,j1⟩:=h1;obtain⟨x,e⟩:=gE (a:=a) (i:=i-1) (by lia);unfold T3;have g:=g.pA T.two i0 i1 e (h x e)
 have sz:k<=(o.push x).size:=by rw[iG];lia
 refine aU (nE e ?_);dsimp only
 by_cases c:i-1=0
 .rw [if_pos (by simpa using c)];exact bo ⟨h0,JU.told (Fh.dn g (by lia) j1 (.inl c))⟩
 .rw [if_neg (by simpa using c)]
  have g2:Jh r all a b (i-1) j (o.push x):=⟨g,by lia,by lia,j0,j1⟩
  split
  .exact bo ⟨h0,JU.on g2 sz⟩
  .exact bo ⟨h0,rfl,g2,sz⟩
theorem Va(hc:FQ prog w A s κ D r)(T:XF r D a b)(h0:Sm κ xs pd st)(h1:Jh r all a b i j o)(h4:k<=o.size+2)(h:∀x,b[j-1]?=some x->∀u y,u<i->a[u]?=some y->r y<=r x):vv (aR prog w) A E s (T4 a b o i j mg m q) (Nxh κ xs pd r all a b k) st:=by
 obtain⟨g,i0,i1,j0,j1⟩:=h1;obtain⟨x,e⟩:=gE (a:=b) (i:=j-1) (by lia);obtain⟨y,f⟩:=gE (a:=a) (i:=i-1) (by lia);unfold T4;have g:=g.pB T.two (by lia) j1 e (h x e);refine aU (nE e ?_);dsimp only
 by_cases c:j-1=1
 .rw [if_pos (by simpa using c)];exact bo ⟨h0,JU.told (Fh.fs T.two g i1 (by lia) c)⟩
 .rw [if_neg (by simpa using c)]
  have hk:kindOf st=κ:=by obtain⟨_,rfl⟩:=h0;rfl
  refine aU (nE f (aU (pj hc hk T.db (T.da _ _ f) (by lia) (λt u x y z1 z2 z3=>T.sb t u x y (aK _) z2 (by lia)) (by lia) λn n1 n2 n3=>?_)));dsimp only;have ya:∀u z,u<i->a[u]?=some z->r z<=r y:=λu z h1 e=>T.sa _ _ _ _ (aK _) (by lia) (by lia) e f;have g2:=g.tB (k:=n) (by lia) (by lia) λt x u z z1 z2 e1 z3 e2=>c8 (ya u z z3 e2) (pU.mp (of_decide_eq_false (n3 t x (by lia) (by lia) e1)))
  have hb:∀x,a[i-1]?=some x->∀u z,u<n->b[u]?=some z->r z<=r x:=λx e1 u z h1 e2=>by rw[f]at e1;cases e1;exact gH (of_decide_eq_true (n2 u z (aK _) (by lia) e2))
  have sz:k<=(o.push x).size+1:=by rw[iG];lia
  by_cases d:j-1-n>0
  .rw [if_pos d]
   by_cases c2:n=1
   .rw [if_pos (by simpa using c2)];exact bo ⟨h0,JU.told (Fh.fs T.two g2 i1 (by lia) c2)⟩
   .rw [if_neg (by simpa using c2)]
    by_cases c3:n=0
    .rw [if_pos (by simpa using c3)];exact bo ⟨h0,JU.told (Fh.dn g2 i1 (by lia) (.inr c3))⟩
    .rw [if_neg (by simpa using c3)];exact U9 T h0 ⟨g2,i0,i1,by lia,by lia⟩ (by rw[pZ];lia) hb
  .rw [if_neg d]
   have:n=j-1:=by lia
   subst this;exact U9 T h0 ⟨g,i0,i1,by lia,by lia⟩ sz hb
theorem Za(hc:FQ prog w A s κ D r)(T:XF r D a b)(h0:Sm κ xs pd st){z:U2}(h1:Jh r all a b z.2.1 z.2.2.1 z.2.2.2.1):vv (aR prog w) A E s (QH a b z mg) (Nxh κ xs pd r all a b (z.2.2.2.1.size+1)) st:=by
 obtain⟨z0,i,j,o,g0,ac,bc⟩:=z;obtain⟨g,i0,i1,j0,j1⟩:=h1;dsimp only at g i0 i1 j0 j1;obtain⟨x,e⟩:=gE (a:=b) (i:=j-1) (by lia);unfold QH QD;dsimp only;refine aU (iI ?_)
 have h0':Sm κ xs pd (bf (kindOf st) (m7 st) (cL st) mg (i4 st)):=by obtain⟨g,rfl⟩:=h0;exact⟨mg,rfl⟩
 have hk:kindOf (bf (kindOf st) (m7 st) (cL st) mg (i4 st))=κ:=by obtain⟨_,e⟩:=h0';rw[e]
 generalize bf (kindOf st) (m7 st) (cL st) mg (i4 st)=st1 at h0' hk;refine aU (nE e (aU (pj hc hk T.da (T.db _ _ e) (by lia) (λt u x y z1 z2 z3=>T.sa t u x y (aK _) z2 (by lia)) (by lia) λn n1 n2 n3=>?_)));dsimp only;have xb:∀u z,u<j->b[u]?=some z->r z<=r x:=λu z h1 e1=>T.sb _ _ _ _ (aK _) (by lia) (by lia) e1 e
 have nx:∀t y,n<=t->t<i->a[t]?=some y->r x<=r y:=λt y h1 h2 e1=>by have:=n3 t y (by lia) (by lia) e1;exact gH (by simpa[Bv]using this)
 have g2:=g.tA (k:=n) (by lia) i1 λt y u z z1 z2 e1 z3 e2=>c8 (xb u z z3 e2) (nx t y z1 z2 e1)
 have ha:∀y,b[j-1]?=some y->∀u z,u<n->a[u]?=some z->r z<=r y:=λy e1 u z h1 e2=>by
  rw[e]at e1;cases e1;have:=n2 u z (aK _) (by lia) e2
  simpa[Bv]using this
 by_cases d:i-n>0
 .rw [if_pos d]
  by_cases c1:n=0
  .rw [if_pos (by simpa using c1)];exact bo ⟨h0',JU.told (Fh.dn g2 (by lia) j1 (.inl c1))⟩
  .rw [if_neg (by simpa using c1)];exact Va hc T h0' ⟨g2,by lia,by lia,j0,j1⟩ (by rw[pZ];lia) ha
 .rw [if_neg d]
  have:n=i:=by lia
  subst this;exact Va hc T h0' ⟨g,i0,i1,j0,j1⟩ (by lia) ha
theorem pw_of(h:St r a 0 a.size):a.toList.Pairwise λx y=>r x<=r y:=km.mpr λi j hi hj hij=>h i j _ _ (aK _) (kh hij) (by simpa using hj) (by simp) (by simp)
theorem w_hi(hc:FQ prog w A s κ D r)(T:XF r D a b)(h0:st=bf κ xs pd g none)(ha:0<a.size)(hb:0<b.size)(hl:∀x y,b[b.size-1]?=some x->a[a.size-1]?=some y->r x<=r y){Q:Array aW->dM->Prop}(h:∀q st',Sm κ xs pd st'->F r (a.toList++b.toList) q->Q q st'):vv (aR prog w) A E s (A6 a b) Q st:=by
 have h:∀q st',Sm κ xs pd st'->Fh r (a.toList++b.toList) q->Q q st':=λq st' w1 w2=>h q st' w1 (by
  unfold Fh F at w2;refine⟨?_,?_,.nil,.nil,λ_ _ _ z=>nomatch z⟩
  .have:=w2.pm;simp at this ⊢;exact(ql _).symm.trans this
  .have:=List.pairwise_reverse.mp (by simpa using w2.so)
   exact this.imp λz=>by unfold ng at z;lia)
 rw[Y8];refine aU (Hq (ib ⟨rfl,?_⟩));obtain⟨x,e⟩:=gE (a:=b) (i:=b.size-1) (by lia);obtain⟨y,f⟩:=gE (a:=a) (i:=a.size-1) (by lia);refine aU (nE f ?_)
 have g0:J (ng r) (a.toList++b.toList) b.reverse a.reverse #[] (b.size-b.size) (a.size-a.size):=⟨by simpa using(ql _).append (ql _) |>.trans fV,nc,by simpa using pw_of T.two.sa,by simpa using pw_of T.two.sb,λ_ z=>nomatch z⟩
 have g:=g0.pA T.two ha (ay _) f λu z h1 e1=>c8 (T.sb _ _ _ _ (aK _) (by lia) (by lia) e1 e) (hl x y e f);have g:J (ng r) (a.toList++b.toList) b.reverse a.reverse #[y] (b.size-b.size) (a.size-(a.size-1)):=g
 by_cases c1:a.size-1=0
 .rw [if_pos (by simpa using c1)];exact bo (h _ _ ⟨_,h0⟩ (Fh.dn g (by lia) (ay _) (.inl c1)))
 .rw [if_neg (by simpa using c1)]
  by_cases c2:b.size=1
  .rw [if_pos (by simpa using c2)];exact bo (h _ _ ⟨_,h0⟩ (Fh.fs T.two g (by lia) (ay _) c2))
  .rw [if_neg (by simpa using c2)]
   refine U8 (Fq:=Fh r (a.toList++b.toList)) (Jv:=Jh r (a.toList++b.toList) a b) (sz:=λ_ _ o=>o.size) (λmg st o i j Q w1 w2 w3=>Y9 hc (by obtain⟨_,rfl⟩:=w1;rfl) T w2 λu q=>w3 u q.1 q.2) (λk st u w1 w2=>?_) (λi j o q=>by
    have:=q.jj.len (by simp) (by simp) (by simp;lia);have:=q.i0;have:=q.i1;have:=q.j0;have:=q.j1
    lia) ⟨_,h0⟩ ⟨g,by lia,by lia,by lia,by lia⟩ h
   have e:hiG a b k u=QH a b u (if u.2.2.2.2.1>1 then u.2.2.2.2.1-1 else u.2.2.2.2.1):=by unfold hiG;split<;>rfl
   rw[e]
   refine m8 (Za hc T w1 w2) λv st2 q=>⟨q.1,?_⟩
   have q:=q.2
   cases v with
   |done v=>exact q
   |yield v=>exact q
end
end Sy
namespace Sy
open PySem.W
abbrev C1:=Option (Option Nat)×Nat
def T7(lo:Nat)(_:Nat)(z:C1):SM (ForInStep C1):=do
 match ← ltAt' (lo+z.2) (lo+z.2-1)with
 |some c=>if c=true then pure (.done (none,z.2))else pure (.yield (none,z.2+1))
 |_=>pure (.done (some none,z.2))
def tl(lo n nrem:Nat):SM (Option Nat):=do
 C3 lo (lo+n)
 let z ← forIn [n:nrem] ((none,n):C1) (T7 lo)
 (match z.1 with
 |some r=>pure r
 |none=>pure (some z.2))
def Zb(lo:Nat)(_:Nat)(z:TG):SM (ForInStep TG):=do
 match ← ltAt' (lo+z.2.1) (lo+z.2.1-1)with
 |some c=>(if c=true then(if z.2.2>0 then(do
  C3 (lo+z.2.1-(z.2.2+1)) (lo+z.2.1)
  pure (.yield (none,z.2.1+1,0)))else pure (.yield (none,z.2.1+1,0)))
  else(do
   match ← ltAt' (lo+z.2.1-1) (lo+z.2.1)with
   |some d=>if d=true then pure (.done (none,z.2))else pure (.yield (none,z.2.1+1,z.2.2+1))
   |_=>pure (.done (some none,z.2))))
 |_=>pure (.done (some none,z.2))
def dsc(lo n nrem:Nat):SM (Option Nat):=do
 liftM (CO "list.sort.descending-run")
 let z ← forIn [n+1:nrem] ((none,n+1,0):TG) (Zb lo)
 (match z.1 with
 |some r=>pure r
 |none=>if z.2.2>0 then(do
  C3 (lo+z.2.1-(z.2.2+1)) (lo+z.2.1)
  tl lo z.2.1 nrem)else tl lo z.2.1 nrem)
theorem QI(lo nrem:Nat):countRun' lo nrem=(do
 let z ← forIn [1:nrem] ((none,1):C1) (T7 lo)
 (match z.1 with
 |some r=>pure r
 |none=>if(z.2 == nrem)=true then pure (some z.2)else if z.2>1 then(do
  match ← ltAt' lo (lo+z.2-1)with
  |some c=>if c=true then pure (some z.2)else(do
   C3 lo (lo+z.2)
   dsc lo z.2 nrem)
  |_=>pure none)else dsc lo z.2 nrem)):=by kernel_rfl
section
variable{prog:bI}{w:cC}{A:cT}{E:ak->aA->Prop}{s:aA}{κ:jx}{D:aW->Prop}{r:aW->Int}{st:dM}{xs ys a₀:Array aW}{pd:Array (Nat×Nat×Nat)}{i j lo hi n m q g nrem:Nat}
def K(r:aW->Int)(xs:Array aW)(i:Nat):Int:=((xs[i]?).map r).getD 0
theorem T8{i:Nat}{x:aW}(e:xs[i]?=some x):K r xs i=r x:=by unfold K;rw[e];rfl
theorem KL{xs ys:Array aW}{i j:Nat}(h:xs[i]?=ys[j]?):K r xs i=K r ys j:=by unfold K;rw[h]
structure Bs(D:aW->Prop)(a₀:Array aW)(lo:Nat)(xs:Array aW):Prop where
 pm:xs.Perm a₀
 dd:∀x∈a₀.toList,D x
 ah:∀t,t<lo->xs[t]?=a₀[t]?
theorem Bs.size(h:Bs D a₀ lo xs):xs.size=a₀.size:=h.pm.size_eq
theorem Bs.d(h:Bs D a₀ lo xs){i:Nat}{x:aW}(e:xs[i]?=some x):D x:=by obtain⟨h1,rfl⟩:=cE.mp e;exact h.dd _ ((fF.mp h.pm).mem_iff.mp (by simp))
theorem Bs.rev(h:Bs D a₀ lo xs)(hi:lo<=i)(hj:j<=xs.size):Bs D a₀ lo (mirror xs i j ((j-i)/2)):=
 ⟨(mirror_perm _ _ _ _).trans h.pm,h.dd,λt ht=>by rw[Yr hj,if_neg (by lia)];exact h.ah t ht⟩
theorem QJ(hc:FQ prog w A s κ D r)(h:Bs D a₀ lo xs){Q:Option Bool->dM->Prop}(hi:i<xs.size)(hj:j<xs.size)(hq:Q (some (decide (K r xs i<K r xs j))) (bf κ xs pd g none)):vv (aR prog w) A E s (ltAt' i j) Q (bf κ xs pd g none):=by obtain⟨x,e⟩:=gE hi;obtain⟨y,f⟩:=gE hj;rw[T8 e,T8 f]at hq;rw[ltAt'_eq];exact aU (qk (aU (nE e (aU (nE f (w_lt hc rfl (h.d e) (h.d f) hq))))))
theorem QK(hj:j<=xs.size)(t:Nat):K r (mirror xs i j ((j-i)/2)) t=if i<=t/\t<j then K r xs (i+j-1-t)else K r xs t:=by
 have e:=Yr (i:=i) hj t
 split
 .rename_i h;rw[if_pos h]at e;exact KL e
 .rename_i h;rw[if_neg h]at e;exact KL e
def Up(r:aW->Int)(xs:Array aW)(lo hi:Nat):Prop:=∀t u,lo<=t->t<=u->u<hi->K r xs t<=K r xs u
def Dn(r:aW->Int)(xs:Array aW)(lo hi:Nat):Prop:=∀t u,lo<=t->t<=u->u<hi->K r xs u<=K r xs t
theorem Up.next(h:Up r xs lo (lo+n))(hn:0<n)(hl:K r xs (lo+n-1)<=K r xs (lo+n)):Up r xs lo (lo+(n+1)):=λt u h1 h2 h3=>by
 by_cases c:u<lo+n
 .exact h t u h1 h2 c
 .have:u=lo+n:=by lia
  subst this
  by_cases d:t=lo+n
  .subst d;exact nU _
  .exact c8 (h t _ h1 (by lia) (by lia)) hl
theorem Dn.next(h:Dn r xs lo (lo+n))(hn:0<n)(hl:K r xs (lo+n)<=K r xs (lo+n-1)):Dn r xs lo (lo+(n+1)):=λt u h1 h2 h3=>by
 by_cases c:u<lo+n
 .exact h t u h1 h2 c
 .have:u=lo+n:=by lia
  subst this
  by_cases d:t=lo+n
  .subst d;exact nU _
  .exact c8 hl (h t _ h1 (by lia) (by lia))
theorem KM(hj:j<=xs.size)(h:∀t,i<=t->t<j->K r xs t=K r xs (j-1))(t:Nat):K r (mirror xs i j ((j-i)/2)) t=K r xs t:=by
 rw[QK hj]
 split
 .rw [h _ (by lia) (by lia),h t (by lia) (by lia)]
 .rfl
theorem Vb(hc:FQ prog w A s κ D r)(h:Bs D a₀ lo xs)(hz:lo+nrem<=xs.size)(h1:1<=n)(hn:n<=nrem)(hu:Up r xs lo (lo+n)){Q:C1->dM->Prop}(hq:∀m,n<=m->m<=nrem->Up r xs lo (lo+m)->(m<nrem->K r xs (lo+m)<K r xs (lo+m-1))->Q (none,m) (bf κ xs pd g none)):vv (aR prog w) A E s (forIn [n:nrem] ((none,n):C1) (T7 lo)) Q (bf κ xs pd g none):=by
 refine fT (I:=λx c st'=>st'=bf κ xs pd g none/\c=(none,x)/\Up r xs lo (lo+x)) ?_ ?_ ⟨rfl,rfl,hu⟩
 .rintro x c st' a1 a2 ⟨rfl,rfl,a3⟩;unfold T7;refine aU (QJ hc h (by dsimp only;lia) (by dsimp only;lia) ?_);dsimp only
  by_cases c:K r xs (lo+x)<K r xs (lo+x-1)
  .rw [decide_eq_true c,if_pos rfl];exact bo (hq x a1 (by lia) a3 λ_=>c)
  .rw [decide_eq_false c,if_neg (by simp)];exact bo ⟨rfl,rfl,a3.next (by lia) (pU.mp c)⟩
 .rintro c st' ⟨rfl,rfl,a3⟩
  have e:max n nrem=nrem:=by lia
  rw[e]at a3 ⊢;exact hq nrem hn (ay _) a3 λz=>absurd z (by lia)
theorem Zc(hc:FQ prog w A s κ D r)(h:Bs D a₀ lo xs)(hz:lo+nrem<=xs.size)(h1:1<=n)(hn:n<=nrem)(hd:Dn r xs lo (lo+n)){Q:Option Nat->dM->Prop}(hq:∀m ys,1<=m->m<=nrem->Bs D a₀ lo ys->Up r ys lo (lo+m)->Q (some m) (bf κ ys pd g none)):vv (aR prog w) A E s (tl lo n nrem) Q (bf κ xs pd g none):=by
 unfold tl;rw[vm];refine aU (iI ?_);have h':=h.rev (i:=lo) (j:=lo+n) (ay _) (by lia);refine aU (Vb hc h' (by rw[X4];exact hz) h1 hn (λt u a1 a2 a3=>?_) λm b1 b2 b3 _=>bo (hq m _ (by lia) b2 h' b3))
 show K r (mirror xs _ _ _) t<=K r (mirror xs _ _ _) u
 rw[QK (by lia),QK (by lia),if_pos (by lia),if_pos (by lia)];exact hd _ _ (by lia) (by lia) (by lia)
theorem Vc(hc:FQ prog w A s κ D r)(h:Bs D a₀ lo xs)(hz:lo+nrem<=xs.size)(hn:n+1<=nrem)(hd:Dn r xs lo (lo+(n+1))){Q:Option Nat->dM->Prop}(hq:∀m ys,1<=m->m<=nrem->Bs D a₀ lo ys->Up r ys lo (lo+m)->Q (some m) (bf κ ys pd g none)):vv (aR prog w) A E s (dsc lo n nrem) Q (bf κ xs pd g none):=by
 unfold dsc;refine aU (Hq (ib ⟨rfl,?_⟩));have hs:=h.size
 refine aU (m8 (fT (I:=λx c st'=>∃ys e,st'=bf κ ys pd g none/\c=(none,x,e)/\Bs D a₀ lo ys/\Dn r ys lo (lo+x)/\e+1<=x/\∀t,lo+x-(e+1)<=t->t<lo+x->K r ys t=K r ys (lo+x-1))
  (Q:=λc st'=>∃x ys e,n+1<=x/\x<=nrem/\st'=bf κ ys pd g none/\c=(none,x,e)/\Bs D a₀ lo ys/\Dn r ys lo (lo+x)/\e+1<=x/\∀t,lo+x-(e+1)<=t->t<lo+x->K r ys t=K r ys (lo+x-1)) ?_ ?_ ⟨xs,0,rfl,rfl,h,hd,by lia,λt _ _=>by congr 1;lia⟩) ?_)
 .rintro x c st' a1 a2 ⟨ys,e,rfl,rfl,b1,b2,b3,b4⟩;have hy:=b1.size;unfold Zb;refine aU (QJ hc b1 (by dsimp only;lia) (by dsimp only;lia) ?_);dsimp only
  by_cases c:K r ys (lo+x)<K r ys (lo+x-1)
  .rw [decide_eq_true c,if_pos rfl];have d2:=b2.next (by lia) (gH c)
   by_cases d:e>0
   .rw [if_pos d,vm];have sm:=KM (r:=r) (xs:=ys) (by lia) b4;refine aU (iI (bo ⟨_,0,rfl,rfl,b1.rev (i:=lo+x-(e+1)) (j:=lo+x) (by lia) (by lia),λt u z1 z2 z3=>?_,by lia,λt _ _=>by congr 1;lia⟩));rw[sm,sm];exact d2 t u z1 z2 z3
   .rw [if_neg d];exact bo ⟨ys,0,rfl,rfl,b1,d2,by lia,λt _ _=>by congr 1;lia⟩
  .rw [decide_eq_false c,if_neg (by simp)];refine aU (QJ hc b1 (by lia) (by lia) ?_);dsimp only
   by_cases d:K r ys (lo+x-1)<K r ys (lo+x)
   .rw [decide_eq_true d,if_pos rfl];exact bo ⟨x,ys,e,a1,by lia,rfl,rfl,b1,b2,b3,b4⟩
   .rw [decide_eq_false d,if_neg (by simp)];refine bo ⟨ys,e+1,rfl,rfl,b1,b2.next (by lia) (by lia),by lia,λt z1 z2=>?_⟩
    have e1:lo+(x+1)-1=lo+x:=by lia
    rw[e1]
    by_cases f:t=lo+x
    .rw [f]
    .rw [b4 t (by lia) (by lia)];lia
 .rintro c st' ⟨ys,e,rfl,rfl,b1,b2,b3,b4⟩
  have e1:max (n+1) nrem=nrem:=by lia
  rw[e1]at b2 b3 b4 ⊢;exact⟨nrem,ys,e,hn,ay _,rfl,rfl,b1,b2,b3,b4⟩
 .rintro c st' ⟨x,ys,e,a1,a2,rfl,rfl,b1,b2,b3,b4⟩;have hy:=b1.size;dsimp only
  by_cases d:e>0
  .rw [if_pos d,vm];have sm:=KM (r:=r) (xs:=ys) (by lia) b4;refine aU (iI (Zc hc (b1.rev (i:=lo+x-(e+1)) (j:=lo+x) (by lia) (by lia)) (by rw[X4];lia) (by lia) a2 (λt u z1 z2 z3=>?_) hq));rw[sm,sm];exact b2 t u z1 z2 z3
  .rw [if_neg d];exact Zc hc b1 (by lia) (by lia) a2 b2 hq
theorem w_count(hc:FQ prog w A s κ D r)(h:Bs D a₀ lo xs)(hz:lo+nrem<=xs.size)(h1:1<=nrem){Q:Option Nat->dM->Prop}(hq:∀m ys,1<=m->m<=nrem->Bs D a₀ lo ys->Up r ys lo (lo+m)->Q (some m) (bf κ ys pd g none)):vv (aR prog w) A E s (countRun' lo nrem) Q (bf κ xs pd g none):=by
 rw[QI]
 refine aU (Vb hc h hz (ay 1) h1 (λt u a1 a2 a3=>by
  have:t=u:=by lia
  subst this;exact nU _) λm b1 b2 b3 b4=>?_)
 dsimp only
 by_cases e:m=nrem
 .rw [if_pos (by simpa using e)];exact bo (hq m xs b1 b2 h b3)
 .rw [if_neg (by simpa using e)];have b4:=b4 (by lia)
  by_cases c:m>1
  .rw [if_pos c];refine aU (QJ hc h (by lia) (by lia) ?_);dsimp only
   by_cases d:K r xs lo<K r xs (lo+m-1)
   .rw [decide_eq_true d,if_pos rfl];exact bo (hq m xs b1 b2 h b3)
   .rw [decide_eq_false d,if_neg (by simp),vm]
    have al:∀t,lo<=t->t<lo+m->K r xs t=K r xs (lo+m-1):=λt z1 z2=>by have:=b3 lo t (ay _) z1 z2;have:=b3 t (lo+m-1) z1 (by lia) (by lia);lia
    have sm:=KM (r:=r) (xs:=xs) (by lia) al
    have dn:Dn r xs lo (lo+m):=λt u z1 z2 z3=>by rw[al t z1 (by lia),al u (by lia) z3];exact nU _
    refine aU (iI (Vc hc (h.rev (i:=lo) (j:=lo+m) (ay _) (by lia)) (by rw[X4];lia) (by lia) (λt u z1 z2 z3=>?_) hq));rw[sm,sm];exact dn.next (by lia) (gH b4) t u z1 z2 z3
  .rw [if_neg c]
   have:m=1:=by lia
   subst this
   exact Vc hc h hz (by lia) (Dn.next (λt u z1 z2 z3=>by
    have:t=u:=by lia
    subst this;exact nU _) (by lia) (gH b4)) hq
end
end Sy
namespace Sy
open PySem.W
def plS(lo k:Nat)(_:Nat)(z:Option Bool×Nat×Nat):SM (ForInStep (Option Bool×Nat×Nat)):=
 if z.2.1>=z.2.2 then pure (.done (none,z.2))else do
  match ← ltAt' (lo+k) (lo+(z.2.1+z.2.2)/2)with
  |some c=>if c=true then pure (.yield (none,z.2.1,(z.2.1+z.2.2)/2))else pure (.yield (none,(z.2.1+z.2.2)/2+1,z.2.2))
  |_=>pure (.done (some false,z.2))
def biS(lo:Nat)(k:Nat)(_:Option Bool×Unit):SM (ForInStep (Option Bool×Unit)):=do
 let z ← forIn [0:k] ((none,0,k):Option Bool×Nat×Nat) (plS lo k)
 (match z.1 with
 |some r=>pure (.done (some r,()))
 |none=>do
  moveDown' (lo+k) (lo+z.2.1)
  pure (.yield (none,())))
theorem Xj(lo n ok:Nat):X5 lo n ok=(do
 let z ← forIn [max ok 1:n] ((none,()):Option Bool×Unit) (biS lo)
 (match z.1 with
 |some r=>pure r
 |none=>pure true)):=by kernel_rfl
section
variable{prog:bI}{w:cC}{A:cT}{E:ak->aA->Prop}{s:aA}{κ:jx}{D:aW->Prop}{r:aW->Int}{st:dM}{xs ys a₀:Array aW}{pd:Array (Nat×Nat×Nat)}{i j lo hi n m q g nrem:Nat}
theorem Vd{x l:Nat}(hx:x<xs.size)(hl:l<=x)(i:Nat):K r (bubble xs x (x-l)) i=if i=l then K r xs x else if l<i/\i<=x then K r xs (i-1)else K r xs i:=by
 have e:=getElem?_bubble hx (x-l) (by lia) i;rw[show x-(x-l)=l by lia]at e
 by_cases h1:i=l
 .rw [if_pos h1]at e ⊢;exact KL e
 .rw [if_neg h1]at e ⊢
  by_cases h2:l<i/\i<=x
  .rw [if_pos h2]at e ⊢;exact KL e
  .rw [if_neg h2]at e ⊢;exact KL e
theorem QL(hc:FQ prog w A s κ D r)(h:Bs D a₀ lo xs)(hz:lo+n<=xs.size)(h1:1<=m)(hm:m<=n)(hu:Up r xs lo (lo+m)){Q:Bool->dM->Prop}(hq:∀ys,Bs D a₀ lo ys->Up r ys lo (lo+n)->Q true (bf κ ys pd g none)):vv (aR prog w) A E s (X5 lo n m) Q (bf κ xs pd g none):=by
 rw[Xj,show max m 1=m by lia];have hs:=h.size;refine aU (m8 (fT (I:=λk c st'=>c.1=none/\∃ys,st'=bf κ ys pd g none/\Bs D a₀ lo ys/\Up r ys lo (lo+k)) (Q:=λc st'=>c.1=none/\∃ys,st'=bf κ ys pd g none/\Bs D a₀ lo ys/\Up r ys lo (lo+n)) ?_ ?_ ⟨rfl,xs,rfl,h,hu⟩) ?_)
 .rintro k c st' a1 a2 ⟨_,ys,rfl,b1,b2⟩;have hy:=b1.size;unfold biS
  refine aU (m8 (fT (I:=λx z st'=>st'=bf κ ys pd g none/\z.1=none/\z.2.1<=z.2.2/\z.2.2<=k/\(∀t,lo<=t->t<lo+z.2.1->K r ys t<=K r ys (lo+k))/\(∀t,lo+z.2.2<=t->t<lo+k->K r ys (lo+k)<=K r ys t)/\z.2.2+x<=z.2.1+k)
   (Q:=λz st'=>st'=bf κ ys pd g none/\z.1=none/\z.2.1<=k/\(∀t,lo<=t->t<lo+z.2.1->K r ys t<=K r ys (lo+k))/\∀t,lo+z.2.1<=t->t<lo+k->K r ys (lo+k)<=K r ys t) ?_ ?_ ⟨rfl,rfl,aK _,ay _,λt z1 z2=>absurd z2 (by dsimp only;lia),λt z1 z2=>absurd z2 (by dsimp only at z1;lia),by dsimp only;lia⟩) ?_)
  .rintro x ⟨z,l,u⟩ st' _ _ ⟨rfl,rfl,c1,c2,c3,c4,c5⟩;dsimp only at c1 c2 c3 c4 c5;unfold plS;dsimp only
   by_cases d:l>=u
   .rw [if_pos d]
    have:l=u:=by lia
    subst this;exact bo ⟨rfl,rfl,c2,c3,c4⟩
   .rw [if_neg d];refine aU (QJ hc b1 (by lia) (by lia) ?_);dsimp only
    by_cases f:K r ys (lo+k)<K r ys (lo+(l+u)/2)
    .rw [decide_eq_true f,if_pos rfl];exact bo ⟨rfl,rfl,by dsimp only;lia,by dsimp only;lia,c3,λt z1 z2=>c8 (gH f) (b2 _ _ (by lia) z1 z2),by dsimp only;lia⟩
    .rw [decide_eq_false f,if_neg (by simp)];exact bo ⟨rfl,rfl,by dsimp only;lia,c2,λt z1 z2=>c8 (b2 _ (lo+(l+u)/2) z1 (by dsimp only at z2;lia) (by lia)) (pU.mp f),c4,by dsimp only;lia⟩
  .rintro ⟨z,l,u⟩ st' ⟨rfl,rfl,c1,c2,c3,c4,c5⟩;dsimp only at c1 c2 c3 c4 c5
   have:l=u:=by lia
   subst this;exact⟨rfl,rfl,c2,c3,c4⟩
  .rintro ⟨z,l,u⟩ st' ⟨rfl,rfl,c2,c3,c4⟩;dsimp only at c2 c3 c4 ⊢;rw[moveDown'_eq];refine aU (iI (bo ⟨rfl,_,rfl,⟨(bubble_perm _ _ _).trans b1.pm,b1.dd,λt ht=>?_⟩,λt v z1 z2 z3=>?_⟩))
   .have e:=getElem?_bubble (xs:=ys) (src:=lo+k) (by lia) (lo+k-(lo+l)) (by lia) t
    show(bubble ys _ _)[t]?=_
    rw[e,if_neg (by lia),if_neg (by lia)];exact b1.ah t ht
   .show K r (bubble ys _ _) t<=K r (bubble ys _ _) v
    rw[Vd (by lia) (by lia),Vd (by lia) (by lia)]
    by_cases d1:t=lo+l
    .rw [if_pos d1]
     by_cases d2:v=lo+l
     .rw [if_pos d2];exact nU _
     .rw [if_neg d2,if_pos (by lia)];exact c4 _ (by lia) (by lia)
    .rw [if_neg d1]
     by_cases d2:v=lo+l
     .rw [if_pos d2,if_neg (by lia)];exact c3 t z1 (by lia)
     .rw [if_neg d2]
      by_cases d3:lo+l<t
      .rw [if_pos (by lia),if_pos (by lia)];exact b2 _ _ (by lia) (by lia) (by lia)
      .rw [if_neg (by lia)]
       by_cases d4:lo+l<v
       .rw [if_pos (by lia)];exact b2 _ _ (by lia) (by lia) (by lia)
       .rw [if_neg (by lia)];exact b2 _ _ (by lia) (by lia) (by lia)
 .rintro c st' ⟨e,ys,rfl,b1,b2⟩;rw[show max m n=n by lia]at b2;exact⟨e,ys,rfl,b1,b2⟩
 .rintro ⟨c,u⟩ st' ⟨e,ys,rfl,b1,b2⟩;cases e;exact bo (hq ys b1 b2)
end
end Sy
namespace Sy
open PySem.W
def QM(i:Nat)(q:Array aW)(xs:Array aW):Array aW:=q.toList.zipIdx.foldl (λa x=>match x with|(p,j)=>a.setIfInBounds (i+j) p) xs
def T9(i:Nat)(q:Array aW):SM Bool:=do
 modify λt=>bf (kindOf t) (QM i q (m7 t)) (cL t) (gallopOf t) (i4 t)
 let t ← get
 pure (i4 t).isNone
def mAt(xs:Array aW)(sa na sb nb:Nat):SM Bool:=do
 match ← n9 false (← mE xs sb) xs sa na 0 with
 |some k=>(if(na-k == 0)=true then pure true else(do
  match ← n9 true (← mE xs (sa+k+(na-k)-1)) xs sb nb (nb-1)with
  |some m=>(if(m == 0)=true then pure true else if na-k<=m then(do
   let q ← A5 (xs.extract (sa+k) sb) (xs.extract sb (sb+m))
   T9 (sa+k) q)else(do
   let q ← A6 (xs.extract (sa+k) sb) (xs.extract sb (sb+m))
   T9 (sa+k) q))
  |_=>pure false))
 |_=>pure false
theorem MS(i:Nat):X6 i=(do
  let t ← get
  match ((cL t)[i]?,(cL t)[i+1]?)with
  | (some (sa,na,pw),some (sb,nb,_))=>(do
   set (bf (kindOf t) (m7 t) (((cL t).setIfInBounds i (sa,na+nb,pw)).eraseIdxIfInBounds (i+1)) (gallopOf t) (i4 t))
   mAt (m7 t) sa na sb nb)
  | _=>liftM (unsupported "internal:list.sort.pending")):=by kernel_rfl
theorem QN(i:Nat):∀(l:List aW) (o:Nat) (xs:Array aW),i+o+l.length<=xs.size ->((l.zipIdx o).foldl (λa x=>match x with|(p,j)=>a.setIfInBounds (i+j) p) xs).toList=xs.toList.take (i+o)++l++xs.toList.drop (i+o+l.length)
 | [],o,xs,_=>by simp
 |p::l,o,xs,h=>by
  rw[List.zipIdx_cons,X7];simp only[bR]at h;rw[QN i l (o+1) _ (by simp;lia)]
  have hl:i+o<xs.toList.length:=by simp;lia
  simp only[Array.toList_setIfInBounds,bR];rw[show i+(o+1)=i+o+1 by lia,cH,List.take_set_of_le (ay _),lU hl,List.drop_set_of_lt (by lia),show i+o+1+l.length=i+o+(l.length+1) by lia];simp
theorem Xk{i:Nat}{q xs:Array aW}(h:i+q.size<=xs.size):(QM i q xs).toList=xs.toList.take i++q.toList++xs.toList.drop (i+q.size):=by exact QN i q.toList 0 xs (by simpa using h)
section
variable{prog:bI}{w:cC}{A:cT}{E:ak->aA->Prop}{s:aA}{κ:jx}{D:aW->Prop}{r:aW->Int}{st:dM}{xs ys a₀:Array aW}{pd:Array (Nat×Nat×Nat)}{i j lo hi n m k q g pw nrem:Nat}
theorem Zd{st':dM}{Q:PUnit->dM->Prop}(h:Q ⟨⟩ st'):vv (aR prog w) A E s (set st':SM PUnit) Q st:=iI (f:=λ_=>st') h
theorem mi{t:Nat}{x:aW}(e:(xs.extract i j)[t]?=some x):i+t<j/\i+t<xs.size/\xs[i+t]?=some x:=by
 have h:=qU e;simp at h
 have e2:(xs.extract i j)[t]?=xs[i+t]?:=by rw[Array.getElem?_extract,if_pos (by lia)]
 exact⟨by lia,by lia,by rw[← e2,e]⟩
theorem Ve(h:St r xs i j):(xs.extract i j).toList.Pairwise λx y=>r x<=r y:=pw_of λt u x y _ h2 _ e f=>h _ _ x y (iq _ _) (by lia) (mi f).1 (mi e).2.2 (mi f).2.2
theorem St.whole{n1:Nat}(hn:n1<=xs.size)(h:∀t u x y,t<n1->n1<=u->xs[t]?=some x->xs[u]?=some y->r x<=r y)(h1:St r xs 0 n1)(h2:St r xs n1 xs.size):St r xs 0 xs.size:=λt u x y a1 a2 a3 e f=>by
 by_cases c:u<n1
 .exact h1 t u x y a1 a2 c e f
 .by_cases d:t<n1
  .exact h t u x y d (by lia) e f
  .exact h2 t u x y (by lia) a2 a3 e f
theorem St.ZN(h:xs.toList.Pairwise λx y=>r x<=r y):St r xs 0 xs.size:=λt u x y _ a2 a3 e f=>by
 obtain⟨h1,rfl⟩:=cE.mp e;obtain⟨h2,rfl⟩:=cE.mp f
 by_cases c:t=u
 .subst c;exact nU _
 .have:=km.mp h t u (by simpa using h1) (by simpa using h2) (by lia)
  simpa using this
theorem Ze{q:Array aW}{Q:Bool->dM->Prop}(h:∀g',Q true (bf κ (QM i q xs) pd g' none))(hs:Sm κ xs pd st):vv (aR prog w) A E s (T9 i q) Q st:=by obtain⟨g',rfl⟩:=hs;exact aU (iI (aU (qk (bo (h g')))))
theorem Zg{n1 n2:Nat}(hc:FQ prog w A s κ D r)(h:Bs D a₀ 0 xs)(h1:0<n1)(h2:0<n2)(hn:n1+n2=xs.size)(s1:St r xs 0 n1)(s2:St r xs n1 xs.size){Q:Bool->dM->Prop}(hq:∀ys g',Bs D a₀ 0 ys->St r ys 0 ys.size->Q true (bf κ ys pd g' none)):vv (aR prog w) A E s (mAt xs 0 n1 n1 n2) Q (bf κ xs pd g none):=by
 obtain⟨y0,ey⟩:=gE (a:=xs) (i:=n1) (by lia);obtain⟨x1,ex⟩:=gE (a:=xs) (i:=n1-1) (by lia);unfold mAt;refine aU (nE ey (aU (pj hc rfl (λt x e=>h.d e) (h.d ey) (by lia) (λt u x y z1 z2 z3=>s1 t u x y z1 z2 (by lia)) h1 λk k1 k2 k3=>?_)))
 have k2':∀t x,t<k->xs[t]?=some x->r x<=r y0:=λt x z e=>by simpa[Bv]using k2 t x (aK _) (by lia) e
 have k3':∀t x,k<=t->t<n1->xs[t]?=some x->r y0<r x:=λt x z z' e=>by simpa[Bv]using k3 t x (by lia) (by lia) e
 have yl:∀t x,n1<=t->xs[t]?=some x->r y0<=r x:=λt x z e=>s2 _ _ _ _ (ay _) z (qU e) ey e;have xl:∀t x,t<n1->xs[t]?=some x->r x<=r x1:=λt x z e=>s1 _ _ _ _ (aK _) (by lia) (by lia) e ex;dsimp only
 by_cases c:n1-k=0
 .rw [if_pos (by simpa using c)];exact bo (hq xs g h (St.whole (n1:=n1) (by lia) (λt u x y z1 z2 e f=>c8 (k2' t x (by lia) e) (yl u y z2 f)) s1 s2))
 .rw [if_neg (by simpa using c)];rw[show 0+k+(n1-k)-1=n1-1 by lia,show 0+k=k by lia];refine aU (nE ex (aU (pj hc rfl (λt x e=>h.d e) (h.d ex) (by lia) (λt u x y z1 z2 z3=>s2 t u x y z1 z2 (by lia)) (by lia) λm m1 m2 m3=>?_)));have m2':∀t x,n1<=t->t<n1+m->xs[t]?=some x->r x<r x1:=λt x z z' e=>of_decide_eq_true (m2 t x z z' e);have m3':∀t x,n1+m<=t->xs[t]?=some x->r x1<=r x:=λt x z e=>pU.mp (of_decide_eq_false (m3 t x z (by have:=qU e;lia) e));dsimp only
  by_cases d:m=0
  .rw [if_pos (by simpa using d)];exact bo (hq xs g h (St.whole (n1:=n1) (by lia) (λt u x y z1 z2 e f=>c8 (xl t x z1 e) (m3' u y (by lia) f)) s1 s2))
  .rw [if_neg (by simpa using d)]
   have sx:(xs.extract k n1).size=n1-k:=by simp;lia
   have sy:(xs.extract n1 (n1+m)).size=m:=by simp;lia
   have fin:∀q,F r ((xs.extract k n1).toList++(xs.extract n1 (n1+m)).toList) q->∀st',Sm κ xs pd st'->vv (aR prog w) A E s (T9 k q) Q st':=λq hF st' hS=>by
    have pm:q.toList.Perm ((xs.extract k n1).toList++(xs.extract n1 (n1+m)).toList):=by simpa using hF.pm
    have lq:q.size=n1-k+m:=by have:=pm.length_eq;rw[bj,aS,aS,aS,sx,sy]at this;exact this
    have el:=Xk (i:=k) (q:=q) (xs:=xs) (by lia)
    have tk:xs.toList.take k=(xs.extract 0 k).toList:=by simp
    have dp:xs.toList.drop (k+q.size)=(xs.extract (n1+m) xs.size).toList:=by rw[qT];congr 1;lia
    rw[tk,dp]at el
    have wh:xs.toList=(xs.extract 0 k).toList++((xs.extract k n1).toList++(xs.extract n1 (n1+m)).toList)++(xs.extract (n1+m) xs.size).toList:=by have e1:=MR xs 0 k;have e2:=MR xs k (n1-k);have e3:=MR xs n1 m;rw[show k+(n1-k)=n1 by lia]at e2;rw[qT];rw[Nat.zero_add]at e1;rw[cI,cI,← e3,← e2,← e1,Hu]
    have mq:∀x∈q.toList,(∃t,k<=t/\t<n1/\xs[t]?=some x)\/∃t,n1<=t/\t<n1+m/\xs[t]?=some x:=λx hx=>by
     rcases aL.mp (pm.mem_iff.mp hx)with z|z
     .obtain ⟨t,a1,a2,_,e⟩:=xM z;exact .inl ⟨t,a1,a2,e⟩
     .obtain ⟨t,a1,a2,_,e⟩:=xM z;exact .inr ⟨t,a1,a2,e⟩
    refine Ze (λg'=>hq _ g' ⟨fF.mpr ?_,h.dd,λt ht=>absurd ht (by lia)⟩ (St.ZN ?_)) hS
    .rw [el];refine List.Perm.trans ?_ (fF.mp h.pm);rw[wh];exact(pm.append_left _).append_right _
    .rw [el];refine gK.mpr ⟨gK.mpr ⟨Ve λt u x y a1 a2 a3=>s1 t u x y a1 a2 (by lia),hF.so,λx hx y hy=>?_⟩,Ve λt u x y a1 a2 a3=>s2 t u x y (by lia) a2 a3,λx hx y hy=>?_⟩
     .obtain ⟨t,_,a2,_,e⟩:=xM hx
      rcases mq y hy with⟨u,b1,b2,f⟩|⟨u,b1,b2,f⟩
      .exact s1 t u x y (aK _) (by lia) b2 e f
      .exact c8 (k2' t x a2 e) (yl u y b1 f)
     .obtain ⟨u,b1,b2,_,f⟩:=xM hy
      rcases aL.mp hx with hx|hx
      .obtain ⟨t,_,a2,_,e⟩:=xM hx;exact c8 (k2' t x a2 e) (yl u y (by lia) f)
      .rcases mq x hx with⟨t,a1,a2,e⟩|⟨t,a1,a2,e⟩
       .exact c8 (xl t x a2 e) (m3' u y b1 f)
       .exact s2 t u x y a1 (by lia) b2 e f
   have da:∀(t:Nat) x,(xs.extract k n1)[t]?=some x->D x:=λt x e=>h.d (mi e).2.2;have db:∀(t:Nat) x,(xs.extract n1 (n1+m))[t]?=some x->D x:=λt x e=>h.d (mi e).2.2;have sa:St r (xs.extract k n1) 0 (xs.extract k n1).size:=λt u x y _ a2 _ e f=>s1 _ _ x y (aK _) (by lia) (mi f).1 (mi e).2.2 (mi f).2.2;have sb:St r (xs.extract n1 (n1+m)) 0 (xs.extract n1 (n1+m)).size:=λt u x y _ a2 _ e f=>s2 _ _ x y (iq _ _) (by lia) (mi f).2.1 (mi e).2.2 (mi f).2.2
   have yx:∀(t u:Nat) x y,(xs.extract k n1)[t]?=some x->(xs.extract n1 (n1+m))[0]?=some y->r y<=r x:=λt u x y e f=>by have f:=(mi f).2.2;rw[Nat.add_zero,ey]at f;cases f;exact gH (k3' _ x (by lia) (mi e).1 (mi e).2.2)
   have xy:∀(t u:Nat) x y,t+1=(xs.extract k n1).size->(xs.extract k n1)[t]?=some x->(xs.extract n1 (n1+m))[u]?=some y->r y<=r x:=λt u x y z e f=>by have e:=(mi e).2.2;rw[sx]at z;rw[show k+t=n1-1 by lia,ex]at e;cases e;exact gH (m2' _ y (by lia) (mi f).1 (mi f).2.2)
   by_cases f:n1-k<=m
   .rw [if_pos f];exact aU (w_lo hc ⟨da,db,sa,sb,xy⟩ rfl (by lia) (by lia) (λx y e f=>yx 0 0 y x f e) λq st' w1 w2=>fin q w2 st' w1)
   .rw [if_neg f];exact aU (w_hi hc ⟨da,db,sa,sb,λu x y e f=>yx u 0 y x f e⟩ rfl (by lia) (by lia) (λx y e f=>xy _ _ y x (by lia) f e) λq st' w1 w2=>fin q w2 st' w1)
end
end Sy
namespace Sy
open PySem.W
theorem Xl{n:Nat}(h2:2<=n)(h:n<128):n<=2*sR n n 0/\sR n n 0<=n/\1<=sR n n 0:=by
 obtain⟨f,rfl⟩:∃f,n=f+2:=⟨n-2,by lia⟩
 by_cases c:f+2<64
 .have e:sR (f+1+1) (f+2) 0=f+2+0:=by rw[UM,if_pos c]
  have e:sR (f+2) (f+2) 0=f+2:=e;lia
 .have e:sR (f+1+1) (f+2) 0=(f+2)/2+max 0 ((f+2)%2):=by rw[UM,if_neg c,UM,if_pos (by lia)]
  have e:sR (f+2) (f+2) 0=(f+2)/2+max 0 ((f+2)%2):=e;lia
abbrev R1:=Option Unit×Nat
abbrev R0:=Option Unit×Unit
def cl1(pw:Nat)(_:Nat)(_:R0):SM (ForInStep R0):=do
 let t ← get
 match (if(cL t).size>1 then(cL t)[(cL t).size-2]? else none)with
 |some (_,_,old)=>(if old<=pw then pure (.done (none,()))else(do
  let b ← X6 ((cL t).size-2)
  if(!b)=true then pure (.done (some (),()))else pure (.yield (none,()))))
 |_=>pure (.done (none,()))
def Zh(N lo n:Nat):SM (ForInStep R1):=do
 let t ← get
 match (cL t).back? with
 |some (s1,n1,_)=>(do
  let z ← forIn [0:N] ((none,()):R0) (cl1 (power' N (2*s1+n1) (2*s1+n1+n1+n) N))
  (match z.1 with
  |some r=>pure (.done (some r,lo))
  |none=>do
   modify λt=>setPending t ((cL t).modify ((cL t).size-1) λx=>(x.1,x.2.1,power' N (2*s1+n1) (2*s1+n1+n1+n) N))
   modify λt=>setPending t ((cL t).push (lo,n,0))
   pure (.yield (none,lo+n))))
 |_=>(do
  modify λt=>setPending t ((cL t).push (lo,n,0))
  pure (.yield (none,lo+n)))
def N9(N mr:Nat)(_:Nat)(z:R1):SM (ForInStep R1):=
 if z.2>=N then pure (.done (none,z.2))else do
  match ← countRun' z.2 (N-z.2)with
  |some f=>(if f<mr then(do
   liftM (CO "list.sort.binary-insertion")
   let b ← X5 z.2 (min (N-z.2) mr) f
   if(!b)=true then pure (.done (some (),z.2))else Zh N z.2 (min (N-z.2) mr))else Zh N z.2 f)
  |_=>pure (.done (some (),z.2))
def cl2(_:Nat)(_:R0):SM (ForInStep R0):=do
 let t ← get
 if(cL t).size<=1 then pure (.done (none,()))else(do
  let b ← X6 (if(if(cL t).size-2>0 then(cL t)[(cL t).size-2-1]?.map (·.2.1)else none).any (·<((cL t)[(cL t).size-2+1]?.elim 0 (·.2.1)))then(cL t).size-2-1 else(cL t).size-2)
  if(!b)=true then pure (.done (some (),()))else pure (.yield (none,())))
theorem Ua:sortRuns'=(do
 let t ← get
 let z ← forIn [0:(m7 t).size] ((none,0):R1) (N9 (m7 t).size (sR (m7 t).size (m7 t).size 0))
 (match z.1 with
 |some r=>pure r
 |none=>do
  let y ← forIn [0:(m7 t).size] ((none,()):R0) cl2
  (match y.1 with
  |some r=>pure r
  |none=>pure ()))):=by kernel_rfl
section
variable{prog:bI}{w:cC}{A:cT}{E:ak->aA->Prop}{s:aA}{κ:jx}{D:aW->Prop}{r:aW->Int}{xs ys a₀:Array aW}{pd:Array (Nat×Nat×Nat)}{i j lo hi n m k q g pw nrem N n1:Nat}
theorem Up.st(h:Up r xs i j):St r xs i j:=λt u x y a1 a2 a3 e f=>by have:=h t u a1 a2 a3;rwa [T8 e,T8 f]at this
theorem Xm{Q:ForInStep R1->dM->Prop}(h:Q (.yield (none,lo+n)) (bf κ xs #[(lo,n,0)] g none)):vv (aR prog w) A E s (Zh N lo n) Q (bf κ xs #[] g none):=
 aU (qk (aU (iI (bo h))))
theorem Xn{Q:ForInStep R1->dM->Prop}(h:∀pw,Q (.yield (none,lo+n)) (bf κ xs #[(0,n1,pw),(lo,n,0)] g none)):vv (aR prog w) A E s (Zh N lo n) Q (bf κ xs #[(0,n1,0)] g none):=by
 refine aU (qk ?_)
 show vv _ _ _ _ (_ >>= _) _ _
 refine aU (m8 (fT (I:=λ_ c st'=>c=(none,())/\st'=bf κ xs #[(0,n1,0)] g none) (Q:=λc st'=>c=(none,())/\st'=bf κ xs #[(0,n1,0)] g none) ?_ (λ_ _ z=>z) ⟨rfl,rfl⟩) ?_)
 .rintro x c st' _ _ ⟨rfl,rfl⟩;exact aU (qk (bo ⟨rfl,rfl⟩))
 .rintro c st' ⟨rfl,rfl⟩;exact aU (iI (aU (iI (bo (h _)))))
theorem Vg{mr:Nat}(hc:FQ prog w A s κ D r)(hD:∀x∈xs.toList,D x)(h1:lo<N)(hN:N=xs.size)(hm:1<=mr){Q:ForInStep R1->dM->Prop}{z:R1}(hz:z.2=lo)(h:∀ys m,1<=m->m<=N-lo->min (N-lo) mr<=m->ys.Perm xs->(∀t,t<lo->ys[t]?=xs[t]?)->Up r ys lo (lo+m)->vv (aR prog w) A E s (Zh N lo m) Q (bf κ ys pd g none)):vv (aR prog w) A E s (N9 N mr i z) Q (bf κ xs pd g none):=by
 subst hN hz;unfold N9;rw[if_neg (by lia)];refine aU (w_count (a₀:=xs) hc ⟨Array.Perm.refl _,hD,λ_ _=>rfl⟩ (by lia) (by lia) λm ys m1 m2 hb hu=>?_);have hy:=hb.size;dsimp only
 by_cases c:m<mr
 .rw [if_pos c];refine aU (Hq (ib ⟨rfl,?_⟩));refine aU (QL hc hb (by lia) m1 (by lia) hu λzs hb' hu'=>?_);exact h zs _ (by lia) (by lia) (ay _) hb'.pm hb'.ah hu'
 .rw [if_neg c];exact h ys m m1 m2 (by lia) hb.pm hb.ah hu
theorem w_runs(hc:FQ prog w A s κ D r)(hD:∀x∈a₀.toList,D x)(h2:2<=a₀.size)(h128:a₀.size<128){Q:Unit->dM->Prop}(hq:∀ys st',m7 st'=ys->i4 st'=none->ys.Perm a₀->St r ys 0 ys.size->Q () st'):vv (aR prog w) A E s sortRuns' Q (bf κ a₀ #[] 7 none):=by
 obtain⟨r1,r2,r3⟩:=Xl h2 h128;rw[Ua];refine aU (qk ?_)
 show vv _ _ _ _ (forIn [0:a₀.size] _ (N9 a₀.size (sR a₀.size a₀.size 0)) >>= _) _ _
 generalize sR a₀.size a₀.size 0=mr at r1 r2 r3;have dp:∀{ys:Array aW},ys.Perm a₀->∀x∈ys.toList,D x:=λh x hx=>hD x ((fF.mp h).mem_iff.mp hx)
 refine aU (m8 (fT
  (I:=λx c st'=>(x=0/\c=(none,0)/\st'=bf κ a₀ #[] 7 none)\/(∃n1 ys,c=(none,n1)/\mr<=n1/\n1<=a₀.size/\(x=1\/n1=a₀.size)/\st'=bf κ ys #[(0,n1,0)] 7 none/\ys.Perm a₀/\Up r ys 0 n1) \/(c=(none,a₀.size)/\∃n1 pw ys,0<n1/\n1<a₀.size/\st'=bf κ ys #[(0,n1,pw),(n1,a₀.size-n1,0)] 7 none/\ys.Perm a₀/\Up r ys 0 n1/\Up r ys n1 a₀.size))
  (Q:=λc st'=>c=(none,a₀.size)/\((∃ys,st'=bf κ ys #[(0,a₀.size,0)] 7 none/\ys.Perm a₀/\Up r ys 0 a₀.size)\/∃n1 pw ys,0<n1/\n1<a₀.size/\st'=bf κ ys #[(0,n1,pw),(n1,a₀.size-n1,0)] 7 none/\ys.Perm a₀/\Up r ys 0 n1/\Up r ys n1 a₀.size)) ?_ ?_ (.inl ⟨rfl,rfl,rfl⟩)) ?_)
 .rintro x c st' _ hx (⟨rfl,rfl,rfl⟩|⟨n1,ys,rfl,b1,b2,b3,rfl,b5,b6⟩|⟨rfl,b⟩)
  .refine Vg hc hD (lo:=0) (by lia) rfl r3 rfl λys m m1 m2 m3 p1 p2 p3=>Xm (.inr (.inl ⟨m,ys,by simp,by lia,by lia,.inl rfl,rfl,p1,by simpa using p3⟩))
  .have hy:=b5.size_eq
   by_cases c:n1=a₀.size
   .unfold N9;rw[if_pos (by dsimp only;lia)];subst c;exact bo ⟨rfl,.inl ⟨ys,rfl,b5,b6⟩⟩
   .refine Vg hc (dp b5) (lo:=n1) (by lia) hy.symm r3 rfl λzs m m1 m2 m3 p1 p2 p3=>Xn λpw=>.inr (.inr ?_)
    have e:m=a₀.size-n1:=by lia
    subst e;rw[show n1+(a₀.size-n1)=a₀.size by lia]at p3 ⊢;exact⟨rfl,n1,pw,zs,by lia,by lia,rfl,p1.trans b5,λt u z1 z2 z3=>by rw[KL (p2 t (by lia)),KL (p2 u z3)];exact b6 t u z1 z2 z3,p3⟩
  .unfold N9;rw[if_pos (ay _)];exact bo ⟨rfl,.inr b⟩
 .rintro c st' (⟨hx,_⟩|⟨n1,ys,rfl,b1,b2,b3,b4,b5,b6⟩|⟨rfl,b⟩)
  .lia
  .have:n1=a₀.size:=by lia
   subst this;exact⟨rfl,.inl ⟨ys,b4,b5,b6⟩⟩
  .exact ⟨rfl,.inr b⟩
 .rintro c st' ⟨rfl,b⟩
  refine aU (m8 (fT (I:=λx c st'=>c=(none,())/\((∃ys pw g,st'=bf κ ys #[(0,a₀.size,pw)] g none/\ys.Perm a₀/\St r ys 0 ys.size)\/x=0/\∃n1 pw ys,0<n1/\n1<a₀.size/\st'=bf κ ys #[(0,n1,pw),(n1,a₀.size-n1,0)] 7 none/\ys.Perm a₀/\Up r ys 0 n1/\Up r ys n1 a₀.size))
   (Q:=λc st'=>c=(none,())/\∃ys pw g,st'=bf κ ys #[(0,a₀.size,pw)] g none/\ys.Perm a₀/\St r ys 0 ys.size) ?_ ?_ ⟨rfl,?_⟩) ?_)
  .rintro x c st2 _ _ ⟨rfl,⟨ys,pw,g,rfl,b1,b2⟩|⟨rfl,n1,pw,ys,b1,b2,rfl,b4,b5,b6⟩⟩
   .refine aU (qk ?_);rw[if_pos (show(cL (bf κ ys #[(0,a₀.size,pw)] g none)).size<=1 from ay 1)];exact bo ⟨rfl,ys,pw,g,rfl,b1,b2⟩
   .refine aU (qk ?_);rw[if_neg (show¬ (cL (bf κ ys #[(0,n1,pw),(n1,a₀.size-n1,0)] 7 none)).size<=1 fromλz=>absurd (show 2<=1 from z) (by lia))]
    show vv _ _ _ _ (X6 0 >>= _) _ _
    rw[MS];have hy:=b4.size_eq;refine aU (aU (qk ?_))
    show vv _ _ _ _ (_ >>= _) _ _
    refine aU (Zd ?_)
    have ep:((#[(0,n1,pw),(n1,a₀.size-n1,0)]:Array (Nat×Nat×Nat)).setIfInBounds 0 (0,n1+(a₀.size-n1),pw)).eraseIdxIfInBounds 1=#[(0,a₀.size,pw)]:=by
     rw[show n1+(a₀.size-n1)=a₀.size by lia]
     apply j8.mp
     simp
    show vv _ _ _ _ (mAt ys 0 n1 n1 (a₀.size-n1)) _ (bf κ ys (((#[(0,n1,pw),(n1,a₀.size-n1,0)]:Array (Nat×Nat×Nat)).setIfInBounds 0 (0,n1+(a₀.size-n1),pw)).eraseIdxIfInBounds 1) 7 none)
    rw[ep];exact Zg hc ⟨b4,hD,λt z=>absurd z (by lia)⟩ b1 (by lia) (by lia) b5.st (by rw[hy];exact b6.st) λzs g' w1 w2=>bo ⟨rfl,.inl ⟨zs,pw,g',rfl,w1.pm,w2⟩⟩
  .rintro c st2 ⟨e,b|⟨hx,_⟩⟩
   .exact ⟨e,b⟩
   .have hx:max 0 a₀.size=0:=hx;lia
  .rcases b with⟨ys,e,b1,b2⟩|b
   .exact .inl ⟨ys,0,7,e,b1,by rw[b1.size_eq];exact b2.st⟩
   .exact .inr ⟨rfl,b⟩
  .rintro c st2 ⟨rfl,ys,pw,g,rfl,b1,b2⟩;exact bo (hq ys _ rfl rfl b1 b2)
end
end Sy
namespace Sy
open PySem.W
theorem perm_map{α β:Type}{f:α->β}{m l:List β}(h:m.Perm l):∀us:List α,m=us.map f->∃us':List α,us'.Perm us/\l=us'.map f:=by
 induction h with
 |nil=>exactλus e=>⟨us,.refl _,e⟩
 |cons x _ ih=>
  intro us e
  match us,e with
  |u::us,e=>
   obtain⟨e1,e2⟩:=iF e;obtain⟨us',h1,h2⟩:=ih us e2
   exact⟨u::us',h1.cons u,by rw[e1,h2];rfl⟩
 |swap x y l=>
  intro us e
  match us,e with
  |u::v::us,e=>
   obtain⟨e1,e2⟩:=iF e;obtain⟨e2,e3⟩:=iF e2
   exact⟨v::u::us,.swap _ _ _,by rw[e1,e2,e3];rfl⟩
 |trans _ _ ih1 ih2=>
  intro us e;obtain⟨us1,h1,e1⟩:=ih1 us e;obtain⟨us2,h2,e2⟩:=ih2 us1 e1;exact⟨us2,h2.trans h1,e2⟩
section
variable{prog:bI}{w:cC}{A:cT}{E:ak->aA->Prop}{s:aA}{κ:jx}{r:ak->Int}{vs:List ak}
def Ks(prog:bI)(w:cC)(A:cT)(κ:jx)(r:ak->Int)(vs:List ak)(s:aA):Prop:=
 (∀Q:jx->aA->Prop,Q κ s->aO (aR prog w) A (keyKind' vs.toArray) Q (λ_ _=>False) s)/\∀x∈vs,∀y∈vs,∀Q:Bool->aA->Prop,Q (decide (r x<r y)) s->aO (aR prog w) A (keyLt' κ x y) Q (λ_ _=>False) s
theorem sort_vals{a:ai}{n:Nat}{P:Kd->aA->Prop}(ho:s.heap.get? a=some (cz "list" vs.toArray n))(hz:vs.length<128)(hk:2<=vs.length->∀h',(∀b o,b≠a->s.heap.get? b=some o->h'.get? b=some o)->Ks prog w A κ r vs { s with heap:=h' })(h:∀h' c (out:List ak),(∀b o,b≠a->s.heap.get? b=some o->h'.get? b=some o)->h'.get? a=some (cz "list" out.toArray c)->out.Perm vs->out.Pairwise (λx y=>r x<=r y)->P (.done (.ret .none)) { s with heap:=h' }):aO (aR prog w) A (jt.«list.sort» ⟨[.ref a],[]⟩) P E s:=by
 have hl:vs.length<=aY:=L2.di (m:=128) (by lia);rw[list_sort_plain]
 obtain⟨c1,g1⟩:∃c1,(s.heap.update a (bz λ_=>#[])).get? a=some (cz "list" #[] c1):=⟨_,lZ ho λ_=>#[]⟩
 refine ae (xq ho rfl (ae (jW ho rfl (ae (Ki g1 rfl (ae (z8 (ae (tM (cJ ?_) (aK _))) hl)))) (by rw[aQ];exact hl) (aK _))));have g6:(((s.heap.update a (bz λ_=>#[])).push (cz "tuple" vs.toArray 0)).push (cz "list" #[] 0)).get? a=some (cz "list" #[] c1):=ao _ (ao _ g1);have k6:∀b o,b≠a->s.heap.get? b=some o->(((s.heap.update a (bz λ_=>#[])).push (cz "tuple" vs.toArray 0)).push (cz "list" #[] 0)).get? b=some o:=λb o hb e=>ao _ (ao _ ((bh _ _ (Ne.symm hb)).trans e))
 show aO (aR prog w) A _ P E { s with heap:=((s.heap.update a (bz λ_=>#[])).push (cz "tuple" vs.toArray 0)).push (cz "list" #[] 0) }
 generalize ((s.heap.update a (bz λ_=>#[])).push (cz "tuple" vs.toArray 0)).push (cz "list" #[] 0)=h6 at g6 k6
 have sn:((vs.toArray.zip vs.toArray).map (·.2))=vs.toArray:=by
  apply j8.mp
  simp;exact V4 (ay _)
 have fin:∀st:dM,i4 st=none->∀out:List ak,(m7 st).map (·.2)=out.toArray->out.Perm vs->out.Pairwise (λx y=>r x<=r y)->aO (aR prog w) A (do
  let t:=(← seqEpoch a) != c1
  gf (.ref a) λ_=>(m7 st).map (·.2)
  if let some e:=i4 st then CO "list.sort.comparison-raised";throw e
  if t then CO "list.sort.modified";raiseError "ValueError" "list modified during sort"
  ret .none) P E { s with heap:=h6 }:=λst hf out eo hp hs=>by
  rw[eo]
  obtain⟨c7,g7⟩:∃c7,(h6.update a (bz λ_=>out.toArray)).get? a=some (cz "list" out.toArray c7):=⟨_,lZ g6 λ_=>out.toArray⟩
  refine ae (Ki g6 rfl (ae (jW g6 rfl ?_ (aK _) (by rw[aQ,hp.length_eq];exact VZ hl))));rw[hf];simp only[bne_self_eq_false,bN,if_false];exact ar (h _ c7 out (λb o hb e=>(bh _ _ (Ne.symm hb)).trans (k6 b o hb e)) g7 hp hs)
 dsimp only
 by_cases h2:vs.length<2
 .rw [if_pos (by rw[aQ];exact h2),if_pos (by rw[aQ];exact h2)];refine ae (ar ?_);rw[UN];refine ae (ar (fin (bf general' (vs.toArray.zip vs.toArray) #[] 7 none) rfl vs sn (.refl _) ?_))
  match vs,h2 with
  | [],_=>exact .nil
  | [z],_=>exact qK _ _
  |z::w::r,h2=>simp at h2;lia
 .rw [if_neg (by rw[aQ];exact h2),if_neg (by rw[aQ];exact h2)];obtain⟨q1,q2⟩:=hk (by lia) h6 k6;refine ae (dQ (q1 (λκ' s'=>κ'=κ/\s'={ s with heap:=h6 }) ⟨rfl,rfl⟩) (λκ' s' e=>?_) λ_ _ x=>x.elim);obtain⟨rfl,rfl⟩:=e
  have mz:∀x∈(vs.toArray.zip vs.toArray).toList,x.1∈vs:=λx hx=>by rw[CQ]at hx;exact(tG hx).1
  refine ae (dQ (w_runs (a₀:=vs.toArray.zip vs.toArray) (D:=λx=>x.1∈vs) (r:=λx=>r x.1) (Q:=λ_ st'=>∃ys,m7 st'=ys/\i4 st'=none/\ys.Perm (vs.toArray.zip vs.toArray)/\St (λx=>r x.1) ys 0 ys.size)
   (λx y hx hy Q q=>q2 x.1 hx y.1 hy Q q) mz (by simp;lia) (by simp;lia) λys st' a1 a2 a3 a4=>⟨ys,a1,a2,a3,a4⟩) ?_ λ_ _ x=>x)
  rintro⟨⟨⟩,st'⟩ s' ⟨rfl,ys,e,hf,hp,hs⟩;have hp':=fF.mp hp
  have self:∀x∈ys.toList,x.1=x.2:=λx hx=>by have:=hp'.mem_iff.mp hx;rw[CQ]at this;exact(mem_zip_self this).1
  refine fin st' hf (ys.toList.map (·.2)) (by rw[e];apply j8.mp;simp) ?_ ?_
  .have:=hp'.map (·.2);rw[← mH,← mH,sn]at this
   simpa using this
  .refine bY.mpr ((pw_of hs).imp_of_mem λ{x y} hx hy z=>?_);rw[← self x hx,← self y hy];exact z
theorem sorted_vals{p:ai}{Q:ak->aA->Prop}(hz:vs.length<128)(hcol:∀(Q':List ak->aA->Prop),(∀h' tk,(∀b o,s.heap.get? b=some o->h'.get? b=some o)->Q' vs { s with heap:=h',toks:=tk })->aO (aR prog w) A.in1 (Hk (.ref p)) Q' E s)(hk:2<=vs.length->∀h' tk,(∀b o,s.heap.get? b=some o->h'.get? b=some o)->Ks prog w A.in1.in1 κ r vs { s with heap:=h',toks:=tk })(h:∀D c h' tk (out:List ak),(∀b o,s.heap.get? b=some o->h'.get? b=some o)->s.heap.get? D=none->h'.get? D=some (cz "list" out.toArray c)->out.Perm vs->out.Pairwise (λx y=>r x<=r y)->Q (.ref D) { s with heap:=h',toks:=tk }):aO (aR prog w) A (call (.builtin "sorted") [.ref p]) Q E s:=by
 have hl:vs.length<=aY:=L2.di (m:=128) (by lia);refine Hx X8 UO UP (args_sorted1 _) (ae (m:=checkCount "sorted" 1 1 _) (ar (ae (hcol _ λh1 tk keep=>ae (tM ?_ hl)))));have g:(h1.push (cz "list" vs.toArray 0)).get? h1.objs.size=some (cz "list" vs.toArray 0):=aM _ rfl;have hb:∀b o,s.heap.get? b=some o->b≠h1.objs.size:=λb o e=>bg (aJ (keep b o e));have k2:∀{h':cR},(∀b o,b≠h1.objs.size->(h1.push (cz "list" vs.toArray 0)).get? b=some o->h'.get? b=some o)->∀b o,s.heap.get? b=some o->h'.get? b=some o:=λk b o e=>k b o (hb b o e) (ao _ (keep b o e))
 show aO (aR prog w) A.in1 (do let _ ← kZ [aD h1.objs.size] (call (.builtin "list.sort") [aD h1.objs.size]);ret (aD h1.objs.size)) _ _ { s with heap:=h1.push (cz "list" vs.toArray 0),toks:=tk }
 have hD:s.heap.get? h1.objs.size=none:=by
  cases q:s.heap.get? h1.objs.size with
  |none=>rfl
  |some o=>exact absurd rfl (hb _ o q)
 exact ae (cJ (de OP ⟨_,g,rfl⟩ Mp (sort_vals (s:={ s with heap:=h1.push (cz "list" vs.toArray 0),toks:=tk }) g hz (λh2 h' k=>hk h2 h' tk (k2 k)) λh' c out k gD hp hs=>⟨_,rfl,ar ⟨_,rfl,h _ c h' tk out (k2 k) hD gD hp hs⟩⟩) (args_list_sort _)))
end
end Sy
namespace L2
open PySem.W
variable{X:Cx}{pins:List (ai×jv)}{Z:St}{H:Hp}{s:aA}{m:List Bool}
theorem Inv.R5{h':cR}{a:ai}{o:HO}{t':Nat}(I:Inv X pins Z H s)(k:∀b u,s.heap.get? b=some u->h'.get? b=some u)(gn:s.heap.get? a=none)(new:fv X.prog X.w (upd H a o) h' a o):H a=none/\Inv X pins Z (upd H a o) { s with heap:=h',toks:=t' }:=by
 have hn:H a=none:=by
  cases q:H a with
  |none=>rfl
  |some u=>
   obtain⟨w,e⟩:=(I.fw a u q).obj;rw[gn]at e;cases e
 have ne:∀{b u},H b=some u->b≠a:=λe=>aT e hn;refine⟨hn,I.un ⟨λb u q _ _ _=>k b u q,λb u q _ _ _=>⟨u.slots,k b u q⟩,λb u q n _=>?_,λb u q _=>⟨u,k b u q⟩,λb xs q=>by rw[aF (ne q)];exact q,λb u xs q=>by rw[aF (ne q)];exact q,λb ps q=>⟨#[],by rw[aF (ne q),q];simp⟩⟩ λb u e=>?_⟩
 .rw [aF];exact n;rintro rfl;rw[gn]at q;cases q
 .by_cases hb:b=a
  .subst hb;rw[aC]at e;cases e;exact new
  .rw [aF hb]at e
   exact(I.fw b u e).zX (λc v _ q=>k c v q) (λc q=>by rw[aF (ne q)];exact q) λc xs q=>by rw[aF (ne q)];exact q
def Vh(zs:List Zn):ak->Int
 | .ref a=>((zs.find? λz=>z.2 == a).map λz=>EK (zs.map (·.1)) z.1).getD 0
 |_=>0
section
variable{zs:List Zn}
theorem qV(hz:∀z∈zs,∀z'∈zs,z.2=z'.2->z.1=z'.1){z:Zn}(h:z∈zs):Vh zs (.ref z.2)=EK (zs.map (·.1)) z.1:=by
 show((zs.find? λy=>y.2 == z.2).map _).getD 0=_
 cases q:zs.find? (λy=>y.2 == z.2)with
 |none=>exact absurd (SD.mp q z h) (by simp)
 |some y=>
  have e:=XU q
  show EK _ y.1=_
  rw[hz y (J1 q) z h (by simpa using e)]
theorem QO{xs:List V}{ks:List Int}(f:Flat m xs ks):∀{ls:List Int},Flat m xs ls->ks=ls:=by
 induction f with
 |nil=>intro ls g;cases g;rfl
 |int i _ ih=>intro ls g;cases g with|int _ g=>rw[ih g]
 |bl b _ ih=>intro ls g;cases g with|bl _ g=>rw[ih g]
theorem yJ{r:ai}{Q:VK}(I:Inv X pins Z H s)(hz:∀z∈zs,FP m H z)(hl:zs.length<128)(hcol:∀(Q':List ak->aA->Prop),(∀h' tk,(∀b o,s.heap.get? b=some o->h'.get? b=some o)->Q' (zs.map λz=>aD z.2) { s with heap:=h',toks:=tk })->aO (aR X.prog X.w) X.A.in1 (Hk (.ref r)) Q' X.xe s)(q:∀(l:ai) (zs':List Zn),H l=none->zs'.Perm zs->zs'.Pairwise (λz w=>fo w.1 z.1=false)->Q (.ref l) (upd H l (.lst (zs'.map mG)))):aO (aR X.prog X.w) X.A (call (.builtin "sorted") [.ref r]) (EP X pins Z Q) X.xe s:=by
 have tup:∀z∈zs,∃xs us,Flat (false::m) xs z.1/\Vals xs us/\xv s.heap z.2 us.toArray:=λz hz'=>by obtain⟨xs,h1,h2⟩:=hz z hz';obtain⟨ts,r,it,_⟩:=I.tuple (.of h1);exact⟨xs,ts,h2,r,it⟩
 have one:∀z∈zs,∀z'∈zs,z.2=z'.2->z.1=z'.1:=λz h z' h' e=>by obtain⟨xs,e1,f1⟩:=hz z h;obtain⟨ys,e2,f2⟩:=hz z' h';rw[e,e2]at e1;cases e1;exact QO f1 f2
 refine Sy.sorted_vals (κ:=UL true) (r:=Vh zs) (by rw[af];exact hl) hcol (λh2 h' tk keep=>?_) λD c h' tk out keep gD g hp hs=>?_
 .rw [af]at h2
  have tup':∀z∈zs,∃xs us,Flat (false::m) xs z.1/\Vals xs us/\xv h' z.2 us.toArray:=λz hz'=>by obtain⟨xs,us,f,r,o,e,rest⟩:=tup z hz';exact⟨xs,us,f,r,o,keep _ _ e,rest⟩
  obtain⟨fs,k1,k2,k3⟩:=MP (zs:=zs) (h:=h') λz hz'=>by
   obtain⟨xs,us,f,r,it⟩:=tup' z hz';generalize z.1=kz at f
   cases f with
   |int i f=>
    cases r with
    |cons r1 r=>obtain⟨t,rfl⟩:=r1;exact⟨i,t,_,it⟩
  refine⟨λQ hQ=>kat_kind (T:=.type "int") k1 (by lia) (λv hv=>by obtain⟨i,t,rfl⟩:=k3 v hv;exact Looks.now) rfl (by rw[show(dD "int" != dD "tuple")=true by decide];exact hQ),λx hx y hy Q hQ=>?_⟩;obtain⟨z,hz',rfl⟩:=aI.mp hx;obtain⟨z',hz2,rfl⟩:=aI.mp hy;obtain⟨xs,us,f1,r1,i1⟩:=tup' z hz';obtain⟨ys,ws,f2,r2,i2⟩:=tup' z' hz2;refine TV (s:={ s with heap:=h',toks:=tk }) f1 f2 r1 r2 i1 i2 ?_;rw[qV one hz',qV one hz2,vR (aN hz')]at hQ;exact hQ
 .obtain ⟨zs',p',rfl⟩:=Sy.perm_map hp.symm zs rfl;obtain⟨hn,I2⟩:=I.R5 (t':=tk) (o:=.lst (zs'.map mG)) keep gD ⟨by rw[af,p'.length_eq];exact di (m:=128) (by lia),_,c,uQ zs',g⟩;refine⟨.ref D,_,I2,rfl,q D zs' hn p' ((bY.mp hs).imp_of_mem λ{z w} hz1 hw z2=>?_)⟩;have a1:=p'.mem_iff.mp hz1;have a2:=p'.mem_iff.mp hw
  cases e:fo w.1 z.1 with
  |false=>rfl
  |true=>
   rw[← vR (ts:=zs.map (·.1)) (aN a2),decide_eq_true_iff]at e;rw[qV one a1,qV one a2]at z2;lia
def kO(K:aa):List V->Hp->VK->Prop:=λxs H Q=>∃(p:ai) (zs:List Zn) (m:List Bool),xs=[.ref p]/\c6 K H p (zs.map mG)/\(∀z∈zs,FP m H z)/\zs.length<128 /\∀(l:ai) (zs':List Zn),H l=none->zs'.Perm zs->zs'.Pairwise (λz w=>fo w.1 z.1=false)->Q (.ref l) (upd H l (.lst (zs'.map mG)))
theorem vS:mO X (.builtin "sorted") (kO X.K):=by intro pins s Z H xs us Q I r h;obtain⟨p,zs,mk,rfl,hq,hz,hl,q⟩:=h;obtain⟨u,rfl,ru⟩:=vals1 r;cases ru;obtain⟨its,rv,pl,hsz⟩:=I.list hq;have ei:=A4 rv;subst ei;refine yJ I hz hl (λQ' k=>UQ pl.isList (k _ s.toks λb o e=>?_) (by rw[af];exact di (m:=128) (by lia))) q;have hlt:=aJ e;exact(bh _ _ (dG hlt)).trans (ao _ e)
def nF:List V->Hp->VK->Prop:=λxs H Q=>∃(p:ai) (kvs:List (List dJ×V)),xs=[.ref p]/\H p=some (.dT kvs)/\(∀q∈kvs,∃x y:Int,q.1=[a9 x,a9 y])/\kvs.length<128 /\∀(l:ai) (zs:List Zn),H l=none->(∀z∈zs,FP [false] H z)->(zs.map (·.1)).Perm (kvs.map λp=>p.1.map λk=>k.elim id λ_=>0)->zs.Pairwise (λz w=>fo w.1 z.1=false)->Q (.ref l) (upd H l (.lst (zs.map mG)))
theorem FR(hc:X.calm=true):mO X (.builtin "sorted") nF:=by
 intro pins s Z H xs us Q I r h;obtain⟨p,kvs,rfl,hp,hk,hl,q⟩:=h;obtain⟨u,rfl,ru⟩:=vals1 r;cases ru
 obtain⟨hz,lo,ys,rel,o,es,ep,e1,e2,e3,e4,e5⟩:=(show fv X.prog X.w H s.heap p (.dT kvs)from I.fw p _ hp)
 obtain⟨ws,k1,k2,k3⟩:=MK rel hk
 have hlen:ws.length=kvs.length:=by have:=congrArg cK k3;simpa using this.symm
 have raw:yt s.heap p ((ws.map λz=>(([z.1,z.2.1],z.2.2):Zn)).map λz=>aD z.2) ep:=⟨o,es,e1,e2,e3,by rw[e4,a7];rw[show(λq:List dJ×ai×ak=>aD q.2.1)=(λq=>aD q.2.1)from rfl]at k1;exact k1▸(by rw[a7];rfl)⟩
 have hz2:∀z∈ws.map (λz=>(([z.1,z.2.1],z.2.2):Zn)),FP [false] H z:=λz hz'=>by obtain⟨y,hy,rfl⟩:=aI.mp hz';exact⟨_,k2 y hy,.int _ (.int _ .nil)⟩
 refine yJ I hz2 (by rw[af];lia) (λQ' k=>Ij (TL lo) (I.ok.hd hc) raw (by rw[af,af];exact di (m:=128) (by lia)) λh' tk acc keep ha=>?_) (λl zs' hn hpm hs=>q l zs' hn (λz hz'=>hz2 z (hpm.mem_iff.mp hz')) ?_ hs)
 .rw [Ik ha];exact k h' tk keep
 .refine (hpm.map (·.1)).trans (List.Perm.of_eq ?_);have:=congrArg (Ys λk:List dJ=>k.map λk=>k.elim id λ_=>(0:Int)) k3;rw[a7,a7]at this;rw[a7];exact(this.trans (fH λz _=>rfl)).symm
end
def Vi(K:aa):List V->Hp->VK->Prop:=λxs H Q=>∃(p:ai) (ns:List Int),xs=[.ref p]/\c6 K H p (ns.map V.int)/\0<ns.length/\∀M,M∈ns->(∀a∈ns,a<=M)->Q (.int M) H
theorem EM(hc:X.calm=true):mO X (.builtin "max") (Vi X.K):=by
 intro pins s Z H xs us Q I r h;obtain⟨p,ns,rfl,hq,hf,q⟩:=h;obtain⟨u,rfl,ru⟩:=vals1 r;cases ru;obtain⟨its,rv,pl,hz⟩:=I.list hq;have hi:eX its ns:=intsAre_of rv;obtain⟨ys,e⟩:=hi.allInts.items;have hn:=hi.numsOf
 have e':its=(X3 ys).toList:=by rw[← e]
 rw[e',nums_intItems]at hn
 have hl:s.heap.IsList p (X3 ys):=by rw[← e];exact pl.isList
 subst hn;rw[af,aS]at hf;refine max_intList (I.ok.hd hc) hl hf λv h' tk hv hk=>?_;obtain⟨t,rfl⟩:=intItems_at hv;obtain⟨h1,h2⟩:=argBest_gt (numAt ys) (ys.size-1);refine⟨.int _,H,I.kept hk,⟨t,rfl⟩,q _ ?_ λa ha=>?_⟩
 .rw [numAt_eq];exact getD_mem (by rw[af,aS];lia)
 .obtain ⟨j,hj,rfl⟩:=mem_getD ha;rw[af,aS]at hj;rw[← numAt_eq];exact h2 j (by lia)
end L2
namespace L2
open PySem.Calls PySem.W
variable{prog:bI}{w:cC}{A:cT}{E:ak->aA->Prop}{s:aA}
def Xo(a:ai)(h h':cR):Prop:=∀b o,b≠a->h.get? b=some o->h'.get? b=some o
section
variable{a:ai}{f:ak}{zs:List Zn}{KO:Zn->jv->Prop}
theorem QP{n:Nat}{P:Kd->aA->Prop}(ho:s.heap.get? a=some (cz "list" (zs.map λz:Zn=>aD z.2).toArray n))(hl:zs.length<128)(one:∀z∈zs,∀z'∈zs,z.2=z'.2->z.1=z'.1)(turn:∀z∈zs,∀(h:cR) (tk:Nat),Xo a s.heap h->∀R:ak->aA->Prop,(∀h' tk' k o,(∀b o,h.get? b=some o->h'.get? b=some o)->h.get? k=none->h'.get? k=some o->KO z o->R (.ref k) { s with heap:=h',toks:=tk' }) ->aO (aR prog w) A (call f [.ref z.2]) R (λ_ _=>False) { s with heap:=h,toks:=tk })(hkind:∀z o,KO z o->o.cls=.type "tuple"/\∃i t xs n,o.data=.seq xs n/\xs[0]?=some (.int i t))(hlt:∀z∈zs,∀z'∈zs,∀k k' o o' (h:cR) (tk:Nat),Xo a s.heap h->h.get? k=some o->h.get? k'=some o'->KO z o->KO z' o'->∀Q:Bool->aA->Prop,Q (fo z.1 z'.1) { s with heap:=h,toks:=tk }->aO (aR prog w) A (keyLt' (UL true) (.ref k) (.ref k')) Q (λ_ _=>False) { s with heap:=h,toks:=tk })(fin:∀h' tk c (zs':List Zn),Xo a s.heap h'->h'.get? a=some (cz "list" (zs'.map λz:Zn=>aD z.2).toArray c)->zs'.Perm zs->zs'.Pairwise (λz w=>fo w.1 z.1=false)->P (.done (.ret .none)) { s with heap:=h',toks:=tk }):aO (aR prog w) A (ksk_tree a f false) P E s:=by
 have hz:(zs.map λz:Zn=>aD z.2).length<=aY:=di (m:=128) (by rw[af];lia);have sl:1000<=aY:=di (m:=1000) (ay _)
 obtain⟨c1,g1⟩:∃c,(s.heap.update a (bz λ_=>(#[]:Array ak))).get? a=some (cz "list" #[] c):=⟨_,lZ ho λ_=>#[]⟩
 unfold ksk_tree;refine ae (xq ho rfl (ae (jW ho rfl (ae (Ki g1 rfl (ae (z8 (ae (tM (cJ ?_) (aK _))) hz)))) (by rw[aQ];exact hz) (aK _))));have k2:∀b o,(s.heap.update a (bz λ_=>(#[]:Array ak))).get? b=some o->(((s.heap.update a (bz λ_=>(#[]:Array ak))).push (cz "tuple" (zs.map λz:Zn=>aD z.2).toArray 0)).push (cz "list" #[] 0)).get? b=some o:=λb o e=>ao _ (ao _ e);have gk:(((s.heap.update a (bz λ_=>(#[]:Array ak))).push (cz "tuple" (zs.map λz:Zn=>aD z.2).toArray 0)).push (cz "list" #[] 0)).get? ((s.heap.update a (bz λ_=>(#[]:Array ak))).push (cz "tuple" (zs.map λz:Zn=>aD z.2).toArray 0)).objs.size=some (cz "list" #[] 0):=aM _ rfl;have kfr:∀b o,(s.heap.update a (bz λ_=>(#[]:Array ak))).get? b=some o->b≠((s.heap.update a (bz λ_=>(#[]:Array ak))).push (cz "tuple" (zs.map λz:Zn=>aD z.2).toArray 0)).objs.size:=λb o e=>bg (aJ (ao (cz "tuple" (zs.map λz:Zn=>aD z.2).toArray 0) e));have up:∀b o,b≠a->s.heap.get? b=some o->(s.heap.update a (bz λ_=>(#[]:Array ak))).get? b=some o:=λb o hb e=>(bh _ _ (Ne.symm hb)).trans e
 show aO (aR prog w) A (ksk_rest a f false (zs.map λz:Zn=>aD z.2).toArray _ (.ref ((s.heap.update a (bz λ_=>(#[]:Array ak))).push (cz "tuple" (zs.map λz:Zn=>aD z.2).toArray 0)).objs.size)) _ _ { s with heap:=((s.heap.update a (bz λ_=>(#[]:Array ak))).push (cz "tuple" (zs.map λz:Zn=>aD z.2).toArray 0)).push (cz "list" #[] 0) }
 generalize ((s.heap.update a (bz λ_=>(#[]:Array ak))).push (cz "tuple" (zs.map λz:Zn=>aD z.2).toArray 0)).objs.size=kS at gk kfr;generalize ((s.heap.update a (bz λ_=>(#[]:Array ak))).push (cz "tuple" (zs.map λz:Zn=>aD z.2).toArray 0)).push (cz "list" #[] 0)=h2 at k2 gk;have hak:a≠kS:=kfr a _ g1;have g2:=k2 _ _ g1;have kp2:Xo a s.heap h2:=λb o hb e=>k2 _ _ (up b o hb e);have nk:∀b o,b≠a->s.heap.get? b=some o->b≠kS:=λb o hb e=>kfr b o (up b o hb e);generalize s.heap.update a (bz λ_=>(#[]:Array ak))=hx at k2 kfr up g1;unfold ksk_rest;refine ae (ib ?_);rw[List.forIn_toArray]
 -- the keys
 have Kr:∀(r done:List Zn) (ks:List ai) (e:Nat) (h:cR) (tk:Nat) (R:aA->Prop),done++r=zs->Xo a s.heap h->h.get? a=some (cz "list" #[] c1)->h.get? kS=some (cz "list" (ks.map aD).toArray e)->Paired (λ(z:Zn) (k:ai)=>∃o,h.get? k=some o/\KO z o/\k≠kS/\k≠a) done ks ->(∀ks' e' h' tk',Xo a s.heap h'->h'.get? a=some (cz "list" #[] c1)->h'.get? kS=some (cz "list" (ks'.map aD).toArray e')->Paired (λ(z:Zn) (k:ai)=>∃o,h'.get? k=some o/\KO z o/\k≠kS/\k≠a) zs ks'->R { s with heap:=h',toks:=tk' }) ->aO (aR prog w) A (forIn (r.map λz:Zn=>aD z.2) PUnit.unit λx _=>do
   match ← (call f [x]).attempt with
   | .ok k=>gf (.ref kS) (·.push k);pure (jf PUnit.unit)
   | .error e=>
    CO "list.sort.key-raised"
    let made ← oX (.ref kS)
    gf (.ref kS) λ_=>#[]
    letGo made.toList.reverse [e]
    gf (.ref a) λ_=>(zs.map λz:Zn=>aD z.2).toArray;throw e) (λ_ s'=>R s') E { s with heap:=h,toks:=tk }:=by
  intro r
  induction r with
  |nil=>
   intro done ks e h tk R hr kp ga gS rel q;rw[gY]at hr;subst hr;rw[sM,Hv]
   exact ar (q ks e h tk kp ga gS rel)
  |cons z r ih=>
   intro done ks e h tk R hr kp ga gS rel q;rw[aZ,tI]
   have hlen:ks.length<128:=by have:=congrArg cK hr;rw[bj,bR,← uR rel]at this;lia
   refine ae (ae (iC (dQ (turn z (by rw[← hr];simp) h tk kp _ λh' tk' k o keep kn hk ko=>?_) (λ_ _ x=>x) λ_ _ x=>x.elim)))
   have kkS:k≠kS:=λq=>by rw[q,gS]at kn;cases kn
   have kka:k≠a:=λq=>by rw[q,ga]at kn;cases kn
   have gS':=keep _ _ gS
   have ea:(ks.map aD).toArray.push (.ref k)=((ks++[k]).map aD).toArray:=by simp
   obtain⟨c2,g3⟩:∃c2,(h'.update kS (bz (·.push (.ref k)))).get? kS=some (cz "list" ((ks++[k]).map aD).toArray c2):=⟨_,by rw[← ea];exact lZ gS' (·.push (.ref k))⟩
   have ot:∀{b:ai}{o:jv},b≠kS->h'.get? b=some o->(h'.update kS (bz (·.push (.ref k)))).get? b=some o:=λhb e=>(bh _ _ (Ne.symm hb)).trans e;refine ae (jW gS' rfl (ar ?_) (by rw[aQ,af];lia) (by rw[iG,aQ,af];lia));refine ih (done++[z]) (ks++[k]) c2 _ tk' R (by rw[← hr];simp) (λb o hb e=>ot (nk b o hb e) (keep _ _ (kp b o hb e))) (ot hak (keep _ _ ga)) g3 ?_ q;refine yI ⟨o,ot kkS hk,ko,kkS,kka⟩ (Paired.OA rel λz' k' ⟨o',e1,e2,e3,e4⟩=>⟨o',ot e3 (keep _ _ e1),e2,e3,e4⟩)
 refine ae (Kr zs [] [] 0 h2 s.toks _ rfl kp2 g2 gk .nil λks e h tk kp ga gS rel=>?_);refine ae (xq gS rfl ?_);have hkl:=uR rel
 -- the end
 have tail:∀st:dM,i4 st=none->∀zs':List Zn,(m7 st).map (·.2)=(zs'.map λz:Zn=>aD z.2).toArray->zs'.Perm zs->zs'.Pairwise (λz w=>fo w.1 z.1=false)->aO (aR prog w) A (ksk_tail a false c1 (.ref kS) st) P E { s with heap:=h,toks:=tk }:=λst hf zs' eo hp hs=>by
  obtain⟨c3,g3⟩:∃c3,(h.update kS (bz λ_=>(#[]:Array ak))).get? kS=some (cz "list" #[] c3):=⟨_,lZ gS λ_=>#[]⟩
  have ga':(h.update kS (bz λ_=>(#[]:Array ak))).get? a=some (cz "list" #[] c1):=(bh _ _ (Ne.symm hak)).trans ga
  obtain⟨c4,g4⟩:∃c4,((h.update kS (bz λ_=>(#[]:Array ak))).update a (bz λ_=>(zs'.map λz:Zn=>aD z.2).toArray)).get? a=some (cz "list" (zs'.map λz:Zn=>aD z.2).toArray c4):=⟨_,lZ ga' λ_=>(zs'.map λz:Zn=>aD z.2).toArray⟩
  unfold ksk_tail
  try dsimp only
  rw[eo];simp only[bN,if_false];refine ae (jW gS rfl (ae (Kg (ae (Ki ga' rfl (ae (jW ga' rfl ?_ (aK _) (by rw[aQ,af,hp.length_eq];lia))))))) (by rw[aQ,af];lia) (aK _));rw[hf];simp only[bne_self_eq_false,bN,if_false];exact ar (fin _ tk c4 zs' (λb o hb e=>(bh _ _ (Ne.symm hb)).trans ((bh _ _ (Ne.symm (nk b o hb e))).trans (kp b o hb e))) g4 hp hs)
 have zip2:((ks.map aD).toArray.zip (zs.map λz:Zn=>aD z.2).toArray).map (·.2)=(zs.map λz:Zn=>aD z.2).toArray:=by
  apply j8.mp
  simp;exact V4 (by simp[hkl])
 unfold ksk_end;simp only[bN,if_false]
 by_cases h2':zs.length<2
 .rw [if_pos (by rw[aQ,af];exact h2'),if_pos (by rw[aQ,af];exact h2')];refine ae (ar ?_);rw[UN];refine ae (ar (tail _ rfl zs zip2 (.refl _) ?_))
  match zs,h2' with
  | [],_=>exact .nil
  | [z],_=>exact qK _ _
  |z::w::r,h2=>simp at h2;lia
 .rw [if_neg (by rw[aQ,af];exact h2'),if_neg (by rw[aQ,af];exact h2')]
  have kt:∀{zs:List Zn}{ks:List ai},Paired (λ(z:Zn) (k:ai)=>∃o,h.get? k=some o/\KO z o/\k≠kS/\k≠a) zs ks->∃fs,KatTups h (ks.map aD) fs/\fs.length=zs.length/\∀v∈fs,∃i t,v=gO i t:=by
   intro zs ks rel
   induction rel with
   |nil=>exact⟨[],.nil,rfl,λ_ h=>nomatch h⟩
   |cons r _ ih=>
    obtain⟨fs,f1,f2,f3⟩:=ih;obtain⟨o,e1,e2,_⟩:=r;obtain⟨cc,i,t,xs,n,d,d0⟩:=hkind _ o e2;refine⟨.int i t::fs,X2 e1 cc d d0 f1,by simp[f2],λv hv=>?_⟩
    rcases aw.mp hv with rfl|hv
    .exact ⟨_,t,rfl⟩
    .exact f3 v hv
  obtain⟨fs,f1,f2,f3⟩:=kt rel;refine ae (kat_kind (T:=.type "int") f1 (by lia) (λv hv=>by obtain⟨i,t,rfl⟩:=f3 v hv;exact Looks.now) rfl ?_);rw[show(dD "int" != dD "tuple")=true by decide]
  have mz:∀x∈((ks.map aD).toArray.zip (zs.map λz:Zn=>aD z.2).toArray).toList,∃z∈zs,∃k o,x=(aD k,aD z.2)/\h.get? k=some o/\KO z o:=λx hx=>by rw[CQ]at hx;obtain⟨i,hi⟩:=bE.mp hx;obtain⟨x1,x2⟩:=x;rw[pY]at hi;obtain⟨q1,q2⟩:=hi;simp only[aG]at q1 q2;obtain⟨z,z1,z2⟩:=dz.mp q2;obtain⟨k,k1,k2⟩:=dz.mp q1;obtain⟨k',k3,o,e1,e2,_⟩:=KI rel i z z1;rw[k1]at k3;cases k3;exact⟨z,aP z1,k,o,by rw[← k2,← z2],e1,e2⟩
  refine ae (dQ (Sy.w_runs (prog:=prog) (w:=w) (A:=A) (E:=E) (s:={ s with heap:=h,toks:=tk }) (a₀:=(ks.map aD).toArray.zip (zs.map λz:Zn=>aD z.2).toArray) (D:=λx=>∃z∈zs,∃k o,x=(aD k,aD z.2)/\h.get? k=some o/\KO z o) (r:=λx=>Vh zs x.2) (κ:=UL true)
   (Q:=λ_ st'=>∃ys,m7 st'=ys/\i4 st'=none/\ys.Perm ((ks.map aD).toArray.zip (zs.map λz:Zn=>aD z.2).toArray)/\Sy.St (λx=>Vh zs x.2) ys 0 ys.size) ?_ mz (by simp[hkl];lia) (by simp[hkl];lia) λys st' a1 a2 a3 a4=>⟨ys,a1,a2,a3,a4⟩) ?_ λ_ _ x=>x)
  .rintro x y ⟨z,hz1,k,o,rfl,e1,e2⟩ ⟨z',hz2,k',o',rfl,e3,e4⟩ Q hQ;refine hlt z hz1 z' hz2 k k' o o' h tk kp e1 e3 e2 e4 Q ?_;have hQ:Q (decide (Vh zs (.ref z.2)<Vh zs (.ref z'.2))) _:=hQ;rw[qV one hz1,qV one hz2,vR (aN hz1)]at hQ;exact hQ
  .rintro ⟨⟨⟩,st'⟩ s' ⟨rfl,ys,e,hf,hp,hs⟩;have hp':=(fF.mp hp).map (·.2);rw[← mH,← mH,zip2]at hp';obtain⟨zs',p',e'⟩:=Sy.perm_map hp'.symm zs rfl;rw[mH]at e';refine tail st' hf zs' (by rw[e];apply j8.mp;simpa using e') p' ?_;have hs':=(bY (f:=λx:aW=>x.2) (R:=λx y=>Vh zs x<=Vh zs y)).mpr (Sy.pw_of hs);rw[show Ys (λx:aW=>x.2) ys.toList=zs'.map λz=>aD z.2 from e']at hs';refine(bY.mp hs').imp_of_mem λ{z w} hz1 hw z2=>?_;have a1:=p'.mem_iff.mp hz1;have a2:=p'.mem_iff.mp hw
   cases e:fo w.1 z.1 with
   |false=>rfl
   |true=>
    rw[← vR (ts:=zs.map (·.1)) (aN a2),decide_eq_true_iff]at e;rw[qV one a1,qV one a2]at z2;lia
end
def KN(Pt:ai)(pos:xu)(qual:bF)(j:Nat)(tx:TA):TE:=λZ H Q=>tx Z H λv H1 =>∃(p d:ai) (zs:List Zn) (OW:List (List dJ×V)),v=[.ref p]/\H1 p=some (.lst (zs.map mG))/\Z[j]?=some (some (.ref d))/\H1 d=some (.dT OW)/\(∀z∈zs,∃w x y:Int,z.1=[w,x,y]/\H1 z.2=some (.tup [.int x,.int y])/\eD OW [a9 x,a9 y]=some (.int w))/\zs.length<128/\L0 Pt pos qual H1 /\∀(l:ai) (zs':List Zn) (H2:Hp),H2 l=none->Ib Pt H1 H2->L0 Pt pos qual H2->zs'.Perm zs->zs'.Pairwise (λz w=>fo w.1 z.1=false)->Q (.ref l) (upd H2 l (.lst (zs'.map mG)))
theorem FT{l:ai}{vs:List ak}{Q:List ak->aA->Prop}(hl:s.heap.IsList l vs.toArray)(hn:vs.length<=aY)(q:∀h' tk,(∀b o,s.heap.get? b=some o->h'.get? b=some o)->Q vs { s with heap:=h',toks:=tk }):aO (aR prog w) A (Hk (.ref l)) Q E s:=by refine UQ hl (q _ _ λb o e=>?_) (by simpa using hn);have hlt:b<s.heap.objs.size:=aJ e;rw[Heap.get?_update_ne _ _ _ _ (bg hlt),Heap.get?_push_ne _ _ _ (bg hlt)];exact e
section
variable{X:Cx}{c Pt:ai}{e:Expr}{tx:TA}{x y:bF}{j:Nat}{params:qB}{scope:qH}{p0 p1 p2 p3 p4 p5 lpos kpos pos:xu}{x1:Nat}
theorem QQ(hcalm:X.calm=true)(hcode:X.env.code=.ref c)(C0:mX X.base c Pt)(B:X.base.BuiltinsAt X.mg Pt)(hroom:X.A.depth<z4)(hun:X.A.units+128<iQ)(hgl:Gl X "sorted")(hm:X.mg "sorted"=none)(hx:PA X [e] tx)(hN:X.N[j]?=some y)(hky:X.env.kindOf y=some .cell)(hs:iA pos (bL [e] X.env)=(false,fz e X.env)::iA pos (bL [] X.env):=by rfl)(hpl:(iA pos (bL [e] X.env)).any (·.1)=false:=by rfl)(hdef:defaultsOf params X.env=([],[]):=by rfl)(hbind:∀clos pm oF ctv v,Hc (kla_fn "<lambda>" (X.env.qual++"<lambda>") params (.Tuple [.Subscript (.Name y p1) (.Name x p2) p3,.Name x p4] x1 p5) scope clos pm oF ctv) ⟨[v],[]⟩=pure [(x,v)]:=by intros;rfl)(hsx:scope.names.lookup x=some .local:=by rfl)(hsy:scope.names.lookup y=some .free:=by rfl)(hk:scope.kind=.function:=by rfl)(hco:scope.isCoroutine=false:=by rfl)(hgen:scope.isGenerator=false:=by rfl)(hcell:∀z∈scope.names,z.2≠.cell:=by decide +kernel)(hfr:(scope.names.all λy=>y.2 != .free || X.env.kindOf y.1 == some .cell || X.env.kindOf y.1 == some .free)=true:=by rfl)(hdx:(x == ("__debug__":bF))=false:=by decide)(hdy:(y == ("__debug__":bF))=false:=by decide)(hdc:(y == ("__classdict__":bF))=false:=by decide):PE X (.Call (.Name "sorted" p0) [e] [⟨some "key",.Lambda params (.Tuple [.Subscript (.Name y p1) (.Name x p2) p3,.Name x p4] x1 p5) scope lpos,kpos⟩] pos) (KN Pt lpos (X.env.qual++"<lambda>") j tx):=by
 intro pins s Z H Q I h;refine eE (nj I hgl hm (u:=.builtin "sorted") BootT.sorted ?_);refine callWith_kw ?_ hs hpl;refine hZ (hx pos pins s Z H _ I h) λus s1 ⟨vs,H1,I1,rv,q⟩=>?_;obtain⟨p,d,zs,OW,rfl,hp,hj,hd,hkv,h64,hT,k⟩:=q;obtain⟨u,rfl,ru⟩:=vals1 rv;cases ru
 show aO _ X.A (evalAll [do let v ← fz _ X.env;xm pos;pure v]) _ _ s1
 refine wpAny_evalAll_cons (ae (Qc I1 hcode C0 B hdef (vJ I1 hfr) hT λf c' ctv h' tk H2 I2 hf hrec S2 T2 hk2=>ae (tD (ar (wpAny_evalAll_nil ?_)))));obtain⟨ps,hPt⟩:=hT.tbl;have hp2:=S2 p _ (λz=>by rw[z,hPt]at hp;cases hp) hp;have hd2:=S2 d _ (λz=>by rw[z,hPt]at hd;cases hd) hd
 have k2:∀z∈zs,∃w x y:Int,z.1=[w,x,y]/\H2 z.2=some (.tup [.int x,.int y])/\eD OW [a9 x,a9 y]=some (.int w):=λz hz=>by obtain⟨w,x,y,e1,e2,e3⟩:=hkv z hz;exact⟨w,x,y,e1,S2 _ _ (λz=>by rw[z,hPt]at e2;cases e2) e2,e3⟩
 obtain⟨its,n1,rp,op,zp⟩:=I2.lst hp2;have hits:=A4 rp;subst hits;have hh:X.A.handled=none:=I2.ok.hd hcalm;obtain⟨my,hny,hlk⟩:=I2.loc;obtain⟨uy,ruy,lky⟩:=hlk j y (.ref d) hN hj (.inr (.inl hky));cases ruy
 obtain⟨cl,hcl,hcv⟩:∃cl,X.env.cells.lookup y=some cl/\h'.IsCell cl (some (.ref d)):=by
  rcases lky with⟨z,_⟩|⟨_,cl,h1,h2⟩
  .rw [hky]at z;cases z
  .exact ⟨cl,h1,h2⟩
 have hclo:(nX X.env.cells scope.names []).lookup y=some cl:=by obtain⟨d,hd⟩:=vF (cells:=X.env.cells) (x:=y) scope.names [] (.inl (mem_of_lookup hsy));have hd':=(ku _ _ (vJ I1 hfr) hd).resolve_right (by simp);rw[hcl]at hd';rw[hd,← hd']
 have un2:X.A.in1.in1.units+3+64<iQ:=by show X.A.units+1+1+3+64<_;lia
 have one:∀z∈zs,∀z'∈zs,z.2=z'.2->z.1=z'.1:=λz hz z' hz' e=>by obtain⟨w1,x1,y1,e1,e2,e3⟩:=k2 z hz;obtain⟨w2,x2,y2,f1,f2,f3⟩:=k2 z' hz';rw[e,f2]at e2;cases e2;rw[e3]at f3;cases f3;rw[e1,f1]
 have turn:∀z∈zs,∀(h:cR) (tk':Nat),(∀b o,h'.get? b=some o->h.get? b=some o)->∀R:ak->aA->Prop,(∀h3 tk3 k o,(∀b o,h.get? b=some o->h3.get? b=some o)->h.get? k=none->h3.get? k=some o->(∃t,o=Iv z t)->R (.ref k) { s1 with heap:=h3,toks:=tk3 })->aO (aR X.prog X.w) X.A.in1.in1 (call (.ref f) [.ref z.2]) R (λ_ _=>False) { s1 with heap:=h,toks:=tk' }:=by
  intro z hz h tk' kk R hR;obtain⟨ww,xx,yy,ez,hzt,hzw⟩:=k2 z hz;have J:Inv X pins Z H2 { s1 with heap:=h,toks:=tk' }:=I2.kept kk;refine N6 (s:={ s1 with heap:=h,toks:=tk' }) (by exact hroom) (kk f _ hf) ?_ (I2.mod.nolimit.keeps λb o e=>kk b o (I2.bk b o e)) (hbind _ _ _ _ _) hsx hk hco hgen hcell λenv h3 tk3 E' q1 q2 q3 hns hk3=>?_
  .obtain ⟨c2,o2,vs2,t2',e2,h2,d2⟩:=hrec;cases e2;exact⟨c',o2,vs2,t2',rfl,kk _ _ h2,d2⟩
  .refine Qz (s:={ s1 with heap:=h,toks:=tk' }) (H:=H2) (d:=d) (cl:=cl) (k:=[a9 xx,a9 yy]) (J.fw.kept hk3) (by rw[q1];exact hk) (by rw[q1];exact hsx) (by rw[q1];exact hsy) hns (by rw[q2];exact hclo) ?_ hd2 hzt hzw un2 (λt tk4=>?_) hdx hdy hdc
   .obtain ⟨o,e,d⟩:=hcv;exact⟨o,hk3 _ _ (kk _ _ e),d⟩
   .refine hR _ tk4 _ _ (λb o e=>ao _ (hk3 b o e)) ?_ (aM _ rfl) ⟨t,by unfold Iv;rw[ez];rfl⟩
    cases q:h.get? h3.objs.size with
    |none=>rfl
    |some o=>exact absurd (aJ (hk3 _ _ q)) (e9 _)
 have hzl:(zs.map λz=>aD z.2).length<=aY:=di (m:=128) (by rw[af];lia);refine call_function_entry_kw X8 UO UP (ksk_s1 _ _) ?_;unfold jt.«sorted»;refine ae (m:=checkCount "sorted" 1 1 _) (ar (ae (FT (s:={ s1 with heap:=h',toks:=tk }) ⟨_,op,rfl,n1,rfl⟩ hzl λh3 tk3 keep3=>?_)));refine ae (tM ?_ hzl);have g4:(h3.push (cz "list" (zs.map λz=>aD z.2).toArray 0)).get? h3.objs.size=some (cz "list" (zs.map λz=>aD z.2).toArray 0):=aM _ rfl;have hb:∀b o,h'.get? b=some o->b≠h3.objs.size:=λb o e=>bg (aJ (keep3 b o e));have k4:∀{h:cR},Xo h3.objs.size (h3.push (cz "list" (zs.map λz=>aD z.2).toArray 0)) h->∀b o,h'.get? b=some o->h.get? b=some o:=λk b o e=>k b o (hb b o e) (ao _ (keep3 b o e))
 have gD:h'.get? h3.objs.size=none:=by
  cases q:h'.get? h3.objs.size with
  |none=>rfl
  |some o=>exact absurd rfl (hb _ o q)
 show aO (aR X.prog X.w) X.A.in1 (do let _ ← kZ [aD h3.objs.size] (call (.builtin "list.sort") [aD h3.objs.size] _);ret (aD h3.objs.size)) _ _ { s1 with heap:=h3.push (cz "list" (zs.map λz=>aD z.2).toArray 0),toks:=tk3 }
 refine ae (cJ (wpAny_call_entry_kw OP ⟨_,g4,rfl⟩ Mp ?_ (ksk_l1 _ _)))
 show aO (aR X.prog X.w) X.A.in1.in1 (jt.«list.sort» ⟨[.ref h3.objs.size],[(iP "key",.ref f)]⟩) _ _ _
 rw[ksk_t1]
 refine QP (s:={ s1 with heap:=h3.push (cz "list" (zs.map λz=>aD z.2).toArray 0),toks:=tk3 }) (KO:=λz o=>∃t,o=Iv z t) g4 h64 one (λz hz h tk' kp R hR=>turn z hz h tk' (k4 kp) R hR) ?_ ?_ λh7 tk7 c7 zs' kp g7 hperm hsort=>⟨_,rfl,ar ⟨_,rfl,?_⟩⟩
 .rintro z o ⟨t,rfl⟩;exact⟨rfl,_,t,_,0,rfl,rfl⟩
 .rintro z hz z' hz' k k' o o' h tk' kp g g' ⟨t,rfl⟩ ⟨t',rfl⟩ Q' hQ
  have tie:∀z∈zs,∃v x y t u,z.1=[v,x,y]/\xv h z.2 #[.int x t,.int y u]:=λz hz=>by
   obtain⟨ww,xx,yy,ez,hzt,hzw⟩:=k2 z hz;obtain⟨ts,r,it,_⟩:=I2.tuple (.of hzt)
   cases r with
   |cons h1 r=>
    cases r with
    |cons h2 r=>
     cases r;obtain⟨t,rfl⟩:=h1;obtain⟨u,rfl⟩:=h2;obtain⟨o,e,rest⟩:=it;exact⟨ww,xx,yy,t,u,ez,o,k4 kp _ o e,rest⟩
  obtain⟨v1,x1,y1,ta,tb,z1,b1⟩:=tie z hz;obtain⟨v2,x2,y2,tc,td,z2,b2⟩:=tie z' hz';rw[z1,z2]at hQ;refine TX (s:={ s1 with heap:=h,toks:=tk' }) (w1:=v1) (w2:=v2) ⟨_,g,rfl,0,by unfold Iv;rw[z1];rfl⟩ ⟨_,g',rfl,0,by unfold Iv;rw[z2];rfl⟩ b1 b2 (by show X.A.units+1+1<_;lia) hQ
 .obtain ⟨hn,I3⟩:=I2.R5 (t':=tk7) (o:=.lst (zs'.map mG)) (k4 kp) gD ⟨by rw[af,hperm.length_eq];exact di (m:=128) (by lia),_,c7,uQ zs',g7⟩;exact⟨.ref h3.objs.size,_,I3,rfl,k h3.objs.size zs' H2 hn S2 T2 hperm hsort⟩
end
end L2
namespace L2
variable{ta:TE}{Z:St}{H:Hp}{Q:VK}{C:ai}{sp:Sp}{x:bF}
theorem mJ{K:aa}{f:bF}(h:ta Z H λx H1=>∃a C dx fs v,x=.ref a/\H1 a=some (.ins C dx fs)/\CY K C/\dN K C f/\fs.lookup f=some v/\Q v H1):fE K ta f Z H Q:=h
theorem xN{m:bF}{dvs:List V}{E:XK}{t:TA}(h:ta Z H λx H1=>∃a dx fs,x=.ref a/\H1 a=some (.ins C dx fs)/\fs.lookup m=none/\t Z H1 λvs H2=>sp (x::(vs++dvs)) H2 Q E):gC C m sp dvs E ta t Z H Q:=h
section
variable{K:aa}{mg:bF->Option ak}{q:bF}{st:dP}{ps:List bF}{CX:J5}{k:Nat}
def qA.mD(d:qA K mg x st ps)(P:bI)(w:cC)(base:cR)(h:lN P w K mg base CX k d.f d.d ps sp):Cal P w K mg base CX k x ps sp:=⟨d.f,d.d,h,d.m,d.F.kp,d.b⟩
def lL.mD(d:lL K C x q st ps)(P:bI)(w:cC)(base:cR)(h:lN P w K mg base CX k d.f d.d ps sp):Xd P w K mg base CX k C x ps sp:=⟨d.f,d.d,h,⟨d.a,d.i,d.F.kp⟩,d.b⟩
def lL.XJ(d:lL K C "__init__" q st ps)(P:bI)(w:cC)(base:cR)(mk:kD K C=true)(kc:eV K (.ref C)=true)(h:lN P w K mg base CX k d.f d.d ps sp):CalI P w K mg base CX k C ps sp:=⟨d.f,d.d,h,⟨mk,d.a,d.i,kc⟩,d.b⟩
theorem Nm.oj{P:bI}{w:cC}{base:cR}{f:ai}{fd:gG}{N:List bF}{t:TS}(F:Nm K x q st f fd)(S:bO N ps (a0 st))(len:∀vs H Q E,sp vs H Q E->vs.length=ps.length)(run:∀vs H Q E,sp vs H Q E->t { nx:=λ_ H'=>Q .non H',rt:=Q } (start N vs) H)(b:∀(oF:ak) (A:cT) (outer:List JW) (s:aA) (H:Hp) (E:XK),ij k (A.deeper (tH q (a0 st) s.heap.objs.size f oF))->J9 (FB J8 P w K mg base N q (a0 st) f oF A outer s H E).VQ (ka st) t):lN P w K mg base J8 (k+1) f fd ps sp:=
 F.ok S len λoF A outer s H vs Q E hr h=>⟨t,b oF A outer s H E hr,run vs H Q E h⟩
end
section
variable{X:Cx}{pos:xu}{i:Nat}
theorem qW{e:Expr}{te:TE}{pos':xu}(hN:X.N.Nodup)(he:PE X e te)(hi:X.N[i]?=some x:=by rfl)(hx:Loc X.env.scope x:=by exact .inl rfl)(hs:Ar e (some (.Name x pos')) pos.line X.env=pure false:=by rfl)(hf:X.fn x=true\/X.env.scope.names.lookup x=some .local:=by first|exact .inl rfl|exact .inr rfl|assumption):PS X (.Assign [.Name x pos'] e pos) (cU te (bp i)):=Km hN hi hx he hs hf
theorem hV(hN:X.N.Nodup)(hi:X.N[i]?=some x:=by rfl)(hx:Loc X.env.scope x:=by exact .inl rfl)(hf:X.fn x=true\/X.env.scope.names.lookup x=some .local:=by first|exact .inl rfl|exact .inr rfl|assumption):PG X (.Name x pos) (bp i):=SQ hN hi hx hf
end
end L2
namespace L2
open PySem.Calls PySem.W
section
variable{prog:bI}{w:cC}{A:cT}{env:JW}{s:aA}{h:cR}{a b:Expr}{i j:Int}{pos:xu}
end
section
variable{X:Cx}{c Pt:ai}{e:Expr}{tx:TA}{x:bF}{params:qB}{scope:qH}{p0 p1 p2 p3 p4 p5 p6 p7 p8 p9 p10 p11 lpos kpos pos:xu}{x1 n1 n2 n3:Nat}
end
end L2
namespace L2
open PySem PySem.Spec PySem.Calls PyProof.Rows PySem.W PySem.SeqAt
open PySem.AutoSeq1 (wpAny_loadPart')
section
variable{X:Cx}
end
end L2
namespace L2
open PySem.Calls PySem.W
end L2
namespace L2
variable{ta:TE}{pos:xu}{e o:Expr}{f:bF}{es:List Expr}{k:Nat}
section
variable{X:Cx}{K:aa}
theorem Zi{tg l:Expr}{tl:TE}(hl:PE X l tl)(hK:X.K=K):PI X tg l (lH K tl):=hK▸mF hl
theorem Zj{a:Expr}(ha:PE X a ta)(hK:X.K=K)(he:∀whole,isTrue a X.env whole=(do let v ← whole;xm a.pos;kZ [v] (truthy v))):PT X a (ph K ta):=hK▸KD ha he
theorem Zk(he:PE X e ta)(hK:X.K=K)(hb:tF e f X.env (fz e X.env)=fz e X.env):PE X (.Attribute e f pos) (fE K ta f):=hK▸Ww he hb
theorem Zm{value:Expr}{pos':xu}{tv:TE}(ha:PE X o ta)(hv:PE X value tv)(hK:X.K=K)(hs:Ar value (some (.Attribute o f pos')) pos.line X.env=pure false):PS X (.Assign [.Attribute o f pos'] value pos) (sU K ta tv f):=hK▸Fz ha hv hs
theorem Zo{n:Nat}{t:Sr}(hc:X.calm=true)(h:Yv X es t)(hK:X.K=K)(hn:(nY es X.env).length=n)(hst:(nY es X.env).findIdx? (·.1)=none):PG X (.Tuple es k pos) (AA K n t):=hK▸Fx hc h hn hst
theorem o_bm{to:TE}{t:TA}{name:bF}{apos cpos:xu}{T id:String}{r:V->List V->Hp->VK->Prop}(pa:PlainAttrs T)(slot:Slot T name id)(hty:typeOf (.builtin id)=pure (.type "method_descriptor"))(hm:MtR X id r)(ho:PE X o to)(ha:PA X (e::es) t)(hK:X.K=K)(hbase:tF o name X.env (fz o X.env)=fz o X.env)(hfew:((iA cpos (bL (e::es) X.env)).all (λx=>!x.1) && (Hd cpos (sL [] X.env)).all (λx=>x.1.isSome)
  && decide ((e::es).length+([]:List UB).length+(if([]:List UB).isEmpty then 0 else 1)<30))=true)(hline:(apos.endLine == cpos.line)=true)(hs:bL (e::es) X.env=(false,fz e X.env)::bL es X.env)(hplain:(iA cpos (bL es X.env)).any (·.1)=false):PE X (.Call (.Attribute o name apos) (e::es) [] cpos) (AN K T r to t):=hK▸pe pa slot hty hm ho ha hbase hfew hline hs hplain
end
theorem Nm.lT{K:aa}{mg:bF->Option ak}{x q:bF}{st:dP}{ps:List bF}{sp:Sp}{P:bI}{w:cC}{base:cR}{f:ai}{fd:gG}{N:List bF}{t:TS}(F:Nm K x q st f fd)(S:bO N ps (a0 st))(run:∀vs H Q E,sp vs H Q E->t { nx:=λ_ H'=>Q .non H',rt:=Q } (start N vs) H)(b:∀{oF:ak}{A:cT}{outer:List JW}{s:aA}{H:Hp}{E:XK},ij k (A.deeper (tH q (a0 st) s.heap.objs.size f oF))->N.Nodup->J9 (FB J8 P w K mg base N q (a0 st) f oF A outer s H E).VQ (ka st) t)(len:∀vs H Q E,sp vs H Q E->vs.length=ps.length:=by first|(intro vs H Q E h;cases h;subst_vars;rfl)|(intro vs H Q E h;repeat' (first|(obtain⟨e,_⟩:=h;exact e▸rfl)|(obtain⟨_,h⟩:=h)))):lN P w K mg base J8 (k+1) f fd ps sp:=
 F.oj S len run λoF A outer s H E hr=>b hr S.nd
end L2
namespace Sw
open PySem.W
def vI:ak->Int
 | .int i _=>i
 |_=>0
theorem Iw{vs:List ak}{ns:List Int}(h:eX vs ns):ns=vs.map vI/\∀v∈vs,∃t,v=.int (vI v) t:=by
 induction h with
 |nil=>exact⟨rfl,λv hv=>nomatch hv⟩
 |cons n t _ ih=>
  refine⟨by rw[aZ,← ih.1];rfl,λv hv=>?_⟩
  rcases aw.mp hv with rfl|hv
  .exact ⟨_,rfl⟩
  .exact ih.2 v hv
theorem FU:∀{vs:List ak},(∀v∈vs,∃t,v=.int (vI v) t)->eX vs (vs.map vI)
 | [],_=>.nil
 |v::vs,h=>by obtain⟨t,e⟩:=h v aj;rw[aZ];have:=FU λu hu=>h u (ag _ hu);generalize vI v=i at e;subst e;exact .cons i t this
section
variable{prog:bI}{w:cC}{A:cT}{E:ak->aA->Prop}{s:aA}{a:ai}
theorem Iy{ks:List Int}{h₀:cR}{L:ai}{m:bF->Option ak}{ig:List (ai×jv)}{Q:ak->aA->Prop}(hh:A.handled=none)(hS:SO prog w (bt w) s.heap a ks)(h64:ks.length<128)(F:Fr h₀ L s.heap m)(N:News h₀ L s.heap ig)(q:∀D c h' tk d (out:List ak) (ns:List Int),Fr h₀ L h' m->News h₀ L h' ((D,cz "list" out.toArray c)::ig)->(∀p∈ig,p.1<D)->eX out ns->ns.Perm ks->ns.Pairwise (·<=·)->Q (.ref D) { s with heap:=h',toks:=tk,drawn:=d }):aO (aR prog w) A (call (.builtin "sorted") [.ref a]) Q E s:=by
 refine Hx X8 UO UP (args_sorted1 _) (ae (m:=checkCount "sorted" 1 1 _) (ar (ae (Ir hh hS (L2.di (m:=128) (by lia)) λh1 tk d vs ns keep hi hp=>?_))))
 have hvl:vs.length<128:=by rw[hi.length,hp.length_eq];exact h64
 have hz:vs.length<=aY:=L2.di (m:=128) (by lia);refine ae (tM ?_ hz);have F1:=F.kept keep;have N1:=N.grown keep;have hL:L<h1.objs.size:=F1.ns.lt;have g:(h1.push (cz "list" vs.toArray 0)).get? h1.objs.size=some (cz "list" vs.toArray 0):=aM _ rfl
 show aO (aR prog w) A.in1 (do let _ ← kZ [aD h1.objs.size] (call (.builtin "list.sort") [aD h1.objs.size]);ret (aD h1.objs.size)) _ _ { s with heap:=h1.push (cz "list" vs.toArray 0),toks:=tk,drawn:=d }
 have hb:∀b o,s.heap.get? b=some o->b≠h1.objs.size:=λb o e=>bg (aJ (keep b o e));obtain⟨en,hv⟩:=Iw hi;refine ae (cJ (de OP ⟨_,g,rfl⟩ Mp (Sy.sort_vals (κ:=oneType') (r:=vI) (s:={ s with heap:=h1.push (cz "list" vs.toArray 0),toks:=tk,drawn:=d }) g hvl (λh2 h' k=>⟨λQ hQ=>?_,λx hx y hy Q hQ=>?_⟩) λh' c out k gD hp' hs=>⟨_,rfl,ar ⟨_,rfl,?_⟩⟩) (args_list_sort _)))
 .rw [ksk_kind (kz:=ns) (by simpa using hi) (by simpa using h2)];exact ar hQ
 .obtain ⟨t1,e1⟩:=hv x hx;obtain⟨t2,e2⟩:=hv y hy;rw[e1,e2];exact kat_lt_int hQ
 .have k7:∀b o,s.heap.get? b=some o->h'.get? b=some o:=λb o e=>k b o (hb b o e) (ao _ (keep b o e));have hvo:∀v∈out,∃t,v=.int (vI v) t:=λv h=>hv v (hp'.mem_iff.mp h);refine q h1.objs.size c _ tk d out (out.map vI) (F.kept k7) (λp hp2=>?_) (λp hp2=>aJ (N1 p hp2).1) (FU hvo) (((hp'.map vI).trans (by rw[← en])).trans hp) (bY.mpr hs)
  rcases aw.mp hp2 with rfl|hp2
  .exact ⟨gD,dG hL,OX (bw F1.above (kh hL))⟩
  .exact (N.grown k7) p hp2
end
end Sw
namespace L2
open PySem.W
def xO(K:aa)(t:TA):TE:=λZ H Q=>t Z H λvs H1=>∃(a:ai) (ns:List Int),vs=[.ref a]/\c6 K H1 a (ns.map V.int)/\ns.length<=4000/\(∃ds:List Int,ds.length<128/\∀x∈ns,x∈ds) /\∀p (ks:List Int),H1 p=none->ks.Pairwise (· < ·)->(∀x,x∈ks↔x∈ns)->Q (.ref p) (upd H1 p (.lst (ks.map V.int)))
theorem KQ{K:aa}{t:TA}{Z:St}{H:Hp}{Q:VK}(h:t Z H λvs H1=>∃(a:ai) (ns:List Int),vs=[.ref a]/\c6 K H1 a (ns.map V.int)/\ns.length<=4000/\(∃ds:List Int,ds.length<128/\∀x∈ns,x∈ds) /\∀p (ks:List Int),H1 p=none->ks.Pairwise (· < ·)->(∀x,x∈ks↔x∈ns)->Q (.ref p) (upd H1 p (.lst (ks.map V.int)))):xO K t Z H Q:=h
section
variable{X:Cx}{x:Expr}{t:TA}{p1 p2 q1 q2:xu}
theorem Iz(hc:X.calm=true)(hgl:Gl X "sorted")(hml:X.mg "sorted"=none)(hgz:Gl X "set")(hmz:X.mg "set"=none)(ha:PA X [x] t)(he:bL [.Call (.Name "set" p1) [x] [] p2] X.env=[(false,fz (.Call (.Name "set" p1) [x] [] p2) X.env)]:=by rfl)(he2:bL [x] X.env=(false,fz x X.env)::bL [] X.env:=by rfl)(hpl:(iA p2 (bL [] X.env)).any (·.1)=false:=by rfl):PE X (.Call (.Name "sorted" q1) [.Call (.Name "set" p1) [x] [] p2] [] q2) (xO X.K t):=by
 intro pins s Z H Q I h;refine eE (nj I hgl hml BootT.sorted (vo ?_ he rfl));rw[he]
 show aO _ _ (UA ((false,fz (.Call (.Name "set" p1) [x] [] p2) X.env)::iA q2 (bL [] X.env))) _ _ s
 refine jh (eE (nj I hgz hmz BootT.set (dI (hZ (ha p2 pins s Z H _ I h) λus s1 ⟨vs,H1,I1,r1,q⟩=>?_) he2 hpl)));obtain⟨a,ns,rfl,hA,hl4,⟨ds,hds,hsub⟩,k⟩:=q;obtain⟨u,rfl,ru⟩:=vals1 r1;cases ru;obtain⟨its,rv,pl,hz⟩:=I1.list hA;have hi:eX its ns:=intsAre_of rv;have hlen:=hi.length;refine Sw.Qs (ns:=ns) (I1.ok.hd hc) pl.isList (by simpa using hi) (by rw[aQ,hlen];unfold vk;lia) λh2 tk ks hS hmem hle hk=>lO ?_
 have hnd:ks.Nodup:=by obtain⟨_,_,_,_,_,_,_,_,_,_,_,_,_,_,hn⟩:=hS;exact hn
 have h64:ks.length<128:=bx (Iu hnd λx hx=>hsub x ((hmem x).mp hx)) hds;have I2:Inv X pins Z H1 { s1 with heap:=h2,toks:=tk }:=I1.kept (t':=tk) hk;obtain⟨m,F,N⟩:=I2.Ou;refine Sw.Iy (s:={ s1 with heap:=h2,toks:=tk }) (I1.ok.hd hc) hS h64 F N λD c h' tk' d out ms F' N' hD a1 a2 a3=>?_;obtain⟨hn,I3⟩:=I2.RY (t':=tk') (o:=.lst (ms.map V.int)) F.ns F' N' hD ⟨by rw[af,a2.length_eq];exact di (m:=128) (by lia),out,c,sG a1,(N' _ aj).1⟩;refine⟨.ref D,_,I3.drawn d,rfl,k D ms hn ?_ (λx=>by rw[a2.mem_iff,hmem])⟩;have hnd':ms.Nodup:=a2.nodup_iff.mpr hnd
 exact(Hy a3 hnd').imp λ{x y} h=>by have h1:=h.1;have h2:x≠y:=h.2;lia
end
section
variable{X:Cx}{tg:Expr}
end
end L2
namespace L2
open PySem
variable{P:List ak->Prop}
theorem m1(h:∀a,P [a]):∀us:List ak,us.length=1->P us
 | [a],_=>h a
theorem m2(h:∀a b,P [a,b]):∀us:List ak,us.length=2->P us
 | [a,b],_=>h a b
theorem m3(h:∀a b c,P [a,b,c]):∀us:List ak,us.length=3->P us
 | [a,b,c],_=>h a b c
theorem m4(h:∀a b c d,P [a,b,c,d]):∀us:List ak,us.length=4->P us
 | [a,b,c,d],_=>h a b c d
end L2
namespace L2
open PySem.W
section
variable{X:Cx}
def IA(K:aa):List V->Hp->VK->Prop:=λxs H Q=>∃(p:ai) (ns:List Int),xs=[.ref p]/\c6 K H p (ns.map V.int)/\ns.length<128 /\∀(l:ai) (ns':List Int),H l=none->ns'.Perm ns->ns'.Pairwise (·<=·)->Q (.ref l) (upd H l (.lst (ns'.map V.int)))
theorem FV:mO X (.builtin "sorted") (IA X.K):=by
 intro pins s Z H xs us Q I r h;obtain⟨p,ns,rfl,hq,hl,q⟩:=h;obtain⟨u,rfl,ru⟩:=vals1 r;cases ru;obtain⟨its,rv,pl,hsz⟩:=I.list hq;have hi:eX its ns:=intsAre_of rv;obtain⟨en,hv⟩:=Sw.Iw hi;have hil:=hi.length;refine Sy.sorted_vals (κ:=oneType') (r:=Sw.vI) (vs:=its) (by lia) (λQ' k=>UQ pl.isList (k _ s.toks λb o e=>?_) (di (m:=128) (by lia))) (λh2 h' tk keep=>⟨λQ hQ=>?_,λx hx y hy Q hQ=>?_⟩) λD c h' tk out keep gD g hp hs=>?_
 .have hlt:=aJ e;exact(bh _ _ (dG hlt)).trans (ao _ e)
 .rw [ksk_kind (kz:=ns) (by simpa using hi) (by simpa using h2)];exact ar hQ
 .obtain ⟨t1,e1⟩:=hv x hx;obtain⟨t2,e2⟩:=hv y hy;rw[e1,e2];exact kat_lt_int hQ
 .have hvo:∀v∈out,∃t,v=.int (Sw.vI v) t:=λv h=>hv v (hp.mem_iff.mp h);obtain⟨hn,I2⟩:=I.R5 (t':=tk) (o:=.lst ((out.map Sw.vI).map V.int)) keep gD ⟨by rw[af,af,hp.length_eq];exact di (m:=128) (by lia),_,c,sG (Sw.FU hvo),g⟩;exact⟨.ref D,_,I2,rfl,q D (out.map Sw.vI) hn ((hp.map Sw.vI).trans (by rw[← en])) (bY.mpr hs)⟩
end
end L2
namespace Rm
variable{f:Nat->Int}{m:Nat}{r:List Int}
def tn{α:Type}(r:List α)(k:Nat):List α:=r.drop k++(r.drop 1).take k
theorem QR{k:Nat}(hk:k<r.length):(tn r k).length=r.length:=by unfold tn;rw[bj,cW,bG,cW];lia
theorem Ub:tn r 0=r:=by simp[tn]
theorem KR{a:Int}(h:a∈r):r.idxOf a<r.length:=gF.mpr h
end Rm
namespace Rm
section
variable{n:Nat}{v par:Nat->Nat}
end
end Rm
namespace Rm
def al:List Int->List (Int×Int)
 | []=>[]
 | [_]=>[]
 |a::b::r=>(a,b)::al (b::r)
theorem KU:∀r:List Int,al r=r.zip (r.drop 1)
 | []=>rfl
 | [_]=>rfl
 |a::b::r=>by have:=KU (b::r);simp only[List.drop_succ_cons,Hu]at this ⊢;rw[ju,← this];rfl
theorem kP:∀(xs:List Int) (x:Int) (ys:List Int),al (xs++x::ys)=al (xs++[x])++al (x::ys)
 | [],x,ys=>rfl
 | [a],x,ys=>rfl
 |a::b::xs,x,ys=>by
  have:=kP (b::xs) x ys
  show(a,b)::al ((b::xs)++x::ys)=(a,b)::al ((b::xs)++[x])++al (x::ys)
  rw[this];rfl
theorem fY:∀{r:List Int}{x y:Int},(x,y)∈al r->x∈r/\y∈r
 |a::b::r,x,y,h=>by
  rcases aw.mp h with e|h
  .cases e;simp
  .have:=fY h;exact⟨ag _ this.1,ag _ this.2⟩
theorem xP:∀r:List Int,(al r).length=r.length-1
 | []=>rfl
 | [_]=>rfl
 |a::b::r=>by have:=xP (b::r);simp only[al,bR]at this ⊢;lia
structure lM(r:List Int):Prop where
 ne:r≠[]
 cnt:∃ds:List Int,ds.Nodup/\(∀x,x∈ds↔x∈r)/\r.length+1=2*ds.length
 ends:r.head?=r.getLast?
 nd:(al r).Nodup
 sym:∀x y,(x,y)∈al r->(y,x)∈al r
theorem lM.one(a:Int):lM [a]:=⟨by simp,⟨[a],by simp,by simp,rfl⟩,rfl,by simp[al],λx y h=>by simp[al]at h⟩
theorem lM.RT{A B:List Int}{z:Int}(h:lM (A++z::B))(hA:z∉A)(hB:z∉B)(hn:A++B≠[]):∃A' w B',A=A'++[w]/\B=w::B':=by
 have he:=h.ends
 have hAne:A≠[]:=λe=>by
  subst e;simp only[List.nil_append,X9]at he hn
  rcases fW B with e|⟨us,u,e⟩
  .exact hn e
  .rw [fX]at e;subst e;rw[show z::(us++[u])=(z::us)++[u] by simp,cM]at he;simp at he;subst he;exact hB (by simp)
 have hBne:B≠[]:=λe=>by
  subst e;rw[cM]at he;simp at he
  cases A with
  |nil=>exact hAne rfl
  |cons a A=>
   simp at he;subst he;exact hA (by simp)
 obtain⟨A',w,e⟩:∃A' w,A=A'++[w]:=by
  rcases fW A with e|⟨us,u,e⟩
  .exact absurd e hAne
  .exact ⟨us,u,by rw[e,fX]⟩
 subst e
 cases B with
 |nil=>exact absurd rfl hBne
 |cons v B'=>
  refine⟨A',w,B',rfl,?_⟩
  have e1:al (A'++[w]++z::v::B')=al (A'++[w])++((w,z)::(z,v)::al (v::B')):=by rw[cI,OQ,kP];rfl
  have m:=h.sym w z (by rw[e1];simp);rw[e1]at m
  rcases aL.mp m with m|m
  .exact absurd (fY m).1 hA
  .rcases aw.mp m with m|m
   .cases m;exact absurd (by simp) hA
   .rcases aw.mp m with m|m
    .cases m;rfl
    .exact absurd (fY m).1 hB
theorem QS(xs ys:List Int)(w z:Int):(al (xs++w::z::w::ys)).Perm ((w,z)::(z,w)::al (xs++w::ys)):=by
 rw[kP,kP xs w ys]
 show(al (xs++[w])++([(w,z),(z,w)]++al (w::ys))).Perm ([(w,z),(z,w)]++(al (xs++[w])++al (w::ys)))
 rw[← cI,← cI];exact List.Perm.append_right _ fV
theorem A7(xs ys:List Int)(w z:Int):(xs++w::z::w::ys).head?=(xs++w::ys).head?/\(xs++w::z::w::ys).getLast?=(xs++w::ys).getLast?:=by
 constructor
 .cases xs<;>simp
 .cases ys with
  |nil=>simp[cM]
  |cons y ys=>simp[cM,lu]
theorem lM.Oz{xs ys:List Int}{w z:Int}(h:lM (xs++w::z::w::ys))(hz:z∉xs++w::ys):lM (xs++w::ys):=by
 have hp:=QS xs ys w z;have nd:=hp.nodup_iff.mp h.nd;have nd2:=(bq.mp nd).2;refine⟨by simp,?_,?_,(bq.mp nd2).2,λx y hxy=>?_⟩
 .obtain ⟨ds,h1,h2,h3⟩:=h.cnt;have hzd:z∈ds:=(h2 z).mpr (by simp);refine⟨ds.erase z,h1.erase z,λx=>?_,?_⟩
  .rw [h1.mem_erase_iff,h2]
   constructor
   .rintro ⟨h4,h5⟩;simp at h5 ⊢
    rcases h5 with h5|h5|h5|h5|h5
    .exact .inl h5
    .exact .inr (.inl h5)
    .exact absurd h5 h4
    .exact .inr (.inl h5)
    .exact .inr (.inr h5)
   .intro h5;refine⟨λe=>hz (e▸h5),?_⟩;simp at h5 ⊢
    rcases h5 with h5|h5|h5
    .exact .inl h5
    .exact .inr (.inl h5)
    .exact .inr (.inr (.inr (.inr h5)))
  .rw [Kj hzd];have:0<ds.length:=l6 hzd;simp at h3 ⊢;lia
 .have:=A7 xs ys w z;rw[← this.1,← this.2];exact h.ends
 .have hm:=hp.mem_iff.mp (h.sym x y (hp.mem_iff.mpr (ag _ (ag _ hxy))))
  rcases aw.mp hm with e|hm
  .cases e;exact absurd (fY hxy).1 hz
  .rcases aw.mp hm with e|hm
   .cases e;exact absurd (fY hxy).2 hz
   .exact hm
theorem lM.put{xs ys:List Int}{w z:Int}(h:lM (xs++w::ys))(hz:z∉xs++w::ys):lM (xs++w::z::w::ys):=by
 have hp:=QS xs ys w z;have hwz:w≠z:=λe=>hz (by simp[e]);refine⟨by simp,?_,?_,hp.nodup_iff.mpr ?_,λx y hxy=>?_⟩
 .obtain ⟨ds,h1,h2,h3⟩:=h.cnt;refine⟨z::ds,bq.mpr ⟨λhm=>hz ((h2 z).mp hm),h1⟩,λx=>?_,?_⟩
  .rw [aw,h2];simp
   constructor
   .rintro (h|h|h|h)
    .exact .inr (.inr (.inl h))
    .exact .inl h
    .exact .inr (.inl h)
    .exact .inr (.inr (.inr (.inr h)))
   .rintro (h|h|h|h|h)
    .exact .inr (.inl h)
    .exact .inr (.inr (.inl h))
    .exact .inl h
    .exact .inr (.inr (.inl h))
    .exact .inr (.inr (.inr h))
  .simp at h3 ⊢;lia
 .have:=A7 xs ys w z;rw[this.1,this.2];exact h.ends
 .refine bq.mpr ⟨λhm=>?_,bq.mpr ⟨λhm=>hz (fY hm).1,h.nd⟩⟩
  rcases aw.mp hm with e|hm
  .exact hwz (by cases e;rfl)
  .exact hz (fY hm).2
 .refine hp.mem_iff.mpr ?_
  rcases aw.mp (hp.mem_iff.mp hxy)with e|hm
  .cases e;simp
  .rcases aw.mp hm with e|hm
   .cases e;simp
   .exact ag _ (ag _ (h.sym x y hm))
theorem qe:∀{ds r:List Int},ds.Nodup->(∀x∈r,x∈ds)->(ds.map λd=>r.count d).sum=r.length
 |ds,[],h1,h2=>by
  have:(ds.map λd=>([]:List Int).count d)=ds.map λ_=>0:=by simp
  rw[this]
  clear this h1 h2
  induction ds with
  |nil=>rfl
  |cons d ds ih=>simpa using ih
 |ds,x::r,h1,h2=>by
  have ih:=qe (ds:=ds) (r:=r) h1 λy hy=>h2 y (ag _ hy);have hx:=h2 x aj
  have key:∀(ds:List Int),ds.Nodup->(ds.map λd=>(x::r).count d).sum=(ds.map λd=>r.count d).sum+if x∈ds then 1 else 0:=by
   intro ds
   induction ds with
   |nil=>intro _;simp
   |cons d ds ih2=>
    intro hnd;have:=ih2 (bq.mp hnd).2;have hd:=(bq.mp hnd).1;simp only[aZ,yC,tN]at this ⊢;rw[this]
    by_cases e:x=d
    .subst e;simp[hd];lia
    .have e':¬ d=x:=λz=>e z.symm;simp[e];lia
  rw[key ds h1,ih,if_pos hx,bR]
theorem lM.leaf{r:List Int}(h:lM r)(h1:1<r.length):∃xs w z ys,r=xs++w::z::w::ys/\z∉xs++w::ys:=by
 obtain⟨ds,d1,d2,d3⟩:=h.cnt;have hs:=qe d1 λx hx=>(d2 x).mpr hx
 obtain⟨z,hz,hc⟩:∃z∈ds,r.count z<2:=by
  refine C4 λq=>?_
  have hall:∀z∈ds,2<=r.count z:=λz hz=>by
   by_cases c:r.count z<2
   .exact absurd ⟨z,hz,c⟩ q
   .lia
  have:∀(ds:List Int),(∀z∈ds,2<=r.count z)->2*ds.length<=(ds.map λd=>r.count d).sum:=by
   intro ds
   induction ds with
   |nil=>intro _;simp
   |cons d ds ih=>
    intro h;have a:=ih λz hz=>h z (ag _ hz);have b:=h d aj;simp only[aZ,yC,bR];lia
  have:=this ds hall;lia
 have hzr:=(d2 z).mp hz;obtain⟨A,B,e⟩:=lp hzr;subst e
 have hc2:A.count z=0/\B.count z=0:=by rw[gQ,jX]at hc;lia
 have hA:z∉A:=fi.mp hc2.1;have hB:z∉B:=fi.mp hc2.2
 obtain⟨A',w,B',e1,e2⟩:=h.RT hA hB (λq=>by
  rw[sS]at q;rw[q.1,q.2]at h1
  simp at h1)
 subst e1 e2
 exact⟨A',w,z,B',by simp,λhm=>by
  simp at hm hA hB
  rcases hm with hm|hm|hm
  .exact hA.1 hm
  .exact hA.2 hm
  .exact hB.2 hm⟩
end Rm
namespace Rm
variable{a b:Int}{r xs ys T:List Int}
theorem lM.Uy{r':List Int}(h:lM r)(hn:r'≠[])(hm:∀x,x∈r'↔x∈r)(hl:r'.length=r.length)(he:r'.head?=r'.getLast?)(hp:(al r').Perm (al r)):lM r':=
 ⟨hn,let ⟨ds,a,b,c⟩:=h.cnt;⟨ds,a,λx=>by rw[b,hm],by rw[hl];exact c⟩,he,hp.nodup_iff.mpr h.nd,λx y z=>hp.mem_iff.mpr (h.sym x y (hp.mem_iff.mp z))⟩
theorem EN(h:a∈r):∃xs ys,r=xs++a::ys/\xs.length=r.idxOf a/\a∉xs:=by
 induction r with
 |nil=>cases h
 |cons b r ih=>
  by_cases e:b=a
  .subst e;exact⟨[],r,rfl,by simp,by simp⟩
  .have ha:a∈r:=(aw.mp h).resolve_left λq=>e q.symm;obtain⟨xs,ys,e1,e2,e3⟩:=ih ha
   have eb:(b == a)=false:=by simpa using e
   refine⟨b::xs,ys,by rw[e1];rfl,by rw[Ya,eb];simp[e2],λhm=>?_⟩
   rcases aw.mp hm with q|q
   .exact e q.symm
   .exact e3 q
theorem lM.turn(h:lM r)(ha:a∈r):lM (tn r (r.idxOf a))/\(al (tn r (r.idxOf a))).Perm (al r)/\(tn r (r.idxOf a)).head?=some a/\(∀x,x∈tn r (r.idxOf a)↔x∈r)/\(tn r (r.idxOf a)).length=r.length:=by
 have hlen:(tn r (r.idxOf a)).length=r.length:=QR (KR ha);obtain⟨xs,ys,e,el,hx⟩:=EN ha
 cases xs with
 |nil=>
  have e0:r.idxOf a=0:=by rw[← el];rfl
  rw[e0,Ub]
  exact⟨h,sr _,by rw[e];rfl,λx=>Iff.rfl,rfl⟩
 |cons b xs=>
  have hba:b≠a:=λq=>hx (by simp[q]);have he:=h.ends
  obtain⟨ys',ey⟩:∃ys',ys=ys'++[b]:=by
   rw[e]at he;simp only[CZ,X9]at he;rw[show b::(xs++a::ys)=(b::xs++[a])++ys by simp,cM]at he
   rcases fW ys with q|⟨us,u,q⟩
   .subst q;rw[show b::xs++[a]=(b::xs)++[a] by rfl,cM]at he;simp at he;exact absurd he hba
   .rw [fX]at q;subst q;rw[cM]at he;simp at he;subst he;exact⟨us,rfl⟩
  subst ey
  have et:tn r (r.idxOf a)=(a::ys')++b::(xs++[a]):=by
   unfold tn;rw[← el,e];simp only[bR]
   have d1:((b::xs)++a::(ys'++[b])).drop (xs.length+1)=a::(ys'++[b]):=by simp
   have d2:(((b::xs)++a::(ys'++[b])).drop 1).take (xs.length+1)=xs++[a]:=by
    show(xs++a::(ys'++[b])).take (xs.length+1)=xs++[a]
    rw[V5,bu (by lia)];simp
   rw[d1,d2];simp
  have hp:(al (tn r (r.idxOf a))).Perm (al r):=by rw[et,e,kP (a::ys') b (xs++[a]),kP (b::xs) a (ys'++[b])];exact fV
  have hm:∀x,x∈tn r (r.idxOf a)↔x∈r:=λx=>by
   rw[et,e];simp
   constructor
   .rintro (q|q|q|q|q)
    .exact .inr (.inr (.inl q))
    .exact .inr (.inr (.inr (.inl q)))
    .exact .inl q
    .exact .inr (.inl q)
    .exact .inr (.inr (.inl q))
   .rintro (q|q|q|q|q)
    .exact .inr (.inr (.inl q))
    .exact .inr (.inr (.inr (.inl q)))
    .exact .inl q
    .exact .inr (.inl q)
    .exact .inr (.inr (.inl q))
  refine⟨h.Uy (by rw[et];simp) hm hlen (by rw[et];simp[cM,lu]) hp,hp,by rw[et];rfl,hm,hlen⟩
theorem FW(h1:T.head?=some b)(h2:T.getLast?=some b):(al (xs++a::(T++a::ys))).Perm ((a,b)::(b,a)::(al (xs++a::ys)++al T)):=by
 obtain⟨T1,e1⟩:∃T1,T=b::T1:=by
  cases T with
  |nil=>simp at h1
  |cons c T=>simp at h1;exact⟨T,by rw[h1]⟩
 obtain⟨T2,e2⟩:∃T2,T=T2++[b]:=by
  rcases fW T with q|⟨us,u,q⟩
  .subst q;simp at h2
  .rw [fX]at q;subst q;simp at h2;exact⟨us,by rw[h2]⟩
 have e3:al (a::(T++a::ys))=(a,b)::(al T++(b,a)::al (a::ys)):=by
  have e4:al (T++a::ys)=al T++(b,a)::al (a::ys):=by
   conv=>lhs;rw[e2,cI,OQ,kP]
   rw[← e2];rfl
  have e5:al (a::(T++a::ys))=(a,b)::al (T++a::ys):=by rw[e1];rfl
  rw[e5,e4]
 rw[kP xs a (T++a::ys),kP xs a ys,e3];generalize al (xs++[a])=P;generalize al (a::ys)=R;generalize al T=U
 -- P++(ab::(U++ba::R)) ~ ab::ba::((P++R)++U)
 refine C2.trans (lh _ ?_);rw[← cI];refine C2.trans (lh _ ?_);rw[cI,cI];exact lG _ fV
theorem QU(xs ys T:List Int)(a:Int):(xs++a::(T++a::ys)).head?=(xs++a::ys).head?/\(xs++a::(T++a::ys)).getLast?=(xs++a::ys).getLast?:=by
 constructor
 .cases xs<;>simp
 .cases ys with
  |nil=>simp[cM,lu]
  |cons y ys=>simp[cM,lu]
theorem lM.XN(h:lM (xs++a::ys))(hT:lM T)(h1:T.head?=some b)(hd:∀x∈T,x∉xs++a::ys):lM (xs++a::(T++a::ys)):=by
 have h2:T.getLast?=some b:=by rw[← hT.ends];exact h1
 have hp:=FW (xs:=xs) (ys:=ys) (a:=a) h1 h2;have hb:b∈T:=jK (by rw[h1];rfl)
 have ha:a∈xs++a::ys:=by simp
 have hab:a≠b:=λe=>hd b hb (e▸ha);have hb':=hd b hb;have ha':a∉T:=λq=>hd a q ha;refine⟨by simp,?_,?_,hp.nodup_iff.mpr ?_,λx y hxy=>?_⟩
 .obtain ⟨ds,d1,d2,d3⟩:=h.cnt;obtain⟨es,e1,e2,e3⟩:=hT.cnt;refine⟨ds++es,du.mpr ⟨d1,e1,λx hx y hy q=>hd y ((e2 y).mp hy) (q▸(d2 x).mp hx)⟩,λx=>?_,?_⟩
  .rw [aL,d2,e2];simp
   constructor
   .rintro ((q|q|q)|q)
    .exact .inl q
    .exact .inr (.inl q)
    .exact .inr (.inr (.inr (.inr q)))
    .exact .inr (.inr (.inl q))
   .rintro (q|q|q|q|q)
    .exact .inl (.inl q)
    .exact .inl (.inr (.inl q))
    .exact .inr q
    .exact .inl (.inr (.inl q))
    .exact .inl (.inr (.inr q))
  .simp at d3 ⊢;lia
 .have:=QU xs ys T a;rw[this.1,this.2];exact h.ends
 .refine bq.mpr ⟨λhm=>?_,bq.mpr ⟨λhm=>?_,du.mpr ⟨h.nd,hT.nd,?_⟩⟩⟩
  .rcases aw.mp hm with q|hm
   .exact hab (by cases q;rfl)
   .rcases aL.mp hm with q|q
    .exact hb' (fY q).2
    .exact ha' (fY q).1
  .rcases aL.mp hm with q|q
   .exact hb' (fY q).1
   .exact ha' (fY q).2
  .rintro ⟨x,y⟩ hx t ht q;subst q;exact hd x (fY ht).1 (fY hx).1
 .refine hp.mem_iff.mpr ?_
  rcases aw.mp (hp.mem_iff.mp hxy)with q|hm
  .cases q;simp
  .rcases aw.mp hm with q|hm
   .cases q;simp
   .refine ag _ (ag _ ?_)
    rcases aL.mp hm with q|q
    .exact d5 _ (h.sym x y q)
    .exact bC _ (hT.sym x y q)
theorem lM.part:∀(n:Nat) {p q inn:List Int}{x y:Int},(p++x::(inn++x::q)).length<=n->lM (p++x::(inn++x::q))->inn.head?=some y->inn.getLast?=some y ->lM inn/\lM (p++x::q)/\∀c∈inn,c∉p++x::q
 | 0,p,q,inn,x,y,hn,h,h1,h2=>by simp at hn
 |n+1,p,q,inn,x,y,hn,h,h1,h2=>by
  have hl:1<(p++x::(inn++x::q)).length:=by simp;lia
  obtain⟨X,w,z,Y,e,hz⟩:=h.leaf hl
  have hc:(p++x::(inn++x::q)).count z=1:=by rw[e];simp at hz;have a1:X.count z=0:=fi.mpr hz.1;have a2:Y.count z=0:=fi.mpr hz.2.2;have a3:¬ w=z:=λq=>hz.2.1 q.symm;simp[gQ,tN,a1,a2,a3]
  have hzx:x≠z:=λq=>by subst q;simp[gQ,tN]at hc;lia
  have hc2:p.count z+inn.count z+q.count z=1:=by simp[gQ,tN,hzx]at hc;lia
  -- a place that stands once,with what is around it
  have at_:∀A B,p++x::(inn++x::q)=A++z::B->∃A' w B',A=A'++[w]/\B=w::B':=λA B eA=>by
   rw[eA]at h hc hl
   have c0:A.count z=0/\B.count z=0:=by rw[gQ,jX]at hc;lia
   refine h.RT (fi.mp c0.1) (fi.mp c0.2) λq=>?_;rw[sS]at q;rw[q.1,q.2]at hl;simp at hl
  have nin:∀{l:List Int},l.count z=0->z∉l:=λq=>fi.mp q
  by_cases z1:z∈inn
  .have k1:0<inn.count z:=zu.mpr z1;have hp0:z∉p:=nin (by lia);have hq0:z∉q:=nin (by lia);obtain⟨i1,i2,ei⟩:=lp z1
   have c12:i1.count z=0/\i2.count z=0:=by rw[ei,gQ,jX]at hc2;lia
   have n1:=nin c12.1;have n2:=nin c12.2
   by_cases hs:i1++i2=[]
   .rw [sS]at hs;rw[hs.1,hs.2]at ei;subst ei
    have zo:z∉p++x::q:=λhm=>by
     rcases aL.mp hm with m|m
     .exact hp0 m
     .rcases aw.mp m with m|m
      .exact hzx m.symm
      .exact hq0 m
    refine⟨lM.one z,lM.Oz (w:=x) (z:=z) (by simpa using h) zo,λc hc=>?_⟩
    have:c=z:=by simpa using hc
    subst this;exact zo
   .obtain ⟨A',w',B',eA,eB⟩:=at_ (p++x::i1) (i2++x::q) (by rw[ei];simp)
    have i1n:i1≠[]:=λq0=>by
     subst q0;rw[ei]at h1 h2;simp at h1;subst h1
     rcases fW i2 with q1|⟨us,u,q1⟩
     .exact hs (by simp[q1])
     .rw [fX]at q1;subst q1;simp[cM,lu]at h2;exact n2 (by simp[h2])
    have i2n:i2≠[]:=λq0=>by
     subst q0;rw[ei]at h1 h2;rw[cM]at h2;simp at h2;subst h2
     cases i1 with
     |nil=>exact i1n rfl
     |cons a i1=>simp at h1;exact n1 (by simp[h1])
    obtain⟨i1',u,ei1⟩:∃i1' u,i1=i1'++[u]:=by
     rcases fW i1 with q0|⟨us,u,q0⟩
     .exact absurd q0 i1n
     .exact ⟨us,u,by rw[q0,fX]⟩
    cases i2 with
    |nil=>exact absurd rfl i2n
    |cons v i2'=>
     have ev:v=w':=by simp at eB;exact eB.1
     have eu:u=w':=by
      rw[ei1,← CZ,← cI]at eA;have:=sT eA rfl
      simpa using this
     subst ei1 ev eu
     have ei':inn=i1'++u::z::u::i2':=by rw[ei];simp
     subst ei'
     have zi:z∉i1'++u::i2':=λhm=>by
      simp at hm n1 n2
      rcases hm with m|m|m
      .exact n1.1 m
      .exact n1.2 m
      .exact n2.2 m
     have eR:p++x::(i1'++u::z::u::i2'++x::q)=(p++x::i1')++u::z::u::(i2'++x::q):=by simp
     have eR':p++x::(i1'++u::i2'++x::q)=(p++x::i1')++u::(i2'++x::q):=by simp
     have zR:z∉(p++x::i1')++u::(i2'++x::q):=λhm=>by
      simp at hm zi
      rcases hm with m|m|m|m|m|m|m
      .exact hp0 m
      .exact hzx m.symm
      .exact zi.1 m
      .exact zi.2.1 m
      .exact zi.2.2 m
      .exact hzx m.symm
      .exact hq0 m
     rw[eR]at h;have hR':=h.Oz zR;rw[← eR']at hR';have en:=A7 i1' i2' u z;obtain⟨r1,r2,r3⟩:=lM.part n (by simp at hn ⊢;lia) hR' (by rw[← en.1];exact h1) (by rw[← en.2];exact h2);refine⟨r1.put zi,r2,λc hc=>?_⟩;simp at hc
     have hcz:c=z->c∉p++x::q:=λq0 hm=>by
      subst q0;simp at hm
      rcases hm with m|m|m
      .exact hp0 m
      .exact hzx m.symm
      .exact hq0 m
     rcases hc with m|m|m|m|m
     .exact r3 c (by simp[m])
     .exact r3 c (by simp[m])
     .exact hcz m
     .exact r3 c (by simp[m])
     .exact r3 c (by simp[m])
  .by_cases z2:z∈p
   .have k1:0<p.count z:=zu.mpr z2;have hq0:z∉q:=nin (by lia);obtain⟨p1,p2,ep⟩:=lp z2;obtain⟨A',w',B',eA,eB⟩:=at_ p1 (p2++x::(inn++x::q)) (by rw[ep];simp)
    have c12:p1.count z=0/\p2.count z=0:=by rw[ep,gQ,jX]at hc2;lia
    have n1:=nin c12.1;have n2:=nin c12.2;subst eA
    cases p2 with
    |nil=>
     have ew:w'=x:=by simp at eB;exact eB.1.symm
     subst ew
     have ep':p=A'++[w',z]:=by rw[ep];simp
     subst ep'
     have zR:z∉A'++w'::(inn++w'::q):=λhm=>by
      simp at hm n1
      rcases hm with m|m|m|m|m
      .exact n1.1 m
      .exact n1.2 m
      .exact z1 m
      .exact n1.2 m
      .exact hq0 m
     have hR':=lM.Oz (xs:=A') (w:=w') (z:=z) (ys:=inn++w'::q) (by simpa using h) zR;obtain⟨r1,r2,r3⟩:=lM.part n (by simp at hn ⊢;lia) hR' h1 h2
     have zo:z∉A'++w'::q:=λhm=>by
      simp at hm n1
      rcases hm with m|m|m
      .exact n1.1 m
      .exact n1.2 m
      .exact hq0 m
     refine⟨r1,by simpa using r2.put zo,λc hc hm=>?_⟩;simp at hm
     rcases hm with m|m|m|m
     .exact r3 c hc (by simp[m])
     .exact r3 c hc (by simp[m])
     .exact z1 (m▸hc)
     .exact r3 c hc (by
       rcases m with m|m
       .simp [m]
       .simp [m])
    |cons v p2=>
     have ew:v=w':=by simp at eB;exact eB.1
     subst ew
     have ep':p=A'++v::z::v::p2:=by rw[ep];simp
     subst ep'
     have zR:z∉A'++v::(p2++x::(inn++x::q)):=λhm=>by
      simp at hm n1 n2
      rcases hm with m|m|m|m|m|m|m
      .exact n1.1 m
      .exact n1.2 m
      .exact n2.2 m
      .exact hzx m.symm
      .exact z1 m
      .exact hzx m.symm
      .exact hq0 m
     have hR':=lM.Oz (xs:=A') (w:=v) (z:=z) (ys:=p2++x::(inn++x::q)) (by simpa using h) zR;obtain⟨r1,r2,r3⟩:=lM.part n (p:=A'++v::p2) (q:=q) (inn:=inn) (x:=x) (by simp at hn ⊢;lia) (by simpa using hR') h1 h2
     have zo:z∉A'++v::(p2++x::q):=λhm=>by
      simp at hm n1 n2
      rcases hm with m|m|m|m|m
      .exact n1.1 m
      .exact n1.2 m
      .exact n2.2 m
      .exact hzx m.symm
      .exact hq0 m
     refine⟨r1,by simpa using lM.put (xs:=A') (w:=v) (z:=z) (ys:=p2++x::q) (by simpa using r2) zo,λc hc hm=>?_⟩;simp at hm
     rcases hm with m|m|m|m|m|m|m
     .exact r3 c hc (by simp[m])
     .exact r3 c hc (by simp[m])
     .exact z1 (m▸hc)
     .exact r3 c hc (by simp[m])
     .exact r3 c hc (by simp[m])
     .exact r3 c hc (by simp[m])
     .exact r3 c hc (by simp[m])
   .have hq1:z∈q:=by
     have k1:0<q.count z:=by have a1:=fi.mpr z1;have a2:=fi.mpr z2;lia
     exact zu.mp k1
    obtain⟨q1,q2,eq⟩:=lp hq1;obtain⟨A',w',B',eA,eB⟩:=at_ (p++x::(inn++x::q1)) q2 (by rw[eq];simp)
    have c12:q1.count z=0/\q2.count z=0:=by rw[eq,gQ,jX]at hc2;lia
    have n1:=nin c12.1;have n2:=nin c12.2;subst eB
    rcases fW q1 with e1|⟨q1',u,e1⟩
    .subst e1
     have ew:x=w':=by
      rw[show p++x::(inn++[x])=(p++x::inn)++[x] by simp]at eA;have:=sT eA rfl
      simpa using this
     subst ew
     have eq':q=z::x::B':=by rw[eq];rfl
     subst eq'
     have zR:z∉(p++x::inn)++x::B':=λhm=>by
      simp at hm n2
      rcases hm with m|m|m|m|m
      .exact z2 m
      .exact hzx m.symm
      .exact z1 m
      .exact hzx m.symm
      .exact n2.2 m
     have hR':=lM.Oz (xs:=p++x::inn) (w:=x) (z:=z) (ys:=B') (by simpa using h) zR;obtain⟨r1,r2,r3⟩:=lM.part n (p:=p) (q:=B') (inn:=inn) (x:=x) (by simp at hn ⊢;lia) (by simpa using hR') h1 h2
     have zo:z∉p++x::B':=λhm=>by
      simp at hm n2
      rcases hm with m|m|m
      .exact z2 m
      .exact hzx m.symm
      .exact n2.2 m
     refine⟨r1,r2.put zo,λc hc hm=>?_⟩;simp at hm
     rcases hm with m|m|m|m|m
     .exact r3 c hc (by simp[m])
     .exact r3 c hc (by simp[m])
     .exact z1 (m▸hc)
     .exact r3 c hc (by simp[m])
     .exact r3 c hc (by simp[m])
    .rw [fX]at e1;subst e1
     have ew:u=w':=by
      rw[show p++x::(inn++x::(q1'++[u]))=(p++x::(inn++x::q1'))++[u] by simp]at eA;have:=sT eA rfl
      simpa using this
     subst ew
     have eq':q=q1'++u::z::u::B':=by rw[eq];simp
     subst eq'
     have zR:z∉(p++x::(inn++x::q1'))++u::B':=λhm=>by
      simp at hm n1 n2
      rcases hm with m|m|m|m|m|m|m
      .exact z2 m
      .exact hzx m.symm
      .exact z1 m
      .exact hzx m.symm
      .exact n1.1 m
      .exact n1.2 m
      .exact n2.2 m
     have hR':=lM.Oz (xs:=p++x::(inn++x::q1')) (w:=u) (z:=z) (ys:=B') (by simpa using h) zR;obtain⟨r1,r2,r3⟩:=lM.part n (p:=p) (q:=q1'++u::B') (inn:=inn) (x:=x) (by simp at hn ⊢;lia) (by simpa using hR') h1 h2
     have zo:z∉(p++x::q1')++u::B':=λhm=>by
      simp at hm n1 n2
      rcases hm with m|m|m|m|m
      .exact z2 m
      .exact hzx m.symm
      .exact n1.1 m
      .exact n1.2 m
      .exact n2.2 m
     refine⟨r1,by simpa using lM.put (xs:=p++x::q1') (w:=u) (z:=z) (ys:=B') (by simpa using r2) zo,λc hc hm=>?_⟩;simp at hm
     rcases hm with m|m|m|m|m|m|m
     .exact r3 c hc (by simp[m])
     .exact r3 c hc (by simp[m])
     .exact r3 c hc (by simp[m])
     .exact r3 c hc (by simp[m])
     .exact z1 (m▸hc)
     .exact r3 c hc (by simp[m])
     .exact r3 c hc (by simp[m])
end Rm
namespace Rm
variable{r:List Int}{i:Nat}
theorem QV{x y:Int}:(al r)[i]?=some (x,y)↔r[i]?=some x/\r[i+1]?=some y:=by rw[KU,pY,oY,OR 1 i]
def sY(r:List Int)(i j:Nat):List Int:=(r.drop (i+1)).take (j-i)
def xQ(r:List Int)(i j:Nat):List Int:=r.take (i+1)++r.drop (j+2)
def xt(r:List Int)(a b:Int):List Int×List Int:=
 if(al r).idxOf (a,b)<(al r).idxOf (b,a)then(xQ r ((al r).idxOf (a,b)) ((al r).idxOf (b,a)),sY r ((al r).idxOf (a,b)) ((al r).idxOf (b,a)))
 else(sY r ((al r).idxOf (b,a)) ((al r).idxOf (a,b)),xQ r ((al r).idxOf (b,a)) ((al r).idxOf (a,b)))
theorem QW{j:Nat}{x y:Int}(hij:i<j)(h1:r[i]?=some x)(h2:r[i+1]?=some y)(h3:r[j]?=some y)(h4:r[j+1]?=some x):r=r.take i++x::(sY r i j++x::r.drop (j+2))/\xQ r i j=r.take i++x::r.drop (j+2)/\(sY r i j).head?=some y/\(sY r i j).getLast?=some y/\(sY r i j).length+(xQ r i j).length+1=r.length:=by
 have l4:=(av.mp h4).1
 have g1:r.drop i=x::r.drop (i+1):=by have hl:=av.mp h1;rw[fU hl.1,hl.2]
 have g2:r.drop (j+1)=x::r.drop (j+2):=by have hl:=av.mp h4;rw[fU hl.1,hl.2]
 have g3:r.drop (i+1)=sY r i j++r.drop (j+1):=by unfold sY;have:=dr (j-i) (r.drop (i+1));rw[Yq,show i+1+(j-i)=j+1 by lia]at this;exact this.symm
 have li:(sY r i j).length=j-i:=by unfold sY;rw[bG,cW];lia
 refine⟨?_,?_,?_,?_,?_⟩
 .rw [← g2,← g3,← g1,dr]
 .unfold xQ;rw[cH,h1];simp
 .rw [List.head?_eq_getElem?];unfold sY;rw[lj,if_pos (by lia),oY];exact h2
 .rw [List.getLast?_eq_getElem?,li];unfold sY;rw[lj,if_pos (by lia),oY,show i+1+(j-i-1)=j by lia];exact h3
 .rw [li];unfold xQ;rw[bj,bG,cW];lia
theorem Vj{a b:Int}(h:(a,b)∈al r):r[(al r).idxOf (a,b)]?=some a/\r[(al r).idxOf (a,b)+1]?=some b:=by have hl:(al r).idxOf (a,b)<(al r).length:=gF.mpr h;refine QV.mp ?_;rw[aB hl,zt]
structure Me(r X Y:List Int)(a b:Int):Prop where
 x:lM X
 y:lM Y
 ha:a∈X
 hb:b∈Y
 ZR:∀c∈Y,c∉X
 pm:(al r).Perm ((a,b)::(b,a)::(al X++al Y))
 len:X.length+Y.length+1=r.length
theorem lM.parted{a b:Int}(h:lM r)(hm:(a,b)∈al r)(hab:a≠b):Me r (xt r a b).1 (xt r a b).2 a b:=by
 obtain⟨p1,p2⟩:=Vj hm;obtain⟨q1,q2⟩:=Vj (h.sym a b hm);unfold xt;generalize (al r).idxOf (a,b)=i at p1 p2;generalize (al r).idxOf (b,a)=j at q1 q2
 by_cases hij:i<j
 .rw [if_pos hij];obtain⟨e1,e2,e3,e4,e5⟩:=QW hij p1 p2 q1 q2;have hR:=h;rw[e1]at hR;obtain⟨r1,r2,r3⟩:=lM.part _ (ay _) hR e3 e4;refine⟨by rw[e2];exact r2,r1,by rw[e2];simp,jK (by rw[e3];rfl),λc hc=>by rw[e2];exact r3 c hc,?_,by simp only;lia⟩;simp only;rw[e2];have hp:=FW (xs:=r.take i) (ys:=r.drop (j+2)) (a:=a) e3 e4
  rwa [← e1]at hp
 .rw [if_neg hij]
  have hji:j<i:=by
   rcases Nat.lt_or_ge j i with q|q
   .exact q
   .have:i=j:=by lia
    subst this;rw[p1]at q1;exact absurd (aX q1) hab
  obtain⟨e1,e2,e3,e4,e5⟩:=QW hji q1 q2 p1 p2;have hR:=h;rw[e1]at hR;obtain⟨r1,r2,r3⟩:=lM.part _ (ay _) hR e3 e4;refine⟨r1,by rw[e2];exact r2,jK (by rw[e3];rfl),by rw[e2];simp,λc hc hx=>by rw[e2]at hc;exact r3 c hx hc,?_,by simp only;lia⟩;simp only;rw[e2];have hp:=FW (xs:=r.take j) (ys:=r.drop (i+2)) (a:=b) e3 e4;rw[← e1]at hp;refine hp.trans ((List.Perm.swap _ _ _).trans (lh _ (lh _ fV)))
end Rm
namespace Rm
theorem IB(x y:Int)(l:List Int):al (x::y::l)=(x,y)::al (y::l):=rfl
end Rm
namespace Rm
variable{n:Nat}{R:Nat->List Int}
def A8(r1 r2:List Int)(a b:Int):List Int:=r1.take (r1.idxOf a+1)++(tn r2 (r2.idxOf b)++r1.drop (r1.idxOf a))
structure G7(r1 r2:List Int)(a b:Int):Prop where
 h1:lM r1
 h2:lM r2
 ha:a∈r1
 hb:b∈r2
 ZR:∀x∈r2,x∉r1
theorem G7.facts{r1 r2:List Int}{a b:Int}(T:G7 r1 r2 a b):lM (A8 r1 r2 a b)/\(al (A8 r1 r2 a b)).Perm ((a,b)::(b,a)::(al r1++al r2))/\(A8 r1 r2 a b).length=r1.length+r2.length+1:=by
 obtain⟨t1,t2,t3,t4,t5⟩:=T.h2.turn T.hb;obtain⟨xs,ys,e,el,hx⟩:=EN T.ha
 have es:A8 r1 r2 a b=xs++a::(tn r2 (r2.idxOf b)++a::ys):=by
  unfold A8;rw[← el]
  conv=>lhs;rw[e]
  have d1:(xs++a::ys).take (xs.length+1)=xs++[a]:=by rw[V5,bu (by lia)];simp
  have d2:(xs++a::ys).drop xs.length=a::ys:=by simp
  rw[d1,d2];simp
 have hR:lM (xs++a::ys):=by rw[← e];exact T.h1
 have hd:∀x∈tn r2 (r2.idxOf b),x∉xs++a::ys:=λx hx=>by rw[← e];exact T.ZR x ((t4 x).mp hx)
 refine⟨by rw[es];exact hR.XN t1 t3 hd,?_,?_⟩
 .rw [es,e]
  have t3':(tn r2 (r2.idxOf b)).getLast?=some b:=by rw[← t1.ends];exact t3
  exact(FW t3 t3').trans (lh _ (lh _ (lG _ t2)))
 .have hlt:(tn r2 (r2.idxOf b)).length=r2.length:=t5;unfold A8;have:=KR T.ha;rw[bj,bj,bG,cW,hlt];lia
theorem G7.mem{r1 r2:List Int}{a b:Int}(T:G7 r1 r2 a b)(x:Int):x∈A8 r1 r2 a b↔x∈r1\/x∈r2:=by
 obtain⟨t1,t2,t3,t4,t5⟩:=T.h2.turn T.hb;unfold A8;rw[aL,aL,t4]
 constructor
 .rintro (h|h|h)
  .exact .inl (List.mem_of_mem_take h)
  .exact .inr h
  .exact .inl (List.mem_of_mem_drop h)
 .rintro (h|h)
  .rw [← dr (r1.idxOf a) r1]at h
   rcases aL.mp h with h|h
   .exact .inl (List.take_subset_take_left _ (gN _) h)
   .exact .inr (.inr h)
  .exact .inr (.inl h)
theorem Me.mem{r X Y:List Int}{a b:Int}(P:Me r X Y a b)(hr:lM r)(x:Int):x∈r↔x∈X\/x∈Y:=by
 have key:∀{l:List Int},lM l->∀{x:Int},x∈l->(l=[x]\/∃y,(x,y)∈al l):=λ{l} hl {x} hx=>by
  obtain⟨i,hi⟩:=bE.mp hx;have hlt:=(av.mp hi).1
  by_cases h:i+1<l.length
  .exact .inr ⟨_,bE.mpr ⟨i,QV.mpr ⟨hi,aB h⟩⟩⟩
  .by_cases h1:l.length=1
   .obtain ⟨c,rfl⟩:=List.length_eq_one_iff.mp h1
    have:i=0:=by simp at hlt;lia
    subst this;simp at hi;exact .inl (by rw[hi])
   .have e1:l[i-1]?=some l[i-1]:=aB (by lia);exact .inr ⟨_,hl.sym _ _ (bE.mpr ⟨i-1,QV.mpr ⟨e1,by rw[show i-1+1=i by lia];exact hi⟩⟩)⟩
 constructor
 .intro hx
  rcases key hr hx with e|⟨y,hy⟩
  .have:=P.len;rw[e]at this;have h1:=Sn.mpr P.x.ne;have h2:=Sn.mpr P.y.ne;rw[OG]at this;lia
  .rcases aw.mp (P.pm.mem_iff.mp hy)with e|hy
   .cases e;exact .inl P.ha
   .rcases aw.mp hy with e|hy
    .cases e;exact .inr P.hb
    .rcases aL.mp hy with hy|hy
     .exact .inl (fY hy).1
     .exact .inr (fY hy).1
 .intro hx;have G8:∀{u v:Int},(u,v)∈(a,b)::(b,a)::(al X++al Y)->u∈r:=λh=>(fY (P.pm.mem_iff.mpr h)).1
  rcases hx with hx|hx
  .rcases key P.x hx with e|⟨y,hy⟩
   .have:=P.ha;rw[e]at this;rw[← ax.mp this];exact G8 (v:=b) aj
   .exact G8 (v:=y) (ag _ (ag _ (d5 _ hy)))
  .rcases key P.y hx with e|⟨y,hy⟩
   .have:=P.hb;rw[e]at this;rw[← ax.mp this];exact G8 (v:=a) (ag _ aj)
   .exact G8 (v:=y) (ag _ (ag _ (bC _ hy)))
structure Wd(n:Nat)(R:Nat->List Int):Prop where
 r:∀i,i<n->lM (R i)
 me:∀i:Nat,i<n->(i:Int)∈R i
 G8:∀i,i<n->∀x∈R i,∃j:Nat,j<n/\x=(j:Int)/\R j=R i
def Ed(n:Nat)(R:Nat->List Int)(x y:Int):Prop:=∃i,i<n/\(x,y)∈al (R i)
theorem Wd.start(n:Nat):Wd n λi=>[(i:Int)]:=
 ⟨λi _=>lM.one _,λi _=>by simp,λi hi x hx=>⟨i,hi,by simpa using hx,rfl⟩⟩
theorem Wd.same(W:Wd n R){i j:Nat}(hi:i<n)(hj:j<n){x:Int}(h1:x∈R i)(h2:x∈R j):R i=R j:=by
 obtain⟨k,hk,e1,e2⟩:=W.G8 i hi x h1;obtain⟨k',hk',e3,e4⟩:=W.G8 j hj x h2
 have:k=k':=by lia
 subst this;rw[← e2,e4]
theorem Wd.head(W:Wd n R){i j:Nat}(hi:i<n)(hj:j<n):((R i).head?=(R j).head?↔(j:Int)∈R i):=by
 constructor
 .intro e
  obtain⟨x,hx⟩:∃x,(R i).head?=some x:=by
   cases h:R i with
   |nil=>exact absurd h (W.r i hi).ne
   |cons a l=>exact⟨a,rfl⟩
  rw[W.same hi hj (jK hx) (jK (e▸hx))];exact W.me j hj
 .intro h;rw[W.same hi hj h (W.me j hj)]
theorem Ed.at(W:Wd n R){x y:Int}(h:Ed n R x y){i:Nat}(hi:i<n)(hx:x∈R i):(x,y)∈al (R i):=by obtain⟨j,hj,hm⟩:=h;rw[W.same hi hj hx (fY hm).1];exact hm
theorem Ed.symm(W:Wd n R){x y:Int}(h:Ed n R x y):Ed n R y x:=let ⟨i,hi,hm⟩:=h;⟨i,hi,(W.r i hi).sym _ _ hm⟩
theorem Wd.link(W:Wd n R){a b:Nat}(ha:a<n)(hb:b<n)(hn:(b:Int)∉R a):G7 (R a) (R b) a b/\Wd n (λi=>if(i:Int)∈A8 (R a) (R b) a b then A8 (R a) (R b) a b else R i) /\∀x y,Ed n (λi=>if(i:Int)∈A8 (R a) (R b) a b then A8 (R a) (R b) a b else R i) x y↔(Ed n R x y\/(x,y)=((a:Int),(b:Int))\/(x,y)=((b:Int),(a:Int))):=by
 have T:G7 (R a) (R b) a b:=⟨W.r a ha,W.r b hb,W.me a ha,W.me b hb,λx h2 h1=>hn (by rw[W.same ha hb h1 h2];exact W.me b hb)⟩
 obtain⟨f1,f2,f3⟩:=T.facts;have fm:=T.mem;generalize A8 (R a) (R b) a b=s at f1 f2 f3 fm
 have hs:∀x∈s,∃j:Nat,j<n/\x=(j:Int)/\(j:Int)∈s:=λx hx=>by
  rcases(fm x).mp hx with h|h
  .obtain ⟨j,hj,e,_⟩:=W.G8 a ha x h;exact⟨j,hj,e,e▸hx⟩
  .obtain ⟨j,hj,e,_⟩:=W.G8 b hb x h;exact⟨j,hj,e,e▸hx⟩
 have nos:∀i,i<n->(i:Int)∉s->∀x∈R i,x∉s:=λi hi h x hx hxs=>by
  rcases(fm x).mp hxs with q|q
  .exact h ((fm i).mpr (.inl (W.same ha hi q hx▸W.me i hi)))
  .exact h ((fm i).mpr (.inr (W.same hb hi q hx▸W.me i hi)))
 refine⟨T,⟨λi hi=>?_,λi hi=>?_,λi hi x hx=>?_⟩,λx y=>⟨?_,?_⟩⟩
 .by_cases c:(i:Int)∈s
  .rw [if_pos c];exact f1
  .rw [if_neg c];exact W.r i hi
 .by_cases c:(i:Int)∈s
  .rw [if_pos c];exact c
  .rw [if_neg c];exact W.me i hi
 .by_cases c:(i:Int)∈s
  .simp only[if_pos c]at hx ⊢;obtain⟨j,hj,e,hjs⟩:=hs x hx;exact⟨j,hj,e,if_pos hjs⟩
  .simp only[if_neg c]at hx ⊢;obtain⟨j,hj,e,er⟩:=W.G8 i hi x hx;exact⟨j,hj,e,by rw[if_neg (λh=>nos i hi c x hx (e▸h))];exact er⟩
 .rintro ⟨i,hi,hm⟩
  by_cases c:(i:Int)∈s
  .simp only[if_pos c]at hm
   rcases aw.mp (f2.mem_iff.mp hm)with e|hm
   .exact .inr (.inl e)
   .rcases aw.mp hm with e|hm
    .exact .inr (.inr e)
    .rcases aL.mp hm with h|h
     .exact .inl ⟨a,ha,h⟩
     .exact .inl ⟨b,hb,h⟩
  .simp only[if_neg c]at hm;exact .inl ⟨i,hi,hm⟩
 .have inS:∀{u v:Int},(u,v)∈al s->Ed n (λi=>if(i:Int)∈s then s else R i) u v:=λh=>⟨a,ha,by simp only[if_pos ((fm a).mpr (.inl (W.me a ha)))];exact h⟩
  rintro(⟨i,hi,hm⟩|e|e)
  .by_cases c:(i:Int)∈s
   .refine inS (f2.mem_iff.mpr (ag _ (ag _ ?_)))
    rcases(fm i).mp c with h|h
    .rw [← W.same ha hi h (W.me i hi)]at hm;exact d5 _ hm
    .rw [← W.same hb hi h (W.me i hi)]at hm;exact bC _ hm
   .exact ⟨i,hi,by simp only[if_neg c];exact hm⟩
  .obtain ⟨rfl,rfl⟩:=cp e;exact inS (f2.mem_iff.mpr aj)
  .obtain ⟨rfl,rfl⟩:=cp e;exact inS (f2.mem_iff.mpr (ag _ aj))
theorem Wd.cut(W:Wd n R){a b:Nat}(ha:a<n)(hb:b<n)(hab:a≠b)(hm:((a:Int),(b:Int))∈al (R a)):Wd n (λi=>if(i:Int)∈(xt (R a) a b).2 then(xt (R a) a b).2 else if(i:Int)∈(xt (R a) a b).1 then(xt (R a) a b).1 else R i) /\∀x y,Ed n (λi=>if(i:Int)∈(xt (R a) a b).2 then(xt (R a) a b).2 else if(i:Int)∈(xt (R a) a b).1 then(xt (R a) a b).1 else R i) x y↔(Ed n R x y/\¬ (x,y)=((a:Int),(b:Int))/\¬ (x,y)=((b:Int),(a:Int))):=by
 have hR:=W.r a ha;have P:=hR.parted hm (by lia:(a:Int)≠b);have PM:=P.mem hR;generalize (xt (R a) a b).1=X at P PM;generalize (xt (R a) a b).2=Y at P PM;have nd:=P.pm.nodup_iff.mp hR.nd;have nab:=(bq.mp nd).1;have nba:=(bq.mp (bq.mp nd).2).1;have inr:∀x∈R a,∃j:Nat,j<n/\x=(j:Int)/\R j=R a:=W.G8 a ha;have nos:∀i,i<n->(i:Int)∉R a->∀x∈R i,x∉R a:=λi hi h x hx hxs=>h (W.same ha hi hxs hx▸W.me i hi);have sw:∀i:Nat,(i:Int)∈Y->(i:Int)∉X:=λi h=>P.ZR _ h;refine⟨⟨λi hi=>?_,λi hi=>?_,λi hi x hx=>?_⟩,λx y=>⟨?_,?_⟩⟩
 .by_cases c2:(i:Int)∈Y
  .rw [if_pos c2];exact P.y
  .by_cases c1:(i:Int)∈X
   .rw [if_neg c2,if_pos c1];exact P.x
   .rw [if_neg c2,if_neg c1];exact W.r i hi
 .by_cases c2:(i:Int)∈Y
  .rw [if_pos c2];exact c2
  .by_cases c1:(i:Int)∈X
   .rw [if_neg c2,if_pos c1];exact c1
   .rw [if_neg c2,if_neg c1];exact W.me i hi
 .by_cases c2:(i:Int)∈Y
  .simp only[if_pos c2]at hx ⊢;obtain⟨j,hj,e,_⟩:=inr x ((PM x).mpr (.inr hx));exact⟨j,hj,e,if_pos (e▸hx)⟩
  .by_cases c1:(i:Int)∈X
   .simp only[if_neg c2,if_pos c1]at hx ⊢;obtain⟨j,hj,e,_⟩:=inr x ((PM x).mpr (.inl hx));have hjX:(j:Int)∈X:=e▸hx;exact⟨j,hj,e,by rw[if_neg (λh=>sw j h hjX),if_pos hjX]⟩
   .simp only[if_neg c2,if_neg c1]at hx ⊢;obtain⟨j,hj,e,er⟩:=W.G8 i hi x hx;have hni:(i:Int)∉R a:=λh=>((PM i).mp h).elim c1 c2;have hnj:(j:Int)∉R a:=λh=>nos i hi hni x hx (e▸h);exact⟨j,hj,e,by rw[if_neg (λh=>hnj ((PM j).mpr (.inr h))),if_neg (λh=>hnj ((PM j).mpr (.inl h)))];exact er⟩
 .have old:∀{u v:Int},(u,v)∈al X++al Y->Ed n R u v/\¬ (u,v)=((a:Int),(b:Int))/\¬ (u,v)=((b:Int),(a:Int)):=λ{u v} h =>⟨⟨a,ha,P.pm.mem_iff.mpr (ag _ (ag _ h))⟩,λe=>nab (ag _ (e▸h)),λe=>nba (e▸h)⟩
  rintro⟨i,hi,h⟩
  by_cases c2:(i:Int)∈Y
  .simp only[if_pos c2]at h;exact old (bC _ h)
  .by_cases c1:(i:Int)∈X
   .simp only[if_neg c2,if_pos c1]at h;exact old (d5 _ h)
   .simp only[if_neg c2,if_neg c1]at h;have hni:(i:Int)∉R a:=λh=>((PM i).mp h).elim c1 c2;have hxa:x∉R a:=nos i hi hni x (fY h).1;refine⟨⟨i,hi,h⟩,λe=>hxa ?_,λe=>hxa ?_⟩
    .rw [(cp e).1];exact W.me a ha
    .rw [(cp e).1];exact(PM _).mpr (.inr P.hb)
 .rintro ⟨h,e1,e2⟩
  by_cases hx:x∈R a
  .have hm:=Ed.at W h ha hx
   rcases aw.mp (P.pm.mem_iff.mp hm)with e|hm
   .exact absurd e e1
   .rcases aw.mp hm with e|hm
    .exact absurd e e2
    .rcases aL.mp hm with q|q
     .refine ⟨a,ha,?_⟩;simp only[if_neg (λh=>sw a h P.ha),if_pos P.ha];exact q
     .refine ⟨b,hb,?_⟩;simp only[if_pos P.hb];exact q
  .obtain ⟨i,hi,hm⟩:=h;have hni:(i:Int)∉R a:=λh=>hx (W.same ha hi h (W.me i hi)▸(fY hm).1);refine⟨i,hi,?_⟩;simp only[if_neg (λh=>hni ((PM i).mpr (.inr h))),if_neg (λh=>hni ((PM i).mpr (.inl h)))];exact hm
theorem QX{M:Int->Prop}:∀{l:List Int},(∀x y,(x,y)∈al l->(M x↔M y))->(∃a∈l,M a)->∀x∈l,M x
 | [],_,_,x,hx=>nomatch hx
 | [c],_,⟨a,ha,hM⟩,x,hx=>by
  rw[ax.mp hx,← ax.mp ha];exact hM
 |c::d::t,h,⟨a,ha,hM⟩,x,hx=>by
  have hcd:=h c d (by rw[IB];exact aj);have ih:=QX (l:=d::t) λx y hm=>h x y (by rw[IB];exact ag _ hm)
  have hd:M d:=by
   rcases aw.mp ha with e|ha
   .exact hcd.mp (e▸hM)
   .exact ih ⟨a,ha,hM⟩ d aj
  rcases aw.mp hx with e|hx
  .rw [e];exact hcd.mpr hd
  .exact ih ⟨d,aj,hd⟩ x hx
theorem few{l:List Int}(hn:l.Nodup)(h:∀x∈l,∃j:Nat,j<n/\x=(j:Int)):l.length<=n:=by
 have e:=qe (ds:=(fh n).map λi:Nat=>(i:Int)) (r:=l) (by
  rw[Hz,bY]
  exact List.Pairwise.imp (λh e=>h (by lia)) (Hz.mp V7)) λx hx=>by obtain⟨j,hj,e⟩:=h x hx;exact aI.mpr ⟨j,i5.mpr hj,e.symm⟩
 have le:∀(ds:List Int),(ds.map λd=>l.count d).sum<=ds.length:=λds=>by
  induction ds with
  |nil=>simp
  |cons d ds ih=>
   have:l.count d<=1:=O5.mp hn d;simp only[aZ,yC,bR];lia
 have:=le ((fh n).map λi:Nat=>(i:Int));rw[e]at this
 simpa using this
theorem Wd.len(W:Wd n R){i:Nat}(hi:i<n):(R i).length+1<=2*n:=by
 obtain⟨ds,h1,h2,h3⟩:=(W.r i hi).cnt
 have:=few h1 λx hx=>let ⟨j,hj,e,_⟩:=W.G8 i hi x ((h2 x).mp hx);⟨j,hj,e⟩
 lia
end Rm
namespace Rm
end Rm
namespace Rm
end Rm
namespace Rm
def lk(R:Nat->List Int)(a b:Nat):Nat->List Int:=λi=>if(i:Int)∈A8 (R a) (R b) a b then A8 (R a) (R b) a b else R i
def ct(R:Nat->List Int)(a b:Nat):Nat->List Int:=λi=>if(i:Int)∈(xt (R a) a b).2 then(xt (R a) a b).2 else if(i:Int)∈(xt (R a) a b).1 then(xt (R a) a b).1 else R i
theorem MT{r s:List Int}(hr:lM r)(hs:lM s)(h:∀x∈r,x∈s):r.length<=s.length:=by
 obtain⟨d,d1,d2,d3⟩:=hr.cnt;obtain⟨e,e1,e2,e3⟩:=hs.cnt;have q:=qe (ds:=e) (r:=d) e1 λx hx=>(e2 x).mpr (h x ((d2 x).mp hx))
 have le:∀(ds:List Int),(ds.map λc=>d.count c).sum<=ds.length:=λds=>by
  induction ds with
  |nil=>simp
  |cons c ds ih=>
   have:d.count c<=1:=O5.mp d1 c;simp only[aZ,yC,bR];lia
 have:=le e;lia
section
variable{n:Nat}{R R':Nat->List Int}{x y z a b:Nat}
theorem Wd.sub(W:Wd n R)(W':Wd n R')(h:∀x y,Ed n R x y->Ed n R' x y)(hx:x<n):∀c∈R x,c∈R' x:=
 QX (M:=λc=>c∈R' x) (λu v hm =>have e:=h u v ⟨x,hx,hm⟩
  ⟨λhu=>(fY (Ed.at W' e hx hu)).2,λhv=>(fY (Ed.at W' (Ed.symm W' e) hx hv)).2⟩) ⟨x,W.me x hx,W'.me x hx⟩
theorem Wd.sy(W:Wd n R)(hx:x<n)(hy:y<n)(h:(y:Int)∈R x):(x:Int)∈R y:=W.same hx hy h (W.me y hy)▸W.me x hx
theorem Wd.eq(W:Wd n R)(hx:x<n)(hy:y<n)(h:(y:Int)∈R x):R x=R y:=W.same hx hy h (W.me y hy)
theorem Wd.lk(W:Wd n R)(ha:a<n)(hb:b<n)(hn:(b:Int)∉R a):Wd n (lk R a b):=(W.link ha hb hn).2.1
theorem Wd.RZ(W:Wd n R)(ha:a<n)(hb:b<n)(hn:(b:Int)∉R a)(x y:Int):Ed n (Rm.lk R a b) x y↔(Ed n R x y\/(x,y)=((a:Int),(b:Int))\/(x,y)=((b:Int),(a:Int))):=(W.link ha hb hn).2.2 x y
theorem Wd.Fl(W:Wd n R)(ha:a<n)(hb:b<n)(hn:(b:Int)∉R a)(h:(x:Int)∈R a\/(x:Int)∈R b):(∀c,c∈Rm.lk R a b x↔c∈R a\/c∈R b)/\(Rm.lk R a b x).length=(R a).length+(R b).length+1:=by have T:=(W.link ha hb hn).1;have e:Rm.lk R a b x=A8 (R a) (R b) a b:=if_pos ((T.mem x).mpr h);rw[e];exact⟨T.mem,T.facts.2.2⟩
theorem Wd.RU(W:Wd n R)(ha:a<n)(hb:b<n)(hn:(b:Int)∉R a)(h1:(x:Int)∉R a)(h2:(x:Int)∉R b):Rm.lk R a b x=R x:=
 if_neg λh=>((((W.link ha hb hn).1).mem x).mp h).elim h1 h2
theorem Wd.VS(W:Wd n R)(ha:a<n)(hb:b<n)(hn:(b:Int)∉R a)(hx:x<n):∀c∈R x,c∈Rm.lk R a b x:=
 W.sub (W.lk ha hb hn) (λu v h=>(W.RZ ha hb hn u v).mpr (.inl h)) hx
theorem Wd.ct(W:Wd n R)(ha:a<n)(hb:b<n)(hab:a≠b)(hm:Ed n R a b):Wd n (ct R a b):=(W.cut ha hb hab (Ed.at W hm ha (W.me a ha))).1
theorem Wd.RW(W:Wd n R)(ha:a<n)(hb:b<n)(hab:a≠b)(hm:Ed n R a b)(x y:Int):Ed n (Rm.ct R a b) x y↔(Ed n R x y/\¬ (x,y)=((a:Int),(b:Int))/\¬ (x,y)=((b:Int),(a:Int))):=(W.cut ha hb hab (Ed.at W hm ha (W.me a ha))).2 x y
theorem Wd.VN(W:Wd n R)(ha:a<n)(hb:b<n)(hab:a≠b)(hm:Ed n R a b):(b:Int)∉Rm.ct R a b a/\(∀c,c∈R a↔c∈Rm.ct R a b a\/c∈Rm.ct R a b b)/\(Rm.ct R a b a).length+(Rm.ct R a b b).length+1=(R a).length:=by
 have hR:=W.r a ha;have P:=hR.parted (Ed.at W hm ha (W.me a ha)) (by lia:(a:Int)≠b);have PM:=P.mem hR;have e1:Rm.ct R a b b=(xt (R a) a b).2:=if_pos P.hb
 have e2:Rm.ct R a b a=(xt (R a) a b).1:=by
  show(if _ then _ else if _ then _ else _)=_
  rw[if_neg λh=>P.ZR _ h P.ha,if_pos P.ha]
 rw[e1,e2];exact⟨P.ZR _ P.hb,PM,P.len⟩
theorem Wd.XG(W:Wd n R)(ha:a<n)(hb:b<n)(hab:a≠b)(hm:Ed n R a b)(h:(x:Int)∉R a):Rm.ct R a b x=R x:=by
 have hR:=W.r a ha;have PM:=(hR.parted (Ed.at W hm ha (W.me a ha)) (by lia:(a:Int)≠b)).mem hR
 show(if _ then _ else if _ then _ else _)=_
 rw[if_neg λq=>h ((PM _).mpr (.inr q)),if_neg λq=>h ((PM _).mpr (.inl q))]
end
structure Ti where
 x:Nat
 y:Nat
 cj:Nat
 wd:Bool
def Ti.key(t:Ti):Int×Int:=((t.x:Int),(t.y:Int))
def Ti.Is(t:Ti)(u v:Int):Prop:=(u,v)=((t.x:Int),(t.y:Int))\/(u,v)=((t.y:Int),(t.x:Int))
def Ti.up(t:Ti):Ti:={ t with cj:=t.cj+1 }
def Ti.oP(t:Ti):Ti:={ t with wd:=true }
theorem Ti.LZ{t u:Ti}(h:t.key=u.key):t.x=u.x/\t.y=u.y:=by obtain⟨h1,h2⟩:=cp h;lia
theorem Ti.ve{t u:Ti}(ht:t.x<t.y)(hu:u.x<u.y)(h:t.Is u.x u.y):t.key=u.key:=by
 rcases h with h|h<;>obtain⟨h1,h2⟩:=cp h
 .exact O2 h1.symm h2.symm
 .lia
theorem Ti.Nl{t:Ti}{u v:Int}:t.Is u v->t.Is v u:=λh=>h.elim (λh=>.inr (by rw[vw]at h ⊢;exact⟨h.2,h.1⟩)) (λh=>.inl (by rw[vw]at h ⊢;exact⟨h.2,h.1⟩))
structure Lv(n T:Nat)(ts:List Ti)(R:Nat->Nat->List Int):Prop where
 wd:∀i,i<=T->Wd n (R i)
 ed:∀i,i<=T->∀u v:Int,Ed n (R i) u v↔∃t∈ts,t.wd=true/\i<=t.cj/\t.Is u v
 sz:∀i,i<=T->∀x,x<n->((R i x).length+1)*2^i<=2*n
 lt:∀t∈ts,t.x<t.y/\t.y<n/\t.cj<=T
 nd:(ts.map Ti.key).Nodup
def Jn(ts:List Ti)(R:Nat->Nat->List Int):Prop:=∀t∈ts,(t.y:Int)∈R t.cj t.x
theorem jR{ts:List Ti}(h:(ts.map Ti.key).Nodup){t u:Ti}(ht:t∈ts)(hu:u∈ts)(e:t.key=u.key):t=u:=by
 induction ts with
 |nil=>nomatch ht
 |cons s ts ih=>
  rw[aZ,bq]at h
  rcases aw.mp ht with rfl|ht'<;>rcases aw.mp hu with rfl|hu'
  .rfl
  .exact absurd (e▸aN hu') h.1
  .exact absurd (e▸aN ht') h.1
  .exact ih h.2 ht' hu'
def eK(ts:List Ti)(k:Int×Int)(f:Ti->Ti):List Ti:=ts.map λt=>if t.key=k then f t else t
section
variable{n T:Nat}{ts:List Ti}{R:Nat->Nat->List Int}{t:Ti}{f:Ti->Ti}
theorem jL(hf:∀t,(f t).key=t.key)(k:Int×Int):(eK ts k f).map Ti.key=ts.map Ti.key:=by
 unfold eK;rw[a7]
 exact fH λu _=>by
  show Ti.key (if _ then _ else _)=_
  split
  .exact hf u
  .rfl
theorem kQ(hnd:(ts.map Ti.key).Nodup)(ht:t∈ts)(u:Ti):u∈eK ts t.key f↔u=f t\/(u∈ts/\u.key≠t.key):=by
 unfold eK;rw[aI]
 constructor
 .rintro ⟨v,hv,e⟩
  by_cases c:v.key=t.key
  .rw [if_pos c]at e;rw[jR hnd hv ht c]at e;exact .inl e.symm
  .rw [if_neg c]at e;subst e;exact .inr ⟨hv,c⟩
 .rintro (e|⟨h,c⟩)
  .exact ⟨t,ht,by rw[if_pos rfl,e]⟩
  .exact ⟨u,h,if_neg c⟩
theorem Lv.mono(L:Lv n T ts R){i j x:Nat}(hij:i<=j)(hj:j<=T)(hx:x<n):∀c∈R j x,c∈R i x:=
 (L.wd j hj).sub (L.wd i (bw hij hj)) (λu v h=>by
  obtain⟨t,h1,h2,h3,h4⟩:=(L.ed j hj u v).mp h
  exact(L.ed i (bw hij hj) u v).mpr ⟨t,h1,h2,bw hij h3,h4⟩) hx
theorem Lv.apart(L:Lv n T ts R)(ht:t∈ts)(hw:t.wd=true){i:Nat}(hi:t.cj<i)(hT:i<=T):(t.y:Int)∉R i t.x:=by
 obtain⟨h1,h2,h3⟩:=L.lt t ht;have W:=L.wd t.cj h3;have e:Ed n (R t.cj) t.x t.y:=(L.ed _ h3 _ _).mpr ⟨t,ht,hw,ay _,.inl rfl⟩;have c:=W.VN (a:=t.x) (b:=t.y) (by lia) h2 (by lia) e;intro hin;refine c.1 ((L.wd i hT).sub (W.ct (a:=t.x) (b:=t.y) (by lia) h2 (by lia) e) (λu v h=>?_) (by lia) _ hin);obtain⟨s,s1,s2,s3,s4⟩:=(L.ed i hT u v).mp h
 have ne:¬ t.Is u v:=λq=>by
  have:s.key=t.key:=by
   obtain⟨l1,l2,l3⟩:=L.lt s s1
   rcases q with q|q<;>obtain⟨rfl,rfl⟩:=cp q
   .exact Ti.ve l1 h1 s4
   .exact Ti.ve l1 h1 (Ti.Nl s4)
  rw[jR L.nd s1 ht this]at s3;lia
 exact(W.RW (a:=t.x) (b:=t.y) (by lia) h2 (by lia) e u v).mpr ⟨(L.ed _ h3 u v).mpr ⟨s,s1,s2,by lia,s4⟩,λq=>ne (.inl q),λq=>ne (.inr q)⟩
def Xp(R:Nat->Nat->List Int)(j x y:Nat):Nat->Nat->List Int:=λi=>if i=j then lk (R j) x y else R i
def A9(R:Nat->Nat->List Int)(l x y:Nat):Nat->Nat->List Int:=λi=>if i<=l then lk (R i) x y else R i
def MU(R:Nat->Nat->List Int)(l x y:Nat):Nat->Nat->List Int:=λi=>if i<=l then ct (R i) x y else R i
theorem Lv.ve(L:Lv n T ts R){s:Ti}(hs:s∈ts)(ht:t∈ts){u v:Int}(h1:s.Is u v)(h2:t.Is u v):s=t:=by
 refine jR L.nd hs ht ?_
 rcases h2 with q|q<;>obtain⟨rfl,rfl⟩:=cp q
 .exact Ti.ve (L.lt s hs).1 (L.lt t ht).1 h1
 .exact Ti.ve (L.lt s hs).1 (L.lt t ht).1 (Ti.Nl h1)
structure Dn(n T:Nat)(ts:List Ti)(R:Nat->Nat->List Int)(a b k:Nat):Prop where
 lv:Lv n T ts R
 ha:a<n
 hb:b<n
 hk:k<=T+1
 ap:(b:Int)∉R 0 a
 s2:∀i,i<k->((R i a).length+(R i b).length+2)*2^i<=2*n
 jn:∀t∈ts,(t.y:Int)∈R t.cj t.x\/(t.cj<k/\((t.x:Int)∈R t.cj a/\(t.y:Int)∈R t.cj b\/(t.x:Int)∈R t.cj b/\(t.y:Int)∈R t.cj a))
variable{a b k l:Nat}
theorem Dn.swap(D:Dn n T ts R a b k):Dn n T ts R b a k:=
 ⟨D.lv,D.hb,D.ha,D.hk,λh=>D.ap ((D.lv.wd 0 (aK _)).sy D.hb D.ha h),λi hi=>by have:=D.s2 i hi;rwa [OR (R i b).length],λt ht=>(D.jn t ht).imp_right λh=>⟨h.1,h.2.symm⟩⟩
theorem Dn.done(D:Dn n T ts R a b 0):Jn ts R:=λt ht=>(D.jn t ht).resolve_right λh=>by lia
theorem Dn.apart(D:Dn n T ts R a b k){i:Nat}(hi:i<=T):(b:Int)∉R i a:=λh=>D.ap (D.lv.mono (aK _) hi D.ha _ h)
theorem Lv.drop(L:Lv n T ts R)(J:Jn ts R)(ht:t∈ts)(hw:t.wd=true):Dn n T (ts.filter λu=>decide (u.key≠t.key)) (MU R t.cj t.x t.y) t.x t.y (t.cj+1):=by
 obtain⟨h1,h2,h3⟩:=L.lt t ht
 have hx:t.x<n:=by lia
 have hne:t.x≠t.y:=by lia
 have e:∀i,i<=t.cj->Ed n (R i) t.x t.y:=λi hi=>(L.ed i (by lia) _ _).mpr ⟨t,ht,hw,hi,.inl rfl⟩;have lo:∀i,i<=t.cj->MU R t.cj t.x t.y i=ct (R i) t.x t.y:=λi hi=>if_pos hi;have hi':∀i,¬ i<=t.cj->MU R t.cj t.x t.y i=R i:=λi hi=>if_neg hi
 have mm:∀u,u∈ts.filter (λu=>decide (u.key≠t.key))↔u∈ts/\u≠t:=λu=>by rw[bB,decide_eq_true_iff];exact and_congr_right λhu=>not_congr ⟨λq=>jR L.nd hu ht q,λq=>q▸rfl⟩
 have C:=λi (hi:i<=t.cj)=>(L.wd i (by lia)).VN hx h2 hne (e i hi);refine⟨⟨λi hi=>?_,λi hi u v=>?_,λi hi x hx'=>?_,λu hu=>L.lt u ((mm u).mp hu).1,?_⟩,hx,h2,by lia,?_,λi hi=>?_,λu hu=>?_⟩
 .by_cases c:i<=t.cj
  .rw [lo i c];exact(L.wd i hi).ct hx h2 hne (e i c)
  .rw [hi' i c];exact L.wd i hi
 .by_cases c:i<=t.cj
  .rw [lo i c,(L.wd i hi).RW hx h2 hne (e i c),L.ed i hi]
   constructor
   .rintro ⟨⟨s,s1,s2,s3,s4⟩,n1,n2⟩;exact⟨s,(mm s).mpr ⟨s1,λq=>(q▸s4).elim n1 n2⟩,s2,s3,s4⟩
   .rintro ⟨s,s1,s2,s3,s4⟩;have s5:=(mm s).mp s1;exact⟨⟨s,s5.1,s2,s3,s4⟩,λq=>s5.2 (L.ve s5.1 ht s4 (.inl q)),λq=>s5.2 (L.ve s5.1 ht s4 (.inr q))⟩
  .rw [hi' i c,L.ed i hi]
   constructor
   .rintro ⟨s,s1,s2,s3,s4⟩;exact⟨s,(mm s).mpr ⟨s1,λq=>c (q▸s3)⟩,s2,s3,s4⟩
   .rintro ⟨s,s1,s2⟩;exact⟨s,((mm s).mp s1).1,s2⟩
 .refine bw (nV _ (sA ?_)) (L.sz i hi x hx')
  by_cases c:i<=t.cj
  .rw [lo i c];have W':=(L.wd i hi).ct hx h2 hne (e i c);exact MT (W'.r x hx') ((L.wd i hi).r x hx') (W'.sub (L.wd i hi) (λu v q=>(((L.wd i hi).RW hx h2 hne (e i c) u v).mp q).1) hx')
  .rw [hi' i c];exact ay _
 .exact (vt _ fI).nodup L.nd
 .rw [lo 0 (aK _)];exact(C 0 (aK _)).1
 .rw [lo i (by lia)];have:=(C i (by lia)).2.2;have:=L.sz i (by lia) t.x hx
  have e:(ct (R i) t.x t.y t.x).length+(ct (R i) t.x t.y t.y).length+2=(R i t.x).length+1:=by lia
  rw[e];exact this
 .obtain ⟨q1,q2⟩:=(mm u).mp hu;have j:=J u q1;obtain⟨u1,u2,u3⟩:=L.lt u q1
  by_cases c:u.cj<=t.cj
  .rw [lo _ c];have W:=L.wd _ u3;have W':=W.ct hx h2 hne (e _ c)
   by_cases d:(u.x:Int)∈R u.cj t.x
   .have d':(u.y:Int)∈R u.cj t.x:=by rw[W.eq hx (by lia) d];exact j
    rcases((C _ c).2.1 _).mp d with p|p<;>rcases((C _ c).2.1 _).mp d' with p'|p'
    .exact .inl (by rw[← W'.eq hx (by lia) p];exact p')
    .exact .inr ⟨by lia,.inl ⟨p,p'⟩⟩
    .exact .inr ⟨by lia,.inr ⟨p,p'⟩⟩
    .exact .inl (by rw[← W'.eq h2 (by lia) p];exact p')
   .rw [W.XG hx h2 hne (e _ c) d];exact .inl j
  .rw [hi' _ c];exact .inl j
theorem Dn.few(D:Dn n T ts R a b (l+1))(hT:∀j,2^(j+1)<=n->j<=T)(hs:((R l a).length+1)*2^(l+1)<=2*n){x y:Nat}(hx:(x:Int)∈R l a)(hy:(y:Int)∈R l a)(hxy:x≠y):l+1<=T:=by
 have hl:l<=T:=by have:=D.hk;lia
 obtain⟨d,d1,d2,d3⟩:=((D.lv.wd l hl).r a D.ha).cnt
 have:2<=d.length:=by
  have hx':=(d2 _).mpr hx;have hy':=(d2 _).mpr hy
  match d,d1,hx',hy' with
  | [c],_,hx',hy'=>
   rw[ax]at hx' hy'
   lia
  |c::e::r,_,_,_=>simp
 refine hT _ ?_;have h4:4*2^(l+1)<=((R l a).length+1)*2^(l+1):=nV _ (by lia);have:=OS 2 (l+1);lia
theorem Dn.ZV(D:Dn n T ts R a b (l+1))(hT:∀j,2^(j+1)<=n->j<=T)(hs:((R l a).length+1)*2^(l+1)<=2*n)(ht:t∈ts)(hw:t.wd=true)(hl:t.cj=l)(hx:(t.x:Int)∈R l a)(hy:(t.y:Int)∈R l a):l+1<=T/\(t.y:Int)∉R (l+1) t.x/\Dn n T (eK ts t.key Ti.up) (Xp R (l+1) t.x t.y) a b (l+1):=by
 have L:=D.lv;obtain⟨h1,h2,h3⟩:=L.lt t ht;have hl1:l+1<=T:=D.few hT hs hx hy (by lia);have hap:=L.apart ht hw (i:=l+1) (by lia) hl1
 have hxn:t.x<n:=by lia
 have W:=L.wd _ hl1;have hi':∀i,i≠l+1->Xp R (l+1) t.x t.y i=R i:=λi hi=>if_neg hi;have at':Xp R (l+1) t.x t.y (l+1)=lk (R (l+1)) t.x t.y:=if_pos rfl;have mm:=kQ (f:=Ti.up) L.nd ht;have kk:∀u,u∈ts->u≠t->u.key≠t.key:=λu hu hne q=>hne (jR L.nd hu ht q);have lo:=L.wd l (by lia);refine⟨hl1,hap,⟨λi hi=>?_,λi hi u v=>?_,λi hi x hx'=>?_,λu hu=>?_,?_⟩,D.ha,D.hb,D.hk,?_,λi hi=>?_,λu hu=>?_⟩
 .by_cases c:i=l+1
  .subst c;rw[at'];exact W.lk hxn h2 hap
  .rw [hi' i c];exact L.wd i hi
 .have:(∃s∈eK ts t.key Ti.up,s.wd=true/\i<=s.cj/\s.Is u v)↔(i<=l+1/\t.Is u v)\/∃s∈ts,s≠t/\s.wd=true/\i<=s.cj/\s.Is u v:=by
   constructor
   .rintro ⟨s,s1,s2⟩
    rcases(mm s).mp s1 with rfl|⟨q1,q2⟩
    .exact .inl ⟨by have:i<=t.cj+1:=s2.2.1;lia,s2.2.2⟩
    .exact .inr ⟨s,q1,λq=>q2 (q▸rfl),s2⟩
   .rintro (⟨q1,q2⟩|⟨s,s1,s2,s3⟩)
    .exact ⟨t.up,(mm _).mpr (.inl rfl),hw,by show i<=t.cj+1;lia,q2⟩
    .exact ⟨s,(mm _).mpr (.inr ⟨s1,kk s s1 s2⟩),s3⟩
  rw[this]
  have old:Ed n (R i) u v↔(i<=l/\t.Is u v)\/∃s∈ts,s≠t/\s.wd=true/\i<=s.cj/\s.Is u v:=by
   rw[L.ed i hi]
   constructor
   .rintro ⟨s,s1,s2,s3,s4⟩
    by_cases q:s=t
    .subst q;exact .inl ⟨by lia,s4⟩
    .exact .inr ⟨s,s1,q,s2,s3,s4⟩
   .rintro (⟨q1,q2⟩|⟨s,s1,s2,s3⟩)
    .exact ⟨t,ht,hw,by lia,q2⟩
    .exact ⟨s,s1,s3⟩
  by_cases c:i=l+1
  .subst c;rw[at',W.RZ hxn h2 hap,old]
   constructor
   .rintro ((⟨q,_⟩|q)|q)
    .lia
    .exact .inr q
    .exact .inl ⟨ay _,q⟩
   .rintro (⟨_,q⟩|q)
    .exact .inr q
    .exact .inl (.inr q)
  .rw [hi' i c,old];exact or_congr_left (and_congr_left λ_=>by lia)
 .by_cases c:i=l+1
  .subst c;rw[at']
   by_cases d:(x:Int)∈R (l+1) t.x\/(x:Int)∈R (l+1) t.y
   .refine bw (nV _ (sA ?_)) hs;refine MT ((W.lk hxn h2 hap).r x hx') (lo.r a D.ha) λc hc=>?_
    rcases((W.Fl hxn h2 hap d).1 c).mp hc with q|q
    .rw [lo.eq D.ha hxn hx];exact L.mono (gN l) hl1 hxn _ q
    .rw [lo.eq D.ha h2 hy];exact L.mono (gN l) hl1 h2 _ q
   .rw [W.RU hxn h2 hap (λq=>d (.inl q)) (λq=>d (.inr q))];exact L.sz _ hi x hx'
  .rw [hi' i c];exact L.sz i hi x hx'
 .rcases (mm u).mp hu with rfl|⟨q,_⟩
  .exact ⟨h1,h2,by show t.cj+1<=T;lia⟩
  .exact L.lt u q
 .exact (jL (f:=Ti.up) (λ_=>rfl) t.key).symm▸L.nd
 .rw [hi' 0 (by lia)];exact D.ap
 .rw [hi' i (by lia)];exact D.s2 i hi
 .rcases (mm u).mp hu with rfl|⟨q,_⟩
  .have:t.up.cj=l+1:=by show t.cj+1=l+1;lia
   rw[this,at'];exact .inl (((W.Fl (x:=t.x) hxn h2 hap (.inl (W.me _ hxn))).1 _).mpr (.inr (W.me _ h2)))
  .have j:=D.jn u q;obtain⟨u1,u2,u3⟩:=L.lt u q
   by_cases c:u.cj=l+1
   .rw [c]at j ⊢;rw[at'];exact .inl (W.VS hxn h2 hap (by lia) _ (j.resolve_right λq=>by lia))
   .rw [hi' _ c];exact j
theorem Dn.full(D:Dn n T ts R a b (l+1))(hno:∀t∈ts,t.wd=true->t.cj=l->(t.x:Int)∈R l a->(t.y:Int)∈R l a->False)(hl:l+1<=T){x y:Nat}(hx:x<n)(hy:y<n)(h1:(x:Int)∈R l a)(h2:(y:Int)∈R l a):(y:Int)∈R (l+1) x:=by
 have L:=D.lv;have W:=L.wd l (by lia);have V:=L.wd (l+1) hl;have e:=W.eq D.ha hx h1;refine QX (M:=λc=>c∈R (l+1) x) (l:=R l a) (λu v hm=>?_) ⟨x,h1,V.me x hx⟩ y h2;obtain⟨t,t1,t2,t3,t4⟩:=(L.ed l (by lia) u v).mp ⟨a,D.ha,hm⟩;have m:=fY hm
 have ne:t.cj≠l:=λq=>by
  rcases t4 with p|p<;>obtain⟨rfl,rfl⟩:=cp p
  .exact hno t t1 t2 q m.1 m.2
  .exact hno t t1 t2 q m.2 m.1
 have E:Ed n (R (l+1)) u v:=(L.ed _ hl u v).mpr ⟨t,t1,t2,by lia,t4⟩;exact⟨λhu=>(fY (Ed.at V E hx hu)).2,λhv=>(fY (Ed.at V (Ed.symm V E) hx hv)).2⟩
theorem Dn.ZY(D:Dn n T ts R a b (l+1))(ht:t∈ts)(hw:t.wd=false)(hl:t.cj=l)(hl1:l+1<=T)(hj:(t.y:Int)∈R (l+1) t.x):Dn n T (eK ts t.key Ti.up) R a b (l+1):=by
 have L:=D.lv;obtain⟨h1,h2,h3⟩:=L.lt t ht;have mm:=kQ (f:=Ti.up) L.nd ht;have kk:∀u,u∈ts->u≠t->u.key≠t.key:=λu hu hne q=>hne (jR L.nd hu ht q);refine⟨⟨L.wd,λi hi u v=>?_,L.sz,λu hu=>?_,?_⟩,D.ha,D.hb,D.hk,D.ap,D.s2,λu hu=>?_⟩
 .rw [L.ed i hi]
  constructor
  .rintro ⟨s,s1,s2,s3⟩;exact⟨s,(mm s).mpr (.inr ⟨s1,kk s s1 λq=>by rw[q,hw]at s2;exact absurd s2 (by decide)⟩),s2,s3⟩
  .rintro ⟨s,s1,s2,s3⟩
   rcases(mm s).mp s1 with rfl|⟨q,_⟩
   .exact absurd (hw.symm.trans s2) (by decide)
   .exact ⟨s,q,s2,s3⟩
 .rcases (mm u).mp hu with rfl|⟨q,_⟩
  .exact ⟨h1,h2,by show t.cj+1<=T;lia⟩
  .exact L.lt u q
 .exact (jL (f:=Ti.up) (λ_=>rfl) t.key).symm▸L.nd
 .rcases (mm u).mp hu with rfl|⟨q,_⟩
  .have:t.up.cj=l+1:=by show t.cj+1=l+1;lia
   rw[this];exact .inl hj
  .exact D.jn u q
theorem Dn.next(D:Dn n T ts R a b (l+1))(hno:∀t∈ts,t.wd=false->t.cj=l->¬ ((t.x:Int)∈R l a/\(t.y:Int)∉R l a)/\¬ ((t.x:Int)∉R l a/\(t.y:Int)∈R l a)):Dn n T ts R a b l:=by
 have L:=D.lv
 have hl:l<=T:=by have:=D.hk;lia
 refine⟨L,D.ha,D.hb,by lia,D.ap,λi hi=>D.s2 i (by lia),λt ht=>?_⟩;obtain⟨h1,h2,h3⟩:=L.lt t ht
 rcases D.jn t ht with j|⟨j1,j2⟩
 .exact .inl j
 .by_cases c:t.cj=l
  .cases hw:t.wd with
   |true=>
    have E:Ed n (R t.cj) t.x t.y:=(L.ed _ h3 _ _).mpr ⟨t,ht,hw,ay _,.inl rfl⟩
    exact .inl (fY (Ed.at (L.wd _ h3) E (by lia) ((L.wd _ h3).me _ (by lia)))).2
   |false=>
    have q:=hno t ht hw c;have W:=L.wd l hl;have ap:∀z:Int,z∈R l a->z∉R l b:=λz q1 q2=>D.apart hl (by rw[W.same D.ha D.hb q1 q2];exact W.me b D.hb);rw[c]at j2
    rcases j2 with⟨p1,p2⟩|⟨p1,p2⟩
    .exact absurd ⟨p1,λp=>ap _ p p2⟩ q.1
    .exact absurd ⟨λp=>ap _ p p1,p2⟩ q.2
  .exact .inr ⟨by lia,j2⟩
theorem Lv.adopt(L:Lv n T ts R)(ht:t∈ts)(hw:t.wd=false)(hap:∀i,i<=t.cj->(t.y:Int)∉R i t.x)(hs:∀i,i<=t.cj->((R i t.x).length+(R i t.y).length+2)*2^i<=2*n):Lv n T (eK ts t.key Ti.oP) (A9 R t.cj t.x t.y):=by
 obtain⟨h1,h2,h3⟩:=L.lt t ht
 have hxn:t.x<n:=by lia
 have mm:=kQ (f:=Ti.oP) L.nd ht;have kk:∀u,u∈ts->u≠t->u.key≠t.key:=λu hu hne q=>hne (jR L.nd hu ht q);have lo:∀i,i<=t.cj->A9 R t.cj t.x t.y i=lk (R i) t.x t.y:=λi hi=>if_pos hi;have hi':∀i,¬ i<=t.cj->A9 R t.cj t.x t.y i=R i:=λi hi=>if_neg hi;refine⟨λi hi=>?_,λi hi u v=>?_,λi hi x hx'=>?_,λu hu=>?_,?_⟩
 .by_cases c:i<=t.cj
  .rw [lo i c];exact(L.wd i hi).lk hxn h2 (hap i c)
  .rw [hi' i c];exact L.wd i hi
 .have:(∃s∈eK ts t.key Ti.oP,s.wd=true/\i<=s.cj/\s.Is u v)↔(∃s∈ts,s.wd=true/\i<=s.cj/\s.Is u v)\/(i<=t.cj/\t.Is u v):=by
   constructor
   .rintro ⟨s,s1,s2⟩
    rcases(mm s).mp s1 with rfl|⟨q1,q2⟩
    .exact .inr ⟨s2.2.1,s2.2.2⟩
    .exact .inl ⟨s,q1,s2⟩
   .rintro (⟨s,s1,s2,s3⟩|⟨q1,q2⟩)
    .exact ⟨s,(mm _).mpr (.inr ⟨s1,kk s s1 λq=>by rw[q,hw]at s2;exact absurd s2 (by decide)⟩),s2,s3⟩
    .exact ⟨t.oP,(mm _).mpr (.inl rfl),rfl,q1,q2⟩
  rw[this,← L.ed i hi]
  by_cases c:i<=t.cj
  .rw [lo i c,(L.wd i hi).RZ hxn h2 (hap i c)];exact or_congr_right ⟨λq=>⟨c,q⟩,λq=>q.2⟩
  .rw [hi' i c];exact⟨.inl,λq=>q.elim id λq=>absurd q.1 c⟩
 .by_cases c:i<=t.cj
  .rw [lo i c]
   by_cases d:(x:Int)∈R i t.x\/(x:Int)∈R i t.y
   .rw [((L.wd i hi).Fl hxn h2 (hap i c) d).2];exact hs i c
   .rw [(L.wd i hi).RU hxn h2 (hap i c) (λq=>d (.inl q)) (λq=>d (.inr q))];exact L.sz _ hi x hx'
  .rw [hi' i c];exact L.sz i hi x hx'
 .rcases (mm u).mp hu with rfl|⟨q,_⟩
  .exact ⟨h1,h2,h3⟩
  .exact L.lt u q
 .exact (jL (f:=Ti.oP) (λ_=>rfl) t.key).symm▸L.nd
theorem Lv.JT(L:Lv n T ts R)(ht:t∈ts)(hap:∀i,i<=t.cj->(t.y:Int)∉R i t.x){i x:Nat}(hi:i<=T)(hx:x<n):∀c∈R i x,c∈A9 R t.cj t.x t.y i x:=by
 obtain⟨h1,h2,h3⟩:=L.lt t ht
 by_cases c:i<=t.cj
 .have e:A9 R t.cj t.x t.y i=lk (R i) t.x t.y:=if_pos c;rw[e];exact(L.wd i hi).VS (by lia) h2 (hap i c) hx
 .have e:A9 R t.cj t.x t.y i=R i:=if_neg c;rw[e];exactλ_ h=>h
theorem Dn.adopt(D:Dn n T ts R a b (l+1))(ht:t∈ts)(hw:t.wd=false)(hl:t.cj=l)(h:(t.x:Int)∈R l a/\(t.y:Int)∉R l a\/(t.x:Int)∉R l a/\(t.y:Int)∈R l a):(∀i,i<=t.cj->(t.y:Int)∉R i t.x)/\Lv n T (eK ts t.key Ti.oP) (A9 R t.cj t.x t.y)/\Jn (eK ts t.key Ti.oP) (A9 R t.cj t.x t.y):=by
 have L:=D.lv;obtain⟨h1,h2,h3⟩:=L.lt t ht
 have hxn:t.x<n:=by lia
 have W:=L.wd t.cj h3
 have j:(t.x:Int)∈R t.cj a/\(t.y:Int)∈R t.cj b\/(t.x:Int)∈R t.cj b/\(t.y:Int)∈R t.cj a:=by
  rcases D.jn t ht with j|j
  .rw [← hl]at h
   rcases h with⟨p1,p2⟩|⟨p1,p2⟩
   .exact absurd (by rw[W.eq D.ha hxn p1];exact j) p2
   .exact absurd (by rw[W.eq D.ha h2 p2];exact W.sy hxn h2 j) p1
  .exact j.2
 -- at each lower level the one end is on the one side,the other on the other
 have j':∀i,i<=t.cj->(R i t.x=R i a/\R i t.y=R i b)\/(R i t.x=R i b/\R i t.y=R i a):=λi hi=>by
  have V:=L.wd i (by lia)
  rcases j with⟨p1,p2⟩|⟨p1,p2⟩
  .exact .inl ⟨(V.eq D.ha hxn (L.mono hi h3 D.ha _ p1)).symm,(V.eq D.hb h2 (L.mono hi h3 D.hb _ p2)).symm⟩
  .exact .inr ⟨(V.eq D.hb hxn (L.mono hi h3 D.hb _ p1)).symm,(V.eq D.ha h2 (L.mono hi h3 D.ha _ p2)).symm⟩
 have hap:∀i,i<=t.cj->(t.y:Int)∉R i t.x:=λi hi q=>by
  have V:=L.wd i (by lia);have e:=V.eq hxn h2 q;have n:=D.apart (i:=i) (by lia)
  rcases j' i hi with⟨p1,p2⟩|⟨p1,p2⟩
  .exact n (by rw[← p1,e,p2];exact V.me b D.hb)
  .exact n (by rw[← p2,← e,p1];exact V.me b D.hb)
 have L':=L.adopt ht hw hap λi hi=>by
  have:=D.s2 i (by lia)
  rcases j' i hi with⟨p1,p2⟩|⟨p1,p2⟩
  .rw [p1,p2];exact this
  .rw [p1,p2,OR (R i b).length];exact this
 refine⟨hap,L',λu hu=>?_⟩
 have lo:∀i,i<=t.cj->∀z:Nat,(z:Int)∈R i t.x\/(z:Int)∈R i t.y->∀c,c∈A9 R t.cj t.x t.y i z↔c∈R i t.x\/c∈R i t.y:=λi hi z hz=>by have:A9 R t.cj t.x t.y i=lk (R i) t.x t.y:=if_pos hi;rw[this];exact((L.wd i (by lia)).Fl hxn h2 (hap i hi) hz).1
 rcases(kQ (f:=Ti.oP) L.nd ht u).mp hu with rfl|⟨q,_⟩
 .exact (lo t.cj (ay _) t.x (.inl (W.me _ hxn)) _).mpr (.inr (W.me _ h2))
 .obtain ⟨u1,u2,u3⟩:=L.lt u q
  rcases D.jn u q with j|⟨k1,k2⟩
  .exact L.JT ht hap u3 (by lia) _ j
  .have V:=L.wd _ u3
   have c:u.cj<=t.cj:=by lia
   rcases j' _ c with⟨p1,p2⟩|⟨p1,p2⟩<;>rcases k2 with⟨k3,k4⟩|⟨k3,k4⟩<;>rw[← p1]at *<;>rw[← p2]at *
   .exact (lo _ c _ (.inl k3) _).mpr (.inr k4)
   .exact (lo _ c _ (.inr k3) _).mpr (.inl k4)
   .exact (lo _ c _ (.inr k3) _).mpr (.inl k4)
   .exact (lo _ c _ (.inl k3) _).mpr (.inr k4)
theorem Lv.ZW(L:Lv n T ts R)(J:Jn ts R)(ht:t∈ts)(hw:t.wd=false):Lv n T (ts.filter λu=>decide (u.key≠t.key)) R/\Jn (ts.filter λu=>decide (u.key≠t.key)) R:=by
 have mm:∀u,u∈ts.filter (λu=>decide (u.key≠t.key))↔u∈ts/\u≠t:=λu=>by rw[bB,decide_eq_true_iff];exact and_congr_right λhu=>not_congr ⟨λq=>jR L.nd hu ht q,λq=>q▸rfl⟩
 refine⟨⟨L.wd,λi hi u v=>?_,L.sz,λu hu=>L.lt u ((mm u).mp hu).1,(vt _ fI).nodup L.nd⟩,λu hu=>J u ((mm u).mp hu).1⟩;rw[L.ed i hi]
 constructor
 .rintro ⟨s,s1,s2,s3⟩;exact⟨s,(mm s).mpr ⟨s1,λq=>by rw[q,hw]at s2;exact absurd s2 (by decide)⟩,s2,s3⟩
 .rintro ⟨s,s1,s2⟩;exact⟨s,((mm s).mp s1).1,s2⟩
theorem Lv.put(L:Lv n T ts R){x y:Nat}(hxy:x<y)(hy:y<n)(hk:((x:Int),(y:Int))∉ts.map Ti.key):Lv n T (ts++[⟨x,y,0,false⟩]) R:=by
 refine⟨L.wd,λi hi u v=>?_,L.sz,λu hu=>?_,?_⟩
 .rw [L.ed i hi]
  constructor
  .rintro ⟨s,s1,s2⟩;exact⟨s,d5 _ s1,s2⟩
  .rintro ⟨s,s1,s2,s3⟩
   rcases aL.mp s1 with q|q
   .exact ⟨s,q,s2,s3⟩
   .rw [ax.mp q]at s2;exact absurd s2 bM
 .rcases aL.mp hu with q|q
  .exact L.lt u q
  .rw [ax.mp q];exact⟨hxy,hy,aK _⟩
 .rw [aH,du];exact⟨L.nd,by simp,λp hp q hq e=>hk (by rw[zw,ax]at hq;have e2:p=((x:Int),(y:Int)):=e.trans hq;rw[← e2];exact hp)⟩
theorem Lv.start(n T:Nat)(hn:2^(T+1)<=n\/T=0):Lv n T [] (λ_ i=>[(i:Int)]):=
 ⟨λi _=>Wd.start n,λi _ u v=>⟨λ⟨j,_,hm⟩=>by simp[al]at hm,λ⟨t,h,_⟩=>nomatch h⟩,λi hi x hx=>by
  show 2*2^i<=2*n
  refine Nat.mul_le_mul_left 2 ?_
  rcases hn with h|h
  .exact bw (So (by decide) (by lia)) h
  .have:i=0:=by lia
   subst this
   simp;lia,(λt h=>nomatch h),vq⟩
theorem qX{α:Type}[DecidableEq α]:∀{l m:List α},l.Nodup->(∀x∈l,x∈m)->l.length<=m.length
 | [],m,_,_=>aK _
 |a::l,m,hn,h=>by obtain⟨h1,h2⟩:=bq.mp hn;have hm:=h a aj;have:=qX (l:=l) (m:=m.erase a) h2 λx hx=>(List.mem_erase_of_ne (λe:x=a=>h1 (e▸hx))).mpr (h x (ag _ hx));rw[Kj hm]at this;have:=l6 hm;simp only[bR];lia
structure Lo1(n T lv s o:Nat)(ts:List Ti)(R:Nat->Nat->List Int)(ps:List (Int×Int))(i:Nat)(ts1:List Ti)(R1:Nat->Nat->List Int):Prop where
 dn:Dn n T ts1 R1 s o (lv+1)
 rl:R1 lv=R lv
 ks:ts1.map Ti.key=ts.map Ti.key
 pend:∀t∈ts1,t.wd=true->t.cj=lv->(t.x:Int)∈R lv s->(t.y:Int)∈R lv s->t.key∈ps.drop i
 rem:∀p∈ps.drop i,∃t∈ts1,t.key=p/\t.wd=true/\t.cj=lv/\(t.x:Int)∈R lv s/\(t.y:Int)∈R lv s
 all:∀p∈ps,∃t∈ts1,t.key=p/\t.wd=true
variable{s o lv i:Nat}{ps:List (Int×Int)}{p:Int×Int}{ts1:List Ti}{R1:Nat->Nat->List Int}
theorem Lo1.step(L:Lo1 n T lv s o ts R ps i ts1 R1)(hT:∀j,2^(j+1)<=n->j<=T)(hs:((R lv s).length+1)*2^(lv+1)<=2*n)(hn:ps.Nodup)(hi:ps[i]?=some p):∃t∈ts1,t.key=p/\t.wd=true/\t.cj+1<=T/\(t.y:Int)∉R1 (t.cj+1) t.x/\Lo1 n T lv s o ts R ps (i+1) (eK ts1 t.key Ti.up) (Xp R1 (t.cj+1) t.x t.y):=by
 obtain⟨hlt,he⟩:=av.mp hi
 have ed:ps.drop i=p::ps.drop (i+1):=by rw[fU hlt,he]
 have hpn:p∉ps.drop (i+1):=by have:=(UR i ps).nodup hn;rw[ed]at this;exact(bq.mp this).1
 obtain⟨t,t1,t2,t3,t4,t5,t6⟩:=L.rem p (by rw[ed];exact aj);have hnd:=L.dn.lv.nd;have q:=L.dn.ZV hT (by rw[L.rl];exact hs) t1 t3 t4 (by rw[L.rl];exact t5) (by rw[L.rl];exact t6);have mm:=kQ (f:=Ti.up) hnd t1;rw[← t4]at q;refine⟨t,t1,t2,t3,q.1,q.2.1,by rw[t4]at q ⊢;exact q.2.2,?_,?_,λu hu h1 h2 h3 h4=>?_,λp' hp'=>?_,λp' hp'=>?_⟩
 .show (if _ then _ else _)=_
  rw[if_neg (by lia)];exact L.rl
 .rw [jL (f:=Ti.up) (λ_=>rfl)];exact L.ks
 .rcases (mm u).mp hu with rfl|⟨h5,h6⟩
  .exact absurd h2 (by show¬ t.cj+1=lv;lia)
  .have:=L.pend u h5 h1 h2 h3 h4;rw[ed]at this;exact(aw.mp this).resolve_left λe=>h6 (e.trans t2.symm)
 .obtain ⟨u,u1,u2,u3⟩:=L.rem p' (by rw[ed];exact ag _ hp');exact⟨u,(mm u).mpr (.inr ⟨u1,λe=>hpn (by rw[← t2,← e,u2];exact hp')⟩),u2,u3⟩
 .obtain ⟨u,u1,u2,u3⟩:=L.all p' hp'
  by_cases c:u.key=t.key
  .exact ⟨t.up,(mm _).mpr (.inl rfl),by rw[← u2,c];rfl,t3⟩
  .exact ⟨u,(mm u).mpr (.inr ⟨u1,c⟩),u2,u3⟩
structure Oy(n T lv s o:Nat)(ts:List Ti)(R:Nat->Nat->List Int)(ps:List (Int×Int))(i:Nat)(ts1:List Ti):Prop where
 dn:Dn n T ts1 R s o (lv+1)
 ks:ts1.map Ti.key=ts.map Ti.key
 full:lv+1<=T->∀x y,x<n->y<n->(x:Int)∈R lv s->(y:Int)∈R lv s->(y:Int)∈R (lv+1) x
 rem:∀p∈ps.drop i,∃t∈ts1,t.key=p/\t.wd=false/\t.cj=lv
 done:∀t∈ts1,t.wd=false->t.cj=lv->t.key∈ps.drop i\/((t.x:Int)∉R lv s/\(t.y:Int)∉R lv s)
theorem Oy.at(L:Oy n T lv s o ts R ps i ts1)(hn:ps.Nodup)(hi:ps[i]?=some p):∃t∈ts1,t.key=p/\t.wd=false/\t.cj=lv/\ps.drop i=p::ps.drop (i+1)/\p∉ps.drop (i+1):=by
 obtain⟨hlt,he⟩:=av.mp hi
 have ed:ps.drop i=p::ps.drop (i+1):=by rw[fU hlt,he]
 obtain⟨t,t1,t2,t3,t4⟩:=L.rem p (by rw[ed];exact aj);refine⟨t,t1,t2,t3,t4,ed,?_⟩;have:=(UR i ps).nodup hn;rw[ed]at this;exact(bq.mp this).1
theorem Oy.zero(L:Oy n T lv s o ts R ps i ts1)(hn:ps.Nodup)(hi:ps[i]?=some p)(h1:p.1∉R lv s)(h2:p.2∉R lv s):Oy n T lv s o ts R ps (i+1) ts1:=by
 obtain⟨t,t1,t2,t3,t4,ed,hp⟩:=L.at hn hi;refine⟨L.dn,L.ks,L.full,λq hq=>L.rem q (by rw[ed];exact ag _ hq),λu u1 u2 u3=>?_⟩
 rcases L.done u u1 u2 u3 with h|h
 .rw [ed]at h
  rcases aw.mp h with e|h
  .have e1:(u.x:Int)=p.1:=by rw[← e];rfl
   have e2:(u.y:Int)=p.2:=by rw[← e];rfl
   exact .inr (by rw[e1,e2];exact⟨h1,h2⟩)
  .exact .inl h
 .exact .inr h
theorem Oy.two(L:Oy n T lv s o ts R ps i ts1)(hT:∀j,2^(j+1)<=n->j<=T)(hs:((R lv s).length+1)*2^(lv+1)<=2*n)(hn:ps.Nodup)(hi:ps[i]?=some p)(h1:p.1∈R lv s)(h2:p.2∈R lv s):∃t∈ts1,t.key=p/\t.wd=false/\Oy n T lv s o ts R ps (i+1) (eK ts1 t.key Ti.up):=by
 obtain⟨t,t1,t2,t3,t4,ed,hp⟩:=L.at hn hi;subst t2;have hl:=L.dn.lv.lt t t1;have hT1:=L.dn.few hT hs (x:=t.x) (y:=t.y) h1 h2 (by lia);have mm:=kQ (f:=Ti.up) L.dn.lv.nd t1;refine⟨t,t1,rfl,t3,L.dn.ZY t1 t3 t4 hT1 (L.full hT1 _ _ (by lia) hl.2.1 h1 h2),?_,L.full,λq hq=>?_,λu hu h3 h4=>?_⟩
 .rw [jL (f:=Ti.up) (λ_=>rfl)];exact L.ks
 .obtain ⟨u,u1,u2,u3⟩:=L.rem q (by rw[ed];exact ag _ hq);exact⟨u,(mm u).mpr (.inr ⟨u1,λe=>hp (by rw[← e,u2];exact hq)⟩),u2,u3⟩
 .rcases (mm u).mp hu with rfl|⟨h5,h6⟩
  .exact absurd h4 (by show¬ t.cj+1=lv;lia)
  .rcases L.done u h5 h3 h4 with h|h
   .rw [ed]at h;exact .inl ((aw.mp h).resolve_left h6)
   .exact .inr h
theorem Oy.one(L:Oy n T lv s o ts R ps i ts1)(hn:ps.Nodup)(hi:ps[i]?=some p)(h:p.1∈R lv s/\p.2∉R lv s\/p.1∉R lv s/\p.2∈R lv s):∃t∈ts1,t.key=p/\(∀i,i<=t.cj->(t.y:Int)∉R i t.x)/\Lv n T (eK ts1 t.key Ti.oP) (A9 R t.cj t.x t.y)/\Jn (eK ts1 t.key Ti.oP) (A9 R t.cj t.x t.y):=by obtain⟨t,t1,t2,t3,t4,ed,hp⟩:=L.at hn hi;subst t2;exact⟨t,t1,rfl,L.dn.adopt t1 t3 t4 h⟩
theorem Oy.fin(L:Oy n T lv s o ts R ps i ts1)(hi:ps.length<=i):Dn n T ts1 R s o lv:=L.dn.next λt ht h1 h2=>by
 rcases L.done t ht h1 h2 with h|⟨h3,h4⟩
 .rw [vz.mpr hi]at h;cases h
 .exact ⟨λq=>h3 q.1,λq=>h4 q.2⟩
end
end Rm
namespace Rm
abbrev Srt(m:List (List Int)):Prop:=m.Pairwise λz w=>L2.fo w z=false
noncomputable def xR(l:List (List Int)):List (List Int):=Ny λm=>m.Perm l/\Srt m
theorem Al{l m:List (List Int)}(h:m.Perm l)(p:Srt m):m=xR l:=by
 obtain⟨h',p'⟩:(xR l).Perm l/\Srt (xR l):=Hr (p:=λm:List (List Int)=>m.Perm l/\Srt m) ⟨m,h,p⟩;refine oU (λa b _ _ h1 h2=>?_) p p' (h.trans h'.symm)
 rcases L2.qd h2 with z|z
 .rw [h1]at z;cases z
 .exact z
noncomputable def CW(r:List Int):List Int:=Ny λk=>k.Pairwise (· < ·)/\∀z,z∈k↔z∈r
theorem QY{r k:List Int}(h:k.Pairwise (· < ·))(p:∀z,z∈k↔z∈r):k=CW r:=by
 obtain⟨h',p'⟩:(CW r).Pairwise (· < ·)/\∀z,z∈CW r↔z∈r:=Hr (p:=λk:List Int=>k.Pairwise (· < ·)/\∀z,z∈k↔z∈r) ⟨k,h,p⟩
 have nd:∀{l:List Int},l.Pairwise (· < ·)->l.Nodup:=λq=>q.imp λh e=>by lia
 exact oU (λa b _ _ h1 h2=>by lia) h h' ((List.perm_ext_iff_of_nodup (nd h) (nd h')).mpr λz=>(p z).trans (p' z).symm)
def ew(x y:Int)(S:List Int):Nat:=(if x∈S then 1 else 0)+(if y∈S then 1 else 0)
theorem MV{x y:Int}{S S':List Int}(h:∀z,z∈S↔z∈S'):ew x y S=ew x y S':=by unfold ew;simp only[h]
structure Rw where
 (lv:Nat) (sd:List Int) (rs:List (List Int)) (fd:Option (Int×Int))
def pl(p:Int×Int):List Int:=[p.1,p.2]
abbrev TR:=List Ti×(Nat->Nat->List Int)
def IC(l:Nat)(s:TR)(p:Int×Int):TR:=(eK s.1 p Ti.up,Xp s.2 (l+1) p.1.toNat p.2.toNat)
def ID(S:List Int):List (Int×Int)->List Ti->List (Int×Int)->List Ti×List (Int×Int)×Option (Int×Int)
 | [],ts,c=>(ts,c,none)
 |p::ps,ts,c=>if ew p.1 p.2 S=1 then(ts,c,some p)else if ew p.1 p.2 S=2 then ID S ps (eK ts p Ti.up) (c++[p])else ID S ps ts c
def kp(z:List Int):Int×Int:=(z.getD 1 0,z.getD 2 0)
noncomputable def KW(ts:List Ti)(l:Nat)(w:Bool):List (Int×Int):=(xR (((ts.filter λu=>decide (u.cj=l)).filter λu=>decide (u.wd=w)).map λu=>[0,(u.x:Int),(u.y:Int)])).map kp
noncomputable def Ba(S:List Int)(l:Nat)(s:TR):List (Int×Int):=(KW s.1 l true).filter λp=>decide (ew p.1 p.2 S=2)
noncomputable def Bb(S:List Int)(l:Nat)(s:TR):List Ti×List (Int×Int)×Option (Int×Int):=
 ID S (KW ((Ba S l s).foldl (IC l) s).1 l false) ((Ba S l s).foldl (IC l) s).1 (Ba S l s)
noncomputable def kA(x y l:Nat)(s:TR):Rw×TR:=
 let S:=s.2 l (if(s.2 l x).length<=(s.2 l y).length then x else y)
 let g:=Bb S l s
 let R:=((Ba S l s).foldl (IC l) s).2
 (⟨l,CW S,xR (g.2.1.map pl),g.2.2⟩,match g.2.2 with
  |none=>(g.1,R)
  |some p=>(eK g.1 p Ti.oP,A9 R l p.1.toNat p.2.toNat))
section
variable{x y l:Nat}{c:List (Int×Int)}{s:TR}{S:List Int}{ts:List Ti}{R:Nat->Nat->List Int}{p:Int×Int}
theorem Bc(hS:S=s.2 l (if(s.2 l x).length<=(s.2 l y).length then x else y))(hg:Bb S l s=(ts,c,none))(hR:((Ba S l s).foldl (IC l) s).2=R):kA x y l s=(⟨l,CW S,xR (c.map pl),none⟩,(ts,R)):=by unfold kA;rw[← hS];simp only[hg,hR]
theorem Bd(hS:S=s.2 l (if(s.2 l x).length<=(s.2 l y).length then x else y))(hg:Bb S l s=(ts,c,some p))(hR:((Ba S l s).foldl (IC l) s).2=R):kA x y l s=(⟨l,CW S,xR (c.map pl),some p⟩,(eK ts p Ti.oP,A9 R l p.1.toNat p.2.toNat)):=by unfold kA;rw[← hS];simp only[hg,hR]
end
noncomputable def jY(x y:Nat):Nat->TR->List Rw×TR
 | 0,s=>([],s)
 |l+1,s=>match (kA x y l s).1.fd with
  |none=>((kA x y l s).1::(jY x y l (kA x y l s).2).1,(jY x y l (kA x y l s).2).2)
  |some _=>([(kA x y l s).1],(kA x y l s).2)
theorem Be{x y l:Nat}{s s':TR}{r:Rw}(h:(r,s')=kA x y l s)(hf:r.fd=none):jY x y (l+1) s=(r::(jY x y l s').1,(jY x y l s').2):=by unfold jY;rw[← h];simp only[hf];rw[jY.eq_def]
theorem Bg{x y l:Nat}{s s':TR}{r:Rw}(h:(r,s')=kA x y l s)(hf:r.fd≠none):jY x y (l+1) s=([r],s'):=by
 unfold jY;rw[← h]
 cases e:r.fd with
 |none=>exact absurd e hf
 |some p=>simp only[e]
def tu(n T x y:Nat):Nat->TR->Prop
 | 0,_=>True
 |l+1,s=>Dn n T s.1 s.2 x y (l+1)/\((kA x y l s).1.fd=none->tu n T x y l (kA x y l s).2)
theorem tu.go{n T x y l:Nat}{s s':TR}{r:Rw}(D:Dn n T s.1 s.2 x y (l+1))(h:(r,s')=kA x y l s)(k:r.fd=none->tu n T x y l s'):tu n T x y (l+1) s:=by refine⟨D,?_⟩;rw[← h];exact k
noncomputable def kB(u:Ti)(s:TR):List Rw×TR:=
 if u.wd then jY u.x u.y (u.cj+1) (s.1.filter λv=>decide (v.key≠u.key),MU s.2 u.cj u.x u.y)else([],(s.1.filter λv=>decide (v.key≠u.key),s.2))
end Rm
namespace L2
abbrev Ln(sp:Sp)(k:Nat):Prop:=∀vs H Q E,sp vs H Q E->vs.length=k
abbrev Rn(sp:Sp)(rd:TS)(N:List bF):Prop:=∀vs H Q E,sp vs H Q E->rd { nx:=λ_ H'=>Q .non H',rt:=Q } (start N vs) H
abbrev Rx(sp:Sp)(rd:XK->TS)(N:List bF):Prop:=∀vs H Q E,sp vs H Q E->rd E { nx:=λ_ H'=>Q .non H',rt:=Q } (start N vs) H
theorem gm{α β:Type}{f:α->β}{xs:List α}{i:Nat}{v:β}(h:(xs.map f)[i]?=some v):∃t,xs[i]?=some t/\f t=v:=dz.mp (aG▸h)
theorem nW{k:Nat}(h:Nat.ble k 100000=true:=by rfl):k<=aY:=di (Nat.le_of_ble_eq_true h)
theorem ig{H H':Hp}{q:ai}{o:HO}(e:upd H q o=H')(h:H q=none):bU H H'/\H' q=some o:=e▸⟨bU.cw h,aC⟩
theorem ij.m{j k:Nat}{A:cT}(r:ij k A)(h:j<=k:=by decide):ij j A:=r.mono h
end L2
local macro_rules | `(tactic| walk_at "s")=>`(tactic| exact ⟨rfl,rfl,rfl,by decide +kernel,rfl,by decide +kernel,by decide +kernel⟩)
local macro_rules | `(tactic| k_in)=>`(tactic| (lk;refine L2.xN ?_;lk))
local macro_rules | `(tactic| k_go)=>`(tactic| (lk;refine L2.mJ ?_;lk))
local macro_rules | `(tactic| walk_at "l")=>`(tactic| first|(intro vs H Q E h;cases h;subst_vars;rfl)|(intro vs H Q E h;repeat' (first|(obtain ⟨e,_⟩:=h;exact e▸rfl)|(obtain ⟨_,h⟩:=h))))
namespace K40
open PySem PySem.Spec PyProof.Rows L2
abbrev Zp:List bF:=["_law_script","_law_head","_law_first","_law_n","_law_shape_here","_law_many","_law_free","_law_cells","_law_keeper","_law_state","_law_a","_law_b","_law_cell","_law_deed_here"]
abbrev De:List bF:=["level","side","risen","found"]
abbrev sZ:List bF:=["self","a","b"]
abbrev Zq:List bF:=["_law_state","_law_gone","_law_level","_law_in_wood","_law_trail","_law_side_here","_law_risen","_law_sought","_law_tie"]
abbrev Zr:List bF:=["_law_table_here","_law_n","_law_cell","_law_known","_law_rest","_law_high","_law_some","_law_a","_law_b","_law_tie"]
abbrev vT:List bF:=["self","tie"]
abbrev IE:List bF:=["self","tie","weight"]
abbrev Zs:List bF:=["_law_known","_law_a","_law_near","_law_one","_law_other","_law_seen","_law_row","_law_k"]
abbrev Zu:List bF:=["_law_keeper","_law_state","_law_deed_here","_law_back","_law_a","_law_b","_law_said"]
abbrev Zv:List bF:=["_law_state","_law_gone","_law_i","_law_wood_here","_law_one","_law_other"]
abbrev qo:List bF:=["self","n"]
abbrev Vk:List bF:=["row","a","b","along","there","back","k","m","inner","outer"]
abbrev MW:List bF:=["a","b","level","in_wood","n"]
abbrev Vl:List bF:=["_law_row","_law_cell","_law_size","_law_cut","_law_turned_row"]
abbrev Vm:List bF:=["_law_known","_law_n","_law_cell","_law_a","_law_b","_law_tie"]
abbrev MX:List bF:=["n","standing","a","b","tie"]
abbrev Vn:List bF:=["_law_state","_law_i","_law_side_here","_law_risen","_law_tie"]
abbrev EO:List bF:=["ties","weight_of"]
abbrev yK:List bF:=["n","a","b"]
abbrev Vo:List bF:=["_law_keeper","_law_state","_law_deed_here","_law_back"]
abbrev Vp:List bF:=["self","level","tie","side","risen","other","ends"]
abbrev yL:List bF:=["n","thing"]
abbrev MY:List bF:=["n","standing","a","b"]
abbrev yM:List bF:=["self","a"]
abbrev MZ:List bF:=["_law_script","_law_k"]
abbrev M0:List bF:=["_law_state","_law_i"]
abbrev M1:List bF:=["self","level","tie"]
abbrev Vq:List bF:=["self","tie","level","looking","trail"]
abbrev Vr:List bF:=["_law_table_here","_law_n","_law_cell"]
abbrev Vs:List bF:=["_law_state","_law_i","_law_side_here"]
abbrev Vt:List bF:=["_law_state","_law_tie","_law_apart"]
abbrev Vu:List bF:=["_law_state","_law_gone","_law_i"]
abbrev Vv:List bF:=["_law_known","_law_n","_law_cell"]
abbrev yN:List bF:=["thing"]
abbrev Vw:List bF:=["_law_n","_law_cell","_law_way"]
abbrev IF:List bF:=["_law_state"]
abbrev Vx:List bF:=["self","level","wooden","ties"]
abbrev Bh:List bF:=["_law_k"]
abbrev QZ:List bF:=["_law_n","_law_cell"]
abbrev M3:List bF:=["tie","side"]
abbrev M4:List bF:=["_law_script"]
abbrev IG:List bF:=["_law_row"]
def lI(i:Nat):dP:=PySem.Challenge.pw_tiewood_k40_whole_keeper_by_the_letter.main.body.getD i (.Pass ⟨0,0,0,0⟩)
abbrev ER:dP:=lI 3
abbrev ES:dP:=lI 4
abbrev ET:dP:=lI 5
abbrev stop:dP:=lI 6
abbrev M5:dP:=lI 7
abbrev M6:dP:=lI 9
abbrev Q0:dP:=lI 10
abbrev Q1:dP:=lI 11
abbrev vU:dP:=lI 21
abbrev M7:dP:=lI 22
abbrev IH:dP:=lI 23
abbrev M8:dP:=lI 24
abbrev pq:dP:=lI 26
abbrev oe:dP:=lI 27
abbrev qp:dP:=lI 28
abbrev xS:dP:=lI 31
abbrev vV:dP:=lI 32
abbrev II:dP:=lI 35
abbrev tQ:dP:=lI 36
abbrev tR:dP:=lI 41
abbrev yO:dP:=lI 42
abbrev yP:dP:=lI 43
abbrev Bi:dP:=lI 44
abbrev tS:dP:=lI 45
abbrev Bj:dP:=lI 46
abbrev Bk:dP:=lI 47
abbrev EU:dP:=lI 48
abbrev EV:dP:=lI 49
abbrev EW:dP:=lI 50
abbrev yQ:dP:=lI 51
abbrev Bl:dP:=lI 52
abbrev vW:dP:=lI 53
abbrev Zw:dP:=lI 54
abbrev qY:dP:=fG (lI 29) 0
abbrev Bn:dP:=fG (lI 29) 1
abbrev Bo:dP:=fG (lI 29) 2
abbrev EX:dP:=fG (lI 29) 3
abbrev vX:dP:=fG (lI 29) 4
abbrev yR:dP:=fG (lI 29) 5
abbrev Bp:dP:=fG (lI 29) 6
abbrev pC:dP:=fG (lI 33) 0
abbrev yS:dP:=fG (lI 33) 1
abbrev tT:dP:=fG (lI 33) 2
abbrev vY:dP:=fG (lI 33) 3
abbrev vZ:dP:=fG (lI 33) 4
abbrev pD:dP:=fG (lI 33) 5
abbrev v5:dP:=fG (lI 33) 6
abbrev mK:dP:=fG (lI 33) 7
abbrev v7:dP:=fG (lI 33) 8
abbrev v8:dP:=fG (lI 33) 9
abbrev qZ:dP:=fG (lI 37) 0
abbrev tU:dP:=fG (lI 37) 1
abbrev EY:dP:=fG (lI 37) 2
abbrev Bq:dP:=fG (lI 37) 6
abbrev yT:dP:=fG (lI 39) 0
theorem KY:bO yN yN (a0 ER):=by walk_at "s"
theorem KZ:bO yN yN (a0 ES):=by walk_at "s"
theorem K0:bO yL yL (a0 ET):=by walk_at "s"
theorem Q2:bO ["n","level","needed"] ["n"] (a0 stop):=by walk_at "s"
theorem Q3:bO ["a","b"] ["a","b"] (a0 M5):=by walk_at "s"
theorem Q4:bO ["n","ties"] ["n","ties"] (a0 M6):=by walk_at "s"
theorem Uc:bO ["trail"] ["trail"] (a0 Q0):=by walk_at "s"
theorem M9:bO ["trail","finds"] ["trail"] (a0 Q1):=by walk_at "s"
theorem Dg:bO ["row"] ["row"] (a0 vU):=by walk_at "s"
theorem IJ:bO ["row","a","k"] ["row","a"] (a0 M7):=by walk_at "s"
theorem EZ:bO ["row","other","a","b","k"] ["row","other","a","b"] (a0 IH):=by walk_at "s"
theorem Br:bO Vk ["row","a","b"] (a0 M8):=by walk_at "s"
theorem v9:bO yL yL (a0 pq):=by walk_at "s"
theorem uS:bO yK yK (a0 oe):=by walk_at "s"
theorem xU:bO yK yK (a0 qp):=by walk_at "s"
theorem K1:bO EO EO (a0 xS):=by walk_at "s"
theorem Dh:bO M3 M3 (a0 vV):=by walk_at "s"
theorem Oa:bO MX MY (a0 II):=by walk_at "s"
theorem Bt:bO MX MY (a0 tQ):=by walk_at "s"
theorem Bu:bO MZ MZ (a0 tR):=by walk_at "s"
theorem FX:bO Vw QZ (a0 yO):=by walk_at "s"
theorem FY:bO Vl ["_law_row","_law_cell"] (a0 yP):=by walk_at "s"
theorem og:bO Zr Vr (a0 Bi):=by walk_at "s"
theorem nG:bO Zs ["_law_known","_law_a"] (a0 tS):=by walk_at "s"
theorem IK:bO M0 M0 (a0 Bj):=by walk_at "s"
theorem IL:bO Zv Vu (a0 Bk):=by walk_at "s"
theorem K2:bO Vn Vs (a0 EU):=by walk_at "s"
theorem K3:bO Vt ["_law_state","_law_tie"] (a0 EV):=by walk_at "s"
theorem Bw:bO Zq ["_law_state","_law_gone"] (a0 EW):=by walk_at "s"
theorem FZ:bO IF IF (a0 yQ):=by walk_at "s"
theorem yU:bO Zu Vo (a0 Bl):=by walk_at "s"
theorem Di:bO Vm Vv (a0 vW):=by walk_at "s"
theorem Q5:bO Zp M4 (a0 Zw):=by walk_at "s"
theorem zA:bO qo qo (a0 qY):=by walk_at "s"
theorem IM:bO ["self","row","place"] ["self","row"] (a0 Bn):=by walk_at "s"
theorem IP:bO sZ sZ (a0 Bo):=by walk_at "s"
theorem K4:bO ["self","a","b","row"] sZ (a0 EX):=by walk_at "s"
theorem Dj:bO sZ sZ (a0 vX):=by walk_at "s"
theorem F0:bO yM yM (a0 yR):=by walk_at "s"
theorem IQ:bO yM yM (a0 Bp):=by walk_at "s"
theorem wb:bO qo qo (a0 pC):=by walk_at "s"
theorem Ga:bO IE IE (a0 yS):=by walk_at "s"
theorem Bx:bO ["self","tie","wood"] vT (a0 tT):=by walk_at "s"
theorem Dk:bO vT vT (a0 vY):=by walk_at "s"
theorem tV:bO ["self","tie","level","wood"] vT (a0 vZ):=by walk_at "s"
theorem oh:bO Vx ["self","level","wooden"] (a0 pD):=by walk_at "s"
theorem Dl:bO vT vT (a0 v5):=by walk_at "s"
theorem rg:bO ["self","level","tie","wood"] M1 (a0 mK):=by walk_at "s"
theorem oK:bO Vp M1 (a0 v7):=by walk_at "s"
theorem oM:bO Vq vT (a0 v8):=by walk_at "s"
theorem zB:bO qo qo (a0 qZ):=by walk_at "s"
theorem By:bO IE IE (a0 tU):=by walk_at "s"
theorem K5:bO ["self","a","b","tie","trail"] sZ (a0 EY):=by walk_at "s"
theorem IR:bO ["self"] ["self"] (a0 Bq):=by walk_at "s"
theorem Gb:bO sZ sZ (a0 yT):=by walk_at "s"
structure CA where
 (bK Keeper:ai)
structure Na(K:aa)(mg:bF->Option ak)(C:ai)(A:CA):Prop where
 G6:CY K C
 Uw:mg "Wood"=some (.ref C)
 sf:dN K C "n"
 mB:dN K C "rows"
 Fj:CY K A.bK
 OC:mg "Levels"=some (.ref A.bK)
 iz:dN K A.bK "level_of"
 hW:dN K A.bK "weight_of"
 jc:dN K A.bK "wooden"
 jI:dN K A.bK "woods"
 Fk:CY K A.Keeper
 Ot:mg "Keeper"=some (.ref A.Keeper)
 j7:dN K A.Keeper "came"
 jd:dN K A.Keeper "levels"
 jb:dN K A.Keeper "looked"
 j5:dN K A.Keeper "lost"
 nS:dN K A.Keeper "n"
 jG:dN K A.Keeper "risen"
 j6:dN K A.Keeper "wood"
 XI:mg "bool"=none
 ZP:mg "int"=none
 xh:mg "isinstance"=none
 VJ:mg "len"=none
 Ma:mg "list"=none
 VP:mg "max"=none
 ZO:mg "min"=none
 Ux:mg "range"=none
 Mb:mg "reversed"=none
 ZX:mg "set"=none
 sg:mg "sorted"=none
 VO:mg "sum"=none
 Z1:mg "zip"=none
 Eb:∃t:Yj,mg "MOST_PLACES"=some (.int 200 t)
variable{P:bI}{w:cC}{K:aa}{mg:bF->Option ak}{base:cR}{f:ai}{fd:gG}{sp:Sp}{C:ai}{A:CA}
def yV(K:aa)(C:ai):TS:=
 dW (En (oI (PK K) (au (aq 0) (au (tC (.ty "int")) a8))) (Pa (oI (PK K) (au (aq 0) (au (tC (.ty "bool")) a8)))))
def yW(K:aa)(C:ai)(jE:Sp):TS:=
 dW (En (cY jE [] E0 (au (aq 0) a8)) (Fy (o9 λi j=>.bl (decide (i<=j))) (o9 λi j=>.bl (decide (i<=j))) (tC (.int 1)) (aq 0) (tC (.int 200))))
def yX(K:aa)(C:ai)(jE:Sp):TS:=
 dW (En (cY jE [] E0 (au (aq 1) a8)) (Fy (o9 λi j=>.bl (decide (i<=j))) (o9 λi j=>.bl (decide (i<j))) (tC (.int 0)) (aq 1) (aq 0)))
def IS(K:aa)(C:ai):TS:=
 xE (dh (cq (o9 λi j=>.bl (decide (i<=j))) (aq 2) (aq 0)))
 (bP (Pc 1 (tC (.int 1)) (o9 λi j=>.int (i+j)))
 (Pc 2 (tC (.int 2)) (rI Ox λi j=>.int (i*j))))
def Q6(K:aa)(C:ai):TS:=
 bP (cU (tC (.int 0)) (bp 1))
 (bP (cU (tC (.int 4)) (bp 2))
 (bP (IS K C)
 (dW (aq 1))))
def E1(K:aa)(C:ai):TS:=
 dW (Ye (dh (cq (o9 λi j=>.bl (decide (i<j))) (aq 0) (aq 1))) (ir (au (aq 0) (au (aq 1) a8))) (ir (au (aq 1) (au (aq 0) a8))))
def E3(K:aa)(C:ai)(qf:Sp):TS:=
 dW (oI (QC K) (au (jo 4 [0] (lH K (aq 1)) (AA K 4 (jm (bp 0) (jm (bp 1) (jm (bp 2) (jm (bp 3) C6))))) vH (cq (o9 λi j=>.int (i-j)) (cY qf [] E0 (au (aq 4) a8)) (aq 2))) a8))
def IT(K:aa)(C:ai):TS:=
 dW (oI (QC K) (au (jo 4 [] (lH K (aq 0)) (AA K 4 (jm (bp 0) (jm (bp 1) (jm (bp 2) (jm (bp 3) C6))))) vH (oI (sW K) (au (aq 2) a8))) a8))
def IU(K:aa)(C:ai)(iM:Sp):TS:=
 bP (cU (jo 4 [] (lH K (aq 0)) (AA K 4 (jm (bp 0) (jm (bp 1) (jm (bp 2) (jm (bp 3) C6))))) (tB (HF (aq 3))) (aq 3)) (bp 1))
 (dW (Ye (ph K (aq 1)) (cq fN (cY iM [] E0 (au (aq 0) a8)) (tC (.int 1))) (cY iM [] E0 (au (aq 0) a8))))
def rh(K:aa)(C:ai):TS:=
 dW (Ql K (au (aq 0) (au (J7 (qb K) (aq 0) (kq (tC (.int 1))) j9) a8)))
def E4(K:aa)(C:ai):TS:=
 bP (cU (AN K "list" (qc K) (aq 0) (au (aq 1) a8)) (bp 2))
 (dW (cq fN (J7 (qb K) (aq 0) (kq (aq 2)) j9) (J7 (qb K) (aq 0) (kq (tC (.int 1))) (kq (cq fN (aq 2) (tC (.int 1)))))))
def Bz(K:aa)(C:ai)(pE:Sp):TS:=
 bP (cU (AN K "list" (qc K) (aq 0) (au (aq 2) a8)) (bp 4))
 (dW (cq fN (cq fN (J7 (qb K) (aq 0) j9 (kq (cq fN (aq 4) (tC (.int 1))))) (cY pE [] E0 (au (aq 1) (au (aq 3) a8)))) (J7 (qb K) (aq 0) (kq (aq 4)) j9)))
def E5(K:aa)(C:ai)(eN:Sp):TS:=
 bP (cU (cY eN [] E0 (au (aq 0) a8)) (bp 3))
 (bP (cU (AN K "list" (qc K) (aq 3) (au (ir (au (aq 1) (au (aq 2) a8))) a8)) (bp 4))
 (bP (cU (AN K "list" (qc K) (aq 3) (au (ir (au (aq 2) (au (aq 1) a8))) a8)) (bp 5))
 (bP (cU (oI EE (au (aq 4) (au (aq 5) a8))) (bp 6))
 (bP (cU (oI HZ (au (aq 4) (au (aq 5) a8))) (bp 7))
 (bP (cU (J7 (qb K) (aq 0) (kq (cq fN (aq 6) (tC (.int 1)))) (kq (cq fN (aq 7) (tC (.int 1))))) (bp 8))
 (bP (cU (cq fN (J7 (qb K) (aq 0) j9 (kq (cq fN (aq 6) (tC (.int 1))))) (J7 (qb K) (aq 0) (kq (cq fN (aq 7) (tC (.int 2)))) j9)) (bp 9))
 (dW (Ye (dh (cq (o9 λi j=>.bl (decide (i<j))) (aq 4) (aq 5))) (ir (au (aq 9) (au (aq 8) a8))) (ir (au (aq 8) (au (aq 9) a8)))))))))))
def nH(K:aa)(C:ai)(mj:Sp):TS:=
 ie (HG (ph K (cY mj [] E0 (au (aq 0) (au (aq 1) a8)))))
 qO
 eJ
def mL(K:aa)(C:ai)(cF:Sp):TS:=
 bP (gU (cY cF [] E0 (au (aq 0) (au (aq 1) a8))))
 (gU (cY cF [] E0 (au (aq 0) (au (aq 2) a8))))
def oi(K:aa)(C:ai)(dH:Sp):TS:=
 bP (gU (cY dH [] E0 (au (aq 0) (au (aq 1) (au (aq 2) a8)))))
 (ie (dh (cq (kL K) (aq 1) (aq 2)))
 qO
 eJ)
def om(K:aa)(C:ai)(Pt:ai):TS:=
 dW (KN Pt ⟨119,28,119,61⟩ ((("in_order":bF)++".<locals>.")++"<lambda>") 1 (au (aq 0) a8))
theorem IV(Fu:Nm K "in_order" "in_order" xS f fd)(T:Na K mg C A){c Pt:ai}(hcd:fd.code=.ref c)(CH:mX base c Pt)(B:base.BuiltinsAt mg Pt)(len:Ln sp 2)(run:Rn sp (om K C Pt) EO):lN P w K mg base J8 1 f fd EO sp:=
 Fu.okC hcd K1 len λA0 outer s H vs Q E hr h=>⟨om K C Pt,bW (d9 (QQ rfl rfl CH B hr.depth hr.R3 rfl T.sg (fP (pv 0) oG) rfl rfl)),run vs H Q E h⟩
def rj(K:aa)(C:ai):TS:=
 dW (oI (sW K) (au (jo 1 [1] (lH K (aq 0)) (bp 0) (dh (cq (oJ K false) (aq 0) (aq 1))) (aq 0)) a8))
def BB(K:aa)(C:ai)(b9 kC:Sp):TS:=
 bP (gU (cY b9 [] E0 (au (aq 0) (au (aq 2) (au (aq 3) a8)))))
 (bP (cU (cY kC [] E0 (au (aq 2) (au (aq 3) a8))) (bp 4))
 (bP (ie (dh (cq (oJ K false) (aq 4) (aq 1)))
 qO
 eJ)
 (dW (aq 4))))
def qq(K:aa)(C:ai)(b9 kC:Sp):TS:=
 bP (gU (cY b9 [] E0 (au (aq 0) (au (aq 2) (au (aq 3) a8)))))
 (bP (cU (cY kC [] E0 (au (aq 2) (au (aq 3) a8))) (bp 4))
 (bP (ie (dh (cq (oJ K true) (aq 4) (aq 1)))
 qO
 eJ)
 (dW (aq 4))))
def qr(K:aa)(C:ai):TS:=
 bP (ie (dh (cq (o9 λi j=>.bl (decide (i<j))) (aq 1) (oI (sW K) (au (aq 0) a8))))
 (dW (cq (cS K) (aq 0) (aq 1)))
 eJ)
 (dW (tC (.int 0)))
def tW(K:aa)(C:ai):TS:=
 bP (cU (cq (rI (λ_ j=>0<j) λi j=>.int (i%j)) (aq 1) (tC (.int 6))) (bp 2))
 (bP (ie (dh (cq (kL K) (aq 2) (tC (.int 1))))
 (dW (jo 1 [] (yE (au (cq (o9 λi j=>.int (i-j)) (aq 0) (tC (.int 1))) a8)) (bp 0) vH (ir (au (aq 0) (au (cq fN (aq 0) (tC (.int 1))) a8)))))
 eJ)
 (bP (ie (zx (dh (cq (kL K) (aq 2) (tC (.int 2)))) (dh (cq (o9 λi j=>.bl (decide (j<i))) (aq 0) (tC (.int 2)))))
 (dW (cq fN (jo 1 [] (yE (au (cq (o9 λi j=>.int (i-j)) (aq 0) (tC (.int 1))) a8)) (bp 0) vH (ir (au (aq 0) (au (cq fN (aq 0) (tC (.int 1))) a8)))) (sV (au (ir (au (tC (.int 0)) (au (cq (o9 λi j=>.int (i-j)) (aq 0) (tC (.int 1))) a8))) a8))))
 eJ)
 (bP (ie (dh (cq (kL K) (aq 2) (tC (.int 3))))
 (dW (jo 1 [0] (Pd (au (tC (.int 8)) (au (tC (.int 64)) a8))) (bp 0) (dh (cq (o9 λi j=>.bl (decide (i<j))) (cq fN (cq (rI (λ_ j=>0<j) λi j=>.int (i%j)) (aq 0) (tC (.int 8))) (cq (rI qF λi j=>.int (i/j)) (aq 0) (tC (.int 8)))) (oI EE (au (aq 1) (au (tC (.int 8)) a8))))) (ir (au (cq (rI (λ_ j=>0<j) λi j=>.int (i%j)) (aq 0) (tC (.int 8))) (au (cq fN (cq (rI (λ_ j=>0<j) λi j=>.int (i%j)) (aq 0) (tC (.int 8))) (cq (rI qF λi j=>.int (i/j)) (aq 0) (tC (.int 8)))) a8)))))
 eJ)
 (bP (ie (dh (cq (kL K) (aq 2) (tC (.int 4))))
 (dW (jo 1 [0,1] (yE (au (aq 0) a8)) (bp 0) (dh (cq (HX K) (aq 0) (cq (rI (λ_ j=>0<j) λi j=>.int (i%j)) (cq (rI qF λi j=>.int (i/j)) (aq 2) (tC (.int 6))) (aq 1)))) (ir (au (cq (rI (λ_ j=>0<j) λi j=>.int (i%j)) (cq (rI qF λi j=>.int (i/j)) (aq 2) (tC (.int 6))) (aq 1)) (au (aq 0) a8)))))
 eJ)
 (bP (ie (dh (cq (kL K) (aq 2) (tC (.int 5))))
 (dW (jo 1 [0] (yE (au (cq (rI Ox λi j=>.int (i*j)) (tC (.int 2)) (aq 0)) a8)) (bp 0) (dh (cq (o9 λi j=>.bl (decide (i<j))) (cq fN (cq fN (cq (rI qF λi j=>.int (i/j)) (aq 0) (tC (.int 2))) (tC (.int 1))) (cq (rI (λ_ j=>0<j) λi j=>.int (i%j)) (aq 0) (tC (.int 2)))) (aq 1))) (ir (au (cq (rI qF λi j=>.int (i/j)) (aq 0) (tC (.int 2))) (au (cq fN (cq fN (cq (rI qF λi j=>.int (i/j)) (aq 0) (tC (.int 2))) (tC (.int 1))) (cq (rI (λ_ j=>0<j) λi j=>.int (i%j)) (aq 0) (tC (.int 2)))) a8)))))
 eJ)
 (dW (sV a8)))))))
def tX(K:aa)(C:ai):TS:=
 bP (cU (oI (sW K) (au (aq 0) a8)) (bp 2))
 (bP (ie (dh (cq (kL K) (aq 2) (tC (.int 0))))
 (dW (sV a8))
 eJ)
 (bP (cU (cq (rI (λ_ j=>0<j) λi j=>.int (i%j)) (aq 1) (aq 2)) (bp 3))
 (bP (cU (cq fN (J7 (qb K) (aq 0) (kq (aq 3)) j9) (J7 (qb K) (aq 0) j9 (kq (aq 3)))) (bp 4))
 (bP (ie (dh (cq (kL K) (cq (rI (λ_ j=>0<j) λi j=>.int (i%j)) (cq (rI qF λi j=>.int (i/j)) (aq 1) (tC (.int 7))) (tC (.int 2))) (tC (.int 1))))
 (dW (Qq K (au (aq 4) a8)))
 eJ)
 (dW (aq 4))))))
def wc(K:aa)(C:ai):TS:=
 bP (cU (jo 1 [] (lH K (aq 0)) (bp 0) vH (ir (au (cq (cS K) (aq 0) (tC (.int 0))) (au (cq (cS K) (aq 0) (tC (.int 1))) a8)))) (bp 3))
 (bP (cU (cq (rI qF λi j=>.int (i/j)) (aq 2) (tC (.int 8))) (bp 4))
 (bP (ie (zx (dh (cq (o9 λi j=>.bl (decide (i<j))) (cq (rI (λ_ j=>0<j) λi j=>.int (i%j)) (aq 2) (tC (.int 8))) (tC (.int 4)))) (dh (cq (o9 λi j=>.bl (decide (j<i))) (oI (sW K) (au (aq 3) a8)) (tC (.int 0)))))
 (bP (cU (oI (Vi K) (au (jo 1 [] (lH K (aq 0)) (bp 0) (ph K (cq (cS K) (aq 0) (tC (.int 3)))) (cq (cS K) (aq 0) (tC (.int 2)))) a8)) (bp 5))
 (bP (cU (jo 1 [5] (lH K (aq 0)) (bp 0) (zx (ph K (cq (cS K) (aq 0) (tC (.int 3)))) (dh (cq (kL K) (cq (cS K) (aq 0) (tC (.int 2))) (aq 1)))) (ir (au (cq (cS K) (aq 0) (tC (.int 0))) (au (cq (cS K) (aq 0) (tC (.int 1))) a8)))) (bp 6))
 (dW (ir (au (tC (.str "out")) (au (cq (cS K) (aq 6) (cq (rI (λ_ j=>0<j) λi j=>.int (i%j)) (aq 4) (oI (sW K) (au (aq 6) a8)))) a8))))))
 eJ)
 (bP (ie (zx (dh (cq (o9 λi j=>.bl (decide (i<j))) (cq (rI (λ_ j=>0<j) λi j=>.int (i%j)) (aq 2) (tC (.int 8))) (tC (.int 6)))) (dh (cq (o9 λi j=>.bl (decide (j<i))) (oI (sW K) (au (aq 3) a8)) (tC (.int 0)))))
 (dW (ir (au (tC (.str "out")) (au (cq (cS K) (aq 3) (cq (rI (λ_ j=>0<j) λi j=>.int (i%j)) (aq 4) (oI (sW K) (au (aq 3) a8)))) a8))))
 eJ)
 (bP (cU (cq (rI (λ_ j=>0<j) λi j=>.int (i%j)) (aq 4) (aq 1)) (bp 7))
 (bP (cU (cq (rI (λ_ j=>0<j) λi j=>.int (i%j)) (cq (rI qF λi j=>.int (i/j)) (aq 4) (aq 1)) (aq 1)) (bp 8))
 (bP (cU (ir (au (oI EE (au (aq 7) (au (aq 8) a8))) (au (oI HZ (au (aq 7) (au (aq 8) a8))) a8))) (bp 9))
 (bP (ie (dh (cq (kL K) (aq 7) (aq 8)))
 (dW (tC .non))
 eJ)
 (bP (ie (dh (cq (oJ K false) (aq 9) (aq 3)))
 (dW (ir (au (tC (.str "out")) (au (aq 9) a8))))
 eJ)
 (dW (ir (au (tC (.str "put")) (au (aq 9) a8))))))))))))
def oo(K:aa)(C:ai):TS:=
 uH (lH K (aq 0)) (AA K 2 (jm (bp 3) (jm (bp 4) C6)))
 (bP (gU (AN K "list" kJ (AN K "dict" vL (aq 2) (au (aq 3) (au (sV a8) a8))) (au (aq 4) a8)))
 (gU (AN K "list" kJ (AN K "dict" vL (aq 2) (au (aq 4) (au (sV a8) a8))) (au (aq 3) a8))))
def oq(K:aa)(C:ai):TS:=
 uH (lH K (cq (cS K) (aq 2) (cq (cS K) (aq 6) (aq 7)))) (bp 4)
 (ie (dh (cq (oJ K true) (aq 4) (aq 5)))
 (bP (cU (tC (.bl true)) (AB (aq 5) (aq 4) qm))
 (gU (AN K "list" kJ (aq 6) (au (aq 4) a8))))
 eJ)
def ou(K:aa)(C:ai):TS:=
 xE (dh (cq (o9 λi j=>.bl (decide (i<j))) (aq 7) (oI (sW K) (au (aq 6) a8))))
 (bP (oq K C)
 (cU (cq fN (aq 7) (tC (.int 1))) (bp 7)))
def qt(K:aa)(C:ai):TS:=
 bP (cU (PD [((aq 1:TE),(sV (a8):TE))]) (bp 2))
 (bP (oo K C)
 (bP (cU (PD [((aq 1:TE),(tC (.bl true):TE))]) (bp 5))
 (bP (cU (sV (au (aq 1) a8)) (bp 6))
 (bP (cU (tC (.int 0)) (bp 7))
 (bP (ou K C)
 (dW (oI (IA K) (au (aq 6) a8))))))))
def we(K:aa)(C:ai):TS:=
 dW (jo 1 [1,0] (lH K (oI nF (au (aq 0) a8))) (bp 0) (zx (ph K (cq (cS K) (cq (cS K) (aq 2) (aq 0)) (tC (.int 1)))) (dh (cq (o9 λi j=>.bl (decide (j<=i))) (cq (cS K) (cq (cS K) (aq 2) (aq 0)) (tC (.int 0))) (aq 1)))) (aq 0))
def wg(K:aa)(C:ai)(kR eQ:Sp):TS:=
 bP (cU (cY kR [] E0 (au (aq 0) (au (aq 2) a8))) (bp 3))
 (bP (cU (cY eQ [] E0 (au (aq 3) (au (cq (cS K) (aq 1) (tC (.int 0))) a8))) (bp 4))
 (bP (cU (cY eQ [] E0 (au (aq 3) (au (cq (cS K) (aq 1) (tC (.int 1))) a8))) (bp 5))
 (bP (ie (dh (cq (o9 λi j=>.bl (decide (i<j))) (oI (sW K) (au (aq 5) a8)) (oI (sW K) (au (aq 4) a8))))
 (dW (aq 5))
 eJ)
 (dW (aq 4)))))
def tY(K:aa)(C:ai):TS:=
 uH (lH K (oI nF (au (aq 0) a8))) (bp 4)
 (ie (zx (dh (cq (kL K) (cq (cS K) (aq 0) (aq 4)) (ir (au (aq 1) (au (tC (.bl true)) a8))))) (zx (dh (cq (oJ K false) (cq (cS K) (aq 4) (tC (.int 0))) (aq 2))) (dh (cq (oJ K false) (cq (cS K) (aq 4) (tC (.int 1))) (aq 2)))))
 (gU (AN K "list" kJ (aq 3) (au (aq 4) a8)))
 eJ)
def tZ(K:aa)(C:ai):TS:=
 uH (lH K (oI nF (au (aq 0) a8))) (bp 4)
 (ie (dh (cq (kL K) (cq (cS K) (aq 0) (aq 4)) (ir (au (aq 1) (au (tC (.bl false)) a8)))))
 (ie (zx (dh (cq (oJ K false) (cq (cS K) (aq 4) (tC (.int 0))) (aq 2))) (dh (cq (oJ K false) (cq (cS K) (aq 4) (tC (.int 1))) (aq 2))))
 (gU (AN K "list" kJ (aq 3) (au (aq 4) a8)))
 (ie (tOr (dh (cq (oJ K false) (cq (cS K) (aq 4) (tC (.int 0))) (aq 2))) (dh (cq (oJ K false) (cq (cS K) (aq 4) (tC (.int 1))) (aq 2))))
 (dW (ir (au (oI (kO K) (au (aq 3) a8)) (au (aq 4) a8))))
 eJ))
 eJ)
def yY(K:aa)(C:ai):TS:=
 bP (cU (sV a8) (bp 3))
 (bP (tY K C)
 (bP (tZ K C)
 (dW (ir (au (oI (kO K) (au (aq 3) a8)) (au (tC .non) a8))))))
def yZ(K:aa)(C:ai)(eQ:Sp):TS:=
 bP (cU (cq (oJ K true) (cq (cS K) (aq 1) (tC (.int 1))) (cY eQ [] E0 (au (oI nF (au (aq 0) a8)) (au (cq (cS K) (aq 1) (tC (.int 0))) a8)))) (bp 2))
 (bP (cU (ir (au (tC (.int 0)) (au (aq 2) a8))) (AB (aq 0) (aq 1) qm))
 (dW (aq 2)))
def t7(K:aa)(C:ai)(fq fZ:Sp):TS:=
 uH (lH K (aq 6)) (bp 8)
 (cU (ir (au (cq fN (aq 2) (tC (.int 1))) (au (cq (cS K) (cq (cS K) (aq 0) (aq 8)) (tC (.int 1))) a8))) (AB (aq 0) (aq 8) qm))
def t8(K:aa)(C:ai)(fq fZ:Sp):TS:=
 xE (zx (ph K (aq 3)) (dh (cq (o9 λi j=>.bl (decide (j<=i))) (aq 2) (tC (.int 0)))))
 (bP (cU (cY fq [] E0 (au (aq 0) (au (aq 1) (au (aq 2) a8)))) (bp 5))
 (bP (cU (cY fZ [] E0 (au (aq 0) (au (aq 2) (au (aq 5) a8)))) (AA K 2 (jm (bp 6) (jm (bp 7) C6))))
 (bP (t7 K C fq fZ)
 (bP (gU (AN K "list" kJ (aq 4) (au (ir (au (aq 2) (au (aq 5) (au (aq 6) (au (aq 7) a8))))) a8)))
 (bP (cU (cq (o9 λi j=>.int (i-j)) (aq 2) (tC (.int 1))) (bp 2))
 (ie (tB (HF (aq 7)))
 (bP (cU (ir (au (cq fN (aq 2) (tC (.int 1))) (au (tC (.bl true)) a8))) (AB (aq 0) (aq 7) qm))
 (cU (tUn (rU λi=>.int (-i)) (tC (.int 1))) (bp 2)))
 eJ))))))
abbrev Dm(K:aa)(C:ai)(fq fZ:Sp):TS:=
 bP (t8 K C fq fZ)
 (dW (aq 4))
def y3(K:aa)(C:ai)(fq fZ:Sp):TS:=
 bP (cU (AN K "dict" Il (aq 0) (au (aq 1) a8)) (AA K 2 (jm (bp 2) (jm (bp 3) C6))))
 (bP (cU (sV a8) (bp 4))
 (Dm K C fq fZ))
def t9(K:aa)(C:ai):TS:=
 dW (jo 1 [0] (lH K (oI nF (au (aq 0) a8))) (bp 0) vH (ir (au (cq (cS K) (aq 0) (tC (.int 0))) (au (cq (cS K) (aq 0) (tC (.int 1))) (au (cq (cS K) (cq (cS K) (aq 1) (aq 0)) (tC (.int 0))) (au (cq (cS K) (cq (cS K) (aq 1) (aq 0)) (tC (.int 1))) a8))))))
abbrev nI(K:aa)(C:ai)(A:CA)(gW iT iU iV:Sp):TS:=
 bP (ie (dh (cq (kL K) (cq (cS K) (aq 2) (tC (.int 0))) (tC (.str "put"))))
  (bP (cU (gC A.Keeper "put" gW [] E0 (aq 0) (au (aq 4) (au (aq 5) a8))) (bp 6))
 (dW (En (oI (PK K) (au (aq 6) (au (tC (.ty "bool")) a8))) (cq (kL K) (aq 6) (cY iV [] E0 (au (aq 1) (au (cq (cS K) (aq 2) (tC (.int 1))) a8)))))))
  eJ)
 (dW (cq (kL K) (gC A.Keeper "out" iT [] E0 (aq 0) (au (aq 4) (au (aq 5) a8))) (cY iU [] E0 (au (aq 1) (au (cq (cS K) (aq 2) (tC (.int 1))) a8)))))
def wj(K:aa)(C:ai)(A:CA)(gW iT iU iV:Sp):TS:=
 bP (cU (cq (cS K) (aq 2) (tC (.int 1))) (AA K 2 (jm (bp 4) (jm (bp 5) C6))))
 (bP (ie (ph K (aq 3))
 (Wn 4 5 (au (aq 5) (au (aq 4) a8)))
 eJ)
 (nI K C A gW iT iU iV))
def rm(K:aa)(C:ai):TS:=
 bP (cU (cq (rI (λ_ j=>0<j) λi j=>.int (i%j)) (cq (rI qF λi j=>.int (i/j)) (aq 2) (aq 1)) (aq 1)) (bp 3))
 (bP (cU (cq (rI (λ_ j=>0<j) λi j=>.int (i%j)) (aq 2) (aq 1)) (bp 4))
 (bP (cU (ir (au (oI EE (au (aq 3) (au (aq 4) a8))) (au (oI HZ (au (aq 3) (au (aq 4) a8))) a8))) (bp 5))
 (bP (ie (dh (cq (kL K) (aq 3) (aq 4)))
 (dW (tC .non))
 eJ)
 (bP (ie (dh (cq (oJ K false) (aq 5) (aq 0)))
 (dW (ir (au (tC (.str "out")) (au (aq 5) a8))))
 eJ)
 (dW (ir (au (tC (.str "put")) (au (aq 5) a8))))))))
def IW(K:aa)(C:ai)(A:CA)(bH bX bA bZ b8 bS bT cf ck:Sp):TS:=
 uH (lH K (cY bZ [] E0 (au (aq 4) (au (cq (rI qF λi j=>.int (i/j)) (aq 2) (tC (.int 36))) a8)))) (AA K 2 (jm (bp 10) (jm (bp 11) C6)))
 (ie (HG (ph K (cY cf [] E0 (au (aq 8) (au (aq 9) (au (ir (au (tC (.str "put")) (au (ir (au (oI EE (au (aq 10) (au (aq 11) a8))) (au (oI HZ (au (aq 10) (au (aq 11) a8))) a8))) a8))) (au (cq (o9 λi j=>.bl (decide (i<j))) (aq 10) (aq 11)) a8)))))))
 (dW (tC (.bl false)))
 eJ)
def IX(K:aa)(C:ai)(A:CA)(bH bX bA bZ b8 bS bT cf ck:Sp):TS:=
 uH (lH K (aq 7)) (bp 12)
 (bP (cU (cY bT [] E0 (au (aq 9) (au (aq 3) (au (aq 12) a8)))) (bp 13))
 (bP (ie (HG (ph K (aq 6)))
 (cU (cY ck [] E0 (au (cY bS [] E0 (au (aq 9) a8)) (au (aq 3) (au (aq 12) a8)))) (bp 13))
 eJ)
 (ie (tB (HF (aq 13)))
 (ie (tOr (HG (ph K (cY cf [] E0 (au (aq 8) (au (aq 9) (au (aq 13) (au (cq (kL K) (cq (rI (λ_ j=>0<j) λi j=>.int (i%j)) (cq (rI qF λi j=>.int (i/j)) (aq 12) (tC (.int 3))) (tC (.int 2))) (tC (.int 1))) a8))))))) (dh (cq (HX K) (gC A.Keeper "ties" b8 [] E0 (aq 8) a8) (cY bS [] E0 (au (aq 9) a8)))))
 (dW (tC (.bl false)))
 eJ)
 eJ)))
abbrev Ob(K:aa)(C:ai)(A:CA)(bH bX bA bZ b8 bS bT cf ck:Sp):TS:=
 bP (ie (dh (cq (HX K) (gC A.Keeper "ties" b8 [] E0 (aq 8) a8) (cY bS [] E0 (au (aq 9) a8))))
  (dW (tC (.bl false)))
  eJ)
 (bP (IX K C A bH bX bA bZ b8 bS bT cf ck)
 (dW (tC (.bl true))))
abbrev IY(K:aa)(C:ai)(A:CA)(bH bX bA bZ b8 bS bT cf ck:Sp):TS:=
 bP (cU xI (bp 9))
 (bP (IW K C A bH bX bA bZ b8 bS bT cf ck)
 (Ob K C A bH bX bA bZ b8 bS bT cf ck))
abbrev Q7(K:aa)(C:ai)(A:CA)(bH bX bA bZ b8 bS bT cf ck:Sp):TS:=
 bP (ie (ph K (aq 6))
  (bP (cU (sV a8) (bp 4))
 (cU (J7 (qb K) (aq 0) (kq (tC (.int 1))) (kq (tC (.int 49)))) (bp 7)))
  eJ)
 (bP (cU (Eo A.Keeper bA [] E0 (au (aq 3) a8)) (bp 8))
 (IY K C A bH bX bA bZ b8 bS bT cf ck))
abbrev BC(K:aa)(C:ai)(A:CA)(bH bX bA bZ b8 bS bT cf ck:Sp):TS:=
 bP (cU (cq (oJ K false) (cq (rI (λ_ j=>0<j) λi j=>.int (i%j)) (cq (rI qF λi j=>.int (i/j)) (aq 1) (tC (.int 24))) (tC (.int 8))) (ir (au (tC (.int 2)) (au (tC (.int 4)) (au (tC (.int 6)) (au (tC (.int 7)) a8)))))) (bp 6))
 (bP (cU (J7 (qb K) (aq 0) (kq (tC (.int 2))) (kq (cq fN (tC (.int 2)) (aq 5)))) (bp 7))
 (Q7 K C A bH bX bA bZ b8 bS bT cf ck))
abbrev Q8(K:aa)(C:ai)(A:CA)(bH bX bA bZ b8 bS bT cf ck:Sp):TS:=
 bP (cU (tC (.int 40)) (bp 5))
 (bP (ie (dh (cq (kL K) (cq (rI (λ_ j=>0<j) λi j=>.int (i%j)) (cq (rI qF λi j=>.int (i/j)) (aq 1) (tC (.int 24))) (tC (.int 8))) (tC (.int 1))))
  (bP (cU (cq fN (tC (.int 64)) (cq (rI (λ_ j=>0<j) λi j=>.int (i%j)) (cq (rI qF λi j=>.int (i/j)) (aq 1) (tC (.int 192))) (tC (.int 137)))) (bp 3))
 (bP (cU (cY bX [] E0 (au (tC (.int 64)) (au (cq fN (tC (.int 1)) (cq (rI (λ_ j=>0<j) λi j=>.int (i%j)) (aq 2) (tC (.int 2)))) a8))) (bp 4))
 (cU (tC (.int 6)) (bp 5))))
  eJ)
 (BC K C A bH bX bA bZ b8 bS bT cf ck))
abbrev Q9(K:aa)(C:ai)(A:CA)(bH bX bA bZ b8 bS bT cf ck:Sp):TS:=
 bP (cU (cq fN (tC (.int 1)) (cq (rI (λ_ j=>0<j) λi j=>.int (i%j)) (aq 1) (tC (.int 24)))) (bp 3))
 (bP (cU (cY bX [] E0 (au (aq 3) (au (aq 2) a8))) (bp 4))
 (Q8 K C A bH bX bA bZ b8 bS bT cf ck))
def Rb(K:aa)(C:ai)(A:CA)(bH bX bA bZ b8 bS bT cf ck:Sp):TS:=
 bP (cU (cY bH [] E0 (au (aq 0) (au (tC (.int 0)) a8))) (bp 1))
 (bP (cU (cY bH [] E0 (au (aq 0) (au (tC (.int 1)) a8))) (bp 2))
 (Q9 K C A bH bX bA bZ b8 bS bT cf ck))
def pG(K:aa)(C:ai):TS:=
 bP (sU K (aq 0) (aq 1) "n")
 (sU K (aq 0) (jo 1 [] (yE (au (aq 1) a8)) (bp 0) vH (sV (au (aq 0) a8))) "rows")
def rn(K:aa)(C:ai):TS:=
 uH (lH K (aq 1)) (bp 2)
 (cU (aq 1) (AB (fE K (aq 0) "rows") (aq 2) qm))
def wk(K:aa)(C:ai):TS:=
 rn K C
def wm(K:aa)(C:ai)(b9 eO fR nJ:Sp):TS:=
 bP (gU (cY b9 [] E0 (au (fE K (aq 0) "n") (au (aq 1) (au (aq 2) a8)))))
 (bP (ie (ph K (gC C "joined" eO [] E0 (aq 0) (au (aq 1) (au (aq 2) a8))))
 qO
 eJ)
 (gU (gC C "keep" fR [] E0 (aq 0) (au (cY nJ [] E0 (au (cq (cS K) (fE K (aq 0) "rows") (aq 1)) (au (cq (cS K) (fE K (aq 0) "rows") (aq 2)) (au (aq 1) (au (aq 2) a8))))) a8))))
def ua(K:aa)(C:ai)(b9 lJ eN fR:Sp):TS:=
 uH (lH K (cY lJ [] E0 (au (cq (cS K) (fE K (aq 0) "rows") (aq 1)) (au (aq 1) (au (aq 2) a8))))) (bp 3)
 (gU (gC C "keep" fR [] E0 (aq 0) (au (aq 3) a8)))
def y4(K:aa)(C:ai)(b9 lJ eN fR:Sp):TS:=
 bP (gU (cY b9 [] E0 (au (fE K (aq 0) "n") (au (aq 1) (au (aq 2) a8)))))
 (bP (ie (dh (cq (oJ K true) (ir (au (aq 1) (au (aq 2) a8))) (cY eN [] E0 (au (cq (cS K) (fE K (aq 0) "rows") (aq 1)) a8))))
 qO
 eJ)
 (ua K C b9 lJ eN fR))
def rA(K:aa)(C:ai)(dH:Sp):TS:=
 bP (gU (cY dH [] E0 (au (fE K (aq 0) "n") (au (aq 1) (au (aq 2) a8)))))
 (dW (cq (kL K) (cq (cS K) (cq (cS K) (fE K (aq 0) "rows") (aq 1)) (tC (.int 0))) (cq (cS K) (cq (cS K) (fE K (aq 0) "rows") (aq 2)) (tC (.int 0)))))
def ub(K:aa)(C:ai)(cF:Sp):TS:=
 bP (gU (cY cF [] E0 (au (fE K (aq 0) "n") (au (aq 1) a8))))
 (dW (xO K (au (cq (cS K) (fE K (aq 0) "rows") (aq 1)) a8)))
def wo(K:aa)(C:ai)(cF:Sp):TS:=
 bP (gU (cY cF [] E0 (au (fE K (aq 0) "n") (au (aq 1) a8))))
 (dW (cq (rI qF λi j=>.int (i/j)) (cq fN (oI (sW K) (au (cq (cS K) (fE K (aq 0) "rows") (aq 1)) a8)) (tC (.int 1))) (tC (.int 2))))
abbrev rB(K:aa)(C:ai)(A:CA)(fM qf:Sp):TS:=
 bP (sU K (aq 0) xI "weight_of")
 (sU K (aq 0) (jo 1 [1] (yE (au (cq fN (cY qf [] E0 (au (aq 1) a8)) (tC (.int 1))) a8)) (bp 0) vH (Eo C fM [] E0 (au (aq 1) a8))) "woods")
def nK(K:aa)(C:ai)(A:CA)(fM qf:Sp):TS:=
 bP (sU K (aq 0) xI "level_of")
 (bP (sU K (aq 0) xI "wooden")
 (rB K C A fM qf))
abbrev zC(K:aa)(C:ai)(A:CA)(eO cB:Sp):TS:=
 bP (cU (aq 2) (AB (fE K (aq 0) "weight_of") (aq 1) qm))
 (bP (ie (HG (ph K (gC C "joined" eO [] E0 (cq (cS K) (fE K (aq 0) "woods") (tC (.int 0))) (au (cq (cS K) (aq 1) (tC (.int 0))) (au (cq (cS K) (aq 1) (tC (.int 1))) a8)))))
  (gU (gC A.bK "adopt" cB [] E0 (aq 0) (au (aq 1) a8)))
  eJ)
 (dW (cq (cS K) (fE K (aq 0) "wooden") (aq 1))))
def uc(K:aa)(C:ai)(A:CA)(eO cB:Sp):TS:=
 bP (cU (tC (.int 0)) (AB (fE K (aq 0) "level_of") (aq 1) qm))
 (bP (cU (tC (.bl false)) (AB (fE K (aq 0) "wooden") (aq 1) qm))
 (zC K C A eO cB))
def kT(K:aa)(C:ai)(A:CA)(fS:Sp):TS:=
 uH (lH K (J7 (qb K) (fE K (aq 0) "woods") j9 (kq (cq fN (cq (cS K) (fE K (aq 0) "level_of") (aq 1)) (tC (.int 1)))))) (bp 2)
 (gU (gC C "link" fS [] E0 (aq 2) (au (cq (cS K) (aq 1) (tC (.int 0))) (au (cq (cS K) (aq 1) (tC (.int 1))) a8))))
def qu(K:aa)(C:ai)(A:CA)(fS:Sp):TS:=
 bP (cU (tC (.bl true)) (AB (fE K (aq 0) "wooden") (aq 1) qm))
 (kT K C A fS)
def rC(K:aa)(C:ai)(A:CA)(fS:Sp):TS:=
 bP (UZ (fE K (aq 0) "level_of") (aq 1) (tC (.int 1)) NN)
 (ie (ph K (cq (cS K) (fE K (aq 0) "wooden") (aq 1)))
 (gU (gC C "link" fS [] E0 (cq (cS K) (fE K (aq 0) "woods") (cq (cS K) (fE K (aq 0) "level_of") (aq 1))) (au (cq (cS K) (aq 1) (tC (.int 0))) (au (cq (cS K) (aq 1) (tC (.int 1))) a8))))
 eJ)
def pH(K:aa)(C:ai)(A:CA)(jF:Sp):TS:=
 uH (lH K (J7 (qb K) (fE K (aq 0) "woods") j9 (kq (cq fN (aq 2) (tC (.int 1)))))) (bp 3)
 (gU (gC C "cut" jF [] E0 (aq 3) (au (cq (cS K) (aq 1) (tC (.int 0))) (au (cq (cS K) (aq 1) (tC (.int 1))) a8))))
def rD(K:aa)(C:ai)(A:CA)(jF:Sp):TS:=
 bP (gU (AN K "dict" Il (fE K (aq 0) "weight_of") (au (aq 1) a8)))
 (bP (cU (AN K "dict" Il (fE K (aq 0) "level_of") (au (aq 1) a8)) (bp 2))
 (ie (ph K (AN K "dict" Il (fE K (aq 0) "wooden") (au (aq 1) a8)))
 (pH K C A jF)
 eJ))
def nM(K:aa)(C:ai)(A:CA)(ml:Sp):TS:=
 bP (cU (jo 1 [1,0] (iDT (fE K (aq 0) "level_of")) (bp 0) (dh (cq (kL K) (cq (cS K) (fE K (aq 2) "level_of") (aq 0)) (aq 1))) (aq 0)) (bp 3))
 (dW (cY ml [] E0 (au (jo 1 [2,0] (lH K (aq 3)) (bp 0) (dh (cq (kL K) (cq (cS K) (fE K (aq 2) "wooden") (aq 0)) (aq 1))) (aq 0)) (au (fE K (aq 0) "weight_of") a8))))
def rE(K:aa)(C:ai)(A:CA):TS:=
 dW (ir (au (cq (cS K) (aq 1) (tC (.int 0))) (au (cq (cS K) (aq 1) (tC (.int 1))) (au (cq (cS K) (fE K (aq 0) "level_of") (aq 1)) (au (cq (cS K) (fE K (aq 0) "wooden") (aq 1)) a8)))))
def lE(K:aa)(C:ai)(A:CA)(jZ jM:Sp):TS:=
 bP (cU (cq (cS K) (fE K (aq 0) "woods") (aq 1)) (bp 3))
 (dW (gC C "group" jZ [] E0 (aq 3) (au (Ye (dh (cq (o9 λi j=>.bl (decide (i<=j))) (gC C "size" jM [] E0 (aq 3) (au (cq (cS K) (aq 2) (tC (.int 0))) a8)) (gC C "size" jM [] E0 (aq 3) (au (cq (cS K) (aq 2) (tC (.int 1))) a8)))) (cq (cS K) (aq 2) (tC (.int 0))) (cq (cS K) (aq 2) (tC (.int 1)))) a8)))
def pI(K:aa)(C:ai)(A:CA)(cA cG dA dB cB:Sp):TS:=
 uH (lH K (aq 4)) (bp 5)
 (gU (gC A.bK "lift" dA [] E0 (aq 0) (au (aq 5) a8)))
def pJ(K:aa)(C:ai)(A:CA)(cA cG dA dB cB:Sp):TS:=
 uH (lH K (gC A.bK "at_level" cG [] E0 (aq 0) (au (aq 1) (au (tC (.bl false)) a8)))) (bp 5)
 (bP (cU (cY dB [] E0 (au (aq 5) (au (aq 3) a8))) (bp 6))
 (bP (ie (dh (cq (kL K) (aq 6) (tC (.int 1))))
 (bP (gU (gC A.bK "adopt" cB [] E0 (aq 0) (au (aq 5) a8)))
 (dW (ir (au (aq 1) (au (aq 3) (au (oI (kO K) (au (aq 4) a8)) (au (aq 5) a8)))))))
 eJ)
 (ie (dh (cq (kL K) (aq 6) (tC (.int 2))))
 (bP (gU (gC A.bK "lift" dA [] E0 (aq 0) (au (aq 5) a8)))
 (gU (AN K "list" kJ (aq 4) (au (aq 5) a8))))
 eJ)))
abbrev xV(K:aa)(C:ai)(A:CA)(cA cG dA dB cB:Sp):TS:=
 bP (pI K C A cA cG dA dB cB)
 (bP (pJ K C A cA cG dA dB cB)
 (dW (ir (au (aq 1) (au (aq 3) (au (oI (kO K) (au (aq 4) a8)) (au (tC .non) a8)))))))
def rF(K:aa)(C:ai)(A:CA)(cA cG dA dB cB:Sp):TS:=
 bP (cU (gC A.bK "lesser_side" cA [] E0 (aq 0) (au (aq 1) (au (aq 2) a8))) (bp 3))
 (bP (cU (jo 1 [3] (lH K (gC A.bK "at_level" cG [] E0 (aq 0) (au (aq 1) (au (tC (.bl true)) a8)))) (bp 0) (dh (cq (kL K) (cY dB [] E0 (au (aq 0) (au (aq 1) a8))) (tC (.int 2)))) (aq 0)) (bp 4))
 (xV K C A cA cG dA dB cB))
def pK(K:aa)(C:ai)(A:CA)(dR dS:Sp):TS:=
 xE (zx (ph K (aq 3)) (dh (cq (o9 λi j=>.bl (decide (j<=i))) (aq 2) (tC (.int 0)))))
 (bP (gU (AN K "list" kJ (aq 4) (au (gC A.bK "look" dS [] E0 (aq 0) (au (aq 2) (au (aq 1) a8))) a8)))
 (bP (cU (Wg (cq (cS K) (cq (cS K) (aq 4) (tUn (rU λi=>.int (-i)) (tC (.int 1)))) (tC (.int 3)))) (bp 3))
 (Pc 2 (tC (.int 1)) (o9 λi j=>.int (i-j)))))
abbrev xW(K:aa)(C:ai)(A:CA)(dR dS:Sp):TS:=
 bP (pK K C A dR dS)
 (dW (aq 4))
abbrev xX(K:aa)(C:ai)(A:CA)(dR dS:Sp):TS:=
 bP (gU (gC A.bK "drop" dR [] E0 (aq 0) (au (aq 1) a8)))
 (bP (cU (sV a8) (bp 4))
 (xW K C A dR dS))
def rG(K:aa)(C:ai)(A:CA)(dR dS:Sp):TS:=
 bP (cU (cq (cS K) (fE K (aq 0) "level_of") (aq 1)) (bp 2))
 (bP (cU (cq (cS K) (fE K (aq 0) "wooden") (aq 1)) (bp 3))
 (xX K C A dR dS))
abbrev uT(K:aa)(C:ai)(A:CA)(cO f9:Sp):TS:=
 bP (sU K (aq 0) (tC (.int 0)) "risen")
 (sU K (aq 0) (tC (.int 0)) "lost")
abbrev uU(K:aa)(C:ai)(A:CA)(cO f9:Sp):TS:=
 bP (sU K (aq 0) (tC (.int 0)) "came")
 (bP (sU K (aq 0) (tC (.int 0)) "looked")
 (uT K C A cO f9))
abbrev uV(K:aa)(C:ai)(A:CA)(cO f9:Sp):TS:=
 bP (sU K (aq 0) (Eo A.bK cO [] E0 (au (aq 1) a8)) "levels")
 (bP (sU K (aq 0) (cq (cS K) (fE K (fE K (aq 0) "levels") "woods") (tC (.int 0))) "wood")
 (uU K C A cO f9))
def pL(K:aa)(C:ai)(A:CA)(cO f9:Sp):TS:=
 bP (ie (HG (ph K (cY f9 [] E0 (au (aq 1) a8))))
 qO
 eJ)
 (bP (sU K (aq 0) (aq 1) "n")
 (uV K C A cO f9))
def qv(K:aa)(C:ai)(A:CA)(j4:Sp):TS:=
 bP (sD K (aq 0) (tC (.int 1)) NN "came")
 (dW (gC A.bK "add" j4 [] E0 (fE K (aq 0) "levels") (au (aq 1) (au (aq 2) a8))))
abbrev Do(K:aa)(C:ai)(A:CA)(eT jN ft kU iM dC:Sp):TS:=
 bP (sD K (aq 0) (cY iM [] E0 (au (aq 4) a8)) NN "risen")
 (dW (aq 4))
abbrev Dp(K:aa)(C:ai)(A:CA)(eT jN ft kU iM dC:Sp):TS:=
 bP (cU (gC A.bK "take" ft [] E0 (fE K (aq 0) "levels") (au (aq 3) a8)) (bp 4))
 (bP (sD K (aq 0) (cY kU [] E0 (au (aq 4) a8)) NN "looked")
 (Do K C A eT jN ft kU iM dC))
def y6(K:aa)(C:ai)(A:CA)(eT jN ft kU iM dC:Sp):TS:=
 bP (cU (cY eT [] E0 (au (fE K (aq 0) "n") (au (fE K (fE K (aq 0) "levels") "level_of") (au (aq 1) (au (aq 2) a8))))) (bp 3))
 (bP (sD K (aq 0) (cY jN [] E0 (au (fE K (aq 0) "n") (au (sV (au (gC A.bK "told" dC [] E0 (fE K (aq 0) "levels") (au (aq 3) a8)) a8)) a8))) NN "lost")
 (Dp K C A eT jN ft kU iM dC))
def wq(K:aa)(C:ai)(A:CA)(dC:Sp):TS:=
 dW (oI (kO K) (au (jo 1 [0] (iDT (fE K (fE K (aq 0) "levels") "level_of")) (bp 0) vH (gC A.bK "told" dC [] E0 (fE K (aq 1) "levels") (au (aq 0) a8))) a8))
def ud(K:aa)(C:ai)(A:CA)(i8 nN:Sp):TS:=
 dW (gC A.Keeper "receive" i8 [] E0 (aq 0) (au (cY nN [] E0 (au (fE K (aq 0) "n") (au (fE K (fE K (aq 0) "levels") "level_of") (au (aq 1) (au (aq 2) a8))))) (au (tC (.int 0)) a8)))
end K40
section
open PySem PySem.Spec PyProof.Rows L2
local macro_rules | `(tactic| walk_at "c")=>`(tactic| first|(show (0:Int)<_;lia)|exact ⟨by lia,by lia⟩|exact Or.inl ⟨by lia,by lia⟩|exact Or.inr ⟨by lia,by lia⟩|exact ⟨by lia,by lia,by lia⟩)
local macro_rules | `(tactic| k_ne)=>`(tactic| first|(with_reducible first|refine PL ?_|refine YI ?_|refine Aj ?_|refine WL ?_)|((with_reducible refine' kx ?hv ?_);(case hv=>exact rfl))|(with_reducible first|refine x_c ?_|refine x_op ?_|refine YJ ?_|refine PN ?_|refine WM ?_|refine YK ?_|refine x_if ?_|refine WN ?_|refine x_tB ?_|refine YV ?_|refine WX ?_|refine YL ?_|refine x_or ?_|refine YM ?_|refine WO ?_|refine x_orV ?_|refine WQ ?_|refine YT ?_|refine YN ?_|refine ED ?_|refine AS ?_|refine YO ?_|refine PP ?_|refine WR ?_|refine x_cb ?_|refine WS ?_|refine x_sl ?_|refine PQ ?_|refine WT ?_|refine YQ ?_)|((with_reducible refine x_rI ?hc ?_);(case hc=>walk_at "c"))|(with_reducible first|refine WU ?_|refine x_addHI ?_|refine YR ?_|refine YS ?_|refine WY ?_|refine PX ?_|refine WZ ?_|refine PU ?_|refine YX ?_|refine YY ?_|refine x_un ?_|refine x_rU ?_|refine TC ?_|refine YU ?_|refine x_rev ?_|refine x_dnew ?_|refine FH ?_|refine PY ?_)|((with_reducible refine' YW ?hv ?_);(case hv=>exact rfl))|with_reducible refine ⟨_,rfl,?_⟩)
local macro_rules | `(tactic| lk)=>`(tactic| (k_ne;repeat k_ne))
namespace K40
variable{K:aa}{C:ai}{A:CA}{Pt p dx l:ai}{H H':Hp}{n T:Nat}{ts:List Rm.Ti}{Q:VK}{R:Nat->Nat->List Int}{as:Nat->List ai}{us:List (Rm.Ti×ai)}{zs:List Zt}
open Rm
def Am(t:Int×Int):PyData:=.tuple [.int t.1,.int t.2]
theorem E6:∀{zs:List Zt},(∀z∈zs,ff H z)->dY K H ((zs.map zP).map Am) (zs.map jD)
 | [],_=>.nil
 |z::zs,h=>.cons (.tup (.of (h z aj)) (.cons (.int _) (.cons (.int _) .nil))) (E6 λy hy=>h y (ag _ hy))
theorem K6(hl:H l=some (.lst (zs.map jD)))(h:∀z∈zs,ff H z):Rep K H (.list ((zs.map zP).map Am)) (.ref l):=.lst (c6.of hl) (E6 h)
theorem wu:∀L:List (Int×Int),jC (L.map Am)=true
 | []=>rfl
 |t::ts=>by simp only[aZ,jC,gp];exact⟨by simp[Am,nB,jC],wu ts⟩
theorem uW(h:∀z∈zs,ff H z)(S:bU H H'):∀z∈zs,ff H' z:=λz hz=>S _ _ (h z hz)
theorem BD(t u:Int×Int):dt (Am t) (Am u)=decide (t=u):=by obtain⟨a,b⟩:=t;obtain⟨c,d⟩:=u;rw[gX];simp[Am,dt,Yb,vw]
theorem An(t:Int×Int):uM (Am t):=⟨EG _ (by simp[Am,nB,jC]),by simp[Am,gA,cu]⟩
theorem Gc{a b:Int}(h:H p=some (.tup [.int a,.int b])):Rep K H (Am (a,b)) (.ref p):=.tup (.of h) (.cons (.int _) (.cons (.int _) .nil))
theorem Xq{L:List (Int×Int)}{t u:Int×Int}:∀{m:Nat},m<L.idxOf t->L[m]?=some u->u≠t:=by
 induction L with
 |nil=>intro m h e;simp at e
 |cons v L ih=>
  intro m h e
  by_cases q:v=t
  .subst q;simp at h
  .have hv:(v == t)=false:=by simpa using q
   rw[Ya,hv]at h
   cases m with
   |zero=>simp at e;subst e;exact q
   |succ m=>exact ih (m:=m) (by simpa using h) (by simpa using e)
theorem IZ{a b:Int}(hl:H l=some (.lst (zs.map jD)))(hz:∀z∈zs,ff H z)(hlen:zs.length<=100000)(hp:H p=some (.tup [.int a,.int b]))(hm:(a,b)∈zs.map zP)(k:Q (.int ((zs.map zP).idxOf (a,b):Nat)) H):qc K (.ref l) [.ref p] H Q:=by
 have hi:(zs.map zP).idxOf (a,b)<(zs.map zP).length:=gF.mpr hm;refine .inr ⟨l,.ref p,(zs.map zP).map Am,Am (a,b),(zs.map zP).idxOf (a,b),Am (a,b),rfl,rfl,K6 hl hz,Gc hp,An _,fQ _ (wu _),by rw[af,af];exact di hlen,?_,by rw[BD];simp,λm e hm' em=>?_,k⟩
 .rw [aG,aB hi,zt];rfl
 .obtain ⟨u,e1,e2⟩:=gm em;subst e2;rw[BD,decide_eq_false (Xq hm' e1)]
inductive eN(K:aa)(C:ai)(vs:List V)(H:Hp)(Q:VK)(E:XK):Prop
 |mk (p:_) (r:List Int):vs=[.ref p]->c6 K H p (r.map V.int)->r.length<=1000->(∀l H' (zs:List Zt),bU H H'->H l=none->H' l=some (.lst (zs.map jD))->(∀z∈zs,ff H' z)->zs.map zP=al r->Q (.ref l) H')->eN K C vs H Q E
theorem zD:Rn (eN K C) (rh K C) ["row"]:=by rintro vs H Q E ⟨p,r,rfl,hp,hl,k⟩;unfold rh;lk;refine Xa ?_;lk;refine vP (j:=1) hp rfl λq hq=>?_;generalize eu_:upd _ q _=H1;obtain⟨S1,g1⟩:=ig eu_ hq;lk;exact⟨p,q,r,r.drop 1,rfl,S1.seq hp,c6.of g1,by lia,λl zs H2 S2 hl2 gl hz e=>k l H2 zs (S1.trans S2) (S1.free hl2) gl hz (by rw[e,KU])⟩
inductive lJ(K:aa)(C:ai)(vs:List V)(H:Hp)(Q:VK)(E:XK):Prop
 |mk (p:_) (r:List Int) (a b:Int):vs=[.ref p,.int a,.int b]->c6 K H p (r.map V.int)->r.length<=1000->(a,b)∈al r->(b,a)∈al r->(∀(t x y:ai) (H':Hp),bU H H'->H t=none->H x=none->H y=none->x≠y->H' t=some (.tup [.ref x,.ref y])->H' x=some (.lst ((xt r a b).1.map V.int))->H' y=some (.lst ((xt r a b).2.map V.int))->Q (.ref t) H')->lJ K C vs H Q E
theorem K7:Rn (lJ K C) (E5 K C (eN K C)) Vk:=by
 rintro vs H Q E ⟨p,r,a,b,rfl,hp,hl,hab,hba,k⟩;have hi:(al r).idxOf (a,b)<(al r).length:=gF.mpr hab;have hj:(al r).idxOf (b,a)<(al r).length:=gF.mpr hba;rw[xP]at hi hj;unfold E5;lk;refine⟨p,r,rfl,hp,hl,λw H1 zs S1 hw gw hz ez=>?_⟩
 have hzl:zs.length<=1000:=by have:=congrArg cK ez;rw[af,xP]at this;lia
 lk;refine⟨.inl ⟨rfl,_,c6.of gw⟩,?_⟩;lk;refine⟨nW,λt1 ht1=>?_⟩;generalize eu_:upd _ t1 _=H2;obtain⟨S2,g2⟩:=ig eu_ ht1;lk;refine IZ (S2 _ _ gw) (uW hz S2) (by lia) g2 (by rw[ez];exact hab) ?_;rw[ez];lk;refine⟨.inl ⟨rfl,_,c6.of (S2 _ _ gw)⟩,?_⟩;lk;refine⟨nW,λt2 ht2=>?_⟩;generalize eu_:upd _ t2 _=H3;obtain⟨S3,g3⟩:=ig eu_ ht2;have S13:=S2.trans S3;lk;refine IZ (S13 _ _ gw) (uW hz S13) (by lia) g3 (by rw[ez];exact hba) ?_;rw[ez]
 have hpr:xt r a b=if(al r).idxOf (a,b)<(al r).idxOf (b,a)then(xQ r ((al r).idxOf (a,b)) ((al r).idxOf (b,a)),sY r ((al r).idxOf (a,b)) ((al r).idxOf (b,a)))else(sY r ((al r).idxOf (b,a)) ((al r).idxOf (a,b)),xQ r ((al r).idxOf (b,a)) ((al r).idxOf (a,b))):=rfl
 generalize (al r).idxOf (a,b)=i at hi hpr;generalize (al r).idxOf (b,a)=j at hj hpr;lk
 obtain⟨u,v,eu,ev,huv⟩:∃u v:Nat,(if(j:Int)<(i:Int)then(j:Int)else(i:Int))=(u:Int)/\(if(j:Int)>(i:Int)then(j:Int)else(i:Int))=(v:Int)/\((i<j/\u=i/\v=j)\/(¬ i<j/\u=j/\v=i)):=by
  by_cases c:i<j
  .exact ⟨i,j,by rw[if_neg (by lia)],by rw[if_pos (by lia)],.inl ⟨c,rfl,rfl⟩⟩
  .by_cases c2:j<i
   .exact ⟨j,i,by rw[if_pos (by lia)],by rw[if_neg (by lia)],.inr ⟨c,rfl,rfl⟩⟩
   .have:i=j:=by lia
    subst this;exact⟨i,i,by rw[if_neg (by lia)],by rw[if_neg (by lia)],.inr ⟨c,rfl,rfl⟩⟩
 rw[eu,ev];have hS:=S1.trans S13;refine MH (j:=u+1) (j':=v+1) (hS.seq hp) (by lia) (by lia) λy hy=>?_
 have hin:(r.drop (u+1)).take (v+1-(u+1))=sY r u v:=by unfold sY;rw[show v+1-(u+1)=v-u by lia]
 rw[hin];generalize eu_:upd _ y _=H4;obtain⟨S4,g4⟩:=ig eu_ hy;lk;refine Qg (j:=u+1) ((hS.trans S4).seq hp) (by lia) λq1 hq1=>?_;generalize eu_:upd _ q1 _=H5;obtain⟨S5,g5⟩:=ig eu_ hq1;lk;refine vP (j:=v+2) ((hS.trans (S4.trans S5)).seq hp) (by lia) λq2 hq2=>?_;generalize eu_:upd _ q2 _=H6;obtain⟨S6,g6⟩:=ig eu_ hq2;refine FL (S6 _ _ g5) g6 (by rw[bG,cW];lia) λx hx=>?_;have S7:=bU.cw (o:=.lst ((xQ r u v).map V.int)) hx;have g7:(upd H6 x (.lst ((xQ r u v).map V.int))) x=some (.lst ((xQ r u v).map V.int)):=aC
 show bp 9 (.ref x) _ (upd H6 x (.lst ((xQ r u v).map V.int))) _
 generalize upd H6 x (.lst ((xQ r u v).map V.int))=H7 at S7 g7;have S37:=S4.trans (S5.trans (S6.trans S7));have S47:=S5.trans (S6.trans S7);have nxy:x≠y:=Ne.symm (aT (S6 _ _ (S5 _ _ g4)) hx);have hHx:H x=none:=(hS.trans (S4.trans (S5.trans S6))).free hx;have hHy:H y=none:=hS.free hy;lk
 rcases huv with⟨c,rfl,rfl⟩|⟨c,rfl,rfl⟩
 .rw [if_pos c]at hpr;refine mP (λ_=>?_) λz=>absurd (by lia) z;lk;refine⟨nW,λt ht=>?_⟩;have S8:=bU.cw (o:=.tup [.ref x,.ref y]) ht;exact k t x y _ ((hS.trans S37).trans S8) ((hS.trans S37).free ht) hHx hHy nxy aC (by rw[hpr];exact S8 _ _ g7) (by rw[hpr];exact S8 _ _ (S47 _ _ g4))
 .rw [if_neg c]at hpr;refine mP (λz=>absurd (by lia) c) λ_=>?_;lk;refine⟨nW,λt ht=>?_⟩;have S8:=bU.cw (o:=.tup [.ref y,.ref x]) ht;exact k t y x _ ((hS.trans S37).trans S8) ((hS.trans S37).free ht) hHy hHx (Ne.symm nxy) aC (by rw[hpr];exact S8 _ _ (S47 _ _ g4)) (by rw[hpr];exact S8 _ _ g7)
inductive pE(K:aa)(C:ai)(vs:List V)(H:Hp)(Q:VK)(E:XK):Prop
 |mk (p:_) (r:List Int) (a:Int):vs=[.ref p,.int a]->c6 K H p (r.map V.int)->a∈r->r.length<=1000->(∀l H',bU H H'->H l=none->H' l=some (.lst ((tn r (r.idxOf a)).map V.int))->Q (.ref l) H')->pE K C vs H Q E
theorem K8:Rn (pE K C) (E4 K C) ["row","a","k"]:=by
 rintro vs H Q E ⟨p,r,a,rfl,hp,ha,hl,q⟩;unfold E4;lk;refine⟨.inl ⟨rfl,_,hp⟩,?_⟩;lk;refine MG hp ha ?_;lk;refine vP hp rfl λp1 h1=>?_;have S1:=bU.cw (o:=.lst ((r.drop (r.idxOf a)).map V.int)) h1;lk;refine MH (j:=1) (j':=r.idxOf a+1) (S1.seq hp) rfl (by lia) λp2 h2=>?_;have S2:=bU.cw (o:=.lst (((r.drop 1).take (r.idxOf a+1-1)).map V.int)) h2;refine FL (S2 _ _ aC) aC ?_ λp3 h3=>?_
 .rw [cW,bG,cW];lia
 .have S3:=bU.cw (o:=.lst (((r.drop (r.idxOf a))++((r.drop 1).take (r.idxOf a+1-1))).map V.int)) h3;have S:=(S1.trans S2).trans S3;exact q p3 _ S ((S1.trans S2).free h3) aC
inductive nJ(K:aa)(C:ai)(vs:List V)(H:Hp)(Q:VK)(E:XK):Prop
 |mk (p q:_) (r1 r2:List Int) (a b:Int):vs=[.ref p,.ref q,.int a,.int b]->c6 K H p (r1.map V.int)->c6 K H q (r2.map V.int)->a∈r1->b∈r2->r1.length<=1000->r2.length<=1000->(∀l H',bU H H'->H l=none->H' l=some (.lst ((A8 r1 r2 a b).map V.int))->Q (.ref l) H')->nJ K C vs H Q E
theorem I0:Rn (nJ K C) (Bz K C (pE K C)) ["row","other","a","b","k"]:=by rintro vs H Q E ⟨p,q,r1,r2,a,b,rfl,hp,hq,ha,hb,hl1,hl2,k⟩;unfold Bz;lk;refine⟨.inl ⟨rfl,_,hp⟩,?_⟩;lk;refine MG hp ha ?_;lk;refine Qg (j:=r1.idxOf a+1) hp (by lia) λp1 h1=>?_;generalize eu_:upd _ p1 _=H1;obtain⟨S1,g1⟩:=ig eu_ h1;lk;refine⟨q,r2,b,rfl,S1.seq hq,hb,hl2,λt H2 S2 ht gt=>?_⟩;have hlt:(tn r2 (r2.idxOf b)).length=r2.length:=QR (KR hb);refine FL (S2 _ _ g1) gt (by rw[bG];lia) λp3 h3=>?_;generalize eu_:upd _ p3 _=H3;obtain⟨S3,g3⟩:=ig eu_ h3;lk;have S13:=S1.trans (S2.trans S3);refine vP (j:=r1.idxOf a) (S13.seq hp) rfl λp4 h4=>?_;generalize eu_:upd _ p4 _=H4;obtain⟨S4,g4⟩:=ig eu_ h4;refine FL (S4 _ _ g3) g4 (by rw[bj,bG,cW];lia) λp5 h5=>?_;have S5:=bU.cw (o:=.lst ((r1.take (r1.idxOf a+1)++tn r2 (r2.idxOf b)++r1.drop (r1.idxOf a)).map V.int)) h5;refine k p5 _ ((S13.trans S4).trans S5) ((S13.trans S4).free h5) ?_;unfold A8;rw[← cI];exact aC
def jE(K:aa)(C:ai):Sp:=λvs H Q _=>∃i:Int,vs=[.int i]/\Q (.bl true) H
theorem Gd:Rn (jE K C) (yV K C) yN:=by rintro vs H Q E ⟨i,rfl,k⟩;unfold yV;lk;refine P0 (.int i) W4 ?_;lk;refine lz ?_;lk;refine P0 (.int i) W5 ?_;lk;exact k
inductive mj(K:aa)(C:ai)(vs:List V)(H:Hp)(Q:VK)(E:XK):Prop
 |mk (n i:Nat):vs=[.int n,.int i]->i<n->Q (.bl true) H->mj K C vs H Q E
theorem Ge:Rn (mj K C) (yX K C (jE K C)) yL:=by rintro vs H Q E ⟨n,i,rfl,hi,k⟩;unfold yX;lk;refine⟨i,rfl,?_⟩;refine⟨true,rfl,?_⟩;refine lz ?_;lk;refine mP (λ_=>?_) λz=>absurd (show(0:Int)<=i by lia) z;lk;rw[decide_eq_true (show(i:Int)<n by lia)];exact k
inductive cF(K:aa)(C:ai)(vs:List V)(H:Hp)(Q:VK)(E:XK):Prop
 |mk (n i:Nat):vs=[.int n,.int i]->i<n->Q .non H->cF K C vs H Q E
theorem tj:Rn (cF K C) (nH K C (mj K C)) yL:=by rintro vs H Q E ⟨n,i,rfl,hi,k⟩;unfold nH;lk;refine⟨n,i,rfl,hi,?_⟩;refine⟨true,rfl,?_⟩;refine kg ?_;lk;exact k
inductive dH(K:aa)(C:ai)(vs:List V)(H:Hp)(Q:VK)(E:XK):Prop
 |mk (n i j:Nat):vs=[.int n,.int i,.int j]->i<n->j<n->Q .non H->dH K C vs H Q E
theorem rH:Rn (dH K C) (mL K C (cF K C)) yK:=by rintro vs H Q E ⟨n,i,j,rfl,hi,hj,k⟩;unfold mL;lk;refine⟨n,i,rfl,hi,?_⟩;lk;refine⟨n,j,rfl,hj,?_⟩;exact k
inductive b9(K:aa)(C:ai)(vs:List V)(H:Hp)(Q:VK)(E:XK):Prop
 |mk (n i j:Nat):vs=[.int n,.int i,.int j]->i<n->j<n->i≠j->Q .non H->b9 K C vs H Q E
theorem uX:Rn (b9 K C) (oi K C (dH K C)) yK:=by rintro vs H Q E ⟨n,i,j,rfl,hi,hj,hij,k⟩;unfold oi;lk;refine⟨n,i,j,rfl,hi,hj,?_⟩;lk;refine mP (λz=>absurd (jB.mp z) (by lia)) λ_=>?_;lk;exact k
theorem lK{ta tv:TE}{f:bF}{D:vA}{Z:L2.St}(h:tv Z H λy H1=>ta Z H1 λx H2=>∃a C dx fs,x=.ref a/\H2 a=some (.ins C dx fs)/\CY K C/\dN K C f/\fs.length<1000/\D.nx Z (upd H2 a (.ins C dx (dX f y fs)))):sU K ta tv f D Z H:=h
theorem kn:¬ (("n":bF)="rows"):=by decide +kernel
def Gg(n:Nat)(l:ai):List (bF×V):=dX "rows" (.ref l) (dX "n" (.int n) [])
theorem iN(n:Nat)(l:ai):(Gg n l).lookup ("rows":bF)=some (.ref l):=by unfold Gg;rw[fB,if_pos rfl]
theorem xY(n:Nat)(l:ai):(Gg n l).lookup ("n":bF)=some (.int n):=by unfold Gg;rw[fB,if_neg kn,fB,if_pos rfl]
theorem lS(n:Nat)(l:ai){m:bF}(h1:¬ m="rows":=by decide +kernel)(h2:¬ m="n":=by decide +kernel):(Gg n l).lookup m=none:=by unfold Gg;rw[fB,if_neg h1,fB,if_neg h2];rfl
structure CT(K:aa)(C:ai):Prop where
 cl:CY K C
 n:dN K C "n"
 rows:dN K C "rows"
structure WA(C:ai)(H:Hp)(p dx l:ai)(n:Nat)(as:List ai)(R:Nat->List Int):Prop where
 ob:H p=some (.ins C dx (Gg n l))
 rl:H l=some (.lst (as.map V.ref))
 len:as.length=n
 at_:∀i a,as[i]?=some a->H a=some (.lst ((R i).map V.int))
 ne:∀a∈as,a≠l
theorem WA.get{as:List ai}{R:Nat->List Int}(W:WA C H p dx l n as R){i:Nat}(hi:i<n):∃a,as[i]?=some a/\H a=some (.lst ((R i).map V.int))/\a≠l:=by
 have h:i<as.length:=by rw[W.len];exact hi
 exact⟨as[i],aB h,W.at_ i _ (aB h),W.ne _ (kd h)⟩
theorem WA.same{as:List ai}{R:Nat->List Int}(W:WA C H p dx l n as R)(S:bU H H'):WA C H' p dx l n as R:=
 ⟨S _ _ W.ob,S _ _ W.rl,W.len,λi a h=>S _ _ (W.at_ i a h),W.ne⟩
inductive fM(K:aa)(C:ai)(vs:List V)(H:Hp)(Q:VK)(E:XK):Prop
 |mk (p dx:_) (n:Nat):vs=[.ref p,.int n]->H p=some (.ins C dx [])->CT K C->n<=1000->(∀(l:ai) (as:List ai) (H':Hp),WA C H' p dx l n as (λi=>[(i:Int)])->H l=none->aV p H H'->Q .non H')->fM K C vs H Q E
theorem wx:Rn (fM K C) (pG K C) qo:=by
 rintro vs H Q E ⟨p,dx,n,rfl,hp,ct,hn,k⟩;unfold pG;k_ne;refine lK ?_;lk;refine⟨p,C,dx,[],rfl,hp,ct.cl,ct.n,by decide,?_⟩;dsimp only;refine lK ?_;lk;refine⟨by lia,by lia,λacc hacc=>?_⟩
 have e0:((n:Int)).toNat=n:=by lia
 rw[e0]
 have hap:acc≠p:=λe=>by rw[e,aC]at hacc;cases hacc
 have hacc0:H acc=none:=by rw[aF hap]at hacc;exact hacc
 have g0:(upd H p (.ins C dx (dX "n" (.int n) []))) p=some (.ins C dx (dX "n" (.int n) [])):=aC;have B0:aV p H (upd H p (.ins C dx (dX "n" (.int n) []))):=aV.upd;generalize upd H p (.ins C dx (dX "n" (.int n) []))=H0 at hacc g0 B0;refine kM (n:=n) (λt ys H1=>∃as:List ai,ys=as.map V.ref/\as.length=t/\H1 acc=some (.lst ys)/\bU H0 H1/\∀(i:Nat) a,as[i]?=some a->a≠acc/\H1 a=some (.lst ([(i:Int)].map V.int))) (λZ=>∃o,Z=[o]) ⟨[],rfl,rfl,aC,bU.cw hacc,λi a h=>by simp at h⟩ ⟨_,rfl⟩ ?_ ?_ ?_ ?_
 .rintro t ys H1 ⟨_,_,_,h,_⟩;exact h
 .rintro ys H1 ⟨as,rfl,hl,g1,S1,hA⟩;refine⟨ay n,?_⟩;lk;refine⟨p,C,dx,_,rfl,S1 _ _ g0,ct.cl,ct.rows,by show 1<1000;decide,?_⟩;have hb:aV p H1 (upd H1 p (.ins C dx (Gg n acc))):=aV.upd
  have nl:∀{b:ai}{xs:List V},H1 b=some (.lst xs)->b≠p:=λe z=>by rw[z,S1 _ _ g0]at e;cases e
  refine k acc as _ ⟨aC,hb _ _ g1 hap,hl,λi a ha=>hb _ _ (hA i a ha).2 (nl (hA i a ha).2),λa ha=>?_⟩ hacc0 λb o e hne=>hb _ _ (S1 _ _ (B0 _ _ e hne)) hne;obtain⟨i,hi⟩:=bE.mp ha;exact(hA i a hi).1
 .rintro t ys H1 ht _;exact ht
 .rintro t ys σ' H1 x H2 ht ⟨as,rfl,hl,g1,S1,hA⟩ ⟨o,rfl⟩ ⟨eH,ex⟩;subst eH ex;lk;refine lz ?_;lk;refine⟨nW,λq hq=>?_⟩;have T:=bU.cw (o:=.lst [.int (0+(t:Int))]) hq
  have u:(upd H2 q (.lst [.int (0+(t:Int))])) q=some (.lst ([(t:Int)].map V.int)):=by rw[aC];simp
  generalize upd H2 q (.lst [.int (0+(t:Int))])=H3 at T u;have hqa:q≠acc:=Ne.symm (aT g1 hq);refine⟨T _ _ g1,cZ (m:=10000) (by rw[af];lia),jH.mk' ht ⟨_,rfl⟩ ⟨as++[q],by simp,by simp[hl],aC,λb o e=>by rw[aF (aT e hacc)];exact T _ _ (S1 _ _ e),λi a ha=>?_⟩⟩
  by_cases hi:i<as.length
  .rw [eI hi]at ha;obtain⟨h1,h2⟩:=hA i a ha;exact⟨h1,by rw[aF h1];exact T _ _ h2⟩
  .rw [d7 (by lia)]at ha
   have:i=as.length:=by have:=(av.mp ha).1;simp at this;lia
   subst this;simp at ha;subst ha;rw[hl];exact⟨hqa,by rw[aF hqa];exact u⟩
inductive fR(K:aa)(C:ai)(vs:List V)(H:Hp)(Q:VK)(E:XK):Prop
 |mk (p dx l q:_) (n:Nat) (as:List ai) (s:List Int):vs=[.ref p,.ref q]->CT K C->H p=some (.ins C dx (Gg n l))->H l=some (.lst (as.map V.ref))->as.length=n->H q=some (.lst (s.map V.int))->q≠l->(∀x∈s,∃j:Nat,j<n/\x=(j:Int))->(∀(as':List ai) H',as'.length=n->(∀(i:Nat) (a:ai),as[i]?=some a->as'[i]?=some (if(i:Int)∈s then q else a))->H' l=some (.lst (as'.map V.ref))->aV l H H'->Q .non H')->fR K C vs H Q E
theorem Dq:Rn (fR K C) (wk K C) ["self","row","place"]:=by
 rintro vs H Q E ⟨p,dx,l,q,n,as,s,rfl,ct,hp,hl,hn,hq,hql,hs,k⟩;have hpl:p≠l:=dO hp hl;unfold wk rn;lk
 refine .inl ⟨⟨_,c6.of hq⟩,i6 (K:=K) (a:=q) (xs:=s.map V.int) (λi Z H1=>∃(as':List ai) (o:Option V),Z=[some (.ref p),some (.ref q),o]/\as'.length=n/\(∀(j:Nat) (a:ai),as[j]?=some a->as'[j]?=some (if(j:Int)∈s.take i then q else a))/\H1 l=some (.lst (as'.map V.ref))/\aV l H H1)
  ⟨as,_,rfl,hn,λj a h=>by simpa using h,hl,aV.refl _ _⟩ ?_ ?_ ?_⟩
 .rintro i Z H1 _ ⟨as',o,_,_,_,_,B⟩;exact c6.of (B _ _ hq hql)
 .rintro i x Z H1 hi ⟨as',o,rfl,hn',hA,g1,B⟩;obtain⟨c,hc,ex⟩:=gm hi;have ex:x=V.int c:=ex.symm;subst ex;obtain⟨j,hj,rfl⟩:=hs c (aP hc);k_go;refine⟨p,C,dx,_,_,rfl,B _ _ hp hpl,ct.cl,ct.rows,iN _ _,?_⟩;lk;refine WV g1 (W7 (j:=j) rfl (by rw[af];lia)) ?_;refine⟨as'.set j q,_,rfl,by simpa using hn',λk' a ha=>?_,?_,λb o' e hb=>by rw[aF hb];exact B _ _ e hb⟩
  .have e1:s.take (i+1)=s.take i++[(j:Int)]:=by rw[Yp,hc];rfl
   rw[e1]
   by_cases hk:k'=j
   .subst hk;rw[lU (by rw[hn',← hn];exact(av.mp ha).1),if_pos (by simp)]
   .rw [vn (Ne.symm hk),hA k' a ha]
    have:((k':Int)∈s.take i++[(j:Int)])↔(k':Int)∈s.take i:=by simp only[aL,ax];exact⟨λh=>h.elim id λe=>absurd (by lia) hk,.inl⟩
    by_cases c1:(k':Int)∈s.take i
    .rw [if_pos c1,if_pos (this.mpr c1)]
    .rw [if_neg c1,if_neg (λh=>c1 (this.mp h))]
  .rw [aC,List.map_set]
 .rintro Z H1 ⟨as',o,rfl,hn',hA,g1,B⟩;rw[af,V3]at hA;exact k as' H1 hn' hA g1 B
inductive eO(K:aa)(C:ai)(vs:List V)(H:Hp)(Q:VK)(E:XK):Prop
 |mk (p dx l:_) (n a b:Nat) (as R:_):vs=[.ref p,.int a,.int b]->CT K C->WA C H p dx l n as R->Wd n R->a<n->b<n->Q (.bl (decide ((b:Int)∈R a))) H->eO K C vs H Q E
theorem zE:Rn (eO K C) (rA K C (dH K C)) sZ:=by
 rintro vs H Q E ⟨p,dx,l,n,a,b,as,R,rfl,ct,W,D,ha,hb,k⟩;obtain⟨ra,e1,e2,_⟩:=W.get ha;obtain⟨rb,f1,f2,_⟩:=W.get hb
 have hd:∀i,i<n->∃x,(R i)[0]?=some x/\(R i).head?=some x:=λi hi=>by
  cases h:R i with
  |nil=>exact absurd h (D.r i hi).ne
  |cons x t=>exact⟨x,rfl,rfl⟩
 obtain⟨x,hx,hx'⟩:=hd a ha;obtain⟨y,hy,hy'⟩:=hd b hb;have hj:=D.head ha hb;rw[hx',hy']at hj;unfold rA;k_go;refine⟨p,C,dx,_,_,rfl,W.ob,ct.cl,ct.n,xY _ _,?_⟩;lk;refine⟨n,a,b,rfl,ha,hb,?_⟩;k_go;refine⟨p,C,dx,_,_,rfl,W.ob,ct.cl,ct.rows,iN _ _,?_⟩;lk;refine nz (c6.of W.rl) (fj (j:=a) rfl (by rw[aG,e1];rfl)) ?_;lk;refine MI (c6.of e2) (j:=0) rfl hx ?_;k_go;refine⟨p,C,dx,_,_,rfl,W.ob,ct.cl,ct.rows,iN _ _,?_⟩;lk;refine nz (c6.of W.rl) (fj (j:=b) rfl (by rw[aG,f1];rfl)) ?_;lk;refine MI (c6.of f2) (j:=0) rfl hy ?_;lk
 have e:decide (V.int x=V.int y)=decide ((b:Int)∈R a):=by rw[gX,decide_eq_true_iff,decide_eq_true_iff,jB,← hj];exact⟨λh=>by rw[h],λh=>aX h⟩
 rw[e];exact k
inductive fS(K:aa)(C:ai)(vs:List V)(H:Hp)(Q:VK)(E:XK):Prop
 |mk (p dx l:_) (n a b:Nat) (as R:_):vs=[.ref p,.int a,.int b]->CT K C->WA C H p dx l n as R->Wd n R->n<=200->a<n->b<n->(b:Int)∉R a->(∀(as':List ai) H',WA C H' p dx l n as' (lk R a b)->aV l H H'->Q .non H')->fS K C vs H Q E
theorem Ds:Rn (fS K C) (wm K C (b9 K C) (eO K C) (fR K C) (nJ K C)) sZ:=by
 rintro vs H Q E ⟨p,dx,l,n,a,b,as,R,rfl,ct,W,D,hn,ha,hb,hm,k⟩;obtain⟨ra,e1,e2,_⟩:=W.get ha;obtain⟨rb,f1,f2,_⟩:=W.get hb;have hla:=D.len ha;have hlb:=D.len hb;have hab:a≠b:=λe=>hm (e▸D.me a ha);obtain⟨T2,D2,E2⟩:=D.link ha hb hm;unfold wm;k_go;refine⟨p,C,dx,_,_,rfl,W.ob,ct.cl,ct.n,xY _ _,?_⟩;lk;refine⟨n,a,b,rfl,ha,hb,hab,?_⟩;k_in;refine⟨p,dx,_,rfl,W.ob,lS _ _,?_⟩;lk;refine⟨p,dx,l,n,a,b,as,R,rfl,ct,W,D,ha,hb,?_⟩;refine⟨_,rfl,?_⟩;refine mP (λz=>absurd z hm) λ_=>?_;k_in;refine⟨p,dx,_,rfl,W.ob,lS _ _,?_⟩;k_go;refine⟨p,C,dx,_,_,rfl,W.ob,ct.cl,ct.rows,iN _ _,?_⟩;lk;refine nz (c6.of W.rl) (fj (j:=a) rfl (by rw[aG,e1];rfl)) ?_;k_go;refine⟨p,C,dx,_,_,rfl,W.ob,ct.cl,ct.rows,iN _ _,?_⟩;lk;refine nz (c6.of W.rl) (fj (j:=b) rfl (by rw[aG,f1];rfl)) ?_;lk;refine⟨ra,rb,R a,R b,a,b,rfl,c6.of e2,c6.of f2,D.me a ha,D.me b hb,by lia,by lia,λq H1 S1 hq gq=>?_⟩;lk;have W1:=W.same S1;have hql:q≠l:=Ne.symm (aT W.rl hq);refine⟨p,dx,l,q,n,as,_,rfl,ct,W1.ob,W1.rl,W.len,gq,hql,λx hx=>?_,λas' H2 hl2 hA g2 B2=>?_⟩
 .rcases (T2.mem x).mp hx with h|h
  .obtain ⟨j,hj,e,_⟩:=D.G8 a ha x h;exact⟨j,hj,e⟩
  .obtain ⟨j,hj,e,_⟩:=D.G8 b hb x h;exact⟨j,hj,e⟩
 .have hpl:p≠l:=dO W.ob W.rl
  have hAt:∀(i:Nat) (c:ai),as'[i]?=some c->∃c0,as[i]?=some c0/\c=if(i:Int)∈A8 (R a) (R b) a b then q else c0:=λi c hc=>by
   have hi:i<as.length:=by rw[W.len,← hl2];exact(av.mp hc).1
   have:=hA i _ (aB hi);rw[hc]at this;exact⟨_,aB hi,aX this⟩
  refine k as' H2 ⟨B2 _ _ W1.ob hpl,g2,hl2,λi c hc=>?_,λc hc=>?_⟩ (λb' o e hne=>B2 _ _ (S1 _ _ e) hne)
  .obtain ⟨c0,h0,ec⟩:=hAt i c hc
   show H2 c=some (.lst ((if(i:Int)∈A8 (R a) (R b) a b then A8 (R a) (R b) a b else R i).map V.int))
   by_cases ci:(i:Int)∈A8 (R a) (R b) a b
   .rw [if_pos ci]at ec ⊢;rw[ec];exact B2 _ _ gq hql
   .rw [if_neg ci]at ec ⊢;rw[ec];exact B2 _ _ (W1.at_ i c0 h0) (W.ne _ (aP h0))
  .obtain ⟨i,hi⟩:=bE.mp hc;obtain⟨c0,h0,ec⟩:=hAt i c hi
   by_cases ci:(i:Int)∈A8 (R a) (R b) a b
   .rw [if_pos ci]at ec;rw[ec];exact hql
   .rw [if_neg ci]at ec;rw[ec];exact W.ne _ (aP h0)
inductive jF(K:aa)(C:ai)(vs:List V)(H:Hp)(Q:VK)(E:XK):Prop
 |mk (p dx l:_) (n a b:Nat) (as R:_):vs=[.ref p,.int a,.int b]->CT K C->WA C H p dx l n as R->Wd n R->n<=200->a<n->b<n->a≠b->Ed n R a b->(∀(as':List ai) H',WA C H' p dx l n as' (Rm.ct R a b)->aV l H H'->Q .non H')->jF K C vs H Q E
theorem Gh:Rn (jF K C) (y4 K C (b9 K C) (lJ K C) (eN K C) (fR K C)) ["self","a","b","row"]:=by
 rintro vs H Q E ⟨p,dx,l,n,a,b,as,R,rfl,ct,W,D,hn,ha,hb,hab,hE,k⟩;obtain⟨ra,e1,e2,_⟩:=W.get ha;have hla:=D.len ha;have hm:=Ed.at D hE ha (D.me a ha);have hm':=(D.r a ha).sym _ _ hm;have P:=(D.r a ha).parted hm (by lia:(a:Int)≠b);have PM:=P.mem (D.r a ha);have hpl:p≠l:=dO W.ob W.rl;unfold y4;k_go;refine⟨p,C,dx,_,_,rfl,W.ob,ct.cl,ct.n,xY _ _,?_⟩;lk;refine⟨n,a,b,rfl,ha,hb,hab,?_⟩;lk;refine⟨nW,λt ht=>?_⟩;generalize eu_:upd _ t _=H1;obtain⟨S1,g1⟩:=ig eu_ ht;have W1:=W.same S1;k_go;refine⟨p,C,dx,_,_,rfl,W1.ob,ct.cl,ct.rows,iN _ _,?_⟩;lk;refine nz (c6.of W1.rl) (fj (j:=a) rfl (by rw[aG,e1];rfl)) ?_;lk;refine⟨ra,R a,rfl,c6.of (S1 _ _ e2),by lia,λz H2 zs S2 hz gz pz ez=>?_⟩;refine Ia (Gc (S2 _ _ g1)) (K6 gz pz) (An _) (fQ _ (wu _)) ?_
 have hin:(((zs.map zP).map Am).any λe=>dt e (Am ((a:Int),(b:Int))))=true:=by rw[ez,Nz,C5];exact⟨_,hm,by simp[BD]⟩
 rw[hin];lk;refine kg ?_;have S12:=S1.trans S2;have W2:=W.same S12;lk;unfold ua;k_go;refine⟨p,C,dx,_,_,rfl,W2.ob,ct.cl,ct.rows,iN _ _,?_⟩;lk;refine nz (c6.of W2.rl) (fj (j:=a) rfl (by rw[aG,e1];rfl)) ?_;lk;refine⟨ra,R a,a,b,rfl,c6.of (S12 _ _ e2),by lia,hm,hm',λu x y H3 S3 hu hx hy hxy gu gx gy=>?_⟩;have S13:=S12.trans S3;have W3:=W.same S13;have hxl:x≠l:=Ne.symm (aT W2.rl hx);have hyl:y≠l:=Ne.symm (aT W2.rl hy);have hul:u≠l:=Ne.symm (aT W2.rl hu)
 have jin:∀z,z∈R a->∃j:Nat,j<n/\z=(j:Int):=λz hz=>let ⟨j,hj,e,_⟩:=D.G8 a ha z hz;⟨j,hj,e⟩
 have ectR:∀i:Nat,Rm.ct R a b i=if(i:Int)∈(xt (R a) a b).2 then(xt (R a) a b).2 else if(i:Int)∈(xt (R a) a b).1 then(xt (R a) a b).1 else R i:=λ_=>rfl
 generalize (xt (R a) a b).1=X at P PM gx ectR;generalize (xt (R a) a b).2=Y at P PM gy ectR;lk
 refine .inr (.inl ⟨⟨_,jq.of gu⟩,SS (K:=K) (a:=u) (xs:=[.ref x,.ref y]) (λi Z H4=>∃(as1:List ai) (o:Option V),Z=[some (.ref p),some (.int (a:Int)),some (.int (b:Int)),o]/\as1.length=n/\H4 l=some (.lst (as1.map V.ref))/\aV l H3 H4 /\∀(j:Nat) (c:ai),as[j]?=some c->as1[j]?=some (if 2<=i/\(j:Int)∈Y then y else if 1<=i/\(j:Int)∈X then x else c)) ⟨as,_,rfl,W.len,W3.rl,aV.refl _ _,λj c h=>by rw[if_neg (λz=>by lia),if_neg (λz=>by lia)];exact h⟩ ?_ ?_ ?_⟩)
 .rintro i Z H4 _ ⟨_,_,_,_,_,B,_⟩;exact jq.of (B _ _ gu hul)
 .rintro i v Z H4 hi ⟨as1,o,rfl,hl1,g4,B,hA⟩
  obtain⟨q,s,hql,gq,hs,ev,hif⟩:∃(q:ai) (s:List Int),q≠l/\H3 q=some (.lst (s.map V.int))/\(∀z∈s,∃j:Nat,j<n/\z=(j:Int))/\v=.ref q/\(∀(j:Nat) (c:ai),(if(j:Int)∈s then q else if 2<=i/\(j:Int)∈Y then y else if 1<=i/\(j:Int)∈X then x else c)=if 2<=i+1/\(j:Int)∈Y then y else if 1<=i+1/\(j:Int)∈X then x else c):=by
   rcases(show i=0\/i=1 by have:=(av.mp hi).1;simp at this;lia)with rfl|rfl
   .refine ⟨x,X,hxl,gx,λz hz=>jin z ((PM z).mpr (.inl hz)),by simpa using hi.symm,λj c=>?_⟩
    by_cases c1:(j:Int)∈X<;>simp[c1]
   .refine ⟨y,Y,hyl,gy,λz hz=>jin z ((PM z).mpr (.inr hz)),by simpa using hi.symm,λj c=>?_⟩
    by_cases c2:(j:Int)∈Y<;>by_cases c1:(j:Int)∈X<;>simp[c1,c2]
  subst ev;k_in;refine⟨p,dx,_,rfl,B _ _ W3.ob hpl,lS _ _,?_⟩;lk;refine⟨p,dx,l,q,n,as1,s,rfl,ct,B _ _ W3.ob hpl,g4,hl1,B _ _ gq hql,hql,hs,λas2 H5 hl2 hA2 g5 B5=>?_⟩;refine⟨as2,_,rfl,hl2,g5,λb' o' e hne=>B5 _ _ (B _ _ e hne) hne,λj c hc=>?_⟩;rw[hA2 j _ (hA j c hc),hif j c]
 .rintro Z H4 ⟨as2,o,rfl,hl2,g4,B,hA⟩
  have hAt:∀(i:Nat) (c:ai),as2[i]?=some c->∃c0,as[i]?=some c0/\c=if(i:Int)∈Y then y else if(i:Int)∈X then x else c0:=λi c hc=>by
   have hi:i<as.length:=by rw[W.len,← hl2];exact(av.mp hc).1
   have:=hA i _ (aB hi);rw[hc]at this;refine⟨_,aB hi,(aX this).trans ?_⟩
   show(if 2<=2/\(i:Int)∈Y then y else if 1<=2/\(i:Int)∈X then x else as[i])=_
   simp
  refine k as2 H4 ⟨B _ _ W3.ob hpl,g4,hl2,λi c hc=>?_,λc hc=>?_⟩ (λb' o' e hne=>B _ _ (S13 _ _ e) hne)
  .obtain ⟨c0,h0,ec⟩:=hAt i c hc;rw[ectR]
   by_cases c2:(i:Int)∈Y
   .rw [if_pos c2]at ec ⊢;rw[ec];exact B _ _ gy hyl
   .rw [if_neg c2]at ec ⊢
    by_cases c1:(i:Int)∈X
    .rw [if_pos c1]at ec ⊢;rw[ec];exact B _ _ gx hxl
    .rw [if_neg c1]at ec ⊢;rw[ec];exact B _ _ (W3.at_ i c0 h0) (W.ne _ (aP h0))
  .obtain ⟨i,hi⟩:=bE.mp hc;obtain⟨c0,h0,ec⟩:=hAt i c hi
   by_cases c2:(i:Int)∈Y
   .rw [if_pos c2]at ec;rw[ec];exact hyl
   .rw [if_neg c2]at ec
    by_cases c1:(i:Int)∈X
    .rw [if_pos c1]at ec;rw[ec];exact hxl
    .rw [if_neg c1]at ec;rw[ec];exact W.ne _ (aP h0)
inductive jZ(K:aa)(C:ai)(vs:List V)(H:Hp)(Q:VK)(E:XK):Prop
 |mk (p dx l:_) (n a:Nat) (as R:_):vs=[.ref p,.int a]->CT K C->WA C H p dx l n as R->Wd n R->(R a).length<=250->a<n->(∀q (ks:List Int),H q=none->ks.Pairwise (· < ·)->(∀x,x∈ks↔x∈R a)->Q (.ref q) (upd H q (.lst (ks.map V.int))))->jZ K C vs H Q E
theorem BE:Rn (jZ K C) (ub K C (cF K C)) yM:=by rintro vs H Q E ⟨p,dx,l,n,a,as,R,rfl,ct,W,D,hn,ha,k⟩;obtain⟨ra,e1,e2,_⟩:=W.get ha;unfold ub;k_go;refine⟨p,C,dx,_,_,rfl,W.ob,ct.cl,ct.n,xY _ _,?_⟩;lk;refine⟨n,a,rfl,ha,?_⟩;lk;refine KQ ?_;k_go;refine⟨p,C,dx,_,_,rfl,W.ob,ct.cl,ct.rows,iN _ _,?_⟩;lk;refine nz (c6.of W.rl) (fj (j:=a) rfl (by rw[aG,e1];rfl)) ?_;lk;refine⟨ra,R a,rfl,c6.of e2,by lia,?_,λq ks hq h1 h2=>k q ks hq h1 h2⟩;obtain⟨ds,d1,d2,d3⟩:=(D.r a ha).cnt;exact⟨ds,by lia,λx hx=>(d2 x).mpr hx⟩
inductive jM(K:aa)(C:ai)(vs:List V)(H:Hp)(Q:VK)(E:XK):Prop
 |mk (p dx l:_) (n a:Nat) (as R:_):vs=[.ref p,.int a]->CT K C->WA C H p dx l n as R->Wd n R->a<n->Q (.int ((((R a).length:Int)+1)/2)) H->jM K C vs H Q E
theorem Dt:Rn (jM K C) (wo K C (cF K C)) yM:=by rintro vs H Q E ⟨p,dx,l,n,a,as,R,rfl,ct,W,D,ha,k⟩;obtain⟨ra,e1,e2,_⟩:=W.get ha;unfold wo;k_go;refine⟨p,C,dx,_,_,rfl,W.ob,ct.cl,ct.n,xY _ _,?_⟩;lk;refine⟨n,a,rfl,ha,?_⟩;k_go;refine⟨p,C,dx,_,_,rfl,W.ob,ct.cl,ct.rows,iN _ _,?_⟩;lk;refine nz (c6.of W.rl) (fj (j:=a) rfl (by rw[aG,e1];rfl)) ?_;lk;refine AV (c6.of e2) ?_;lk;exact k
inductive f9(K:aa)(C:ai)(vs:List V)(H:Hp)(Q:VK)(E:XK):Prop
 |mk (n:Nat):vs=[.int n]->1<=n->n<=200->Q (.bl true) H->f9 K C vs H Q E
theorem Gi:Rn (f9 K C) (yW K C (jE K C)) yN:=by rintro vs H Q E ⟨n,rfl,h1,h2,k⟩;unfold yW;lk;refine⟨n,rfl,?_⟩;lk;refine lz ?_;lk;refine mP (λh=>?_) λh=>absurd (show(1:Int)<=n by lia) h;lk;rw[show decide ((n:Int)<=200)=true from decide_eq_true (by lia)];exact k
def Top(n:Int)(j:Nat):Prop:=(j=0\/2*(2:Int)^j<=n)/\n<4*(2:Int)^j
def qf(K:aa)(C:ai):Sp:=λvs H Q _=>∃n:Int,vs=[.int n]/\∀j:Nat,Top n j->Q (.int j) H
theorem Ja(j:Nat):(0:Int)<2^j:=Int.pow_pos (by decide)
theorem Ud:Rn (qf K C) (Q6 K C) ["n","level","needed"]:=by
 rintro vs H Q E ⟨n,rfl,k⟩;unfold Q6;lk;unfold IS;refine qR (λZ H'=>H'=H/\∃j:Nat,Z=[some (.int n),some (.int j),some (.int (4*2^j))]/\(j=0\/2*(2:Int)^j<=n)) (λZ _=>match Z with|[_,_,some (.int p)]=>(n+1-p).toNat|_=>0) ⟨rfl,0,rfl,.inl rfl⟩ ?_;rintro Z H' ⟨rfl,j,rfl,hj⟩;have hp:=Ja j;lk;refine mP (λh=>⟨_,ME,?_⟩) λh=>?_
 .lk;refine⟨⟨rfl,j+1,?_,.inr ?_⟩,?_⟩
  .have e:(4*2^j*2:Int)=4*2^(j+1):=by rw[CS];lia
   show[some (V.int n),some (V.int ((j:Int)+1)),some (V.int (4*2^j*2))]=_
   rw[e];rfl
  .rw [CS];lia
  .show (n+1-4*2^j*2).toNat<(n+1-4*2^j).toNat
   lia
 .lk;exact k j ⟨hj,by lia⟩
inductive kC(K:aa)(C:ai)(vs:List V)(H:Hp)(Q:VK)(E:XK):Prop
 |mk (a b:Nat):vs=[.int a,.int b]->(∀p,H p=none->Q (.ref p) (upd H p (.tup [.int (min a b:Nat),.int (max a b:Nat)])))->kC K C vs H Q E
theorem K9:Rn (kC K C) (E1 K C) ["a","b"]:=by
 rintro vs H Q E ⟨a,b,rfl,k⟩;unfold E1;lk;refine mP (λh=>?_) λh=>?_
 .rw [show min a b=a by lia,show max a b=b by lia]at k;lk;exact⟨nW,k⟩
 .rw [show min a b=b by lia,show max a b=a by lia]at k;lk;exact⟨nW,k⟩
abbrev pk(x y:Nat):List dJ:=[a9 (x:Int),a9 (y:Int)]
inductive nN(K:aa)(C:ai)(vs:List V)(H:Hp)(Q:VK)(E:XK):Prop
 |mk (n a b:Nat) (d:_) (kvs:List (List dJ×V)):vs=[.int n,.ref d,.int a,.int b]->a<n->b<n->a≠b->H d=some (.dT kvs)->eD kvs (pk (min a b) (max a b))=none->(∀p,H p=none->Q (.ref p) (upd H p (.tup [.int (min a b:Nat),.int (max a b:Nat)])))->nN K C vs H Q E
theorem Jb:Rn (nN K C) (BB K C (b9 K C) (kC K C)) MX:=by
 rintro vs H Q E ⟨n,a,b,d,kvs,rfl,ha,hb,hab,hd,hk,k⟩;unfold BB;lk;refine⟨n,a,b,rfl,ha,hb,hab,?_⟩;lk;refine⟨a,b,rfl,λp hp=>?_⟩;lk
 have gd:(upd H p (.tup [.int (min a b:Nat),.int (max a b:Nat)])) d=some (.dT kvs):=by rw[aF (aT hd hp)];exact hd
 refine .inr ⟨d,_,rfl,vf.t (k:=pk (min a b) (max a b)) gd aC,?_⟩;rw[hk];lk;rw[if_neg (by simp)];lk;exact k p hp
inductive eT(K:aa)(C:ai)(vs:List V)(H:Hp)(Q:VK)(E:XK):Prop
 |mk (n a b:Nat) (d:_) (kvs:List (List dJ×V)):vs=[.int n,.ref d,.int a,.int b]->a<n->b<n->a≠b->H d=some (.dT kvs)->(eD kvs (pk (min a b) (max a b))).isSome=true->(∀p,H p=none->Q (.ref p) (upd H p (.tup [.int (min a b:Nat),.int (max a b:Nat)])))->eT K C vs H Q E
theorem xZ:Rn (eT K C) (qq K C (b9 K C) (kC K C)) MX:=by
 rintro vs H Q E ⟨n,a,b,d,kvs,rfl,ha,hb,hab,hd,hk,k⟩;unfold qq;lk;refine⟨n,a,b,rfl,ha,hb,hab,?_⟩;lk;refine⟨a,b,rfl,λp hp=>?_⟩;lk
 have gd:(upd H p (.tup [.int (min a b:Nat),.int (max a b:Nat)])) d=some (.dT kvs):=by rw[aF (aT hd hp)];exact hd
 refine .inr ⟨d,_,rfl,vf.t (k:=pk (min a b) (max a b)) gd aC,?_⟩;rw[hk];lk;refine kg ?_;lk;exact k p hp
def kf(f:Ti->V)(ts:List Ti):List (List dJ×V):=ts.map λt=>(pk t.x t.y,f t)
abbrev kl:List Ti->List (List dJ×V):=kf λt=>.int t.cj
abbrev kw:List Ti->List (List dJ×V):=kf λt=>.bl t.wd
abbrev kv:List Ti->List (List dJ×V):=kf λ_=>.int 0
theorem nO{x y u v:Nat}:pk x y=pk u v↔((x:Int),(y:Int))=((u:Int),(v:Int)):=by
 constructor
 .intro h;obtain⟨h1,h2⟩:=iF h;rw[Mg h1,Mg (iF h2).1]
 .intro h;obtain⟨h1,h2⟩:=cp h
  show[a9 (x:Int),a9 (y:Int)]=_
  rw[h1,h2]
section
variable{f:Ti->V}{g:Ti->Ti}{t:Ti}
theorem iO(hn:(ts.map Ti.key).Nodup)(ht:t∈ts):eD (kf f ts) (pk t.x t.y)=some (f t):=by
 induction ts with
 |nil=>nomatch ht
 |cons s ts ih=>
  rw[aZ,bq]at hn
  by_cases e:pk s.x s.y=pk t.x t.y
  .have:s=t:=by
    rcases aw.mp ht with q|q
    .exact q.symm
    .have e':t.key=s.key:=(nO.mp e).symm;exact absurd (e'▸aN q) hn.1
   subst this;exact iu (p:=(pk s.x s.y,f s)) rfl
  .refine (gM (p:=(pk s.x s.y,f s)) e).trans (ih hn.2 ?_);exact(aw.mp ht).resolve_left λq=>e (q▸rfl)
theorem Nc{x y:Nat}(h:((x:Int),(y:Int))∉ts.map Ti.key):eD (kf f ts) (pk x y)=none:=by
 induction ts with
 |nil=>rfl
 |cons s ts ih=>
  rw[aZ,aw]at h;exact(gM (p:=(pk s.x s.y,f s)) λe=>h (.inl (nO.mp e).symm)).trans (ih λq=>h (.inr q))
theorem Rc(hn:(ts.map Ti.key).Nodup)(ht:t∈ts)(hg:∀t,(g t).key=t.key):i7 (kf f ts) (pk t.x t.y) (f (g t))=kf f (eK ts t.key g):=by
 unfold i7
 have hm:((kf f ts).any λkv=>decide (kv.1=pk t.x t.y))=true:=by rw[nu,iO hn ht];rfl
 rw[if_pos hm];unfold kf eK;rw[a7,a7];refine fH λu hu=>?_
 show(if pk u.x u.y=pk t.x t.y then(pk u.x u.y,f (g t))else(pk u.x u.y,f u))=(pk (if u.key=t.key then g u else u).x (if u.key=t.key then g u else u).y,f (if u.key=t.key then g u else u))
 by_cases c:u.key=t.key
 .rw [if_pos c,if_pos (nO.mpr c),jR hn hu ht c];obtain⟨e1,e2⟩:=Ti.LZ (hg t);rw[e1,e2]
 .rw [if_neg c,if_neg λe=>c (nO.mp e)]
theorem Ao(hg:∀t,(g t).key=t.key)(hf:∀t,f (g t)=f t)(k:Int×Int):kf f (eK ts k g)=kf f ts:=by
 unfold kf eK;rw[a7];refine fH λu hu=>?_
 show(pk (if u.key=k then g u else u).x (if u.key=k then g u else u).y,f (if u.key=k then g u else u))=_
 by_cases c:u.key=k
 .obtain ⟨e1,e2⟩:=Ti.LZ (hg u);rw[if_pos c,e1,e2,hf]
 .rw [if_neg c]
theorem Gj:mf (kf f ts) (pk t.x t.y)=kf f (ts.filter λu=>decide (u.key≠t.key)):=by
 unfold mf kf;rw[jz]
 congr 1
 refine l8 λu _=>?_;exact decide_eq_decide.mpr (not_congr nO)
theorem qg:(kf f ts).length=ts.length:=af _
end
abbrev pP(Pt:ai)(H:Hp):Prop:=L0 Pt ⟨119,28,119,61⟩ ((("in_order":bF)++".<locals>.")++"<lambda>") H
inductive ml(K:aa)(C:ai)(Pt:ai)(vs:List V)(H:Hp)(Q:VK)(E:XK):Prop
 |mk (p d:_) (zs:List Zn) (OW:List (List dJ×V)):vs=[.ref p,.ref d]->H p=some (.lst (zs.map mG))->H d=some (.dT OW)->(∀z∈zs,∃w x y:Int,z.1=[w,x,y]/\H z.2=some (.tup [.int x,.int y])/\eD OW [a9 x,a9 y]=some (.int w))->zs.length<99->pP Pt H->(∀(l:ai) (zs':List Zn) (H2:Hp),H2 l=none->Ib Pt H H2->pP Pt H2->zs'.Perm zs->zs'.Pairwise (λz w=>fo w.1 z.1=false)->Q (.ref l) (upd H2 l (.lst (zs'.map mG))))->ml K C Pt vs H Q E
theorem Gk:Rn (ml K C Pt) (om K C Pt) EO:=by rintro vs H Q E ⟨p,d,zs,OW,rfl,hp,hd,hkv,hl,hT,k⟩;unfold om;lk;unfold KN;lk;exact⟨p,d,zs,OW,rfl,hp,rfl,hd,hkv,by lia,hT,k⟩
theorem any_ints(S:List Int)(x:Int):((S.map PyData.int).any λe=>dt e (.int x))=decide (x∈S):=by
 rw[Nz,gX,C5,decide_eq_true_iff]
 constructor
 .rintro ⟨y,hy,e⟩
  have:y=x:=by simpa[dt]using e
  exact this▸hy
 .intro h;exact⟨x,h,by simp[dt]⟩
inductive dB(K:aa)(C:ai)(vs:List V)(H:Hp)(Q:VK)(E:XK):Prop
 |mk (t s:_) (x y:Int) (S:List Int):vs=[.ref t,.ref s]->H t=some (.tup [.int x,.int y])->H s=some (.lst (S.map V.int))->(∀H',bU H H'->Q (.int (ew x y S)) H')->dB K C vs H Q E
theorem zF:Rn (dB K C) (rj K C) M3:=by
 rintro vs H Q E ⟨t,s,x,y,S,rfl,ht,hs,k⟩;unfold rj;lk;refine .inr (.inl ⟨⟨_,jq.of ht⟩,λacc hacc=>?_⟩);refine kM (n:=2) (λi ys H'=>ys=(([x,y].take i).filter λz=>decide (z∈S)).map V.int/\H' acc=some (.lst ys)/\bU H H') (λZ=>∃o,Z=[o,some (.ref s)]) ⟨by simp,aC,bU.cw hacc⟩ ⟨_,rfl⟩ ?_ ?_ ?_ ?_
 .rintro i ys H' ⟨_,h,_⟩;exact h
 .rintro ys H' ⟨rfl,h,S'⟩;refine⟨⟨_,S'.XC (jq.of ht),ay _⟩,?_⟩;lk;refine uN (c6.of h) ?_
  have e:((([x,y].take 2).filter λz=>decide (z∈S)).map V.int).length=ew x y S:=by
   unfold ew
   by_cases c1:x∈S<;>by_cases c2:y∈S<;>simp[c1,c2]
  rw[e];exact k H' S'
 .rintro i ys H' hi ⟨e,h,S'⟩;exact⟨_,_,S'.XC (jq.of ht),aB hi⟩
 .rintro i ys σ' H' v H2 hi ⟨rfl,h,S'⟩ ⟨o,rfl⟩ ⟨e2,hx⟩;subst e2;have hxi:=hx _ (S'.XC (jq.of ht))
  obtain⟨a,ha⟩:∃a,[x,y][i]?=some a:=⟨_,aB (by simpa using hi)⟩
  have et:[x,y].take (i+1)=[x,y].take i++[a]:=by rw[cH,ha];rfl
  have ev:v=.int a:=by have:([x,y].map V.int)[i]?=some v:=hxi;rw[aG,ha]at this;exact(aX this).symm
  subst ev;lk;refine P9 (Rep.int a) (vO (c6.of (S' _ _ hs))) ⟨rfl,by simp[gA]⟩ (fQ _ (nC S)) ?_;rw[any_ints];lk;refine mP (λc=>?_) λc=>?_
  .lk;refine⟨h,cZ (m:=10) (by rw[af];exact bx (b0 _ _) (by rw[bG];lia)),jH.mk' hi ⟨_,rfl⟩ ⟨?_,aC,λb o q=>by rw[aF (aT q hacc)];exact S' _ _ q⟩⟩;rw[et,cb,aH];simp[c]
  .refine jH.mk' hi ⟨_,rfl⟩ ⟨?_,h,S'⟩;rw[et,cb,aH];simp[c]
inductive jN(K:aa)(C:ai)(vs:List V)(H:Hp)(Q:VK)(E:XK):Prop
 |mk (n:Int) (p q:_) (x y l:Int) (b:Bool):vs=[.int n,.ref p]->H p=some (.lst [.ref q])->H q=some (.tup [.int x,.int y,.int l,.bl b])->(∀(c:Int) H',bU H H'->Q (.int c) H')->jN K C vs H Q E
theorem La:Rn (jN K C) (E3 K C (qf K C)) ["n","ties"]:=by
 rintro vs H Q E ⟨n,p,q,x,y,l,b,rfl,hp,hq,k⟩;unfold E3;lk;refine .inl ⟨⟨_,c6.of hp⟩,λacc hacc=>?_⟩;refine Qi (λi y _=>∃c:Int,y=.int c) (λZ=>∃o o1 o2 o3,Z=[o,o1,o2,o3,some (.int n)]) (c6.of hp) hacc ⟨_,_,_,_,rfl⟩ (by simp) (λi y H2 H3 ws _ _ e=>e) (λi v σ' H2 G hi hx S2 hS done=>?_) λys H2 hly gy S2 hE=>?_
 .obtain ⟨o,o1,o2,o3,rfl⟩:=hS
  have ev:v=.ref q:=by
   match i,hx with
   | 0,hx=>exact(aX hx).symm
  subst ev;refine qS (.of (S2 _ _ hq)) rfl ?_;lk;refine⟨n,rfl,λj hj=>?_⟩;lk;exact done _ _ _ ⟨_,_,_,_,rfl⟩ (λ_ _ e=>e) ⟨_,rfl⟩
 .have ⟨cs,ec⟩:∃cs:List Int,ys=cs.map V.int:=by
   match ys,hly with
   | [v],_=>
    obtain⟨c,rfl⟩:=hE 0 v rfl;exact⟨[c],rfl⟩
  subst ec;lk;exact⟨acc,cs,rfl,c6.of gy,k _ H2 S2⟩
structure Tt where
 (p s q:ai) (ks:List Int) (rs:List Zn) (f:V) (lv:Nat) (fd:Option (Int×Int))
def kE(t:Tt):V:=.ref t.p
def row(t:Tt):Rw:=⟨t.lv,t.ks,t.rs.map (·.1),t.fd⟩
def Fd(H:Hp)(f:V)(o:Option (Int×Int)):Prop:=(o=none/\f=.non)\/∃p b,o=some p/\f=.ref b/\H b=some (.tup [.int p.1,.int p.2])
theorem Fd.same{f:V}{o:Option (Int×Int)}(h:Fd H f o)(S:∀b xs,H b=some (.tup xs)->H' b=some (.tup xs)):Fd H' f o:=h.imp_right λ⟨p,b,h1,h2,h3⟩=>⟨p,b,h1,h2,S _ _ h3⟩
theorem Fd.iff{f:V}{o:Option (Int×Int)}(h:Fd H f o):f=.non↔o=none:=by
 rcases h with⟨rfl,rfl⟩|⟨p,b,rfl,rfl,_⟩
 .exact ⟨λ_=>rfl,λ_=>rfl⟩
 .exact ⟨nofun,nofun⟩
structure pR(H:Hp)(t:Tt):Prop where
 h1:H t.p=some (.tup [.int t.lv,.ref t.s,.ref t.q,t.f])
 h2:H t.q=some (.lst (t.rs.map mG))
 h3:H t.s=some (.lst (t.ks.map V.int))
 h4:Fd H t.f t.fd
 h5:∀z∈t.rs,H z.2=some (.tup (z.1.map V.int))
theorem pR.mv{t:Tt}(h:pR H t)(S:∀b xs,H b=some (.tup xs)->H' b=some (.tup xs))(hq:H' t.q=some (.lst (t.rs.map mG)))(hs:H' t.s=some (.lst (t.ks.map V.int))):pR H' t:=⟨S _ _ h.h1,hq,hs,h.h4.same S,λz hz=>S _ _ (h.h5 z hz)⟩
theorem pR.same{t:Tt}(h:pR H t)(S:bU H H'):pR H' t:=h.mv (λb _=>S b _) (S _ _ h.h2) (S _ _ h.h3)
inductive iM(K:aa)(C:ai)(vs:List V)(H:Hp)(Q:VK)(E:XK):Prop
 |mk (a:_) (ts:List Tt):vs=[.ref a]->H a=some (.lst (ts.map kE))->(∀t∈ts,pR H t)->ts.length<=1000->(∀(c:Int) H',bU H H'->Q (.int c) H')->iM K C vs H Q E
theorem Oc:Rn (iM K C) (IT K C) ["trail"]:=by
 rintro vs H Q E ⟨a,ts,rfl,ha,hR,hl,q⟩;unfold IT;lk;refine .inl ⟨⟨_,c6.of ha⟩,λacc hacc=>?_⟩;refine vN (K:=K) (z:=a) (xs:=ts.map kE) ts (λ_=>true) (λt=>.int (t.rs.length:Int)) (λZ=>∃o o1 o2 o3,Z=[o,o1,o2,o3]) (by simp) (c6.of ha) hacc ⟨_,_,_,_,rfl⟩ (by rw[af];lia) ?_ ?_
 .rintro i t x σ' H' G G' ht hx S' ⟨o,o1,o2,o3,rfl⟩ g1 g2
  have ex:x=kE t:=by rw[aG,ht]at hx;exact(aX hx).symm
  subst ex;have ok:=(hR t (aP ht)).same S';refine qS (.of ok.h1) rfl ?_;lk;refine lz ?_;lk;refine uN (c6.of ok.h2) ?_;rw[af];exact g1 rfl _ ⟨_,_,_,_,rfl⟩
 .rintro H' S' hH;lk
  have e:(ts.filter λ_=>true).map (λt=>V.int (t.rs.length:Int))=(ts.map λt=>(t.rs.length:Int)).map V.int:=by rw[a7,n5.mpr (λ_ _=>rfl)];rfl
  rw[e]at hH;exact⟨acc,_,rfl,c6.of hH,q _ H' S'⟩
inductive kU(K:aa)(C:ai)(vs:List V)(H:Hp)(Q:VK)(E:XK):Prop
 |mk (a:_) (ts:List Tt):vs=[.ref a]->H a=some (.lst (ts.map kE))->(∀t∈ts,pR H t)->ts.length<=1000->(∀(c:Int) H',bU H H'->Q (.int c) H')->kU K C vs H Q E
theorem Od:Rn (kU K C) (IU K C (iM K C)) ["trail","finds"]:=by
 rintro vs H Q E ⟨a,ts,rfl,ha,hR,hl,q⟩;unfold IU;lk;refine .inl ⟨⟨_,c6.of ha⟩,λacc hacc=>?_⟩;refine vN (K:=K) (z:=a) (xs:=ts.map kE) ts (λt=>!decide (t.f=.non)) (λt=>t.f) (λZ=>∃o o1 o2 o3,Z=[o,o1,o2,o3]) (by simp) (c6.of ha) hacc ⟨_,_,_,_,rfl⟩ (by rw[af];lia) ?_ ?_
 .rintro i t x σ' H' G G' ht hx S' ⟨o,o1,o2,o3,rfl⟩ g1 g2
  have ex:x=kE t:=by rw[aG,ht]at hx;exact(aX hx).symm
  subst ex;have ok:=(hR t (aP ht)).same S';refine qS (.of ok.h1) rfl ?_;lk
  cases hf:(!decide (t.f=V.non))with
  |true=>
   refine lz ?_;lk
   exact g1 hf _ ⟨_,_,_,_,rfl⟩
  |false=>
   refine kg ?_;exact g2 hf _ ⟨_,_,_,_,rfl⟩
 .rintro H' S' hH;lk;refine⟨_,.inl ⟨_,c6.of hH,rfl⟩,?_⟩;generalize (!((ts.filter λt=>!decide (t.f=V.non)).map λt=>t.f).isEmpty)=bb
  cases bb with
  |true=>
   refine lz ?_;lk;refine⟨a,ts,rfl,S' _ _ ha,λt ht=>(hR t ht).same S',hl,λc H2 S2=>?_⟩;lk
   exact q _ _ (S'.trans S2)
  |false=>
   refine kg ?_;lk;exact⟨a,ts,rfl,S' _ _ ha,λt ht=>(hR t ht).same S',hl,λc H2 S2=>q _ _ (S'.trans S2)⟩
theorem eC{f g:bF}{v x:V}{r:List (bF×V)}(h:¬ g=f):dX f v ((g,x)::r)=(g,x)::dX f v r:=by show(if g=f then _ else _)=_;rw[if_neg h]
theorem wy{f:bF}{v x:V}{r:List (bF×V)}:dX f v ((f,x)::r)=(f,v)::r:=by show(if f=f then _ else _)=_;rw[if_pos rfl]
theorem ue{f:bF}{x:V}{r:List (bF×V)}:eU f ((f,x)::r)=some x:=by rw[cP,beq_self_eq_true]
theorem fO{f g:bF}{x:V}{r:List (bF×V)}(h:¬ g=f):eU g ((f,x)::r)=eU g r:=by
 rw[cP]
 have:(g == f)=false:=by simpa using h
 rw[this]
structure E7(K:aa)(C:ai)(A:CA):Prop where
 w:CT K C
 lc:CY K A.bK
 l1:dN K A.bK "level_of"
 l2:dN K A.bK "wooden"
 l3:dN K A.bK "weight_of"
 l4:dN K A.bK "woods"
 kc:CY K A.Keeper
 k1:dN K A.Keeper "n"
 k2:dN K A.Keeper "levels"
 k3:dN K A.Keeper "wood"
 k4:dN K A.Keeper "came"
 k5:dN K A.Keeper "looked"
 k6:dN K A.Keeper "risen"
 k7:dN K A.Keeper "lost"
def fL(d1 d2 d3 L:ai):List (bF×V):=[("level_of",.ref d1),("wooden",.ref d2),("weight_of",.ref d3),("woods",.ref L)]
theorem OU{d1 d2 d3 L:ai}:(fL d1 d2 d3 L).lookup ("level_of":bF)=some (.ref d1):=ue
theorem Ue{d1 d2 d3 L:ai}:(fL d1 d2 d3 L).lookup ("wooden":bF)=some (.ref d2):=by unfold fL;rw[fO (by decide +kernel)];exact ue
theorem fL3{d1 d2 d3 L:ai}:(fL d1 d2 d3 L).lookup ("weight_of":bF)=some (.ref d3):=by unfold fL;rw[fO (by decide +kernel),fO (by decide +kernel)];exact ue
theorem Vy{d1 d2 d3 L:ai}:(fL d1 d2 d3 L).lookup ("woods":bF)=some (.ref L):=by unfold fL;rw[fO (by decide +kernel),fO (by decide +kernel),fO (by decide +kernel)];exact ue
theorem Vz{d1 d2 d3 L:ai}{m:bF}(h1:¬ m="level_of":=by decide +kernel)(h2:¬ m="wooden":=by decide +kernel)(h3:¬ m="weight_of":=by decide +kernel)(h4:¬ m="woods":=by decide +kernel):(fL d1 d2 d3 L).lookup m=none:=by unfold fL;rw[fO h1,fO h2,fO h3,fO h4];rfl
structure AL where
 (q dq d1 d2 d3 L:ai) (ws:List (ai×ai×ai))
variable{a:AL}
def fp(a:AL):List ai:=a.d1::a.d2::a.d3::a.ws.map (·.2.2)
def Fm(X:List ai)(H H':Hp):Prop:=∀b o,b∉X->H b=some o->H' b=some o
theorem Fm.refl{X:List ai}:Fm X H H:=λ_ _ _ e=>e
theorem Fm.trans{X:List ai}{H1 H2:Hp}(x:Fm X H H1)(y:Fm X H1 H2):Fm X H H2:=λb o h e=>y b o h (x b o h e)
theorem Fm.of{X:List ai}(S:bU H H'):Fm X H H':=λb o _ e=>S b o e
theorem Fm.but{X:List ai}{c:ai}(hc:c∈X)(S:aV c H H'):Fm X H H':=λb o h e=>S b o e λz=>h (z▸hc)
theorem Fm.upd{X:List ai}{c:ai}{o:HO}(hc:c∈X):Fm X H (upd H c o):=Fm.but hc aV.upd
theorem Fm.mono{X Y:List ai}(S:Fm X H H')(h:∀b∈X,b∈Y):Fm Y H H':=λb o hb e=>S b o (λz=>hb (h b z)) e
theorem Fm.tail{X:List ai}{c:ai}(S:Fm X H H'):Fm (c::X) H H':=S.mono λ_=>ag _
theorem Fm.free{X:List ai}(S:Fm X H H'){b:ai}(h:b∉X)(e:H' b=none):H b=none:=by
 cases z:H b with
 |none=>rfl
 |some o=>rw[S b o h z]at e;cases e
structure LV(C:ai)(A:CA)(H:Hp)(a:AL)(n T:Nat)(ts:List Ti)(as:Nat->List ai)(R:Nat->Nat->List Int):Prop where
 ob:H a.q=some (.ins A.bK a.dq (fL a.d1 a.d2 a.d3 a.L))
 e1:H a.d1=some (.dT (kl ts))
 e2:H a.d2=some (.dT (kw ts))
 e3:H a.d3=some (.dT (kv ts))
 ls:H a.L=some (.lst (a.ws.map λw=>.ref w.1))
 len:a.ws.length=T+1
 wa:∀(i:Nat) w,a.ws[i]?=some w->WA C H w.1 w.2.1 w.2.2 n (as i) (R i)
 wd:∀i,i<=T->Wd n (R i)
 n1:1<=n
 Ow:a.d1≠a.d2
 R8:a.d1≠a.d3
 Sv:a.d2≠a.d3
 nl:(a.ws.map (·.2.2)).Nodup
 nL:∀w∈a.ws,a.L≠w.2.2
section
variable{ts':List Ti}
theorem LV.at(h:LV C A H a n T ts as R){w:ai×ai×ai}(hw:w∈a.ws):∃i,i<=T/\a.ws[i]?=some w:=by obtain⟨i,hi⟩:=bE.mp hw;have:=(av.mp hi).1;rw[h.len]at this;exact⟨i,by lia,hi⟩
theorem LV.get(h:LV C A H a n T ts as R){i:Nat}(hi:i<=T):∃w,a.ws[i]?=some w/\w∈a.ws:=by
 have hl:i<a.ws.length:=by rw[h.len];lia
 exact⟨_,aB hl,kd hl⟩
theorem LV.rows(h:LV C A H a n T ts as R){w:ai×ai×ai}(hw:w∈a.ws):∃bs:List ai,bs.length=n/\H w.2.2=some (.lst (bs.map V.ref)):=by obtain⟨i,_,hi⟩:=h.at hw;exact⟨_,(h.wa i w hi).len,(h.wa i w hi).rl⟩
theorem LV.kind(h:LV C A H a n T ts as R){b:ai}(hb:b∈fp a):(∃ks,H b=some (.dT ks))\/∃bs:List ai,bs.length=n/\H b=some (.lst (bs.map V.ref)):=by
 unfold fp at hb;simp only[aw,aI]at hb
 rcases hb with rfl|rfl|rfl|⟨w,hw,rfl⟩
 .exact .inl ⟨_,h.e1⟩
 .exact .inl ⟨_,h.e2⟩
 .exact .inl ⟨_,h.e3⟩
 .exact .inr (h.rows hw)
theorem LV.out(h:LV C A H a n T ts as R){b:ai}{o:HO}(e:H b=some o)(h1:∀ks,o≠.dT ks)(h2:∀bs:List ai,bs.length=n->o≠.lst (bs.map V.ref)):b∉fp a:=λhb=>by
 rcases h.kind hb with⟨ks,q⟩|⟨bs,hl,q⟩
 .rw [e]at q;exact h1 ks (aX q)
 .rw [e]at q;exact h2 bs hl (aX q)
theorem LV.tq(h:LV C A H a n T ts as R){b:ai}{xs:List V}(e:H b=some (.tup xs)):b∉fp a:=h.out e (λ_ z=>nomatch z) (λ_ _ z=>nomatch z)
theorem LV.outI(h:LV C A H a n T ts as R){b x y:ai}{fs:List (bF×V)}(e:H b=some (.ins x y fs)):b∉fp a:=h.out e (λ_ z=>nomatch z) (λ_ _ z=>nomatch z)
theorem LV.XM(h:LV C A H a n T ts as R){b:ai}{r:List Int}(e:H b=some (.lst (r.map V.int))):b∉fp a:=h.out e (λ_ z=>nomatch z) λbs hl z=>by
 have n1:=h.n1
 injection z with z
 match r,bs,hl with
 | [],c::bs,_=>cases z
 |x::r,c::bs,_=>cases(iF z).1
 |x::r,[],_=>cases z
 | [],[],hl=>rw[← hl]at n1;cases n1
theorem LV.Ec(h:LV C A H a n T ts as R){b:ai}(e:H b=none):b∉fp a:=λhb=>by rcases h.kind hb with⟨ks,q⟩|⟨bs,hl,q⟩<;>rw[e]at q<;>cases q
theorem LV.keep(h:LV C A H a n T ts as R){X:List ai}(S:Fm X H H')(hq:∀x fs,H x=some fs->(∃c d f,fs=.ins c d f/\f≠[])->(x=a.q\/∃w∈a.ws,x=w.1)->x∉X)(hd:∀b∈fp a,b∉X)(hL:a.L∉X)(hr:∀(b:ai) (r:List Int),r≠[]->H b=some (.lst (r.map V.int))->b∉X):LV C A H' a n T ts as R:=by
 have m1:a.d1∈fp a:=aj;have m2:a.d2∈fp a:=ag _ aj;have m3:a.d3∈fp a:=ag _ (ag _ aj);refine⟨S _ _ (hq _ _ h.ob ⟨_,_,_,rfl,by simp[fL]⟩ (.inl rfl)) h.ob,S _ _ (hd _ m1) h.e1,S _ _ (hd _ m2) h.e2,S _ _ (hd _ m3) h.e3,S _ _ hL h.ls,h.len,λi w hw=>?_,h.wd,h.n1,h.Ow,h.R8,h.Sv,h.nl,h.nL⟩;have hm:=aP hw;have W:=h.wa i w hw
 have hi:i<=T:=by have:=(av.mp hw).1;rw[h.len]at this;lia
 refine⟨S _ _ (hq _ _ W.ob ⟨_,_,_,rfl,?_⟩ (.inr ⟨w,hm,rfl⟩)) W.ob,S _ _ (hd _ ?_) W.rl,W.len,λj c hc=>?_,W.ne⟩
 .intro z;have:=xY n w.2.2;rw[z]at this;cases this
 .exact ag _ (ag _ (ag _ (aN hm)))
 .have hj:j<n:=by rw[← W.len];exact(av.mp hc).1
  exact S _ _ (hr _ _ ((h.wd i hi).r j hj).ne (W.at_ j c hc)) (W.at_ j c hc)
theorem LV.same(h:LV C A H a n T ts as R)(S:bU H H'):LV C A H' a n T ts as R:=h.keep (X:=[]) (λb o _ e=>S b o e) (λ_ _ _ _ _=>cX) (λ_ _=>cX) cX λ_ _ _ _=>cX
theorem LV.sets(h:LV C A H a n T ts as R)(B:Fm [a.d1,a.d2,a.d3] H H')(e1:H' a.d1=some (.dT (kl ts')))(e2:H' a.d2=some (.dT (kw ts')))(e3:H' a.d3=some (.dT (kv ts'))):LV C A H' a n T ts' as R:=by
 have ne:∀{b:ai}{o:HO},H b=some o->(∀ks,o≠.dT ks)->H' b=some o:=λ{b o} e q=>B _ _ (λhb=>by
  simp only[aw,cX,or_false]at hb
  rcases hb with rfl|rfl|rfl
  .rw [h.e1]at e;cases e;exact q _ rfl
  .rw [h.e2]at e;cases e;exact q _ rfl
  .rw [h.e3]at e;cases e;exact q _ rfl) e
 exact⟨ne h.ob (λ_ z=>nomatch z),e1,e2,e3,ne h.ls (λ_ z=>nomatch z),h.len,λi w hw=>⟨ne (h.wa i w hw).ob (λ_ z=>nomatch z),ne (h.wa i w hw).rl (λ_ z=>nomatch z),(h.wa i w hw).len,λj c hc=>ne ((h.wa i w hw).at_ j c hc) (λ_ z=>nomatch z),(h.wa i w hw).ne⟩,h.wd,h.n1,h.Ow,h.R8,h.Sv,h.nl,h.nL⟩
theorem LV.set1(h:LV C A H a n T ts as R)(e2:kw ts'=kw ts)(e3:kv ts'=kv ts):LV C A (upd H a.d1 (.dT (kl ts'))) a n T ts' as R:=
 h.sets (Fm.upd aj) aC (by rw[aF h.Ow.symm,e2];exact h.e2) (by rw[aF h.R8.symm,e3];exact h.e3)
theorem LV.set2(h:LV C A H a n T ts as R)(e1:kl ts'=kl ts)(e3:kv ts'=kv ts):LV C A (upd H a.d2 (.dT (kw ts'))) a n T ts' as R:=
 h.sets (Fm.upd (ag _ aj)) (by rw[aF h.Ow,e1];exact h.e1) aC (by rw[aF h.Sv.symm,e3];exact h.e3)
theorem LV.Uu(h:LV C A H a n T ts as R){i:Nat}{w:ai×ai×ai}{bs:List ai}{R1:Nat->List Int}(hw:a.ws[i]?=some w)(W:WA C H' w.1 w.2.1 w.2.2 n bs R1)(D:Wd n R1)(B:aV w.2.2 H H'):LV C A H' a n T ts (λj=>if j=i then bs else as j) (λj=>if j=i then R1 else R j):=by
 have hm:=aP hw;obtain⟨cs,hcl,hcs⟩:=h.rows hm
 have nt:∀{b:ai}{o:HO},H b=some o->(∀xs,o≠.lst xs)->H' b=some o:=λ{b o} e q=>B _ _ e λz=>by rw[z,hcs]at e;cases e;exact q _ rfl
 refine⟨nt h.ob (λ_ z=>nomatch z),nt h.e1 (λ_ z=>nomatch z),nt h.e2 (λ_ z=>nomatch z),nt h.e3 (λ_ z=>nomatch z),B _ _ h.ls (h.nL w hm),h.len,λj v hv=>?_,λj hj=>?_,h.n1,h.Ow,h.R8,h.Sv,h.nl,h.nL⟩
 .by_cases c:j=i
  .subst c;rw[hw]at hv;cases hv;simp only[if_pos];exact W
  .simp only[if_neg c];have V:=h.wa j v hv
   have hjT:j<=T:=by have:=(av.mp hv).1;rw[h.len]at this;lia
   have nvl:v.2.2≠w.2.2:=λe=>c ((List.getElem?_inj (by rw[af];exact(av.mp hv).1) h.nl).mp (by rw[aG,aG,hv,hw];simp[e]));refine⟨nt V.ob (λ_ z=>nomatch z),B _ _ V.rl nvl,V.len,λx b hb=>B _ _ (V.at_ x b hb) λz=>?_,V.ne⟩
   have hx:x<n:=by rw[← V.len];exact(av.mp hb).1
   have e:=V.at_ x b hb;rw[z]at e;exact h.XM e (ag _ (ag _ (ag _ (aN hm))))
 .by_cases c:j=i
  .simp only[if_pos c];exact D
  .simp only[if_neg c];exact h.wd j hj
end
inductive dC(K:aa)(C:ai)(A:CA)(vs:List V)(H:Hp)(Q:VK)(E:XK):Prop
 |mk (q dq d1 d2 d3 L t:_) (kl kw:List (List dJ×V)) (x y:Int) (v1 v2:_):vs=[.ref q,.ref t]->E7 K C A->H q=some (.ins A.bK dq (fL d1 d2 d3 L))->Rd H d1 (.dT kl)->Rd H d2 (.dT kw)->H t=some (.tup [.int x,.int y])->eD kl [a9 x,a9 y]=some v1->eD kw [a9 x,a9 y]=some v2->(∀p,H p=none->Q (.ref p) (upd H p (.tup [.int x,.int y,v1,v2])))->dC K C A vs H Q E
theorem zG:Rn (dC K C A) (rE K C A) vT:=by rintro vs H Q E ⟨q,dq,d1,d2,d3,L,t,kl,kw,x,y,v1,v2,rfl,ct,hq,r1,r2,ht,h1,h2,k⟩;unfold rE;lk;refine eh (jq.of ht) (fj (j:=0) rfl rfl) ?_;lk;refine eh (jq.of ht) (fj (j:=1) rfl rfl) ?_;k_go;refine⟨q,A.bK,dq,_,_,rfl,hq,ct.lc,ct.l1,OU,?_⟩;lk;refine .inr ⟨d1,v1,rfl,.inr ⟨kl,[a9 x,a9 y],t,r1,rfl,ht,h1.symm⟩,?_⟩;k_go;refine⟨q,A.bK,dq,_,_,rfl,hq,ct.lc,ct.l2,Ue,?_⟩;lk;refine .inr ⟨d2,v2,rfl,.inr ⟨kw,[a9 x,a9 y],t,r2,rfl,ht,h2.symm⟩,?_⟩;lk;exact⟨nW,k⟩
theorem fp1:a.d1∈fp a:=aj
theorem fp2:a.d2∈fp a:=ag _ aj
theorem fp3:a.d3∈fp a:=ag _ (ag _ aj)
theorem fpw{w:ai×ai×ai}(h:w∈a.ws):w.2.2∈fp a:=ag _ (ag _ (ag _ (aN h)))
theorem Re{k:Int×Int}:kl (eK ts k Ti.oP)=kl ts:=Ao (g:=Ti.oP) (λ_=>rfl) (λ_=>rfl) k
theorem Xr{k:Int×Int}:kv (eK ts k Ti.oP)=kv ts:=Ao (g:=Ti.oP) (λ_=>rfl) (λ_=>rfl) k
theorem VA{k:Int×Int}:kw (eK ts k Ti.up)=kw ts:=Ao (g:=Ti.up) (λ_=>rfl) (λ_=>rfl) k
theorem Zx{k:Int×Int}:kv (eK ts k Ti.up)=kv ts:=Ao (g:=Ti.up) (λ_=>rfl) (λ_=>rfl) k
theorem LV.cast{R':Nat->Nat->List Int}(h:LV C A H a n T ts as R)(e:∀j,R j=R' j):LV C A H a n T ts as R':=(funext e:R=R')▸h
structure Up(C:ai)(A:CA)(a:AL)(n T:Nat)(ts:List Ti)(R:Nat->Nat->List Int)(f:(Nat->List Int)->Nat->List Int)(H:Hp)(i:Nat)(H1:Hp):Prop where
 ex:∃as R',LV C A H1 a n T ts as R'/\∀j,R' j=if j<i then f (R j)else R j
 fm:Fm (fp a) H H1
theorem Up.step{R':Nat->Nat->List Int}{f:(Nat->List Int)->Nat->List Int}{H1 H2:Hp}{i:Nat}{w:ai×ai×ai}{bs:List ai}(L:LV C A H1 a n T ts as R')(e:∀j,R' j=if j<i then f (R j)else R j)(F:Fm (fp a) H H1)(hw:a.ws[i]?=some w)(W:WA C H2 w.1 w.2.1 w.2.2 n bs (f (R' i)))(D:Wd n (f (R' i)))(B:aV w.2.2 H1 H2):Up C A a n T ts R f H (i+1) H2:=by
 refine⟨⟨_,_,L.Uu hw W D B,λj=>?_⟩,F.trans (Fm.but (fpw (aP hw)) B)⟩
 have ei:R' i=R i:=by rw[e,if_neg (e9 i)]
 by_cases c:j=i
 .subst c;rw[if_pos rfl,if_pos (ip j),ei]
 .rw [if_neg c,e]
  by_cases d:j<i
  .rw [if_pos d,if_pos (by lia)]
  .rw [if_neg d,if_neg (by lia)]
inductive cB(K:aa)(C:ai)(A:CA)(vs:List V)(H:Hp)(Q:VK)(E:XK):Prop
 |mk (a:_) (n T:Nat) (ts as R t:_) (u:Ti):vs=[.ref a.q,.ref t]->E7 K C A->LV C A H a n T ts as R->n<=200->u∈ts->(ts.map Ti.key).Nodup->u.x<n->u.y<n->u.cj<=T->(∀i,i<=u.cj->(u.y:Int)∉R i u.x)->H t=some (.tup [.int u.x,.int u.y])->ts.length<100->(∀as' H',LV C A H' a n T (eK ts u.key Ti.oP) as' (A9 R u.cj u.x u.y)->Fm (fp a) H H'->Q .non H')->cB K C A vs H Q E
theorem x3:Rn (cB K C A) (qu K C A (fS K C)) ["self","tie","wood"]:=by
 rintro vs H Q E ⟨a,n,T,ts,as,R,t,u,rfl,ct,h,hn,hu,hnd,hx,hy,hl,hap,ht,hlen,k⟩;unfold qu;k_go;refine⟨a.q,A.bK,a.dq,_,_,rfl,h.ob,ct.lc,ct.l2,Ue,?_⟩;lk;refine .inr ⟨a.d2,_,rfl,tw.t (k:=pk u.x u.y) h.e2 ht (cZ (m:=100) (by rw[qg];exact hlen)),?_⟩;have e:=Rc (f:=λt=>V.bl t.wd) (g:=Ti.oP) hnd hu (λ_=>rfl);rw[show(V.bl true)=(λt:Ti=>V.bl t.wd) u.oP from rfl,e];have h1:=h.set2 (ts':=eK ts u.key Ti.oP) Re Xr
 have ht1:(upd H a.d2 (.dT (kw (eK ts u.key Ti.oP)))) t=some (.tup [.int u.x,.int u.y]):=by rw[aF (dO ht h.e2)];exact ht
 have S1:Fm (fp a) H (upd H a.d2 (.dT (kw (eK ts u.key Ti.oP)))):=Fm.upd fp2
 have hl1:eD (kl (eK ts u.key Ti.oP)) (pk u.x u.y)=some (.int u.cj):=by rw[Re];exact iO hnd hu
 change(kT K C A _) _ _ (upd H a.d2 (.dT (kw (eK ts u.key Ti.oP))));generalize upd H a.d2 (.dT (kw (eK ts u.key Ti.oP)))=H1 at h1 ht1 S1;generalize eK ts u.key Ti.oP=ts1 at h1 hl1 k;unfold kT;k_go;refine⟨a.q,A.bK,a.dq,_,_,rfl,h1.ob,ct.lc,ct.l4,Vy,?_⟩;k_go;refine⟨a.q,A.bK,a.dq,_,_,rfl,h1.ob,ct.lc,ct.l1,OU,?_⟩;lk;refine .inr ⟨a.d1,.int u.cj,rfl,.inr ⟨_,pk u.x u.y,t,.inl h1.e1,rfl,ht1,hl1.symm⟩,?_⟩;lk;refine vM (c6.of h1.ls) λs hs=>?_;rw[FJ (j:=u.cj+1) (by lia),← kF];have S2:=bU.cw (o:=.lst ((a.ws.take (u.cj+1)).map λw=>V.ref w.1)) hs;have gs:(upd H1 s (.lst ((a.ws.take (u.cj+1)).map λw=>V.ref w.1))) s=some (.lst ((a.ws.take (u.cj+1)).map λw=>V.ref w.1)):=aC;have nsf:=h1.Ec hs;generalize upd H1 s (.lst ((a.ws.take (u.cj+1)).map λw=>V.ref w.1))=H2 at S2 gs;have h2:=h1.same S2;have ht2:=S2 _ _ ht1
 have hlt:(a.ws.take (u.cj+1)).length=u.cj+1:=by rw[bG,h.len];lia
 refine⟨s,rfl,?_⟩
 refine .inl ⟨⟨_,c6.of gs⟩,i6 (K:=K) (a:=s) (xs:=(a.ws.take (u.cj+1)).map λw=>V.ref w.1)
  (λi Z H3=>Up C A a n T ts1 R (λr=>lk r u.x u.y) H2 i H3/\∃o,Z=[some (.ref a.q),some (.ref t),o])
  ⟨⟨⟨as,R,h2,λj=>by rw[if_neg (by lia)]⟩,Fm.refl⟩,_,rfl⟩ ?_ ?_ ?_⟩
 .rintro i Z H3 _ ⟨U,_⟩;exact c6.of (U.fm _ _ nsf gs)
 .rintro i z Z H3 hi ⟨U,o,rfl⟩;obtain⟨w,hw,rfl⟩:=gm hi
  have hi:i<u.cj+1:=by rw[← hlt];exact(av.mp hw).1
  rw[lj,if_pos hi]at hw;obtain⟨as1,R1,L1,e1⟩:=U.ex;have W1:=L1.wa i w hw;have ht3:=U.fm _ _ (h2.tq ht2) ht2;k_in;refine⟨w.1,w.2.1,_,rfl,W1.ob,lS _ _,?_⟩;lk;refine eh (jq.of ht3) (fj (j:=0) rfl rfl) ?_;lk;refine eh (jq.of ht3) (fj (j:=1) rfl rfl) ?_;lk
  have ei:R1 i=R i:=by rw[e1,if_neg (e9 i)]
  have D1:=L1.wd i (by lia)
  have hap1:(u.y:Int)∉R1 i u.x:=by rw[ei];exact hap i (by lia)
  refine⟨w.1,w.2.1,w.2.2,n,u.x,u.y,as1 i,R1 i,rfl,ct.w,W1,D1,hn,hx,hy,hap1,λbs H4 W' B'=>?_⟩;exact⟨Up.step (f:=λr=>lk r u.x u.y) L1 e1 U.fm hw W' (D1.lk hx hy hap1) B',_,rfl⟩
 .rintro Z H3 ⟨U,o,rfl⟩;rw[af,hlt]at U;obtain⟨as1,R1,L1,e1⟩:=U.ex;refine k as1 H3 (L1.cast λj=>?_) ((S1.trans (Fm.of S2)).trans U.fm);rw[e1]
  show _=if j<=u.cj then _ else _
  by_cases c:j<=u.cj
  .rw [if_pos c,if_pos (by lia)]
  .rw [if_neg c,if_neg (by lia)]
inductive dA(K:aa)(C:ai)(A:CA)(vs:List V)(H:Hp)(Q:VK)(E:XK):Prop
 |mk (a:_) (n T:Nat) (ts as R t:_) (u:Ti):vs=[.ref a.q,.ref t]->E7 K C A->LV C A H a n T ts as R->n<=200->u∈ts->(ts.map Ti.key).Nodup->u.x<n->u.y<n->(u.wd=true->u.cj+1<=T/\(u.y:Int)∉R (u.cj+1) u.x)->H t=some (.tup [.int u.x,.int u.y])->ts.length<100->(∀as' R' H',LV C A H' a n T (eK ts u.key Ti.up) as' R'->(R'=if u.wd=true then Xp R (u.cj+1) u.x u.y else R)->Fm (fp a) H H'->Q .non H')->dA K C A vs H Q E
theorem zH:Rn (dA K C A) (rC K C A (fS K C)) vT:=by
 rintro vs H Q E ⟨a,n,T,ts,as,R,t,u,rfl,ct,h,hn,hu,hnd,hx,hy,hap,ht,hlen,k⟩;unfold rC;k_go;refine⟨a.q,A.bK,a.dq,_,_,rfl,h.ob,ct.lc,ct.l1,OU,?_⟩;lk;refine⟨a.d1,.int u.cj,rfl,.inr ⟨_,pk u.x u.y,t,.inl h.e1,rfl,ht,(iO (f:=λt=>V.int t.cj) hnd hu).symm⟩,?_⟩;lk;refine⟨u.cj,1,rfl,rfl,_,tw.t (k:=pk u.x u.y) h.e1 ht (cZ (m:=100) (by rw[qg];exact hlen)),?_⟩;have e:=Rc (f:=λt=>V.int t.cj) (g:=Ti.up) hnd hu (λ_=>rfl);rw[show(V.int ((u.cj:Int)+1))=(λt:Ti=>V.int t.cj) u.up from rfl,e];have h1:=h.set1 (ts':=eK ts u.key Ti.up) VA Zx
 have ht1:(upd H a.d1 (.dT (kl (eK ts u.key Ti.up)))) t=some (.tup [.int u.x,.int u.y]):=by rw[aF (dO ht h.e1)];exact ht
 have S1:Fm (fp a) H (upd H a.d1 (.dT (kl (eK ts u.key Ti.up)))):=Fm.upd fp1
 have hw1:eD (kw (eK ts u.key Ti.up)) (pk u.x u.y)=some (.bl u.wd):=by rw[VA];exact iO hnd hu
 have hl1:eD (kl (eK ts u.key Ti.up)) (pk u.x u.y)=some (.int ((u.cj+1:Nat):Int)):=by have:=iO (f:=λt=>V.int t.cj) (by rw[jL (f:=Ti.up) (λ_=>rfl)];exact hnd) ((kQ (f:=Ti.up) hnd hu u.up).mpr (.inl rfl));exact this
 dsimp only;change(ie _ _ _) _ _ (upd H a.d1 (.dT (kl (eK ts u.key Ti.up))));generalize upd H a.d1 (.dT (kl (eK ts u.key Ti.up)))=H1 at h1 ht1 S1;generalize eK ts u.key Ti.up=ts1 at h1 hl1 hw1 k;k_go;refine⟨a.q,A.bK,a.dq,_,_,rfl,h1.ob,ct.lc,ct.l2,Ue,?_⟩;lk;refine .inr ⟨a.d2,.bl u.wd,rfl,.inr ⟨_,pk u.x u.y,t,.inl h1.e2,rfl,ht1,hw1.symm⟩,?_⟩;refine⟨_,rfl,?_⟩
 cases hw:u.wd with
 |false=>
  rw[hw]at k;refine kg ?_;lk
  exact k as R H1 h1 rfl S1
 |true=>
  rw[hw]at k;obtain⟨hT,hap⟩:=hap hw;obtain⟨w,hw1,hwm⟩:=h1.get hT;have W1:=h1.wa _ w hw1;have D1:=h1.wd _ hT;refine lz ?_;k_in;refine mJ ?_;lk;refine⟨a.q,A.bK,a.dq,_,_,rfl,h1.ob,ct.lc,ct.l4,Vy,?_⟩;k_go;refine⟨a.q,A.bK,a.dq,_,_,rfl,h1.ob,ct.lc,ct.l1,OU,?_⟩;lk;refine .inr ⟨a.d1,.int ((u.cj+1:Nat):Int),rfl,.inr ⟨_,pk u.x u.y,t,.inl h1.e1,rfl,ht1,hl1.symm⟩,?_⟩;refine nz (c6.of h1.ls) (fj (j:=u.cj+1) rfl (by rw[aG,hw1];rfl)) ?_;refine⟨w.1,w.2.1,_,rfl,W1.ob,lS _ _,?_⟩;lk;refine eh (jq.of ht1) (fj (j:=0) rfl rfl) ?_;lk;refine eh (jq.of ht1) (fj (j:=1) rfl rfl) ?_;lk;refine⟨w.1,w.2.1,w.2.2,n,u.x,u.y,as (u.cj+1),R (u.cj+1),rfl,ct.w,W1,D1,hn,hx,hy,hap,λbs H4 W' B'=>?_⟩;exact k _ _ H4 (h1.Uu hw1 W' (D1.lk hx hy hap) B') rfl (S1.trans (Fm.but (fpw hwm) B'))
inductive dR(K:aa)(C:ai)(A:CA)(vs:List V)(H:Hp)(Q:VK)(E:XK):Prop
 |mk (a:_) (n T:Nat) (ts as R t:_) (u:Ti):vs=[.ref a.q,.ref t]->E7 K C A->LV C A H a n T ts as R->n<=200->u∈ts->(ts.map Ti.key).Nodup->u.x<n->u.y<n->u.x≠u.y->u.cj<=T->(u.wd=true->∀i,i<=u.cj->Ed n (R i) u.x u.y)->H t=some (.tup [.int u.x,.int u.y])->(∀as' R' H',LV C A H' a n T (ts.filter λv=>decide (v.key≠u.key)) as' R'->(R'=if u.wd=true then MU R u.cj u.x u.y else R)->Fm (fp a) H H'->Q .non H')->dR K C A vs H Q E
theorem zI:Rn (dR K C A) (rD K C A (jF K C)) ["self","tie","level","wood"]:=by
 rintro vs H Q E ⟨a,n,T,ts,as,R,t,u,rfl,ct,h,hn,hu,hnd,hx,hy,hxy,hl,hed,ht,k⟩
 have td:∀{H:Hp}{d:ai}{ks ks':List (List dJ×V)},H t=some (.tup [.int u.x,.int u.y])->H d=some (.dT ks)->upd H d (.dT ks') t=some (.tup [.int u.x,.int u.y]):=λe1 e2=>by rw[aF (dO e1 e2)];exact e1
 unfold rD;k_go;refine⟨a.q,A.bK,a.dq,_,_,rfl,h.ob,ct.lc,ct.l3,fL3,?_⟩;refine⟨.inr (.inr (.inl ⟨rfl,.inr ⟨_,h.e3⟩⟩)),?_⟩;lk;refine⟨a.d3,_,pk u.x u.y,t,.int 0,rfl,rfl,h.e3,ht,iO (f:=λ_=>V.int 0) hnd hu,?_⟩;rw[Gj];have ht1:=td (ks':=kv (ts.filter λv=>decide (v.key≠u.key))) ht h.e3
 have ne3:∀{b:ai}{o:HO},b≠a.d3->H b=some o->(upd H a.d3 (.dT (kv (ts.filter λv=>decide (v.key≠u.key))))) b=some o:=λhb e=>by rw[aF hb];exact e
 have q3:(upd H a.d3 (.dT (kv (ts.filter λv=>decide (v.key≠u.key))))) a.d3=_:=aC;have F1:Fm [a.d1,a.d2,a.d3] H (upd H a.d3 (.dT (kv (ts.filter λv=>decide (v.key≠u.key))))):=Fm.upd (ag _ (ag _ aj));have o1:=ne3 (dO h.ob h.e3) h.ob;have p1:=ne3 h.R8 h.e1;have p2:=ne3 h.Sv h.e2;generalize upd H a.d3 (.dT (kv (ts.filter λv=>decide (v.key≠u.key))))=H1 at ht1 q3 F1 o1 p1 p2;dsimp only;k_go;refine⟨a.q,A.bK,a.dq,_,_,rfl,o1,ct.lc,ct.l1,OU,?_⟩;refine⟨.inr (.inr (.inl ⟨rfl,.inr ⟨_,p1⟩⟩)),?_⟩;lk;refine⟨a.d1,_,pk u.x u.y,t,.int u.cj,rfl,rfl,p1,ht1,iO (f:=λt=>V.int t.cj) hnd hu,?_⟩;rw[Gj];have ht2:=td (ks':=kl (ts.filter λv=>decide (v.key≠u.key))) ht1 p1;have o2:(upd H1 a.d1 (.dT (kl (ts.filter λv=>decide (v.key≠u.key))))) a.q=_:=(aF (dO o1 p1)).trans o1;have r1:(upd H1 a.d1 (.dT (kl (ts.filter λv=>decide (v.key≠u.key))))) a.d1=_:=aC;have r2:(upd H1 a.d1 (.dT (kl (ts.filter λv=>decide (v.key≠u.key))))) a.d2=_:=(aF h.Ow.symm).trans p2;have r3:(upd H1 a.d1 (.dT (kl (ts.filter λv=>decide (v.key≠u.key))))) a.d3=_:=(aF h.R8.symm).trans q3;have F2:Fm [a.d1,a.d2,a.d3] H (upd H1 a.d1 (.dT (kl (ts.filter λv=>decide (v.key≠u.key))))):=F1.trans (Fm.upd aj);generalize upd H1 a.d1 (.dT (kl (ts.filter λv=>decide (v.key≠u.key))))=H2 at ht2 o2 r1 r2 r3 F2;dsimp only;k_go;refine⟨a.q,A.bK,a.dq,_,_,rfl,o2,ct.lc,ct.l2,Ue,?_⟩;refine⟨.inr (.inr (.inl ⟨rfl,.inr ⟨_,r2⟩⟩)),?_⟩;lk;refine⟨a.d2,_,pk u.x u.y,t,.bl u.wd,rfl,rfl,r2,ht2,iO (f:=λt=>V.bl t.wd) hnd hu,?_⟩;rw[Gj];have ht3:=td (ks':=kw (ts.filter λv=>decide (v.key≠u.key))) ht2 r2;have F3:Fm [a.d1,a.d2,a.d3] H (upd H2 a.d2 (.dT (kw (ts.filter λv=>decide (v.key≠u.key))))):=F2.trans (Fm.upd (ag _ aj));have h3:LV C A (upd H2 a.d2 (.dT (kw (ts.filter λv=>decide (v.key≠u.key))))) a n T (ts.filter λv=>decide (v.key≠u.key)) as R:=h.sets F3 ((aF h.Ow).trans r1) aC ((aF h.Sv.symm).trans r3)
 have G3:Fm (fp a) H (upd H2 a.d2 (.dT (kw (ts.filter λv=>decide (v.key≠u.key))))):=F3.mono λb hb=>by
  simp only[aw,cX,or_false]at hb
  rcases hb with rfl|rfl|rfl
  .exact fp1
  .exact fp2
  .exact fp3
 generalize upd H2 a.d2 (.dT (kw (ts.filter λv=>decide (v.key≠u.key))))=H3 at ht3 h3 G3;refine⟨_,rfl,?_⟩
 cases hw:u.wd with
 |false=>
  rw[hw]at k;refine kg ?_;lk
  exact k as R H3 h3 rfl G3
 |true=>
  rw[hw]at k;have hed:=hed hw;refine lz ?_;unfold pH;k_go;refine⟨a.q,A.bK,a.dq,_,_,rfl,h3.ob,ct.lc,ct.l4,Vy,?_⟩;lk;refine vM (c6.of h3.ls) λs hs=>?_;rw[FJ (j:=u.cj+1) (by lia),← kF];have S2:=bU.cw (o:=.lst ((a.ws.take (u.cj+1)).map λw=>V.ref w.1)) hs;have gs:(upd H3 s (.lst ((a.ws.take (u.cj+1)).map λw=>V.ref w.1))) s=some (.lst ((a.ws.take (u.cj+1)).map λw=>V.ref w.1)):=aC;have nsf:=h3.Ec hs;generalize upd H3 s (.lst ((a.ws.take (u.cj+1)).map λw=>V.ref w.1))=H4 at S2 gs;have h4:=h3.same S2;have ht4:=S2 _ _ ht3
  have hlt:(a.ws.take (u.cj+1)).length=u.cj+1:=by rw[bG,h.len];lia
  refine⟨s,rfl,?_⟩
  refine .inl ⟨⟨_,c6.of gs⟩,i6 (K:=K) (a:=s) (xs:=(a.ws.take (u.cj+1)).map λw=>V.ref w.1)
   (λi Z H5=>Up C A a n T (ts.filter λv=>decide (v.key≠u.key)) R (λr=>Rm.ct r u.x u.y) H4 i H5/\∃o,Z=[some (.ref a.q),some (.ref t),some (.int u.cj),o])
   ⟨⟨⟨as,R,h4,λj=>by rw[if_neg (by lia)]⟩,Fm.refl⟩,_,rfl⟩ ?_ ?_ ?_⟩
  .rintro i Z H5 _ ⟨U,_⟩;exact c6.of (U.fm _ _ nsf gs)
  .rintro i z Z H5 hi ⟨U,o,rfl⟩;obtain⟨w,hw,rfl⟩:=gm hi
   have hi:i<u.cj+1:=by rw[← hlt];exact(av.mp hw).1
   rw[lj,if_pos hi]at hw;obtain⟨as1,R1,L1,e1⟩:=U.ex;have W1:=L1.wa i w hw;have ht5:=U.fm _ _ (h4.tq ht4) ht4;k_in;refine⟨w.1,w.2.1,_,rfl,W1.ob,lS _ _,?_⟩;lk;refine eh (jq.of ht5) (fj (j:=0) rfl rfl) ?_;lk;refine eh (jq.of ht5) (fj (j:=1) rfl rfl) ?_;lk
   have ei:R1 i=R i:=by rw[e1,if_neg (e9 i)]
   have D1:=L1.wd i (by lia)
   have hE:Ed n (R1 i) u.x u.y:=by rw[ei];exact hed i (by lia)
   refine⟨w.1,w.2.1,w.2.2,n,u.x,u.y,as1 i,R1 i,rfl,ct.w,W1,D1,hn,hx,hy,hxy,hE,λbs H6 W' B'=>?_⟩;exact⟨Up.step (f:=λr=>Rm.ct r u.x u.y) L1 e1 U.fm hw W' (D1.ct hx hy hxy hE) B',_,rfl⟩
  .rintro Z H5 ⟨U,o,rfl⟩;rw[af,hlt]at U;obtain⟨as1,R1,L1,e1⟩:=U.ex;refine k as1 _ H5 (L1.cast λj=>?_) rfl ((G3.trans (Fm.of S2)).trans U.fm);rw[e1]
   show _=if j<=u.cj then _ else _
   by_cases c:j<=u.cj
   .rw [if_pos c,if_pos (by lia)]
   .rw [if_neg c,if_neg (by lia)]
inductive j4(K:aa)(C:ai)(A:CA)(vs:List V)(H:Hp)(Q:VK)(E:XK):Prop
 |mk (a:_) (n T:Nat) (ts as R t:_) (x y:Nat):vs=[.ref a.q,.ref t,.int 0]->E7 K C A->LV C A H a n T ts as R->n<=200->x<n->y<n->H t=some (.tup [.int x,.int y])->(ts.map Ti.key).Nodup->((x:Int),(y:Int))∉ts.map Ti.key->ts.length<99->(∀b ts' as' R' H',LV C A H' a n T ts' as' R'->(((y:Int)∈R 0 x/\ts'=ts++[⟨x,y,0,false⟩]/\R'=R/\b=false)\/((y:Int)∉R 0 x/\ts'=eK (ts++[⟨x,y,0,false⟩]) ((x:Int),(y:Int)) Ti.oP/\R'=A9 R 0 x y/\b=true))->Fm (fp a) H H'->Q (.bl b) H')->j4 K C A vs H Q E
theorem BF:Rn (j4 K C A) (uc K C A (eO K C) (cB K C A)) IE:=by
 rintro vs H Q E ⟨a,n,T,ts,as,R,t,x,y,rfl,ct,h,hn,hx,hy,ht,hnd,hk,hlen,k⟩
 have td:∀{H:Hp}{d:ai}{ks ks':List (List dJ×V)},H t=some (.tup [.int x,.int y])->H d=some (.dT ks)->upd H d (.dT ks') t=some (.tup [.int x,.int y]):=λe1 e2=>by rw[aF (dO e1 e2)];exact e1
 have kn:∀(f:Ti->V) (v:V),f ⟨x,y,0,false⟩=v->i7 (kf f ts) (pk x y) v=kf f (ts++[⟨x,y,0,false⟩]):=λf v e=>by rw[HP _ (Nc hk),← e];unfold kf;rw[aH];rfl
 have hnd':((ts++[(⟨x,y,0,false⟩:Ti)]).map Ti.key).Nodup:=by rw[aH,du];exact⟨hnd,by simp,λp hp q hq e=>hk (by rw[zw,ax]at hq;have e2:p=((x:Int),(y:Int)):=e.trans hq;rw[← e2];exact hp)⟩
 have hu:(⟨x,y,0,false⟩:Ti)∈ts++[⟨x,y,0,false⟩]:=bC _ aj;unfold uc;k_go;refine⟨a.q,A.bK,a.dq,_,_,rfl,h.ob,ct.lc,ct.l1,OU,?_⟩;lk;refine .inr ⟨a.d1,_,rfl,tw.t (k:=pk x y) h.e1 ht (cZ (m:=100) (by rw[qg];lia)),?_⟩;rw[kn (λt=>V.int t.cj) (.int 0) rfl];have ht1:=td (ks':=kl (ts++[⟨x,y,0,false⟩])) ht h.e1;have o1:(upd H a.d1 (.dT (kl (ts++[⟨x,y,0,false⟩])))) a.q=_:=(aF (dO h.ob h.e1)).trans h.ob;have p1:(upd H a.d1 (.dT (kl (ts++[⟨x,y,0,false⟩])))) a.d1=_:=aC;have p2:(upd H a.d1 (.dT (kl (ts++[⟨x,y,0,false⟩])))) a.d2=_:=(aF h.Ow.symm).trans h.e2;have p3:(upd H a.d1 (.dT (kl (ts++[⟨x,y,0,false⟩])))) a.d3=_:=(aF h.R8.symm).trans h.e3;have F1:Fm [a.d1,a.d2,a.d3] H (upd H a.d1 (.dT (kl (ts++[⟨x,y,0,false⟩])))):=Fm.upd aj;generalize upd H a.d1 (.dT (kl (ts++[⟨x,y,0,false⟩])))=H1 at ht1 o1 p1 p2 p3 F1;k_go;refine⟨a.q,A.bK,a.dq,_,_,rfl,o1,ct.lc,ct.l2,Ue,?_⟩;lk;refine .inr ⟨a.d2,_,rfl,tw.t (k:=pk x y) p2 ht1 (cZ (m:=100) (by rw[qg];lia)),?_⟩;rw[kn (λt=>V.bl t.wd) (.bl false) rfl];have ht2:=td (ks':=kw (ts++[⟨x,y,0,false⟩])) ht1 p2;have o2:(upd H1 a.d2 (.dT (kw (ts++[⟨x,y,0,false⟩])))) a.q=_:=(aF (dO o1 p2)).trans o1;have q1:(upd H1 a.d2 (.dT (kw (ts++[⟨x,y,0,false⟩])))) a.d1=_:=(aF h.Ow).trans p1;have q2:(upd H1 a.d2 (.dT (kw (ts++[⟨x,y,0,false⟩])))) a.d2=_:=aC;have q3:(upd H1 a.d2 (.dT (kw (ts++[⟨x,y,0,false⟩])))) a.d3=_:=(aF h.Sv.symm).trans p3;have F2:Fm [a.d1,a.d2,a.d3] H (upd H1 a.d2 (.dT (kw (ts++[⟨x,y,0,false⟩])))):=F1.trans (Fm.upd (ag _ aj));generalize upd H1 a.d2 (.dT (kw (ts++[⟨x,y,0,false⟩])))=H2 at ht2 o2 q1 q2 q3 F2;k_go;refine⟨a.q,A.bK,a.dq,_,_,rfl,o2,ct.lc,ct.l3,fL3,?_⟩;lk;refine .inr ⟨a.d3,_,rfl,tw.t (k:=pk x y) q3 ht2 (cZ (m:=100) (by rw[qg];lia)),?_⟩;rw[kn (λ_=>V.int 0) (.int 0) rfl];have ht3:=td (ks':=kv (ts++[⟨x,y,0,false⟩])) ht2 q3;have F3:Fm [a.d1,a.d2,a.d3] H (upd H2 a.d3 (.dT (kv (ts++[⟨x,y,0,false⟩])))):=F2.trans (Fm.upd (ag _ (ag _ aj)));have h3:LV C A (upd H2 a.d3 (.dT (kv (ts++[⟨x,y,0,false⟩])))) a n T (ts++[⟨x,y,0,false⟩]) as R:=h.sets F3 ((aF h.R8).trans q1) ((aF h.Sv).trans q2) aC
 have S3:Fm (fp a) H (upd H2 a.d3 (.dT (kv (ts++[⟨x,y,0,false⟩])))):=F3.mono λb hb=>by
  simp only[aw,cX,or_false]at hb
  rcases hb with rfl|rfl|rfl
  .exact fp1
  .exact fp2
  .exact fp3
 generalize upd H2 a.d3 (.dT (kv (ts++[⟨x,y,0,false⟩])))=H3 at ht3 h3 S3;obtain⟨w,hw,hwm⟩:=h3.get (aK _);have W3:=h3.wa 0 w hw;have D3:=h3.wd 0 (aK _);k_in;refine mJ ?_;lk;refine⟨a.q,A.bK,a.dq,_,_,rfl,h3.ob,ct.lc,ct.l4,Vy,?_⟩;lk;refine nz (c6.of h3.ls) (fj (j:=0) rfl (by rw[aG,hw];rfl)) ?_;refine⟨w.1,w.2.1,_,rfl,W3.ob,lS _ _,?_⟩;lk;refine eh (jq.of ht3) (fj (j:=0) rfl rfl) ?_;lk;refine eh (jq.of ht3) (fj (j:=1) rfl rfl) ?_;lk;refine⟨w.1,w.2.1,w.2.2,n,x,y,as 0,R 0,rfl,ct.w,W3,D3,hx,hy,?_⟩;refine⟨_,rfl,?_⟩
 by_cases hj:(y:Int)∈R 0 x
 .rw [decide_eq_true hj];rw[if_neg (by simp)];k_go;refine⟨a.q,A.bK,a.dq,_,_,rfl,h3.ob,ct.lc,ct.l2,Ue,?_⟩;lk;refine .inr ⟨a.d2,.bl false,rfl,.inr ⟨_,pk x y,t,.inl h3.e2,rfl,ht3,(iO (f:=λt=>V.bl t.wd) hnd' hu).symm⟩,?_⟩;exact k _ _ as R H3 h3 (.inl ⟨hj,rfl,rfl,rfl⟩) S3
 .rw [decide_eq_false hj];rw[if_pos (by simp)];k_in;refine⟨a.q,a.dq,_,rfl,h3.ob,Vz,?_⟩;lk;refine⟨a,n,T,_,as,R,t,⟨x,y,0,false⟩,rfl,ct,h3,hn,hu,hnd',hx,hy,aK _,λi hi=>by rw[Sq.mp hi];exact hj,ht3,by simp;lia,λas' H4 h4 S4=>?_⟩;have ht4:H4 t=some (.tup [.int x,.int y]):=S4 _ _ (h3.tq ht3) ht3;k_go;refine⟨a.q,A.bK,a.dq,_,_,rfl,h4.ob,ct.lc,ct.l2,Ue,?_⟩;lk;refine .inr ⟨a.d2,.bl true,rfl,.inr ⟨_,pk x y,t,.inl h4.e2,rfl,ht4,(iO (f:=λt=>V.bl t.wd) (t:=⟨x,y,0,true⟩) (by rw[jL (f:=Ti.oP) (λ_=>rfl)];exact hnd') ((kQ (f:=Ti.oP) hnd' hu _).mpr (.inl rfl))).symm⟩,?_⟩;exact k _ _ as' _ H4 h4 (.inr ⟨hj,rfl,rfl,rfl⟩) (S3.trans S4)
inductive cA(K:aa)(C:ai)(A:CA)(vs:List V)(H:Hp)(Q:VK)(E:XK):Prop
 |mk (a:_) (n T:Nat) (ts as R:_) (lv:Nat) (t:_) (x y:Nat):vs=[.ref a.q,.int lv,.ref t]->E7 K C A->LV C A H a n T ts as R->(R lv x).length+(R lv y).length+2<=400->lv<=T->x<n->y<n->H t=some (.tup [.int x,.int y])->(∀q (ks:List Int) (s o:Nat),(s=x/\o=y\/s=y/\o=x)->(R lv s).length<=(R lv o).length->s=(if(R lv x).length<=(R lv y).length then x else y)->H q=none->ks.Pairwise (· < ·)->(∀z,z∈ks↔z∈R lv s)->Q (.ref q) (upd H q (.lst (ks.map V.int))))->cA K C A vs H Q E
theorem qh:Rn (cA K C A) (lE K C A (jZ K C) (jM K C)) ["self","level","tie","wood"]:=by
 rintro vs H Q E ⟨a,n,T,ts,as,R,lv,t,x,y,rfl,ct,h,hn,hl,hx,hy,ht,k⟩;obtain⟨w,hw,hwm⟩:=h.get hl;have W:=h.wa lv w hw;have D:=h.wd lv hl;have lx:=D.len hx;have ly:=D.len hy;obtain⟨dx,_,_,cx⟩:=(D.r x hx).cnt;obtain⟨dy,_,_,cy⟩:=(D.r y hy).cnt;unfold lE;k_go;refine⟨a.q,A.bK,a.dq,_,_,rfl,h.ob,ct.lc,ct.l4,Vy,?_⟩;lk;refine nz (c6.of h.ls) (fj (j:=lv) rfl (by rw[aG,hw];rfl)) ?_;k_in;refine⟨w.1,w.2.1,_,rfl,W.ob,lS _ _,?_⟩;k_in;refine⟨w.1,w.2.1,_,rfl,W.ob,lS _ _,?_⟩;lk;refine eh (jq.of ht) (fj (j:=0) rfl rfl) ?_;lk;refine⟨w.1,w.2.1,w.2.2,n,x,as lv,R lv,rfl,ct.w,W,D,hx,?_⟩;refine xN ?_;lk;refine⟨w.1,w.2.1,_,rfl,W.ob,lS _ _,?_⟩;lk;refine eh (jq.of ht) (fj (j:=1) rfl rfl) ?_;lk;refine⟨w.1,w.2.1,w.2.2,n,y,as lv,R lv,rfl,ct.w,W,D,hy,?_⟩;lk;refine mP (λc=>?_) λc=>?_
 .lk;refine eh (jq.of ht) (fj (j:=0) rfl rfl) ?_;lk;exact⟨w.1,w.2.1,w.2.2,n,x,as lv,R lv,rfl,ct.w,W,D,by lia,hx,λq ks hq hs hm=>k q ks x y (.inl ⟨rfl,rfl⟩) (by lia) (if_pos (by lia)).symm hq hs hm⟩
 .lk;refine eh (jq.of ht) (fj (j:=1) rfl rfl) ?_;lk;exact⟨w.1,w.2.1,w.2.2,n,y,as lv,R lv,rfl,ct.w,W,D,by lia,hy,λq ks hq hs hm=>k q ks y x (.inr ⟨rfl,rfl⟩) (by lia) (if_neg (by lia)).symm hq hs hm⟩
theorem pP.keep(h:pP Pt H)(S:∀b o,(∀ks,o≠.dT ks)->(∀xs,o≠.lst xs)->(∀x y z,o≠.ins x y z)->(∀o' ks,o≠.frz o' (.dT ks))->H b=some o->H' b=some o):pP Pt H':=by
 rcases h with h|⟨c',oc,vs,t,h1,h2,h3⟩
 .exact .inl (S _ _ (λ_ z=>nomatch z) (λ_ z=>nomatch z) (λ_ _ _ z=>nomatch z) (λ_ _ z=>nomatch z) h)
 .exact .inr ⟨c',oc,vs,t,S _ _ (λ_ z=>nomatch z) (λ_ z=>nomatch z) (λ_ _ _ z=>nomatch z) (λ_ _ z=>nomatch z) h1,S _ _ (λ_ z=>nomatch z) (λ_ z=>nomatch z) (λ_ _ _ z=>nomatch z) (λ_ _ z=>nomatch z) h2,h3⟩
theorem pP.same(h:pP Pt H)(S:bU H H'):pP Pt H':=h.keep λb o _ _ _ _ e=>S b o e
theorem pP.fm(h:pP Pt H)(L:LV C A H a n T ts as R)(S:Fm (fp a) H H'):pP Pt H':=
 h.keep λb o h1 h2 _ _ e=>S b o (L.out e h1 λ_ _=>h2 _) e
theorem pP.ne(h:pP Pt H){b:ai}{o:HO}(e:H b=some o)(hn:∀ps,o≠.tbl ps):b≠Pt:=λz=>by obtain⟨ps,q⟩:=h.tbl;rw[z,q]at e;exact hn ps (aX e).symm
def AtL(ts:List Ti)(lv:Nat)(w:Bool)(zs:List Zt):Prop:=(zs.map zP).Nodup/\∀k,k∈zs.map zP↔∃t∈ts,t.cj=lv/\t.wd=w/\t.key=k
inductive jS(K:aa)(C:ai)(A:CA)(Pt:ai)(vs:List V)(H:Hp)(Q:VK)(E:XK):Prop
 |mk (a:_) (n T:Nat) (ts as R:_) (lv:Nat) (w:Bool):vs=[.ref a.q,.int lv,.bl w]->E7 K C A->LV C A H a n T ts as R->(ts.map Ti.key).Nodup->ts.length<99->pP Pt H->(∀(q:ai) (zs:List Zt) (o:jv) H',H q=none->H' q=some (.lst (zs.map jD))->(∀z∈zs,ff H' z)->AtL ts lv w zs->zs.map zP=KW ts lv w->H' a.d1=some (.frz o (.dT (kl ts)))->pP Pt H'->Fm [Pt,a.d1] H H'->Q (.ref q) H')->jS K C A Pt vs H Q E
inductive cG(K:aa)(C:ai)(A:CA)(Pt:ai)(vs:List V)(H:Hp)(Q:VK)(E:XK):Prop
 |mk (a:_) (n T:Nat) (ts as R:_) (lv:Nat) (w:Bool):vs=[.ref a.q,.int lv,.bl w]->E7 K C A->LV C A H a n T ts as R->(ts.map Ti.key).Nodup->ts.length<99->pP Pt H->(∀(q:ai) (zs:List Zt) H',H q=none->H' q=some (.lst (zs.map jD))->(∀z∈zs,ff H' z)->AtL ts lv w zs->zs.map zP=KW ts lv w->pP Pt H'->Ib Pt H H'->Q (.ref q) H')->cG K C A Pt vs H Q E
theorem rJ:∀vs H Q E,cG K C A Pt vs H Q E->jS K C A Pt vs H (TM H Q) E:=by
 rintro vs H Q E ⟨a,n,T,ts,as,R,lv,w,rfl,ct,h,hnd,hlen,hT,k⟩;refine⟨a,n,T,ts,as,R,lv,w,rfl,ct,h,hnd,hlen,hT,λq zs o H' hq gq pz hz ha gd hT' B=>.inr ⟨a.d1,o,kl ts,(λo' u' e=>by rw[h.e1]at e;cases e),gd,?_⟩⟩;have hqd:q≠a.d1:=Ne.symm (aT h.e1 hq)
 have ne:∀{b:ai}{u:HO},H' b=some u->(∀o' ks,u≠.frz o' (.dT ks))->(upd H' a.d1 (.dT (kl ts))) b=some u:=λ{b u} e q=>by rw[aF];exact e;rintro rfl;rw[gd]at e;cases e;exact q _ _ rfl
 refine k q zs _ hq (by rw[aF hqd];exact gq) (λz hz'=>ne (pz z hz') (λ_ _ z=>nomatch z)) hz ha (hT'.keep λb u _ _ _ h4 e=>ne e h4) λb u hb e=>?_
 by_cases c:b=a.d1
 .subst c;rw[aC,← h.e1,e]
 .rw [aF c];exact B _ _ (by simp[hb,c]) e
theorem rK:Rn (jS K C A Pt) (nM K C A (ml K C Pt)) Vx:=by
 rintro vs H Q E ⟨a,n,T,ts,as,R,lv,w,rfl,ct,h,hnd,hlen,hT,k⟩;unfold nM;lk;refine U3 ?_;refine mJ ?_;lk;refine⟨a.q,A.bK,a.dq,_,_,rfl,h.ob,ct.lc,ct.l1,OU,?_⟩;refine⟨a.d1,kl ts,rfl,.inl ⟨h.e1,λo=>?_⟩⟩;have g1:(upd H a.d1 (.frz o (.dT (kl ts)))) a.d1=some (.frz o (.dT (kl ts))):=aC;have B1:aV a.d1 H (upd H a.d1 (.frz o (.dT (kl ts)))):=aV.upd;generalize upd H a.d1 (.frz o (.dT (kl ts)))=H1 at g1 B1;have q1:=B1 _ _ h.ob (dO h.ob h.e1);have w1:=B1 _ _ h.e2 (Ne.symm h.Ow);have v1:=B1 _ _ h.e3 (Ne.symm h.R8)
 have T1:pP Pt H1:=hT.keep λb u h1 _ _ _ e=>B1 _ _ e λz=>by rw[z,h.e1]at e;cases e;exact h1 _ rfl
 intro acc hacc;refine kM (n:=ts.length) (λt ys H4=>H4 acc=some (.lst ys)/\bU H1 H4/\∃us:List (Ti×ai),ys=us.map (λu=>V.ref u.2)/\us.map (·.1)=(ts.take t).filter (λu=>decide (u.cj=lv))/\∀u∈us,H4 u.2=some (.tup [.int u.1.x,.int u.1.y])) (λZ=>∃o,Z=[o,some (.int lv),some (.ref a.q)]) ⟨aC,bU.cw hacc,[],rfl,rfl,λz hz=>nomatch hz⟩ ⟨_,rfl⟩ ?_ ?_ ?_ ?_
 .rintro t ys H4 ⟨e,_⟩;exact e
 .rintro ys H4 ⟨g4,S4,us,rfl,hu,fl⟩;refine⟨⟨by rw[qg];exact ay _,S4 _ _ g1⟩,?_⟩;rw[bu (ay _)]at hu
  have hul:us.length<=ts.length:=by have:=congrArg cK hu;rw[af]at this;rw[this];exact b0 _ _
  lk;refine .inl ⟨⟨_,c6.of g4⟩,λacc2 hacc2=>?_⟩;refine vN (K:=K) (z:=acc) (xs:=us.map λu=>V.ref u.2) us (λu=>decide (u.1.wd=w)) (λu=>V.ref u.2) (λZ=>∃o,Z=[o,some (.bl w),some (.ref a.q)]) (by simp) (c6.of g4) hacc2 ⟨_,rfl⟩ (by rw[af];lia) ?_ ?_
  .rintro i u x σ' H' G G' hi hx S' ⟨o',rfl⟩ k1 k2
   have ex:x=.ref u.2:=by rw[aG,hi]at hx;exact(aX hx).symm
   subst ex;have hum:=aP hi
   have hut:u.1∈ts:=by have:u.1∈us.map (·.1):=aN hum;rw[hu]at this;exact(bB.mp this).1
   k_go;refine⟨a.q,A.bK,a.dq,_,_,rfl,S' _ _ (S4 _ _ q1),ct.lc,ct.l2,Ue,?_⟩;lk;refine .inr ⟨a.d2,.bl u.1.wd,rfl,.inr ⟨kw ts,pk u.1.x u.1.y,u.2,.inl (S' _ _ (S4 _ _ w1)),rfl,S' _ _ (fl u hum),(iO (f:=λt=>V.bl t.wd) hnd hut).symm⟩,?_⟩;lk;have e:decide (V.bl u.1.wd=V.bl w)=decide (u.1.wd=w):=decide_eq_decide.mpr ⟨λq=>by injection q,λq=>by rw[q]⟩;rw[e]
   cases c:decide (u.1.wd=w)with
   |true=>
    refine lz ?_;lk
    exact k1 c _ ⟨_,rfl⟩
   |false=>exact kg (k2 c _ ⟨_,rfl⟩)
  .intro H' S' hacc';have S5:=S4.trans S';generalize eu:us.filter (λu=>decide (u.1.wd=w))=us2 at hacc'
   have hu2:us2.map (·.1)=(ts.filter λu=>decide (u.cj=lv)).filter λu=>decide (u.wd=w):=by rw[← hu,← eu,jz];rfl
   have fl2:∀u∈us2,H' u.2=some (.tup [.int u.1.x,.int u.1.y]):=λu hu=>S' _ _ (fl u (by rw[← eu]at hu;exact(bB.mp hu).1))
   have hm2:∀u,u∈us2.map (·.1)↔u∈ts/\u.cj=lv/\u.wd=w:=λu=>by rw[hu2,bB,bB,decide_eq_true_iff,decide_eq_true_iff,and_assoc]
   have hl2:us2.length<=ts.length:=by rw[← eu];exact bw (b0 _ _) hul
   k_go;refine⟨a.q,A.bK,a.dq,_,_,rfl,S5 _ _ q1,ct.lc,ct.l3,fL3,?_⟩;lk;refine⟨acc2,a.d3,us2.map (λu=>([0,(u.1.x:Int),(u.1.y:Int)],u.2)),kv ts,rfl,by rw[hacc',a7];rfl,S5 _ _ v1,λz hz=>?_,by rw[af];lia,T1.same S5,λl zs' H2 hl S6 T6 hp hsr=>?_⟩
   .obtain ⟨u,hum,rfl⟩:=aI.mp hz;exact⟨0,u.1.x,u.1.y,rfl,fl2 u hum,iO (f:=λ_=>V.int 0) hnd ((hm2 u.1).mp (aN hum)).1⟩
   .have T5:=T1.same S5
    have hlP:l≠Pt:=λz=>by obtain⟨ps,e⟩:=T6.tbl;rw[z,e]at hl;cases hl
    have F6:Fm [Pt,a.d1] H H2:=λb u hb e=>by simp only[aw,cX,or_false,not_or]at hb;exact S6 _ _ hb.1 (S5 _ _ (B1 _ _ e hb.2))
    have d6:H2 a.d1=some (.frz o (.dT (kl ts))):=S6 _ _ (T5.ne (S5 _ _ g1) (λ_ z=>nomatch z)) (S5 _ _ g1);have hld:a.d1≠l:=aT d6 hl
    have U:∀{b:ai}{u:HO},H2 b=some u->(upd H2 l (.lst (zs'.map mG))) b=some u:=λe=>by rw[aF (aT e hl)];exact e
    have hzP:(zs'.map λz=>(z.1.getD 1 0,z.1.getD 2 0,z.2)).map zP=zs'.map λz=>(z.1.getD 1 0,z.1.getD 2 0):=by rw[a7];rfl
    have hperm:(zs'.map λz=>((z.1.getD 1 0,z.1.getD 2 0):Int×Int)).Perm ((us2.map (·.1)).map Ti.key):=by
     have:=hp.map λz:Zn=>((z.1.getD 1 0,z.1.getD 2 0):Int×Int)
     rw[a7]at this;rw[a7];exact this
    refine k l (zs'.map λz=>(z.1.getD 1 0,z.1.getD 2 0,z.2)) o _ (F6.free (by simp[hlP,hld.symm]) hl) (by rw[aC,a7];rfl) (λz hz=>?_) ⟨?_,λkey=>?_⟩ ?_ (U d6) (T6.keep λb u _ _ _ _ e=>U e) (F6.trans λb u _ e=>U e)
    .obtain ⟨z',hz',rfl⟩:=aI.mp hz;obtain⟨u,hum,rfl⟩:=aI.mp (hp.mem_iff.mp hz');exact U (S6 _ _ (T5.ne (fl2 u hum) (λ_ z=>nomatch z)) (fl2 u hum))
    .rw [hzP,hperm.nodup_iff,hu2];exact((fI.trans fI).map _).nodup hnd
    .rw [hzP,hperm.mem_iff,aI];exact⟨λ⟨u,h1,h2⟩=>⟨u,((hm2 u).mp h1).1,((hm2 u).mp h1).2.1,((hm2 u).mp h1).2.2,h2⟩,λ⟨u,h1,h2,h3,h4⟩=>⟨u,(hm2 u).mpr ⟨h1,h2,h3⟩,h4⟩⟩
    .rw [hzP];unfold KW;rw[← hu2,a7,← Al (m:=zs'.map (·.1)) ((hp.map (·.1)).trans (by rw[a7];exact .refl _)) (bY.mpr hsr),a7]
     rfl
 .rintro t ys H4 ht ⟨_,S4,_⟩;exact⟨by rw[qg];exact ht,S4 _ _ g1⟩
 .rintro t ys σ' H4 x H5 ht ⟨g4,S4,us,rfl,hu,fl⟩ ⟨o',rfl⟩ ⟨eH,key,v,b,hk,ex,hb⟩;subst eH ex
  obtain⟨u,hu',eu⟩:∃u,ts[t]?=some u/\(pk u.x u.y,V.int u.cj)=(key,v):=by have hk:(ts.map λt=>(pk t.x t.y,V.int t.cj))[t]?=some (key,v):=hk;rw[aG]at hk;exact dz.mp hk
  cases eu;have hum:=aP hu';have hb:H5 b=some (.tup [.int u.x,.int u.y]):=hb;k_go;refine⟨a.q,A.bK,a.dq,_,_,rfl,S4 _ _ q1,ct.lc,ct.l1,OU,?_⟩;lk;refine .inr ⟨a.d1,.int u.cj,rfl,.inr ⟨kl ts,pk u.x u.y,b,.inr ⟨o,S4 _ _ g1⟩,rfl,hb,(iO (f:=λt=>V.int t.cj) hnd hum).symm⟩,?_⟩
  have etk:ts.take (t+1)=ts.take t++[u]:=by rw[cH,hu'];rfl
  have hul:us.length<=ts.length:=by have:=congrArg cK hu;rw[af]at this;rw[this];exact bw (b0 _ _) (by rw[bG];lia)
  lk;refine mP (λc=>?_) λc=>?_
  .have c:u.cj=lv:=by have:=jB.mp c;lia
   lk;refine⟨g4,cZ (m:=100) (by rw[af];lia),jH.mk' ht ⟨_,rfl⟩ ⟨aC,λb' ob e=>by rw[aF (aT e hacc)];exact S4 _ _ e,us++[(u,b)],by simp,?_,λz hz=>?_⟩⟩
   .rw [aH,hu,etk,cb];simp[c]
   .rcases aL.mp hz with hz|hz
    .rw [aF (dO (fl z hz) g4)];exact fl z hz
    .rw [ax.mp hz,aF (dO hb g4)];exact hb
  .have c:¬ u.cj=lv:=λe=>c (by rw[e]);refine jH.mk' ht ⟨_,rfl⟩ ⟨g4,S4,us,rfl,?_,fl⟩;rw[hu,etk,cb];simp[c]
theorem Fm.skip{X:List ai}{c:ai}{H1 H2:Hp}(S:Fm X H H1)(S2:Fm (c::X) H1 H2)(hc:H c=none):Fm X H H2:=λb o hb e=>S2 b o (λz=>by
 rcases aw.mp z with z|z
 .rw [z,hc]at e;cases e
 .exact hb z) (S b o hb e)
theorem ew2{x y:Int}{S:List Int}:ew x y S=2↔x∈S/\y∈S:=by unfold ew;by_cases c1:x∈S<;>by_cases c2:y∈S<;>simp[c1,c2]
theorem ew1{x y:Int}{S:List Int}:ew x y S=1↔(x∈S/\y∉S\/x∉S/\y∈S):=by unfold ew;by_cases c1:x∈S<;>by_cases c2:y∈S<;>simp[c1,c2]
theorem LV.VR(h:LV C A H a n T ts as R)(hP:pP Pt H)(S:Ib Pt H H'):LV C A H' a n T ts as R:=
 h.keep (X:=[Pt]) (λb o hb e=>S b o (λz=>hb (ax.mpr z)) e) (λx fs e hf _ hx=>hP.ne e (by obtain⟨c,d,f,rfl,_⟩:=hf;exactλ_ z=>nomatch z) (ax.mp hx)) (λb hb hx=>by
  rcases h.kind hb with⟨ks,q⟩|⟨bs,_,q⟩
  .exact hP.ne q (λ_ z=>nomatch z) (ax.mp hx)
  .exact hP.ne q (λ_ z=>nomatch z) (ax.mp hx)) (λhx=>hP.ne h.ls (λ_ z=>nomatch z) (ax.mp hx)) λb r _ e hx=>hP.ne e (λ_ z=>nomatch z) (ax.mp hx)
theorem LV.app{c:ai}{ys xs:List V}(h:LV C A H a n T ts as R)(hc:H c=some (.lst ys))(hi:∀i r,ys≠V.int i::r)(n1:c∉fp a)(n2:a.L≠c):LV C A (upd H c (.lst xs)) a n T ts as R:=
 h.keep (X:=[c]) (Fm.upd aj) (λx fs e hf _ hx=>by
  rw[ax.mp hx,hc]at e;obtain⟨c,d,f,rfl,_⟩:=hf
  cases e) (λb hb hx=>n1 (ax.mp hx▸hb)) (λhx=>n2 (ax.mp hx)) λb r hr e hx=>by
  rw[ax.mp hx,hc]at e
  injection e with e
  injection e with e
  match r,hr with
  |x::r,_=>exact hi _ _ e
inductive dS(K:aa)(C:ai)(A:CA)(Pt:ai)(vs:List V)(H:Hp)(Q:VK)(E:XK):Prop
 |mk (a:_) (n T:Nat) (ts as R:_) (lv:Nat) (t:_) (x y:Nat):vs=[.ref a.q,.int lv,.ref t]->E7 K C A->LV C A H a n T ts as R->n<=200->(∀j,2^(j+1)<=n->j<=T)->Dn n T ts R x y (lv+1)->H t=some (.tup [.int x,.int y])->ts.length<99->pP Pt H->(∀ts' as' R' H' (u:Tt),H u.p=none->H u.q=none->H u.s=none->pR H' u->LV C A H' a n T ts' as' R'->pP Pt H'->Fm (Pt::fp a) H H'->ts'.map Ti.key=ts.map Ti.key->(row u,(ts',R'))=kA x y lv (ts,R)->(u.fd=none/\Dn n T ts' R' x y lv\/u.fd≠none/\Lv n T ts' R'/\Jn ts' R')->Q (.ref u.p) H')->dS K C A Pt vs H Q E
theorem zJ:Rn (dS K C A Pt) (rF K C A (cA K C A) (cG K C A Pt) (dA K C A) (dB K C) (cB K C A)) Vp:=by
 rintro vs H Q E ⟨a,n,T,ts,as,R,lv,t,x,y,rfl,ct,h,hn,hT,D,ht,hlen,hP,k⟩
 have hlv:lv<=T:=by have:=D.hk;lia
 have hnd:=D.lv.nd;have f0:∀{m:bF},¬ m="level_of"->¬ m="wooden"->¬ m="weight_of"->¬ m="woods"->(fL a.d1 a.d2 a.d3 a.L).lookup m=none:=λh1 h2 h3 h4=>Vz h1 h2 h3 h4;unfold rF;k_in;refine⟨a.q,a.dq,_,rfl,h.ob,f0 (by decide +kernel) (by decide +kernel) (by decide +kernel) (by decide +kernel),?_⟩;lk;refine⟨a,n,T,ts,as,R,lv,t,x,y,rfl,ct,h,(by have:=bw (Nat.le_mul_of_pos_right _ (Nat.two_pow_pos lv)) (D.s2 lv (ip _));lia),hlv,D.ha,D.hb,ht,λq ks s o hso hle hse hq hkp hks=>?_⟩;have hks0:=QY hkp hks;have hS:R lv s=(ts,R).2 lv (if((ts,R).2 lv x).length<=((ts,R).2 lv y).length then x else y):=congrArg (R lv) hse
 have D':Dn n T ts R s o (lv+1):=by
  rcases hso with⟨rfl,rfl⟩|⟨rfl,rfl⟩
  .exact D
  .exact D.swap
 have back:∀{ts' R'},Dn n T ts' R' s o lv->Dn n T ts' R' x y lv:=λd=>by
  rcases hso with⟨rfl,rfl⟩|⟨rfl,rfl⟩
  .exact d
  .exact d.swap
 have hs:((R lv s).length+1)*2^(lv+1)<=2*n:=by refine bw ?_ (D'.s2 lv (ip _));rw[OS,Nat.mul_comm (2^lv) 2,← Nat.mul_assoc];exact nV _ (by lia)
 generalize eu_:upd _ q _=H1;obtain⟨S1,g1⟩:=ig eu_ hq;have h1:=h.same S1;k_in;refine⟨a.q,a.dq,_,rfl,h1.ob,f0 (by decide +kernel) (by decide +kernel) (by decide +kernel) (by decide +kernel),?_⟩;lk;refine⟨a,n,T,ts,as,R,lv,true,rfl,ct,h1,hnd,hlen,hP.same S1,λz0 zs H2 hz0 gz pz az ea P2 S2=>?_⟩;have h2:=h1.VR (hP.same S1) S2;have g2:H2 q=some (.lst (ks.map V.int)):=S2 _ _ ((hP.same S1).ne g1 (λ_ z=>nomatch z)) g1
 have hzl:zs.length<=ts.length:=by
  have:=qX (l:=zs.map zP) (m:=ts.map Ti.key) az.1 λp hp=>by obtain⟨t,t1,_,_,t4⟩:=(az.2 p).mp hp;exact t4▸aN t1
  simpa using this
 refine⟨z0,rfl,.inl ⟨⟨_,c6.of gz⟩,λacc hacc=>?_⟩⟩;have nacc:=h2.Ec hacc;have nLacc:a.L≠acc:=aT h2.ls hacc;refine kM (n:=zs.length) (λi ys H4=>ys=((zs.take i).filter λz=>decide (ew z.1 z.2.1 ks=2)).map jD/\H4 acc=some (.lst ys)/\bU H2 H4) (λZ=>∃o,Z=[o,some (.ref q)]) ⟨by simp,aC,bU.cw hacc⟩ ⟨_,rfl⟩ ?_ ?_ ?_ ?_
 .rintro i ys H' ⟨_,h,_⟩;exact h
 .rintro ys H3 ⟨rfl,g3,S3⟩;refine⟨⟨_,c6.of (S3 _ _ gz),by rw[af];exact ay _⟩,?_⟩;rw[bu (ay _)]at g3;generalize ew':zs.filter (λz=>decide (ew z.1 z.2.1 ks=2))=ws at g3
  have hws:∀z,z∈ws↔z∈zs/\z.1∈ks/\z.2.1∈ks:=λz=>by rw[← ew',bB,decide_eq_true_iff,ew2]
  have ewd:ws.map zP=Ba (R lv s) lv (ts,R):=by
   unfold Ba
   show _=(KW ts lv true).filter _
   rw[← ea,jz,← ew'];refine congrArg (Ys zP) (l8 λz _=>?_)
   show decide (ew z.1 z.2.1 ks=2)=decide (ew z.1 z.2.1 (R lv s)=2)
   rw[MV hks]
  have wnd:(ws.map zP).Nodup:=by rw[← ew'];exact(fI.map _).nodup az.1
  have h3:=h2.same S3;have P3:=P2.same S3;have q3:=S3 _ _ g2;have pw:∀z∈ws,ff H3 z:=λz hz=>S3 _ _ (pz z ((hws z).mp hz).1)
  have st:∀z∈ws,∃t∈ts,t.key=zP z/\t.wd=true/\t.cj=lv/\(t.x:Int)∈R lv s/\(t.y:Int)∈R lv s:=λz hz=>by obtain⟨m1,m2,m3⟩:=(hws z).mp hz;obtain⟨t,t1,t2,t3,t4⟩:=(az.2 (zP z)).mp (aN m1);obtain⟨e1,e2⟩:=cp t4;exact⟨t,t1,t4,t3,t2,by rw[e1];exact(hks _).mp m2,by rw[e2];exact(hks _).mp m3⟩
  lk;unfold pI;lk
  refine .inl ⟨⟨_,c6.of g3⟩,i6 (K:=K) (a:=acc) (xs:=ws.map jD) (λi Z H4=>∃ts1 as1 R1 o5 o6,Z=[some (.ref a.q),some (.int lv),some (.ref t),some (.ref q),some (.ref acc),o5,o6]/\LV C A H4 a n T ts1 as1 R1/\Lo1 n T lv s o ts R (ws.map zP) i ts1 R1/\((ws.map zP).drop i).foldl (IC lv) (ts1,R1)=(ws.map zP).foldl (IC lv) (ts,R)/\Fm (fp a) H3 H4)
   ⟨ts,as,R,_,_,rfl,h3,⟨D',rfl,rfl,λt ht h1 h2 h3 h4=>?_,λp hp=>?_,λp hp=>?_⟩,rfl,Fm.refl⟩ ?_ ?_ ?_⟩
  .obtain ⟨z,hz,e⟩:=aI.mp ((az.2 t.key).mpr ⟨t,ht,h2,h1,rfl⟩);obtain⟨e1,e2⟩:=cp e;exact aI.mpr ⟨z,(hws z).mpr ⟨hz,by rw[e1];exact(hks _).mpr h3,by rw[e2];exact(hks _).mpr h4⟩,e⟩
  .obtain ⟨z,hz,rfl⟩:=aI.mp hp;exact st z hz
  .obtain ⟨z,hz,rfl⟩:=aI.mp hp;obtain⟨t,h1,h2,h3,_⟩:=st z hz;exact⟨t,h1,h2,h3⟩
  .rintro i Z H4 _ ⟨_,_,_,_,_,_,_,_,_,F⟩;exact c6.of (F _ _ nacc g3)
  .rintro i v Z H4 hi ⟨ts1,as1,R1,o5,o6,rfl,L4,M,eM,F⟩;obtain⟨z,hz,rfl⟩:=gm hi;obtain⟨u,u1,u2,u3,u4,u5,M'⟩:=M.step hT hs wnd (p:=zP z) (by rw[aG,hz];rfl)
   have edz:(ws.map zP).drop i=zP z::(ws.map zP).drop (i+1):=by
    have hzi:(ws.map zP)[i]?=some (zP z):=by rw[aG,hz];rfl
    rw[fU (av.mp hzi).1,(av.mp hzi).2]
   have hul:u.cj=lv:=by obtain⟨t',t1,t2,_,t4,_⟩:=M.rem (zP z) (by rw[edz];exact aj);rw[jR M.dn.lv.nd u1 t1 (u2.trans t2.symm)];exact t4
   have eM':((ws.map zP).drop (i+1)).foldl (IC lv) (eK ts1 u.key Ti.up,Xp R1 (u.cj+1) u.x u.y)=(ws.map zP).foldl (IC lv) (ts,R):=by rw[← eM,edz,X7,← u2,hul];rfl
   have hpz:=pw z (aP hz)
   have hpz4:H4 z.2.2=some (.tup [.int u.x,.int u.y]):=by obtain⟨e1,e2⟩:=cp u2;rw[e1,e2];exact F _ _ (h3.tq hpz) hpz
   obtain⟨l1,l2,_⟩:=M.dn.lv.lt u u1
   have hl1:ts1.length=ts.length:=by have:=congrArg cK M.ks;simpa using this
   k_in;refine⟨a.q,a.dq,_,rfl,L4.ob,f0 (by decide +kernel) (by decide +kernel) (by decide +kernel) (by decide +kernel),?_⟩;lk;refine⟨a,n,T,ts1,as1,R1,z.2.2,u,rfl,ct,L4,by lia,u1,M.dn.lv.nd,by lia,l2,λ_=>⟨u4,u5⟩,hpz4,by lia,λas' R' H5 L5 eR F5=>?_⟩;rw[u3,if_pos rfl]at eR;subst eR;exact⟨_,as',_,_,_,rfl,L5,M',eM',F.trans F5⟩
  .rintro Z H4 ⟨ts1,as1,R1,o5,o6,rfl,L4,M,eM,F⟩;rw[af]at M eM;have P4:=P3.fm h3 F;have a4:=F _ _ nacc g3;have q4:=F _ _ (h3.XM q3) q3;have ed:(ws.map zP).drop ws.length=[]:=vz.mpr (by rw[af];exact ay _);rw[ed,ewd]at eM;have eM:(ts1,R1)=(Ba (R lv s) lv (ts,R)).foldl (IC lv) (ts,R):=eM
   have hno:∀t∈ts1,t.wd=true->t.cj=lv->(t.x:Int)∈R1 lv s->(t.y:Int)∈R1 lv s->False:=λt h1 h2 h3 h4 h5=>by rw[M.rl]at h4 h5;have:=M.pend t h1 h2 h3 h4 h5;rw[ed]at this;cases this
   have hl1:ts1.length=ts.length:=by have:=congrArg cK M.ks;simpa using this
   have hs1:((R1 lv s).length+1)*2^(lv+1)<=2*n:=by rw[M.rl];exact hs
   have hks1:∀z,z∈ks↔z∈R1 lv s:=by rw[M.rl];exact hks
   lk;unfold pJ;k_in;refine⟨a.q,a.dq,_,rfl,L4.ob,f0 (by decide +kernel) (by decide +kernel) (by decide +kernel) (by decide +kernel),?_⟩;lk;refine⟨a,n,T,ts1,as1,R1,lv,false,rfl,ct,L4,M.dn.lv.nd,by lia,P4,λz5 zs3 H5 hz5 gz5 pz5 az5 ea5 P5 S5=>?_⟩;have L5:=L4.VR P4 S5;have a5:H5 acc=some (.lst (ws.map jD)):=S5 _ _ (P4.ne a4 (λ_ z=>nomatch z)) a4;have q5:H5 q=some (.lst (ks.map V.int)):=S5 _ _ (P4.ne q4 (λ_ z=>nomatch z)) q4;have nqa:q≠acc:=aT g2 hacc;have n5a:z5≠acc:=Ne.symm (aT a4 hz5);have n5f:=L4.Ec hz5;have n3:(zs3.map zP).Nodup:=az5.1
   have hcnt:ws.length+zs3.length<=ts.length:=by
    have:=qX (l:=ws.map zP++zs3.map zP) (m:=ts1.map Ti.key) (du.mpr ⟨wnd,n3,λp hp p' hp' e=>by
     subst e;obtain⟨t,t1,t2,t3⟩:=M.all p hp;obtain⟨t',s1,_,s3,s4⟩:=(az5.2 p).mp hp';rw[jR M.dn.lv.nd t1 s1 (t2.trans s4.symm),s3]at t3
     cases t3⟩) λp hp=>by
      rcases aL.mp hp with hp|hp
      .obtain ⟨t,t1,t2,_⟩:=M.all p hp;exact t2▸aN t1
      .obtain ⟨t,t1,_,_,t4⟩:=(az5.2 p).mp hp;exact t4▸aN t1
    simp at this;lia
   -- from the beginning to here
   have F5:Fm (Pt::fp a) H H5:=λb o hb e=>by rw[aw,not_or]at hb;exact S5 _ _ hb.1 (F _ _ hb.2 (S3 _ _ (S2 _ _ hb.1 (S1 _ _ e))))
   have fr:∀{b:ai},H5 b=none->H b=none:=λ{b} e=>F5.free (λz=>by
    rcases aw.mp z with z|z
    .obtain ⟨ps,q⟩:=P5.tbl;rw[z,q]at e;cases e
    .exact L5.Ec e z) e
   have hacc0:H acc=none:=by
    cases z:H acc with
    |none=>rfl
    |some u=>
     have:H1 acc=some u:=S1 _ _ z
     by_cases c:acc=Pt
     .obtain ⟨ps,q⟩:=P2.tbl;rw[← c,hacc]at q;cases q
     .rw [S2 _ _ c this]at hacc;cases hacc
   have Lf:∀{H6},Fm (acc::fp a) H5 H6->H6 q=some (.lst (ks.map V.int)):=λF=>F _ _ (λz=>(aw.mp z).elim nqa (L5.XM q5)) q5
   -- the step told
   have hgo:Bb (R lv s) lv (ts,R)=ID (R lv s) (zs3.map zP) ts1 (ws.map zP):=by unfold Bb;rw[← eM,ea5,← ewd]
   have hRo:((Ba (R lv s) lv (ts,R)).foldl (IC lv) (ts,R)).2=R1:=by rw[← eM]
   have told:∀{ts2 as2 R2 H6} {rs:List Zt}(f:V) (fd:Option (Int×Int)),(⟨lv,ks,xR ((rs.map zP).map pl),fd⟩,(ts2,R2))=kA x y lv (ts,R)->Fd H6 f fd->LV C A H6 a n T ts2 as2 R2->pP Pt H6->Fm (acc::fp a) H5 H6->H6 acc=some (.lst (rs.map jD))->(∀z∈rs,ff H6 z)->rs.length<99->ts2.map Ti.key=ts.map Ti.key->(fd=none/\Dn n T ts2 R2 x y lv\/fd≠none/\Lv n T ts2 R2/\Jn ts2 R2) ->∀G:VK,(∀v H7,(∀p,H7 p=none->Q (.ref p) (upd H7 p (.tup [.int lv,.ref q,v,f])))->G v H7)->kO K [.ref acc] H6 G:=λ{ts2 as2 R2 H6 rs} f fd hlk hfd L6 P6 F6 g6 p6 hl6 hk hf G kG=>by
    have fr6:∀{b:ai},H6 b=none->H b=none:=λ{b} e=>fr (F6.free (λz=>by
     rcases aw.mp z with z|z
     .rw [z,g6]at e;cases e
     .exact L6.Ec e z) e)
    refine⟨acc,rs.map (λz=>([z.1,z.2.1],z.2.2)),[false],rfl,by rw[a7];exact c6.of g6,λz hz=>let ⟨u,hu,e⟩:=aI.mp hz;e▸⟨_,p6 u hu,.int _ (.int _ .nil)⟩,by rw[af];lia,λl rs' hl pm hsr=>kG _ _ λp hp=>?_⟩;have S7:=bU.cw (o:=.lst (rs'.map mG)) hl;have g7:(upd H6 l (.lst (rs'.map mG))) l=some (.lst (rs'.map mG)):=aC;generalize upd H6 l (.lst (rs'.map mG))=H7 at S7 g7 hp;have S8:=bU.cw (o:=.tup [.int lv,.ref q,.ref l,f]) hp;have S78:=S7.trans S8;refine k ts2 as2 R2 _ ⟨p,q,l,ks,rs',f,lv,fd⟩ (fr6 (S7.free hp)) (fr6 hl) hq ⟨aC,S8 _ _ g7,S78 _ _ (Lf F6),hfd.same λb _=>S78 b _,?_⟩ (L6.same S78) (P6.same S78) (F5.skip ((F6.mono λb hb=>(aw.mp hb).elim (λz=>z▸aj) λz=>ag _ (ag _ z)).trans (Fm.of S78)) hacc0) hk (by rw[← hlk];unfold row;rw[← Al (m:=rs'.map (·.1)) ((pm.map (·.1)).trans (by rw[a7,a7];exact .refl _)) (bY.mpr hsr)]) hf;intro z hz;obtain⟨u,hu,rfl⟩:=aI.mp (pm.mem_iff.mp hz);exact S78 _ _ (p6 u hu)
   refine⟨z5,rfl,.inl ⟨⟨_,c6.of gz5⟩,i6 (K:=K) (a:=z5) (xs:=zs3.map jD) (λi Z H6=>∃ts2 as2 rs o5 o6,Z=[some (.ref a.q),some (.int lv),some (.ref t),some (.ref q),some (.ref acc),o5,o6]/\LV C A H6 a n T ts2 as2 R1/\pP Pt H6/\Oy n T lv s o ts R1 (zs3.map zP) i ts2/\H6 acc=some (.lst (rs.map jD))/\(∀z∈rs,ff H6 z)/\rs.length<=ws.length+i/\ID (R lv s) ((zs3.map zP).drop i) ts2 (rs.map zP)=ID (R lv s) (zs3.map zP) ts1 (ws.map zP)/\Fm (acc::fp a) H5 H6)
    ⟨ts1,as1,ws,_,_,rfl,L5,P5,⟨M.dn,M.ks,λh x y hx hy h1 h2=>M.dn.full hno h hx hy h1 h2,λp hp=>?_,λt h1 h2 h3=>.inl ?_⟩,a5,λz hz=>S5 _ _ (P4.ne (F _ _ (h3.tq (pw z hz)) (pw z hz)) (λ_ z=>nomatch z)) (F _ _ (h3.tq (pw z hz)) (pw z hz)),ay _,rfl,Fm.refl⟩ ?_ ?_ ?_⟩⟩
   .obtain ⟨t,t1,t2,t3,t4⟩:=(az5.2 p).mp hp;exact⟨t,t1,t4,t3,t2⟩
   .exact (az5.2 t.key).mpr ⟨t,h1,h3,h2,rfl⟩
   .rintro i Z H6 _ ⟨_,_,_,_,_,_,_,_,_,_,_,_,_,F6⟩;exact c6.of (F6 _ _ (λz=>(aw.mp z).elim n5a n5f) gz5)
   .rintro i v Z H6 hi ⟨ts2,as2,rs,o5,o6,rfl,L6,P6,N,g6,p6,hl6,eG,F6⟩;obtain⟨z,hz,rfl⟩:=gm hi;have hilt:i<zs3.length:=(av.mp hz).1
    have hpi:(zs3.map zP)[i]?=some (zP z):=by rw[aG,hz];rfl
    obtain⟨t',a1,a2,_,a4,edz,_⟩:=N.at n3 hpi;rw[edz]at eG;have hew:ew z.1 z.2.1 (R lv s)=ew z.1 z.2.1 ks:=(MV hks).symm;have hz5:=pz5 z (aP hz);have hz6:H6 z.2.2=some (.tup [.int z.1,.int z.2.1]):=F6 _ _ (λe=>(aw.mp e).elim (dO hz5 a5) (L5.tq hz5)) hz5
    have hl2:ts2.length=ts.length:=by have:=congrArg cK N.ks;simpa using this
    lk;refine⟨z.2.2,q,z.1,z.2.1,ks,rfl,hz6,Lf F6,λH7 S7=>?_⟩;have L7:=L6.same S7;have P7:=P6.same S7;have F7:=F6.trans (Fm.of S7);have g7:=S7 _ _ g6;have hz7:=S7 _ _ hz6;have p7:∀z∈rs,ff H7 z:=λz hz=>S7 _ _ (p6 z hz);lk;refine mP (λc=>?_) λc=>?_
    .have c:ew z.1 z.2.1 ks=1:=by have:=jB.mp c;lia
     have eG:(ts2,rs.map zP,some (zP z))=ID (R lv s) (zs3.map zP) ts1 (ws.map zP):=by rw[← eG];unfold ID;exact(if_pos (hew.trans c)).symm
     have c:=ew1.mp c;rw[hks1,hks1]at c;obtain⟨u,u1,u2,u3,u4,u5⟩:=N.one n3 hpi c
     have hul:u.cj=lv:=by rw[jR N.dn.lv.nd u1 a1 (u2.trans a2.symm)];exact a4
     have hlk:(⟨lv,ks,xR ((rs.map zP).map pl),some (zP z)⟩,(eK ts2 u.key Ti.oP,A9 R1 u.cj u.x u.y))=kA x y lv (ts,R):=by rw[Bd hS (hgo.trans eG.symm) hRo,← hks0,← u2,hul];rfl
     obtain⟨l1,l2,l3⟩:=N.dn.lv.lt u u1;obtain⟨e1,e2⟩:=cp u2;k_in;refine⟨a.q,a.dq,_,rfl,L7.ob,f0 (by decide +kernel) (by decide +kernel) (by decide +kernel) (by decide +kernel),?_⟩;lk;refine⟨a,n,T,ts2,as2,R1,z.2.2,u,rfl,ct,L7,by lia,u1,N.dn.lv.nd,by lia,l2,l3,u3,by rw[e1,e2];exact hz7,by lia,λas' H8 L8 F8=>?_⟩;lk;refine told (rs:=rs) (.ref z.2.2) (some (zP z)) hlk (.inr ⟨_,_,rfl,rfl,F8 _ _ (L7.tq hz7) hz7⟩) L8 (P7.fm L7 F8) (F7.trans F8.tail) (F8 _ _ nacc g7) (λz hz=>F8 _ _ (L7.tq (p7 z hz)) (p7 z hz)) (by lia) (by rw[jL (f:=Ti.oP) (λ_=>rfl)];exact N.ks) (.inr ⟨nofun,u4,u5⟩) _ λv H9 kk=>?_;lk;exact⟨nW,kk⟩
    .lk;have c1:¬ ew z.1 z.2.1 ks=1:=λe=>c (by rw[e];rfl);refine mP (λc=>?_) λc=>?_
     .have c:ew z.1 z.2.1 ks=2:=by have:=jB.mp c;lia
      have eG:ID (R lv s) ((zs3.map zP).drop (i+1)) (eK ts2 (zP z) Ti.up) (rs.map zP++[zP z])=ID (R lv s) (zs3.map zP) ts1 (ws.map zP):=by
       rw[← eG]
       show _=if ew z.1 z.2.1 (R lv s)=1 then _ else if ew z.1 z.2.1 (R lv s)=2 then _ else _
       rw[hew,c,if_neg (by decide),if_pos rfl]
      have c:=ew2.mp c;rw[hks1,hks1]at c;obtain⟨u,u1,u2,u3,N'⟩:=N.two hT hs1 n3 hpi c.1 c.2;obtain⟨l1,l2,l3⟩:=N.dn.lv.lt u u1;obtain⟨e1,e2⟩:=cp u2;k_in;refine⟨a.q,a.dq,_,rfl,L7.ob,f0 (by decide +kernel) (by decide +kernel) (by decide +kernel) (by decide +kernel),?_⟩;lk;refine⟨a,n,T,ts2,as2,R1,z.2.2,u,rfl,ct,L7,by lia,u1,N.dn.lv.nd,by lia,l2,(λe=>by rw[u3]at e;cases e),by rw[e1,e2];exact hz7,by lia,λas' R' H8 L8 eR F8=>?_⟩;rw[u3,if_neg (by decide)]at eR;subst eR;have g8:=F8 _ _ nacc g7;have hz8:=F8 _ _ (L7.tq hz7) hz7;lk;refine⟨.inl ⟨rfl,_,c6.of g8⟩,?_⟩;lk;refine mh g8 (cZ (m:=100) (by rw[af];lia)) ?_
      have ne:∀{b:ai}{o:HO},H8 b=some o->(∀xs,o≠.lst xs)->(upd H8 acc (.lst (rs.map jD++[.ref z.2.2]))) b=some o:=λ{b o} e hno=>by rw[aF];exact e;rintro rfl;rw[g8]at e;cases e;exact hno _ rfl
      refine⟨_,as',rs++[z],_,_,rfl,L8.app g8 (by intro i r e;cases rs<;>cases e) nacc nLacc,(P7.fm L7 F8).keep λb o _ h2 _ _ e=>ne e h2,N',by rw[aC,aH];rfl,λz' hz'=>ne ?_ (λ_ z=>nomatch z),by rw[bj];simp;lia,by rw[aH,u2];exact eG,(F7.trans F8.tail).trans (Fm.upd aj)⟩
      rcases aL.mp hz' with hz'|hz'
      .exact F8 _ _ (L7.tq (p7 z' hz')) (p7 z' hz')
      .rw [ax.mp hz'];exact hz8
     .have c2:¬ ew z.1 z.2.1 ks=2:=λe=>c (by rw[e];rfl);lk
      have c3:z.1∉R1 lv s/\z.2.1∉R1 lv s:=by
       rw[← hks1,← hks1];rw[ew1]at c1;rw[ew2]at c2
       by_cases d1:z.1∈ks<;>by_cases d2:z.2.1∈ks<;>simp_all
      refine⟨ts2,as2,rs,_,_,rfl,L7,P7,N.zero n3 hpi c3.1 c3.2,g7,p7,by lia,?_,F7⟩;rw[← eG]
      show _=if ew z.1 z.2.1 (R lv s)=1 then _ else if ew z.1 z.2.1 (R lv s)=2 then _ else _
      rw[hew,if_neg c1,if_neg c2]
   .rintro Z H6 ⟨ts2,as2,rs,o5,o6,rfl,L6,P6,N,g6,p6,hl6,eG,F6⟩;rw[vz.mpr (by rw[af,af];exact ay _)]at eG;have eG:(ts2,rs.map zP,none)=ID (R lv s) (zs3.map zP) ts1 (ws.map zP):=eG;rw[af]at N hl6;lk;refine told (rs:=rs) .non none (by rw[Bc hS (hgo.trans eG.symm) hRo,← hks0]) (.inl ⟨rfl,rfl⟩) L6 P6 F6 g6 p6 (by lia) N.ks (.inl ⟨rfl,back (N.fin (by rw[af];exact ay _))⟩) _ λv H9 kk=>?_;lk;exact⟨nW,kk⟩
 .rintro i ys H' hi ⟨e,h,S'⟩;exact⟨_,_,c6.of (S' _ _ gz),by rw[aG,aB hi];rfl⟩
 .rintro i ys σ' H' v H3 hi ⟨rfl,hl,S'⟩ ⟨o',rfl⟩ ⟨e2,hx⟩;subst e2;have hxi:=hx _ (c6.of (S' _ _ gz));rw[aG,aB hi]at hxi;have hv:=(aX hxi).symm;subst hv
  have et:zs.take (i+1)=zs.take i++[zs[i]]:=by rw[cH,aB hi];rfl
  lk;refine⟨zs[i].2.2,q,zs[i].1,zs[i].2.1,ks,rfl,S' _ _ (pz _ (kd hi)),S' _ _ g2,λH4 S4=>?_⟩;lk;refine mP (λc=>?_) λc=>?_
  .have c:ew zs[i].1 zs[i].2.1 ks=2:=by have:=jB.mp c;lia
   lk;refine⟨S4 _ _ hl,cZ (m:=1000) (by rw[af];exact bx (b0 _ _) (by rw[bG];lia)),jH.mk' hi ⟨_,rfl⟩ ⟨?_,aC,λb o e=>by rw[aF (aT e hacc)];exact S4 _ _ (S' _ _ e)⟩⟩;rw[et,cb,aH];simp[c]
  .have c:¬ ew zs[i].1 zs[i].2.1 ks=2:=λe=>c (by rw[e];rfl);refine jH.mk' hi ⟨_,rfl⟩ ⟨?_,S4 _ _ hl,S'.trans S4⟩;rw[et,cb,aH];simp[c]
inductive ft(K:aa)(C:ai)(A:CA)(Pt:ai)(vs:List V)(H:Hp)(Q:VK)(E:XK):Prop
 |mk (a:_) (n T:Nat) (ts as R t:_) (u:Ti):vs=[.ref a.q,.ref t]->E7 K C A->LV C A H a n T ts as R->n<=200->T<=10->(∀j,2^(j+1)<=n->j<=T)->Lv n T ts R->Jn ts R->u∈ts->H t=some (.tup [.int u.x,.int u.y])->ts.length<99->pP Pt H->(∀(q:ai) (us:List Tt) (ts':List Ti) (as':Nat->List ai) (R':Nat->Nat->List Int) (H':Hp),H q=none->H' q=some (.lst (us.map kE))->(∀v∈us,pR H' v)->us.length<=11->LV C A H' a n T ts' as' R'->Lv n T ts' R'->Jn ts' R'->ts'.map Ti.key=(ts.filter λv=>decide (v.key≠u.key)).map Ti.key->(us.map row,(ts',R'))=kB u (ts,R)->(u.wd=true->tu n T u.x u.y (u.cj+1) (ts.filter (λv=>decide (v.key≠u.key)),MU R u.cj u.x u.y))->pP Pt H'->Fm (Pt::fp a) H H'->Q (.ref q) H')->ft K C A Pt vs H Q E
theorem zL:Rn (ft K C A Pt) (rG K C A (dR K C A) (dS K C A Pt)) Vq:=by
 rintro vs H Q E ⟨a,n,T,ts,as,R,t,u,rfl,ct,h,hn,hT10,hT,L,J,hu,ht,hlen,hP,k⟩;obtain⟨l1,l2,l3⟩:=L.lt u hu;unfold rG;k_go;refine⟨a.q,A.bK,a.dq,_,_,rfl,h.ob,ct.lc,ct.l1,OU,?_⟩;lk;refine .inr ⟨a.d1,.int u.cj,rfl,.inr ⟨_,pk u.x u.y,t,.inl h.e1,rfl,ht,(iO (f:=λt=>V.int t.cj) L.nd hu).symm⟩,?_⟩;k_go;refine⟨a.q,A.bK,a.dq,_,_,rfl,h.ob,ct.lc,ct.l2,Ue,?_⟩;lk;refine .inr ⟨a.d2,.bl u.wd,rfl,.inr ⟨_,pk u.x u.y,t,.inl h.e2,rfl,ht,(iO (f:=λt=>V.bl t.wd) L.nd hu).symm⟩,?_⟩;k_in;refine⟨a.q,a.dq,_,rfl,h.ob,Vz,?_⟩;lk;refine⟨a,n,T,ts,as,R,t,u,rfl,ct,h,by lia,hu,L.nd,by lia,l2,by lia,l3,λhw i hi=>(L.ed i (by lia) _ _).mpr ⟨u,hu,hw,hi,.inl rfl⟩,ht,λas1 R1 H1 h1 eR F1=>?_⟩;have P1:=hP.fm h F1;have ht1:=F1 _ _ (h.tq ht) ht;lk;refine⟨nW,λtr htr=>?_⟩;have S2:=bU.cw (o:=.lst []) htr;have g2:(upd H1 tr (.lst [])) tr=some (.lst []):=aC;have ntf:=h1.Ec htr
 have ntP:tr≠Pt:=λz=>by obtain⟨ps,q⟩:=P1.tbl;rw[z,q]at htr;cases htr
 have ntL:a.L≠tr:=aT h1.ls htr;have htr0:H tr=none:=F1.free ntf htr;generalize upd H1 tr (.lst [])=H2 at S2 g2;have h2:=h1.same S2;have P2:=P1.same S2;have ht2:=S2 _ _ ht1;have F2:Fm (Pt::fp a) H H2:=(F1.trans (Fm.of S2)).tail;generalize ef:(ts.filter λv=>decide (v.key≠u.key))=tf at h1 h2 k
 have hlf:tf.length<=ts.length:=by rw[← ef];exact b0 _ _
 lk;unfold pK
 refine qR (λZ H3=>∃(ts1:List Ti) (as1:Nat->List ai) (R1:Nat->Nat->List Int) (us:List Tt) (lv:Int) (b:Bool),Z=[some (.ref a.q),some (.ref t),some (.int lv),some (.bl b),some (.ref tr)]/\LV C A H3 a n T ts1 as1 R1/\pP Pt H3/\H3 tr=some (.lst (us.map kE))/\(∀v∈us,pR H3 v/\v.q∉tr::Pt::fp a/\v.s∉tr::Pt::fp a)/\Fm (tr::Pt::fp a) H2 H3/\ts1.map Ti.key=tf.map Ti.key /\((b=true/\∃kk:Nat,lv=(kk:Int)-1/\Dn n T ts1 R1 u.x u.y kk/\us.length+kk<=T+1/\(us.map row++(jY u.x u.y kk (ts1,R1)).1,(jY u.x u.y kk (ts1,R1)).2)=kB u (ts,R)/\(tu n T u.x u.y kk (ts1,R1)->tu n T u.x u.y (u.cj+1) (tf,MU R u.cj u.x u.y)))\/b=false/\Lv n T ts1 R1/\Jn ts1 R1/\us.length<=T+1/\(us.map row,(ts1,R1))=kB u (ts,R)/\(u.wd=true->tu n T u.x u.y (u.cj+1) (tf,MU R u.cj u.x u.y)))) (λZ _=>match Z with|[_,_,some (.int lv),_,_]=>(lv+1).toNat|_=>0) ?_ ?_
 .refine ⟨tf,as1,R1,[],u.cj,u.wd,rfl,h2,P2,g2,(λv hv=>nomatch hv),Fm.refl,rfl,?_⟩
  cases hw:u.wd with
  |true=>
   rw[hw,if_pos rfl]at eR;subst eR
   exact .inl ⟨rfl,u.cj+1,by lia,ef▸L.drop J hu hw,by simp;lia,by unfold kB;rw[if_pos hw,← ef];rfl,id⟩
  |false=>
   rw[hw,if_neg (by decide)]at eR;subst eR;obtain⟨L',J'⟩:=L.ZW J hu hw;exact .inr ⟨rfl,ef▸L',ef▸J',by simp,by unfold kB;rw[if_neg (by rw[hw];decide),← ef];rfl,λz=>nomatch z⟩
 .rintro Z H3 ⟨ts1,as1,R1,us,lv,b,rfl,h3,P3,g3,u3,F3,hk,hc⟩;have fin:Lv n T ts1 R1->Jn ts1 R1->us.length<=T+1->(us.map row,(ts1,R1))=kB u (ts,R)->(u.wd=true->tu n T u.x u.y (u.cj+1) (tf,MU R u.cj u.x u.y))->Q (.ref tr) H3:=λL' J' hl hg ho=>k tr us ts1 as1 R1 H3 htr0 g3 (λv hv=>(u3 v hv).1) (by lia) h3 L' J' hk hg ho P3 (F2.skip F3 htr0);lk;refine⟨_,rfl,?_⟩
  cases b with
  |false=>
   refine kg (kg ?_);lk
   rcases hc with⟨z,_⟩|⟨_,L',J',hl,hg,ho⟩
   .cases z
   .exact fin L' J' hl hg ho
  |true=>
   refine lz ?_;lk
   obtain⟨kk,rfl,D,hl,hg,ho⟩:∃kk:Nat,lv=(kk:Int)-1/\Dn n T ts1 R1 u.x u.y kk/\us.length+kk<=T+1/\(us.map row++(jY u.x u.y kk (ts1,R1)).1,(jY u.x u.y kk (ts1,R1)).2)=kB u (ts,R)/\(tu n T u.x u.y kk (ts1,R1)->tu n T u.x u.y (u.cj+1) (tf,MU R u.cj u.x u.y)):=by
    rcases hc with⟨_,h⟩|⟨z,_⟩
    .exact h
    .cases z
   refine mP (λc=>⟨_,ME,?_⟩) λc=>?_
   .obtain ⟨m,rfl⟩:∃m,kk=m+1:=⟨kk-1,by lia⟩
    rw[show((m+1:Nat):Int)-1=(m:Int) by lia]
    have hl1:ts1.length=tf.length:=by have:=congrArg cK hk;simpa using this
    lk;refine⟨.inl ⟨rfl,_,c6.of g3⟩,?_⟩;k_in;refine⟨a.q,a.dq,_,rfl,h3.ob,Vz,?_⟩;lk
    have nt3:t∉tr::Pt::fp a:=by simp only[aw,not_or];exact⟨dO ht2 g2,P2.ne ht2 (λ_ z=>nomatch z),h2.tq ht2⟩
    refine⟨a,n,T,ts1,as1,R1,m,t,u.x,u.y,rfl,ct,h3,hn,hT,D,F3 _ _ nt3 ht2,by lia,P3,λts4 as4 R4 H4 v hp hq hs ok h4 P4 F4 hk4 hlk hD=>?_⟩;have g4:H4 tr=some (.lst (us.map kE)):=F4 _ _ (by simp only[aw,not_or];exact⟨ntP,ntf⟩) g3
    have nv:∀{b:ai},H3 b=none->b∉tr::Pt::fp a:=λ{b} hb=>by simp only[aw,not_or];refine⟨Ne.symm (aT g3 hb),λz=>?_,h3.Ec hb⟩;obtain⟨ps,q⟩:=P3.tbl;rw[z,q]at hb;cases hb
    have nvq:=nv hq;have nvs:=nv hs;lk;refine mh g4 (cZ (m:=100) (by rw[af];lia)) ?_
    have ne:∀{b:ai}{o:HO},H4 b=some o->(∀xs,o≠.lst xs)->(upd H4 tr (.lst (us.map kE++[.ref v.p]))) b=some o:=λ{b o} e hno=>by rw[aF];exact e;rintro rfl;rw[g4]at e;cases e;exact hno _ rfl
    have g5:(upd H4 tr (.lst (us.map kE++[.ref v.p]))) tr=some (.lst ((us++[v]).map kE)):=by rw[aC,aH];rfl
    have h5:LV C A (upd H4 tr (.lst (us.map kE++[.ref v.p]))) a n T ts4 as4 R4:=h4.app g4 (by intro i r e;cases us<;>cases e) ntf ntL;have P5:pP Pt (upd H4 tr (.lst (us.map kE++[.ref v.p]))):=P4.keep λb o _ h2 _ _ e=>ne e h2;have ok5:pR (upd H4 tr (.lst (us.map kE++[.ref v.p]))) v:=ok.mv (λb xs e=>ne e (λ_ z=>nomatch z)) (by rw[aF λz=>nvq (by rw[z];exact aj)];exact ok.h2) (by rw[aF λz=>nvs (by rw[z];exact aj)];exact ok.h3)
    have u5:∀w∈us,pR (upd H4 tr (.lst (us.map kE++[.ref v.p]))) w:=λw hw=>by
     obtain⟨ow,o3,o6⟩:=u3 w hw;refine ow.mv (λb xs e=>ne (F4 _ _ (by simp only[aw,not_or];exact⟨P3.ne e (λ_ z=>nomatch z),h3.tq e⟩) e) (λ_ z=>nomatch z)) ?_ ?_
     .rw [aF λz=>o3 (by rw[z];exact aj)];exact F4 _ _ (λz=>o3 (ag _ z)) ow.h2
     .rw [aF λz=>o6 (by rw[z];exact aj)];exact F4 _ _ (λz=>o6 (ag _ z)) ow.h3
    have F5:Fm (tr::Pt::fp a) H2 (upd H4 tr (.lst (us.map kE++[.ref v.p]))):=(F3.trans F4.tail).trans (Fm.upd aj);generalize upd H4 tr (.lst (us.map kE++[.ref v.p]))=H5 at g5 h5 P5 ok5 u5 F5 ne;lk;refine nz (c6.of g5) (v:=.ref v.p) ?_ ?_
    .rw [aH];exact Pu _ _
    refine eh (jq.of ok5.h1) (fj (j:=3) rfl rfl) ?_;lk;refine⟨⟨ts4,as4,R4,us++[v],(m:Int)-1,decide (v.f=.non),rfl,h5,P5,g5,λw hw=>?_,F5,hk4.trans hk,?_⟩,?_⟩
    .rcases aL.mp hw with hw|hw
     .exact ⟨u5 w hw,(u3 w hw).2⟩
     .rw [ax.mp hw];exact⟨ok5,nvq,nvs⟩
    .rcases hD with⟨e,D4⟩|⟨e,L4,J4⟩
     .refine .inl ⟨decide_eq_true (ok.h4.iff.mpr e),m,rfl,D4,by simp;lia,?_,λz=>ho (tu.go (s:=(ts1,R1)) D hlk λ_=>z)⟩;rw[← hg,Be hlk e,aH,cI];rfl
     .refine .inr ⟨decide_eq_false λz=>e (ok.h4.iff.mp z),L4,J4,by simp;lia,?_,λ_=>ho (tu.go (s:=(ts1,R1)) D hlk λz=>absurd z e)⟩;rw[← hg,Bg hlk e,aH];rfl
    .show ((m:Int)-1+1).toNat<((m:Int)+1).toNat
     lia
   .lk
    have:kk=0:=by lia
    subst this;exact fin D.lv D.done (by lia) (by rw[← hg,show jY u.x u.y 0 (ts1,R1)=([],(ts1,R1))from rfl,gY]) λ_=>ho trivial
theorem Lb{sp:Sp}{dvs:List V}{E:XK}{t:TA}{Z:L2.St}(h:t Z H λvs H1=>∀x dx,H1 x=none->H1 dx=none->dx≠x->sp (.ref x::(vs++dvs)) (upd (upd H1 dx (.own x)) x (.ins C dx [])) (λv H2=>v=.non/\Q (.ref x) H2) E):Eo C sp dvs E t Z H Q:=h
theorem Gm{Z:L2.St}(h:∀p,H p=none->Q (.ref p) (upd H p (.dT []))):xI Z H Q:=h
theorem Top.small{n:Int}{j:Nat}(h:Top n j)(hn:n<=200):j<8:=by
 rcases h.1 with z|z
 .lia
 .by_cases c:j<8
  .exact c
  .have:(2:Int)^8<=2^j:=by
    have e:(2:Int)^j=2^(j-8)*2^8:=by rw[← Int.pow_add];congr 1;lia
    have h1:(1:Int)<=2^(j-8):=Ja (j-8);rw[e];have:=Int.mul_le_mul_of_nonneg_right h1 (show(0:Int)<=2^8 by decide);lia
   have e8:(2:Int)^8=256:=by decide
   lia
theorem WA.out{c:ai}{as:List ai}{R:Nat->List Int}{o:HO}(W:WA C H p dx l n as R)(h1:p≠c)(h2:l≠c)(h3:∀a∈as,a≠c):WA C (upd H c o) p dx l n as R:=
 ⟨by rw[aF h1];exact W.ob,by rw[aF h2];exact W.rl,W.len,λi a h=>by rw[aF (h3 a (aP h))];exact W.at_ i a h,W.ne⟩
inductive cO(K:aa)(C:ai)(A:CA)(vs:List V)(H:Hp)(Q:VK)(E:XK):Prop
 |mk (q dq:_) (n:Nat):vs=[.ref q,.int n]->H q=some (.ins A.bK dq [])->E7 K C A->1<=n->n<=200->(∀(a:AL) (T:Nat) (as:Nat->List ai) (H':Hp),a.q=q->a.dq=dq->LV C A H' a n T [] as (λ_ i=>[(i:Int)])->Top n T->aV q H H'->(∀b∈a.L::fp a,H b=none)->Q .non H')->cO K C A vs H Q E
theorem tm:Rn (cO K C A) (nK K C A (fM K C) (qf K C)) qo:=by
 rintro vs H Q E ⟨q,dq,n,rfl,hq,ct,hn1,hn2,k⟩;unfold nK;k_ne;refine lK (Gm λd1 hd1=>?_);lk;have nq1:q≠d1:=aT hq hd1;refine⟨q,A.bK,dq,[],rfl,by rw[aF nq1];exact hq,ct.lc,ct.l1,by decide,?_⟩;have g1:(upd (upd H d1 (.dT [])) q (.ins A.bK dq (dX "level_of" (.ref d1) []))) q=some (.ins A.bK dq [("level_of",.ref d1)]):=aC
 have e1:(upd (upd H d1 (.dT [])) q (.ins A.bK dq (dX "level_of" (.ref d1) []))) d1=some (.dT []):=by rw[aF (Ne.symm nq1)];exact aC
 have B1:aV q H (upd (upd H d1 (.dT [])) q (.ins A.bK dq (dX "level_of" (.ref d1) []))):=λb o e hb=>by rw[aF hb,aF (aT e hd1)];exact e
 generalize upd (upd H d1 (.dT [])) q (.ins A.bK dq (dX "level_of" (.ref d1) []))=H1 at g1 e1 B1;dsimp only;k_ne;refine lK (Gm λd2 hd2=>?_);lk;have nq2:q≠d2:=aT g1 hd2;refine⟨q,A.bK,dq,_,rfl,by rw[aF nq2];exact g1,ct.lc,ct.l2,by show 1<1000;decide,?_⟩;rw[eC (by decide +kernel)];have g2:(upd (upd H1 d2 (.dT [])) q (.ins A.bK dq (("level_of",.ref d1)::dX "wooden" (.ref d2) []))) q=some (.ins A.bK dq [("level_of",.ref d1),("wooden",.ref d2)]):=aC
 have e2:(upd (upd H1 d2 (.dT [])) q (.ins A.bK dq (("level_of",.ref d1)::dX "wooden" (.ref d2) []))) d2=some (.dT []):=by rw[aF (Ne.symm nq2)];exact aC
 have B2:aV q H1 (upd (upd H1 d2 (.dT [])) q (.ins A.bK dq (("level_of",.ref d1)::dX "wooden" (.ref d2) []))):=λb o e hb=>by rw[aF hb,aF (aT e hd2)];exact e
 have Ow:d1≠d2:=aT e1 hd2;generalize upd (upd H1 d2 (.dT [])) q (.ins A.bK dq (("level_of",.ref d1)::dX "wooden" (.ref d2) []))=H2 at g2 e2 B2;dsimp only;k_ne;refine lK (Gm λd3 hd3=>?_);lk;have nq3:q≠d3:=aT g2 hd3;refine⟨q,A.bK,dq,_,rfl,by rw[aF nq3];exact g2,ct.lc,ct.l3,by show 2<1000;decide,?_⟩;rw[eC (by decide +kernel),eC (by decide +kernel)];have g3:(upd (upd H2 d3 (.dT [])) q (.ins A.bK dq (("level_of",.ref d1)::("wooden",.ref d2)::dX "weight_of" (.ref d3) []))) q=some (.ins A.bK dq [("level_of",.ref d1),("wooden",.ref d2),("weight_of",.ref d3)]):=aC
 have e3:(upd (upd H2 d3 (.dT [])) q (.ins A.bK dq (("level_of",.ref d1)::("wooden",.ref d2)::dX "weight_of" (.ref d3) []))) d3=some (.dT []):=by rw[aF (Ne.symm nq3)];exact aC
 have B3:aV q H2 (upd (upd H2 d3 (.dT [])) q (.ins A.bK dq (("level_of",.ref d1)::("wooden",.ref d2)::dX "weight_of" (.ref d3) []))):=λb o e hb=>by rw[aF hb,aF (aT e hd3)];exact e
 have Sv:d2≠d3:=aT e2 hd3;have R8:d1≠d3:=aT (B2 _ _ e1 (Ne.symm nq1)) hd3;generalize upd (upd H2 d3 (.dT [])) q (.ins A.bK dq (("level_of",.ref d1)::("wooden",.ref d2)::dX "weight_of" (.ref d3) []))=H3 at g3 e3 B3;have B:=(B1.trans B2).trans B3;have f1:=B3 _ _ (B2 _ _ e1 (Ne.symm nq1)) (Ne.symm nq1);have f2:=B3 _ _ e2 (Ne.symm nq2)
 have fr:∀{b:ai},b≠q->H3 b=none->H b=none:=λ{b} hb e=>by
  cases z:H b with
  |none=>rfl
  |some o=>rw[B _ _ z hb]at e;cases e
 have fr2:∀{b:ai},b≠q->H2 b=none->H b=none:=λ{b} hb e=>by
  cases z:H b with
  |none=>rfl
  |some o=>rw[(B1.trans B2) _ _ z hb]at e;cases e
 have fr1:∀{b:ai},b≠q->H1 b=none->H b=none:=λ{b} hb e=>by
  cases z:H b with
  |none=>rfl
  |some o=>rw[B1 _ _ z hb]at e;cases e
 dsimp only;refine lK ?_;lk;refine⟨n,rfl,λj hj=>?_⟩;have hj8:=hj.small (by lia);lk;refine⟨by lia,by lia,λacc hacc=>?_⟩
 have e0:(((j:Int)+1)).toNat=j+1:=by lia
 rw[e0];refine kM (n:=j+1) (λt ys H4=>H4 acc=some (.lst ys)/\bU H3 H4/\∃(ws:List (ai×ai×ai)) (as:Nat->List ai),ys=ws.map (λw=>V.ref w.1)/\ws.length=t/\(ws.map (·.2.2)).Nodup/\∀(i:Nat) w,ws[i]?=some w->WA C H4 w.1 w.2.1 w.2.2 n (as i) (λi=>[(i:Int)])/\H3 w.2.2=none/\w.1≠acc/\w.2.2≠acc/\∀b∈as i,b≠acc) (λZ=>∃o,Z=[o,some (.int n)]) ⟨aC,bU.cw hacc,[],λ_=>[],rfl,rfl,vq,λi w hw=>nomatch hw⟩ ⟨_,rfl⟩ ?_ ?_ ?_ ?_
 .rintro t ys H4 ⟨h,_⟩;exact h
 .rintro ys H4 ⟨g4,S4,ws,as,rfl,hl,nd,hw⟩;refine⟨ay _,?_⟩;lk;refine⟨q,A.bK,dq,_,rfl,S4 _ _ g3,ct.lc,ct.l4,by show 3<1000;decide,?_⟩;rw[eC (by decide +kernel),eC (by decide +kernel),eC (by decide +kernel)]
  have naq:acc≠q:=λz=>by rw[z,g3]at hacc;cases hacc
  have hb:aV q H4 (upd H4 q (.ins A.bK dq (("level_of",.ref d1)::("wooden",.ref d2)::("weight_of",.ref d3)::dX "woods" (.ref acc) []))):=aV.upd
  have nl:∀{b:ai}{o:HO},H4 b=some o->(∀x y z,o≠.ins x y z)->b≠q:=λ{b o} e hno z=>by rw[z,S4 _ _ g3]at e;cases e;exact hno _ _ _ rfl
  refine k ⟨q,dq,d1,d2,d3,acc,ws⟩ j as _ rfl rfl ⟨aC,hb _ _ (S4 _ _ f1) (Ne.symm nq1),hb _ _ (S4 _ _ f2) (Ne.symm nq2),hb _ _ (S4 _ _ e3) (Ne.symm nq3),hb _ _ g4 naq,hl,λi w hi=>?_,λ_ _=>Wd.start n,hn1,Ow,R8,Sv,nd,λw hm=>?_⟩ hj (λb o e hne=>hb _ _ (S4 _ _ (B _ _ e hne)) hne) λb hb=>?_
  .obtain ⟨W,_⟩:=hw i w hi;refine W.out (λz=>?_) (nl W.rl (λ_ _ _ z=>nomatch z)) λa ha=>?_
   .have:=W.ob;rw[z,S4 _ _ g3]at this;cases this
   .obtain ⟨i,hi⟩:=bE.mp ha;exact nl (W.at_ i a hi) (λ_ _ _ z=>nomatch z)
  .obtain ⟨i,hi⟩:=bE.mp hm;exact Ne.symm (hw i w hi).2.2.2.1
  .simp only[fp,aw,aI]at hb
   rcases hb with rfl|rfl|rfl|rfl|⟨w,hm,rfl⟩
   .exact fr naq hacc
   .exact hd1
   .exact fr1 (Ne.symm nq2) hd2
   .exact fr2 (Ne.symm nq3) hd3
   .obtain ⟨i,hi⟩:=bE.mp hm;obtain⟨W,h3,_⟩:=hw i w hi;exact fr (nl W.rl (λ_ _ _ z=>nomatch z)) h3
 .rintro t ys H4 ht _;exact ht
 .rintro t ys σ' H4 x H5 ht ⟨g4,S4,ws,as,rfl,hl,nd,hw⟩ ⟨o,rfl⟩ ⟨eH,ex⟩;subst eH ex;lk;refine lz ?_;refine Lb ?_;lk;intro xw dxw hx hdx hne
  have T0:bU H5 (upd (upd H5 dxw (.own xw)) xw (.ins C dxw [])):=λb o e=>by rw[aF (aT e hx),aF (aT e hdx)];exact e
  refine⟨xw,dxw,n,rfl,aC,ct.w,by lia,λl bs H6 W hl6 B6=>⟨rfl,?_⟩⟩;have T:bU H5 H6:=λb o e=>B6 _ _ (T0 _ _ e) (aT e hx);have hl5:=T0.free hl6;have nxa:xw≠acc:=Ne.symm (aT g4 hx);have nla:l≠acc:=Ne.symm (aT g4 hl5)
  have naa:∀a∈bs,a≠acc:=λa ha z=>by obtain⟨i,hi⟩:=bE.mp ha;have h1:=W.at_ i a hi;rw[z,T _ _ g4]at h1;cases ws<;>cases h1
  have SA:bU H3 (upd H6 acc (.lst (ws.map (λw=>V.ref w.1)++[.ref xw]))):=λb o e=>by rw[aF (aT e hacc)];exact T _ _ (S4 _ _ e)
  refine⟨T _ _ g4,cZ (m:=100) (by rw[af];lia),jH.mk' ht ⟨_,rfl⟩ ⟨aC,SA,ws++[(xw,dxw,l)],(λi=>if i=t then bs else as i),by rw[aH];rfl,by rw[bj,hl];rfl,?_,λi w hi=>?_⟩⟩
  .rw [aH,du];refine⟨nd,by simp,λp hp q hq e=>?_⟩;obtain⟨w,hm,rfl⟩:=aI.mp hp;obtain⟨i,hi⟩:=bE.mp hm;have:=(hw i w hi).1.rl;rw[zw,ax]at hq;rw[e.trans hq,hl5]at this;cases this
  .by_cases c:i=t
   .subst c;rw[← hl,d7 (ay _),Nat.sub_self]at hi;cases hi;dsimp only;rw[if_pos rfl];exact⟨W.out nxa nla naa,S4.free hl5,nxa,nla,naa⟩
   .have hi':i<t:=by
     have:=(av.mp hi).1;rw[bj,hl]at this;simp at this;lia
    rw[eI (by lia)]at hi;dsimp only;rw[if_neg c];obtain⟨W',m1,m2,m3,m4⟩:=hw i w hi;exact⟨(W'.same T).out m2 m3 m4,m1,m2,m3,m4⟩
theorem wz{ta tv:TE}{rd:V->V->Hp->VK->Prop}{f:bF}{D:vA}{Z:L2.St}(h:ta Z H λx H1=>∃a C dx fs v,x=.ref a/\H1 a=some (.ins C dx fs)/\CY K C/\dN K C f/\fs.lookup f=some v /\tv Z H1 λy H2=>rd v y H2 λz H3=>∃dx' fs',H3 a=some (.ins C dx' fs')/\fs'.length<1000/\D.nx Z (upd H3 a (.ins C dx' (dX f z fs')))):sD K ta tv rd f D Z H:=h
def fK(n:Nat)(q w:ai)(c1 c2 c3 c4:Int):List (bF×V):=dX "lost" (.int c4) (dX "risen" (.int c3) (dX "looked" (.int c2) (dX "came" (.int c1) (dX "wood" (.ref w) (dX "levels" (.ref q) (dX "n" (.int n) []))))))
section
variable{q w:ai}{c1 c2 c3 c4 c:Int}
theorem Rg{f:bF}{v:V}:dX f v []=[(f,v)]:=rfl
theorem mM:fK n q w c1 c2 c3 c4=([("n",.int n),("levels",.ref q),("wood",.ref w),("came",.int c1),("looked",.int c2),("risen",.int c3),("lost",.int c4)]:List (bF×V)):=by
 unfold fK
 repeat (first|rw[Rg]|rw[eC (by decide +kernel)])
theorem fK1:(fK n q w c1 c2 c3 c4).lookup ("n":bF)=some (.int n):=by rw[mM];exact ue
theorem Xs:(fK n q w c1 c2 c3 c4).lookup ("levels":bF)=some (.ref q):=by rw[mM,fO (by decide +kernel)];exact ue
theorem fK4:(fK n q w c1 c2 c3 c4).lookup ("came":bF)=some (.int c1):=by rw[mM,fO (by decide +kernel),fO (by decide +kernel),fO (by decide +kernel)];exact ue
theorem fK5:(fK n q w c1 c2 c3 c4).lookup ("looked":bF)=some (.int c2):=by rw[mM,fO (by decide +kernel),fO (by decide +kernel),fO (by decide +kernel),fO (by decide +kernel)];exact ue
theorem fK6:(fK n q w c1 c2 c3 c4).lookup ("risen":bF)=some (.int c3):=by rw[mM,fO (by decide +kernel),fO (by decide +kernel),fO (by decide +kernel),fO (by decide +kernel),fO (by decide +kernel)];exact ue
theorem fK7:(fK n q w c1 c2 c3 c4).lookup ("lost":bF)=some (.int c4):=by rw[mM,fO (by decide +kernel),fO (by decide +kernel),fO (by decide +kernel),fO (by decide +kernel),fO (by decide +kernel),fO (by decide +kernel)];exact ue
theorem OV{m:bF}(h1:¬ m="n":=by decide +kernel)(h2:¬ m="levels":=by decide +kernel)(h3:¬ m="wood":=by decide +kernel)(h4:¬ m="came":=by decide +kernel)(h5:¬ m="looked":=by decide +kernel)(h6:¬ m="risen":=by decide +kernel)(h7:¬ m="lost":=by decide +kernel):(fK n q w c1 c2 c3 c4).lookup m=none:=by rw[mM,fO h1,fO h2,fO h3,fO h4,fO h5,fO h6,fO h7];rfl
theorem fKl:(fK n q w c1 c2 c3 c4).length<1000:=by rw[mM];show 7<1000;decide
theorem fKp4:dX "came" (.int c) (fK n q w c1 c2 c3 c4)=fK n q w c c2 c3 c4:=by rw[mM,mM,eC (by decide +kernel),eC (by decide +kernel),eC (by decide +kernel),wy]
theorem fKp5:dX "looked" (.int c) (fK n q w c1 c2 c3 c4)=fK n q w c1 c c3 c4:=by rw[mM,mM,eC (by decide +kernel),eC (by decide +kernel),eC (by decide +kernel),eC (by decide +kernel),wy]
theorem fKp6:dX "risen" (.int c) (fK n q w c1 c2 c3 c4)=fK n q w c1 c2 c c4:=by rw[mM,mM,eC (by decide +kernel),eC (by decide +kernel),eC (by decide +kernel),eC (by decide +kernel),eC (by decide +kernel),wy]
theorem fKp7:dX "lost" (.int c) (fK n q w c1 c2 c3 c4)=fK n q w c1 c2 c3 c:=by rw[mM,mM,eC (by decide +kernel),eC (by decide +kernel),eC (by decide +kernel),eC (by decide +kernel),eC (by decide +kernel),eC (by decide +kernel),wy]
end
theorem Top.lo(h:Top n T):2^(T+1)<=n\/T=0:=by
 rcases h.1 with z|z
 .exact .inr z
 .left
  have:((2^(T+1):Nat):Int)=2*(2:Int)^T:=by rw[OS,Int.natCast_mul,Int.natCast_pow];exact Int.mul_comm _ _
  lia
theorem Top.hi(h:Top n T):∀j,2^(j+1)<=n->j<=T:=λj hj=>by
 have h2:=h.2
 by_cases c:j<=T
 .exact c
 .have h3:2^(T+2)<=2^(j+1):=So (by decide) (by lia)
  have:((2^(T+2):Nat):Int)=4*(2:Int)^T:=by push_cast;rw[CS,CS];lia
  lia
theorem LV.inst{c d:ai}{fs:List (bF×V)}{o:HO}(h:LV C A H a n T ts as R)(hp:H p=some (.ins c d fs))(h1:fs.lookup ("rows":bF)=none)(h2:fs.lookup ("woods":bF)=none):LV C A (upd H p o) a n T ts as R:=
 h.keep (X:=[p]) (Fm.upd aj) (λx f e _ hx hm=>by
  rw[ax.mp hm]at e hx
  rcases hx with z|⟨w,hw,z⟩
  .have:=h.ob;rw[← z,hp]at this;cases this;rw[Vy]at h2;cases h2
  .obtain ⟨i,_,hi⟩:=h.at hw;have:=(h.wa i w hi).ob;rw[← z,hp]at this;cases this
   rw[iN]at h1;cases h1) (λb hb hm=>h.outI hp (ax.mp hm▸hb)) (λhm=>by
   have:=h.ls
   rw[ax.mp hm,hp]at this;cases this) λb r _ e hm=>by rw[ax.mp hm,hp]at e;cases e
structure KP(C:ai)(A:CA)(H:Hp)(p dx:ai)(a:AL)(n T:Nat)(ts:List Ti)(as:Nat->List ai)(R:Nat->Nat->List Int):Prop where
 ob:∃(w:ai×ai×ai) (c1 c2 c3 c4:Int),a.ws[0]?=some w/\H p=some (.ins A.Keeper dx (fK n a.q w.1 c1 c2 c3 c4))
 lv:LV C A H a n T ts as R
 iv:Lv n T ts R
 jn:Jn ts R
 tp:Top n T
theorem KP.same(h:KP C A H p dx a n T ts as R)(S:bU H H'):KP C A H' p dx a n T ts as R:=by obtain⟨w,c1,c2,c3,c4,hw,hp⟩:=h.ob;exact⟨⟨w,c1,c2,c3,c4,hw,S _ _ hp⟩,h.lv.same S,h.iv,h.jn,h.tp⟩
structure KS(C:ai)(A:CA)(a:AL)(n T:Nat)(as:Nat->List ai)(p dx:ai)(H0:Hp)(m:Nat)(fs:List (bF×V))(H:Hp):Prop where
 g:H p=some (.ins A.Keeper dx fs)
 lv:LV C A H a n T [] as (λ_ i=>[(i:Int)])
 r:fs.lookup ("rows":bF)=none
 w:fs.lookup ("woods":bF)=none
 len:fs.length<=m
 b:aV p H0 H
theorem BG(f:bF)(v:V):∀fs:List (bF×V),(dX f v fs).length<=fs.length+1
 | []=>ay _
 |(g,x)::r=>by
  by_cases c:g=f
  .subst c;rw[wy];exact gN _
  .rw [eC c];exact sA (BG f v r)
theorem KS.put{H0:Hp}{m:Nat}{fs:List (bF×V)}(s:KS C A a n T as p dx H0 m fs H)(f:bF)(v:V)(h1:¬ ("rows":bF)=f:=by decide +kernel)(h2:¬ ("woods":bF)=f:=by decide +kernel):KS C A a n T as p dx H0 (m+1) (dX f v fs) (upd H p (.ins A.Keeper dx (dX f v fs))):=
 ⟨aC,s.lv.inst s.g s.r s.w,by rw[fB,if_neg h1];exact s.r,by rw[fB,if_neg h2];exact s.w,bw (BG f v fs) (sA s.len),s.b.trans aV.upd⟩
inductive bA(K:aa)(C:ai)(A:CA)(vs:List V)(H:Hp)(Q:VK)(E:XK):Prop
 |mk (p dx:_) (n:Nat):vs=[.ref p,.int n]->H p=some (.ins A.Keeper dx [])->E7 K C A->1<=n->n<=200->(∀(a:AL) (T:Nat) (as:Nat->List ai) (H':Hp),KP C A H' p dx a n T [] as (λ_ i=>[(i:Int)])->aV p H H'->(∀b∈a.L::fp a,H b=none)->Q .non H')->bA K C A vs H Q E
theorem wA:Rn (bA K C A) (pL K C A (cO K C A) (f9 K C)) qo:=by
 rintro vs H Q E ⟨p,dx,n,rfl,hp,ct,hn1,hn2,k⟩;unfold pL;lk;refine⟨n,rfl,hn1,hn2,?_⟩;refine⟨_,rfl,?_⟩;rw[if_neg (by simp)];lk;refine lK ?_;lk;refine⟨p,A.Keeper,dx,[],rfl,hp,ct.kc,ct.k1,by decide,?_⟩;have g1:(upd H p (.ins A.Keeper dx (dX "n" (.int n) []))) p=some (.ins A.Keeper dx (dX "n" (.int n) [])):=aC;have B1:aV p H (upd H p (.ins A.Keeper dx (dX "n" (.int n) []))):=aV.upd;generalize upd H p (.ins A.Keeper dx (dX "n" (.int n) []))=H1 at g1 B1;dsimp only;k_ne;refine lK (Lb ?_);lk;intro q dq hq hdq hne
 have T0:bU H1 (upd (upd H1 dq (.own q)) q (.ins A.bK dq [])):=λb o e=>by rw[aF (aT e hq),aF (aT e hdq)];exact e
 refine⟨q,dq,n,rfl,aC,ct,hn1,hn2,λa T as H2 ea ed L tp B2 fr=>⟨rfl,?_⟩⟩;subst ea ed;have T1:bU H1 H2:=λb o e=>B2 _ _ (T0 _ _ e) (aT e hq);have g2:=T1 _ _ g1
 have s2:KS C A a n T as p dx H 1 (dX "n" (.int n) []) H2:=⟨g2,L,by rw[fB,if_neg (by decide +kernel)];rfl,by rw[fB,if_neg (by decide +kernel)];rfl,BG _ _ _,λb o e hb=>T1 _ _ (B1 _ _ e hb)⟩
 have frH:∀b∈a.L::fp a,H b=none:=λb hb=>by
  have:=fr b hb
  cases z:H b with
  |none=>rfl
  |some o=>
   by_cases c:b=p
   .have e:=T0 _ _ g1;rw[← c,this]at e;cases e
   .rw [T0 _ _ (B1 _ _ z c)]at this;cases this
 obtain⟨w,hw,hwm⟩:=L.get (aK _);lk;refine⟨p,A.Keeper,dx,_,rfl,s2.g,ct.kc,ct.k2,bx s2.len (by decide),?_⟩;have s3:=s2.put "levels" (.ref a.q);generalize upd H2 p (.ins A.Keeper dx (dX "levels" (.ref a.q) (dX "n" (.int n) [])))=H3 at s3;dsimp only;k_ne;refine lK ?_;lk;refine mJ ?_;refine mJ ?_;lk;refine⟨p,A.Keeper,dx,_,_,rfl,s3.g,ct.kc,ct.k2,by rw[fB,if_pos rfl],?_⟩;refine⟨a.q,A.bK,a.dq,_,_,rfl,s3.lv.ob,ct.lc,ct.l4,Vy,?_⟩;lk;refine nz (c6.of s3.lv.ls) (fj (j:=0) rfl (by rw[aG,hw];rfl)) ?_;lk;refine⟨p,A.Keeper,dx,_,rfl,s3.g,ct.kc,ct.k3,bx s3.len (by decide),?_⟩;have s4:=s3.put "wood" (.ref w.1);generalize e4:dX ("wood":bF) (V.ref w.1) (dX "levels" (.ref a.q) (dX "n" (.int n) []))=f4 at s4;generalize upd H3 p (.ins A.Keeper dx f4)=H4 at s4;dsimp only;k_ne;refine lK ?_;lk;refine⟨p,A.Keeper,dx,_,rfl,s4.g,ct.kc,ct.k4,bx s4.len (by decide),?_⟩;have s5:=s4.put "came" (.int 0);generalize e5:dX ("came":bF) (V.int 0) f4=f5 at s5;generalize upd H4 p (.ins A.Keeper dx f5)=H5 at s5;dsimp only;k_ne;refine lK ?_;lk;refine⟨p,A.Keeper,dx,_,rfl,s5.g,ct.kc,ct.k5,bx s5.len (by decide),?_⟩;have s6:=s5.put "looked" (.int 0);generalize e6:dX ("looked":bF) (V.int 0) f5=f6 at s6;generalize upd H5 p (.ins A.Keeper dx f6)=H6 at s6;dsimp only;k_ne;refine lK ?_;lk;refine⟨p,A.Keeper,dx,_,rfl,s6.g,ct.kc,ct.k6,bx s6.len (by decide),?_⟩;have s7:=s6.put "risen" (.int 0);generalize e7:dX ("risen":bF) (V.int 0) f6=f7 at s7;generalize upd H6 p (.ins A.Keeper dx f7)=H7 at s7;dsimp only;refine lK ?_;lk;refine⟨p,A.Keeper,dx,_,rfl,s7.g,ct.kc,ct.k7,bx s7.len (by decide),?_⟩;have s8:=s7.put "lost" (.int 0);subst e4 e5 e6 e7;exact k a T as _ ⟨⟨w,0,0,0,0,hw,s8.g⟩,s8.lv,Lv.start n T tp.lo,(λt ht=>nomatch ht),tp⟩ s8.b frH
theorem KP.p0(h:KP C A H p dx a n T ts as R):∃fs,H p=some (.ins A.Keeper dx fs):=by obtain⟨w,c1,c2,c3,c4,_,hp⟩:=h.ob;exact⟨_,hp⟩
inductive i8(K:aa)(C:ai)(A:CA)(vs:List V)(H:Hp)(Q:VK)(E:XK):Prop
 |mk (p dx a:_) (n T:Nat) (ts as R t:_) (x y:Nat):vs=[.ref p,.ref t,.int 0]->E7 K C A->KP C A H p dx a n T ts as R->n<=200->x<y->y<n->H t=some (.tup [.int x,.int y])->((x:Int),(y:Int))∉ts.map Ti.key->ts.length<99->(∀b as' H',b=!decide ((y:Int)∈R 0 x)->KP C A H' p dx a n T (ts++[⟨x,y,0,b⟩]) as' (bif b then A9 R 0 x y else R)->Fm (p::fp a) H H'->Q (.bl b) H')->i8 K C A vs H Q E
theorem x4:Rn (i8 K C A) (qv K C A (j4 K C A)) IE:=by
 rintro vs H Q E ⟨p,dx,a,n,T,ts,as,R,t,x,y,rfl,ct,h,hn,hxy,hy,ht,hk,hl,k⟩;obtain⟨w,c1,c2,c3,c4,hw,hp⟩:=h.ob;unfold qv;lk;refine wz ?_;lk;refine⟨p,A.Keeper,dx,_,_,rfl,hp,ct.kc,ct.k4,fK4,?_⟩;lk;refine⟨c1,1,rfl,rfl,dx,_,hp,fKl,?_⟩;rw[fKp4];have L1:=h.lv.inst (o:=.ins A.Keeper dx (fK n a.q w.1 (c1+1) c2 c3 c4)) hp OV OV;have p1:(upd H p (.ins A.Keeper dx (fK n a.q w.1 (c1+1) c2 c3 c4))) p=_:=aC;have ht1:(upd H p (.ins A.Keeper dx (fK n a.q w.1 (c1+1) c2 c3 c4))) t=_:=(aF (dO ht hp)).trans ht;have F1:Fm (p::fp a) H (upd H p (.ins A.Keeper dx (fK n a.q w.1 (c1+1) c2 c3 c4))):=Fm.upd aj;generalize upd H p (.ins A.Keeper dx (fK n a.q w.1 (c1+1) c2 c3 c4))=H1 at L1 p1 ht1 F1;dsimp only;lk;refine xN ?_;refine mJ ?_;lk;refine⟨p,A.Keeper,dx,_,_,rfl,p1,ct.kc,ct.k2,Xs,?_⟩;refine⟨a.q,a.dq,_,rfl,L1.ob,Vz,?_⟩;lk;refine⟨a,n,T,ts,as,R,t,x,y,rfl,ct,L1,hn,by lia,hy,ht1,h.iv.nd,hk,hl,λb ts' as' R' H2 L2 hc F2=>?_⟩
 have hkk:(ts++[(⟨x,y,0,false⟩:Ti)]).map Ti.key=ts.map Ti.key++[((x:Int),(y:Int))]:=by rw[aH];rfl
 have V:=h.iv.put hxy hy hk;have hu:(⟨x,y,0,false⟩:Ti)∈ts++[⟨x,y,0,false⟩]:=bC _ aj
 have ob:∃(w:ai×ai×ai) (c1 c2 c3 c4:Int),a.ws[0]?=some w/\H2 p=some (.ins A.Keeper dx (fK n a.q w.1 c1 c2 c3 c4)):=⟨w,_,_,_,_,hw,F2 _ _ (L1.outI p1) p1⟩
 rcases hc with⟨hj,rfl,rfl,rfl⟩|⟨hj,rfl,rfl,rfl⟩
 .refine k _ as' H2 (by rw[decide_eq_true hj];rfl) ⟨ob,L2,V,λu hu=>?_,h.tp⟩ (F1.trans F2.tail)
  rcases aL.mp hu with q|q
  .exact h.jn u q
  .rw [ax.mp q];exact hj
 .have hap:∀i,i<=(⟨x,y,0,false⟩:Ti).cj->(((⟨x,y,0,false⟩:Ti).y:Nat):Int)∉R i (⟨x,y,0,false⟩:Ti).x:=λi hi=>by rw[Sq.mp hi];exact hj
  have W0:=h.iv.wd 0 (aK _)
  have V':=V.adopt hu rfl hap λi hi=>by
   have e:=Sq.mp hi;subst e
   have l:=((W0.lk (a:=x) (b:=y) (by lia) hy hj).len (i:=x) (by lia))
   rw[(W0.Fl (x:=x) (by lia) hy hj (.inl (W0.me x (by lia)))).2]at l
   show((R 0 x).length+(R 0 y).length+2)*2^0<=2*n
   lia
  have es:eK (ts++[(⟨x,y,0,false⟩:Ti)]) ((x:Int),(y:Int)) Ti.oP=ts++[⟨x,y,0,true⟩]:=by
   unfold eK;rw[aH]
   congr 1
   .exact (fH λt ht=>if_neg λe=>hk (by rw[← e];exact aN ht)).trans (List.map_id _)
   .show [if((x:Int),(y:Int))=((x:Int),(y:Int))then _ else _]=_
    rw[if_pos rfl];rfl
  refine k _ as' H2 (by rw[decide_eq_false hj];rfl) ⟨ob,es▸L2,es▸V',λu hu'=>?_,h.tp⟩ (F1.trans F2.tail);rw[← es]at hu'
  rcases(kQ (f:=Ti.oP) V.nd hu u).mp hu' with rfl|⟨q,_⟩
  .have e:A9 R 0 x y 0=lk (R 0) x y:=if_pos (ay _)
   show(y:Int)∈A9 R 0 x y 0 x
   rw[e];exact((W0.Fl (x:=x) (by lia) hy hj (.inl (W0.me x (by lia)))).1 _).mpr (.inr (W0.me y hy))
  .rcases aL.mp q with q|q
   .obtain ⟨q1,q2,q3⟩:=h.iv.lt u q;exact V.JT hu hap q3 (by lia) _ (h.jn u q)
   .rename_i hne
    exact absurd (by rw[ax.mp q]) hne
inductive gW(K:aa)(C:ai)(A:CA)(vs:List V)(H:Hp)(Q:VK)(E:XK):Prop
 |mk (p dx a:_) (n T:Nat) (ts as R:_) (x y:Nat):vs=[.ref p,.int x,.int y]->E7 K C A->KP C A H p dx a n T ts as R->n<=200->x<n->y<n->x≠y->(((min x y:Nat):Int),((max x y:Nat):Int))∉ts.map Ti.key->ts.length<99->(∀b as' H',b=!decide (((max x y:Nat):Int)∈R 0 (min x y))->KP C A H' p dx a n T (ts++[⟨min x y,max x y,0,b⟩]) as' (bif b then A9 R 0 (min x y) (max x y)else R)->Fm (p::fp a) H H'->Q (.bl b) H')->gW K C A vs H Q E
theorem BH:Rn (gW K C A) (ud K C A (i8 K C A) (nN K C)) sZ:=by rintro vs H Q E ⟨p,dx,a,n,T,ts,as,R,x,y,rfl,ct,h,hn,hx,hy,hxy,hk,hl,k⟩;obtain⟨w,c1,c2,c3,c4,hw,hp⟩:=h.ob;unfold ud;k_in;refine⟨p,dx,_,rfl,hp,OV,?_⟩;k_go;refine⟨p,A.Keeper,dx,_,_,rfl,hp,ct.kc,ct.k1,fK1,?_⟩;lk;refine mJ ?_;refine mJ ?_;lk;refine⟨p,A.Keeper,dx,_,_,rfl,hp,ct.kc,ct.k2,Xs,?_⟩;refine⟨a.q,A.bK,a.dq,_,_,rfl,h.lv.ob,ct.lc,ct.l1,OU,?_⟩;lk;refine⟨n,x,y,a.d1,kl ts,rfl,hx,hy,hxy,h.lv.e1,Nc hk,λt ht=>?_⟩;generalize eu_:upd _ t _=H1;obtain⟨S1,g1⟩:=ig eu_ ht;lk;exact⟨p,dx,a,n,T,ts,as,R,t,min x y,max x y,rfl,ct,h.same S1,hn,by lia,by lia,g1,hk,hl,λb as' H' hb h' F'=>k b as' H' hb h' ((Fm.of S1).trans F')⟩
inductive iT(K:aa)(C:ai)(A:CA)(Pt:ai)(vs:List V)(H:Hp)(Q:VK)(E:XK):Prop
 |mk (p dx a:_) (n T:Nat) (ts as R:_) (x y:Nat):vs=[.ref p,.int x,.int y]->E7 K C A->KP C A H p dx a n T ts as R->n<=200->x<n->y<n->x≠y->(((min x y:Nat):Int),((max x y:Nat):Int))∈ts.map Ti.key->ts.length<99->pP Pt H->(∀(q:ai) (us:List Tt) (u:Ti) as' H',u∈ts->u.key=(((min x y:Nat):Int),((max x y:Nat):Int))->H' q=some (.lst (us.map kE))->(∀v∈us,pR H' v)->us.length<=11->us.map row=(kB u (ts,R)).1->KP C A H' p dx a n T (kB u (ts,R)).2.1 as' (kB u (ts,R)).2.2->(kB u (ts,R)).2.1.length<ts.length->(u.wd=true->tu n T u.x u.y (u.cj+1) (ts.filter (λv=>decide (v.key≠u.key)),MU R u.cj u.x u.y))->pP Pt H'->Fm (p::Pt::fp a) H H'->Q (.ref q) H')->iT K C A Pt vs H Q E
theorem Gn:Rn (iT K C A Pt) (y6 K C A (eT K C) (jN K C) (ft K C A Pt) (kU K C) (iM K C) (dC K C A)) ["self","a","b","tie","trail"]:=by
 rintro vs H Q E ⟨p,dx,a,n,T,ts,as,R,x,y,rfl,ct,h,hn,hx,hy,hxy,hk,hl,hP,k⟩;obtain⟨w,c1,c2,c3,c4,hw,hp⟩:=h.ob;obtain⟨u,hu,eu⟩:=aI.mp hk;obtain⟨eu1,eu2⟩:=cp eu
 have eu1:u.x=min x y:=by lia
 have eu2:u.y=max x y:=by lia
 have nPp:p≠Pt:=hP.ne hp (λ_ z=>nomatch z);unfold y6;k_go;refine⟨p,A.Keeper,dx,_,_,rfl,hp,ct.kc,ct.k1,fK1,?_⟩;lk;refine mJ ?_;refine mJ ?_;lk;refine⟨p,A.Keeper,dx,_,_,rfl,hp,ct.kc,ct.k2,Xs,?_⟩;refine⟨a.q,A.bK,a.dq,_,_,rfl,h.lv.ob,ct.lc,ct.l1,OU,?_⟩;lk;refine⟨n,x,y,a.d1,kl ts,rfl,hx,hy,hxy,h.lv.e1,by rw[← eu1,← eu2,iO h.iv.nd hu];rfl,λt ht=>?_⟩;rw[← eu1,← eu2];generalize eu_:upd _ t _=H1;obtain⟨S1,g1⟩:=ig eu_ ht;have L1:=h.lv.same S1;have p1:=S1 _ _ hp;lk;refine wz ?_;lk;refine⟨p,A.Keeper,dx,_,_,rfl,p1,ct.kc,ct.k7,fK7,?_⟩;k_go;refine⟨p,A.Keeper,dx,_,_,rfl,p1,ct.kc,ct.k1,fK1,?_⟩;lk;refine xN ?_;refine mJ ?_;lk;refine⟨p,A.Keeper,dx,_,_,rfl,p1,ct.kc,ct.k2,Xs,?_⟩;refine⟨a.q,a.dq,_,rfl,L1.ob,Vz,?_⟩;lk;refine⟨a.q,a.dq,a.d1,a.d2,a.d3,a.L,t,kl ts,kw ts,u.x,u.y,_,_,rfl,ct,L1.ob,.inl L1.e1,.inl L1.e2,g1,iO (f:=λt=>V.int t.cj) h.iv.nd hu,iO (f:=λt=>V.bl t.wd) h.iv.nd hu,λr hr=>?_⟩;generalize eu_:upd _ r _=H2;obtain⟨S2,g2⟩:=ig eu_ hr;lk;refine⟨nW,λl hl3=>?_⟩;generalize eu_:upd _ l _=H3;obtain⟨S3,g3⟩:=ig eu_ hl3;lk;refine⟨n,l,r,u.x,u.y,u.cj,u.wd,rfl,g3,S3 _ _ g2,λc H4 S4=>?_⟩;have S14:bU H H4:=((S1.trans S2).trans S3).trans S4;have p4:=S14 _ _ hp;have L4:=h.lv.same S14;have t4:=S4 _ _ (S3 _ _ (S2 _ _ g1));refine⟨c4,c,rfl,rfl,dx,_,p4,fKl,?_⟩;rw[fKp7];have L5:=L4.inst (o:=.ins A.Keeper dx (fK n a.q w.1 c1 c2 c3 (c4+c))) p4 OV OV;have p5:(upd H4 p (.ins A.Keeper dx (fK n a.q w.1 c1 c2 c3 (c4+c)))) p=_:=aC;have t5:(upd H4 p (.ins A.Keeper dx (fK n a.q w.1 c1 c2 c3 (c4+c)))) t=_:=(aF (dO t4 p4)).trans t4
 have P5:pP Pt (upd H4 p (.ins A.Keeper dx (fK n a.q w.1 c1 c2 c3 (c4+c)))):=(hP.same S14).keep λb o _ _ h3 _ e=>by rw[aF];exact e;rintro rfl;rw[p4]at e;cases e;exact h3 _ _ _ rfl
 have F5:Fm (p::Pt::fp a) H (upd H4 p (.ins A.Keeper dx (fK n a.q w.1 c1 c2 c3 (c4+c)))):=(Fm.of S14).trans (Fm.upd aj);generalize upd H4 p (.ins A.Keeper dx (fK n a.q w.1 c1 c2 c3 (c4+c)))=H5 at L5 p5 t5 P5 F5;dsimp only;lk;refine xN ?_;refine mJ ?_;lk;refine⟨p,A.Keeper,dx,_,_,rfl,p5,ct.kc,ct.k2,Xs,?_⟩;refine⟨a.q,a.dq,_,rfl,L5.ob,Vz,?_⟩;lk;have hT8:=h.tp.small (by lia);refine⟨a,n,T,ts,as,R,t,u,rfl,ct,L5,hn,by lia,h.tp.hi,h.iv,h.jn,hu,t5,hl,P5,λq us ts' as' R' H6 hq gq oks hlu L6 V6 J6 hk6 hg6 ho6 P6 F6=>?_⟩;have p6:=F6 _ _ (λz=>(aw.mp z).elim nPp (L5.outI p5)) p5;lk;refine wz ?_;lk;refine⟨p,A.Keeper,dx,_,_,rfl,p6,ct.kc,ct.k5,fK5,?_⟩;lk;refine⟨q,us,rfl,gq,oks,by lia,λc' H7 S7=>?_⟩;have p7:=S7 _ _ p6;refine⟨c2,c',rfl,rfl,dx,_,p7,fKl,?_⟩;rw[fKp5];have L8:=(L6.same S7).inst (o:=.ins A.Keeper dx (fK n a.q w.1 c1 (c2+c') c3 (c4+c))) p7 OV OV;have p8:(upd H7 p (.ins A.Keeper dx (fK n a.q w.1 c1 (c2+c') c3 (c4+c)))) p=_:=aC
 have n8:∀{b:ai}{o:HO},H7 b=some o->(∀x y z,o≠.ins x y z)->(upd H7 p (.ins A.Keeper dx (fK n a.q w.1 c1 (c2+c') c3 (c4+c)))) b=some o:=λ{b o} e hno=>by rw[aF];exact e;rintro rfl;rw[p7]at e;cases e;exact hno _ _ _ rfl
 have F8:Fm (p::Pt::fp a) H (upd H7 p (.ins A.Keeper dx (fK n a.q w.1 c1 (c2+c') c3 (c4+c)))):=((F5.trans F6.tail).trans (Fm.of S7)).trans (Fm.upd aj);generalize upd H7 p (.ins A.Keeper dx (fK n a.q w.1 c1 (c2+c') c3 (c4+c)))=H8 at L8 p8 n8 F8;dsimp only;lk;refine wz ?_;lk;refine⟨p,A.Keeper,dx,_,_,rfl,p8,ct.kc,ct.k6,fK6,?_⟩;lk;refine⟨q,us,rfl,n8 (S7 _ _ gq) (λ_ _ _ z=>nomatch z),λv hv=>(oks v hv).mv (λb xs e=>n8 (S7 _ _ e) (λ_ _ _ z=>nomatch z)) (n8 (S7 _ _ (oks v hv).h2) (λ_ _ _ z=>nomatch z)) (n8 (S7 _ _ (oks v hv).h3) (λ_ _ _ z=>nomatch z)),by lia,λc'' H9 S9=>?_⟩;have p9:=S9 _ _ p8;refine⟨c3,c'',rfl,rfl,dx,_,p9,fKl,?_⟩;rw[fKp6];dsimp only;lk
 have n7:∀{b:ai}{o:HO},H6 b=some o->(∀x y z,o≠.ins x y z)->(upd H9 p (.ins A.Keeper dx (fK n a.q w.1 c1 (c2+c') (c3+c'') (c4+c)))) b=some o:=λ{b o} e hno=>by rw[aF];exact S9 _ _ (n8 (S7 _ _ e) hno);rintro rfl;rw[p6]at e;cases e;exact hno _ _ _ rfl
 have g1':us.map row=(kB u (ts,R)).1:=by rw[← hg6]
 have g3':ts'=(kB u (ts,R)).2.1:=by rw[← hg6]
 have g4':R'=(kB u (ts,R)).2.2:=by rw[← hg6]
 subst g3' g4';refine k q us u as' _ hu eu (n7 gq (λ_ _ _ z=>nomatch z)) (λv hv=>(oks v hv).mv (λb xs e=>n7 e (λ_ _ _ z=>nomatch z)) (n7 (oks v hv).h2 (λ_ _ _ z=>nomatch z)) (n7 (oks v hv).h3 (λ_ _ _ z=>nomatch z))) hlu g1' ⟨⟨w,_,_,_,_,hw,aC⟩,(L8.same S9).inst p9 OV OV,V6,J6,h.tp⟩ ?_ ho6 ?_ ((F8.trans (Fm.of S9)).trans (Fm.upd aj))
 .have e:=congrArg cK hk6;rw[af,af]at e;rw[e];exact List.length_filter_lt_length_iff_exists.mpr ⟨u,hu,by simp⟩
 .refine ((P6.same S7).keep λb o _ _ h3 _ e=>S9 _ _ (n8 e h3)).keep λb o _ _ h3 _ e=>?_;rw[aF];exact e;rintro rfl;rw[p9]at e;cases e;exact h3 _ _ _ rfl
def lF(H:Hp)(u:Ti×ai):Prop:=H u.2=some (.tup [.int u.1.x,.int u.1.y,.int u.1.cj,.bl u.1.wd])
def Lc(t:Ti):List Int:=[(t.x:Int),(t.y:Int),(t.cj:Int),b2i t.wd]
def kX(u:Ti×ai):V:=.ref u.2
inductive oN(K:aa)(C:ai)(A:CA)(vs:List V)(H:Hp)(Q:VK)(E:XK):Prop
 |mk (p dx a:_) (n T:Nat) (ts as R:_):vs=[.ref p]->E7 K C A->KP C A H p dx a n T ts as R->ts.length<99->(∀(q:ai) (us:List (Ti×ai)) (o:jv) (H':Hp),H q=none->H' q=some (.lst (us.map kX))->(∀u∈us,lF H' u)->(us.map (·.1)).Perm ts->us.Pairwise (λu v=>fo (Lc v.1) (Lc u.1)=false)->H' a.d1=some (.frz o (.dT (kl ts)))->aV a.d1 H H'->Q (.ref q) H')->oN K C A vs H Q E
inductive b8(K:aa)(C:ai)(A:CA)(vs:List V)(H:Hp)(Q:VK)(E:XK):Prop
 |mk (p dx a:_) (n T:Nat) (ts as R:_):vs=[.ref p]->E7 K C A->KP C A H p dx a n T ts as R->ts.length<99->(∀(q:ai) (us:List (Ti×ai)) (H':Hp),H q=none->H' q=some (.lst (us.map kX))->(∀u∈us,lF H' u)->(us.map (·.1)).Perm ts->us.Pairwise (λu v=>fo (Lc v.1) (Lc u.1)=false)->bU H H'->Q (.ref q) H')->b8 K C A vs H Q E
theorem BI:∀vs H Q E,b8 K C A vs H Q E->oN K C A vs H (TM H Q) E:=by
 rintro vs H Q E ⟨p,dx,a,n,T,ts,as,R,rfl,ct,h,hl,k⟩;refine⟨p,dx,a,n,T,ts,as,R,rfl,ct,h,hl,λq us o H' hq gq fl pm so gd B=>.inr ⟨a.d1,o,kl ts,(λo' u' e=>by rw[h.lv.e1]at e;cases e),gd,?_⟩⟩;have hqd:q≠a.d1:=Ne.symm (aT h.lv.e1 hq);refine k q us _ hq (by rw[aF hqd];exact gq) (λu hu=>(aF (dO (fl u hu) gd)).trans (fl u hu)) pm so λb ob e=>?_
 by_cases hb:b=a.d1
 .subst hb;rw[aC,← h.lv.e1,e]
 .rw [aF hb];exact B _ _ e hb
theorem BJ:Rn (oN K C A) (wq K C A (dC K C A)) ["self"]:=by
 rintro vs H Q E ⟨p,dx,a,n,T,ts,as,R,rfl,ct,h,hl,k⟩;obtain⟨w,c1,c2,c3,c4,hw,hp⟩:=h.ob;have hnd:=h.iv.nd;unfold wq;lk;refine U3 ?_;refine mJ ?_;refine mJ ?_;lk;refine⟨p,A.Keeper,dx,_,_,rfl,hp,ct.kc,ct.k2,Xs,?_⟩;refine⟨a.q,A.bK,a.dq,_,_,rfl,h.lv.ob,ct.lc,ct.l1,OU,?_⟩;refine⟨a.d1,kl ts,rfl,.inl ⟨h.lv.e1,λo=>?_⟩⟩;have g1:(upd H a.d1 (.frz o (.dT (kl ts)))) a.d1=some (.frz o (.dT (kl ts))):=aC;have B1:aV a.d1 H (upd H a.d1 (.frz o (.dT (kl ts)))):=aV.upd;generalize upd H a.d1 (.frz o (.dT (kl ts)))=H1 at g1 B1;have p1:=B1 _ _ hp (dO hp h.lv.e1);have q1:=B1 _ _ h.lv.ob (dO h.lv.ob h.lv.e1);have w1:=B1 _ _ h.lv.e2 (Ne.symm h.lv.Ow);intro acc hacc;refine kM (n:=ts.length) (λt ys H4=>H4 acc=some (.lst ys)/\bU H1 H4/\∃us:List (Ti×ai),ys=us.map kX/\us.map (·.1)=ts.take t/\∀u∈us,lF H4 u) (λZ=>∃o,Z=[o,some (.ref p)]) ⟨aC,bU.cw hacc,[],rfl,rfl,λz hz=>nomatch hz⟩ ⟨_,rfl⟩ ?_ ?_ ?_ ?_
 .rintro t ys H4 ⟨e,_⟩;exact e
 .rintro ys H4 ⟨g4,S4,us,rfl,hu,fl⟩;refine⟨⟨by rw[qg];exact ay _,S4 _ _ g1⟩,?_⟩;rw[bu (ay _)]at hu
  have hul:us.length=ts.length:=by have:=congrArg cK hu;simpa using this
  lk;refine⟨acc,us.map (λu=>([(u.1.x:Int),(u.1.y:Int),(u.1.cj:Int),b2i u.1.wd],u.2)),[false,false,true],rfl,by rw[a7];exact c6.of g4,λz hz=>?_,by rw[af];lia,λl zs' hl4 hperm hso=>?_⟩
  .obtain ⟨u,hum,rfl⟩:=aI.mp hz;exact⟨_,fl u hum,.int _ (.int _ (.int _ (.bl _ .nil)))⟩
  obtain⟨us',hp',rfl⟩:=Sy.perm_map hperm.symm us rfl
  have hlf:H l=none:=by
   cases z:H l with
   |none=>rfl
   |some ob=>
    by_cases hb:l=a.d1
    .rw [hb,S4 _ _ g1]at hl4;cases hl4
    .rw [S4 _ _ (B1 _ _ z hb)]at hl4;cases hl4
  have U:∀{b:ai}{u:HO}{xs:List V},H4 b=some u->(upd H4 l (.lst xs)) b=some u:=λe=>by rw[aF (aT e hl4)];exact e
  refine k l us' o _ hlf (by rw[aC,a7];rfl) (λu hum=>U (fl u (hp'.mem_iff.mp hum))) (by rw[← hu];exact hp'.map _) (bY.mp hso) (U (S4 _ _ g1)) λb ob e hb=>U (S4 _ _ (B1 _ _ e hb))
 .rintro t ys H4 ht ⟨_,S4,_⟩;exact⟨by rw[qg];exact ht,S4 _ _ g1⟩
 .rintro t ys σ' H4 x H5 ht ⟨g4,S4,us,rfl,hu,fl⟩ ⟨o',rfl⟩ ⟨eH,key,v,b,hk,ex,hb⟩;subst eH ex
  obtain⟨u,hu',eu⟩:∃u,ts[t]?=some u/\(pk u.x u.y,V.int u.cj)=(key,v):=by have hk:(ts.map λt=>(pk t.x t.y,V.int t.cj))[t]?=some (key,v):=hk;rw[aG]at hk;exact dz.mp hk
  cases eu;have hum:=aP hu';lk;refine lz ?_;refine xN ?_;refine mJ ?_;lk;refine⟨p,A.Keeper,dx,_,_,rfl,S4 _ _ p1,ct.kc,ct.k2,Xs,?_⟩;refine⟨a.q,a.dq,_,rfl,S4 _ _ q1,Vz,?_⟩;lk;refine⟨a.q,a.dq,a.d1,a.d2,a.d3,a.L,b,kl ts,kw ts,u.x,u.y,_,_,rfl,ct,S4 _ _ q1,.inr ⟨o,S4 _ _ g1⟩,.inl (S4 _ _ w1),hb,iO (f:=λt=>V.int t.cj) hnd hum,iO (f:=λt=>V.bl t.wd) hnd hum,λr hr=>?_⟩;generalize eu_:upd _ r _=H6;obtain⟨T,gr⟩:=ig eu_ hr
  have hul:us.length=t:=by have:=congrArg cK hu;rw[af,bG]at this;lia
  refine⟨T _ _ g4,cZ (m:=100) (by rw[af];lia),jH.mk' ht ⟨_,rfl⟩ ⟨aC,λb' ob e=>by rw[aF (aT e hacc)];exact T _ _ (S4 _ _ e),us++[(u,r)],by simp[kX],?_,λz hz'=>?_⟩⟩
  .rw [aH,hu,cH,hu'];rfl
  .have tn:∀{z:Ti×ai},lF H6 z->lF (upd H6 acc (.lst (us.map kX++[.ref r]))) z:=λ{z} e=>(aF (dO e (T _ _ g4))).trans e
   rcases aL.mp hz' with hz'|hz'
   .exact tn (T _ _ (fl z hz'))
   .rw [ax.mp hz'];exact tn gr
inductive bH(K:aa)(C:ai)(vs:List V)(H:Hp)(Q:VK)(E:XK):Prop
 |mk (a:_) (ns:List Int) (k:Nat):vs=[.ref a,.int k]->c6 K H a (ns.map V.int)->(∀z:Int,Q (.int z) H)->bH K C vs H Q E
theorem x5:Rn (bH K C) (qr K C) MZ:=by
 rintro vs H Q E ⟨a,ns,k,rfl,hS,q⟩;unfold qr;lk;refine AV hS ?_;lk;refine mP (λh=>?_) λh=>?_
 .lk
  have hk:k<ns.length:=by lia
  refine MI hS rfl (aB hk) ?_;exact q _
 .lk;exact q _
theorem em(hn:0<n)(x:Int):∃j:Nat,x%(n:Int)=(j:Int)/\j<n:=by have h1:=Int.emod_nonneg x (show(n:Int)≠0 by lia);have h2:=Int.emod_lt_of_pos x (show(0:Int)<n by lia);exact⟨(x%(n:Int)).toNat,by lia,by lia⟩
theorem BK{t u:TS}{D:vA}{Z:L2.St}(P:L2.St->Hp->Prop)(rest:∀σ' H',P σ' H'->u D σ' H')(h:(∀σ' H',P σ' H'->u D σ' H')->t { D with nx:=u D } Z H):bP t u D Z H:=h rest
structure Nb(H0 H:Hp)(nd:ai)(N:Int->List Int)(kvs:List (dJ×V))(m:Nat):Prop where
 o:H nd=some (.dK kvs)
 f:H0 nd=none
 s:∀b,H b=none->H0 b=none
 v:∀k,(∃g,eD kvs (a9 k:dJ)=some (.ref g)/\H0 g=none/\H g=some (.lst ((N k).map V.int)))\/(eD kvs (a9 k:dJ)=none/\N k=[])
 i:∀k k' g,eD kvs (a9 k:dJ)=some (.ref g)->eD kvs (a9 k':dJ)=some (.ref g)->k=k'
 l:kvs.length<=m
 ll:∀k,(N k).length<=m
def Rh(N:Int->List Int)(x y:Int):Int->List Int:=λk=>if k=x then N x++[y]else N k
theorem Nb.add{H0:Hp}{nd:ai}{N:Int->List Int}{kvs:List (dJ×V)}{m:Nat}(B:Nb H0 H nd N kvs m)(hm:m<=900){K:aa}{D:vA}{Z:L2.St}{i j:Nat}{x y:Int}(h2:Z[2]?=some (some (.ref nd)))(hi:Z[i]?=some (some (.int x)))(hj:Z[j]?=some (some (.int y)))(k:∀H' kvs',Nb H0 H' nd (Rh N x y) kvs' (m+1)->(∀z,((eD kvs (a9 z:dJ)).isSome=true\/z=x)->(eD kvs' (a9 z:dJ)).isSome=true)->(∀b o,H0 b≠none->H b=some o->H' b=some o)->D.nx Z H'):gU (AN K "list" kJ (AN K "dict" vL (aq 2) (au (aq i) (au (sV a8) a8))) (au (aq j) a8)) D Z H:=by
 refine PN (WS (WS (kx h2 ⟨.inr (.inr (.inl ⟨rfl,.inl ⟨_,B.o⟩⟩)),AS (kx hi (AS (PP (ED ?_))))⟩)));refine⟨nW,λnl hnl=>?_⟩;have S1:=bU.cw (o:=.lst []) hnl;have g1:(upd H nl (.lst [])) nl=some (.lst []):=aC
 have fr1:∀b,(upd H nl (.lst [])) b=none->H b=none:=λb e=>by
  by_cases c:b=nl
  .rw [c,g1]at e;cases e
  .rwa [aF c]at e
 generalize upd H nl (.lst [])=H1 at S1 g1 fr1;have o1:=S1 _ _ B.o;have n0:H0 nl=none:=B.s _ hnl
 have nnd:nl≠nd:=λz=>by rw[z,B.o]at hnl;cases hnl
 refine ED (Qa o1 (cZ (m:=1000) (by have:=B.l;lia)) ?_)
 have fin:∀(H2:Hp) (g:ai) (kvs':List (dJ×V)) ,H2 nd=some (.dK kvs')->H2 g=some (.lst ((N x).map V.int))->H0 g=none->(∀b o,b≠nd->H1 b=some o->H2 b=some o)->(∀b,H2 b=none->H1 b=none)->eD kvs' (a9 x:dJ)=some (.ref g)->(∀z,z≠x->eD kvs' (a9 z:dJ)=eD kvs (a9 z:dJ))->kvs'.length<=kvs.length+1->(∀z,z≠x->eD kvs (a9 z:dJ)≠some (.ref g)) ->D.nx Z (upd H2 g (.lst ((N x).map V.int++[V.int y]))):=by
  intro H2 g kvs' o2 g2 gn B2 F2 hx hz hl hg
  have gnd:g≠nd:=λz=>by rw[z,o2]at g2;cases g2
  refine k _ kvs' ⟨by rw[aF (Ne.symm gnd)];exact o2,B.f,λb e=>?_,λz=>?_,λz z' g' e1 e2=>?_,by have:=B.l;lia,λz=>?_⟩ (λz hz'=>?_) λb o h0 e=>?_
  .by_cases c:b=g
   .rw [c,aC]at e;cases e
   .rw [aF c]at e;exact B.s _ (fr1 _ (F2 _ e))
  .by_cases c:z=x
   .subst c;exact .inl ⟨g,hx,gn,by rw[aC];unfold Rh;rw[if_pos rfl,aH];rfl⟩
   .unfold Rh;rw[if_neg c,hz z c]
    rcases B.v z with⟨g',q1,q2,q3⟩|q
    .refine .inl ⟨g',q1,q2,?_⟩;rw[aF (λe=>hg z c (by rw[q1,e])),B2 _ _ (λe=>by rw[e,B.o]at q3;cases q3) (S1 _ _ q3)]
    .exact .inr q
  .by_cases c:z=x<;>by_cases c':z'=x
   .rw [c,c']
   .subst c;rw[hx]at e1;cases e1;rw[hz z' c']at e2;exact absurd e2 (hg z' c')
   .subst c';rw[hx]at e2;cases e2;rw[hz z c]at e1;exact absurd e1 (hg z c)
   .rw [hz z c]at e1;rw[hz z' c']at e2;exact B.i z z' g' e1 e2
  .unfold Rh;have:=B.ll z;have:=B.ll x
   split
   .rw [bj];simp;lia
   .lia
  .by_cases c:z=x
   .subst c;rw[hx];rfl
   .rw [hz z c];exact hz'.resolve_right c
  .rw [aF (λz:b=g=>h0 (by rw[z];exact gn)),B2 _ _ (λz:b=nd=>h0 (by rw[z];exact B.f)) (S1 _ _ e)]
 rcases B.v x with⟨g,q1,q2,q3⟩|⟨q1,q2⟩
 .refine .inl ⟨.ref g,q1,⟨.inl ⟨rfl,_,c6.of (S1 _ _ q3)⟩,AS (kx hj (ED ?_))⟩⟩;refine mh (S1 _ _ q3) (cZ (m:=1000) (by rw[af];have:=B.ll x;lia)) ?_;exact fin H1 g kvs o1 (S1 _ _ q3) q2 (λ_ _ _ e=>e) (λ_ e=>e) q1 (λ_ _=>rfl) (gN _) (λz hz e=>hz (B.i z x g e q1))
 .refine .inr ⟨q1,?_⟩
  have gl:(upd H1 nd (.dK (i7 kvs (a9 x) (.ref nl)))) nl=some (.lst ((N x).map V.int)):=by rw[aF nnd,q2];exact g1
  refine⟨.inl ⟨rfl,_,c6.of gl⟩,AS (kx hj (ED ?_))⟩;refine mh gl (cZ (m:=1000) (by rw[q2];show 0<1000;decide)) ?_;refine fin _ nl _ aC gl n0 (λb o hb e=>by rw[aF hb];exact e) (λb e=>?_) (by rw[AO,if_pos rfl]) (λz hz=>by rw[AO,if_neg (by simpa using hz)]) (kr _ _ _) (λz hz e=>?_)
  .by_cases c:b=nd
   .rw [c,aC]at e;cases e
   .rwa [aF c]at e
  .rcases B.v z with⟨g',p1,p2,p3⟩|⟨p1,_⟩
   .rw [p1]at e;cases e;rw[p3]at hnl;cases hnl
   .rw [p1]at e;cases e
theorem Gp{M M':List Int}{j:Nat}{c:Int}(h:M <+: M')(e:M[j]?=some c):M'[j]?=some c:=by obtain⟨t,rfl⟩:=h;rw[eI (av.mp e).1];exact e
structure Ms(Ra:List Int)(n:Nat)(M:List Int):Prop where
 nd:M.Nodup
 sub:∀x∈M,x∈Ra
 G8:∀x∈Ra,∃j:Nat,j<n/\x=(j:Int)
theorem Ms.len{Ra M:List Int}(h:Ms Ra n M):M.length<=n:=by
 have:=Iu (ks:=M) (ds:=(fh n).map λi:Nat=>(i:Int)) h.nd λx hx=>by obtain⟨j,hj,rfl⟩:=h.G8 x (h.sub x hx);exact aI.mpr ⟨j,i5.mpr hj,rfl⟩
 simpa using this
structure Kw(n:Nat)(R:Nat->List Int)(ps:List (Int×Int)):Prop where
 w:Wd n R
 j:∀p∈ps,∃i j:Nat,i<n/\j<n/\p=((i:Int),(j:Int))/\(j:Int)∈R i
 e:∀u v,Ed n R u v->(u,v)∈ps\/(v,u)∈ps
theorem Kw.cl{R:Nat->List Int}{ps:List (Int×Int)}(h:Kw n R ps){a:Nat}(ha:a<n){u v:Int}(hu:u∈R a)(hp:(u,v)∈ps\/(v,u)∈ps):v∈R a:=by
 rcases hp with hp|hp
 .obtain ⟨i,j,hi,hj,e,hm⟩:=h.j _ hp;obtain⟨rfl,rfl⟩:=cp e;rw[h.w.same ha hi hu (h.w.me i hi)];exact hm
 .obtain ⟨i,j,hi,hj,e,hm⟩:=h.j _ hp;obtain⟨rfl,rfl⟩:=cp e;rw[h.w.same ha hi hu hm];exact h.w.me i hi
def nbs(ps:List (Int×Int))(N:Int->List Int):Prop:=∀k z,z∈N k↔(k,z)∈ps\/(z,k)∈ps
def pr(z:Zn):Int×Int:=(z.1.getD 0 0,z.1.getD 1 0)
def Xt(H:Hp)(z:Zn):Prop:=z.1=pl (pr z)/\H z.2=some (.tup [.int (pr z).1,.int (pr z).2])
inductive eQ(K:aa)(C:ai)(vs:List V)(H:Hp)(Q:VK)(E:XK):Prop
 |mk (d:_) (a n:Nat) (R:_) (zs:List Zn):vs=[.ref d,.int a]->H d=some (.lst (zs.map mG))->(∀z∈zs,Xt H z)->Kw n R (zs.map pr)->a<n->n<=200->zs.length<=100->(R a).length<=250->(∀(l:ai) H',H l=none->H' l=some (.lst ((CW (R a)).map V.int))->bU H H'->(R a).length+1=2*(CW (R a)).length->(∀z,z∈CW (R a)↔z∈R a)->Q (.ref l) H')->eQ K C vs H Q E
theorem x6:Rn (eQ K C) (qt K C) Zs:=by
 rintro vs H Q E ⟨d,a,n,R,zs,rfl,hd,hz,kw,ha,hn,hl,hlR,k⟩;unfold qt;lk;intro nd hnd;refine kx rfl (PP (ED ⟨nW,λnl hnl=>?_⟩))
 have nnl:nl≠nd:=λz=>by rw[z,aC]at hnl;cases hnl
 have hnl0:H nl=none:=by rwa [aF nnl]at hnl
 refine⟨by rw[aF (Ne.symm nnl),aC],[(a9 (a:Int),.ref nl)],rfl,by simp,?_⟩;have em1:uJ [] [((a9 (a:Int):dJ),V.ref nl)]=[((a9 (a:Int):dJ),V.ref nl)]:=rfl;rw[em1]
 have S1:bU H (upd (upd (upd H nd (.dK [])) nl (.lst [])) nd (.dK [((a9 (a:Int):dJ),V.ref nl)])):=λb o e=>by rw[aF (aT e hnd),aF (aT e hnl0),aF (aT e hnd)];exact e
 have va:∀z:Int,eD [((a9 (a:Int):dJ),V.ref nl)] (a9 z:dJ)=if z=a then some (.ref nl)else none:=λz=>by
  unfold eD
  by_cases c:z=a
  .subst c;simp
  .rw [if_neg c];simp[Ne.symm c]
 have B1:Nb H (upd (upd (upd H nd (.dK [])) nl (.lst [])) nd (.dK [((a9 (a:Int):dJ),V.ref nl)])) nd (λ_=>[]) [((a9 (a:Int):dJ),V.ref nl)] 1:=by
  refine⟨aC,hnd,λb e=>?_,λz=>?_,λz z' g e1 e2=>?_,by simp,λ_=>by simp⟩
  .cases q:H b with
   |none=>rfl
   |some o=>rw[S1 _ _ q]at e;cases e
  .rw [va]
   by_cases c:z=a
   .rw [if_pos c];exact .inl ⟨nl,rfl,hnl0,by rw[aF nnl,aC];rfl⟩
   .rw [if_neg c];exact .inr ⟨rfl,rfl⟩
  .rw [va]at e1 e2
   split at e1<;>split at e2
   .rename_i c1 c2;rw[c1,c2]
   .cases e2
   .cases e1
   .cases e1
 have ea1:(eD [((a9 (a:Int):dJ),V.ref nl)] (a9 (a:Int):dJ)).isSome=true:=by rw[va,if_pos rfl];rfl
 generalize upd (upd (upd H nd (.dK [])) nl (.lst [])) nd (.dK [((a9 (a:Int):dJ),V.ref nl)])=H1 at S1 B1;generalize [((a9 (a:Int):dJ),V.ref nl)]=kvs1 at B1 ea1;have d1:=S1 _ _ hd;k_ne;k_ne;unfold oo
 refine PX (PU (kx rfl ⟨d,rfl,.inl ⟨⟨_,c6.of d1⟩,i6 (K:=K) (a:=d) (xs:=zs.map mG) (λi Z H3=>∃N kvs o3 o4,Z=[some (.ref d),some (.int a),some (.ref nd),o3,o4,none,none,none]/\Nb H H3 nd N kvs (1+2*i)/\nbs ((zs.map pr).take i) N/\(eD kvs (a9 (a:Int):dJ)).isSome=true/\bU H H3)
  ⟨_,kvs1,_,_,rfl,B1,λk z=>by simp,ea1,S1⟩ ?_ ?_ ?_⟩⟩))
 .rintro i Z H3 _ ⟨N,kvs,o3,o4,_,_,_,_,S3⟩;exact c6.of (S3 _ _ hd)
 .rintro i v Z H3 hi ⟨N,kvs,o3,o4,rfl,B3,hN,ea,F3⟩;obtain⟨z0,hzi,rfl⟩:=gm hi;have hb:=F3 _ _ (hz z0 (aP hzi)).2
  have hpi:(zs.map pr)[i]?=some (pr z0):=by rw[aG,hzi];rfl
  generalize pr z0=p at hb hpi;have hil:i<zs.length:=(av.mp hzi).1;refine qS (.of hb) rfl (FH (Aj (FH (Aj (PY (PL ?_))))));refine B3.add (i:=3) (j:=4) (by lia) rfl rfl rfl λH4 kvs4 B4 e4 F4=>?_;refine B4.add (i:=4) (j:=3) (by lia) rfl rfl rfl λH5 kvs5 B5 e5 F5=>?_;refine⟨_,kvs5,_,_,rfl,B5,λk z=>?_,e5 _ (.inl (e4 _ (.inl ea))),λb' o' e=>?_⟩
  .rw [cH,hpi];have h1:=hN k z;have h2:=hN p.1 z;have h3:=hN p.2 z;obtain⟨p1,p2⟩:=p;simp only[Option.toList,aL,ax,vw]at h1 h2 h3 ⊢;unfold Rh
   by_cases c1:k=p2<;>by_cases c2:k=p1<;>by_cases c3:p2=p1<;>simp_all<;>grind
  .have h0:H b'≠none:=by rw[e];intro z;cases z
   exact F5 _ _ h0 (F4 _ _ h0 (F3 _ _ e))
 rintro Z H3 ⟨N,kvs,o3,o4,rfl,B3,hN,ea,F3⟩;rw[af]at B3 hN;rw[bu (by rw[af];exact ay _)]at hN;lk;intro sd hsd;refine kx rfl (x_c ?_);refine⟨aC,[(a9 (a:Int),.bl true)],rfl,by simp,?_⟩;have em2:uJ [] [((a9 (a:Int):dJ),V.bl true)]=[((a9 (a:Int):dJ),V.bl true)]:=rfl;rw[em2]
 have S4:bU H3 (upd (upd H3 sd (.dK [])) sd (.dK [((a9 (a:Int):dJ),V.bl true)])):=λb o e=>by rw[aF (aT e hsd),aF (aT e hsd)];exact e
 have sv:∀z:Int,(eD [((a9 (a:Int):dJ),V.bl true)] (a9 z:dJ)).isSome=true↔z∈[(a:Int)]:=λz=>by
  unfold eD
  by_cases c:z=a
  .subst c;simp
  .simp [c,Ne.symm c]
 have s4:(upd (upd H3 sd (.dK [])) sd (.dK [((a9 (a:Int):dJ),V.bl true)])) sd=some (.dK [((a9 (a:Int):dJ),V.bl true)]):=aC;generalize upd (upd H3 sd (.dK [])) sd (.dK [((a9 (a:Int):dJ),V.bl true)])=H4 at S4 s4
 have sl:([((a9 (a:Int):dJ),V.bl true)]).length<=1:=by simp
 generalize [((a9 (a:Int):dJ),V.bl true)]=svs at sv s4 sl;lk;refine⟨nW,λrw hrw=>?_⟩;have S5:=bU.cw (o:=.lst [.int (a:Int)]) hrw;have r5:(upd H4 rw (.lst [.int (a:Int)])) rw=some (.lst ([(a:Int)].map V.int)):=aC;generalize upd H4 rw (.lst [.int (a:Int)])=H5 at S5 r5;have nsr:sd≠rw:=aT s4 hrw;have S35:bU H3 H5:=S4.trans S5;have s5:=S5 _ _ s4
 have inn:∀x∈R a,∃j:Nat,j<n/\x=(j:Int):=λx hx=>let ⟨j,hj,e,_⟩:=kw.w.G8 a ha x hx;⟨j,hj,e⟩
 lk;unfold ou
 refine qR (λZ H6=>∃(j:Nat) (M:List Int) (svs:List (dJ×V)) (o3 o4:Option V),Z=[some (.ref d),some (.int a),some (.ref nd),o3,o4,some (.ref sd),some (.ref rw),some (.int (j:Int))]/\j<=M.length/\Ms (R a) n M/\(∀c∈M,c=(a:Int)\/N c≠[])/\(a:Int)∈M/\(∀i c,i<j->M[i]?=some c->∀y∈N c,y∈M)/\H6 rw=some (.lst (M.map V.int))/\H6 sd=some (.dK svs)/\svs.length<=M.length/\(∀z:Int,(eD svs (a9 z:dJ)).isSome=true↔z∈M) /\∀b u,b≠rw->b≠sd->H5 b=some u->H6 b=some u) (λZ _=>match Z with|[_,_,_,_,_,_,_,some (.int j)]=>(n+1:Int).toNat-j.toNat|_=>0)
  ⟨0,[(a:Int)],svs,_,_,rfl,aK _,⟨by simp,λx hx=>by rw[ax.mp hx];exact kw.w.me a ha,inn⟩,λc hc=>.inl (ax.mp hc),by simp,λi c hi=>absurd hi (by lia),r5,s5,sl,sv,λb u _ _ e=>e⟩ ?_
 rintro Z H6 ⟨j,M,svs,o3,o4,rfl,hj,ms,mN,haM,done,r6,s6,sl6,sv6,F6⟩;have hlen:=ms.len;lk;refine AV (c6.of r6) ?_;lk;refine mP (λh=>⟨_,ME,?_⟩) λh=>?_
 .have hjl:j<M.length:=by lia
  obtain⟨c,hc⟩:∃c,M[j]?=some c:=⟨_,aB hjl⟩
  have hcm:=aP hc;have hcR:=ms.sub c hcm;have cN:∀y∈N c,y∈R a:=λy hy=>kw.cl ha hcR ((hN c y).mp hy)
  -- its neighbours' list
  obtain⟨g,gv,gg⟩:∃g,eD kvs (a9 c:dJ)=some (.ref g)/\H3 g=some (.lst ((N c).map V.int)):=by
   rcases B3.v c with⟨g,q1,_,q3⟩|⟨q1,q2⟩
   .exact ⟨g,q1,q3⟩
   .rcases mN c hcm with e|e
    .rw [e]at q1;rw[q1]at ea;cases ea
    .exact absurd q2 e
  have g5:=S35 _ _ gg
  have ngr:g≠rw:=λz=>by rw[z,S4.free hrw]at gg;cases gg
  have ngs:g≠sd:=λz=>by rw[z,hsd]at gg;cases gg
  have nd5:=S35 _ _ B3.o
  have nnr:nd≠rw:=λz=>by have:=B3.o;rw[z,S4.free hrw]at this;cases this
  have nns:nd≠sd:=λz=>by have:=B3.o;rw[z,hsd]at this;cases this
  refine PL ?_;unfold oq;refine PX ?_;k_ne;k_ne;k_ne;k_ne;k_ne;k_ne;refine MI (c6.of r6) (j:=j) rfl hc ?_;refine Y0 (.inl (F6 _ _ nnr nns nd5)) gv ?_
  refine⟨g,rfl,.inl ⟨⟨_,c6.of (F6 _ _ ngr ngs g5)⟩,i6 (K:=K) (a:=g) (xs:=(N c).map V.int) (λi Z H7=>∃(M':List Int) (svs:List (dJ×V)) (o4:Option V),Z=[some (.ref d),some (.int a),some (.ref nd),o3,o4,some (.ref sd),some (.ref rw),some (.int (j:Int))]/\M <+: M'/\Ms (R a) n M'/\(∀c∈M',c=(a:Int)\/N c≠[])/\(∀y∈(N c).take i,y∈M')/\H7 rw=some (.lst (M'.map V.int))/\H7 sd=some (.dK svs)/\svs.length<=M'.length/\(∀z:Int,(eD svs (a9 z:dJ)).isSome=true↔z∈M') /\∀b u,b≠rw->b≠sd->H5 b=some u->H7 b=some u) ⟨M,svs,_,rfl,List.prefix_refl _,ms,mN,(λy hy=>by simp at hy),r6,s6,sl6,sv6,F6⟩ ?_ ?_ ?_⟩⟩
  .rintro i Z H7 _ ⟨M',svs,o4,_,_,_,_,_,_,_,_,_,F7⟩;exact c6.of (F7 _ _ ngr ngs g5)
  .rintro i v Z H7 hi ⟨M',svs,o4,rfl,pre,ms7,mN7,dn7,r7,s7,sl7,sv7,F7⟩;obtain⟨y,hyi,rfl⟩:=gm hi;have hyN:=aP hyi
   have etk:∀z∈(N c).take (i+1),z∈(N c).take i\/z=y:=λz hz=>by
    rw[cH,hyi]at hz
    simpa using hz
   have hl7:=ms7.len;lk;refine Qb s7 ?_;lk
   by_cases hy:y∈M'
   .rw [(sv7 y).mpr hy];refine kg ⟨M',svs,_,rfl,pre,ms7,mN7,λz hz=>(etk z hz).elim (dn7 z) λe=>e▸hy,r7,s7,sl7,sv7,F7⟩
   .have e0:(eD svs (a9 y:dJ)).isSome=false:=by
     cases q:(eD svs (a9 y:dJ)).isSome with
     |false=>rfl
     |true=>exact absurd ((sv7 y).mp q) hy
    rw[e0];refine lz ?_;lk;refine W8 s7 (cZ (m:=1000) (by lia)) ?_;have s8:(upd H7 sd (.dK (i7 svs (a9 y) (.bl true)))) sd=_:=aC;have r8:(upd H7 sd (.dK (i7 svs (a9 y) (.bl true)))) rw=some (.lst (M'.map V.int)):=(aF (Ne.symm nsr)).trans r7
    have F8:∀b u,b≠rw->b≠sd->H5 b=some u->(upd H7 sd (.dK (i7 svs (a9 y) (.bl true)))) b=some u:=λb u h1 h2 e=>by rw[aF h2];exact F7 b u h1 h2 e
    generalize upd H7 sd (.dK (i7 svs (a9 y) (.bl true)))=H8 at s8 r8 F8;lk;refine⟨.inl ⟨rfl,_,c6.of r8⟩,?_⟩;lk;refine mh r8 (cZ (m:=1000) (by rw[af];lia)) ?_;refine⟨M'++[y],i7 svs (a9 y) (.bl true),_,rfl,pre.trans (List.prefix_append _ _),⟨?_,λx hx=>?_,inn⟩,λx hx=>?_,λz hz=>?_,by rw[aC,aH];rfl,by rw[aF nsr];exact s8,?_,λz=>?_,λb u h1 h2 e=>by rw[aF h1];exact F8 b u h1 h2 e⟩
    .rw [du];exact⟨ms7.nd,by simp,λx hx z hz e=>hy (by rw[ax.mp hz]at e;exact e▸hx)⟩
    .rcases aL.mp hx with hx|hx
     .exact ms7.sub x hx
     .rw [ax.mp hx];exact cN y hyN
    .rcases aL.mp hx with hx|hx
     .exact mN7 x hx
     .rw [ax.mp hx];refine .inr λe=>?_;have:c∈N y:=(hN y c).mpr (((hN c y).mp hyN).symm);rw[e]at this;cases this
    .exact aL.mpr ((etk z hz).imp (dn7 z) λe=>by simp[e])
    .have:=kr svs (a9 y:dJ) (.bl true);rw[bj];simp;lia
    .rw [AO]
     by_cases c1:z=y
     .subst c1;simp
     .rw [if_neg (by simpa using c1),sv7,aL,ax];simp[c1]
  .rintro Z H7 ⟨M',svs,o4,rfl,pre,ms7,mN7,dn7,r7,s7,sl7,sv7,F7⟩;rw[af,bu (ay _)]at dn7;lk;refine⟨⟨j+1,M',svs,_,_,rfl,(av.mp (Gp pre hc)).1,ms7,mN7,pre.subset haM,λi c' hi hc1 y hy=>?_,r7,s7,sl7,sv7,F7⟩,?_⟩
   .by_cases hij:i=j
    .subst hij;rw[Gp pre hc]at hc1;cases hc1;exact dn7 y hy
    .obtain ⟨c2,hc2⟩:∃c2,M[i]?=some c2:=⟨_,aB (by lia)⟩
     rw[Gp pre hc2]at hc1;cases hc1;exact pre.subset (done i _ (by lia) hc2 y hy)
   .show (n+1:Int).toNat-((j:Int)+1).toNat<(n+1:Int).toNat-(j:Int).toNat
    lia
 .have hjl:j=M.length:=by lia
  have hM:∀x,x∈M↔x∈R a:=λx=>⟨ms.sub x,λhx=>by
   refine QX (M:=λx=>x∈M) (l:=R a) (λu v huv=>?_) ⟨_,kw.w.me a ha,haM⟩ x hx
   have cl:∀{u v:Int},u∈M->(u,v)∈al (R a)->v∈M:=λ{u v} hu huv=>by obtain⟨i,hi⟩:=bE.mp hu;exact done i u (by rw[hjl];exact(av.mp hi).1) hi v ((hN u v).mpr (kw.e u v ⟨a,ha,huv⟩))
   exact⟨λhu=>cl hu huv,λhv=>cl hv ((kw.w.r a ha).sym _ _ huv)⟩⟩
  lk
  have hml:(R a).length+1=2*M.length:=by obtain⟨ds,d1,d2,d3⟩:=(kw.w.r a ha).cnt;have:=qX ms.nd λx hx=>(d2 x).mpr (ms.sub x hx);have:=qX d1 λx hx=>(hM x).mpr ((d2 x).mp hx);lia
  refine⟨rw,M,rfl,c6.of r6,by lia,λs ls hs hperm hsort=>?_⟩
  have hr0:∀{b:ai}{u:HO},H b=some u->b≠rw/\b≠sd:=λ{b u} e=>by have:=F3 _ _ e;exact⟨λz=>(by rw[z,S4.free hrw]at this;cases this),λz=>(by rw[z,hsd]at this;cases this)⟩
  have F06:bU H H6:=λb u e=>F6 _ _ (hr0 e).1 (hr0 e).2 (S35 _ _ (F3 _ _ e))
  have e:ls=CW (R a):=QY ((Hy hsort (hperm.nodup_iff.mpr ms.nd)).imp λ{x y} h=>by
   have h1:=h.1;have h2:x≠y:=h.2
   lia) λx=>by rw[hperm.mem_iff];exact hM x
  have e1:=hperm.length_eq
  have e2:∀z,z∈ls↔z∈R a:=λz=>by rw[hperm.mem_iff];exact hM z
  rw[e]at e1 e2 ⊢;exact k s _ (F06.free hs) aC (F06.trans (bU.cw hs)) (by lia) e2
def Ld(t:Ti):PyData:=.tuple [.int t.x,.int t.y,.int t.cj,.bool t.wd]
theorem Gq:∀{us:List (Ti×ai)},(∀u∈us,lF H u)->dY K H ((us.map (·.1)).map Ld) (us.map kX)
 | [],_=>.nil
 |u::us,h=>.cons (.tup (.of (h u aj)) (.cons (.int _) (.cons (.int _) (.cons (.int _) (.cons (by simp only[Rep]) .nil))))) (Gq λy hy=>h y (ag _ hy))
theorem E8:∀L:List Ti,cm (L.map Ld)=true
 | []=>rfl
 |t::ts=>by simp only[aZ,cm,gp];exact⟨by simp[Ld,ic,cm],E8 ts⟩
theorem E9:∀L:List Ti,cu (L.map Ld)<=2
 | []=>by simp[cu]
 |t::ts=>by
  have:=E9 ts;simp only[aZ,cu]
  have e:(Ld t).depth<=2:=by simp[Ld,gA,cu]
  lia
theorem BL(L:List Ti):uM (.list (L.map Ld)):=⟨by simp[ic,E8],by have:=E9 L;simp only[gA];lia⟩
def Gr(d:Ti×ai):List dJ×V:=(pk d.1.x d.1.y,.ref d.2)
structure qz(H:Hp)(s:ai)(ds:List (Ti×ai)):Prop where
 o:H s=some (.dT (ds.map Gr))
 e:∀d∈ds,H d.2=some (.tup [.int d.1.cj,.bl d.1.wd])
 nd:((ds.map (·.1)).map Ti.key).Nodup
 l:ds.length<99
theorem BM:∀{ds:List (Ti×ai)}{d:Ti×ai},((ds.map (·.1)).map Ti.key).Nodup->d∈ds->eD (ds.map Gr) (pk d.1.x d.1.y)=some (.ref d.2)
 | [],_,_,h=>nomatch h
 |s::ds,d,hn,ht=>by
  rw[aZ,aZ,bq]at hn
  by_cases e:pk s.1.x s.1.y=pk d.1.x d.1.y
  .have:s=d:=by
    rcases aw.mp ht with q|q
    .exact q.symm
    .have e':d.1.key=s.1.key:=(nO.mp e).symm;exact absurd (e'▸aN (aN q)) hn.1
   subst this;exact iu (p:=Gr s) rfl
  .exact (gM (p:=Gr s) e).trans (BM hn.2 ((aw.mp ht).resolve_left λq=>e (q▸rfl)))
theorem Gs{x y:Nat}:∀{ds:List (Ti×ai)},((x:Int),(y:Int))∉(ds.map (·.1)).map Ti.key->eD (ds.map Gr) (pk x y)=none
 | [],_=>rfl
 |s::ds,h=>by rw[aZ,aZ,aw]at h;exact(gM (p:=Gr s) λe=>h (.inl (nO.mp e).symm)).trans (Gs λq=>h (.inr q))
def Le(ds:List (Ti×ai))(k:Int×Int)(f:Ti->Ti)(c:ai):List (Ti×ai):=ds.map λd=>if d.1.key=k then(f d.1,c)else d
def Ri(H:Hp)(e:Ti×ai):Prop:=H e.2=some (.tup [.int e.1.x,.int e.1.y])
def kI(t:Ti):List Int:=[(t.x:Int),(t.y:Int)]
abbrev Ord(es:List (Ti×ai)):Prop:=es.Pairwise λu v=>fo (kI v.1) (kI u.1)=false
theorem VB:∀{ts:List Ti}{zs:List Zn},zs.map (·.1)=ts.map kI->∃es:List (Ti×ai),es.map (·.1)=ts/\zs=es.map λe=>(kI e.1,e.2)
 | [],[],_=>⟨[],rfl,rfl⟩
 | [],z::zs,h=>nomatch h
 |t::ts,[],h=>nomatch h
 |t::ts,z::zs,h=>by obtain⟨h1,h2⟩:=iF h;obtain⟨es,e1,e2⟩:=VB h2;refine⟨(t,z.2)::es,by rw[aZ,e1],?_⟩;rw[aZ,← e2,← h1]
section
variable{s b c:ai}{ds es:List (Ti×ai)}{d:Ti×ai}{f:Ti->Ti}{k:Int×Int}
theorem qz.same(h:qz H s ds)(S:bU H H'):qz H' s ds:=⟨S _ _ h.o,λd hd=>S _ _ (h.e d hd),h.nd,h.l⟩
theorem Gu:(Le ds k f c).map (·.1)=eK (ds.map (·.1)) k f:=by
 unfold Le eK;rw[a7,a7];refine fH λd _=>?_
 show(if d.1.key=k then(f d.1,c)else d).1=if d.1.key=k then f d.1 else d.1
 split<;>rfl
theorem qz.inj(h:qz H s ds){d d':Ti×ai}(hd:d∈ds)(hd':d'∈ds)(e:d.1.key=d'.1.key):d.1=d'.1:=jR h.nd (aN hd) (aN hd') e
theorem qz.put(h:qz H s ds)(hd:d∈ds)(hf:∀t,(f t).key=t.key):i7 (ds.map Gr) (pk d.1.x d.1.y) (.ref c)=(Le ds d.1.key f c).map Gr:=by
 unfold i7
 have hm:((ds.map Gr).any λkv=>decide (kv.1=pk d.1.x d.1.y))=true:=by rw[nu,BM h.nd hd];rfl
 rw[if_pos hm];unfold Le;rw[a7,a7];refine fH λu hu=>?_
 show(if pk u.1.x u.1.y=pk d.1.x d.1.y then(pk u.1.x u.1.y,V.ref c)else Gr u)=Gr (if u.1.key=d.1.key then(f u.1,c)else u)
 by_cases e:u.1.key=d.1.key
 .rw [if_pos e,if_pos (nO.mpr e)];obtain⟨e1,e2⟩:=Ti.LZ (hf u.1);unfold Gr;rw[e1,e2]
 .rw [if_neg e,if_neg λz=>e (nO.mp z)]
theorem qz.set(h:qz H s ds)(hd:d∈ds)(hf:∀t,(f t).key=t.key)(hc:H c=some (.tup [.int (f d.1).cj,.bl (f d.1).wd])):qz (upd H s (.dT (i7 (ds.map Gr) (pk d.1.x d.1.y) (.ref c)))) s (Le ds d.1.key f c):=by
 have ns:∀{b:ai}{xs:List V}{u:HO},H b=some (.tup xs)->(upd H s u) b=some (.tup xs):=λe=>by rw[aF (dO e h.o)];exact e
 refine⟨by rw[aC,h.put hd hf],λu hu=>?_,by rw[Gu,jL hf];exact h.nd,by unfold Le;rw[af];exact h.l⟩;obtain⟨v,hv,rfl⟩:=aI.mp hu
 by_cases e:v.1.key=d.1.key
 .rw [if_pos e,h.inj hv hd e];exact ns hc
 .rw [if_neg e];exact ns (h.e v hv)
theorem qz.drop(h:qz H s ds):qz (upd H s (.dT (mf (ds.map Gr) (pk d.1.x d.1.y)))) s (ds.filter λu=>decide (u.1.key≠d.1.key)):=by
 refine⟨?_,λu hu=>?_,?_,bx (b0 _ _) h.l⟩
 .rw [aC];unfold mf;rw[jz]
  congr 3
  exact l8 λu _=>decide_eq_decide.mpr (not_congr nO)
 .have e:=h.e u (bB.mp hu).1;rw[aF (dO e h.o)];exact e
 .exact ((fI.map _).map _).nodup h.nd
theorem Ug:(ds.filter λu=>decide (u.1.key≠k)).map (·.1)=(ds.map (·.1)).filter λu=>decide (u.key≠k):=by rw[jz];rfl
theorem qz.add(h:qz H s ds)(hl:ds.length<98)(hk:d.1.key∉(ds.map (·.1)).map Ti.key)(hc:H d.2=some (.tup [.int d.1.cj,.bl d.1.wd])):qz (upd H s (.dT (i7 (ds.map Gr) (pk d.1.x d.1.y) (.ref d.2)))) s (ds++[d]):=by
 refine⟨?_,λu hu=>?_,?_,by rw[bj];simp;lia⟩
 .rw [aC,HP _ (Gs hk),aH];rfl
 .have e:H u.2=some (.tup [.int u.1.cj,.bl u.1.wd]):=by
   rcases aL.mp hu with q|q
   .exact h.e u q
   .rw [ax.mp q];exact hc
  rw[aF (dO e h.o)];exact e
 .rw [aH,aH,du];refine⟨h.nd,by simp,λx hx y hy e=>?_⟩;subst e;rw[ax.mp hy]at hx;exact hk hx
theorem BN(h:qz H s ds)(hd:d∈ds)(hb:H b=some (.tup [.int d.1.x,.int d.1.y]))(k:Q (.ref d.2) H):cS K (.ref s) (.ref b) H Q:=.inr ⟨s,.ref d.2,rfl,.inr ⟨_,pk d.1.x d.1.y,b,.inl h.o,rfl,hb,(BM h.nd hd).symm⟩,k⟩
theorem qz.sorted(h:qz H s ds)(k:∀l (es:List (Ti×ai)),H l=none->(es.map (·.1)).Perm (ds.map (·.1))->(∀e∈es,Ri H e)->Ord es->Q (.ref l) (upd H l (.lst (es.map kX)))):nF [.ref s] H Q:=by
 refine⟨s,_,rfl,h.o,λq hq=>?_,by rw[af];have:=h.l;lia,λl zs hl hz hp hs=>?_⟩
 .obtain ⟨d,_,rfl⟩:=aI.mp hq;exact⟨d.1.x,d.1.y,rfl⟩
 .have hp:(zs.map (·.1)).Perm ((ds.map (·.1)).map kI):=by rw[a7]at hp ⊢;exact hp
  obtain⟨ts',hp',e⟩:=Sy.perm_map hp.symm _ rfl;obtain⟨es,rfl,rfl⟩:=VB e;rw[a7];refine k l es hl hp' (λe he=>?_) (bY.mp hs);obtain⟨xs,h1,h2⟩:=hz _ (aN he)
  cases h2 with
  |int i h2=>
   cases h2 with
   |int j h2=>cases h2;exact h1
theorem Rj{vs:List (Ti×ai)}(hn:(ts.map Ti.key).Nodup)(h1:(us.map (·.1)).Perm ts)(h2:(vs.map (·.1)).Perm ts)(o1:Ord us)(o2:Ord vs):us.map (·.1)=vs.map (·.1):=by
 refine oU (le:=λx y=>fo (kI y) (kI x)=false) (λa b ha hb q q'=>?_) (bY.mpr o1) (bY.mpr o2) (h1.trans h2.symm)
 have e:kI a=kI b:=by
  rcases qd q' with z|z
  .rw [q]at z;cases z
  .exact z
 obtain⟨e1,e2⟩:=iF e;exact jR hn (h1.mem_iff.mp ha) (h2.mem_iff.mp hb) (by unfold Ti.key;rw[e1,(iF e2).1])
theorem Uh(h:us.Pairwise λu v=>fo (Lc v.1) (Lc u.1)=false):Ord us:=h.imp λ{u v} q=>by
 unfold Lc fo at q;unfold kI fo
 by_cases c:(v.1.x:Int)=u.1.x
 .rw [if_pos c]at q ⊢;unfold fo at q ⊢
  by_cases c':(v.1.y:Int)=u.1.y
  .rw [if_pos c'];rfl
  .rw [if_neg c']at q ⊢;exact q
 .rw [if_neg c]at q ⊢;exact q
end
inductive bS(K:aa)(C:ai)(vs:List V)(H:Hp)(Q:VK)(E:XK):Prop
 |mk (s:_) (ds:List (Ti×ai)):vs=[.ref s]->qz H s ds->(∀(l:ai) (us:List (Ti×ai)) H',bU H H'->H l=none->H' l=some (.lst (us.map kX))->(∀u∈us,lF H' u)->(us.map (·.1)).Perm (ds.map (·.1))->Ord us->Q (.ref l) H')->bS K C vs H Q E
theorem BO:Rn (bS K C) (t9 K C) IF:=by
 rintro vs H Q E ⟨s,ds,rfl,h,k⟩;unfold t9;lk;refine h.sorted λl es hl pm fl od=>?_;generalize eu_:upd _ l _=H1;obtain⟨S1,g1⟩:=ig eu_ hl
 have hle:es.length=ds.length:=by have:=pm.length_eq;simpa using this
 have hl9:=h.l;refine⟨l,rfl,.inl ⟨⟨_,c6.of g1⟩,λacc hacc=>?_⟩⟩;refine kM (n:=es.length) (λt ys H4=>H4 acc=some (.lst ys)/\bU H1 H4/\∃us:List (Ti×ai),ys=us.map kX/\us.map (·.1)=(es.take t).map (·.1)/\∀u∈us,lF H4 u) (λZ=>∃o,Z=[o,some (.ref s)]) ⟨aC,bU.cw hacc,[],rfl,rfl,λz hz=>nomatch hz⟩ ⟨_,rfl⟩ ?_ ?_ ?_ ?_
 .rintro t ys H4 ⟨e,_⟩;exact e
 .rintro ys H4 ⟨g4,S4,us,rfl,hu,fu⟩;refine⟨⟨_,c6.of (S4 _ _ g1),by rw[af];exact ay _⟩,?_⟩;rw[bu (ay _)]at hu;refine k acc us H4 (S1.trans S4) (S1.free hacc) g4 fu (by rw[hu];exact pm) ?_;have:=(bY (f:=λe:Ti×ai=>e.1) (R:=λu v:Ti=>fo (kI v) (kI u)=false)).mpr od;rw[← hu]at this;exact bY.mp this
 .rintro t ys H4 ht ⟨_,S4,_⟩;exact⟨_,_,c6.of (S4 _ _ g1),aB (by rw[af];exact ht)⟩
 .rintro t ys σ' H4 v H5 ht ⟨g4,S4,us,rfl,hu,fu⟩ ⟨o,rfl⟩ ⟨e2,hv⟩;subst e2;have hv:=hv _ (c6.of (S4 _ _ g1));obtain⟨e,he,rfl⟩:=gm hv;have hem:=aP he;have h5:=h.same (S1.trans S4);have ke:=(S1.trans S4) _ _ (fl e hem);obtain⟨d,hd,ed⟩:=aI.mp (pm.mem_iff.mp (aN (f:=(·.1)) hem));have ed:d.1=e.1:=ed;rw[← ed]at ke;have dv:=h5.e d hd;lk;refine lz ?_;lk;refine eh (jq.of ke) (v:=.int d.1.x) rfl ?_;lk;refine eh (jq.of ke) (v:=.int d.1.y) rfl ?_;lk;refine BN h5 hd ke ?_;lk;refine eh (jq.of dv) (v:=.int d.1.cj) rfl ?_;lk;refine BN h5 hd ke ?_;lk;refine eh (jq.of dv) (v:=.bl d.1.wd) rfl ?_;lk;refine⟨nW,λr hr=>?_⟩;have T:=bU.cw (o:=.tup [.int d.1.x,.int d.1.y,.int d.1.cj,.bl d.1.wd]) hr;have gr:lF (upd H5 r (.tup [.int d.1.x,.int d.1.y,.int d.1.cj,.bl d.1.wd])) (d.1,r):=aC;generalize upd H5 r (.tup [.int d.1.x,.int d.1.y,.int d.1.cj,.bl d.1.wd])=H6 at T gr
  have hul:us.length<=t:=by have:=congrArg cK hu;rw[af,af,bG]at this;lia
  refine⟨T _ _ g4,cZ (m:=100) (by rw[af];lia),jH.mk' ht ⟨_,rfl⟩ ⟨aC,λb' ob e=>by rw[aF (aT e hacc)];exact T _ _ (S4 _ _ e),us++[(d.1,r)],by simp[kX],?_,λz hz'=>?_⟩⟩
  .rw [aH,hu,cH,he,aH,ed];rfl
  .have tn:∀{z:Ti×ai},lF H6 z->lF (upd H6 acc (.lst (us.map kX++[.ref r]))) z:=λ{z} e=>(aF (dO e (T _ _ g4))).trans e
   rcases aL.mp hz' with hz'|hz'
   .exact tn (T _ _ (fu z hz'))
   .rw [ax.mp hz'];exact tn gr
theorem KP.keep(h:KP C A H p dx a n T ts as R){X:List ai}(F:Fm X H H')(h1:∀b∈X,b∉p::a.L::fp a)(h2:∀b∈X,(∀c e f,H b=some (.ins c e f)->f.lookup ("rows":bF)=none/\f.lookup ("woods":bF)=none)/\∀r:List Int,r≠[]->H b≠some (.lst (r.map V.int))):KP C A H' p dx a n T ts as R:=by
 obtain⟨w,c1,c2,c3,c4,hw,hp⟩:=h.ob;refine⟨⟨w,c1,c2,c3,c4,hw,F _ _ (λz=>h1 _ z aj) hp⟩,h.lv.keep F (λx f e _ hx hm=>?_) (λb hb z=>h1 b z (ag _ (ag _ hb))) (λz=>h1 _ z (ag _ aj)) (λb r hr e z=>(h2 b z).2 r hr e),h.iv,h.jn,h.tp⟩
 rcases hx with z|⟨v,hv,z⟩
 .have:=((h2 x hm).1 _ _ _ (by rw[z];exact h.lv.ob)).2;rw[Vy]at this;cases this
 .obtain ⟨i,_,hi⟩:=h.lv.at hv;have:=((h2 x hm).1 _ _ _ (by rw[z];exact(h.lv.wa i v hi).ob)).1;rw[iN]at this;cases this
theorem KP.ZZ(h:KP C A H p dx a n T ts as R)(hP:pP Pt H)(F:Fm (p::fp a) H H'):pP Pt H':=
 hP.keep λb o h1 h2 h3 _ e=>F b o (λz=>by
  rcases aw.mp z with rfl|z
  .obtain ⟨fs,hp⟩:=h.p0;rw[hp]at e;cases e;exact h3 _ _ _ rfl
  .exact h.lv.out e h1 (λ_ _=>h2 _) z) e
theorem KP.j0(h:KP C A H p dx a n T ts as R){t:Ti}(ht:t∈ts):t.x<t.y/\t.y<n/\(t.y:Int)∈R 0 t.x:=
 have⟨t1,t2,t3⟩:=h.iv.lt t ht
 ⟨t1,t2,h.iv.mono (aK _) t3 (x:=t.x) (by lia) _ (h.jn t ht)⟩
theorem KP.kw(h:KP C A H p dx a n T ts as R):Kw n (R 0) (ts.map Ti.key):=by
 refine⟨h.iv.wd 0 (aK _),λq hq=>?_,λu v e=>?_⟩
 .obtain ⟨t,ht,rfl⟩:=aI.mp hq;obtain⟨t1,t2,t3⟩:=h.j0 ht;exact⟨t.x,t.y,by lia,t2,rfl,t3⟩
 .obtain ⟨t,ht,_,_,hI⟩:=(h.iv.ed 0 (aK _) u v).mp e;have:=aN (f:=Ti.key) ht
  rcases hI with e|e<;>cases e
  .exact .inl this
  .exact .inr this
theorem KP.Uu(h:KP C A H p dx a n T ts as R){t:Ti}(ht:t∈ts):∃t∈ts,t.wd=true:=by
 obtain⟨t1,t2,t3⟩:=h.j0 ht;refine C4 λhn=>?_
 have:=QX (M:=λx=>x=(t.x:Int)) (l:=R 0 t.x) (λu v huv=>by
  obtain⟨s,hs,hw,_⟩:=(h.iv.ed 0 (aK _) u v).mp ⟨t.x,by lia,huv⟩
  exact absurd ⟨s,hs,hw⟩ hn) ⟨_,(h.iv.wd 0 (aK _)).me t.x (by lia),rfl⟩ _ t3
 lia
theorem Lg(x:Int):uM (.int x):=⟨rfl,by simp[gA]⟩
theorem xP:∀r:List Int,r.length<=(al r).length+1
 | []=>aK _
 | [_]=>ay _
 |a::b::r=>by have:=xP (b::r);simp only[al,bR]at this ⊢;lia
theorem Jc(L:Lv n T ts R){i a:Nat}(hi:i<=T)(ha:a<n):(R i a).length<=2*ts.length+1:=by
 have h1:=xP (R i a)
 have h2:=qX (m:=ts.map Ti.key++ts.map λt=>((t.y:Int),(t.x:Int))) ((L.wd i hi).r a ha).nd λp hp=>by
  obtain⟨t,ht,_,_,hI⟩:=(L.ed i hi p.1 p.2).mp ⟨a,ha,hp⟩
  rcases hI with e|e
  .exact d5 _ (aI.mpr ⟨t,ht,e.symm⟩)
  .refine bC _ (aI.mpr ⟨t,ht,?_⟩);exact e.symm
 rw[bj,af,af]at h2;lia
theorem Zy(L:Lv n T ts R){i:Nat}(hi:i<=T){ps:List (Int×Int)}(hp:∀p,p∈ps↔∃t∈ts,t.wd=true/\i<=t.cj/\t.key=p):Kw n (R i) ps:=by
 refine⟨L.wd i hi,λp h=>?_,λu v e=>?_⟩
 .obtain ⟨t,ht,hw,hl,rfl⟩:=(hp p).mp h;obtain⟨t1,t2,_⟩:=L.lt t ht;obtain⟨k,hk,hm⟩:=(L.ed i hi t.x t.y).mpr ⟨t,ht,hw,hl,.inl rfl⟩;obtain⟨m1,m2⟩:=fY hm;refine⟨t.x,t.y,by lia,t2,rfl,?_⟩;rw[(L.wd i hi).same (i:=t.x) (j:=k) (by lia) hk ((L.wd i hi).me t.x (by lia)) m1];exact m2
 .obtain ⟨t,ht,hw,hl,hI⟩:=(L.ed i hi u v).mp e
  rcases hI with e|e
  .exact .inl ((hp _).mpr ⟨t,ht,hw,hl,e.symm⟩)
  .obtain ⟨e1,e2⟩:=cp e;exact .inr ((hp _).mpr ⟨t,ht,hw,hl,by rw[e1,e2];rfl⟩)
def zK(e:Ti×ai):Zn:=(kI e.1,e.2)
theorem VC{e:Ti×ai}(h:Ri H e):Xt H (zK e):=⟨rfl,h⟩
theorem Lh(es:List (Ti×ai)):(es.map zK).map mG=es.map kX:=by rw[a7];rfl
theorem VD(es:List (Ti×ai)):(es.map zK).map pr=(es.map (·.1)).map Ti.key:=by rw[a7,a7];rfl
inductive kR(K:aa)(C:ai)(vs:List V)(H:Hp)(Q:VK)(E:XK):Prop
 |mk (s:_) (i:Nat) (ds:List (Ti×ai)):vs=[.ref s,.int i]->qz H s ds->(∀(l:ai) (es:List (Ti×ai)) H',H l=none->bU H H'->H' l=some (.lst (es.map kX))->(∀e∈es,Ri H' e)->es.length<99->(∀p,p∈(es.map (·.1)).map Ti.key↔∃t∈ds.map (·.1),t.wd=true/\i<=t.cj/\t.key=p)->Q (.ref l) H')->kR K C vs H Q E
theorem Du:Rn (kR K C) (we K C) M0:=by
 rintro vs H Q E ⟨s,i,ds,rfl,h,k⟩;unfold we;lk;refine h.sorted λl es hl pm fl od=>?_;generalize eu_:upd _ l _=H1;obtain⟨S1,g1⟩:=ig eu_ hl
 have hle:es.length=ds.length:=by have:=pm.length_eq;simpa using this
 have hl9:=h.l;refine⟨l,rfl,.inl ⟨⟨_,c6.of g1⟩,λacc hacc=>?_⟩⟩;refine vN (K:=K) es (λe=>e.1.wd && decide (i<=e.1.cj)) kX (λZ=>∃o,Z=[o,some (.int i),some (.ref s)]) (by rw[af]) (c6.of g1) hacc ⟨_,rfl⟩ (by rw[af];lia) ?_ λH2 S2 g2=>?_
 .rintro j e x σ' H' G G' he hx S' ⟨o,rfl⟩ hG hG';rw[aG,he]at hx;cases hx;have hem:=aP he;have h5:=h.same (S1.trans S');have ke:=(S1.trans S') _ _ (fl e hem);obtain⟨d,hd,ed⟩:=aI.mp (pm.mem_iff.mp (aN (f:=(·.1)) hem));have ed:d.1=e.1:=ed;rw[← ed]at ke hG hG';have dv:=h5.e d hd;lk;refine BN h5 hd ke ?_;lk;refine eh (jq.of dv) (v:=.bl d.1.wd) rfl ?_;refine⟨_,rfl,?_⟩
  cases hw:d.1.wd with
  |false=>exact kg (hG' (by rw[hw];rfl) _ ⟨_,rfl⟩)
  |true=>
   rw[hw]at hG hG';refine lz ?_;lk;refine BN h5 hd ke ?_;lk;refine eh (jq.of dv) (v:=.int d.1.cj) rfl ?_;lk;refine mP (λc=>?_) λc=>hG' (by rw[decide_eq_false (by lia)];rfl) _ ⟨_,rfl⟩;lk;exact hG (by rw[decide_eq_true (by lia)];rfl) _ ⟨_,rfl⟩
 .refine k acc _ H2 (S1.free hacc) (S1.trans S2) g2 (λe he=>(S1.trans S2) _ _ (fl e (bB.mp he).1)) (bx (b0 _ _) (by lia)) λp=>?_;rw[a7,aI]
  constructor
  .rintro ⟨e,he,rfl⟩;obtain⟨he,hp⟩:=bB.mp he;obtain⟨p1,p2⟩:=O6.mp hp;exact⟨e.1,pm.mem_iff.mp (aN (f:=(·.1)) he),p1,of_decide_eq_true p2,rfl⟩
  .rintro ⟨t,ht,h1,h2,rfl⟩;obtain⟨e,he,rfl⟩:=aI.mp (pm.mem_iff.mpr ht);exact⟨e,bB.mpr ⟨he,O6.mpr ⟨h1,decide_eq_true h2⟩⟩,rfl⟩
inductive fq(K:aa)(C:ai)(vs:List V)(H:Hp)(Q:VK)(E:XK):Prop
 |mk (s g:_) (i x y n T:Nat) (ds:List (Ti×ai)) (R:_):vs=[.ref s,.ref g,.int i]->qz H s ds->H g=some (.tup [.int x,.int y])->Lv n T (ds.map (·.1)) R->i<=T->x<n->y<n->n<=200->(∀(l:ai) (S:List Int) H',H l=none->bU H H'->S=R i (if(R i x).length<=(R i y).length then x else y)->H' l=some (.lst ((CW S).map V.int))->(∀z,z∈CW S↔z∈S)->Q (.ref l) H')->fq K C vs H Q E
theorem Dv:Rn (fq K C) (wg K C (kR K C) (eQ K C)) Zv:=by
 rintro vs H Q E ⟨s,g,i,x,y,n,T,ds,R,rfl,h,hg,L,hi,hx,hy,hn,k⟩;have hl9:=h.l
 have sh:∀{a:Nat},a<n->(R i a).length<=250:=λha=>by have:=Jc L hi ha;rw[af]at this;lia
 unfold wg;lk;refine⟨s,i,ds,rfl,h,λl es H1 hl S1 g1 fl hel hes=>?_⟩;have kw:=Zy L hi hes;rw[← VD]at kw;rw[← Lh]at g1
 have hzl:(es.map zK).length<=100:=by rw[af];lia
 have pz:∀z∈es.map zK,Xt H1 z:=λz hz=>by obtain⟨e,he,rfl⟩:=aI.mp hz;exact VC (fl e he)
 lk;refine eh (jq.of (S1 _ _ hg)) (v:=.int x) rfl ?_;lk;refine⟨l,x,n,R i,es.map zK,rfl,g1,pz,kw,hx,hn,hzl,sh hx,λl2 H2 hl2 g2 S2 e2 m2=>?_⟩;lk;refine eh (jq.of (S2 _ _ (S1 _ _ hg))) (v:=.int y) rfl ?_;lk;refine⟨l,y,n,R i,es.map zK,rfl,S2 _ _ g1,λz hz=>⟨(pz z hz).1,S2 _ _ (pz z hz).2⟩,kw,hy,hn,hzl,sh hy,λl3 H3 hl3 g3 S3 e3 m3=>?_⟩;lk;refine AV (c6.of g3) ?_;lk;refine AV (c6.of (S3 _ _ g2)) ?_;lk;refine mP (λc=>?_) λc=>?_
 .lk;exact k l3 (R i y) H3 ((S1.trans S2).free hl3) ((S1.trans S2).trans S3) (by rw[if_neg (by lia)]) g3 m3
 .lk;exact k l2 (R i x) H3 (S1.free hl2) ((S1.trans S2).trans S3) (by rw[if_pos (by lia)]) (S3 _ _ g2) m2
def wB(S:List Int):List (Int×Int)->List (Int×Int)->List (Int×Int)×Option (Int×Int)
 | [],c=>(c,none)
 |p::ps,c=>if ew p.1 p.2 S=1 then(c,some p)else if ew p.1 p.2 S=2 then wB S ps (c++[p])else wB S ps c
theorem Rk(S:List Int):∀(ps:List (Int×Int)) (ts:List Ti) (c:List (Int×Int)),(ID S ps ts c).2=wB S ps c
 | [],_,_=>rfl
 |p::ps,ts,c=>by
  unfold ID wB
  split
  .rfl
  .split
   .exact Rk S ps _ _
   .exact Rk S ps _ _
theorem wC{S:List Int}{qs c:List (Int×Int)}:∀{ps c0:List (Int×Int)},wB S ps c0=(c,none)->wB S (ps++qs) c0=wB S qs c
 | [],c0,h=>by cases h;rfl
 |p::ps,c0,h=>by
  rw[wB]at h
  show wB S (p::(ps++qs)) c0=_
  rw[wB]
  by_cases h1:ew p.1 p.2 S=1
  .rw [if_pos h1]at h;cases h
  .rw [if_neg h1]at h ⊢
   by_cases h2:ew p.1 p.2 S=2
   .rw [if_pos h2]at h ⊢;exact wC h
   .rw [if_neg h2]at h ⊢;exact wC h
theorem Ap(S:List Int):∀(ps c:List (Int×Int)),(wB S ps c).1.Sublist (c++ps)
 | [],c=>Kk _ _
 |p::ps,c=>by
  unfold wB
  split
  .exact Kk _ _
  .split
   .have:=Ap S ps (c++[p])
    rwa [cI]at this
   .exact (Ap S ps c).trans ((List.Sublist.refl c).append (List.sublist_cons_self p ps))
theorem Li{S:List Int}{q:Int×Int}:∀{ps c0 c:List (Int×Int)},wB S ps c0=(c,some q)->q∈ps/\ew q.1 q.2 S=1
 | [],_,_,h=>by cases h
 |p::ps,c0,c,h=>by
  unfold wB at h
  by_cases h1:ew p.1 p.2 S=1
  .rw [if_pos h1]at h;cases h;exact⟨aj,h1⟩
  .rw [if_neg h1]at h
   by_cases h2:ew p.1 p.2 S=2
   .rw [if_pos h2]at h;exact(Li h).imp (ag _) id
   .rw [if_neg h2]at h;exact(Li h).imp (ag _) id
theorem Gv{S:List Int}:∀{ps c:List (Int×Int)},(∀p∈c,ew p.1 p.2 S=2)->∀p∈(wB S ps c).1,ew p.1 p.2 S=2
 | [],_,h=>h
 |p::ps,c,h=>by
  unfold wB
  split
  .exact h
  .split
   .rename_i h2
    exact Gv λq hq=>by
     rcases aL.mp hq with z|z
     .exact h q z
     .rw [ax.mp z];exact h2
   .exact Gv h
def pW(S:List Int)(i:Nat)(t:Ti):Bool:=decide (t.cj=i) && t.wd && decide (ew t.x t.y S=2)
def pF(i:Nat)(t:Ti):Bool:=decide (t.cj=i) && !t.wd
def Ss(S:List Int)(i:Nat)(L:List Ti):List (Int×Int)×Option (Int×Int):=wB S ((L.filter (pF i)).map Ti.key) ((L.filter (pW S i)).map Ti.key)
theorem Ro{S:List Int}{i:Nat}{L:List Ti}(h:(L.map Ti.key).Nodup):((L.filter (pW S i)).map Ti.key++(L.filter (pF i)).map Ti.key).Nodup:=by
 rw[du];refine⟨(fI.map _).nodup h,(fI.map _).nodup h,λx hx y hy e=>?_⟩;obtain⟨t,ht,rfl⟩:=aI.mp hx;obtain⟨u,hu,rfl⟩:=aI.mp hy;obtain⟨t1,t2⟩:=bB.mp ht;obtain⟨u1,u2⟩:=bB.mp hu;have e:=jR h t1 u1 e;subst e;unfold pW at t2;unfold pF at u2;cases hw:t.wd
 .rw [hw]at t2;simp at t2
 .rw [hw]at u2;simp at u2
theorem Lj{S:List Int}{i:Nat}{L:List Ti}{p:Int×Int}(h:p∈(L.filter (pW S i)).map Ti.key++(L.filter (pF i)).map Ti.key):∃t∈L,t.cj=i/\t.key=p:=by
 rcases aL.mp h with z|z
 .obtain ⟨t,ht,rfl⟩:=aI.mp z;obtain⟨t1,t2⟩:=bB.mp ht;unfold pW at t2;exact⟨t,t1,by simp at t2;exact t2.1.1,rfl⟩
 .obtain ⟨t,ht,rfl⟩:=aI.mp z;obtain⟨t1,t2⟩:=bB.mp ht;unfold pF at t2;exact⟨t,t1,by simp at t2;exact t2.1,rfl⟩
theorem Rp(a c:Int)(b d:Bool):dt (.tuple [.int a,.bool b]) (.tuple [.int c,.bool d])=decide (a=c/\b=d):=by rw[gX];simp[dt,Yb]
theorem Aq(a:Int)(b:Bool):uM (.tuple [.int a,.bool b]):=⟨by simp[ic,cm],by simp[gA,cu]⟩
section
variable{s r:ai}{ds es:List (Ti×ai)}
theorem Gw{a:Int}{b:Bool}(h:H p=some (.tup [.int a,.bl b])):Rep K H (.tuple [.int a,.bool b]) (.ref p):=.tup (.of h) (.cons (.int _) (.cons (by simp only[Rep]) .nil))
theorem BP{S:List Int}{x:Int}(hl:H l=some (.lst (S.map V.int)))(k:Q (.bl (decide (x∈S))) H):oJ K false (.int x) (.ref l) H Q:=P9 (Rep.int x) (vO (c6.of hl)) (Lg _) (fQ _ (nC _)) (by rw[any_ints];exact k)
theorem qz.but(h:qz H s ds)(B:aV r H H'){xs:List V}(hr:H r=some (.lst xs)):qz H' s ds:=
 ⟨B _ _ h.o (dO h.o hr),λd hd=>B _ _ (h.e d hd) (dO (h.e d hd) hr),h.nd,h.l⟩
end
inductive fZ(K:aa)(C:ai)(vs:List V)(H:Hp)(Q:VK)(E:XK):Prop
 |mk (s l:_) (i:Nat) (S:List Int) (ds:List (Ti×ai)):vs=[.ref s,.int i,.ref l]->qz H s ds->H l=some (.lst (S.map V.int))->(∀(p q:ai) (rs:List Zn) (f:V) (L:List Ti) (c:List (Int×Int)) (fd:Option (Int×Int)) H',bU H H'->L.Perm (ds.map (·.1))->L.Pairwise (λu v=>fo (kI v) (kI u)=false)->Ss S i L=(c,fd)->H' p=some (.tup [.ref q,f])->H' q=some (.lst (rs.map mG))->(∀z∈rs,H' z.2=some (.tup (z.1.map V.int)))->rs.map (·.1)=xR (c.map pl)->(rs.map (·.1)).Perm (c.map pl)->Fd H' f fd->H q=none->Q (.ref p) H')->fZ K C vs H Q E
theorem Gx:Rn (fZ K C) (yY K C) Vn:=by
 rintro vs H Q E ⟨s,l,i,S,ds,rfl,h,hS,k⟩;have hl9:=h.l;unfold yY;lk;refine⟨nW,λr hr=>?_⟩;generalize eu_:upd _ r _=H0;obtain⟨S0,r0⟩:=ig eu_ hr;have nl:l≠r:=aT hS hr;lk;unfold tY;lk;refine(h.same S0).sorted λl1 es hl1 pm fl od=>?_;generalize eu_:upd _ l1 _=H1;obtain⟨S1,g1⟩:=ig eu_ hl1
 have n1:l1≠r:=λz=>by rw[z,r0]at hl1;cases hl1
 have h1:=(h.same S0).same S1;have r1:=S1 _ _ r0
 have hle:es.length=ds.length:=by have:=pm.length_eq;simpa using this
 have tp:∀{H4:Hp},aV r H1 H4->∀{b:ai}{xs:List V},H1 b=some (.tup xs)->H4 b=some (.tup xs):=λ{H4} B {b xs} e=>B _ _ e (dO e r1);refine⟨l1,rfl,.inl ⟨⟨_,c6.of g1⟩,i6 (K:=K) (a:=l1) (xs:=es.map kX) (λj Z H4=>aV r H1 H4/\H4 r=some (.lst (((es.take j).filter λe=>pW S i e.1).map kX))/\∃o,Z=[some (.ref s),some (.int i),some (.ref l),some (.ref r),o]) ⟨aV.refl _ _,r1,_,rfl⟩ ?_ ?_ ?_⟩⟩
 .rintro j Z H4 _ ⟨B4,_⟩;exact c6.of (B4 _ _ g1 n1)
 .rintro j v Z H4 hj ⟨B4,r4,o,rfl⟩;obtain⟨e,he,rfl⟩:=gm hj;have hem:=aP he
  have et:es.take (j+1)=es.take j++[e]:=by rw[cH,he];rfl
  have h4:=h1.but B4 r1;have ke:=tp B4 (S1 _ _ (fl e hem));obtain⟨d,hd,ed⟩:=aI.mp (pm.mem_iff.mp (aN (f:=(·.1)) hem));have ed:d.1=e.1:=ed;rw[← ed]at ke;lk;refine BN h4 hd ke ?_;lk;refine⟨nW,λt ht=>?_⟩;generalize eu_:upd _ t _=H5;obtain⟨S5,g5⟩:=ig eu_ ht;have B5:=B4.trans (aV.same S5);have l5:=B5 _ _ (S1 _ _ (S0 _ _ hS)) nl;have ke5:=S5 _ _ ke;refine P8 (Gw (S5 _ _ (h4.e d hd))) (Gw g5) (Aq _ _) (Aq _ _) ?_;rw[Rp]
  have no:pW S i e.1=false->aV r H1 H5/\H5 r=some (.lst (((es.take (j+1)).filter λe=>pW S i e.1).map kX))/\∃o,[some (V.ref s),some (.int i),some (.ref l),some (.ref r),some (kX e)]=[some (V.ref s),some (.int i),some (.ref l),some (.ref r),o]:=λhw=>⟨B5,by rw[et,cb,gj,hw];simp only[bN,if_false,Yc,gY];exact S5 _ _ r4,_,rfl⟩
  rw[← ed]at no;unfold pW at no;refine⟨_,rfl,mP (λc1=>?_) λc1=>kg (no ?_)⟩
  .obtain ⟨c1,c1'⟩:=c1
   have c1:d.1.cj=i:=by lia
   lk;refine eh (jq.of ke5) (v:=.int d.1.x) rfl ?_;refine kx rfl ?_;refine BP l5 ?_;refine⟨_,rfl,mP (λc2=>?_) λc2=>kg (no ?_)⟩
   .lk;refine eh (jq.of ke5) (v:=.int d.1.y) rfl ?_;refine kx rfl ?_;refine BP l5 ?_;refine⟨_,rfl,mP (λc3=>?_) λc3=>no ?_⟩
    .lk;refine⟨.inl ⟨rfl,_,c6.of (S5 _ _ r4)⟩,?_⟩;lk;have hlj:((es.take j).filter λe=>pW S i e.1).length<=98:=bw (b0 _ _) (by rw[bG];lia);refine mh (S5 _ _ r4) (cZ (m:=100) (by rw[af];lia)) ?_;refine⟨B5.trans aV.upd,?_,_,rfl⟩
     have hw:pW S i e.1=true:=by rw[← ed];unfold pW ew;rw[c1,c1'];simp[c2,c3]
     rw[aC,et,cb,gj,hw,aH]
     rfl
    .unfold ew;simp[c3];intro _ _;split<;>lia
   .unfold ew;simp[c2];intro _ _;split<;>lia
  .by_cases z:d.1.cj=i
   .have:d.1.wd=false:=by
     cases hw:d.1.wd
     .rfl
     .exact absurd ⟨by rw[z],hw⟩ c1
    rw[this];simp
   .rw [decide_eq_false z];rfl
 rintro Z H4 ⟨B4,r4,o,rfl⟩;rw[af,bu (ay _)]at r4;have h4:=h1.but B4 r1;lk;unfold tZ;lk;refine h4.sorted λl2 es2 hl2 pm2 fl2 od2=>?_;have eL:es.map (·.1)=es2.map (·.1):=Rj h.nd pm pm2 od od2;generalize eu_:upd _ l2 _=H5;obtain⟨S5,g5⟩:=ig eu_ hl2
 have n2:l2≠r:=λz=>by rw[z,r4]at hl2;cases hl2
 have h5:=h4.same S5;have r5:=S5 _ _ r4;have ls5:=S5 _ _ (B4 _ _ (S1 _ _ (S0 _ _ hS)) nl)
 have hle2:es2.length=ds.length:=by have:=pm2.length_eq;simpa using this
 have hnL:((es2.map (·.1)).map Ti.key).Nodup:=(pm2.map Ti.key).nodup_iff.mpr h.nd
 have eW:(es.filter λe=>pW S i e.1).map (λe=>e.1.key)=((es2.map (·.1)).filter (pW S i)).map Ti.key:=by rw[← eL,jz,a7];rfl
 have kW:∀e∈es.filter (λe=>pW S i e.1),Ri H5 e:=λe he=>S5 _ _ (tp B4 (S1 _ _ (fl e (bB.mp he).1)));have tp5:∀{H6:Hp},aV r H5 H6->∀{b:ai}{xs:List V},H5 b=some (.tup xs)->H6 b=some (.tup xs):=λ{H6} B {b xs} e=>B _ _ e (dO e r5);have SH:∀{H6:Hp},aV r H5 H6->bU H H6:=λ{H6} B b u e=>B _ _ (S5 _ _ (B4 _ _ (S1 _ _ (S0 _ _ e)) (aT e hr))) (aT e hr)
 have fin:∀{H6:Hp}{rs:List (Ti×ai)}{c:List (Int×Int)}{fd:Option (Int×Int)}{Z:L2.St}{te:TE},aV r H5 H6->H6 r=some (.lst (rs.map kX))->(∀e∈rs,Ri H6 e)->rs.map (λe=>e.1.key)=c->Ss S i (es2.map (·.1))=(c,fd)->Z[3]?=some (some (.ref r))->(∀{H7:Hp}{P:VK},bU H6 H7->(∀f,Fd H7 f fd->P f H7)->te Z H7 P) ->(dW (ir (au (oI (kO K) (au (aq 3) a8)) (au te a8)))) { nx:=λ_ H'=>Q .non H',rt:=Q } Z H6:=by
  intro H6 rs c fd Z te B6 g6 k6 ec hd h3 hte
  have hcl:c.length<=98:=by
   have hs:=Ap S (((es2.map (·.1)).filter (pF i)).map Ti.key) (((es2.map (·.1)).filter (pW S i)).map Ti.key);rw[show wB S _ _=(c,fd)from hd]at hs;have hs:c.Sublist _:=hs
   have:=qX (m:=(es2.map (·.1)).map Ti.key) (hs.nodup (Ro hnL)) λp hp=>by obtain⟨t,ht,_,e⟩:=Lj (hs.subset hp);exact e▸aN ht
   rw[af,af]at this;lia
  have hrl:rs.length=c.length:=by rw[← ec,af]
  have ek:rs.map (λe=>kI e.1)=c.map pl:=by rw[← ec,a7];rfl
  k_ne;k_ne;k_ne;k_ne;k_ne;refine kx h3 ?_;lk;refine⟨r,rs.map zK,[false],rfl,by rw[Lh];exact c6.of g6,λz hz=>?_,by rw[af];lia,λq zs' hq hp hs=>?_⟩
  .obtain ⟨e,he,rfl⟩:=aI.mp hz;exact⟨_,k6 e he,.int _ (.int _ .nil)⟩
  generalize eu_:upd _ q _=H7;obtain⟨S7,g7⟩:=ig eu_ hq
  have hp':(zs'.map (·.1)).Perm (c.map pl):=by have:=hp.map (·.1);rw[a7]at this;rw[← ek];exact this
  k_ne;refine hte S7 λf hf=>?_;lk;refine⟨nW,λt ht=>?_⟩;have S8:=bU.cw (o:=.tup [.ref q,f]) ht;refine k t q zs' f _ c fd _ (((SH B6).trans S7).trans S8) pm2 (bY.mpr od2) hd aC (S8 _ _ g7) (λz hz=>?_) (Al hp' (bY.mpr hs)) hp' (hf.same λb xs=>S8 b _) ((SH B6).free hq);obtain⟨e,he,rfl⟩:=aI.mp (hp.mem_iff.mp hz);exact S8 _ _ (S7 _ _ (k6 e he))
 refine⟨l2,rfl,.inl ⟨⟨_,c6.of g5⟩,i6 (K:=K) (a:=l2) (xs:=es2.map kX) (λj Z H6=>aV r H5 H6/\(∃(rs:List (Ti×ai)) (c:List (Int×Int)),H6 r=some (.lst (rs.map kX))/\(∀e∈rs,Ri H6 e)/\rs.map (λe=>e.1.key)=c/\rs.length<=98+j/\wB S ((((es2.map (·.1)).take j).filter (pF i)).map Ti.key) (((es2.map (·.1)).filter (pW S i)).map Ti.key)=(c,none))/\∃o,Z=[some (.ref s),some (.int i),some (.ref l),some (.ref r),o]) ⟨aV.refl _ _,⟨_,_,r5,kW,eW,bw (b0 _ _) (by lia),rfl⟩,_,rfl⟩ ?_ ?_ ?_⟩⟩
 .rintro j Z H6 _ ⟨B6,_⟩;exact c6.of (B6 _ _ g5 n2)
 .rintro j v Z H6 hj ⟨B6,⟨rs,c,g6,k6,ec,hrl,hgo⟩,o,rfl⟩;obtain⟨e,he,rfl⟩:=gm hj;have hem:=aP he;have hjl:j<es2.length:=(av.mp he).1
  have hLj:(es2.map (·.1))[j]?=some e.1:=by rw[aG,he];rfl
  have et:(es2.map (·.1)).take (j+1)=(es2.map (·.1)).take j++[e.1]:=by rw[cH,hLj];rfl
  have ed':es2.map (·.1)=(es2.map (·.1)).take j++e.1::(es2.map (·.1)).drop (j+1):=by have:=lY (as:=es2.map (·.1)) (i:=j) (by rw[af];exact hjl);rw[(av.mp hLj).2]at this;rw[this,dr]
  have h6:=h5.but B6 r5;have ke:=tp5 B6 (S5 _ _ (fl2 e hem));obtain⟨d,hd,ed⟩:=aI.mp (pm2.mem_iff.mp (aN (f:=(·.1)) hem));have ed:d.1=e.1:=ed;have ke0:Ri H6 e:=ke;rw[← ed]at ke;lk;refine BN h6 hd ke ?_;lk;refine⟨nW,λt ht=>?_⟩;generalize eu_:upd _ t _=H7;obtain⟨S7,g7⟩:=ig eu_ ht;have B7:=B6.trans (aV.same S7);have l7:=B7 _ _ ls5 nl;have ke7:=S7 _ _ ke;have r7:=S7 _ _ g6;have k7:∀e∈rs,Ri H7 e:=λe he=>S7 _ _ (k6 e he);refine P8 (Gw (S7 _ _ (h6.e d hd))) (Gw g7) (Aq _ _) (Aq _ _) ?_;rw[Rp];refine⟨_,rfl,mP (λc1=>?_) λc1=>?_⟩
  .obtain ⟨c1,c1'⟩:=c1
   have c1:d.1.cj=i:=by lia
   have hF:pF i e.1=true:=by rw[← ed];unfold pF;rw[c1,c1'];simp
   have eF:(((es2.map (·.1)).take (j+1)).filter (pF i)).map Ti.key=(((es2.map (·.1)).take j).filter (pF i)).map Ti.key++[d.1.key]:=by rw[et,cb,gj,hF,aH,ed];rfl
   have skip:ew d.1.x d.1.y S=0->aV r H5 H7/\(∃(rs:List (Ti×ai)) (c:List (Int×Int)),H7 r=some (.lst (rs.map kX))/\(∀e∈rs,Ri H7 e)/\rs.map (λe=>e.1.key)=c/\rs.length<=98+(j+1)/\wB S ((((es2.map (·.1)).take (j+1)).filter (pF i)).map Ti.key) (((es2.map (·.1)).filter (pW S i)).map Ti.key)=(c,none))/\∃o,[some (V.ref s),some (.int i),some (.ref l),some (.ref r),some (kX e)]=[some (V.ref s),some (.int i),some (.ref l),some (.ref r),o]:=λc0=>by
    refine⟨B7,⟨rs,c,r7,k7,ec,by lia,?_⟩,_,rfl⟩;rw[eF,wC hgo];unfold wB;rw[if_neg (by show¬ ew d.1.x d.1.y S=1;lia),if_neg (by show¬ ew d.1.x d.1.y S=2;lia)]
    rfl
   have found:ew d.1.x d.1.y S=1->(dW (ir (au (oI (kO K) (au (aq 3) a8)) (au (aq 4) a8)))) { nx:=λ_ H'=>Q .non H',rt:=Q } [some (V.ref s),some (.int i),some (.ref l),some (.ref r),some (kX e)] H7:=λc0=>by
    refine fin B7 r7 k7 ec (fd:=some d.1.key) ?_ rfl λ{H8 P} S8 kf=>kx rfl (kf _ (.inr ⟨_,e.2,rfl,rfl,S8 _ _ ke7⟩));unfold Ss
    conv=>lhs;arg 2;rw[ed']
    rw[cb,aH,wC hgo,gj,hF];simp only[if_true,aZ];unfold wB;rw[← ed,if_pos (show ew d.1.key.1 d.1.key.2 S=1 from c0)]
   lk;refine eh (jq.of ke7) (v:=.int d.1.x) rfl ?_;refine kx rfl ?_;refine BP l7 ?_;refine⟨_,rfl,mP (λc2=>?_) λc2=>kg ?_⟩
   .lk;refine eh (jq.of ke7) (v:=.int d.1.y) rfl ?_;refine kx rfl ?_;refine BP l7 ?_;refine⟨_,rfl,mP (λc3=>?_) λc3=>?_⟩
    .lk;refine⟨.inl ⟨rfl,_,c6.of r7⟩,?_⟩;lk;refine mh r7 (cZ (m:=300) (by rw[af];lia)) ?_;have tn:∀{z:Ti×ai}{ys:List V},Ri H7 z->Ri (upd H7 r (.lst ys)) z:=λ{z ys} e=>(aF (dO e r7)).trans e;refine⟨B7.trans aV.upd,⟨rs++[e],c++[d.1.key],by rw[aC,aH];rfl,λz hz=>?_,by rw[aH,ec,ed];rfl,by rw[bj];simp;lia,?_⟩,_,rfl⟩
     .rcases aL.mp hz with q|q
      .exact tn (k7 z q)
      .rw [ax.mp q];exact tn (S7 _ _ ke0)
     .have w2:ew d.1.x d.1.y S=2:=by unfold ew;simp[c2,c3]
      rw[eF,wC hgo];unfold wB;rw[if_neg (by show¬ ew d.1.x d.1.y S=1;lia),if_pos (show ew d.1.key.1 d.1.key.2 S=2 from w2)]
      rfl
    .lk;refine eh (jq.of ke7) (v:=.int d.1.x) rfl ?_;refine kx rfl ?_;refine BP l7 ?_;refine⟨_,rfl,mP (λ_=>lz (found (by unfold ew;simp[c2,c3]))) λc4=>absurd c2 c4⟩
   .lk;refine eh (jq.of ke7) (v:=.int d.1.x) rfl ?_;refine kx rfl ?_;refine BP l7 ?_;refine⟨_,rfl,mP (λc4=>absurd c4 c2) λ_=>?_⟩;lk;refine eh (jq.of ke7) (v:=.int d.1.y) rfl ?_;refine kx rfl ?_;refine BP l7 ?_;refine⟨_,rfl,mP (λc3=>found (by unfold ew;simp[c2,c3])) λc3=>skip (by unfold ew;simp[c2,c3])⟩
  .have hF:pF i e.1=false:=by
    rw[← ed];unfold pF
    by_cases z:d.1.cj=i
    .have:d.1.wd=true:=by
      cases hw:d.1.wd
      .exact absurd ⟨by rw[z],hw⟩ c1
      .rfl
     rw[this];simp
    .rw [decide_eq_false z];rfl
   refine⟨B7,⟨rs,c,r7,k7,ec,by lia,?_⟩,_,rfl⟩;rw[et,cb,gj,hF];simp only[bN,if_false,Yc,gY];exact hgo
 .rintro Z H6 ⟨B6,⟨rs,c,g6,k6,ec,hrl,hgo⟩,o,rfl⟩;rw[af,show es2.length=(es2.map (·.1)).length from(af _).symm,bu (ay _)]at hgo;exact fin B6 g6 k6 ec hgo rfl λ{H8 P} S8 kf=>kf _ (.inl ⟨rfl,rfl⟩)
def Fb(ts:List Ti)(ps:List (Int×Int)):List Ti:=ps.foldl (λts p=>eK ts p Ti.up) ts
theorem Oe(ts:List Ti)(p q:Int×Int):eK (eK ts p Ti.up) q Ti.up=eK (eK ts q Ti.up) p Ti.up:=by
 unfold eK;rw[a7,a7];refine fH λt _=>?_
 show(if(if t.key=p then t.up else t).key=q then(if t.key=p then t.up else t).up else(if t.key=p then t.up else t))=(if(if t.key=q then t.up else t).key=p then(if t.key=q then t.up else t).up else(if t.key=q then t.up else t))
 by_cases c1:t.key=p<;>by_cases c2:t.key=q
 .rw [if_pos c1,if_pos c2,if_pos (show t.up.key=q from c2),if_pos (show t.up.key=p from c1)]
 .rw [if_pos c1,if_neg c2,if_neg (show¬ t.up.key=q from c2),if_pos c1]
 .rw [if_neg c1,if_pos c2,if_neg (show¬ t.up.key=p from c1)]
 .rw [if_neg c1,if_neg c2,if_neg c1]
theorem Rq{ps qs:List (Int×Int)}(h:ps.Perm qs):Fb ts ps=Fb ts qs:=h.foldl_eq' (λp _ q _ z=>Oe z p q) ts
theorem Gy{t:Ti}:∀{ps:List (Int×Int)}{ts:List Ti},t∈ts->t.key∉ps->t∈Fb ts ps
 | [],_,h,_=>h
 |p::ps,ts,h,hn=>Gy (ps:=ps) (ts:=eK ts p Ti.up) (aI.mpr ⟨t,h,if_neg λe:t.key=p=>hn (by rw[e];exact aj)⟩) λz=>hn (ag _ z)
theorem Jd(ts:List Ti)(ps:List (Int×Int))(p:Int×Int):Fb ts (ps++[p])=eK (Fb ts ps) p Ti.up:=by unfold Fb;rw[List.foldl_append];rfl
theorem Rr(S:List Int)(ts:List Ti):∀ps c,(ID S ps (Fb ts c) c).1=Fb ts (ID S ps (Fb ts c) c).2.1
 | [],_=>rfl
 |p::ps,c=>by
  unfold ID
  split
  .rfl
  .split
   .rw [← Jd];exact Rr S ts ps _
   .exact Rr S ts ps _
theorem Zz(l:Nat):∀(ps:List (Int×Int)) (s:TR),(ps.foldl (IC l) s).1=Fb s.1 ps
 | [],_=>rfl
 |p::ps,s=>Zz l ps (IC l s p)
theorem VE{l:Nat}:∀{ps:List (Int×Int)}{ts:List Ti},(∀p∈ps,∀t∈ts,t.key=p->t.wd=true)->KW (Fb ts ps) l false=KW ts l false
 | [],_,_=>rfl
 |p::ps,ts,h=>by
  have h2:KW (eK ts p Ti.up) l false=KW ts l false:=by
   unfold KW;rw[oZ,oZ]
   congr 3
   have hp:=h p aj
   clear h
   induction ts with
   |nil=>rfl
   |cons t ts ih=>
    have ih:=ih λu hu=>hp u (ag _ hu);unfold eK at ih ⊢;rw[aZ,gj,gj,ih]
    by_cases c:t.key=p
    .rw [if_pos c];have w:=hp t aj c;have w':t.up.wd=true:=w;rw[w,w'];rfl
    .rw [if_neg c]
  refine(VE (ps:=ps) (ts:=eK ts p Ti.up) λq hq t ht e=>?_).trans h2;obtain⟨u,hu,rfl⟩:=aI.mp ht
  by_cases c:u.key=p
  .rw [if_pos c]at e ⊢;exact h q (ag _ hq) u hu e
  .rw [if_neg c]at e ⊢;exact h q (ag _ hq) u hu e
theorem MS{L:List Ti}(pm:L.Perm ts)(od:L.Pairwise λu v=>fo (kI v) (kI u)=false)(l:Nat)(w:Bool):KW ts l w=(L.filter λt=>decide (t.wd=w) && decide (t.cj=l)).map Ti.key:=by
 unfold KW
 rw[oZ,← Al ((pm.filter _).map λu:Ti=>[0,(u.x:Int),(u.y:Int)]) (bY.mpr ((od.filter _).imp λ{u v} h=>by
  show fo (0::kI v) (0::kI u)=false
  rw[fo,if_pos rfl];exact h)),a7]
 rfl
theorem x8{S S':List Int}(h:∀z,z∈S↔z∈S'):∀ps c,wB S ps c=wB S' ps c
 | [],_=>rfl
 |p::ps,c=>by unfold wB;rw[MV h,x8 h ps,x8 h ps]
theorem Og{S S':List Int}(h:∀z,z∈S↔z∈S')(i:Nat)(L:List Ti):Ss S i L=Ss S' i L:=by unfold Ss;rw[x8 h,show pW S i=pW S' i from funext λt=>by unfold pW;rw[MV h]]
theorem Ui{S:List Int}{l:Nat}{s:TR}{L:List Ti}{c:List (Int×Int)}{fd:Option (Int×Int)}(pm:L.Perm s.1)(od:L.Pairwise λu v=>fo (kI v) (kI u)=false)(nd:(s.1.map Ti.key).Nodup)(h:Ss S l L=(c,fd)):Bb S l s=(Fb s.1 c,c,fd):=by
 have eW:Ba S l s=(L.filter (pW S l)).map Ti.key:=by
  unfold Ba;rw[MS pm od,jz,oZ]
  congr 1
  refine l8 λt _=>?_;unfold pW
  show(decide (ew t.x t.y S=2) && (decide (t.wd=true) && decide (t.cj=l)))=_
  cases t.wd<;>cases decide (ew (t.x:Int) t.y S=2)<;>cases decide (t.cj=l)<;>rfl
 have eF:KW s.1 l false=(L.filter (pF l)).map Ti.key:=by
  rw[MS pm od]
  congr 1
  refine l8 λt _=>?_;unfold pF;cases t.wd<;>cases decide (t.cj=l)<;>rfl
 have eA:KW (Fb s.1 (Ba S l s)) l false=(L.filter (pF l)).map Ti.key:=by rw[VE λp hp t ht e=>?_,eF];rw[eW]at hp;obtain⟨u,hu,rfl⟩:=aI.mp hp;obtain⟨u1,u2⟩:=bB.mp hu;rw[jR nd ht (pm.mem_iff.mp u1) e];unfold pW at u2;simp at u2;exact u2.1.2
 unfold Bb;rw[Zz,eA];have h1:=Rr S s.1 ((L.filter (pF l)).map Ti.key) (Ba S l s);have h2:=Rk S ((L.filter (pF l)).map Ti.key) (Fb s.1 (Ba S l s)) (Ba S l s);rw[show wB S ((L.filter (pF l)).map Ti.key) (Ba S l s)=(c,fd) by rw[eW];exact h]at h2;generalize ID S ((L.filter (pF l)).map Ti.key) (Fb s.1 (Ba S l s)) (Ba S l s)=g at h1 h2;obtain⟨g1,g2,g3⟩:=g;obtain⟨rfl,rfl⟩:=cp h2;exact O2 h1 rfl
theorem Uj{S:List Int}{i:Nat}{L:List Ti}{c:List (Int×Int)}{fd:Option (Int×Int)}(h:Ss S i L=(c,fd)):∀p∈c,ew p.1 p.2 S=2:=by
 have:=Gv (S:=S) (ps:=(L.filter (pF i)).map Ti.key) (c:=(L.filter (pW S i)).map Ti.key) λp hp=>by obtain⟨t,ht,rfl⟩:=aI.mp hp;have:=(bB.mp ht).2;unfold pW at this;simp at this;exact this.2
 rw[show wB S _ _=(c,fd)from h]at this;exact this
theorem Oh{S:List Int}{i:Nat}{L:List Ti}{c:List (Int×Int)}{fd:Option (Int×Int)}(hn:(L.map Ti.key).Nodup)(h:Ss S i L=(c,fd)):c.Nodup/\∀p∈c,∃t∈L,t.cj=i/\t.key=p:=by have hs:=Ap S ((L.filter (pF i)).map Ti.key) ((L.filter (pW S i)).map Ti.key);rw[show wB S _ _=(c,fd)from h]at hs;have hs:c.Sublist _:=hs;exact⟨hs.nodup (Ro hn),λp hp=>Lj (hs.subset hp)⟩
theorem Xu{S:List Int}{i:Nat}{L:List Ti}{c:List (Int×Int)}{p:Int×Int}(h:Ss S i L=(c,some p)):(∃t∈L,t.cj=i/\t.key=p)/\p∉c:=by obtain⟨h1,h2⟩:=Li h;exact⟨Lj (S:=S) (bC _ h1),λz=>by have:=Uj h p z;lia⟩
inductive iU(K:aa)(C:ai)(vs:List V)(H:Hp)(Q:VK)(E:XK):Prop
 |mk (s g:_) (n T:Nat) (ds:List (Ti×ai)) (R:_) (d:Ti×ai):vs=[.ref s,.ref g]->qz H s ds->d∈ds->H g=some (.tup [.int d.1.x,.int d.1.y])->n<=200->d.1.cj<=10->(d.1.wd=true->tu n T d.1.x d.1.y (d.1.cj+1) ((ds.map (·.1)).filter (λv=>decide (v.key≠d.1.key)),MU R d.1.cj d.1.x d.1.y))->(∀(q:ai) (us:List Tt) (ds':List (Ti×ai)) H',aV s H H'->H q=none->H' q=some (.lst (us.map kE))->(∀v∈us,pR H' v)->us.map row=(kB d.1 (ds.map (·.1),R)).1->qz H' s ds'->ds'.map (·.1)=(kB d.1 (ds.map (·.1),R)).2.1->Q (.ref q) H')->iU K C vs H Q E
theorem Gz:Rn (iU K C) (y3 K C (fq K C) (fZ K C)) Zq:=by
 rintro vs H Q E ⟨s,g,n,T,ds,R,d,rfl,h,hd,hg,hn,hlev,hT,k⟩;unfold y3;lk;refine⟨.inr (.inr (.inl ⟨rfl,.inr ⟨_,h.o⟩⟩)),?_⟩;lk;refine⟨s,_,pk d.1.x d.1.y,g,.ref d.2,rfl,rfl,h.o,hg,BM h.nd hd,?_⟩;have h1:=h.drop (d:=d);have B1:aV s H (upd H s (.dT (mf (ds.map Gr) (pk d.1.x d.1.y)))):=aV.upd;generalize upd H s (.dT (mf (ds.map Gr) (pk d.1.x d.1.y)))=H1 at h1 B1;have nT:∀{b:ai}{xs:List V},H b=some (.tup xs)->b≠s:=λe=>dO e h.o;have dv:=B1 _ _ (h.e d hd) (nT (h.e d hd));have hg1:=B1 _ _ hg (nT hg);refine qS (.of dv) rfl ?_;lk;refine⟨nW,λtr htr=>?_⟩;generalize eu_:upd _ tr _=H2;obtain⟨S2,g2⟩:=ig eu_ htr;have h2:=h1.same S2;have hg2:=S2 _ _ hg1
 have htr0:H tr=none:=by
  cases z:H tr with
  |none=>rfl
  |some o=>
   by_cases c:tr=s
   .rw [c,h1.o]at htr;cases htr
   .rw [B1 _ _ z c]at htr;cases htr
 have nst:s≠tr:=dO h2.o g2;generalize ef:((ds.map (·.1)).filter λv=>decide (v.key≠d.1.key))=tf at hT
 have e2:(ds.filter λu=>decide (u.1.key≠d.1.key)).map (·.1)=tf:=by rw[Ug,ef]
 have SH:∀{H3:Hp},Fm [s,tr] H2 H3->aV s H H3:=λ{H3} F b o e hb=>F _ _ (by simp only[aw,cX,or_false,not_or];exact⟨hb,aT e htr0⟩) (S2 _ _ (B1 _ _ e hb));lk;unfold t8
 cases hw:d.1.wd with
 |false=>
  refine qR (λZ H3=>H3=H2/\Z=[some (.ref s),some (.ref g),some (.int d.1.cj),some (.bl false),some (.ref tr),none,none,none,none]) (λ_ _=>0) ⟨rfl,rfl⟩ ?_;rintro Z H3 ⟨rfl,rfl⟩;lk;refine⟨_,rfl,kg (kg ?_)⟩;lk
  have eg:kB d.1 (ds.map (·.1),R)=([],(tf,R)):=by unfold kB;rw[if_neg (by rw[hw];decide),← ef]
  exact k tr [] _ _ (SH Fm.refl) htr0 g2 (λv hv=>nomatch hv) (by rw[eg];rfl) h2 (by rw[eg];exact e2)
 |true=>
  have hT:=hT hw
  have eg:kB d.1 (ds.map (·.1),R)=jY d.1.x d.1.y (d.1.cj+1) (tf,MU R d.1.cj d.1.x d.1.y):=by unfold kB;rw[if_pos hw,← ef]
  rw[eg]at k
  refine qR (λZ H3=>∃(kk:Nat) (us:List Tt) (s1:TR) (ds1:List (Ti×ai)) (o5 o6 o7 o8:Option V),Z=[some (.ref s),some (.ref g),some (.int ((kk:Int)-1)),some (.bl true),some (.ref tr),o5,o6,o7,o8]/\qz H3 s ds1/\ds1.map (·.1)=s1.1/\H3 tr=some (.lst (us.map kE))/\(∀v∈us,pR H3 v/\v.q≠tr/\v.s≠tr)/\Fm [s,tr] H2 H3/\us.length+kk<=11/\(us.map row++(jY d.1.x d.1.y kk s1).1,(jY d.1.x d.1.y kk s1).2)=jY d.1.x d.1.y (d.1.cj+1) (tf,MU R d.1.cj d.1.x d.1.y)/\tu n T d.1.x d.1.y kk s1)
   (λZ _=>match Z with|[_,_,some (.int lv),_,_,_,_,_,_]=>(lv+1).toNat|_=>0) ?_ ?_
  .exact ⟨d.1.cj+1,[],_,_,_,_,_,_,by rw[show((d.1.cj+1:Nat):Int)-1=d.1.cj by lia];rfl,h2,e2,g2,(λv hv=>nomatch hv),Fm.refl,by simp;lia,rfl,hT⟩
  rintro Z H3 ⟨kk,us,s1,ds1,o5,o6,o7,o8,rfl,h3,e3,g3,u3,F3,hl3,ht3,tk⟩;have tup:∀{b:ai}{xs:List V},H2 b=some (.tup xs)->H3 b=some (.tup xs):=λ{b xs} e=>F3 _ _ (by simp only[aw,cX,or_false,not_or];exact⟨dO e h2.o,dO e g2⟩) e;have hg3:=tup hg2;lk;refine⟨_,rfl,lz ?_⟩;lk;refine mP (λc=>⟨_,ME,?_⟩) λc=>?_;rotate_left
  .lk
   have:kk=0:=by lia
   subst this;rw[show jY d.1.x d.1.y 0 s1=([],s1)from rfl,gY]at ht3;exact k tr us ds1 H3 (SH F3) htr0 g3 (λv hv=>(u3 v hv).1) (by rw[← ht3]) h3 (by rw[← ht3];exact e3)
  obtain⟨m,rfl⟩:∃m,kk=m+1:=⟨kk-1,by lia⟩
  rw[show((m+1:Nat):Int)-1=(m:Int) by lia];obtain⟨D,tk⟩:=tk
  have Lv1:Lv n T (ds1.map (·.1)) s1.2:=by rw[e3];exact D.lv
  lk;refine⟨s,g,m,d.1.x,d.1.y,n,T,ds1,s1.2,rfl,h3,hg3,Lv1,by have:=D.hk;lia,D.ha,D.hb,hn,λl S H4 hl S4 eS g4 mS=>?_⟩;lk;refine⟨s,l,m,CW S,ds1,rfl,h3.same S4,g4,λp q rs f L cc fd H5 S5 pm od hdu g5 gq pz es ep hf hq4=>?_⟩;refine qS (.of g5) rfl ?_;rw[Og mS]at hdu;rw[e3]at pm
  have nd1:(s1.1.map Ti.key).Nodup:=by rw[← e3];exact h3.nd
  have lk:=Ui (s:=s1) pm od nd1 hdu;have ndL:(L.map Ti.key).Nodup:=(pm.map Ti.key).nodup_iff.mpr nd1;obtain⟨cn,cin⟩:=Oh ndL hdu
  have z1:∀z∈rs,z.1=pl (pr z)/\pr z∈cc:=λz hz=>by have:=ep.mem_iff.mp (aN (f:=(·.1)) hz);obtain⟨p,hp,e⟩:=aI.mp this;have e:pl p=z.1:=e;unfold pr;rw[← e];exact⟨rfl,hp⟩
  have pp:(rs.map pr).Perm cc:=by
   have:=ep.map λz:List Int=>((z.getD 0 0,z.getD 1 0):Int×Int)
   rw[a7,a7]at this;exact this.trans (.of_eq (List.map_id' cc))
  have S35:=S4.trans S5;have h5:=h3.same S35;have nq:∀{b:ai}{xs:List V},H5 b=some (.lst xs)->b≠s:=λe=>dO e h5.o;have nt5:∀{b:ai}{xs:List V},H5 b=some (.tup xs)->b≠s:=λe=>dO e h5.o;lk;unfold t7;lk
  have hql:rs.length<=99:=by
   have:=pp.length_eq;rw[af]at this
   have:=qX (m:=s1.1.map Ti.key) cn λp hp=>by obtain⟨t,ht,_,e⟩:=cin p hp;exact e▸aN (pm.mem_iff.mp ht)
   rw[af,← e3,af]at this;have:=h3.l;lia
  refine .inl ⟨⟨_,c6.of gq⟩,i6 (K:=K) (a:=q) (xs:=rs.map mG) (λj Z H6=>∃(ds2:List (Ti×ai)) (o8:Option V),Z=[some (.ref s),some (.ref g),some (.int m),some (.bl true),some (.ref tr),some (.ref l),some (.ref q),some f,o8]/\qz H6 s ds2/\ds2.map (·.1)=Fb s1.1 ((rs.map pr).take j)/\aV s H5 H6) ⟨ds1,_,rfl,h5,e3,aV.refl _ _⟩ ?_ ?_ ?_⟩
  .rintro j Z H6 _ ⟨ds2,_,_,_,_,B6⟩;exact c6.of (B6 _ _ gq (nq gq))
  .rintro j v Z H6 hj ⟨ds2,o8,rfl,h6,e6,B6⟩;obtain⟨z,hz,rfl⟩:=gm hj;have hzm:=aP hz;obtain⟨y1,y2⟩:=z1 z hzm;obtain⟨t,htL,htl,htk⟩:=cin _ y2
   have hpj:(rs.map pr)[j]?=some (pr z):=by rw[aG,hz];rfl
   have hnj:pr z∉(rs.map pr).take j:=λhm=>by have hnd:=pp.nodup_iff.mpr cn;rw[← dr j (rs.map pr),du]at hnd;obtain⟨hjl,hje⟩:=av.mp hpj;exact hnd.2.2 _ hm _ (by rw[← lY hjl,hje];exact aj) rfl
   have htm:t∈ds2.map (·.1):=by rw[e6];exact Gy (pm.mem_iff.mp htL) (by rw[htk];exact hnj)
   obtain⟨d2,hd2,ed2⟩:=aI.mp htm;have ed2:d2.1=t:=ed2;subst ed2
   have hzt:H6 z.2=some (.tup [.int d2.1.x,.int d2.1.y]):=by have e5:=pz z hzm;rw[y1,← htk]at e5;exact B6 _ _ e5 (nt5 e5)
   lk;refine BN h6 hd2 hzt ?_;lk;refine eh (jq.of (h6.e d2 hd2)) (v:=.bl d2.1.wd) rfl ?_;lk;refine⟨nW,λc' hc'=>?_⟩;rw[show(m:Int)+1=((d2.1.up.cj:Nat):Int) by show(m:Int)+1=((d2.1.cj+1:Nat):Int);lia];have S7:=bU.cw (o:=.tup [.int d2.1.up.cj,.bl d2.1.wd]) hc';have g7:(upd H6 c' (.tup [.int d2.1.up.cj,.bl d2.1.wd])) c'=some (.tup [.int d2.1.up.cj,.bl d2.1.up.wd]):=aC;generalize upd H6 c' (.tup [.int d2.1.up.cj,.bl d2.1.wd])=H7 at S7 g7;have h7:=h6.same S7;lk;refine .inr ⟨s,_,rfl,tw.t (k:=pk d2.1.x d2.1.y) h7.o (S7 _ _ hzt) (cZ (m:=100) (by rw[af];have:=h7.l;lia)),?_⟩;refine⟨_,_,rfl,h7.set hd2 (f:=Ti.up) (λ_=>rfl) g7,?_,(B6.trans (aV.same S7)).trans aV.upd⟩;rw[Gu,e6,cH,hpj,htk];exact(Jd _ _ _).symm
  rintro Z H6 ⟨ds2,o8',rfl,h6,e6,B6⟩;rw[af,show rs.length=(rs.map pr).length from(af _).symm,bu (ay _),Rq pp]at e6;have F36:Fm [s,tr] H3 H6:=(Fm.of S35).trans (Fm.but aj B6);have g6:H6 tr=some (.lst (us.map kE)):=B6 _ _ (S35 _ _ g3) (Ne.symm nst);have gq6:=B6 _ _ gq (nq gq);have gl6:=B6 _ _ (S5 _ _ g4) (nq (S5 _ _ g4));have tup6:∀{b:ai}{xs:List V},H5 b=some (.tup xs)->H6 b=some (.tup xs):=λe=>B6 _ _ e (nt5 e)
  have nltr:l≠tr:=λz=>by rw[z,g3]at hl;cases hl
  lk;refine⟨.inl ⟨rfl,_,c6.of g6⟩,?_⟩;lk;refine⟨nW,λvp hvp=>?_⟩;generalize eu_:upd _ vp _=H7;obtain⟨S7,g7⟩:=ig eu_ hvp;lk;refine mh (S7 _ _ g6) (cZ (m:=100) (by rw[af];lia)) ?_
  have nqtr:q≠tr:=λz=>by rw[z,S4 _ _ g3]at hq4;cases hq4
  have h8:=(h6.same S7).but (aV.upd (o:=.lst (us.map kE++[.ref vp]))) (S7 _ _ g6);have B8:aV tr H7 (upd H7 tr (.lst (us.map kE++[.ref vp]))):=aV.upd
  have g8:(upd H7 tr (.lst (us.map kE++[.ref vp]))) tr=some (.lst ((us++[(⟨vp,l,q,CW S,rs,f,m,fd⟩:Tt)]).map kE)):=by rw[aC,aH];rfl
  generalize upd H7 tr (.lst (us.map kE++[.ref vp]))=H8 at h8 B8 g8;have tup8:∀{b:ai}{xs:List V},H7 b=some (.tup xs)->H8 b=some (.tup xs):=λe=>B8 _ _ e (dO e (S7 _ _ g6));have tup58:∀{b:ai}{xs:List V},H5 b=some (.tup xs)->H8 b=some (.tup xs):=λe=>tup8 (S7 _ _ (tup6 e));have hf8:Fd H8 f fd:=hf.same λb xs e=>tup58 e
  have u8:∀w∈us++[(⟨vp,l,q,CW S,rs,f,m,fd⟩:Tt)],pR H8 w/\w.q≠tr/\w.s≠tr:=λw hw=>by
   rcases aL.mp hw with hw|hw
   .obtain ⟨ow,o3,o6⟩:=u3 w hw;have mvL:∀{b:ai}{xs:List V},b≠tr->H3 b=some (.lst xs)->H8 b=some (.lst xs):=λhb e=>B8 _ _ (S7 _ _ (B6 _ _ (S35 _ _ e) (nq (S35 _ _ e)))) hb;exact⟨ow.mv (λb xs e=>tup58 (S35 _ _ e)) (mvL o3 ow.h2) (mvL o6 ow.h3),o3,o6⟩
   .rw [ax.mp hw];exact⟨⟨tup8 g7,B8 _ _ (S7 _ _ gq6) nqtr,B8 _ _ (S7 _ _ gl6) nltr,hf8,λz hz=>tup58 (pz z hz)⟩,nqtr,nltr⟩
  have F8:Fm [s,tr] H2 H8:=((F3.trans F36).trans (Fm.of S7)).trans (Fm.but (ag _ aj) B8)
  have hl8:(us++[(⟨vp,l,q,CW S,rs,f,m,fd⟩:Tt)]).length+m<=11:=by rw[bj];simp;lia
  have er:row ⟨vp,l,q,CW S,rs,f,m,fd⟩=⟨m,CW S,xR (cc.map pl),fd⟩:=by unfold row;rw[← es]
  lk
  rcases hf8 with⟨rfl,rfl⟩|⟨p',b,rfl,rfl,hb⟩
  .have hk:kA d.1.x d.1.y m s1=(⟨m,CW S,xR (cc.map pl),none⟩,(Fb s1.1 cc,((Ba S m s1).foldl (IC m) s1).2)):=Bc eS lk rfl;refine PR (λc=>absurd rfl c) λ_=>?_;lk;refine⟨⟨m,us++[(⟨vp,l,q,CW S,rs,.non,m,none⟩:Tt)],(Fb s1.1 cc,((Ba S m s1).foldl (IC m) s1).2),ds2,_,_,_,_,rfl,h8,e6,g8,u8,F8,hl8,?_,?_⟩,?_⟩
   .rw [aH,cI,← ht3,Be hk.symm rfl,aZ,er];rfl
   .rw [hk]at tk;exact tk rfl
   .show ((m:Int)-1+1).toNat<((m:Int)+1).toNat
    lia
  .have hk:kA d.1.x d.1.y m s1=(⟨m,CW S,xR (cc.map pl),some p'⟩,(eK (Fb s1.1 cc) p' Ti.oP,A9 ((Ba S m s1).foldl (IC m) s1).2 m p'.1.toNat p'.2.toNat)):=Bd eS lk rfl;obtain⟨⟨t,htL,htl,htk⟩,hpc⟩:=Xu hdu
   have htm:t∈ds2.map (·.1):=by rw[e6];exact Gy (pm.mem_iff.mp htL) (by rw[htk];exact hpc)
   obtain⟨d2,hd2,ed2⟩:=aI.mp htm;have ed2:d2.1=t:=ed2;subst ed2
   have hb:H8 b=some (.tup [.int d2.1.x,.int d2.1.y]):=by rw[← htk]at hb;exact hb
   refine PR (λ_=>?_) λc=>nomatch c;lk;refine⟨nW,λc' hc'=>?_⟩;rw[show(m:Int)-1+1=((d2.1.oP.cj:Nat):Int) by show(m:Int)-1+1=(d2.1.cj:Int);lia];have S9:=bU.cw (o:=.tup [.int d2.1.oP.cj,.bl true]) hc';have g9:(upd H8 c' (.tup [.int d2.1.oP.cj,.bl true])) c'=some (.tup [.int d2.1.oP.cj,.bl d2.1.oP.wd]):=aC;generalize upd H8 c' (.tup [.int d2.1.oP.cj,.bl true])=H9 at S9 g9;have h9:=h8.same S9;lk;refine .inr ⟨s,_,rfl,tw.t (k:=pk d2.1.x d2.1.y) h9.o (S9 _ _ hb) (cZ (m:=100) (by rw[af];have:=h9.l;lia)),?_⟩;have hA:=h9.set hd2 (f:=Ti.oP) (λ_=>rfl) g9;have BA:aV s H9 (upd H9 s (.dT (i7 (ds2.map Gr) (pk d2.1.x d2.1.y) (.ref c')))):=aV.upd;generalize upd H9 s (.dT (i7 (ds2.map Gr) (pk d2.1.x d2.1.y) (.ref c')))=HA at hA BA;lk
   have nA:∀{b:ai}{o:HO},H9 b=some o->(∀u,o≠.dT u)->HA b=some o:=λ{b o} e ho=>BA _ _ e λz=>by rw[z,h9.o]at e;exact ho _ (aX e).symm
   refine⟨⟨0,us++[(⟨vp,l,q,CW S,rs,.ref b,m,some p'⟩:Tt)],(eK (Fb s1.1 cc) p' Ti.oP,A9 ((Ba S m s1).foldl (IC m) s1).2 m p'.1.toNat p'.2.toNat),Le ds2 d2.1.key Ti.oP c',_,_,_,_,rfl,hA,by rw[Gu,e6,htk],nA (S9 _ _ g8) (λ_ z=>nomatch z),λw hw=>?_,(F8.trans (Fm.of S9)).trans (Fm.but aj BA),by lia,?_,trivial⟩,?_⟩
   .obtain ⟨ow,o3,o6⟩:=u8 w hw;exact⟨(ow.same S9).mv (λb xs e=>nA e (λ_ z=>nomatch z)) (nA (S9 _ _ ow.h2) (λ_ z=>nomatch z)) (nA (S9 _ _ ow.h3) (λ_ z=>nomatch z)),o3,o6⟩
   .rw [← ht3,Bg hk.symm nofun,aH,aZ,er];rw[show jY d.1.x d.1.y 0 _=([],_)from rfl,gY];rfl
   .show ((-1:Int)+1).toNat<((m:Int)+1).toNat
    lia
theorem ZA{R:Nat->List Int}{ps qs:List (Int×Int)}(h:Kw n R ps)(e:∀p,p∈qs↔p∈ps):Kw n R qs:=⟨h.w,λp hp=>h.j p ((e p).mp hp),λu v he=>(h.e u v he).imp (e _).mpr (e _).mpr⟩
inductive iV(K:aa)(C:ai)(vs:List V)(H:Hp)(Q:VK)(E:XK):Prop
 |mk (s g:_) (n x y:Nat) (ds:List (Ti×ai)) (R:_):vs=[.ref s,.ref g]->qz H s ds->H g=some (.tup [.int x,.int y])->Kw n R ((ds.map (·.1)).map Ti.key)->x<n->n<=200->(R x).length<=250->ds.length<98->((x:Int),(y:Int))∉(ds.map (·.1)).map Ti.key->(∀(c:ai) (b:Bool) H',b=!decide ((y:Int)∈R x)->aV s H H'->qz H' s (ds++[(⟨x,y,0,b⟩,c)])->Q (.bl b) H')->iV K C vs H Q E
theorem GA:Rn (iV K C) (yZ K C (eQ K C)) Vt:=by
 rintro vs H Q E ⟨s,g,n,x,y,ds,R,rfl,h,hg,kw,hx,hn,hR,hl,hk,k⟩;unfold yZ;lk;refine eh (jq.of hg) (v:=.int y) rfl ?_;lk;refine h.sorted λl es hl1 pm fl od=>?_;generalize eu_:upd _ l _=H1;obtain⟨S1,g1⟩:=ig eu_ hl1
 have hle:es.length=ds.length:=by have:=pm.length_eq;simpa using this
 rw[← Lh]at g1;lk;refine eh (jq.of (S1 _ _ hg)) (v:=.int x) rfl ?_;lk;refine⟨l,x,n,R,es.map zK,rfl,g1,λz hz=>?_,by rw[VD];exact ZA kw λp=>(pm.map Ti.key).mem_iff,hx,hn,by rw[af];lia,hR,λl2 H2 hl2 g2 S2 e2 m2=>?_⟩
 .obtain ⟨e,he,rfl⟩:=aI.mp hz;exact VC (S1 _ _ (fl e he))
 refine Ia (Rep.int y) (vO (c6.of g2)) (Lg _) (fQ _ (nC _)) ?_;rw[any_ints,decide_eq_decide.mpr (m2 y)];have h2:=h.same (S1.trans S2);have hg2:=(S1.trans S2) _ _ hg;lk;refine⟨nW,λc hc=>?_⟩;generalize eu_:upd _ c _=H3;obtain⟨S3,g3⟩:=ig eu_ hc;have h3:=h2.same S3;lk;refine .inr ⟨s,_,rfl,tw.t (k:=pk x y) h3.o (S3 _ _ hg2) (cZ (m:=100) (by rw[af];lia)),?_⟩;have h4:=h3.add (d:=(⟨x,y,0,!decide ((y:Int)∈R x)⟩,c)) hl hk g3;lk;exact k c _ _ rfl ((aV.same ((S1.trans S2).trans S3)).trans aV.upd) h4
def Xv(z:List Int):PyData:=.tuple (z.map .int)
def Xw:Option (Int×Int)->PyData
 |none=>.none
 |some p=>Am p
def VF(r:Rw):PyData:=.tuple [.int r.lv,.list (r.sd.map .int),.list (r.rs.map Xv),Xw r.fd]
theorem Rt:∀{rs:List Zn},(∀z∈rs,H z.2=some (.tup (z.1.map V.int)))->dY K H ((rs.map (·.1)).map Xv) (rs.map mG)
 | [],_=>.nil
 |z::rs,h=>.cons (.tup (.of (h z aj)) (dY.ints z.1)) (Rt λy hy=>h y (ag _ hy))
theorem Xx{f:V}{o:Option (Int×Int)}(h:Fd H f o):Rep K H (Xw o) f:=by
 rcases h with⟨rfl,rfl⟩|⟨p,b,rfl,rfl,hb⟩
 .unfold Xw;simp only[Rep]
 .exact Gc hb
theorem Ll:∀{us:List Tt},(∀u∈us,pR H u)->dY K H ((us.map row).map VF) (us.map kE)
 | [],_=>.nil
 |u::us,h=>.cons (.tup (.of (h u aj).h1) (.cons (.int _) (.cons (vO (c6.of (h u aj).h3)) (.cons (.lst (c6.of (h u aj).h2) (Rt (h u aj).h5)) (.cons (Xx (h u aj).h4) .nil))))) (Ll λy hy=>h y (ag _ hy))
theorem BQ(z:List Int):cm (z.map .int)=true:=fQ _ (nC z)
theorem Ru:∀rs:List (List Int),cm (rs.map Xv)=true
 | []=>rfl
 |z::rs=>by simp only[aZ,cm,gp];exact⟨by simp only[Xv,ic];exact BQ z,Ru rs⟩
theorem Ry:∀rs:List (List Int),cu (rs.map Xv)<=3
 | []=>by simp[cu]
 |z::rs=>by
  have:=Ry rs;have h1:=uO z;simp only[aZ,cu]
  have e:(Xv z).depth<=3:=by simp only[Xv,gA];lia
  lia
theorem Uk(r:Rw):(VF r).canLay0=true/\(VF r).depth<=6:=by
 obtain⟨lv,sd,rs,fd⟩:=r;have h1:=Ry rs;have h2:=uO sd
 have h3:(Xw fd).canLay0=true/\(Xw fd).depth<=3:=by
  cases fd with
  |none=>exact⟨rfl,by simp[Xw,gA]⟩
  |some p=>exact⟨(An p).lay,by simp[Xw,Am,gA,cu]⟩
 constructor
 .simp only[VF,ic,cm,BQ,Ru,h3.1,Bool.and_true,Bool.and_self]
 .have h4:=h3.2;simp only[VF,gA,cu];lia
theorem GB(L:List Rw):uM (.list (L.map VF)):=by
 have h:cm (L.map VF)=true/\cu (L.map VF)<=6:=by
  induction L with
  |nil=>exact⟨rfl,by simp[cu]⟩
  |cons r L ih=>
   have:=Uk r;refine⟨by simp only[aZ,cm,gp];exact⟨this.1,ih.1⟩,?_⟩;simp only[aZ,cu];have h1:=this.2;have h2:=ih.2;lia
 exact⟨by simp only[ic];exact h.1,by have:=h.2;simp only[gA];lia⟩
theorem ZC{q q':ai}{us vs:List Tt}(g:H q=some (.lst (us.map kE)))(g':H q'=some (.lst (vs.map kE)))(h:∀u∈us,pR H u)(h':∀u∈vs,pR H u)(e:us.map row=vs.map row)(k:Q (.bl true) H):kL K (.ref q) (.ref q') H Q:=by refine P8 (.lst (c6.of g) (Ll h)) (.lst (c6.of g') (Ll h')) (GB _) (GB _) ?_;rw[e,Yd _ (GB _).lay];exact k
inductive bT(K:aa)(C:ai)(vs:List V)(H:Hp)(Q:VK)(E:XK):Prop
 |mk (s:_) (n:Nat) (c:Int) (ds:List (Ti×ai)):vs=[.ref s,.int n,.int c]->qz H s ds->1<=n->n<=200->(∀H',bU H H'->Q .non H')->(∀(t r:ai) (w:bF) (x y:Nat) (H':Hp),bU H H'->H' t=some (.tup [.str w,.ref r])->H' r=some (.tup [.int x,.int y])->x<y->y<n->(w="out"/\((x:Int),(y:Int))∈(ds.map (·.1)).map Ti.key)\/(w="put"/\((x:Int),(y:Int))∉(ds.map (·.1)).map Ti.key)->Q (.ref t) H')->bT K C vs H Q E
theorem zM:Rn (bT K C) (rm K C) Vm:=by
 rintro vs H Q E ⟨s,n,c,ds,rfl,h,hn1,hn2,kN,k⟩;obtain⟨a,ea,ha⟩:=em (n:=n) (by lia) (c/(n:Int));obtain⟨b,eb,hb⟩:=em (n:=n) (by lia) c;unfold rm;lk;rw[ea,eb];rw[show(if(b:Int)<a then(b:Int)else a)=((min a b:Nat):Int) by split<;>lia,show(if(b:Int)>a then(b:Int)else a)=((max a b:Nat):Int) by split<;>lia];refine⟨nW,λt ht=>?_⟩;have S4:=bU.cw (o:=.tup [.int (min a b:Nat),.int (max a b:Nat)]) ht;have g4:(upd H t (.tup [.int (min a b:Nat),.int (max a b:Nat)])) t=some (.tup [.int (min a b:Nat),.int (max a b:Nat)]):=aC;generalize upd H t (.tup [.int (min a b:Nat),.int (max a b:Nat)])=H4 at S4 g4 ⊢;have h4:=h.same S4;lk;refine mP (λ_=>?_) λhab=>?_
 .lk;exact kN _ S4
 .have hab:a≠b:=λe=>hab (by rw[e]);lk;refine .inr ⟨s,_,rfl,vf.t (k:=pk (min a b) (max a b)) h4.o g4,?_⟩
  have fin:∀w:bF,(w="out"/\(((min a b:Nat):Int),((max a b:Nat):Int))∈(ds.map (·.1)).map Ti.key)\/(w="put"/\(((min a b:Nat):Int),((max a b:Nat):Int))∉(ds.map (·.1)).map Ti.key)->∀q,H4 q=none->Q (.ref q) (upd H4 q (.tup [.str w,.ref t])):=λw hw q hq =>have S5:=bU.cw (o:=.tup [.str w,.ref t]) hq
   k q t w _ _ _ (S4.trans S5) aC (S5 _ _ g4) (by lia) (by lia) hw
  by_cases hk:(((min a b:Nat):Int),((max a b:Nat):Int))∈(ds.map (·.1)).map Ti.key
  .obtain ⟨u,hu,eu⟩:=aI.mp hk;obtain⟨d,hd,rfl⟩:=aI.mp hu;have:=BM h.nd hd;rw[show pk d.1.x d.1.y=pk (min a b) (max a b)from nO.mpr eu]at this;rw[this];lk;refine lz ?_;lk;exact⟨nW,λq hq=>fin "out" (.inl ⟨rfl,hk⟩) q hq⟩
  .rw [Gs hk];lk;refine kg ?_;lk;exact⟨nW,λq hq=>fin "put" (.inr ⟨rfl,hk⟩) q hq⟩
theorem ZD{i j:Nat}{ta:TA}{D:vA}{Z:L2.St}(h:ta Z H λvs H1=>∃v w,vs=[v,w]/\D.nx ((Z.set i (some v)).set j (some w)) H1):Wn i j ta D Z H:=h
section
variable{s:ai}{ds:List (Ti×ai)}
theorem KP.tup(h:KP C A H p dx a n T ts as R)(hP:pP Pt H)(F:Fm (p::Pt::fp a) H H'){b:ai}{xs:List V}(e:H b=some (.tup xs)):H' b=some (.tup xs):=F _ _ (λz=>by
 obtain⟨fs,hp⟩:=h.p0
 rcases aw.mp z with z|z
 .exact (dO e hp) z
 .exact (aw.mp z).elim (hP.ne e (λ_ z=>nomatch z)) (h.lv.tq e)) e
theorem KP.state(h:KP C A H p dx a n T ts as R)(hP:pP Pt H)(F:Fm (p::Pt::fp a) H H')(hS:qz H s ds)(hn:s∉a.L::fp a):qz H' s ds:=by
 obtain⟨fs,hp⟩:=h.p0;refine⟨F _ _ (λz=>?_) hS.o,λd hd=>h.tup hP F (hS.e d hd),hS.nd,hS.l⟩
 rcases aw.mp z with z|z
 .exact (dO hS.o hp) z
 .exact (aw.mp z).elim (hP.ne hS.o (λ_ z=>nomatch z)) λz=>hn (ag _ z)
theorem KP.RV(h:KP C A H p dx a n T ts as R){u:List (List dJ×V)}(hd:H s=some (.dT u))(hn:s∉a.L::fp a)(B:aV s H H'):KP C A H' p dx a n T ts as R:=
 h.keep (X:=[s]) (Fm.but aj B) (λb hb z=>by
  rw[ax.mp hb]at z
  rcases aw.mp z with rfl|z
  .obtain ⟨fs,hp⟩:=h.p0;rw[hd]at hp;cases hp
  .exact hn z) λb hb=>by
  rw[ax.mp hb,hd];exact⟨(λ_ _ _ z=>nomatch z),(λ_ _ z=>nomatch z)⟩
theorem pP.RV(h:pP Pt H){u:List (List dJ×V)}(hd:H s=some (.dT u))(B:aV s H H'):pP Pt H':=h.keep λb o h1 _ _ _ e=>B b o e λz=>by rw[z,hd]at e;exact h1 _ (aX e).symm
end
inductive cf(K:aa)(C:ai)(A:CA)(Pt:ai)(vs:List V)(H:Hp)(Q:VK)(E:XK):Prop
 |mk (p dx s dd r a:_) (n T:Nat) (ts as R:_) (ds:List (Ti×ai)) (w:bF) (x y:Nat) (bk:Bool):vs=[.ref p,.ref s,.ref dd,.bl bk]->E7 K C A->KP C A H p dx a n T ts as R->qz H s ds->ds.map (·.1)=ts->s∉a.L::fp a->pP Pt H->n<=200->ts.length<98->H dd=some (.tup [.str w,.ref r])->H r=some (.tup [.int x,.int y])->x<y->y<n->((w="out"/\((x:Int),(y:Int))∈ts.map Ti.key)\/(w="put"/\((x:Int),(y:Int))∉ts.map Ti.key))->(∀(ts':List Ti) (as':Nat->List ai) (R':Nat->Nat->List Int) (ds':List (Ti×ai)) H',KP C A H' p dx a n T ts' as' R'->qz H' s ds'->ds'.map (·.1)=ts'->pP Pt H'->Fm (s::p::Pt::fp a) H H'->ts'.length<=ts.length+1->(w="put"->ts'.map Ti.key=ts.map Ti.key++[((x:Int),(y:Int))])->Q (.bl true) H')->cf K C A Pt vs H Q E
theorem Dw:Rn (cf K C A Pt) (wj K C A (gW K C A) (iT K C A Pt) (iU K C) (iV K C)) Zu:=by
 rintro vs H Q E ⟨p,dx,s,dd,r,a,n,T,ts,as,R,ds,w,x,y,bk,rfl,ct,h,hS,ets,hs,hP,hn,hl,hdd,hr,hxy,hy,hw,k⟩;obtain⟨w0,c1,c2,c3,c4,hw0,hp⟩:=h.ob;unfold wj;lk;refine eh (jq.of hdd) (v:=.ref r) rfl ?_;refine qS (.of hr) rfl ?_;lk
 suffices go:∀i j:Nat,i<n->j<n->i≠j->min i j=x->max i j=y->nI K C A (gW K C A) (iT K C A Pt) (iU K C) (iV K C) { nx:=λ_ H'=>Q .non H',rt:=Q } [some (.ref p),some (.ref s),some (.ref dd),some (.bl bk),some (.int i),some (.int j),none] H by
  refine⟨_,rfl,?_⟩
  cases bk with
  |true=>
   refine lz ?_;refine ZD ?_;lk;refine⟨_,_,rfl,?_⟩
   exact go y x (by lia) (by lia) (by lia) (by lia) (by lia)
  |false=>exact kg (go x y (by lia) (by lia) (by lia) (by lia) (by lia))
 intro i j hi hj hij emn emx;unfold nI
 have htk:((x:Int),(y:Int))=(((min i j:Nat):Int),((max i j:Nat):Int)):=by rw[emn,emx]
 have FS:∀{H3 H4:Hp},Fm (p::Pt::fp a) H H3->aV s H3 H4->Fm (s::p::Pt::fp a) H H4:=λF B=>F.tail.trans (Fm.but aj B)
 rcases hw with⟨rfl,hk⟩|⟨rfl,hk⟩
 .obtain ⟨u0,hu0,eu0⟩:=aI.mp hk;lk;refine eh (jq.of hdd) (v:=.str "out") rfl ?_;lk;refine .inl ⟨rfl,_,rfl,mP (λc=>absurd (V.str.inj c) (by decide)) λ_=>?_⟩;k_in;refine⟨p,dx,_,rfl,hp,OV,?_⟩;lk;refine⟨p,dx,a,n,T,ts,as,R,i,j,rfl,ct,h,hn,hi,hj,hij,htk▸hk,by lia,hP,λq us u as' H3 hu eu gq oks hlu hrow h3 hlen ho P3 F3=>?_⟩;rw[← htk]at eu;obtain⟨ex,ey⟩:=cp eu
  have ex:u.x=x:=by lia
  have ey:u.y=y:=by lia
  have hS3:=h.state hP F3 hS hs;rw[← ets]at hu;obtain⟨d,hd,ed⟩:=aI.mp hu;have ed:d.1=u:=ed;subst ed;have hlv:=(h.iv.lt d.1 (by rw[← ets];exact hu)).2.2;have hT8:=h.tp.small (by lia);lk;refine eh (jq.of (h.tup hP F3 hdd)) (v:=.ref r) rfl ?_;lk;refine⟨s,r,n,T,ds,R,d,rfl,hS3,hd,by rw[ex,ey];exact h.tup hP F3 hr,hn,by lia,by rw[ets];exact ho,λq' us' ds' H4 B4 hq' gq' ok' hrow' h4 e4=>?_⟩;rw[ets]at hrow' e4
  have n4:∀{b:ai}{o:HO},H3 b=some o->(∀u,o≠.dT u)->H4 b=some o:=λ{b o} e ho=>B4 _ _ e λz=>by rw[z,hS3.o]at e;exact ho _ (aX e).symm
  refine ZC (n4 gq (λ_ z=>nomatch z)) gq' (λv hv=>(oks v hv).mv (λb xs e=>n4 e (λ_ z=>nomatch z)) (n4 (oks v hv).h2 (λ_ z=>nomatch z)) (n4 (oks v hv).h3 (λ_ z=>nomatch z))) ok' (hrow.trans hrow'.symm) ?_;exact k _ as' _ ds' H4 (h3.RV hS3.o hs B4) h4 e4 (P3.RV hS3.o B4) (FS F3 B4) (by lia) λe=>absurd e (by decide)
 .lk;refine eh (jq.of hdd) (v:=.str "put") rfl ?_;lk;refine .inl ⟨rfl,_,rfl,mP (λ_=>?_) λc=>absurd rfl c⟩;k_in;refine⟨p,dx,_,rfl,hp,OV,?_⟩;lk;refine⟨p,dx,a,n,T,ts,as,R,i,j,rfl,ct,h,hn,hi,hj,hij,htk▸hk,by lia,λb as' H3 hb h3 F3=>?_⟩;rw[emn,emx]at hb h3
  have F3':Fm (p::Pt::fp a) H H3:=F3.mono λz hz=>by
   rcases aw.mp hz with q|q
   .rw [q];exact aj
   .exact ag _ (ag _ q)
  have hS3:=h.state hP F3' hS hs;have P3:=h.ZZ hP F3;lk;refine P0 (.bl _) W6 ?_;refine⟨true,rfl,lz ?_⟩;lk;refine eh (jq.of (h.tup hP F3' hdd)) (v:=.ref r) rfl ?_;lk;refine⟨s,r,n,x,y,ds,R 0,rfl,hS3,h.tup hP F3' hr,by rw[ets];exact h.kw,by lia,hn,by have:=Jc h.iv (aK T) (a:=x) (by lia);lia,by have:=congrArg cK ets;rw[af]at this;lia,by rw[ets];exact hk,λc b' H4 hb' B4 h4=>?_⟩;have ebb:b'=b:=hb'.trans hb.symm;subst ebb;lk;rw[show decide (V.bl b'=V.bl b')=true from decide_eq_true rfl]
  exact k _ as' _ _ H4 (h3.RV hS3.o hs B4) h4 (by rw[aH,ets];rfl) (P3.RV hS3.o B4) (FS F3' B4) (by rw[bj];simp) λ_=>by rw[aH];rfl
theorem Nd{tt:TT}{o:Option V}{rest:L2.St}{z acc:ai}{R:Hp->Prop}(pf:Ti×ai->Bool)(hz:H z=some (.lst (us.map kX)))(fl:∀u∈us,lF H u)(hl:us.length<128)(ha:H acc=none)(turn:∀(u:Ti×ai) (H':Hp) (G:Bool->Hp->Prop),u∈us->lF H' u->G (pf u) H'->tt (some (kX u)::rest) H' G)(fin:∀(zs:List Zt) (H':Hp),bU H H'->H' acc=some (.lst (zs.map jD))->(∀z∈zs,ff H' z)->zs.map zP=(us.filter pf).map (λu=>u.1.key)->R H'):∃W:Nat->Nat->List V->L2.St->Hp->Prop,(∃m,W 0 m [] (o::rest) (upd H acc (.lst [])))/\∀i m ys σ' H',W i m ys σ' H'->H' acc=some (.lst ys) /\(((Ko K z).stop i H'/\R H')\/((Ko K z).go i H'/\∀x H2,(Ko K z).Md i H' x H2->(bp 0) x σ' H2 λσ2 H3=>tt σ2 H3 λb H4 =>if b=true then(ir (au (cq (cS K) (aq 0) (tC (.int 0))) (au (cq (cS K) (aq 0) (tC (.int 1))) a8))) σ2 H4 λy H5=>H5 acc=some (.lst ys)/\ys.length<aY/\∃m',m'<m/\W (i+1) m' (ys++[y]) σ2 (upd H5 acc (.lst (ys++[y])))else∃m',m'<m/\W (i+1) m' ys σ2 H4)):=by
 refine kM (n:=us.length) (λt ys H4=>H4 acc=some (.lst ys)/\bU H H4/\∃zs:List Zt,ys=zs.map jD/\zs.map zP=((us.take t).filter pf).map (λu=>u.1.key)/\∀z∈zs,ff H4 z) (λZ=>∃o,Z=o::rest) ⟨aC,bU.cw ha,[],rfl,rfl,λz hz=>nomatch hz⟩ ⟨_,rfl⟩ ?_ ?_ ?_ ?_
 .rintro t ys H4 ⟨e,_⟩;exact e
 .rintro ys H2 ⟨g2,S2,zs,rfl,hz',pz⟩;rw[bu (ay _)]at hz';exact⟨⟨_,c6.of (S2 _ _ hz),by rw[af];exact ay _⟩,fin zs H2 S2 g2 pz hz'⟩
 .rintro t ys H4 ht ⟨_,S4,_⟩;exact⟨_,_,c6.of (S4 _ _ hz),aB (by rw[af];exact ht)⟩
 .rintro t ys σ' H4 v H5 ht ⟨g4,S4,zs,rfl,hz',pz⟩ ⟨o,rfl⟩ ⟨e2,hv⟩;subst e2;have hv:=hv _ (c6.of (S4 _ _ hz));obtain⟨u,hu,rfl⟩:=gm hv;have hum:=aP hu;have r4:=S4 _ _ (fl u hum)
  have et:us.take (t+1)=us.take t++[u]:=by rw[cH,hu];rfl
  have hzl:zs.length<=t:=by have:=congrArg cK hz';rw[af,af]at this;rw[this];exact bw (b0 _ _) (by rw[bG];lia)
  refine Aj ?_;refine turn u H5 _ hum r4 ?_
  cases hw:pf u with
  |false=>
   refine kg (jH.mk' ht ⟨_,rfl⟩ ⟨g4,S4,zs,rfl,?_,pz⟩)
   rw[et,cb,aH,hz'];simp[hw]
  |true=>
   refine lz ?_;lk;refine eh (jq.of r4) (v:=.int u.1.x) rfl ?_;lk;refine eh (jq.of r4) (v:=.int u.1.y) rfl ?_;lk;refine⟨nW,λc hc=>?_⟩;have S6:=bU.cw (o:=.tup [.int u.1.x,.int u.1.y]) hc;have g6:(upd H5 c (.tup [.int u.1.x,.int u.1.y])) c=some (.tup [.int u.1.x,.int u.1.y]):=aC;generalize upd H5 c (.tup [.int u.1.x,.int u.1.y])=H6 at S6 g6 ⊢;have a6:=S6 _ _ g4;have tn:∀{z:Zt}{ys:List V},ff H6 z->ff (upd H6 acc (.lst ys)) z:=λ{z ys} e=>(aF (dO e a6)).trans e;refine⟨a6,cZ (m:=200) (by rw[af];lia),jH.mk' ht ⟨_,rfl⟩ ⟨aC,λb' o' e=>by rw[aF (aT e ha)];exact S6 _ _ (S4 _ _ e),zs++[((u.1.x:Int),(u.1.y:Int),c)],by rw[aH];rfl,?_,λz hz''=>?_⟩⟩
   .rw [et,cb,aH,aH,hz'];simp[hw];rfl
   .rcases aL.mp hz'' with q|q
    .exact tn (S6 _ _ (pz z q))
    .rw [ax.mp q];exact tn (z:=((u.1.x:Int),(u.1.y:Int),c)) g6
theorem Xy(L:List (Int×Int))(q:Int×Int):((L.map Am).any λe=>dt e (Am q))=decide (q∈L):=by
 rw[Nz,gX,C5,decide_eq_true_iff]
 constructor
 .rintro ⟨t,ht,e⟩;have e:dt (Am t) (Am q)=true:=e;rw[BD,decide_eq_true_iff]at e;exact e▸ht
 .exact λh=>⟨q,h,by show dt (Am q) (Am q)=true;rw[BD];simp⟩
inductive ck(K:aa)(C:ai)(vs:List V)(H:Hp)(Q:VK)(E:XK):Prop
 |mk (l:_) (us:List (Ti×ai)) (n:Nat) (c:Int):vs=[.ref l,.int n,.int c]->H l=some (.lst (us.map kX))->(∀u∈us,lF H u)->us.length<128->1<=n->n<=200->(us≠[]->∃u∈us,u.1.wd=true)->(∀H',bU H H'->Q .non H')->(∀(t r:ai) (w:bF) (x y:Int) (H':Hp),bU H H'->H' t=some (.tup [.str w,.ref r])->H' r=some (.tup [.int x,.int y])->(w="out"/\(x,y)∈us.map (λu=>u.1.key))\/(w="put"/\(∃i j:Nat,x=i/\y=j/\i<j/\j<n)/\(x,y)∉us.map (λu=>u.1.key))->Q (.ref t) H')->ck K C vs H Q E
theorem Dx:Rn (ck K C) (wc K C) Zr:=by
 rintro vs H Q E ⟨l,us,n,c,rfl,hl,fl,hlen,hn1,hn2,hw,kN,k⟩;unfold wc;lk;refine .inl ⟨⟨_,c6.of hl⟩,λacc hacc=>Nd (o:=none) (rest:=[]) (λ_=>true) hl fl hlen hacc (λu H' G _ _ g=>g) λzs H1 S1 g1 pz1 e1=>?_⟩;rw[n5.mpr λ_ _=>rfl]at e1
 have hzl:zs.length=us.length:=by have:=congrArg cK e1;simpa using this
 have out:∀{H2:Hp}{q:ai}{zs2:List Zt}{z:Int}{Z:L2.St}{i:Nat},bU H1 H2->H2 q=some (.lst (zs2.map jD))->(∀z∈zs2,ff H2 z)->(∀z∈zs2,zP z∈us.map (λu=>u.1.key))->0<zs2.length->Z[4]?=some (some (.int z))->Z[i]?=some (some (.ref q)) ->(dW (ir (au (tC (.str "out")) (au (cq (cS K) (aq i) (cq (rI (λ_ j=>0<j) λi j=>.int (i%j)) (aq 4) (oI (sW K) (au (aq i) a8)))) a8)))) { nx:=λ_ H'=>Q .non H',rt:=Q } Z H2:=by intro H2 q zs2 z Z i S2 g2 pz2 hz2 h0 h4 hi;obtain⟨j,ej,hj⟩:=em h0 z;have gz:=aB hj;have hm:=kd hj;generalize zs2[j]=zz at gz hm;k_ne;k_ne;k_ne;k_ne;k_ne;k_ne;refine kx hi ?_;k_ne;refine kx h4 ?_;k_ne;k_ne;refine kx hi ?_;lk;refine uN (c6.of g2) ?_;rw[af];lk;rw[ej];refine nz (c6.of g2) (v:=jD zz) (fj rfl (by rw[aG,gz];rfl)) ?_;lk;refine⟨nW,λt ht=>?_⟩;have S3:=bU.cw (o:=.tup [.str "out",jD zz]) ht;exact k t zz.2.2 "out" zz.1 zz.2.1 _ (S1.trans (S2.trans S3)) aC (S3 _ _ (pz2 zz hm)) (.inl ⟨rfl,hz2 zz hm⟩)
 have hz1:∀z∈zs,zP z∈us.map (λu=>u.1.key):=λz hz=>by rw[← e1];exact aN hz
 iterate 8 (k_ne)
 with_reducible refine BK (λZ H2=>H2=H1/\Z=[some (.ref l),some (.int n),some (.int c),some (.ref acc),some (.int (c/8)),none,none,none,none,none]) ?_ λgo=>?_
 .rintro Z H2 ⟨rfl,rfl⟩
  with_reducible refine BK (λZ H3=>H3=H2/\Z=[some (.ref l),some (.int n),some (.int c),some (.ref acc),some (.int (c/8)),none,none,none,none,none]) ?_ λgo=>?_
  .rintro Z H3 ⟨rfl,rfl⟩;obtain⟨a,ea,ha⟩:=em (n:=n) (by lia) (c/8);obtain⟨b,eb,hb⟩:=em (n:=n) (by lia) (c/8/(n:Int));lk;rw[ea,eb];rw[show(if(b:Int)<a then(b:Int)else a)=((min a b:Nat):Int) by split<;>lia,show(if(b:Int)>a then(b:Int)else a)=((max a b:Nat):Int) by split<;>lia];refine⟨nW,λt ht=>?_⟩;have S4:=bU.cw (o:=.tup [.int (min a b:Nat),.int (max a b:Nat)]) ht;have g4:(upd H3 t (.tup [.int (min a b:Nat),.int (max a b:Nat)])) t=some (.tup [.int (min a b:Nat),.int (max a b:Nat)]):=aC;generalize upd H3 t (.tup [.int (min a b:Nat),.int (max a b:Nat)])=H4 at S4 g4 ⊢;lk;refine mP (λ_=>?_) λhab=>?_
   .lk;exact kN _ (S1.trans S4)
   .have hab:a≠b:=λe=>hab (by rw[e]);lk;refine P9 (Gc g4) (K6 (S4 _ _ g1) (uW pz1 S4)) (An _) (fQ _ (wu _)) ?_;rw[Xy,e1]
    have fin:∀w:bF,(w="out"/\(((min a b:Nat):Int),((max a b:Nat):Int))∈us.map (λu=>u.1.key))\/(w="put"/\(((min a b:Nat):Int),((max a b:Nat):Int))∉us.map (λu=>u.1.key))->∀q,H4 q=none->Q (.ref q) (upd H4 q (.tup [.str w,.ref t])):=λw hw q hq =>have S5:=bU.cw (o:=.tup [.str w,.ref t]) hq
     k q t w _ _ _ (S1.trans (S4.trans S5)) aC (S5 _ _ g4) (hw.imp id λh=>⟨h.1,⟨min a b,max a b,rfl,rfl,by lia,by lia⟩,h.2⟩)
    lk;refine mP (λh=>?_) λh=>?_
    .lk;exact⟨nW,λq hq=>fin "out" (.inl ⟨rfl,h⟩) q hq⟩
    .lk;exact⟨nW,λq hq=>fin "put" (.inr ⟨rfl,h⟩) q hq⟩
  .lk;refine mP (λ_=>?_) λ_=>?_
   .lk;refine uN (c6.of g1) ?_;rw[af];lk;refine mP (λh0=>?_) λ_=>?_
    .exact out (λ_ _ e=>e) g1 pz1 hz1 (by lia) rfl rfl
    .exact go _ _ ⟨rfl,rfl⟩
   .refine kg ?_;exact go _ _ ⟨rfl,rfl⟩
 .lk;refine mP (λ_=>?_) λ_=>?_
  .lk;refine uN (c6.of g1) ?_;rw[af];lk;refine mP (λh0=>?_) λ_=>?_
   .obtain ⟨u0,hu0,hw0⟩:=hw (λe=>by rw[e]at hzl;have:zs.length=0:=hzl;lia);have fl1:∀u∈us,lF H1 u:=λu hu=>S1 _ _ (fl u hu);lk;refine .inl ⟨⟨_,c6.of (S1 _ _ hl)⟩,λacc2 hacc2=>vN (K:=K) us (λu=>u.1.wd) (λu=>.int u.1.cj) (λZ=>∃o,Z=[o]) (by rw[af]) (c6.of (S1 _ _ hl)) hacc2 ⟨_,rfl⟩ (by rw[af];lia) ?_ λH2 S2 g2=>?_⟩
    .rintro i u x σ' H' G G' hu hx S' ⟨o,rfl⟩ hG hG';rw[aG,hu]at hx;cases hx;have r4:=S' _ _ (fl1 u (aP hu));lk;refine eh (jq.of r4) (v:=.bl u.1.wd) rfl ?_;refine⟨_,rfl,?_⟩
     cases hw:u.1.wd with
     |false=>exact kg (hG' hw _ ⟨_,rfl⟩)
     |true=>
      refine lz ?_;lk;refine eh (jq.of r4) (v:=.int u.1.cj) rfl ?_;exact hG hw _ ⟨_,rfl⟩
    .lk;refine⟨acc2,((us.filter λu=>u.1.wd).map λu=>(u.1.cj:Int)),rfl,by rw[a7];exact c6.of g2,by rw[af];exact l6 (bB.mpr ⟨hu0,hw0⟩),λM hM _=>?_⟩;obtain⟨u1,hu1,eM⟩:=aI.mp hM;obtain⟨hu1,hw1⟩:=bB.mp hu1;have fl2:∀u∈us,lF H2 u:=λu hu=>S2 _ _ (fl1 u hu);lk;refine .inl ⟨⟨_,c6.of (S2 _ _ (S1 _ _ hl))⟩,λacc3 hacc3=>Nd (o:=none) (rest:=[some (.int M)]) (λu=>u.1.wd && decide ((u.1.cj:Int)=M)) (S2 _ _ (S1 _ _ hl)) fl2 hlen hacc3 (λu H' G hu r4 g=>?_) λzs3 H3 S3 g3 pz3 e3=>?_⟩
     .lk;refine eh (jq.of r4) (v:=.bl u.1.wd) rfl ?_;refine⟨_,rfl,?_⟩
      cases hw:u.1.wd with
      |false=>rw[hw]at g;exact kg g
      |true=>
       rw[hw]at g;refine lz ?_;lk;refine eh (jq.of r4) (v:=.int u.1.cj) rfl ?_;lk;rw[show decide (V.int u.1.cj=V.int M)=decide ((u.1.cj:Int)=M)from decide_eq_decide.mpr ⟨V.int.inj,congrArg V.int⟩];exact g
     .k_ne;refine out (S2.trans S3) g3 pz3 (λz hz=>?_) ?_ rfl rfl
      .have:=aN (f:=zP) hz;rw[e3]at this;obtain⟨u,hu,e⟩:=aI.mp this;rw[← e];exact aN (f:=λu:Ti×ai=>u.1.key) (bB.mp hu).1
      .have h3:=congrArg cK e3;rw[af,af]at h3;rw[h3];exact l6 (bB.mpr ⟨hu1,by rw[hw1,eM];simp⟩)
   .exact go _ _ ⟨rfl,rfl⟩
  .refine kg ?_;exact go _ _ ⟨rfl,rfl⟩
theorem Xz{ta:TA}{Z:L2.St}{R:It->Hp->Prop}(h:ta Z H λvs H1=>∃i j:Int,vs=[.int i,.int j]/\(-(2^62)<=i/\i<2^62/\-(2^62)<=j/\j<2^62)/\R (SR i (j-i).toNat) H1):Pd ta Z H R:=h
def ky(p:Int×Int):Int×Int:=(min p.1 p.2,max p.1 p.2)
structure VM(n:Nat)(ps:List (Int×Int)):Prop where
 b:∀p∈ps,0<=p.1/\p.1<n/\0<=p.2/\p.2<n/\p.1≠p.2
 nd:(ps.map ky).Nodup
 l:ps.length<=64/\(n<=24->ps.length<=56)
theorem VM.perm{ps qs:List (Int×Int)}(h:VM n ps)(p:qs.Perm ps):VM n qs:=⟨λq hq=>h.b q (p.mem_iff.mp hq),(p.map ky).nodup_iff.mpr h.nd,by rw[p.length_eq];exact h.l⟩
theorem VG{p q:Int×Int}(h:ky p=ky q):(p.1=q.1/\p.2=q.2)\/(p.1=q.2/\p.2=q.1):=by unfold ky at h;obtain⟨h1,h2⟩:=cp h;lia
theorem BR{m:Nat}{p:Nat->Bool}{f:Nat->Int×Int}(hm:m<=64/\(n<=24->m<=56))(hb:∀i,i<m->p i=true->0<=(f i).1/\(f i).1<n/\0<=(f i).2/\(f i).2<n/\(f i).1≠(f i).2)(hi:∀i j,i<m->j<m->p i=true->p j=true->(((f i).1=(f j).1/\(f i).2=(f j).2)\/((f i).1=(f j).2/\(f i).2=(f j).1))->i=j):VM n (((fh m).filter p).map f):=by
 refine⟨λq hq=>?_,?_,?_⟩
 .obtain ⟨i,h,rfl⟩:=aI.mp hq;obtain⟨h1,h2⟩:=bB.mp h;exact hb i (i5.mp h1) h2
 .rw [a7];refine bY.mpr (List.Pairwise.imp_of_mem (λ{i j} a b c e=>?_) ((V7 (n:=m)).filter p));obtain⟨a1,a2⟩:=bB.mp a;obtain⟨b1,b2⟩:=bB.mp b;exact c (hi i j (i5.mp a1) (i5.mp b1) a2 b2 (VG e))
 .have h:=b0 p (fh m);rw[iK]at h;rw[af];lia
theorem rL{σ0:L2.St}{g:TG}{tt:TT}{te:TE}{acc:ai}{R:Hp->Prop}{lo:Int}{m:Nat}(p:Nat->Bool)(f:Nat->Int×Int)(S:L2.St->Prop)(ha:H acc=none)(s0:S σ0)(hm:m<=1000)(turn:∀(i:Nat) (σ':L2.St) (H':Hp) (G:V->L2.St->Hp->Prop) (G':L2.St->Hp->Prop),i<m->S σ'->(p i=true->∀σ2 c,S σ2->H' c=none->G (.ref c) σ2 (upd H' c (.tup [.int (f i).1,.int (f i).2])))->(p i=false->∀σ2,S σ2->G' σ2 H') ->g (.int (lo+i)) σ' H' λσ2 H3=>tt σ2 H3 λb H4=>if b=true then te σ2 H4 λy H5=>G y σ2 H5 else G' σ2 H4)(fin:∀(zs:List Zt) H',bU H H'->H' acc=some (.lst (zs.map jD))->(∀z∈zs,ff H' z)->zs.map zP=((fh m).filter p).map f->R H'):∃W:Nat->Nat->List V->L2.St->Hp->Prop,(∃m,W 0 m [] σ0 (upd H acc (.lst [])))/\∀i m' ys σ' H',W i m' ys σ' H'->H' acc=some (.lst ys) /\(((SR lo m).stop i H'/\R H')\/((SR lo m).go i H'/\∀x H2,(SR lo m).Md i H' x H2->g x σ' H2 λσ2 H3=>tt σ2 H3 λb H4 =>if b=true then te σ2 H4 λy H5=>H5 acc=some (.lst ys)/\ys.length<aY/\∃m'',m''<m'/\W (i+1) m'' (ys++[y]) σ2 (upd H5 acc (.lst (ys++[y])))else∃m'',m''<m'/\W (i+1) m'' ys σ2 H4)):=by
 refine kM (n:=m) (λi ys H'=>H' acc=some (.lst ys)/\bU H H'/\∃zs:List Zt,ys=zs.map jD/\zs.map zP=((fh i).filter p).map f/\∀z∈zs,ff H' z) S ⟨aC,bU.cw ha,[],rfl,rfl,λz hz=>nomatch hz⟩ s0 ?_ ?_ ?_ ?_
 .rintro i ys H' ⟨e,_⟩;exact e
 .rintro ys H' ⟨e,S',zs,rfl,hz,pz⟩;exact⟨ay _,fin zs H' S' e pz hz⟩
 .rintro i ys H' hi _;exact hi
 .rintro i ys σ' H' x H2 hi ⟨e,S',zs,rfl,hz,pz⟩ hσ ⟨rfl,rfl⟩;have er:fh (i+1)=fh i++[i]:=List.range_succ
  have hzl:zs.length<=i:=by have:=congrArg cK hz;rw[af,af]at this;rw[this];exact bw (b0 _ _) (by rw[iK];exact ay _)
  refine turn i σ' H2 _ _ hi hσ (λhp σ2 c h2 hc=>?_) λhp σ2 h2=>?_
  .have S6:=bU.cw (o:=.tup [.int (f i).1,.int (f i).2]) hc;have g6:(upd H2 c (.tup [.int (f i).1,.int (f i).2])) c=some (.tup [.int (f i).1,.int (f i).2]):=aC;generalize upd H2 c (.tup [.int (f i).1,.int (f i).2])=H6 at S6 g6 ⊢;have a6:=S6 _ _ e;have tn:∀{z:Zt}{ys:List V},ff H6 z->ff (upd H6 acc (.lst ys)) z:=λ{z ys} e=>(aF (dO e a6)).trans e;refine⟨a6,cZ (m:=1000) (by rw[af];lia),jH.mk' hi h2 ⟨aC,λb' o' q=>by rw[aF (aT q ha)];exact S6 _ _ (S' _ _ q),zs++[((f i).1,(f i).2,c)],by rw[aH];rfl,?_,λz hz'=>?_⟩⟩
   .rw [er,cb,aH,aH,hz];simp[hp];rfl
   .rcases aL.mp hz' with hz'|hz'
    .exact tn (S6 _ _ (pz z hz'))
    .rw [ax.mp hz'];exact tn (z:=((f i).1,(f i).2,c)) g6
  .refine jH.mk' hi h2 ⟨e,S',zs,rfl,?_,pz⟩;rw[er,cb,aH,hz];simp[hp]
inductive bX(K:aa)(C:ai)(vs:List V)(H:Hp)(Q:VK)(E:XK):Prop
 |mk (n:Nat) (c:Int):vs=[.int n,.int c]->1<=n->n<=64->(n<=24\/c%6=1\/c%6=2)->(∀(l:ai) (zs:List Zt) (H':Hp),bU H H'->H' l=some (.lst (zs.map jD))->(∀z∈zs,ff H' z)->VM n (zs.map zP)->Q (.ref l) H')->bX K C vs H Q E
theorem BS:Rn (bX K C) (tW K C) Vw:=by
 rintro vs H Q E ⟨n,c,rfl,hn1,hn2,hn3,k⟩;unfold tW;lk;refine mP (λ_=>?_) λ_=>?_
 .lk;refine⟨by lia,by lia,λacc hacc=>?_⟩;refine rL (λ_=>true) (λi=>((i:Int),(i:Int)+1)) (λZ=>∃o,Z=[o]) hacc ⟨_,rfl⟩ (by lia) ?_ ?_
  .rintro i σ' H' G G' hi ⟨o,rfl⟩ g1 g2;lk;refine lz ?_;lk;refine⟨nW,λq hq=>?_⟩;rw[show(0:Int)+(i:Int)=i by lia];exact g1 rfl _ q ⟨_,rfl⟩ hq
  .intro zs H' S' gl pz ez;refine k acc zs H' S' gl pz ?_;rw[ez]
   exact BR (by lia) (λi hi _=>by simp only;lia) λi j _ _ _ _ e=>by simp only at e;lia
 k_ne
 with_reducible refine BK (λZ H1=>H1=H/\Z=[some (.int n),some (.int c),some (.int (c%6))]) ?_ λgo=>?_
 rotate_left
 .lk;refine mP (λ_=>?_) λ_=>kg (go _ _ ⟨rfl,rfl⟩);lk;refine mP (λhn=>?_) λ_=>go _ _ ⟨rfl,rfl⟩;lk;refine⟨by lia,by lia,λacc hacc=>?_⟩;refine rL (λ_=>true) (λi=>((i:Int),(i:Int)+1)) (λZ=>∃o,Z=[o]) hacc ⟨_,rfl⟩ (by lia) ?_ ?_
  .rintro i σ' H' G G' hi ⟨o,rfl⟩ g1 g2;lk;refine lz ?_;lk;refine⟨nW,λq hq=>?_⟩;rw[show(0:Int)+(i:Int)=i by lia];exact g1 rfl _ q ⟨_,rfl⟩ hq
  .intro zs H' S' gl pz ez;lk;refine⟨nW,λq hq=>?_⟩;generalize eu_:upd _ q _=H2;obtain⟨S2,g2⟩:=ig eu_ hq;lk;refine⟨nW,λr hr=>?_⟩;generalize eu_:upd _ r _=H3;obtain⟨S3,g3⟩:=ig eu_ hr
   have hzl:zs.length=n-1:=by have:=congrArg cK ez;rw[af,af,n5.mpr (λ_ _=>rfl),iK]at this;lia
   refine PZ (S3 _ _ (S2 _ _ gl)) g3 (di (m:=100) (by rw[af];simp;lia)) λs hs=>?_;have S4:=bU.cw (o:=.lst (zs.map jD++[.ref q])) hs;refine k s (zs++[(0,(n:Int)-1,q)]) _ (((S'.trans S2).trans S3).trans S4) (by rw[aC,aH];rfl) (λz hz=>?_) ?_
   .rcases aL.mp hz with hz|hz
    .exact S4 _ _ (S3 _ _ (S2 _ _ (pz z hz)))
    .rw [ax.mp hz];exact S4 _ _ (S3 _ _ g2)
   .have h0:VM n (((fh ((n:Int)-1).toNat).filter λ_=>true).map λi:Nat=>((i:Int),(i:Int)+1)):=BR (by lia) (λi hi _=>by simp only;lia) λi j _ _ _ _ e=>by simp only at e;lia
    rw[aH,ez];refine⟨λp hp=>?_,?_,?_⟩
    .rcases aL.mp hp with hp|hp
     .exact h0.b p hp
     .rw [ax.mp hp];show(0:Int)<=0/\(0:Int)<n/\0<=(n:Int)-1/\(n:Int)-1<n/\(0:Int)≠(n:Int)-1;lia
    .rw [aH,du];refine⟨h0.nd,by simp,λx hx y hy e=>?_⟩;subst e;rw[ax.mp hy]at hx;obtain⟨p,hp,e⟩:=aI.mp hx;obtain⟨i,hi,rfl⟩:=aI.mp hp;have e:=VG e;have:i<((n:Int)-1).toNat:=i5.mp (bB.mp hi).1;simp only[zP]at e;lia
    .rw [bj];have:=h0.l;rw[af,n5.mpr (λ_ _=>rfl),iK]at this ⊢;simp;lia
 rintro Z H1 ⟨rfl,rfl⟩;lk;refine mP (λ_=>?_) λ_=>?_
 .k_ne;k_ne;refine Xz ?_;lk;refine⟨8,64,rfl,⟨by lia,by lia,by lia,by lia⟩,λacc hacc=>?_⟩;refine rL (m:=56) (λi=>decide ((8+(i:Int))%8+(8+(i:Int))/8<if(8:Int)<(n:Int)then(8:Int)else(n:Int))) (λi=>((8+(i:Int))%8,(8+(i:Int))%8+(8+(i:Int))/8)) (λZ=>∃o,Z=[o,some (.int n)]) hacc ⟨_,rfl⟩ (by lia) ?_ ?_
  .rintro i σ' H' G G' hi ⟨o,rfl⟩ g1 g2;lk;refine mP (λh=>?_) λh=>g2 (decide_eq_false h) _ ⟨_,rfl⟩;lk;exact⟨nW,λq hq=>g1 (decide_eq_true h) _ q ⟨_,rfl⟩ hq⟩
  .intro zs H' S' gl pz ez;refine k acc zs H' S' gl pz ?_;rw[ez];refine BR (by lia) (λi hi h=>?_) λi j _ _ h1 h2 e=>?_
   .have h:=of_decide_eq_true h;simp only
    split at h<;>lia
   .simp only at e;lia
 lk;refine mP (λ_=>?_) λ_=>?_
 .obtain ⟨d,ed,hd⟩:=em (n:=n) hn1 (c/6);lk;refine⟨by lia,by lia,λacc hacc=>?_⟩;refine rL (λi=>!decide (V.int i=V.int d)) (λi=>((d:Int),(i:Int))) (λZ=>∃o,Z=[o,some (.int n),some (.int c)]) hacc ⟨_,rfl⟩ (by lia) ?_ ?_
  .rintro i σ' H' G G' hi ⟨o,rfl⟩ g1 g2;lk;rw[ed,show(0:Int)+(i:Int)=i by lia];refine PR (λh=>?_) λh=>g2 (by rw[decide_eq_true h];rfl) _ ⟨_,rfl⟩;lk;rw[ed];exact⟨nW,λq hq=>g1 (by rw[decide_eq_false h];rfl) _ q ⟨_,rfl⟩ hq⟩
  .intro zs H' S' gl pz ez;refine k acc zs H' S' gl pz ?_;rw[ez];refine BR (by lia) (λi hi h=>?_) λi j _ _ h1 h2 e=>?_
   .have h:¬ (V.int i=V.int d):=by simpa using h
    have:(i:Int)≠d:=λz=>h (by rw[z]);simp only;lia
   .simp only at e;lia
 lk;refine mP (λh5=>?_) λ_=>?_
 .have h5:=jB.mp h5
  have hn2:n<=24:=by lia
  lk;refine⟨by lia,by lia,λacc hacc=>?_⟩;refine rL (λi=>decide ((i:Int)/2+1+(i:Int)%2<n)) (λi=>((i:Int)/2,(i:Int)/2+1+(i:Int)%2)) (λZ=>∃o,Z=[o,some (.int n)]) hacc ⟨_,rfl⟩ (by lia) ?_ ?_
  .rintro i σ' H' G G' hi ⟨o,rfl⟩ g1 g2;lk;rw[show(0:Int)+(i:Int)=i by lia];refine mP (λh=>?_) λh=>g2 (decide_eq_false h) _ ⟨_,rfl⟩;lk;exact⟨nW,λq hq=>g1 (decide_eq_true h) _ q ⟨_,rfl⟩ hq⟩
  .intro zs H' S' gl pz ez;refine k acc zs H' S' gl pz ?_;rw[ez];refine BR (by lia) (λi hi h=>?_) λi j _ _ h1 h2 e=>?_
   .have h:=of_decide_eq_true h;simp only;lia
   .simp only at e;lia
 lk;refine⟨nW,λl hl=>?_⟩;exact k l [] _ (bU.cw hl) aC (λz hz=>nomatch hz) ⟨(λp hp=>nomatch hp),.nil,by simp⟩
inductive bZ(K:aa)(C:ai)(vs:List V)(H:Hp)(Q:VK)(E:XK):Prop
 |mk (l:_) (c:Int) (zs:List Zt):vs=[.ref l,.int c]->H l=some (.lst (zs.map jD))->zs.length<=100->(∀(q:ai) (zs':List Zt) (H':Hp),bU H H'->H q=none->H' q=some (.lst (zs'.map jD))->zs'.Perm zs->Q (.ref q) H')->bZ K C vs H Q E
theorem BU:Rn (bZ K C) (tX K C) Vl:=by
 rintro vs H Q E ⟨l,c,zs,rfl,hl,hz,k⟩;unfold tX;lk;refine uN (c6.of hl) ?_;rw[af];lk;refine mP (λh=>?_) λh=>?_
 .lk;refine⟨nW,λq hq=>?_⟩;have e:zs=[]:=jk (by have:=jB.mp h;lia);subst e;exact k q [] _ (bU.cw hq) hq aC (.refl _)
 have hz0:0<zs.length:=UK λz=>h (by rw[z];rfl);obtain⟨j,ej,hj⟩:=em hz0 c;lk;rw[ej];refine vM (c6.of hl) λq hq=>?_;rw[Ic rfl,← qD];generalize eu_:upd _ q _=H1;obtain⟨S1,g1⟩:=ig eu_ hq;lk;refine vM (c6.of (S1 _ _ hl)) λr hr=>?_;rw[FJ rfl,← kF];generalize eu_:upd _ r _=H2;obtain⟨S2,g2⟩:=ig eu_ hr;refine PZ (S2 _ _ g1) g2 (di (m:=1000) (by rw[af,af,cW,bG];lia)) λs hs=>?_;rw[← aH];have pm:(zs.drop j++zs.take j).Perm zs:=fV.trans (.of_eq (dr j zs));generalize eu_:upd _ s _=H3;obtain⟨S3,g3⟩:=ig eu_ hs;have S03:=(S1.trans S2).trans S3;lk;refine mP (λ_=>?_) λ_=>?_
 .lk;refine Xb ?_;lk;refine⟨s,_,rfl,c6.of g3,λt ht=>?_⟩;rw[← List.map_reverse];exact k t _ _ (S03.trans (bU.cw ht)) (S03.free ht) aC ((ql _).trans pm)
 .lk;exact k s _ _ S03 ((S1.trans S2).free hs) g3 pm
theorem ZE{q q':ai}{vs:List (Ti×ai)}(g:H q=some (.lst (us.map kX)))(g':H q'=some (.lst (vs.map kX)))(h:∀u∈us,lF H u)(h':∀u∈vs,lF H u)(e:us.map (·.1)=vs.map (·.1))(k:Q (.bl false) H):HX K (.ref q) (.ref q') H Q:=by refine YZ (.lst (c6.of g) (Gq h)) (.lst (c6.of g') (Gq h')) (BL _) (BL _) ?_;rw[e,Yd _ (BL _).lay];exact k
structure Lk(C:ai)(A:CA)(Pt p dx s:ai)(a:AL)(n T:Nat)(ts:List Ti)(ds:List (Ti×ai))(H:Hp):Prop where
 kp:∃as R,KP C A H p dx a n T ts as R
 st:qz H s ds
 e:ds.map (·.1)=ts
 P:pP Pt H
section
variable{s:ai}{ds:List (Ti×ai)}
theorem Lk.same(h:Lk C A Pt p dx s a n T ts ds H)(S:bU H H'):Lk C A Pt p dx s a n T ts ds H':=let ⟨as,R,k⟩:=h.kp;⟨⟨as,R,k.same S⟩,h.st.same S,h.e,h.P.same S⟩
theorem Lk.tup(h:Lk C A Pt p dx s a n T ts ds H)(F:Fm (s::p::Pt::fp a) H H'){b:ai}{xs:List V}(e:H b=some (.tup xs)):H' b=some (.tup xs):=F _ _ (λz=>by
 obtain⟨as,R,k⟩:=h.kp;obtain⟨fs,hp⟩:=k.p0;simp only[aw]at z
 rcases z with z|z|z|z
 .exact (dO e h.st.o) z
 .exact (dO e hp) z
 .exact h.P.ne e (λ_ z=>nomatch z) z
 .exact k.lv.tq e z) e
theorem Lk.lst(h:Lk C A Pt p dx s a n T ts ds H)(F:Fm (s::p::Pt::fp a) H H'){b:ai}{xs:List V}(hb:b∉fp a)(e:H b=some (.lst xs)):H' b=some (.lst xs):=F _ _ (λz=>by
 obtain⟨as,R,k⟩:=h.kp;obtain⟨fs,hp⟩:=k.p0;simp only[aw]at z
 rcases z with z|z|z|z
 .exact (dO e h.st.o) z
 .exact (dO e hp) z
 .exact h.P.ne e (λ_ z=>nomatch z) z
 .exact hb z) e
end
def Dd(n:Nat)(ts:List Ti)(H:Hp)(v:V):Prop:=v=.non\/∃(t r:ai) (w:bF) (x y:Nat),v=.ref t/\H t=some (.tup [.str w,.ref r])/\H r=some (.tup [.int x,.int y])/\x<y/\y<n/\((w="out"/\((x:Int),(y:Int))∈ts.map Ti.key)\/(w="put"/\((x:Int),(y:Int))∉ts.map Ti.key))
inductive BV(K:aa)(Pt1:ai)(vs:List V)(H:Hp)(Q:VK)(E:XK):Prop
 |mk (a:_) (ns:List Int):vs=[.ref a]->c6 K H a (ns.map V.int)->ns.length<=63->pP Pt1 H->(∀H',Q (.bl true) H')->BV K Pt1 vs H Q E
theorem Ul{Pt1:ai}(ct:E7 K C A):Rn (BV K Pt1) (Rb K C A (bH K C) (bX K C) (bA K C A) (bZ K C) (b8 K C A) (bS K C) (bT K C) (cf K C A Pt1) (ck K C)) Zp:=by
 rintro vs H Q E ⟨s,ns,rfl,hS,hlen,hP,k⟩;unfold Rb;lk;refine⟨s,ns,0,rfl,hS,λz=>?_⟩;lk;refine⟨s,ns,1,rfl,hS,λz1=>?_⟩
 obtain⟨n0,en,hn1,hn2⟩:∃n:Nat,(1+z%24:Int)=(n:Int)/\1<=n/\n<=24:=⟨(1+z%24).toNat,by lia,by lia,by lia⟩
 obtain⟨n1,en1,hn3,hn4⟩:∃n:Nat,(64+z/192%137:Int)=(n:Int)/\64<=n/\n<=200:=⟨(64+z/192%137).toNat,by lia,by lia,by lia⟩
 lk;rw[en];refine⟨n0,z1,rfl,hn1,by lia,.inl hn2,λl0 zs0 H1 S1 g1 pz1 sh1=>?_⟩;have hl0:=sh1.l.2 hn2;rw[af]at hl0;lk
 suffices go:∀(n N mm:Nat) (l:ai) (zs:List Zt) (H2:Hp),1<=n->n<=200->N<=n->bU H H2->H2 l=some (.lst (zs.map jD))->(∀z∈zs,ff H2 z)->VM N (zs.map zP)->zs.length+mm<=96->mm<=40->BC K C A (bH K C) (bX K C) (bA K C A) (bZ K C) (b8 K C A) (bS K C) (bT K C) (cf K C A Pt1) (ck K C) { nx:=λ_ H'=>Q .non H',rt:=Q } [some (.ref s),some (.int z),some (.int z1),some (.int n),some (.ref l),some (.int mm),none,none,none,none,none,none,none,none] H2 by refine mP (λ_=>?_) λ_=>go n0 n0 40 l0 zs0 H1 hn1 (by lia) (ay _) S1 g1 pz1 sh1 (by lia) (by lia);lk;rw[en1];refine⟨64,_,rfl,by lia,by lia,.inr (by lia),λl2 zs2 H2 S2 g2 pz2 sh2=>?_⟩;have hl2:=sh2.l.1;rw[af]at hl2;exact go n1 64 6 l2 zs2 H2 (by lia) hn4 hn3 (S1.trans S2) g2 pz2 sh2 (by lia) (by lia)
 clear hl0 sh1 pz1 g1 S1 H1
 intro n N mm l zs H2 hn1 hn2 hN S2 g2 pz2 sh2 hlm hm40;unfold BC;lk;refine⟨di (m:=4) (by decide),λt4 ht4=>?_⟩;generalize eu_:upd _ t4 _=H3;obtain⟨S3,g3⟩:=ig eu_ ht4;refine .inl ⟨.int _,[.int 2,.int 4,.int 6,.int 7],Rep.int _,.inr (.tup (.of g3) (dY.ints [2,4,6,7])),Lg _,BQ [2,4,6,7],?_⟩;generalize (if false=true then _ else _:Bool)=fr;have S23:=S2.trans S3;have g3l:=S3 _ _ g2;have pz3:∀z∈zs,ff H3 z:=λz hz=>S3 _ _ (pz2 z hz);lk;refine vM (S23.seq hS) λq hq=>?_
 obtain⟨ms,em2,hml⟩:∃ms:List Int,xH (ns.map V.int) (some 2) (some (2+(mm:Int)))=ms.map V.int/\ms.length<=mm:=by refine⟨(ns.drop 2).take mm,?_,by rw[bG];lia⟩;rw[FK (show(2:Int)=((2:Nat):Int)from rfl) (show(2+(mm:Int))=((2+mm:Nat):Int) by lia),← qD,← kF,show 2+mm-2=mm by lia]
 rw[em2];generalize eu_:upd _ q _=H4;obtain⟨S4,g4⟩:=ig eu_ hq;lk
 suffices go:∀(l q:ai) (zs:List Zt) (ms:List Int) (H5:Hp),bU H H5->H5 l=some (.lst (zs.map jD))->(∀z∈zs,ff H5 z)->VM N (zs.map zP)->H5 q=some (.lst (ms.map V.int))->zs.length+ms.length<=96->bP (cU (Eo A.Keeper (bA K C A) [] E0 (au (aq 3) a8)) (bp 8)) (IY K C A (bH K C) (bX K C) (bA K C A) (bZ K C) (b8 K C A) (bS K C) (bT K C) (cf K C A Pt1) (ck K C)) { nx:=λ_ H'=>Q .non H',rt:=Q } [some (.ref s),some (.int z),some (.int z1),some (.int n),some (.ref l),some (.int mm),some (.bl fr),some (.ref q),none,none,none,none,none,none] H5 by
  refine⟨_,rfl,?_⟩
  cases fr with
  |false=>exact kg (go l q zs ms H4 (S23.trans S4) (S4 _ _ g3l) (λz hz=>S4 _ _ (pz3 z hz)) sh2 g4 (by lia))
  |true=>
   refine lz ?_;lk;refine⟨nW,λl' hl'=>?_⟩;have S5:=bU.cw (o:=.lst []) hl';have g5:(upd H4 l' (.lst [])) l'=some (.lst []):=aC;generalize upd H4 l' (.lst [])=H5 at S5 g5;lk;refine vM (((S23.trans S4).trans S5).seq hS) λq' hq'=>?_
   obtain⟨ms',em',hml'⟩:∃ms:List Int,xH (ns.map V.int) (some 1) (some 49)=ms.map V.int/\ms.length<=48:=by refine⟨(ns.drop 1).take 48,?_,by rw[bG];lia⟩;rw[FK (show(1:Int)=((1:Nat):Int)from rfl) (show(49:Int)=((49:Nat):Int)from rfl),← qD,← kF]
   rw[em'];have S6:=bU.cw (o:=.lst (ms'.map V.int)) hq';exact go l' q' [] ms' _ (((S23.trans S4).trans S5).trans S6) (S6 _ _ g5) (λz hz=>nomatch hz) ⟨(λp hp=>nomatch hp),.nil,by simp⟩ aC (by simp;lia)
 clear g4 S4 em2 hml hq pz3 g3l g3 S23 S3 ht4 pz2 g2 S2 sh2 hlm
 intro l q zs ms H2 S2 g2 pz2 sh2 gq hlm;k_ne;k_ne;refine Lb ?_;lk;intro p dx hp hdx _
 have T0:bU H2 (upd (upd H2 dx (.own p)) p (.ins A.Keeper dx [])):=λb o e=>by rw[aF (aT e hp),aF (aT e hdx)];exact e
 refine⟨p,dx,n,rfl,aC,ct,by lia,by lia,λa T as H3 k3 B3 fr3=>⟨rfl,?_⟩⟩;have S3:bU H2 H3:=λb o e=>B3 _ _ (T0 _ _ e) (aT e hp);lk;intro d hd;generalize eu_:upd _ d _=H5;obtain⟨S5,g5⟩:=ig eu_ hd;have S25:=S3.trans S5;have h5:=k3.same S5
 have dn:d∉a.L::fp a:=λz=>by
  rcases aw.mp z with q|q
  .have:=k3.lv.ls;rw[← q,hd]at this;cases this
  .exact k3.lv.Ec hd q
 have L5:Lk C A Pt1 p dx d a n T [] [] H5:=⟨⟨_,_,h5⟩,⟨g5,(λd hd=>nomatch hd),.nil,by simp⟩,rfl,hP.same (S2.trans S25)⟩
 have qn:q∉fp a:=λz=>by
  have:=fr3 q (ag _ z)
  by_cases c:q=p
  .rw [c,hp]at gq;cases gq
  .by_cases c':q=dx
   .rw [c',hdx]at gq;cases gq
   .rw [aF c,aF c',gq]at this;cases this
 lk;unfold IW;lk;refine⟨l,_,zs,rfl,S25 _ _ g2,by lia,λlm zs' H6 S6 hlm' gzm pm=>?_⟩;have L6:=L5.same S6;have g6q:=S6 _ _ (S25 _ _ gq);have sh':=sh2.perm (pm.map zP);have mn:lm∉fp a:=h5.lv.Ec hlm';have pz6:∀z∈zs',ff H6 z:=λz hz=>S6 _ _ (S25 _ _ (pz2 z (pm.mem_iff.mp hz)));have hle:zs'.length=zs.length:=pm.length_eq
 clear S6 S25 S5 S3 T0 g5 hd
 refine⟨lm,rfl,.inl ⟨⟨_,c6.of gzm⟩,i6 (K:=K) (a:=lm) (xs:=zs'.map jD) (λj Z H7=>∃(ts:List Ti) (ds:List (Ti×ai)) (o10 o11:Option V),Z=[some (.ref s),some (.int z),some (.int z1),some (.int n),some (.ref l),some (.int mm),some (.bl fr),some (.ref q),some (.ref p),some (.ref d),o10,o11,none,none]/\Lk C A Pt1 p dx d a n T ts ds H7/\Fm (d::p::Pt1::fp a) H6 H7/\ts.map Ti.key=((zs'.map zP).take j).map ky) ⟨[],[],_,_,rfl,L6,Fm.refl,rfl⟩ ?_ ?_ ?_⟩⟩
 .rintro j Z H7 _ ⟨ts,ds,_,_,_,_,F7,_⟩;exact c6.of (L6.lst F7 mn gzm)
 .rintro j v Z H7 hj ⟨ts,ds,o10,o11,rfl,L7,F7,hk7⟩;obtain⟨zz,hz,rfl⟩:=gm hj;have hzm:=aP hz
  have hzP:(zs'.map zP)[j]?=some (zP zz):=by rw[aG,hz];rfl
  obtain⟨b1,b2,b3,b4,b5⟩:=sh'.b _ (aP hzP);have hj':=(av.mp hz).1;obtain⟨as7,R7,k7⟩:=L7.kp
  obtain⟨x,ex⟩:∃x:Nat,zz.1=x:=⟨zz.1.toNat,by have:(0:Int)<=zz.1:=b1;lia⟩
  obtain⟨y,ey⟩:∃y:Nat,zz.2.1=y:=⟨zz.2.1.toNat,by have:(0:Int)<=zz.2.1:=b3;lia⟩
  have hx:x<N:=by have:zz.1<(N:Int):=b2;lia
  have hy:y<N:=by have:zz.2.1<(N:Int):=b4;lia
  have hxy:x≠y:=λe=>b5 (by show zz.1=zz.2.1;rw[ex,ey,e]);have hpz:=L6.tup F7 (pz6 zz hzm);rw[ex,ey]at hpz
  have htl:ts.length<=64:=by have:=congrArg cK hk7;rw[af,af,bG,af]at this;have:=sh'.l.1;rw[af]at this;lia
  refine qS (.of hpz) rfl ?_;lk;rw[show(if(y:Int)<x then(y:Int)else x)=((min x y:Nat):Int) by split<;>lia,show(if(y:Int)>x then(y:Int)else x)=((max x y:Nat):Int) by split<;>lia];refine⟨nW,λr hr=>?_⟩;generalize eu_:upd _ r _=H8;obtain⟨S8,g8⟩:=ig eu_ hr;lk;refine⟨nW,λt ht=>?_⟩;generalize eu_:upd _ t _=H9;obtain⟨S9,g9⟩:=ig eu_ ht;have L9:=(L7.same S8).same S9;obtain⟨as9,R9,k9⟩:=L9.kp
  have kz:(((min x y:Nat):Int),((max x y:Nat):Int))=ky (zP zz):=by
   show _=(min zz.1 zz.2.1,max zz.1 zz.2.1)
   rw[ex,ey];exact O2 (by show((min x y:Nat):Int)=min (x:Int) y;lia) (by show((max x y:Nat):Int)=max (x:Int) y;lia)
  lk;refine⟨p,dx,d,t,r,a,n,T,ts,as9,R9,ds,"put",min x y,max x y,_,rfl,ct,k9,L9.st,L9.e,dn,L9.P,hn2,by lia,g9,S9 _ _ g8,by lia,by lia,.inr ⟨rfl,?_⟩,λts' as' R' ds' H10 k10 st10 e10 P10 F10 _ hk10=>?_⟩
  .rw [kz,hk7];intro hm;have hnd:=sh'.nd;rw[← dr j (zs'.map zP),aH,du]at hnd;obtain⟨hjl,hje⟩:=av.mp hzP;exact hnd.2.2 _ hm _ (by rw[← lY hjl,hje];exact aj) rfl
  .refine ⟨_,rfl,kg ?_⟩;refine⟨ts',ds',_,_,rfl,⟨⟨as',R',k10⟩,st10,e10,P10⟩,F7.trans ((Fm.of (S8.trans S9)).trans F10),?_⟩;rw[hk10 rfl,hk7,kz,cH,hzP,aH];rfl
 rintro Z H7 ⟨ts,ds,o10,o11,rfl,L7,F7,hk7⟩;have g7q:=L6.lst F7 qn g6q
 have hl7:ts.length+ms.length<=96:=by have:=congrArg cK hk7;rw[af,af,bG,af,af]at this;lia
 clear hk7 F7 L6 g6q gzm pz6 sh' hle pm hlm' L5 h5
 have cmp:∀{ts:List Ti}{ds:List (Ti×ai)}{H8:Hp}{o10 o11 o12 o13:Option V}{P:VK},Lk C A Pt1 p dx d a n T ts ds H8->ts.length<99->(∀H',bU H8 H'->P (.bl false) H')->(cq (HX K) (gC A.Keeper "ties" (b8 K C A) [] E0 (aq 8) a8) (cY (bS K C) [] E0 (au (aq 9) a8))) [some (.ref s),some (.int z),some (.int z1),some (.int n),some (.ref l),some (.int mm),some (.bl fr),some (.ref q),some (.ref p),some (.ref d),o10,o11,o12,o13] H8 P:=by intro ts ds H8 o10 o11 o12 o13 P L hl k;obtain⟨as,R,kp⟩:=L.kp;obtain⟨w,c1,c2,c3,c4,hw,hp⟩:=kp.ob;k_in;refine⟨p,dx,_,rfl,hp,OV,?_⟩;lk;refine⟨p,dx,a,n,T,ts,as,R,rfl,ct,kp,hl,λr us H9 hr gr fl pm so S9=>?_⟩;lk;refine⟨d,ds,rfl,L.st.same S9,λr' us' H10 S10 hr' gr' fl' pm' od'=>?_⟩;refine ZE (S10 _ _ gr) gr' (λu hu=>S10 _ _ (fl u hu)) fl' (Rj kp.iv.nd pm (by rw[← L.e];exact pm') (Uh so) od') ?_;exact k _ (S9.trans S10)
 iterate 3 (k_ne)
 refine cmp L7 (by lia) λH8 S8=>⟨_,rfl,kg ?_⟩
 have L8:=L7.same S8;have g8q:=S8 _ _ g7q;lk;unfold IX;lk;refine .inl ⟨⟨_,c6.of g8q⟩,i6 (K:=K) (a:=q) (xs:=ms.map V.int) (λj Z H9=>∃(ts:List Ti) (ds:List (Ti×ai)) (o10 o11 o12 o13:Option V),Z=[some (.ref s),some (.int z),some (.int z1),some (.int n),some (.ref l),some (.int mm),some (.bl fr),some (.ref q),some (.ref p),some (.ref d),o10,o11,o12,o13]/\Lk C A Pt1 p dx d a n T ts ds H9/\Fm (d::p::Pt1::fp a) H8 H9/\ts.length+ms.length<=96+j) ⟨ts,ds,_,_,_,_,rfl,L8,Fm.refl,by lia⟩ ?_ ?_ ?_⟩
 .rintro j Z H9 _ ⟨_,_,_,_,_,_,_,_,F9,_⟩;exact c6.of (L8.lst F9 qn g8q)
 rotate_left
 .rintro Z H9 ⟨_,_,_,_,_,_,rfl,_⟩;lk;exact k _
 .rintro j v Z H9 hj ⟨ts,ds,o10,o11,o12,o13,rfl,L9,F9,hl9⟩;obtain⟨c,hc,rfl⟩:=gm hj;have hjl:=(av.mp hc).1;obtain⟨as9,R9,k9⟩:=L9.kp;k_ne
  with_reducible refine BK (λZ H10=>∃v,Z=[some (.ref s),some (.int z),some (.int z1),some (.int n),some (.ref l),some (.int mm),some (.bl fr),some (.ref q),some (.ref p),some (.ref d),o10,o11,some (.int c),some v]/\bU H9 H10/\Dd n ts H10 v) ?_ λgo=>?_
  rotate_left
  .lk;refine⟨d,n,c,ds,rfl,L9.st,hn1,hn2,λH10 S10=>?_,λt r w x y H10 S10 gt gr hxy hy hw=>?_⟩
   .exact go _ _ ⟨_,rfl,S10,.inl rfl⟩
   .exact go _ _ ⟨_,rfl,S10,.inr ⟨t,r,w,x,y,rfl,gt,gr,hxy,hy,by rw[← L9.e];exact hw⟩⟩
  rintro Z H10 ⟨v,rfl,S10,D10⟩
  with_reducible refine BK (λZ H10=>∃v,Z=[some (.ref s),some (.int z),some (.int z1),some (.int n),some (.ref l),some (.int mm),some (.bl fr),some (.ref q),some (.ref p),some (.ref d),o10,o11,some (.int c),some v]/\bU H9 H10/\Dd n ts H10 v) ?_ λgo=>?_
  rotate_left
  .lk;refine⟨_,rfl,?_⟩
   cases fr with
   |true=>exact kg (go _ _ ⟨v,rfl,S10,D10⟩)
   |false=>
    refine lz ?_;lk;refine⟨d,ds,rfl,L9.st.same S10,λr us H11 S11 hr gr fl pm od=>?_⟩
    have eus:∀key,key∈us.map (λu=>u.1.key)↔key∈ts.map Ti.key:=λkey=>by have:=(pm.map Ti.key).mem_iff (a:=key);rw[a7,L9.e]at this;exact this
    have hul:us.length=ts.length:=by have:=pm.length_eq;rw[L9.e,af]at this;exact this
    lk;refine⟨r,us,n,c,rfl,gr,fl,by lia,hn1,hn2,λhne=>?_,λH12 S12=>?_,λt r' w x y H12 S12 gt gr' hw=>?_⟩
    .obtain ⟨u,hu⟩:=List.exists_mem_of_ne_nil _ hne;obtain⟨t,ht,hw⟩:=k9.Uu (t:=u.1) (by rw[← L9.e];exact pm.mem_iff.mp (aN (f:=(·.1)) hu));rw[← L9.e]at ht;obtain⟨u',hu',e⟩:=aI.mp (pm.mem_iff.mpr ht);exact⟨u',hu',by rw[show u'.1=t from e];exact hw⟩
    .exact go _ _ ⟨_,rfl,(S10.trans S11).trans S12,.inl rfl⟩
    .refine go _ _ ⟨_,rfl,(S10.trans S11).trans S12,?_⟩
     rcases hw with⟨ew,hm⟩|⟨ew,⟨i,j,rfl,rfl,hij,hjn⟩,hm⟩
     .have hm:=(eus _).mp hm;obtain⟨u,hu,eu⟩:=aI.mp hm;obtain⟨e1,e2⟩:=cp eu;obtain⟨u1,u2,_⟩:=k9.iv.lt u hu;subst e1 e2;exact .inr ⟨t,r',w,u.x,u.y,rfl,gt,gr',u1,u2,.inl ⟨ew,hm⟩⟩
     .exact .inr ⟨t,r',w,i,j,rfl,gt,gr',hij,hjn,.inr ⟨ew,λz=>hm ((eus _).mpr z)⟩⟩
  rintro Z H10 ⟨v,rfl,S10,D10⟩;have L10:=L9.same S10
  rcases D10 with rfl|⟨t,r,w,x,y,rfl,gt,gr,hxy,hy,hw⟩
  .lk;refine PR (λc=>absurd rfl c) λ_=>?_;exact⟨ts,ds,_,_,_,_,rfl,L10,F9.trans (Fm.of S10),by lia⟩
  .obtain ⟨as10,R10,k10⟩:=L10.kp;lk;refine PR (λ_=>?_) λc=>nomatch c;lk;refine⟨p,dx,d,t,r,a,n,T,ts,as10,R10,ds,w,x,y,_,rfl,ct,k10,L10.st,L10.e,dn,L10.P,hn2,by lia,gt,gr,hxy,hy,hw,λts' as' R' ds' H11 k11 st11 e11 P11 F11 hl11 _=>?_⟩;refine⟨_,rfl,kg ?_⟩
   have L11:Lk C A Pt1 p dx d a n T ts' ds' H11:=⟨⟨as',R',k11⟩,st11,e11,P11⟩
   k_ne
   refine cmp L11 (by lia) λH12 S12=>⟨_,rfl,kg ?_⟩
   exact⟨ts',ds',_,_,_,_,rfl,L11.same S12,((F9.trans (Fm.of S10)).trans F11).trans (Fm.of S12),by lia⟩
end K40
namespace K40
local macro_rules | `(tactic| walk_at "oz")=>`(tactic| first|exact rfl|with_reducible assumption|exact tP|exact .inl rfl|exact .inr rfl|exact Ph _|exact λ_=>rfl|exact λ_ _=>rfl|(exact .inr (.inl rfl))|(exact .inr (.inr rfl))|exact fD|assumption|decide|exact ij.mono (by assumption) (by decide)|exact ij.units (by assumption)|with_unfolding_all rfl)
local macro_rules | `(tactic| walk_at "oc")=>`(tactic| first|exact EC|exact HY|exact NK rfl|exact NJ rfl|exact vS|exact call_lenT|exact FR rfl|exact EM rfl)
local macro_rules | `(tactic| walk_at "op")=>`(tactic| first|exact MD|exact Wr|exact Wt|exact SW|exact Ws|exact UV|exact Mv|exact Yz|exact YA|exact PJ (ij.units (by assumption))|exact WD (ij.units (by assumption))|exact WJ (ij.units (by assumption))|exact NW (ij.units (by assumption))|exact op_eqL (ij.units (by assumption))|exact op_neL (ij.units (by assumption)))
local macro_rules | `(tactic| walk_at "ob")=>`(tactic| first|exact BootT.len|exact BootT.AU|exact BootT.min|exact BootT.max|exact BootT.sorted|exact BootT.list|exact BootT.tuple|exact BootT.bool)
local macro_rules | `(tactic| walk_at "om")=>`(tactic| first|exact Na.VJ (by assumption)|exact Na.xh (by assumption)|exact Na.Ux (by assumption)|exact Na.ZO (by assumption)|exact Na.VP (by assumption)|exact Na.sg (by assumption)|exact Na.Ma (by assumption)|exact Na.b_tuple (by assumption)|exact Na.XI (by assumption))
local macro_rules | `(tactic| walk_at "ok")=>`(tactic| first|exact Na.G6 (by assumption)|exact Na.Fj (by assumption)|exact Na.Fk (by assumption))
local macro_rules | `(tactic| walk_at "o1")=>`(tactic| first
 |(with_reducible first|exact fc|refine bW ?_|refine aE ?_ ?_|refine d9 ?_|refine jl ?_ ?_ ?_|exact ni|exact US|exact We|exact oG|refine O9 ?_|refine qP ?_|refine Pl ?_|exact To|refine Tp ?_|exact Ah|exact PB|refine Fw ?_ ?_|refine Fv ?_|refine Wk ?_ ?_|refine Yu ?_ ?_|refine SK ?_|refine Wj ?_)
 |((with_reducible refine Ag ?_ ?hs);(case hs=>exact rfl))
 |((with_reducible refine qW ?hN ?_ ?hi ?hx ?hs ?hf);(case hN|hi|hx|hs|hf=>walk_at "oz"))
 |((with_reducible refine Zm ?_ ?_ ?hK ?hs);(case hK|hs=>exact rfl))
 |((with_reducible refine Pb ?_ ?_ ?hs ?hw ?h1);(case hs|hw|h1=>exact rfl))
 |((with_reducible refine pv _ ?hN ?hv ?hd ?hc);(case hN|hv|hd|hc=>walk_at "oz"))
 |((with_reducible refine UT ?ho ?_ ?_);(case ho=>walk_at "op"))
 |((with_reducible refine Pw ?hr ?_ ?_ ?hs);(case hr=>exact WK (ij.units (by assumption)));(case hs=>exactλ_ _=>rfl))
 |((with_reducible refine Mw ?ho ?_ ?_ ?hm);(case ho=>walk_at "op");(case hm=>walk_at "oz"))
 |((with_reducible refine Ta ?ho ?_ ?_ ?hm);(case ho=>walk_at "op");(case hm=>walk_at "oz"))
 |((with_reducible refine fP ?_ ?_ ?hs);(case hs=>exact rfl))
 |((with_reducible refine Zk ?_ ?hK ?hb);(case hK|hb=>exact rfl))
 |((with_reducible refine Zj ?_ ?hK ?he);(case hK=>exact rfl);(case he=>exactλ_=>rfl))
 |((with_reducible refine Pq ?hr ?_ ?_ ?_);(case hr=>first|exact Tu|exact sl_tup))
 |((with_reducible refine Zi ?_ ?hK);(case hK=>exact rfl))
 |((with_reducible refine NG ?hg ?hm ?_ ?hs);(case hg|hs=>exact rfl);(case hm=>walk_at "om"))
 |((with_reducible refine NH ?hg ?hm ?_ ?hs ?ht);(case hg|hs|ht=>exact rfl);(case hm=>walk_at "om"))
 |((with_reducible refine hV ?hN ?hi ?hx ?hf);(case hN|hi|hx|hf=>walk_at "oz"))
 |((with_reducible refine Wm ?_ ?_ ?hs ?ha);(case hs=>exact YH (ij.units (by assumption)));(case ha=>exactλ_=>rfl))
 |((with_reducible refine Zo ?hc ?_ ?hK ?hn ?hs);(case hc|hK|hn|hs=>exact rfl))
 |((with_reducible refine iL ?_ ?_ ?hs);(case hs=>exact rfl))
 |((with_reducible refine' Mq ?hg ?hm ?hv ?hr ?hn ?hd);(case hg|hr=>exact rfl);(case hm=>walk_at "om");(case hv=>walk_at "ob");(case hn|hd=>decide))
 |((with_reducible refine' md ?hc ?hg ?hm ?hv ?_ ?hn ?hd ?he ?hp);(case hc=>walk_at "oc");(case hg|he|hp=>exact rfl);(case hm=>walk_at "om");(case hv=>walk_at "ob");(case hn|hd=>decide))
 |((with_reducible refine' pcl ?c ?hr ?hg ?hx ?_ ?hd ?he ?hp);(case c=>assumption);(case hr=>walk_at "oz");(case hg|he|hp=>exact rfl);(case hx=>exact tP);(case hd=>decide))
 |((with_reducible refine' pcm ?c ?cl ?hr ?_ ?hx ?_ ?hs ?hp ?ht);(case c=>assumption);(case cl=>walk_at "ok");(case hr=>walk_at "oz");(case hx=>exact tP);(case hs|hp|ht=>exact rfl))
 |((with_reducible refine' pcm0 ?c ?cl ?hr ?_ ?hx ?ht);(case c=>assumption);(case cl=>walk_at "ok");(case hr=>walk_at "oz");(case hx=>exact tP);(case ht=>exact rfl))
 |((with_reducible refine' o_bm ?pa ?sl ?ty ?hm ?_ ?_ ?hK ?hb ?hf ?hl ?hs ?hp);(case pa=>exact fg);(case sl=>exact pV);(case ty=>exact pX);(case hm=>exact sF);(case hK|hb|hf|hl|hs|hp=>exact rfl))
 |with_reducible refine PW.pt ?_
 |(refine AD ?hp ?hc ?_ ?_ ?_ ?hs;(case hp=>exact fD);(case hc=>exact rfl);(case hs=>exactλ_=>rfl))
 |(refine vC ?hp ?_ ?_;(case hp=>exact fD)))
local macro_rules | `(tactic| w_up)=>`(tactic| repeat' walk_at "o1")
theorem XA{l:qC}{w:cC}{K:aa}{h:cR}{mg:bF->Option ak}{fa:ai}(X:K.In h)(G:h.Ns bV mg)(hfa:mg "law"=some (.ref fa)){c1 Pt1:ai}{C A_Levels A_Keeper:ai}(GC:dj K bV "Wood"=some (some (.ref C)))(GD:iS K C Nq=true)(GE:jy K C=true)(GF:lA K C=true)(GG:bJ K (.ref C) "__setattr__"=some (some (.builtin "object.__setattr__")))(GH:kD K C=true)(GI:eV K (.ref C)=true)(sf:bJ K (.ref C) "n"=some none)(mB:bJ K (.ref C) "rows"=some none)(x9:dj K bV "Levels"=some (some (.ref A_Levels)))(yb:iS K A_Levels Nq=true)(yc:jy K A_Levels=true)(yd:lA K A_Levels=true)(ye:bJ K (.ref A_Levels) "__setattr__"=some (some (.builtin "object.__setattr__")))(yf:kD K A_Levels=true)(yg:eV K (.ref A_Levels)=true)(iz:bJ K (.ref A_Levels) "level_of"=some none)(hW:bJ K (.ref A_Levels) "weight_of"=some none)(jc:bJ K (.ref A_Levels) "wooden"=some none)(jI:bJ K (.ref A_Levels) "woods"=some none)(yh:dj K bV "Keeper"=some (some (.ref A_Keeper)))(yi:iS K A_Keeper Nq=true)(yj:jy K A_Keeper=true)(yk:lA K A_Keeper=true)(ym:bJ K (.ref A_Keeper) "__setattr__"=some (some (.builtin "object.__setattr__")))(yn:kD K A_Keeper=true)(yo:eV K (.ref A_Keeper)=true)(j7:bJ K (.ref A_Keeper) "came"=some none)(jd:bJ K (.ref A_Keeper) "levels"=some none)(jb:bJ K (.ref A_Keeper) "looked"=some none)(j5:bJ K (.ref A_Keeper) "lost"=some none)(nS:bJ K (.ref A_Keeper) "n"=some none)(jG:bJ K (.ref A_Keeper) "risen"=some none)(j6:bJ K (.ref A_Keeper) "wood"=some none)(BW:qA K mg "is_whole" ER yN)(BX:qA K mg "is_count" ES yN)(BY:qA K mg "is_place" ET yL)(VH:qA K mg "top" stop ["n"])(Je:qA K mg "tie_of" M5 ["a","b"])(Jg:qA K mg "credit" M6 ["n","ties"])(Ng:qA K mg "rises" Q0 ["trail"])(Nh:qA K mg "looks" Q1 ["trail"])(uf:qA K mg "steps_along" vU ["row"])(Ji:qA K mg "turned" M7 ["row","a"])(Fc:qA K mg "spliced" IH ["row","other","a","b"])(Jj:qA K mg "parted" M8 ["row","a","b"])(oz:qA K mg "refuse_no_place" pq yL)(nQ:qA K mg "refuse_no_places" oe yK)(pM:qA K mg "refuse_no_pair" qp yK)(uY:qA K mg "in_order" xS EO)(ug:qA K mg "ends_within" vV M3)(Fe:qA K mg "new_tie" II MY)(rM:qA K mg "standing_tie" tQ MY)(rN:qA K mg "_law_cell_at" tR MZ)(wD:qA K mg "_law_shape" yO QZ)(wF:qA K mg "_law_mixed" yP ["_law_row","_law_cell"])(y8:qA K mg "_law_deed" Bi Vr)(rO:qA K mg "_law_members" tS ["_law_known","_law_a"])(y9:qA K mg "_law_wood" Bj M0)(za:qA K mg "_law_side" Bk Vu)(BZ:qA K mg "_law_due" EU Vs)(B9:qA K mg "_law_put" EV ["_law_state","_law_tie"])(Ca:qA K mg "_law_out" EW ["_law_state","_law_gone"])(wG:qA K mg "_law_table" yQ IF)(zb:qA K mg "_law_step" Bl Vo)(uh:qA K mg "_law_toggle" vW Vv)(Ni:qA K mg "law" Zw M4)(qw:lL K C "__init__" "Wood.__init__" qY qo)(zc:lL K C "keep" "Wood.keep" Bn ["self","row"])(zd:lL K C "link" "Wood.link" Bo sZ)(Cb:lL K C "cut" "Wood.cut" EX sZ)(ui:lL K C "joined" "Wood.joined" vX sZ)(wH:lL K C "group" "Wood.group" yR yM)(ze:lL K C "size" "Wood.size" Bp yM)(oA:lL K A_Levels "__init__" "Levels.__init__" pC qo)(wI:lL K A_Levels "add" "Levels.add" yS IE)(rP:lL K A_Levels "adopt" "Levels.adopt" tT vT)(uj:lL K A_Levels "lift" "Levels.lift" vY vT)(uk:lL K A_Levels "drop" "Levels.drop" vZ vT)(oB:lL K A_Levels "at_level" "Levels.at_level" pD ["self","level","wooden"])(um:lL K A_Levels "told" "Levels.told" v5 vT)(mw:lL K A_Levels "lesser_side" "Levels.lesser_side" mK M1)(uo:lL K A_Levels "look" "Levels.look" v7 M1)(uq:lL K A_Levels "take" "Levels.take" v8 vT)(qx:lL K A_Keeper "__init__" "Kept.__init__" qZ qo)(rQ:lL K A_Keeper "receive" "Kept.receive" tU IE)(Cc:lL K A_Keeper "out" "Kept.out" EY sZ)(zf:lL K A_Keeper "ties" "Kept.ties" Bq ["self"])(wJ:lL K A_Keeper "put" "Keeper.put" yT sZ)(uZ:uY.d.code=.ref c1)(Lm:dj K bV "bool"=some none)(Rz:dj K bV "int"=some none)(qi:dj K bV "isinstance"=some none)(RA:dj K bV "len"=some none)(Lo:dj K bV "list"=some none)(RB:dj K bV "max"=some none)(RC:dj K bV "min"=some none)(GJ:dj K bV "range"=some none)(u6:dj K bV "reversed"=some none)(RD:dj K bV "set"=some none)(Cd:dj K bV "sorted"=some none)(RE:dj K bV "sum"=some none)(RF:dj K bV "zip"=some none){Dy:Yj}(oO:dj K bV "MOST_PLACES"=some (some (.int 200 Dy)))
 : ∃fd:gG,(∀(s:aA) (v:ak),Hb s fd ⟨[v],[]⟩ [("_law_script",v)])/\∀base:cR,K.In base->base.Ns bV mg->mX base c1 Pt1->base.BuiltinsAt mg Pt1->lN l.prog w K mg base J8 12 fa fd M4 (BV K Pt1):=by
 have e:=Ni.law hfa;subst e
 have T:Na K mg C (⟨A_Levels,A_Keeper⟩:CA):=⟨⟨GD,GE,GF,GG⟩,pT X G GC,sf,mB,⟨yb,yc,yd,ye⟩,pT X G x9,iz,hW,jc,jI,⟨yi,yj,yk,ym⟩,pT X G yh,j7,jd,jb,j5,nS,jG,j6,cQ X G Lm,cQ X G Rz,cQ X G qi,cQ X G RA,cQ X G Lo,cQ X G RB,cQ X G RC,cQ X G GJ,cQ X G u6,cQ X G RD,cQ X G Cd,cQ X G RE,cQ X G RF,⟨_,pT X G oO⟩⟩
 have ct:E7 K C (⟨A_Levels,A_Keeper⟩:CA):=⟨⟨T.G6,T.sf,T.mB⟩,T.Fj,T.iz,T.jc,T.hW,T.jI,T.Fk,T.nS,T.jd,T.j6,T.j7,T.jb,T.jG,T.j5⟩
 refine⟨Ni.d,λs v=>Ni.bt s [v] rfl,λbase _ _ CH1 B1=>?_⟩;have Ce:=BW.mD l.prog w base (BW.F.lT (k:=0) KY (@Gd K C) λhr nd=>bW (d9 (Fw (md HY rfl T.xh BootT.AU (fP (pv 0) (fP (Mq rfl T.ZP BootT.int rfl) oG))) (Fv (Wl (by w_up))))));have VI:=VH.mD l.prog w base (VH.F.lT (k:=0) Q2 (@Ud K C) λhr nd=>aE (by w_up) (aE (by w_up) (aE (vC fD (by w_up) (aE (Kn (i:=1) Q2.nd rfl (Or.inl rfl) ni SX) (bW (Kn (i:=2) Q2.nd rfl (Or.inl rfl) ni SZ)))) (by w_up))));have Jk:=Je.mD l.prog w base (Je.F.lT (k:=0) Q3 (@K9 K C) λhr nd=>bW (d9 (vB (by w_up) (by w_up) (by w_up))));have Nj:=Ng.mD l.prog w base (Ng.F.lT (k:=0) Uc (@Oc K C) λhr nd=>bW (d9 (md (EL rfl) rfl T.VO BootT.sum (fP (iY De (ys:=[]) [] rfl (mF (pv 0)) trivial (λ_ _ _=>Fx rfl (iL (hV (show(De:List bF).Nodup by decide +kernel)) (iL (hV (show(De:List bF).Nodup by decide +kernel)) (iL (hV (show(De:List bF).Nodup by decide +kernel)) (iL (hV (show(De:List bF).Nodup by decide +kernel)) Ah))))) (λ_ _ _=>kK) (λ_ _ _=>(by w_up))) oG))));have ur:=uf.mD l.prog w base (uf.F.lT (k:=0) Dg (@zD K C) λhr nd=>bW (d9 (TK rfl rfl T.Ma rfl T.Z1 (by w_up))));have Jl:=Ji.mD l.prog w base (Ji.F.lT (k:=0) IJ (@K8 K C) λhr nd=>aE (qW IJ.nd (pe fg gJ kH (sH hr.units) (pv 0) (by w_up))) (by w_up));have u7:=uY.mD l.prog w base (IV uY.F T uZ CH1 B1 (by walk_at "l") Gk);have uu:=ug.mD l.prog w base (ug.F.lT (k:=0) Dh (@zF K C) λhr nd=>bW (d9 (md EC rfl T.VJ BootT.len (fP (iY ["place"] (ys:=["side"]) [1] rfl (mF (pv 0)) ⟨rfl,.inl rfl,rfl,trivial⟩ (λ_ _ _=>hV (show(["place","side"]:List bF).Nodup by decide +kernel)) (λ_ _ _=>jA (by w_up)) (λ_ _ _=>(pv 0))) oG))));have rR:=rN.mD l.prog w base (rN.F.lT (k:=0) Bu (@x5 K C) λhr nd=>aE (by w_up) (by w_up));have wK:=wD.mD l.prog w base (wD.F.lT (k:=0) FX (@BS K C) λhr nd=>aE (by w_up) (aE (jl (by w_up) (bW (d9 (iY Bh (ys:=[]) [] rfl (by w_up) trivial (λ_ _ _=>hV (show(Bh:List bF).Nodup by decide +kernel)) (λ_ _ _=>kK) (λ_ _ _=>(by w_up))))) fc) (aE (jl (by w_up) (bW (d9 (UT MD (iY Bh (ys:=[]) [] rfl (by w_up) trivial (λ_ _ _=>hV (show(Bh:List bF).Nodup by decide +kernel)) (λ_ _ _=>kK) (λ_ _ _=>(by w_up))) (by w_up)))) fc) (aE (jl (by w_up) (bW (d9 (iY Bh (ys:=["_law_n"]) [0] rfl (by w_up) ⟨rfl,.inl rfl,rfl,trivial⟩ (λ_ _ _=>hV (show(["_law_k","_law_n"]:List bF).Nodup by decide +kernel)) (λ_ _ _=>jA (by w_up)) (λ_ _ _=>(by w_up))))) fc) (aE (jl (by w_up) (bW (d9 (iY Bh (ys:=QZ) [0,1] rfl (by w_up) ⟨rfl,.inl rfl,rfl,⟨rfl,.inl rfl,rfl,trivial⟩⟩ (λ_ _ _=>hV (show(["_law_k","_law_n","_law_cell"]:List bF).Nodup by decide +kernel)) (λ_ _ _=>jA (by w_up)) (λ_ _ _=>(by w_up))))) fc) (aE (jl (by w_up) (bW (d9 (iY Bh (ys:=["_law_n"]) [0] rfl (by w_up) ⟨rfl,.inl rfl,rfl,trivial⟩ (λ_ _ _=>hV (show(["_law_k","_law_n"]:List bF).Nodup by decide +kernel)) (λ_ _ _=>jA (by w_up)) (λ_ _ _=>(by w_up))))) fc) (by w_up)))))));have wL:=wF.mD l.prog w base (wF.F.lT (k:=0) FY (@BU K C) λhr nd=>aE (by w_up) (aE (by w_up) (aE (by w_up) (aE (by w_up) (aE (jl (by w_up) (bW (d9 (TN rfl rfl T.Ma rfl T.Mb (by w_up)))) fc) (by w_up))))));have zg:=y8.mD l.prog w base (y8.F.lT (k:=0) og (@Dx K C) λhr nd=>aE (vK (i:=3) IG (ys:=[]) [] rfl og.nd rfl rfl (mF (pv 0)) trivial (λ_ _ _=>hV (show(IG:List bF).Nodup by decide +kernel)) (λ_ _ _=>kK) (λ_ _ _=>(by w_up))) (aE (by w_up) (aE (jl (by w_up) (aE (Km (i:=5) og.nd rfl (Or.inr rfl) (md (EM rfl) rfl T.VP BootT.max (fP (iY IG (ys:=[]) [] rfl (mF (pv 0)) trivial (λ_ _ _=>hV (show(IG:List bF).Nodup by decide +kernel)) (λ_ _ _=>jA (by w_up)) (λ_ _ _=>(by w_up))) oG))) (aE (vK (i:=6) IG (ys:=["_law_high"]) [5] rfl og.nd rfl rfl (mF (pv 0)) ⟨rfl,.inl rfl,rfl,trivial⟩ (λ_ _ _=>hV (show(["_law_row","_law_high"]:List bF).Nodup by decide +kernel)) (λ_ _ _=>jA (by w_up)) (λ_ _ _=>(by w_up))) (bW (d9 (qP (fP qN (by w_up))))))) fc) (aE (jl (by w_up) (bW (d9 (qP (fP qN (by w_up))))) fc) (aE (by w_up) (aE (by w_up) (aE (by w_up) (aE (by w_up) (aE (jl (by w_up) (bW (d9 (qP (fP qN (by w_up))))) fc) (bW (d9 (qP (fP qN (by w_up))))))))))))));have rS:=rO.mD l.prog w base (rO.F.lT (k:=0) nG (@x6 K C) λhr nd=>aE (qW nG.nd (MB (HR (pv 1) (Pl oG) MA) rfl rfl (by decide) (by decide))) (aE (AD fD rfl (mF (pv 0)) (by w_up) (aE (Ag (pe fg pV pX sF (pe gL mW CU EF (pv 2) (by w_up)) (by w_up))) (bW (Ag (pe fg pV pX sF (pe gL mW CU EF (pv 2) (by w_up)) (by w_up)))))) (aE (qW nG.nd (MB (HR (pv 1) US MA) rfl rfl (by decide) (by decide))) (aE (by w_up) (aE (by w_up) (aE (by w_up) (bW (d9 (md FV rfl T.sg BootT.sorted (by w_up))))))))));have zh:=y9.mD l.prog w base (y9.F.lT (k:=0) IK (@Du K C) λhr nd=>bW (d9 (iY ["_law_tie"] (ys:=["_law_i","_law_state"]) [1,0] rfl (by w_up) ⟨rfl,.inl rfl,rfl,⟨rfl,.inl rfl,rfl,trivial⟩⟩ (λ_ _ _=>hV (show(["_law_tie","_law_i","_law_state"]:List bF).Nodup by decide +kernel)) (λ_ _ _=>jA (by w_up)) (λ_ _ _=>(pv 0)))));have Cg:=BZ.mD l.prog w base (BZ.F.lT (k:=0) K2 (@Gx K C) λhr nd=>aE (by w_up) (by w_up));have wM:=wG.mD l.prog w base (wG.F.lT (k:=0) FZ (@BO K C) λhr nd=>bW (d9 (iY ["_law_tie"] (ys:=IF) [0] rfl (by w_up) ⟨rfl,.inl rfl,rfl,trivial⟩ (λ_ _ _=>hV (show(["_law_tie","_law_state"]:List bF).Nodup by decide +kernel)) (λ_ _ _=>kK) (λ_ _ _=>(by w_up)))));have uv:=uh.mD l.prog w base (uh.F.lT (k:=0) Di (@zM K C) λhr nd=>aE (by w_up) (aE (by w_up) (aE (by w_up) (aE (by w_up) (aE (jl (by w_up) (bW (d9 (qP (fP qN (by w_up))))) fc) (bW (d9 (qP (fP qN (by w_up))))))))));have i9:=qw.XJ l.prog w base GH GI (qw.F.lT (mg:=mg) (k:=0) zA (@wx K C) λhr nd=>aE (by w_up) (bW (Fz (pv 0) (iY ["place"] (ys:=[]) [] rfl (by w_up) trivial (λ_ _ _=>hV (show(["place"]:List bF).Nodup by decide +kernel)) (λ_ _ _=>kK) (λ_ _ _=>(by w_up))) rfl)));have zj:=zc.mD l.prog w base (zc.F.lT (mg:=mg) (k:=0) IM (@Dq K C) λhr nd=>bW (AD fD rfl (mF (pv 1)) (by w_up) (by w_up)));have uw:=um.mD l.prog w base (um.F.lT (mg:=mg) (k:=0) Dl (@zG K C ⟨A_Levels,A_Keeper⟩) λhr nd=>bW (d9 (by w_up)));have Ci:=BX.mD l.prog w base (BX.F.lT (k:=1) KZ (@Gi K C) λhr nd=>bW (d9 (Fw (by w_up) (Fv (HJ Mv Mv ni (pv 0) (SJ rfl T.Eb.choose_spec ⟨_,rfl⟩))))));have Cj:=BY.mD l.prog w base (BY.F.lT (k:=1) K0 (@Ge K C) λhr nd=>bW (d9 (Fw (by w_up) (Fv (HJ Mv UV ni (pv 1) (pv 0))))));have Jm:=Jg.mD l.prog w base (Jg.F.lT (k:=1) Q4 (@La K C) λhr nd=>bW (d9 (md (EL rfl) rfl T.VO BootT.sum (fP (iY ["a","b","level","in_wood"] (ys:=["n"]) [0] rfl (mF (pv 1)) ⟨rfl,.inl rfl,rfl,trivial⟩ (λ_ _ _=>Fx rfl (iL (hV (show(MW:List bF).Nodup by decide +kernel)) (iL (hV (show(MW:List bF).Nodup by decide +kernel)) (iL (hV (show(MW:List bF).Nodup by decide +kernel)) (iL (hV (show(MW:List bF).Nodup by decide +kernel)) Ah))))) (λ_ _ _=>kK) (λ_ _ _=>(by w_up))) oG))));have Nk:=Nh.mD l.prog w base (Nh.F.lT (k:=1) M9 (@Od K C) λhr nd=>aE (vK (i:=1) De (ys:=[]) [] rfl M9.nd rfl rfl (mF (pv 0)) trivial (λ_ _ _=>Fx rfl (iL (hV (show(De:List bF).Nodup by decide +kernel)) (iL (hV (show(De:List bF).Nodup by decide +kernel)) (iL (hV (show(De:List bF).Nodup by decide +kernel)) (iL (hV (show(De:List bF).Nodup by decide +kernel)) Ah))))) (λ_ _ _=>jA (Kl (Ft (pv 3)))) (λ_ _ _=>(pv 3))) (bW (d9 (vB (by w_up) (by w_up) (by w_up)))));have Fg:=Fc.mD l.prog w base (Fc.F.lT (k:=1) EZ (@I0 K C) λhr nd=>aE (qW EZ.nd (pe fg gJ kH (sH hr.units) (pv 0) (by w_up))) (by w_up));have Jo:=Jj.mD l.prog w base (Jj.F.lT (k:=1) Br (@K7 K C) λhr nd=>aE (by w_up) (aE (qW Br.nd (pe fg gJ kH (sH hr.units) (pv 3) (by w_up))) (aE (qW Br.nd (pe fg gJ kH (sH hr.units) (pv 3) (by w_up))) (aE (by w_up) (aE (by w_up) (aE (by w_up) (aE (by w_up) (bW (d9 (vB (by w_up) (by w_up) (by w_up)))))))))));have zk:=za.mD l.prog w base (za.F.lT (k:=1) IL (@Dv K C) λhr nd=>aE (by w_up) (by w_up));have Ck:=B9.mD l.prog w base (B9.F.lT (k:=1) K3 (@GA K C) λhr nd=>aE (by w_up) (by w_up));have oC:=oB.mD l.prog w base (lN.Ov (oB.F.lT (mg:=mg) (k:=1) oh (@rK K C ⟨A_Levels,A_Keeper⟩ Pt1) λhr nd=>aE (vK (i:=3) ["tie"] (ys:=["level","self"]) [1,0] rfl oh.nd rfl rfl (U4 (by w_up)) ⟨rfl,.inl rfl,rfl,⟨rfl,.inl rfl,rfl,trivial⟩⟩ (λ_ _ _=>hV (show(["tie","level","self"]:List bF).Nodup by decide +kernel)) (λ_ _ _=>jA (by w_up)) (λ_ _ _=>(pv 0))) (bW (d9 (pcl u7 hr.m rfl tP (fP (iY ["tie"] (ys:=["wooden","self"]) [2,0] rfl (mF (pv 3)) ⟨rfl,.inl rfl,rfl,⟨rfl,.inl rfl,rfl,trivial⟩⟩ (λ_ _ _=>hV (show(["tie","wooden","self"]:List bF).Nodup by decide +kernel)) (λ_ _ _=>jA (by w_up)) (λ_ _ _=>(pv 0))) (by w_up)))))) rJ);have zl:=zf.mD l.prog w base (lN.Ov (zf.F.lT (mg:=mg) (k:=1) IR (@BJ K C ⟨A_Levels,A_Keeper⟩) λhr nd=>bW (d9 (md vS rfl T.sg BootT.sorted (fP (iY ["tie"] (ys:=["self"]) [0] rfl (U4 (by w_up)) ⟨rfl,.inl rfl,rfl,trivial⟩ (λ_ _ _=>hV (show(["tie","self"]:List bF).Nodup by decide +kernel)) (λ_ _ _=>kK) (λ_ _ _=>(by w_up))) oG)))) BI);have oE:=oz.mD l.prog w base (oz.F.lT (k:=2) v9 (@tj K C) λhr nd=>bW (jl (by w_up) (bW nr) fc));have Cm:=Ca.mD l.prog w base (Ca.F.lT (k:=2) Bw (@Gz K C) λhr nd=>aE (Pb (pe gL l9 ma (Ak hr.units) (pv 0) (by w_up)) (by w_up)) (aE (by w_up) (aE (vC fD (by w_up) (aE (by w_up) (aE (by w_up) (aE (by w_up) (aE (by w_up) (aE (by w_up) (bW (jl (Kl (Ft (pv 7))) (aE (by w_up) (bW (qW Bw.nd (UU Pe ni)))) fc)))))))) (by w_up))));have iw:=oA.XJ l.prog w base yf yg (oA.F.lT (mg:=mg) (k:=2) wb (@tm K C ⟨A_Levels,A_Keeper⟩) λhr nd=>aE (by w_up) (aE (by w_up) (aE (by w_up) (bW (Fz (pv 0) (iY ["level"] (ys:=["n"]) [1] rfl (by w_up) ⟨rfl,.inl rfl,rfl,trivial⟩ (λ_ _ _=>hV (show(["level","n"]:List bF).Nodup by decide +kernel)) (λ_ _ _=>kK) (λ_ _ _=>FA i9.m i9.G hr.m rfl T.Uw i9.b .nil tP (by w_up))) rfl)))));have nR:=nQ.mD l.prog w base (nQ.F.lT (k:=3) uS (@rH K C) λhr nd=>aE (by w_up) (by w_up));have qj:=wH.mD l.prog w base (wH.F.lT (mg:=mg) (k:=3) F0 (@BE K C) λhr nd=>aE (by w_up) (bW (d9 (Iz rfl rfl T.sg rfl T.ZX (by w_up)))));have zm:=ze.mD l.prog w base (ze.F.lT (mg:=mg) (k:=3) IQ (@Dt K C) λhr nd=>aE (by w_up) (by w_up));have pN:=pM.mD l.prog w base (pM.F.lT (k:=4) xU (@uX K C) λhr nd=>aE (by w_up) (bW (jl (by w_up) (bW nr) fc)));have ux:=ui.mD l.prog w base (ui.F.lT (mg:=mg) (k:=4) Dj (@zE K C) λhr nd=>aE (by w_up) (by w_up));have mx:=mw.mD l.prog w base (mw.F.lT (mg:=mg) (k:=4) rg (@qh K C ⟨A_Levels,A_Keeper⟩) λhr nd=>aE (by w_up) (bW (d9 (pcm qj T.G6 hr.m (pv 3) tP (fP (vB (by w_up) (by w_up) (by w_up)) oG)))));have ja:=qx.XJ l.prog w base yn yo (qx.F.lT (mg:=mg) (k:=4) zB (@wA K C ⟨A_Levels,A_Keeper⟩) λhr nd=>aE (jl (by w_up) (bW nr) fc) (aE (by w_up) (aE (Fz (pv 0) (FA iw.m iw.G hr.m rfl T.OC iw.b .nil tP (by w_up)) rfl) (by w_up))));have Fi:=Fe.mD l.prog w base (Fe.F.lT (k:=5) Oa (@Jb K C) λhr nd=>aE (by w_up) (aE (by w_up) (aE (jl (by w_up) (bW nr) fc) (by w_up))));have rT:=rM.mD l.prog w base (rM.F.lT (k:=5) Bt (@xZ K C) λhr nd=>aE (by w_up) (aE (by w_up) (aE (jl (by w_up) (bW nr) fc) (by w_up))));have zq:=zd.mD l.prog w base (zd.F.lT (mg:=mg) (k:=5) IP (@Ds K C) λhr nd=>aE (by w_up) (aE (jl (by w_up) (bW nr) fc) (by w_up)));have Cn:=Cb.mD l.prog w base (Cb.F.lT (mg:=mg) (k:=5) K4 (@Gh K C) λhr nd=>aE (by w_up) (aE (jl (by w_up) (bW nr) fc) (by w_up)));have rV:=rP.mD l.prog w base (rP.F.lT (mg:=mg) (k:=6) Bx (@x3 K C ⟨A_Levels,A_Keeper⟩) λhr nd=>aE (by w_up) (by w_up));have uz:=uj.mD l.prog w base (uj.F.lT (mg:=mg) (k:=6) Dk (@zH K C ⟨A_Levels,A_Keeper⟩) λhr nd=>aE (Tw (bx (yB (by decide) _) hr.units) (by w_up) (pv 1) ni AI (λ_ _ _=>rfl)) (by w_up));have uA:=uk.mD l.prog w base (uk.F.lT (mg:=mg) (k:=6) tV (@zI K C ⟨A_Levels,A_Keeper⟩) λhr nd=>aE (Ag (pe gL l9 ma (Ak hr.units) (by w_up) (by w_up))) (aE (qW tV.nd (pe gL l9 ma (Ak hr.units) (by w_up) (by w_up))) (bW (jl (KD (pe gL l9 ma (Ak hr.units) (by w_up) (by w_up)) (λ_=>rfl)) (by w_up) fc))));have wO:=wI.mD l.prog w base (wI.F.lT (mg:=mg) (k:=7) Ga (@BF K C ⟨A_Levels,A_Keeper⟩) λhr nd=>aE (by w_up) (by w_up));have uB:=uo.mD l.prog w base (uo.F.lT (mg:=mg) (k:=7) oK (@zJ K C ⟨A_Levels,A_Keeper⟩ Pt1) λhr nd=>aE (Km (i:=3) oK.nd rfl (Or.inr rfl) (by w_up)) (aE (vK (i:=4) ["other"] (ys:=["side"]) [3] rfl oK.nd rfl rfl (by w_up) ⟨rfl,.inl rfl,rfl,trivial⟩ (λ_ _ _=>hV (show(["other","side"]:List bF).Nodup by decide +kernel)) (λ_ _ _=>jA (by w_up)) (λ_ _ _=>(pv 0))) (by w_up)));have uC:=uq.mD l.prog w base (uq.F.lT (mg:=mg) (k:=8) oM (@zL K C ⟨A_Levels,A_Keeper⟩ Pt1) λhr nd=>aE (by w_up) (aE (by w_up) (aE (by w_up) (aE (by w_up) (aE (vC fD (by w_up) (aE (by w_up) (aE (qW oM.nd (Wi (Wh (Pw (WK hr.units) (Pw (WK hr.units) (pv 4) (UU Pe ni) (λ_ _=>rfl)) ni (λ_ _=>rfl))))) (bW (Kn (i:=2) oM.nd rfl (Or.inl rfl) ni SY))))) (by w_up))))));have rW:=rQ.mD l.prog w base (rQ.F.lT (mg:=mg) (k:=8) By (@x4 K C ⟨A_Levels,A_Keeper⟩) λhr nd=>aE (sE (pv 0) ni AI) (by w_up));have Co:=Cc.mD l.prog w base (Cc.F.lT (mg:=mg) (k:=9) K5 (@Gn K C ⟨A_Levels,A_Keeper⟩ Pt1) λhr nd=>aE (by w_up) (aE (sE (pv 0) (by w_up) AI) (aE (by w_up) (aE (sE (pv 0) (by w_up) AI) (aE (sE (pv 0) (by w_up) AI) (by w_up))))));have wQ:=wJ.mD l.prog w base (wJ.F.lT (mg:=mg) (k:=9) Gb (@BH K C ⟨A_Levels,A_Keeper⟩) λhr nd=>bW (d9 (by w_up)));have rX:=zb.mD l.prog w base (zb.F.lT (k:=10) yU (@Dw K C ⟨A_Levels,A_Keeper⟩ Pt1) λhr nd=>aE (by w_up) (aE (jl (by w_up) (bW (Wo (i:=4) (j:=5) rfl yU.nd rfl rfl (by decide) rfl rfl (by w_up) rfl)) fc) (aE (jl (Mw (PJ hr.units) (by w_up) qN (Ph _)) (by w_up) fc) (by w_up))));exact Ni.F.lT (k:=11) Q5 (Ul ct) λhr nd=>aE (by w_up) (aE (by w_up) (aE (by w_up) (aE (by w_up) (aE (by w_up) (aE (by w_up) (aE (by w_up) (aE (by w_up) (aE (by w_up) (aE (qW Q5.nd (FA ja.m ja.G hr.m rfl T.Ot ja.b .nil tP (by w_up))) (aE (by w_up) (aE (AD fD rfl (by w_up) (by w_up) (bW (jl (O9 (KD (pcl rX hr.m rfl tP (fP (pv 8) (fP (pv 9) (fP (qP (fP qN (by w_up))) (by w_up))))) (λ_=>rfl))) (by w_up) fc))) (aE (by w_up) (aE (AD fD rfl (mF (pv 7)) (hV Q5.nd) (aE (by w_up) (aE (by w_up) (bW (jl (Kl (Ft (pv 13))) (by w_up) fc))))) (by w_up))))))))))))))
theorem walk{l:qC}{q:bI}{loose:List bF}{XP:(bF->Option ak)->cR->Prop}{YP:cC->cR->Prop}{d dy1:DefRec}{K:Params->aa}{c1 Pt1:ai}(hn:l.most=some 63)(hdf:d.params.defaults=[])(hY:∀(w:cC) (h:cR),YP w h->(K w.params).In h)(hrec1:(recsOf q).find? (λe=>e.name == ("in_order":bF))=some dy1)(htab1:∀w:cC,PySem.W.tabIn (K w.params) "in_order"=some (c1,Pt1))(hnt:∀w:cC,PySem.W.noTabs (K w.params)=true)(F:∀(w:cC) (mg:bF->Option ak) (fa:ai) (h:cR),(K w.params).In h->h.Ns bV mg->mg d.name=some (.ref fa) ->∃fd:gG,(∀(s:aA) (u:ak),Hb s fd ⟨[u],[]⟩ [("_law_script",u)])/\∀base:cR,(K w.params).In base->base.Ns bV mg->mX base c1 Pt1->base.BuiltinsAt mg Pt1->lN l.prog w (K w.params) mg base J8 12 fa fd M4 (BV (K w.params) Pt1)):Se q loose XP YP l.row.toRowW d [] (λf vs=>Sg f vs):=by
 have m1:(c1,Pt1)∈[(c1,Pt1)]:=aj;refine L2.QB (n:=63) (k:=12) (x:="_law_script") (Ps:=[(c1,Pt1)]) (sp:=λw=>BV (K w.params) Pt1) hn (by decide) hdf ⟨rfl,by decide,by decide⟩ hY (λp hp=>?_) hnt (λw mg fa h a b c=>?_) (λ_ _ a ns hl hT hS=>⟨a,ns,rfl,hS,hl,.inl (hT _ m1),λ_=>rfl⟩) λ_ _ _ _ z=>z
 .rw [ax.mp hp];exact⟨_,dy1,hrec1,htab1⟩
 .obtain ⟨fd,q1,q2⟩:=F w mg fa h a b c;exact⟨fd,q1,λbase i1 i2 hP=>q2 base i1 i2 (hP _ m1).1 (hP _ m1).2⟩
end K40
end
end
local macro_rules | `(tactic| walk_at "b1")=>`(tactic| exact λ_ _ _ _ _ _=>L2.m1 λ_=>rfl)
local macro_rules | `(tactic| walk_at "b2")=>`(tactic| exact λ_ _ _ _ _ _=>L2.m2 λ_ _=>rfl)
local macro_rules | `(tactic| walk_at "b3")=>`(tactic| exact λ_ _ _ _ _ _=>L2.m3 λ_ _ _=>rfl)
local macro_rules | `(tactic| walk_at "b4")=>`(tactic| exact λ_ _ _ _ _ _=>L2.m4 λ_ _ _ _=>rfl)
local macro_rules | `(tactic| walk_at "b5")=>`(tactic| exact λ_ _ _ _ _ _ us hl=>match us,hl with|[_,_,_,_,_],_=>rfl)
structure PySem.W.Fast:Prop where(tw11094421491502225580 tw9911890576900956028 tw18332109636442509836 tw10885455302553937115 tw16330177328121358905 tw9086487425337200221 tw17962932089427986431 tw1236955223729190276 tw5904664454585135717 tw1262352465168322852 tw8733378564123081007 tw7347262038124557644 tw12877802721367498363 tw1397603333337979306 tw12389691808842740655 tw6952613262165845090 tw4089077105128067785 tw16325075449792250597 tw2328072579876872790 tw7861490539159800683 tw17720529246400378304 tw1474973436858066279 tw12206163539532877385 tw9015577079504590264 tw16788824554660279125 tw15218952680855596907 tw7985400889117635685 tw13624690259904113536 tw15816347180252170916 tw7286814503359064250 tw2402397946219432601 tw519435172625186683 tw6702245693060411369 tw18331997262753710245 tw9303542252850844151 tw6962539584801757011 tw13762626097098344105 tw18363530928216694046 tw2944425690345802348 tw17640783995516113029 tw10086407416000644481 tw13718614008336598128 tw9483848579423033145 tw3850407481076022389 tw2246536237233486527 tw9420303392616718098 tw716518175593922203 tw1024123032610626013 tw5211901127515968743 tw16499466147741226834 tw15119432701005461407 tw5214169260570592958 tw4520010625320294791 tw1839432095363018828 tw3464141482186396577 tw2560374659236146340 tw3787355695655991518 tw17916525027856900365 tw164165699587377945 tw5789194487129117803 tw3155580813902781951 tw14192843164816708145 tw1145613263543487826 tw6043760146502842145 tw8588861960650585993 tw6395118577205249313 tw187400337711145139 tw17585085907778052828 tw18167274872467006453 tw1191012827115636943 tw13233106522349279356 tw13358909436821234118 tw12913252872323874027 tw4924243338269872068 tw5342414412666900844 tw11469421478750486265 tw7089513853838365532 tw13885034161785585083 tw15316392413497493614 tw17354327875521255292 tw11393389683150787183 tw4381988172317698864 tw5410127136094138716 tw65831525630611561 tw3337103815819679882 tw5902341913470960419 tw6618846356344209223 tw10121690960291464762 tw1600752791236942465 tw4390423722267785600 tw7565437120508296185 tw11182202301305696498 tw14539085076560416076 tw17370178008901493293 tw180359113722560589 tw16249806470610823629 tw2891817483372004293 tw12663854632714450583 tw12725445107302708971 tw14122159062652514492 tw4261647220821986841 tw1599655312855495870 tw13701330548444845676 tw16124404780623294617 tw12047496375868746411 tw1221268306414356904 tw17918816761550253843 tw7265627775761513170 tw8676629344950375867 tw8436199574783181093 tw17529430806824268672 tw5881715468756636142 tw8425523299153214669 tw8134289924012546361 tw13983660427884651885 tw17867498051451916082 tw8505230700863253071 tw14973498106247146443 tw8306967014590766917 tw1112311594393161857 tw4666593857581419044 tw4609644752505195063 tw16091975707979068947 tw11279973337239743235 tw10745522816866050695 tw6494146270058252559 tw9361149083186635036 tw817177357381477083 tw11876370946622351571 tw17403814733217696166 tw17917591591930353813 tw8182887293256350451 tw3525337754735839468 tw16923616125446666285 tw724732320395771273 tw12331618001920377554 tw3842211501960663562 tw7378153167407136745 tw5118655709530508253 tw5814988608895194931 tw2466419932416779750 tw8974862825253286355 tw12130007090170335978 tw1975490782195172644 tw9756344309732352817 tw1720807737618412676 tw13567371875895120400 tw7049725919005334522 tw12692128121781136712 tw4515489767530507888 tw2262753223061841220 tw9533424736112269041 tw747765200248119084 tw11595243272622798400 tw11266136496121113872 tw13443678159268758409 tw5660355194733541586 tw12526046150490563231 tw5312592266536479144 tw16243170853873724100 tw622139042314703688 tw193716371587225143 tw9154125129053484991 tw8989079971441133250 tw3519874477536517305 tw10859824475031507626 tw1738802362355270261 tw12026445218125437949 tw4307254825670171823 tw7194715495546867860 tw17168281907555079681 tw3309806762732907659 tw4797558345891149446 tw13886490481533497374 tw8441839647783723077 tw12675766991966222339 tw10018832132951666518 tw10378461303034849582 tw11407674433986455876 tw14853488051698944913 tw17589043245437395726 tw14757967574859475099 tw13789078022961872557 tw5521832236178566288 tw316937187927390514 tw8146352182753190682 tw1094870593112178772 tw3048206947621265304 tw18206643164920316431 tw6500884177811568682 tw7103991339328169810 tw587141020858598915 tw17933622611775534969 tw17090581198013561633 tw9688117846536268637 tw1771654021507813175 tw788377223049616307 tw2302731386583855650 tw10584801006381306728 tw8638056074180113018 tw8409619799099151546 tw12788582096323911119 tw17333186516230321188 tw5953787169931838693 tw17179475814415620715 tw1253381773896689522 tw9428736729641725558 tw9806882623223623330 tw3129274670913149617 tw6389581625659294480 tw2775203452069817600 tw8191972248474836039 tw13360143466335552248 tw14899930470114503687 tw4254323867675095942 tw3470492077053326269 tw4932023257902900689 tw7475204029174496918 tw179452503671822401 tw14070481177020437923 tw7501337778139989546 tw9475760997339782493 tw11445249697949140873 tw18106424994319421586 tw1294604461084734977 tw9723474535252862454 tw2420827068958146557 tw6996570773771662737 tw4766120460212973186 tw12292719776572209811 tw15235154745426818203 tw14638698006218777728 tw12501110237645181464 tw13568154028752267559 tw3633104948510621582 tw17838484014354640532 tw6317028541437301375 tw11954858931840629468 tw17887431592743676132 tw5879032046995386836 tw5711645591347719470 tw1284293219503350658 tw14243908310879285197 tw672896800019154546 tw7751230557266067927 tw14779025659410515938 tw1981098980951547184 tw15817692725156462815 tw2796304509863718250 tw13917914354195581978 tw12668894386410212248 tw12037930827879376221 tw13844558526143230823 tw3142864040035423116 tw2272494374902831554 tw9997384029494938896 tw8972826357914188404 tw12551689943976740073 tw4576334080104372861 tw15159735876479836305 tw4596486120798901950 tw135973626782280173 tw4968216012842613945 tw17572734621141564179 tw4877164393175318248 tw5517449092005028986 tw8891725240641905693 tw3871079550340872283 tw13179112835727286667 tw13623067595862108973 tw12457591669153365788 tw2605243761211674889 tw1617948187846441372 tw6727153109978025109 tw5919767250814632912 tw15802695066160649083 tw13889616555119262393 tw6248135670806796658 tw8568823210560605628 tw9104983363712893540 tw16019781750285427653 tw6173017607663962275 tw12177887563285761655 tw14804865935344221694 tw13110673168093463592 tw7245960745057769481 tw419299706138369284 tw6223192913400880281 tw5674427545901489299 tw6479359044490350694 tw4151650360515827670 tw14682109747791146931 tw16735765997995885295 tw6381707322219923905 tw10147669594437339644 tw13331243168833187709 tw3999388503249443481 tw14364984241843856255 tw18155336946104368846 tw15940178634895074450 tw13994214318352087826 tw6630003924704533583 tw7813157857166226191 tw16904776310454449115 tw11564440536450286464 tw2939686996841909945 tw1917460736319746166 tw15072543930396771360 tw10287834417305325574 tw1913386139070843172 tw14197086498228116954 tw10887083718165707777 tw11475513489040210032 tw1488340004657990383 tw11904277545480998658 tw4093632422526478956 tw9448477246400194964 tw13724268212205335142 tw1382431880342238367 tw2987564343770394053 tw1816024389396809600 tw17208996235450752527 tw11966614969505656391 tw17809242287177326258 tw10319434203683635077 tw3437017871242480012 tw9437418298748193449 tw16014567663803919313 tw148305342699828264 tw17967535753119227589 tw10319574778067757648 tw14535630202906962644 tw17990752680538881514 tw3713133001666408714 tw14495228770323893574 tw889484934843206652 tw12679103853455870588 tw2798467086949111629 tw16932398500246730762 tw15526471887824673063 tw17481653539514849004 tw16769891928443199490 tw1046640343668415352 tw1544918695095588821 tw5328107765592223682 tw16070075021827015073 tw548136765259704034 tw863513091302711883 tw17570286074632226449 tw9501543521216553714 tw14421884745156146089 tw11329687651196289200 tw1888302816019659157 tw9395861712861195765 tw10761115095830949222 tw5159720021188982135 tw3570612984289522665 tw3019627538893114613 tw16282590301584147802 tw5557276569233773771 tw8354858030707912052 tw14696299301985595610 tw17635287644551953617 tw11064789328951734199 tw2647888384430582769 tw11121549287189975755 tw16207152351212474135 tw5264628042417255411 tw1915070802428301290 tw7865311421714827047 tw12341520361145386890 tw16366725610330391635 tw10715107789287685642 tw16080267178983718176 tw12461926676335906613 tw5852200907255943736 tw18232446583888068055 tw7188069416436173807 tw15628325794707791466 tw12150721995769344849 tw1721385658750739268 tw10503842442137260973 tw5004458540128908765 tw15924372571251798732 tw8585386334232620249 tw6896489486032636776 tw1944563030944154859 tw17882579131309849192 tw6098339141922034550 tw10754158753664415757 tw6965568912206994402 tw4599532289392889236 tw15562116603795523310 tw11150572145049806277 tw10587620905852432768 tw7797859852398350117 tw14248911784787140447 tw14423284985619260842 tw10610907189913317485 tw18149732733606144566 tw2574318158579179000 tw17037032749843620274 tw6168007220468536248 tw17896249060462154859 tw798065714094690448 tw5653440620846438165 tw13731649035216236382 tw10296203391324719332 tw17173525478324858346 tw971984829826203571 tw5969248367151888257 tw17560444254205978044 tw11172107179510999167 tw14441927249257048637 tw10407698189776801939 tw15303714519644132317 tw7941017758436708582 tw9183383333079787843 tw12824125788886775183 tw8712355899329325814 tw11711677514652611882 tw2277840791660805476 tw8358182377020973788 tw9311031325446807177 tw7692001538115965163 tw14396891672128142928 tw10416634255994974710 tw2611550573311207655 tw7826483072390721969 tw9288620571087543886 tw9348093516554619820 tw497841538394343919 tw13706481301774980778 tw2415114056008521388 tw882111600066485766 tw16037362381313814138 tw17564452381511669795 tw16777586993944132506 tw6737439047459736262 tw5828277103173040235 tw2917721624881575366 tw4773320048498880197 tw18368049146023970789 tw18428866633550187577 tw2289209916550236518 tw2318635385399328932 tw16395259456145100321 tw16712097250032446140 tw13838103642778436086 tw1671906841120535861 tw14845526542910745711 tw13294342750450600513 tw6582487766228491897 tw10252419408007760128 tw2698772363296329303 tw14235271582187492580 tw8277859341079066086 tw8354279442080298953 tw11205999711623736973 tw6826818546293006366 tw14059331534363502213 tw2181826223101591716 tw9927598692904853855 tw7715162657598056826 tw3651842396651151655 tw16659844624090409338 tw4314027297478636178 tw7346004665131085223 tw2917374467972202394 tw69160228242856259 tw10727886200989459750 tw12230312992309480027 tw8466177236978824309 tw13785528511400906709 tw6826137299747938922 tw10384979297752582404 tw12565760498769226545 tw16874746991652999428 tw11705250071800627715 tw6955567526204662399 tw16583963136165405656 tw6603370183598252076 tw15474308023229866981 tw352580062324486815 tw9067800698456876570 tw15369147311023229179 tw16495155282870358882 tw844204172568310479 tw9545349273753615247 tw10372121482891199594 tw17361645877771307867 tw5648146493658181358 tw10766877567583593552 tw4309791412722920668 tw373677985502843394 tw14854621075099277612 tw3067352669360838657 tw10580474486743009043 tw8322736073485793499 tw13876780966188280528 tw685093111566481805 tw7729282658666723644 tw996002778169178896 tw11344566832397763918 tw6519568461959631915 tw8635927358847652248 tw3497442822245330387 tw1600230375614509647 tw8149317428820432616 tw17661242255819901361 tw11448418392085023289 tw4144144695540190297 tw10468448517128680258 tw4354029472104676496 tw14580727166761676870 tw609666595581194924 tw11584157813144027742 tw7090359199835078678 tw9238340246014200784 tw13514884860552334332 tw1045513923611217287 tw17799734157298909946 tw5856443533122325108 tw338499979337455366 tw7089880563252394653 tw14259524790256362028 tw43974200244392308 tw939362750285506134 tw18356762195229312197 tw9092920797836241414 tw14092225782578024789 tw8951137662448902852 tw14633426916799713281 tw13219279381414889364:True)
open PySem PySem.W PyProof.Rows
theorem PySem.Challenge.cw_tiewood_k40_whole_keeper_by_the_letter_holds : PySem.Challenge.rw_tiewood_k40_whole_keeper_by_the_letter.Holds := by
  w_on;o_law;k_head;(case hw=>w_witness2)
  k_fill
  refine' K40.walk (l:=PySem.Challenge.rw_tiewood_k40_whole_keeper_by_the_letter) rfl rfl (λw h Y=>PySem.W.km_in_of Y) ?hrec1' ?htab1' ?hnt' ?F'
  case hrec1'=>exact rfl
  case htab1'=>intro w;exact rfl
  case hnt'=>intro w;exact rfl
  case F' =>
    intro w mg fa h KX G hmg;refine' K40.XA KX G hmg ?GC' ?GD' ?GE' ?GF' ?GG' ?GH' ?GI' ?sf' ?mB' ?x9' ?yb' ?yc' ?yd' ?ye' ?yf' ?yg' ?iz' ?hW' ?jc' ?jI' ?yh' ?yi' ?yj' ?yk' ?ym' ?yn' ?yo' ?j7' ?jd' ?jb' ?j5' ?nS' ?jG' ?j6' (L2.sX KX G ?Lp' ?Lq' ?Ce' ?Lr' (by walk_at "b1")) (L2.sX KX G ?Ls' ?Lu' ?Ci' ?Lw' (by walk_at "b1")) (L2.sX KX G ?Lx' ?Ly' ?Cj' ?Lz' (by walk_at "b2")) (L2.sX KX G ?ZF' ?ZG' ?VI' ?ZH' (by walk_at "b1")) (L2.sX KX G ?RG' ?RH' ?Jk' ?RI' (by walk_at "b2")) (L2.sX KX G ?RJ' ?RK' ?Jm' ?RL' (by walk_at "b2")) (L2.sX KX G ?Um' ?Uo' ?Nj' ?Uq' (by walk_at "b1")) (L2.sX KX G ?Ur' ?Us' ?Nk' ?Ut' (by walk_at "b1")) (L2.sX KX G ?Dz' ?DA' ?ur' ?DB' (by walk_at "b1")) (L2.sX KX G ?RM' ?RN' ?Jl' ?RO' (by walk_at "b2")) (L2.sX KX G ?Oi' ?Oj' ?Fg' ?Ol' (by walk_at "b4")) (L2.sX KX G ?RP' ?RQ' ?Jo' ?RR' (by walk_at "b3")) (L2.sX KX G ?wR' ?wU' ?oE' ?wV' (by walk_at "b2")) (L2.sX KX G ?u9' ?vc' ?nR' ?vd' (by walk_at "b3")) (L2.sX KX G ?yp' ?yq' ?pN' ?yr' (by walk_at "b3")) (L2.sX KX G ?LA' ?LB' ?u7' ?LC' (by walk_at "b2")) (L2.sX KX G ?DC' ?DD' ?uu' ?DE' (by walk_at "b2")) (L2.sX KX G ?Om' ?On' ?Fi' ?Oo' (by walk_at "b4")) (L2.sX KX G ?Cp' ?Cq' ?rT' ?Cr' (by walk_at "b4")) (L2.sX KX G ?Cs' ?Ct' ?rR' ?Cu' (by walk_at "b2")) (L2.sX KX G ?GK' ?GL' ?wK' ?GM' (by walk_at "b2")) (L2.sX KX G ?GN' ?GO' ?wL' ?GP' (by walk_at "b2")) (L2.sX KX G ?Jp' ?Jq' ?zg' ?Jr' (by walk_at "b3")) (L2.sX KX G ?Cv' ?Cw' ?rS' ?Cy' (by walk_at "b2")) (L2.sX KX G ?Js' ?Jt' ?zh' ?Ju' (by walk_at "b2")) (L2.sX KX G ?Jw' ?Jx' ?zk' ?Jy' (by walk_at "b3")) (L2.sX KX G ?LD' ?LF' ?Cg' ?LG' (by walk_at "b3")) (L2.sX KX G ?LH' ?LI' ?Ck' ?LJ' (by walk_at "b2")) (L2.sX KX G ?LK' ?LL' ?Cm' ?LM' (by walk_at "b2")) (L2.sX KX G ?GQ' ?GR' ?wM' ?GS' (by walk_at "b1")) (L2.sX KX G ?Jz' ?JA' ?rX' ?JB' (by walk_at "b4")) (L2.sX KX G ?DF' ?DG' ?uv' ?DH' (by walk_at "b3")) (L2.sX KX G ?ZI' ?ZJ' ?ZK' ?ZL' (by walk_at "b1")) (L2.CV ?zN' ?zO' ?zQ' ?i9' ?zS' (by walk_at "b2")) (L2.CV ?JC' ?JD' ?JE' ?zj' ?JF' (by walk_at "b2")) (L2.CV ?JG' ?JH' ?JI' ?zq' ?JJ' (by walk_at "b3")) (L2.CV ?LN' ?LO' ?LP' ?Cn' ?LQ' (by walk_at "b3")) (L2.CV ?DI' ?DJ' ?DK' ?ux' ?DL' (by walk_at "b3")) (L2.CV ?GT' ?GU' ?GV' ?qj' ?GW' (by walk_at "b2")) (L2.CV ?JK' ?JL' ?JM' ?zm' ?JN' (by walk_at "b2")) (L2.CV ?wW' ?wX' ?wY' ?iw' ?wZ' (by walk_at "b2")) (L2.CV ?GX' ?GY' ?GZ' ?wO' ?G0' (by walk_at "b3")) (L2.CV ?Cz' ?CB' ?CC' ?rV' ?CD' (by walk_at "b2")) (L2.CV ?DM' ?DN' ?DO' ?uz' ?DP' (by walk_at "b2")) (L2.CV ?DQ' ?DR' ?DS' ?uA' ?DT' (by walk_at "b2")) (L2.CV ?w6' ?w8' ?xa' ?oC' ?xc' (by walk_at "b3")) (L2.CV ?DU' ?DV' ?DW' ?uw' ?DX' (by walk_at "b2")) (L2.CV ?rY' ?rZ' ?r9' ?mx' ?se' (by walk_at "b3")) (L2.CV ?DY' ?DZ' ?D0' ?uB' ?D5' (by walk_at "b3")) (L2.CV ?D6' ?D7' ?D8' ?uC' ?D9' (by walk_at "b2")) (L2.CV ?zT' ?zU' ?zV' ?ja' ?zW' (by walk_at "b2")) (L2.CV ?CF' ?CG' ?CI' ?rW' ?CJ' (by walk_at "b3")) (L2.CV ?LR' ?LS' ?LU' ?Co' ?LW' (by walk_at "b3")) (L2.CV ?JO' ?JP' ?JQ' ?zl' ?JR' (by walk_at "b1")) (L2.CV ?G1' ?G2' ?G4' ?wQ' ?G5' (by walk_at "b3")) ?uZ' ?Lm' ?Rz' ?qi' ?RA' ?Lo' ?RB' ?RC' ?GJ' ?u6' ?RD' ?Cd' ?RE' ?RF' ?oO'
    case GC'|GD'|GE'|GF'|GG'|GH'|GI'|sf'|mB'|x9'|yb'|yc'|yd'|ye'|yf'|yg'|iz'|hW'|jc'|jI'|yh'|yi'|yj'|yk'|ym'|yn'|yo'|j7'|jd'|jb'|j5'|nS'|jG'|j6'|Lp'|Lq'|Ce'|Lr'|Ls'|Lu'|Ci'|Lw'|Lx'|Ly'|Cj'|Lz'|ZF'|ZG'|VI'|ZH'|RG'|RH'|Jk'|RI'|RJ'|RK'|Jm'|RL'|Um'|Uo'|Nj'|Uq'|Ur'|Us'|Nk'|Ut'|Dz'|DA'|ur'|DB'|RM'|RN'|Jl'|RO'|Oi'|Oj'|Fg'|Ol'|RP'|RQ'|Jo'|RR'|wR'|wU'|oE'|wV'|u9'|vc'|nR'|vd'|yp'|yq'|pN'|yr'|LA'|LB'|u7'|LC'|DC'|DD'|uu'|DE'|Om'|On'|Fi'|Oo'|Cp'|Cq'|rT'|Cr'|Cs'|Ct'|rR'|Cu'|GK'|GL'|wK'|GM'|GN'|GO'|wL'|GP'|Jp'|Jq'|zg'|Jr'|Cv'|Cw'|rS'|Cy'|Js'|Jt'|zh'|Ju'|Jw'|Jx'|zk'|Jy'|LD'|LF'|Cg'|LG'|LH'|LI'|Ck'|LJ'|LK'|LL'|Cm'|LM'|GQ'|GR'|wM'|GS'|Jz'|JA'|rX'|JB'|DF'|DG'|uv'|DH'|ZI'|ZJ'|ZK'|ZL'|zN'|zO'|zQ'|i9'|zS'|JC'|JD'|JE'|zj'|JF'|JG'|JH'|JI'|zq'|JJ'|LN'|LO'|LP'|Cn'|LQ'|DI'|DJ'|DK'|ux'|DL'|GT'|GU'|GV'|qj'|GW'|JK'|JL'|JM'|zm'|JN'|wW'|wX'|wY'|iw'|wZ'|GX'|GY'|GZ'|wO'|G0'|Cz'|CB'|CC'|rV'|CD'|DM'|DN'|DO'|uz'|DP'|DQ'|DR'|DS'|uA'|DT'|w6'|w8'|xa'|oC'|xc'|DU'|DV'|DW'|uw'|DX'|rY'|rZ'|r9'|mx'|se'|DY'|DZ'|D0'|uB'|D5'|D6'|D7'|D8'|uC'|D9'|zT'|zU'|zV'|ja'|zW'|CF'|CG'|CI'|rW'|CJ'|LR'|LS'|LU'|Co'|LW'|JO'|JP'|JQ'|zl'|JR'|G1'|G2'|G4'|wQ'|G5'=>k_is
    case uZ'=>exact rfl
    case Lm'|Rz'|qi'|RA'|Lo'|RB'|RC'|GJ'|u6'|RD'|Cd'|RE'|RF'|oO'=>k_is
