import PyProof.Rows.All
import Wide.All
import OpenK.AllK
import Wide.FinOn
import Lean
import PyProof.EqAt
import PyProof.EqKinds
import PyProof.TupleCall
import KE.KMinKey
import KE.KLam
import PyProof.Rows.CallKwBuiltin
import PyProof.Rows.Range3
import PyProof.Rows.SeqMore2
import PyProof.SeqI3
import KE.KSortTup
import PyProof.ZipIter
import KE.KItemsList
import KE.KDictList
import KE.KRevIter
import PyProof.Rows.SetFrom
import PyProof.EnumMake
import PyProof.EnumStmt
import PyProof.EnumFor
import KE.KTryMore
import KE.KTryOn
import KE.KSortKey
import PyProof.ListRange
import PyProof.Rows.SumAny
import KE.KxPart
import KE.KIntText
import KE.IntTextLaws
import PyProof.StrWalks
import PyProof.Rows.StrJoin2
import PyProof.StrBlockI
import PyProof.StrOps2
import PyProof.Rows.FStr
import PyProof.Rows.StrMul
import KE.KDictMeth
import KE.KTabLook
import PyProof.StrLawsIn
import PyProof.StrLawsChain
import PyProof.StrLawsTight
import PyProof.Rows.StrItems
import KE.IntTextText
import PyProof.Rows.StrIntSpec
import PyProof.Rows.StrFromFirst
import KE.KTops
import PySem.Challenge.RW_tiewood_k71_rows_of_a_keeper
set_option Elab.async false
set_option linter.all false
set_option maxRecDepth 100000
set_option maxHeartbeats 0
open PySem.W renaming Frag->aa,findIn->bj,nsIn->bN,mg_none_of->cT,keepIn->c6,mg_of->eY,kia_one->fb,emptyDict->fP,plainGet->iw,kitOne->iD,instObj->iX,hasDictIn->i3,fnOf->i4,makesIn->jV,plainOver->j9,hideAll_get->lj,CodeHd->oI,callWith_K->pY,codeIn->pZ,specialIn->qS,OpenLaw->tw,isFn->tP,hideAll->tS,takesIn->tT,lookIn->vR,plainGet_of->xN,kla_obj->zG,methodObj->A8,takerIn->Ge,exmOne->HY,mroIn->LR,nsMap_none_of_in->Mc,kat_cons->Md,kat_yes->Me,cellsFrom_some->O1,tabObj->O2,methodCall_KW->Ph,callWith_K0->Tw,kas_rev->Tz,of_hideAll->Ve,isNs_of_in->Vx,katRev->Vy,kitx_list->VI,kitx_dict->VJ,handedIn->YU,WalkO->YV,InstAt->aaP,nsOkIn->aa2
open List renaming mem_cons_of_mem->ae,length_map->ag,mem_cons_self->ah,mem_cons->aj,getElem?_eq_getElem->ay,mem_singleton->aA,getElem?_eq_some_iff->aE,getElem?_map->aG,mem_of_getElem?->aS,mem_append->aT,mem_append_right->a8,size_toArray->bc,nodup_cons->bh,mem_map_of_mem->bq,map_cons->bu,map_append->bx,length_cons->bz,length_append->bD,length_take->bK,mem_iff_getElem?->bM,map_map->bO,mem_map->bS,mem_append_left->bT,take_of_length_le->bV,not_mem_nil->cj,length_drop->cD,getLast?_append->cO,lookup_cons->cS,lookup->c9,append_assoc->de,getElem?_eq_none->dD,length_filter_le->dX,concat_eq_append->dY,range->eh,getElem?_append_right->eC,getElem_mem->eN,map_congr_left->eV,eq_nil_or_concat->fc,idxOf_lt_length_iff->fe,filter_append->fu,count_eq_zero->fv,length->fA,sum_cons->fX,getElem?_set_self->fZ,take_add_one->f9,getElem?_append_left->gB,drop_eq_getElem_cons->gE,count_append->hU,mem_filter->ig,filter_eq_self->il,zip_cons_cons->j4,take_append_drop->ku,mem_of_mem_head?->kx,nodup_append->kK,count_cons_self->kY,filterMap_cons->lN,filter_sublist->lO,append_nil->mr,find?_cons->mw,mem_filterMap->mB,getElem?_take->mC,getElem?_drop->mD,append_of_mem->mE,getLast?_cons->mF,getElem?_cons_zero->mJ,replicate->nB,drop_of_length_le->nC,ext_getElem?->nE,length_range->nF,perm_append_comm->oe,all_eq_true->om,eq_nil_of_length_eq_zero->oP,mem_of_mem_drop->oQ,length_nil->pU,pairwise_map->sP,eraseIdx_cons_succ->tU,pairwise_singleton->tV,append_eq_nil_iff->vF,append_inj_right'->vG,forIn_cons->vS,length_zip->vX,count_cons->vZ,foldl_cons->v3,length_replicate->wQ,getElem?_zipWith->wU,getElem?_set_ne->xV,nodup_nil->xX,forIn_nil->xY,pairwise_append->xZ,mem_of_mem_take->x5,drop_eq_nil_iff->x6,any_cons->A9,map_take->Bb,getElem_idxOf->Ca,count_pos_iff->Cb,map_singleton->Cc,filter_cons->Gr,take_length->Gu,perm_middle->Gv,of_mem_zip->Ji,filter_map->Jo,mem_range->Mp,nodup_iff_pairwise_ne->Mt,getElem?_zip_eq_some->O4,pairwise_iff_getElem->O5,length_erase_of_mem->Pk,getElem?_replicate->R8,getElem?_cons_succ->Sd,length_eq_zero_iff->Se,map_nil->Tx,pairwise_lt_range->TB,length_pos_of_mem->TH,length_singleton->Vm,countP_mono_left->Vo,getElem?_toArray->Vv,singleton_append->VA,length_dropLast->VL,length_eraseIdx->VO,nodup_iff_count->VP,getElem?_range->YX,length_pos_iff->Y1,forIn_toArray->Zi,filterMap_map->Zj,drop_sublist->aa4,filter_congr->aa6,countP_cons->abU,map_snd_zip->abV,cons_append->ab2,take_append->ab3,any_eq_true->ab4
open PySem renaming wpAny_bind->af,Addr->ai,Value->au,wpAny_pure->aw,Shared->aC,wpAny->aQ,Str->aY,sizeLine->aZ,model->a7,mainGlobals->br,starEach->bA,Program->bQ,rawInt->cq,Stmt->cH,Heap->cI,World->cK,wpAny_holding->cU,compareOp->dh,wpAny_call_entry->di,bootBuiltins->dI,wpAny_Call_Name_kw->dU,wpAny_newObj_type->d9,Around->eD,wpAny_callSpecial?_slot->eE,wpAny_mono->fk,eval->fw,FuncData->gA,backTo->iC,Obj->iW,wpAny_askSetting->i5,cLine->i8,codeAny_builtin->ju,wpAny_truthy_bool->jx,wpAny_setState_of->jy,pyNext->jH,wpAny_attempt->jK,wpAny_setField->j5,wpAny_typeNameOfWhole_keyiter->ko,sysModules->kF,Builtin->kH,tupleKind_room_in1->kI,wpAny_passesOwn->kR,wpAny_ite_split->kT,behindInMarks->kW,plainId_quiet->kX,mem_of_lookup->lE,tupleKind->mj,holding->ml,codeAny->mn,codeAny_mono->mv,wpAny_setEntries_of->mK,attributeBase->mZ,wpAny_typeNameOf_keyiter->m5,SetTable->m6,NameKind->oF,intKind->oG,wpAny_dictEntries->oJ,wpAny_fieldsOf->oK,firstArgMember->oM,builtinLookup_eq_fast->pV,assignEach->pX,wpAny_isInstance->qa,wpAny_loadName_local->qM,binaryOp->qN,keywordEach->qO,sliceBounds->qP,wpAny_execs_nil->rD,wpAny_updateSeq->rF,Scope->tL,wpAny_rule->tQ,foldedSetIterable->vz,sizeLine_eq->vA,wpAny_field->vB,Pos->vQ,wpAny_newList->vU,IsPair->vW,Arguments->xO,relayAll->xQ,scanBound->xR,Env->zB,wpAny_Name->zE,standAt->zF,wpAny_nextOf_list_item->zI,letOwnedTupleGo->zQ,typeLookup_type->zS,recursionLimit->CY,backToKw->CZ,wpAny_newTuple->C2,ZipApart->C3,isSubtype_stop->C4,layNew->C6,swapsWith->Dk,inplaceOp->Dl,getMethod->Dm,pickOrder->Do,seqItems?->Dp,wpAny_standAt->Gp,setsByText->HX,Operator->LQ,BindsTo->LS,bindArgs->LU,Keyword->LW,valueAt->LX,atKey->LY,callerA->LZ,wpAny_pyIter_slot->L9,fits_of_scanBound->Ma,intText?->Mg,assign->O0,updateSeq->O3,frameOf->O8,wpAny_of_eq->Pi,Sem->R5,Within->R7,wpAny_specialOf->Sa,wpAny_dictEpoch->Sb,Tok->Tu,setNext->TF,pyIter->Vg,wpAny_load->Vh,Result->Vj,wpAny_call->Vk,call_meets->Vl,setField->Vq,isSubtype_type->Vs,slotArgs->Vt,setEntries->Vu,quietNames->Vw,call->YW,wpAny_handled->YZ,bindL->Za,bindC->Zb,wpAny_Call_method_late->aaR,wpAny_typeOf->aaV,entryPlaceOf->aa1,wpAny_isTrue_Compare1->abS,wpAny_nextOf_list_end->abX,wpAny_notOrdered_dict->abY,wpAny_isOneOf_keyiter->abZ
open PySem.Str renaming ofString->av,length_append->aD,append_assoc->iH,join->pT,empty->u0,cps_append->O9,length->Pa
open PySem.Heap renaming get?_push_of_some->ax,lt_size->aO,get?_push_size->aP,get?_update_self->bL,get?_update_other->cf,SameBut->iB,size_push->jA,size_update->oo,get?_none_of_le->xU,ExtBut->VN
open Nat renaming le_refl->aB,ne_of_lt->a6,le_trans->a9,lt_of_lt_of_le->bp,lt_of_le_of_lt->bw,zero_le->bC,ne_of_gt->eP,lt_irrefl->gR,le_succ->iF,le_add_right->jI,succ_le_succ->jM,lt_succ_self->lD,le_of_lt->nV,le_of_not_lt->oH,mul_le_mul_right->pS,lt_succ_of_lt->tD,min_eq_left->wR,pow_le_pow_right->zL,add_le_add_left->Ba,le_of_eq->Gg,lt_trans->Gh,add_comm->Gk,min_eq_right->HV,pow_succ->VB,le_zero->Y2,le_succ_of_le->abW
open PySem.Value renaming ref->aH,none->cG,type->fj,int->gX,str->tM,bool->uZ,float->Vd
open Option.some renaming inj->aL,injEq->gK
open Array renaming length_toList->aX,getElem?_eq_getElem->bX,getElem?_toList->cn,getElem?_eq_none->iz,getElem?_eq_some_iff->iG,getD->qQ,toList_append->zN,toList_push->C5,toList_inj->Gi,perm_iff_toList_perm->L3,append_assoc->YS,forIn_toList->YY,all_toList->aa3
open PyProof.Rows renaming seqObj->bE,IntsAre->gC,callWith_type1->gS,envOfC->mI,get?_update_seq->rE,IsTup->tO,AllBare->vw,listUpdate_at->vV,callWith_builtin1->xW,News->zD,listItems_at->zH,StrTab->Gj,entry_list_sort->R9,Subscript_->Vi,slot_list_sort->Vp,joinParts_cons->Vz,Constant_none->YT,lt_int->Y9,subscriptTail_builtinR->aaQ,plain_sorted->aaS,entry_sorted->aaT,iadd_int->abT,formatField_int_small->ab1
open Bool renaming false_ne_true->bG,false_eq_true->cg,and_eq_true->fB,eq_iff_iff->j8,false_and->nA,false_or->tu,true_and->tF,or_eq_true->vT
open PySem.Obj renaming mapSeq->bH,data_mapFields->dt,mapFields->jh,isFreed_of_fields->kJ,cls_mapFields->tE,putSet->vY,data_mapDictKeys->zJ,isFreed_of_dict->Zd
open PySem.NameKind renaming free->bI,cell->ik
open PySem.Heap.SameBut renaming update->cB
open Prod.mk renaming inj->c8,injEq->Mh
open PySem.SetTable renaming below->dO,grown->jd,has->Ms,orStandIn->TC,relaid->Y0,fresh->Ze,slot->aaX,laid->aaY,fits->aa0
open PySem.F renaming plain_extend_loop->eF,slot_list_index->fo,plainAttrs_list->fq,plainAttrs_str->fQ,type_list_index->ji,slot_str_join->j6,type_str_join->j7,plainAttrs_dict->lP,slot_dict_pop->u7,type_dict_pop->u9,slot_dict_getitem->Jj,args_list_index_2->Jl,entry_extend_loop->Jm,entry_list_index->L0,slot_str_split->Pb,type_str_split->Pc
open False renaming elim->eU
open Sum renaming inl->fi,inr->Gd
open List.cons renaming inj->fE
open Option renaming map_eq_some_iff->fT,map->zT,isSome_map->B4,bind_eq_some_iff->O6,bind_eq_bind->Vr,isNone_some->VM,getD_none->Zc,map_some->aaN,pure_def->aaZ
open PySem.PyData renaming eqv->fU,canLayAll0->i7,depthAll->Gs,canLay0->Jk
open PySem.Builtin.SmallTypes renaming ownedTupleIsFree->gJ,nextOf->jJ
open PySem.Around renaming under_plainId->gM,under->Pg
open PySem.Builtin.List renaming listExtendWith->gU,listLengthHint->jL,listSameRef->kN
open Int renaming toNat_natCast->ij,pow_succ->v5,natCast_mul->Mi,le_of_lt->Vn,natAbs_natCast->aa5
open PySem.Spec renaming lookup->iJ,same->Cd
open True renaming intro->jc
open PySem.SeqAt.EqAt renaming int_int->jt
open PySem.PassesOwn renaming never->jN
open List.Perm renaming refl->km,cons->mx,append_left->tR,eq_of_pairwise->HZ
open ForInStep renaming yield->lp
open PySem.Calls renaming spliced_cons->mq,spliced_nil->rG,callWith_builtin->u6,evalArgs_plain->xP,Name_function_global->LP,call_function_entry->Mr
open PySem.SetTable.below renaming go->oN
open Classical renaming epsilon_spec->sQ,epsilon->zM
open PySem.Builtin.Dict_items renaming ownsTuple->vC
open PySem.SetTable.probe renaming go->vD
open PySem.EntryCells renaming newEntry->vE
open List.Sublist renaming map->x4
open PySem.Paired renaming length->zC
open PySem.W.UpdF renaming head->zK
open PySem.Builtin.Str renaming occurrences->Gq
open PySem.Builtin.Dict renaming showsAll->HW
open PySem.pickOrder renaming go->Mb
open List.Pairwise renaming nil->Mq
open PySem.readyFrames renaming eq_def->O7
open PySem.W.KasFin renaming intro->Pj
open Sum.inl renaming inj->R6
open PySem.Code renaming isFrame->Tv
open PyProof.Rows.IntsAre renaming int_at->Zg
open PySem.Heap.Ns renaming of_isNs->Zh
open StateT renaming run_pure->aaU
open PySem.SetTable.Met.empty renaming injEq->ab0
open PySem.Builtin.Frozenset renaming newClass->adL,updateFrom->adM,slot0->adN,addrOf->adO,sizeOf->adP
section
open PySem PySem.Spec PyProof.Rows
namespace L2
variable {s s':aC}{pos p pos' apos:vQ}{x m qual name:aY}{A:eD}{pins:List (ai×iW)}{u v:au}{a C b dx f L it:ai}{h h' g base:cI}{K:aa}{w:cK}{E Q:au->aC->Prop}{e tg c:Expr}{P prog:bQ}{us:List au}{k t' i n:Nat}{es:List Expr}{o:iW}{op:CmpOp}{M:Model}{pl:R5 Bool}{ps N:List aY}{kindOf:aY->Option oF}{ch fp:List ai}{body:List cH}{mA mg:aY->Option au}{kw:List (aY×au)}{fd:gA}{g':Array GenState}{d':Drawn}{lo j:Int}{outer:List zB}{scope:tL}
abbrev jz:=Sum Int aY
def Dq:jz->au->Bool
 | .inl k,v=>Value.isInt k v
 | .inr x,v=>Value.isStrOf x v
def keyH (w:cK):jz->Int
 | .inl k=>hashInt k
 | .inr x=>hashStr w x
theorem hV:∀ {k:jz}{v:au},Dq k v=true->(∃ i t,k=fi i/\v=gX i t)\/(∃ x t,k=Gd x/\v=tM x t)
 | .inl i,v,h=>by
  obtain ⟨t,e⟩:=Value.isInt_shape (k:=i) (v:=v) h
  exact .inl ⟨i,t,rfl,e⟩
 | .inr x,v,h=>by
  obtain ⟨t,e⟩:=Value.isStrOf_shape (x:=x) (v:=v) h;exact .inr ⟨x,t,rfl,e⟩
theorem TJ (i:Int) (t:Tu):Dq (.inl i) (.int i t)=true:=by simp [Dq,Value.isInt]
theorem TK (x:aY) (t:Tu):Dq (.inr x) (.str x t)=true:=by simp [Dq,Value.isStrOf]
theorem ab5 (a b:Int):decide ((fi a:jz)=fi b)=(a == b):=by
 by_cases e:a=b
 .subst e;simp
 .have h:¬ (fi a:jz)=fi b:=λq=>e (R6 q);rw [decide_eq_false h];exact (beq_eq_false_iff_ne.mpr e).symm
theorem ab6 (a b:aY):decide ((Gd a:jz)=Gd b)=decide (a=b):=by
 by_cases e:a=b
 .subst e;simp
 .have h:¬ (Gd a:jz)=Gd b:=λq=>e (Sum.inr.inj q);rw [decide_eq_false h,decide_eq_false e]
theorem ab7 (a:Int) (b:aY):decide ((fi a:jz)=Gd b)=false:=decide_eq_false nofun
theorem ab8 (a:aY) (b:Int):decide ((Gd a:jz)=fi b)=false:=decide_eq_false nofun
def fY (prog:bQ) (w:cK):PySem.KeyKind prog w jz where
 is:=Dq
 hash:=keyH w
 inj:=λv a b ha hb=>by
  rcases hV ha with ⟨i,t,rfl,rfl⟩|⟨x,t,rfl,rfl⟩
  .rcases hV hb with ⟨j,u,rfl,e⟩|⟨y,u,rfl,e⟩
   .injection e with e1 _;rw [e1]
   .exact nomatch e
  .rcases hV hb with ⟨j,u,rfl,e⟩|⟨y,u,rfl,e⟩
   .exact nomatch e
   .injection e with e1 _;rw [e1]
 byValue:=λk v h=>by
  rcases hV h with ⟨i,t,rfl,rfl⟩|⟨x,t,rfl,rfl⟩<;>rfl
 pyHash:=λhv h=>by
  rcases hV hv with ⟨i,t,rfl,rfl⟩|⟨x,t,rfl,rfl⟩
  .exact wpAny_pyHash_int h
  .exact wpAny_pyHash_str h
 eqBool:=λhu hv h=>by
  rcases hV hu with ⟨i,t,rfl,rfl⟩|⟨x,t,rfl,rfl⟩
  .rcases hV hv with ⟨j,u,rfl,rfl⟩|⟨y,u,rfl,rfl⟩
   .rw [ab5] at h;exact wpAny_eqBool_int h
   .rw [ab7] at h;exact SeqAt.EqAt.int_str i t y u _ _ _ _ h
  .rcases hV hv with ⟨j,u,rfl,rfl⟩|⟨y,u,rfl,rfl⟩
   .rw [ab8] at h;exact SeqAt.EqAt.str_int x t j u _ _ _ _ h
   .rw [ab6] at h;exact wpAny_eqBool_str h
 «strs»:=λk x t v h=>by
  rcases hV h with ⟨i,u,rfl,e⟩|⟨y,u,rfl,e⟩
  .exact nomatch e
  .injection e with e1 _
   subst e1;cases v<;>rfl
theorem Mu (prog:bQ) (w:cK) (i:Int) (t:Tu):(fY prog w).is (.inl i) (.int i t)=true:=TJ i t
theorem Mv (prog:bQ) (w:cK) (x:aY) (t:Tu):(fY prog w).is (.inr x) (.str x t)=true:=TK x t
inductive V where
 | non|bl (b:Bool)|int (i:Int)|str (x:aY)|byt (b:Array UInt8)|flt (b:UInt64)|ref (a:ai)|ty (n:String)
 deriving DecidableEq
def RelV:V->au->Prop
 | .non,u=>u=cG
 | .bl b,u=>u=uZ b
 | .int i,u=>∃ t,u=gX i t
 | .str x,u=>∃ t,u=tM x t
 | .byt b,u=>∃ t,u=Value.bytes b t
 | .flt b,u=>∃ t,u=Vd b t
 | .ref a,u=>u=aH a
 | .ty n,u=>u=fj n
abbrev Vals:List V->List au->Prop:=Paired RelV
theorem Vals.length {xs:List V}(r:Vals xs us):xs.length=us.length:=zC r
theorem Vals.get:∀ {xs:List V}{us:List au}{i:Nat}{x:V},Vals xs us->xs[i]?=some x->∃ u,us[i]?=some u/\RelV x u
 | _,_,_,_,.nil,e=>by simp at e
 | _,_,0,_,.cons r _,e=>by simp at e;subst e;exact ⟨_,rfl,r⟩
 | _,_,i+1,x,.cons _ t,e=>by
  obtain ⟨u,h1,h2⟩:=Vals.get (i:=i) (x:=x) t (by simpa using e);exact ⟨u,by simpa using h1,h2⟩
theorem Vals.set {x:V}(r:RelV x u):∀ {xs:List V}{us:List au}(i:Nat),Vals xs us->Vals (xs.set i x) (us.set i u)
 | _,_,_,.nil=>.nil
 | _,_,0,.cons _ t=>.cons r t
 | _,_,i+1,.cons q t=>.cons q (Vals.set r i t)
theorem Vals.append:∀ {xs ys:List V}{us ws:List au},Vals xs us->Vals ys ws->Vals (xs++ys) (us++ws)
 | _,_,_,_,.nil,s=>s
 | _,_,_,_,.cons r t,s=>.cons r (Vals.append t s)
theorem Vals.take:∀ {xs:List V}{us:List au}(n:Nat),Vals xs us->Vals (xs.take n) (us.take n)
 | _,_,0,_=>.nil
 | _,_,_+1,.nil=>.nil
 | _,_,n+1,.cons r t=>.cons r (Vals.take n t)
theorem Vals.drop:∀ {xs:List V}{us:List au}(n:Nat),Vals xs us->Vals (xs.drop n) (us.drop n)
 | _,_,0,r=>r
 | _,_,_+1,.nil=>.nil
 | _,_,n+1,.cons _ t=>Vals.drop n t
def uX:Option V->Option au->Prop
 | some v,some u=>RelV v u
 | none,none=>True
 | _,_=>False
def KV {κ:Type}:List (κ×V)->List (κ×au)->Prop:=Paired λ(p:κ×V) (q:κ×au)=>p.1=q.1/\RelV p.2 q.2
def kV:jz->V
 | .inl i=>.int i
 | .inr x=>.str x
inductive HO where
  | lst (xs:List V)
  | tup (xs:List V)
  | dK (kvs:List (jz×V))|dT (kvs:List (List jz×V))
  | set (S:Int->Bool) (n:Nat)
  | ins (C dx:ai) (fs:List (aY×V))
  | own (x:ai)
  | xd (fs:List (aY×V))
  | met (f x:ai)
  | rng (lo hi:Int)
  | frz (o:iW) (u:HO)
  | tbl (ps:Array au)
  | ext (φ:cI->Prop)
abbrev Hp:=ai->Option HO
def upd (H:Hp) (a:ai) (o:HO):Hp:=λb=>if b=a then some o else H b
theorem aK {H:Hp}{o:HO}:upd H a o a=some o:=by unfold upd;rw [if_pos rfl]
theorem aI {H:Hp}{o:HO}(h:b≠a):upd H a o b=H b:=by unfold upd;rw [if_neg h]
theorem jW {H:Hp}{o u:HO}(h:H a=some o) (h':H b=some u) (d:o≠u:=by intro z;cases z):a≠b:=by
 intro e;subst e;rw [h] at h';exact d (aL h')
theorem aJ {H:Hp}{o:HO}(h:H a=some o) (h':H b=none):a≠b:=by
 intro e;subst e;rw [h] at h';cases h'
section
variable (P:bQ) (w:cK)
def fS (H:Hp) (h:cI) (a:ai):HO->Prop
 | .lst xs=>xs.length<=aZ/\∃ (its:List au) (n:Nat),Vals xs its/\h.get? a=some { cls:=.type "list",data:=.seq its.toArray n }
 | .tup xs=>xs.length<=aZ/\∃ its:List au,Vals xs its/\tO h a its.toArray
 | .dK kvs=>kvs.length<=aZ/\(a == kF)=false/\∃ vs,KV kvs vs/\h.DictOf (fY P w) a vs
 | .dT kvs=>kvs.length<=aZ/\(a == kF)=false/\∃ xs:List (List jz×ai×au),
   Paired (λ(p:List jz×V) (q:List jz×ai×au)=>p.1=q.1/\H q.2.1=some (.tup (p.1.map kV))/\RelV p.2 q.2.2) kvs xs /\
   ∃ o es ep,h.get? a=some o/\o.ExactDict/\o.data=.dict es ep/\es.toList=xs.map (entryOfKey (mj (fY P w)))/\(xs.map (·.1)).Nodup
 | .set S n=>h.SetOf (oG P w) a S n
 | .ins C dx fs=>H dx=some (.own a)/\fs.length<=1000/\dx≠a/\h.get? a=some (iX C dx) /\
   ∃ mA,h.Ns1 dx mA/\(∀ f,uX (fs.lookup f) (mA f))/\R7 mA (fs.map (·.1))
 | .own _=>∃ o,h.get? a=some o
 | .xd fs=>∃ mA,h.Ns1 a mA/\∀ f,uX (fs.lookup f) (mA f)
 | .rng lo hi=>∃ t u v,h.get? a=some { cls:=.type "range",data:=.fields #[.int lo t,.int hi u,.int 1 v] }
 | .frz o u=>h.get? a=some o/\fS H h a u
 | .tbl ps=>h.get? a=some { cls:=.none,data:=.fields ps }
 | .met f x=>h.get? a=some (A8 (.ref f) (.ref x))
 | .ext φ=>φ h/\(∃ o,h.get? a=some o)/\∀ h1 h2:cI,φ h1->(∀ o,h1.get? a=some o->h2.get? a=some o)->φ h2
def tq (H:Hp) (h:cI):Prop:=∀ a o,H a=some o->fS P w H h a o
end
section
variable {H H':Hp}{o:HO}
theorem fS.lt (x:fS P w H h a o):a<h.objs.size:=by
 cases o with
 | lst xs=>obtain ⟨_,_,_,_,e⟩:=x;exact aO e
 | tup xs=>obtain ⟨_,_,_,p⟩:=x;exact p.lt
 | dK kvs=>obtain ⟨_,_,_,_,o,_,_,e,_⟩:=x;exact aO e
 | dT kvs=>obtain ⟨_,_,_,_,o,_,_,e,_⟩:=x;exact aO e
 | set S n=>obtain ⟨o,_,_,_,e,_⟩:=x;exact aO e
 | ins C dx fs=>obtain ⟨_,_,_,e,_⟩:=x;exact aO e
 | own y=>obtain ⟨_,e⟩:=x;exact aO e
 | xd fs=>obtain ⟨_,⟨_,_,_,e,_⟩,_⟩:=x;exact aO e
 | rng lo hi=>obtain ⟨_,_,_,e⟩:=x;exact aO e
 | frz ob u=>obtain ⟨e,_⟩:=x;exact aO e
 | tbl ps=>exact aO (show h.get? a=some _ from x)
 | met f y=>exact aO (show h.get? a=some _ from x)
 | ext φ=>obtain ⟨_,⟨_,e⟩,_⟩:=x;exact aO e
theorem Paired.Vb {α β:Type} {F G:α->β->Prop}:∀ {l₁:List α} {l₂:List β},Paired F l₁ l₂->(∀ a b,F a b->G a b)->Paired G l₁ l₂
 | _,_,.nil,_=>.nil
 | _,_,.cons r t,f=>.cons (f _ _ r) (Paired.Vb t f)
theorem fS.zr (x:fS P w H h a o) (k:∀ b u,(b=a\/H b=some (.own a))->h.get? b=some u->h'.get? b=some u)
  (ho:∀ b,H b=some (.own a)->H' b=some (.own a)) (ht:∀ b xs,H b=some (.tup xs)->H' b=some (.tup xs)):fS P w H' h' a o:=by
 induction o with
 | lst xs=>obtain ⟨z,its,n,r,e⟩:=x;exact ⟨z,its,n,r,k _ _ (.inl rfl) e⟩
 | tup xs=>obtain ⟨z,its,r,ob,e,c⟩:=x;exact ⟨z,its,r,ob,k _ _ (.inl rfl) e,c⟩
 | dK kvs=>obtain ⟨z,y,vs,r,ob,es,ep,e,c⟩:=x;exact ⟨z,y,vs,r,ob,es,ep,k _ _ (.inl rfl) e,c⟩
 | dT kvs =>
  obtain ⟨z,y,xs,r,ob,es,ep,e,c⟩:=x
  exact ⟨z,y,xs,Paired.Vb r λp q z=>⟨z.1,ht _ _ z.2.1,z.2.2⟩,ob,es,ep,k _ _ (.inl rfl) e,c⟩
 | set S n=>obtain ⟨ob,es,ep,t,e,c⟩:=x;exact ⟨ob,es,ep,t,k _ _ (.inl rfl) e,c⟩
 | ins C dx fs =>
  obtain ⟨d,z,ne,e,mA,⟨od,es,ep,e2,c⟩,r⟩:=x
  exact ⟨ho _ d,z,ne,k _ _ (.inl rfl) e,mA,⟨od,es,ep,k _ _ (.inr d) e2,c⟩,r⟩
 | own y=>obtain ⟨ob,e⟩:=x;exact ⟨ob,k _ _ (.inl rfl) e⟩
 | xd fs=>obtain ⟨mA,⟨od,es,ep,e,c⟩,r⟩:=x;exact ⟨mA,⟨od,es,ep,k _ _ (.inl rfl) e,c⟩,r⟩
 | rng lo hi=>obtain ⟨t,u,v,e⟩:=x;exact ⟨t,u,v,k _ _ (.inl rfl) e⟩
 | frz ob u ih=>obtain ⟨e,q⟩:=x;exact ⟨k _ _ (.inl rfl) e,ih q⟩
 | tbl ps =>
  have e:h.get? a=some { cls:=.none,data:=.fields ps }:=x
  show h'.get? a=some { cls:=.none,data:=.fields ps }
  exact k a _ (.inl rfl) e
 | met f y =>
  have e:h.get? a=some (A8 (.ref f) (.ref y)):=x
  show h'.get? a=some (A8 (.ref f) (.ref y))
  exact k a _ (.inl rfl) e
 | ext φ=>obtain ⟨p,⟨o,e⟩,st⟩:=x;exact ⟨st _ _ p λo q=>k _ _ (.inl rfl) q,⟨o,k _ _ (.inl rfl) e⟩,st⟩
theorem tq.lt (x:tq P w H h) (e:H a=some o):a<h.objs.size:=(x a o e).lt
theorem tq.fresh (x:tq P w H h) (e:h.objs.size<=a):H a=none:=by
 cases q:H a with
 | none=>rfl
 | some u=>exact absurd (bp (x.lt q) e) (gR _)
theorem tq.kept (x:tq P w H h) (k:∀ b u,h.get? b=some u->h'.get? b=some u):tq P w H h':=λa o e =>
 (x a o e).zr (λb u _ q=>k b u q) (λ_ q=>q) λ_ _ q=>q
theorem tq.laid (x:tq P w H h) (k:∀ b u,h.get? b=some u->h'.get? b=some u) (hp:h.objs.size<=a) (new:fS P w (upd H a o) h' a o):tq P w (upd H a o) h':=λb u e=>by
 have hn:=x.fresh hp
 by_cases hb:b=a
 .subst hb;rw [aK] at e;cases e;exact new
 .rw [aI hb] at e
  exact (x b u e).zr (λc v _ q=>k c v q) (λc q=>by rw [aI (aJ q hn)];exact q) λc xs q=>by rw [aI (aJ q hn)];exact q
end
def Rd (H:Hp) (a:ai) (u:HO):Prop:=H a=some u\/∃ o,H a=some (.frz o u)
theorem Rd.ok {H:Hp}{u:HO}(r:Rd H a u) (x:tq P w H h):fS P w H h a u:=by
 rcases r with r|⟨o,r⟩
 .exact x a u r
 .obtain ⟨_,q⟩:=x a _ r;exact q
def Mut:Option HO->Prop
 | some (.lst _)=>True
 | some (.dK _)=>True
 | some (.dT _)=>True
 | some (.set _ _)=>True
 | some (.ins _ _ _)=>True
 | some (.ext _)=>True
 | _=>False
section
variable {H:Hp}{x e:ai}{o':HO}
theorem tq.write (ok:tq P w H h) (mu:Mut (H x)) (he:e=x\/H e=some (.own x)) (k:∀ b u,b≠e->h.get? b=some u->h'.get? b=some u) (heo:∃ u,h'.get? e=some u)
  (new:fS P w (upd H x o') h' x o'):tq P w (upd H x o') h':=λb u q=>by
 have nown:∀ c y,H c=some (.own y)->c≠x:=λc y r z=>by subst z;rw [r] at mu;exact mu
 have ntup:∀ c xs,H c=some (.tup xs)->c≠x:=λc xs r z=>by subst z;rw [r] at mu;exact mu
 by_cases hb:b=x
 .subst hb;rw [aK] at q;cases q;exact new
 .rw [aI hb] at q
  by_cases hbe:b=e
  .have q':H b=some (.own x):=by
    rcases he with z|z
    .exact absurd (hbe.trans z) hb
    .rw [hbe];exact z
   rw [q] at q';cases q';obtain ⟨v,hv⟩:=heo;exact ⟨v,by rw [hbe];exact hv⟩
  .refine (ok b u q).zr (λc v hc r=>k c v ?_ r) (λc r=>by rw [aI (nown c b r)];exact r) λc xs r=>by rw [aI (ntup c xs r)];exact r
   rcases hc with rfl|hc
   .exact hbe
   .rintro rfl
    rcases he with z|z
    .exact nown c b hc z
    .rw [hc] at z;cases z;exact hb rfl
end
structure Un (fs ex:List ai) (H H':Hp) (h h':cI):Prop where
 keep:∀ b o,h.get? b=some o->H b=none->b∉fs->b∉ex->h'.get? b=some o
 slot:∀ b o,h.get? b=some o->H b=none->b∈fs->b∉ex->∃ sl,h'.get? b=some { o with slots:=sl }
 free:∀ b o,h.get? b=some o->H b=none->b∉ex->H' b=none
 there:∀ b o,h.get? b=some o->b∉ex->∃ o',h'.get? b=some o'
 zt:∀ b xs,H b=some (.tup xs)->H' b=some (.tup xs)
 xM:∀ b o u,H b=some (.frz o u)->H' b=some (.frz o u)
 xH:∀ b ps,H b=some (.tbl ps)->∃ more,H' b=some (.tbl (ps++more))
section
variable {fs fs' ex ex':List ai}{H H1 H2:Hp}{h1 h2:cI}{x e:ai}{o:HO}
theorem Un.any (u:Un fs ex H H1 h h1) {b:ai}{ob:iW}(q:h.get? b=some ob) (n:H b=none) (hx:b∉ex):∃ sl,h1.get? b=some { ob with slots:=sl }:=by
 by_cases hb:b∈fs
 .exact u.slot b ob q n hb hx
 .exact ⟨ob.slots,u.keep b ob q n hb hx⟩
theorem Un.kept (k:∀ b u,h.get? b=some u->h'.get? b=some u):Un fs ex H H h h' :=
 ⟨λb ob q _ _ _=>k b ob q,λb ob q _ _ _=>⟨ob.slots,k b ob q⟩,λ_ _ _ n _=>n,λb ob q _=>⟨ob,k b ob q⟩,λ_ _ q=>q,λ_ _ _ q=>q,λ_ ps q=>⟨#[],by rw [q];simp⟩⟩
theorem Un.refl:Un fs ex H H h h:=Un.kept λ_ _ q=>q
theorem Un.laid (k:∀ b u,h.get? b=some u->h'.get? b=some u) (hp:h.objs.size<=a) (hn:H a=none):Un fs ex H (upd H a o) h h' where
 keep:=λb u q _ _ _=>k b u q
 slot:=λb u q _ _ _=>⟨u.slots,k b u q⟩
 free:=λb u q n _=>by rw [aI (a6 (bp (aO q) hp))];exact n
 there:=λb u q _=>⟨u,k b u q⟩
 zt:=λb xs q=>by rw [aI (aJ q hn)];exact q
 xM:=λb u xs q=>by rw [aI (aJ q hn)];exact q
 xH:=λb ps q=>⟨#[],by rw [aI (aJ q hn),q];simp⟩
theorem Un.write (mu:Mut (H x)) (he:e=x\/H e=some (.own x)) (k:∀ b u,b≠e->h.get? b=some u->h'.get? b=some u) (heo:∃ u,h'.get? e=some u):Un fs ex H (upd H x o) h h':=by
 have hx:∀ b,H b=none->b≠x:=λb n z=>by subst z;rw [n] at mu;exact mu
 have hb:∀ b,H b=none->b≠e:=λb n z=>by
  subst z
  rcases he with r|r
  .exact hx b n r
  .rw [n] at r;cases r
 have hm:∀ b u,H b=some u->¬ Mut (some u)->b≠x:=λb u q nm z=>by subst z;rw [q] at mu;exact nm mu
 refine ⟨λb u q n _ _=>k b u (hb b n) q,λb u q n _ _=>⟨u.slots,k b u (hb b n) q⟩,λb u q n _=>by rw [aI (hx b n)];exact n,λb u q _=>?_,
  λb xs q=>by rw [aI (hm b _ q λz=>z)];exact q,λb u xs q=>by rw [aI (hm b _ q λz=>z)];exact q,λb ps q=>⟨#[],by rw [aI (hm b _ q λz=>z),q];simp⟩⟩
 by_cases hbe:b=e
 .subst hbe;exact heo
 .exact ⟨u,k b u hbe q⟩
end
def trk (h:cI) (H:Hp):List ai:=(eh h.objs.size).filter λa=>(H a).isSome
def Ds (h:cI) (H:Hp):cI:=tS h (trk h H)
theorem TL (h:cI) (H:Hp):(Ds h H).objs.size=h.objs.size:=PySem.W.hideAll_size _ _
theorem VQ {H:Hp}(e:h.get? b=some o) (n:H b=none):(Ds h H).get? b=some o :=
 lj _ e λhm=>by
  have q:(H b).isSome=true:=(ig.mp hm).2;rw [n] at q;simp at q
theorem Zk {H:Hp}(e:(Ds h H).get? b=some o):h.get? b=some o/\H b=none:=by
 have e':h.get? b=some o:=Ve (trk h H) e;refine ⟨e',?_⟩
 cases q:H b with
 | none=>rfl
 | some x =>
  have hm:b∈trk h H:=ig.mpr ⟨Mp.mpr (aO e'),by simp [q]⟩;have z:(Ds h H).get? b=none:=PySem.W.hideAll_none (trk h H) hm;rw [z] at e;cases e
def lQ (g h:cI) (L:ai):List (ai×iW):=(eh h.objs.size).filterMap λa=>if a=L\/(g.get? a).isSome=true then none else (h.get? a).map λo=>(a,o)
theorem nG (h1:a≠L) (h2:g.get? a=none) (h3:h.get? a=some o):(a,o)∈lQ g h L :=
 mB.mpr ⟨a,Mp.mpr (aO h3),by simp [h1,h2,h3]⟩
theorem Dt {p:ai×iW}(hp:p∈lQ g h L):p.1≠L/\g.get? p.1=none/\h.get? p.1=some p.2:=by
 obtain ⟨b,_,e⟩:=mB.mp hp
 split at e
 .cases e
 .rename_i hn
  cases q:h.get? b with
  | none=>rw [q] at e;simp at e
  | some u =>
   rw [q] at e;simp only [aaN,gK] at e;subst e;refine ⟨λz=>hn (.inl z),?_,q⟩
   show g.get? b=none
   cases r:g.get? b with
   | none=>rfl
   | some v=>exact (hn (.inr (by simp [r]))).elim
theorem VR:zD g L h (lQ g h L):=λp hp=>let ⟨a,b,c⟩:=Dt hp;⟨c,a,b⟩
structure Mod (K:aa) (mg:aY->Option au) (base:cI):Prop where
 kin:K.In base
 glob:base.Ns br mg
 blt:∃ mb,base.Ns builtinsNs mb/\∀ x:aY,x≠"__name__"->mb x=dI x
 nolimit:base.NoLimit
structure Cx where
 prog:bQ
 w:cK
 K:aa
 mg:aY->Option au
 base:cI
 A:eD
 N:List aY
 s₀:aC
 H₀:Hp
 env:zB
 outer:List zB
 stack:List zB
 ex:List ai
 fn:aY->Bool
 calm:Bool
 pn:List (ai×iW)
 xe:au->aC->Prop
def vv (l:List zB):List ai:=l.filterMap (·.frame)
abbrev Cx.fs (X:Cx):List ai:=vv X.outer
def Vis (sc:tL) (x:aY):Prop:=sc.names.lookup x=some .local\/sc.names.lookup x=some .cell\/sc.names.lookup x=some .free
def Loc (sc:tL) (x:aY):Prop:=sc.names.lookup x=some .local\/sc.names.lookup x=some .cell
def Look (env:zB) (h:cI) (m:aY->Option au) (x:aY) (u:au):Prop :=
 (env.kindOf x=some .local/\m x=some u)\/((env.kindOf x=some .cell\/env.kindOf x=some .free)/\∃ c,env.cells.lookup x=some c/\h.IsCell c (some u))
structure Cx.Ok (X:Cx):Prop where
 mod:Mod X.K X.mg X.base
 kind:X.env.scope.kind=.function
 glob:X.env.globals=br
 blt:X.env.builtins=builtinsNs
 above:X.s₀.heap.objs.size<=X.env.locals
 inj:∀ x y c,X.env.cells.lookup x=some c->X.env.cells.lookup y=some c->x=y
 has:∀ x,(X.env.kindOf x=some .cell\/X.env.kindOf x=some .free)->∃ c,X.env.cells.lookup x=some c
 cab:∀ x c,X.fn x=true->X.env.cells.lookup x=some c->X.s₀.heap.objs.size<=c
 hd:X.calm=true->X.A.handled=none
 frames:X.A.frames=some X.stack
 stk:X.stack=X.outer\/(X.stack=X.env::X.outer/\X.env.frame=some X.env.locals)
 exf:∀ b∈X.ex,b≠X.env.locals/\∀ x c,X.env.cells.lookup x=some c->c≠b
 bs:∀ b o,X.base.get? b=some o->X.s₀.heap.get? b=some o/\X.H₀ b=none
 Ts:X.base.objs.size<=X.s₀.heap.objs.size
 LN:∀ b o,X.base.get? b=some o->b∉X.ex
 LM:∀ b∈X.ex,b∉X.fs
 uW:X.s₀.heap.FunFrames X.base X.outer
 VF:∀ b∈X.fs,X.H₀ b=none
structure Inv (X:Cx) (pins:List (ai×iW)) (Z:List (Option V)) (H:Hp) (s:aC):Prop where
 ok:X.Ok
 os:s.os=X.s₀.os
 bare:vw s.gens
 base:Un X.fs X.ex X.H₀ H X.s₀.heap s.heap
 loc:∃ m,s.heap.Ns X.env.locals m/\∀ (i:Nat) (x:aY) (v:V),X.N[i]?=some x->Z[i]?=some (some v)->Vis X.env.scope x->∃ u,RelV v u/\Look X.env s.heap m x u
 cell:∀ x c,X.env.cells.lookup x=some c->∃ v,s.heap.IsCell c v
 free:H X.env.locals=none
 pQ:∀ x c,X.env.cells.lookup x=some c->H c=none
 pin:∀ p∈X.pn++pins,s.heap.get? p.1=some p.2/\H p.1=none/\p.1≠X.env.locals/\p.1∉X.fs/\∀ v,p.2.data≠.cell v
 fh:tq X.prog X.w H s.heap
 len:Z.length=X.N.length
section
variable {X:Cx}{Z:List (Option V)}{H H':Hp}
theorem Cx.Ok.nofr (ok:X.Ok) {b:ai}{o:iW}(e:X.base.get? b=some o):b∉X.fs:=λhb=>by
 have:=(ok.uW.mem hb).1;rw [e] at this;cases this
theorem Inv.bs (I:Inv X pins Z H s):∀ b o,X.base.get? b=some o->s.heap.get? b=some o/\H b=none:=λb o e =>
 ⟨I.base.keep b o (I.ok.bs b o e).1 (I.ok.bs b o e).2 (I.ok.nofr e) (I.ok.LN b o e),I.base.free b o (I.ok.bs b o e).1 (I.ok.bs b o e).2 (I.ok.LN b o e)⟩
theorem Inv.bk (I:Inv X pins Z H s):∀ b o,X.base.get? b=some o->s.heap.get? b=some o:=λb o e=>(I.bs b o e).1
theorem Inv.mod (I:Inv X pins Z H s):Mod X.K X.mg X.base:=I.ok.mod
theorem Inv.xS (I:Inv X pins Z H s):X.K.In s.heap:=I.ok.mod.kin.keeps I.bk
theorem Inv.fr (I:Inv X pins Z H s):∃ m,Fr X.base X.env.locals s.heap m :=
 let ⟨m,hn,_⟩:=I.loc
 ⟨m,hn,I.bk,a9 I.ok.Ts I.ok.above⟩
theorem Inv.lt (I:Inv X pins Z H s):X.env.locals<s.heap.objs.size:=let ⟨_,hn,_⟩:=I.loc;hn.lt
theorem Inv.sz (I:Inv X pins Z H s):X.s₀.heap.objs.size<=s.heap.objs.size:=a9 I.ok.above (nV I.lt)
theorem Inv.nofs (I:Inv X pins Z H s) {a:ai}(h:s.heap.objs.size<=a):a∉X.fs:=λhb=>by
 obtain ⟨_,o,ho,_⟩:=I.ok.uW.mem hb;exact absurd (bp (aO ho) (a9 I.sz h)) (gR _)
theorem Inv.cne (I:Inv X pins Z H s):∀ x c,X.env.cells.lookup x=some c->c≠X.env.locals:=λx c e z=>by
 obtain ⟨v,o,ho,hd⟩:=I.cell x c e;obtain ⟨m,⟨o',es,ep,ho',hd',_⟩,_⟩:=I.loc;rw [z,ho'] at ho;cases ho;rw [hd'] at hd;cases hd
theorem Inv.uW (I:Inv X pins Z H s):s.heap.FunFrames X.base X.outer:=by
 have all:∀ (l:List zB),(∀ b∈vv l,b∈X.fs)->X.s₀.heap.FunFrames X.base l->s.heap.FunFrames X.base l:=by
  intro l
  induction l with
  | nil=>intro _ _;trivial
  | cons env r ih =>
   intro hs hl;obtain ⟨hk,⟨L,o,hf,hn,ho,hd⟩,hr⟩:=hl;have hL:L∈X.fs:=hs L (by unfold vv;rw [lN,hf];exact ah);obtain ⟨sl,e⟩:=I.base.slot L o ho (I.ok.VF L hL) hL λz=>I.ok.LM L z hL;exact ⟨hk,⟨L,_,hf,hn,e,hd⟩,ih (λb hb=>hs b (by unfold vv;rw [lN,hf];exact ae _ hb)) hr⟩
 exact all X.outer (λ_ hb=>hb) I.ok.uW
theorem Inv.stack (I:Inv X pins Z H s):s.heap.FunFrames X.base X.stack:=by
 rcases I.ok.stk with e|⟨e,hf⟩
 .rw [e];exact I.uW
 .rw [e];obtain ⟨m,hn,_⟩:=I.loc;refine .cons (by rw [I.ok.kind];decide) hf hn ?_ I.uW;exact xU (a9 I.ok.Ts I.ok.above)
theorem Inv.RX (I:Inv X pins Z H s):∀ b∈vv X.stack,b∈X.env.locals::X.fs:=λb hb=>by
 rcases I.ok.stk with e|⟨e,hf⟩
 .rw [e] at hb;exact ae _ hb
 .rw [e] at hb;unfold vv at hb;rw [lN,hf] at hb;exact hb
theorem Inv.Di (I:Inv X pins Z H s):∀ b∈vv X.stack,H b=none:=λb hb=>by
 rcases aj.mp (I.RX b hb) with e|hb
 .rw [e];exact I.free
 .obtain ⟨_,o,ho,_⟩:=I.ok.uW.mem hb;exact I.base.free b o ho (I.ok.VF b hb) λz=>I.ok.LM b z hb
theorem Inv.step (I:Inv X pins Z H s)
  (hch:∀ b∈ch,(b∈X.ex\/X.s₀.heap.objs.size<=b)/\b≠X.env.locals/\(∀ x c,X.env.cells.lookup x=some c->c≠b)/\∀ p∈X.pn++pins,p.1≠b)
  (keep:∀ b o,b≠X.env.locals->b∉X.fs->b∉ch->s.heap.get? b=some o->H b=none->h'.get? b=some o)
  (slot:∀ b o,b≠X.env.locals->b∈X.fs->b∉ch->s.heap.get? b=some o->H b=none->∃ sl,h'.get? b=some { o with slots:=sl }) (free:∀ b o,b∉ch->s.heap.get? b=some o->H b=none->H' b=none)
  (there:∀ b o,b∉ch->s.heap.get? b=some o->∃ o',h'.get? b=some o')
  (zt:∀ b xs,H b=some (.tup xs)->H' b=some (.tup xs)) (xM:∀ b o u,H b=some (.frz o u)->H' b=some (.frz o u)) (xH:∀ b ps,H b=some (.tbl ps)->∃ more,H' b=some (.tbl (ps++more)))
  (ns:∀ m,s.heap.Ns X.env.locals m->h'.Ns X.env.locals m) (fh:tq X.prog X.w H' h') (hg:vw g') :
  Inv X pins Z H' { s with heap:=h',gens:=g',drawn:=d',toks:=t' }:=by
 have neL:∀ b o,X.s₀.heap.get? b=some o->b≠X.env.locals:=λb o e=>a6 (bp (aO e) I.ok.above)
 have neC:∀ b o,X.s₀.heap.get? b=some o->b∉X.ex->b∉ch:=λb o e hx hb=>by
  rcases (hch b hb).1 with z|z
  .exact hx z
  .exact absurd (bp (aO e) z) (gR _)
 have cellK:∀ x c,X.env.cells.lookup x=some c->∀ v,s.heap.IsCell c v->h'.IsCell c v:=λx c e v ⟨o,ho,hd⟩=>by
  have nch:c∉ch:=λz=>(hch c z).2.2.1 x c e rfl
  by_cases hc:c∈X.fs
  .obtain ⟨sl,q⟩:=slot c o (I.cne x c e) hc nch ho (I.pQ x c e);exact ⟨_,q,hd⟩
  .exact ⟨o,keep c o (I.cne x c e) hc nch ho (I.pQ x c e),hd⟩
 refine ⟨I.ok,I.os,hg,⟨λb o e n hb hx=>?_,λb o e n hb hx=>?_,λb o e n hx=>?_,λb o e hx=>?_,λb xs e=>zt b xs (I.base.zt b xs e),λb o xs e=>xM b o xs (I.base.xM b o xs e),λb ps e=>?_⟩,?_,λx c e=>?_,?_,λx c e=>?_,λp hp=>?_,fh,I.len⟩
 .exact keep b o (neL b o e) hb (neC b o e hx) (I.base.keep b o e n hb hx) (I.base.free b o e n hx)
 .obtain ⟨sl,e1⟩:=I.base.slot b o e n hb hx;obtain ⟨sl',e2⟩:=slot b _ (neL b o e) hb (neC b o e hx) e1 (I.base.free b o e n hx);exact ⟨sl',e2⟩
 .obtain ⟨o',e1⟩:=I.base.there b o e hx;exact free b o' (neC b o e hx) e1 (I.base.free b o e n hx)
 .obtain ⟨o',e1⟩:=I.base.there b o e hx;exact there b o' (neC b o e hx) e1
 .obtain ⟨m1,e1⟩:=I.base.xH b ps e;obtain ⟨m2,e2⟩:=xH b _ e1;exact ⟨m1++m2,by rw [e2,YS]⟩
 .obtain ⟨m,hn,hl⟩:=I.loc;refine ⟨m,ns m hn,λi x v e1 e2 e3=>?_⟩;obtain ⟨u,r,l⟩:=hl i x v e1 e2 e3;refine ⟨u,r,?_⟩
  rcases l with l|⟨k,c,e,z⟩
  .exact .inl l
  .exact .inr ⟨k,c,e,cellK x c e _ z⟩
 .obtain ⟨v,z⟩:=I.cell x c e;exact ⟨v,cellK x c e v z⟩
 .obtain ⟨m,⟨o,_,_,ho,_⟩,_⟩:=I.loc;exact free _ o (λz=>(hch _ z).2.1 rfl) ho I.free
 .obtain ⟨v,o,ho,hd⟩:=I.cell x c e;exact free c o (λz=>(hch c z).2.2.1 x c e rfl) ho (I.pQ x c e)
 .obtain ⟨e,n,ne,nf,d⟩:=I.pin p hp;have nch:p.1∉ch:=λz=>(hch p.1 z).2.2.2 p hp rfl;exact ⟨keep p.1 p.2 ne nf nch e n,free p.1 p.2 nch e n,ne,nf,d⟩
theorem Inv.un (I:Inv X pins Z H s) (u:Un X.fs [] H H' s.heap h') (fh:tq X.prog X.w H' h'):Inv X pins Z H' { s with heap:=h',toks:=t' }:=by
 obtain ⟨m,⟨o,es,ep,ho,r⟩,_⟩:=id I.loc;obtain ⟨sl,hL⟩:=u.any ho I.free (by simp)
 exact I.step (g':=s.gens) (d':=s.drawn) (ch:=[]) (λ_ z=>nomatch z) (λb o _ hb _ e n=>u.keep b o e n hb (by simp)) (λb o _ hb _ e n=>u.slot b o e n hb (by simp)) (λb o _ e n=>u.free b o e n (by simp)) (λb o _ e=>u.there b o e (by simp)) u.zt u.xM u.xH (λm' hm=>by
  obtain ⟨o',es',ep',ho',r'⟩:=hm;rw [ho] at ho';cases ho'
  exact ⟨_,es',ep',hL,r'⟩) fh I.bare
theorem Inv.call (I:Inv X pins Z H s) (u:Un (vv X.stack) ch H H' s.heap h') (fh:tq X.prog X.w H' h') (hg:vw g')
  (hch:∀ b∈ch,(b∈X.ex\/X.s₀.heap.objs.size<=b)/\b≠X.env.locals/\(∀ x c,X.env.cells.lookup x=some c->c≠b)/\∀ p∈X.pn++pins,p.1≠b) :
  Inv X pins Z H' { s with heap:=h',gens:=g',drawn:=d',toks:=t' }:=by
 obtain ⟨m,⟨o,es,ep,ho,r⟩,_⟩:=id I.loc;obtain ⟨sl,hL⟩:=u.any ho I.free λz=>(hch _ z).2.1 rfl
 exact I.step (ch:=ch) hch (λb o hL hb hc e n=>u.keep b o e n (λz=>(aj.mp (I.RX b z)).elim hL hb) hc) (λb o _ _ hc e n=>u.any e n hc) (λb o hc e n=>u.free b o e n hc) (λb o hc e=>u.there b o e hc) u.zt u.xM u.xH (λm' hm=>by
  obtain ⟨o',es',ep',ho',r'⟩:=hm;rw [ho] at ho';cases ho'
  exact ⟨_,es',ep',hL,r'⟩) fh hg
theorem Inv.turned (I:Inv X pins Z H s) (k:∀ b o,b≠it->s.heap.get? b=some o->h'.get? b=some o) (hn:H it=none) (hL:it≠X.env.locals)
  (h1:it∈X.ex\/X.s₀.heap.objs.size<=it) (h2:∀ x c,X.env.cells.lookup x=some c->c≠it) (h3:∀ p∈X.pn++pins,p.1≠it):Inv X pins Z H { s with heap:=h',toks:=t' }:=by
 have nit:∀ b u,H b=some u->b≠it:=λb u e z=>by rw [z,hn] at e;cases e
 refine I.step (g':=s.gens) (d':=s.drawn) (ch:=[it]) (λb hb=>?_) (λb o _ _ hc e _=>k b o (λz=>hc (by simp [z])) e) (λb o _ _ hc e _=>⟨o.slots,k b o (λz=>hc (by simp [z])) e⟩) (λ_ _ _ _ n=>n)
  (λb o hc e=>⟨o,k b o (λz=>hc (by simp [z])) e⟩) (λ_ _ e=>e) (λ_ _ _ e=>e) (λb ps e=>⟨#[],by rw [e];simp⟩) (λm hm=>?_) (λb u e=>?_) I.bare
 .have e:b=it:=by simpa using hb
  subst e;exact ⟨h1,hL,h2,h3⟩
 .obtain ⟨o,es,ep,ho,r⟩:=hm;exact ⟨o,es,ep,k _ o (Ne.symm hL) ho,r⟩
 .refine (I.fh b u e).zr (λc v hc q=>k c v ?_ q) (λ_ q=>q) λ_ _ q=>q
  rcases hc with z|z
  .rw [z];exact nit b u e
  .exact nit c _ z
theorem Inv.tok (I:Inv X pins Z H s) (t:Nat):Inv X pins Z H { s with toks:=t }:=I.un (h':=s.heap) (t':=t) Un.refl I.fh
theorem Inv.kept (I:Inv X pins Z H s) (k:∀ b u,s.heap.get? b=some u->h'.get? b=some u):Inv X pins Z H { s with heap:=h',toks:=t' }:=I.un (Un.kept k) (I.fh.kept k)
theorem Inv.laid {o:HO}(I:Inv X pins Z H s) (k:∀ b u,s.heap.get? b=some u->h'.get? b=some u) (hp:s.heap.objs.size<=a) (new:fS X.prog X.w (upd H a o) h' a o) :
  Inv X pins Z (upd H a o) { s with heap:=h',toks:=t' }:=I.un (Un.laid k hp (I.fh.fresh hp)) (I.fh.laid k hp new)
theorem Inv.write {x e:ai}{o:HO}(I:Inv X pins Z H s) (mu:Mut (H x)) (he:e=x\/H e=some (.own x)) (k:∀ b u,b≠e->s.heap.get? b=some u->h'.get? b=some u) (heo:∃ u,h'.get? e=some u)
  (new:fS X.prog X.w (upd H x o) h' x o):Inv X pins Z (upd H x o) { s with heap:=h',toks:=t' }:=I.un (Un.write mu he k heo) (I.fh.write mu he k heo new)
theorem Inv.Tr {pins':List (ai×iW)}(I:Inv X pins Z H s) (h:∀ p∈pins',s.heap.get? p.1=some p.2/\H p.1=none/\p.1≠X.env.locals/\p.1∉X.fs/\∀ v,p.2.data≠.cell v):Inv X pins' Z H s :=
 ⟨I.ok,I.os,I.bare,I.base,I.loc,I.cell,I.free,I.pQ,λp hp=>(aT.mp hp).elim (λz=>I.pin p (bT _ z)) (h p),I.fh,I.len⟩
theorem Mw (hN:N.Nodup) {i j:Nat}{x:aY}(a:N[i]?=some x) (b:N[j]?=some x):i=j:=by
 obtain ⟨h1,e1⟩:=aE.mp a;obtain ⟨h2,e2⟩:=aE.mp b;exact (List.getElem_inj hN).mp (e1.trans e2.symm)
theorem Ia {v:V}{Q:Unit->aC->Prop}(I:Inv X pins Z H s) (hN:X.N.Nodup) (hi:X.N[i]?=some x) (hx:Loc X.env.scope x) (r:RelV v u)
  (h:∀ s',Inv X pins (Z.set i (some v)) H s'->(∃ a,iB a s.heap s'.heap/\(a=X.env.locals\/X.env.cells.lookup x=some a))->Q () s') (hf:X.fn x=true\/X.env.scope.names.lookup x=some .local:=by first|exact .inl rfl|exact .inr rfl|assumption):aQ M A (storeName X.env x u) Q E s:=by
 obtain ⟨m,hn,hl⟩:=id I.loc
 have hcls:(X.env.scope.kind == .class || (X.env.scope.kind == .module && X.env.locals != X.env.globals))=false:=by rw [I.ok.kind];rfl
 have hiσ:i<Z.length:=by rw [I.len];exact (aE.mp hi).1
 have cne:=I.cne
 have tracked:∀ {a:ai}{h':cI},(∃ o,s.heap.get? a=some o/\H a=none)->iB a s.heap h'->tq X.prog X.w H h':=λ{a h'} ha hs b ob e=>by
  obtain ⟨_,_,hfree⟩:=ha;refine (I.fh b ob e).zr (λc w' hc q=>(hs.2 c ?_).trans q) (λ_ q=>q) λ_ _ q=>q;rintro rfl
  rcases hc with rfl|hc
  .rw [hfree] at e;cases e
  .rw [hfree] at hc;cases hc
 rcases hx with hk|hk
 .refine wpAny_storeName_local hk hn (λh' hn' hs=>?_) hcls;obtain ⟨oL,_,_,hoL,_⟩:=id hn;refine h _ ⟨I.ok,I.os,I.bare,⟨λb o e n hb hx=>?_,λb o e n hb hx=>?_,I.base.free,λb o e hx=>?_,I.base.zt,I.base.xM,I.base.xH⟩,⟨_,hn',λj y v' e1 e2 e3=>?_⟩,λy c e=>?_,I.free,I.pQ,λp hp=>?_,tracked ⟨oL,hoL,I.free⟩ hs,by simpa using I.len⟩ ⟨_,hs,.inl rfl⟩
  .exact (hs.2 b (a6 (bp (aO e) I.ok.above))).trans (I.base.keep b o e n hb hx)
  .obtain ⟨sl,e1⟩:=I.base.slot b o e n hb hx;exact ⟨sl,(hs.2 b (a6 (bp (aO e) I.ok.above))).trans e1⟩
  .obtain ⟨o',e1⟩:=I.base.there b o e hx;exact ⟨o',(hs.2 b (a6 (bp (aO e) I.ok.above))).trans e1⟩
  .by_cases hj:j=i
   .subst hj;rw [hi] at e1;cases e1;rw [fZ hiσ] at e2;cases e2;exact ⟨u,r,.inl ⟨hk,by simp⟩⟩
   .rw [xV (Ne.symm hj)] at e2;obtain ⟨u',r',q⟩:=hl j y v' e1 e2 e3;refine ⟨u',r',?_⟩
    rcases q with ⟨k,e⟩|⟨k,c,e,z⟩
    .refine .inl ⟨k,?_⟩;have:y≠x:=λe=>hj (Mw hN e1 (e▸hi));simp [this,e]
    .exact .inr ⟨k,c,e,z.sameBut hs (cne y c e)⟩
  .obtain ⟨w',z⟩:=I.cell y c e;exact ⟨w',z.sameBut hs (cne y c e)⟩
  .obtain ⟨e,n,ne,nf,d⟩:=I.pin p hp;exact ⟨(hs.2 p.1 ne).trans e,n,ne,nf,d⟩
 .have hfn:X.fn x=true:=by
   rcases hf with z|z
   .exact z
   .rw [z] at hk;cases hk
  obtain ⟨c,hc⟩:=I.ok.has x (.inl hk);obtain ⟨w',z⟩:=I.cell x c hc;refine wpAny_storeName_cell I.ok.kind hk hc z (λh' hc' hs=>?_);obtain ⟨oc,hoc,hocd⟩:=id z;refine h { s with heap:=h' } ⟨I.ok,I.os,I.bare,⟨λb o e n hb hx=>?_,λb o e n hb hx=>?_,I.base.free,λb o e hx=>?_,I.base.zt,I.base.xM,I.base.xH⟩,⟨m,hn.sameBut hs (Ne.symm (cne x c hc)),λj y v' e1 e2 e3=>?_⟩,λy c' e=>?_,I.free,I.pQ,λp hp=>?_,tracked ⟨oc,hoc,I.pQ x c hc⟩ hs,by simpa using I.len⟩ ⟨c,hs,.inr hc⟩
  .exact (hs.2 b (a6 (bp (aO e) (I.ok.cab x c hfn hc)))).trans (I.base.keep b o e n hb hx)
  .obtain ⟨sl,e1⟩:=I.base.slot b o e n hb hx;exact ⟨sl,(hs.2 b (a6 (bp (aO e) (I.ok.cab x c hfn hc)))).trans e1⟩
  .obtain ⟨o',e1⟩:=I.base.there b o e hx;exact ⟨o',(hs.2 b (a6 (bp (aO e) (I.ok.cab x c hfn hc)))).trans e1⟩
  .by_cases hj:j=i
   .subst hj;rw [hi] at e1;cases e1;rw [fZ hiσ] at e2;cases e2;exact ⟨u,r,.inr ⟨.inl hk,c,hc,hc'⟩⟩
   .rw [xV (Ne.symm hj)] at e2;obtain ⟨u',r',q⟩:=hl j y v' e1 e2 e3;refine ⟨u',r',?_⟩
    rcases q with q|⟨k,c',e,z'⟩
    .exact .inl q
    .refine .inr ⟨k,c',e,z'.sameBut hs ?_⟩;rintro rfl;exact hj (Mw hN e1 (I.ok.inj _ _ _ e hc▸hi))
  .by_cases hcc:c'=c
   .subst hcc;exact ⟨_,hc'⟩
   .obtain ⟨w2,z2⟩:=I.cell y c' e;exact ⟨w2,z2.sameBut hs hcc⟩
  .obtain ⟨e,n,ne,nf,d⟩:=I.pin p hp;refine ⟨(hs.2 p.1 ?_).trans e,n,ne,nf,d⟩;intro q;rw [q,hoc] at e;have q':oc=p.2:=aL e;exact d w' (by rw [← q'];exact hocd)
theorem Du {v:V}{Q:Unit->aC->Prop}(I:Inv X pins Z H s) (hN:X.N.Nodup) (hi:X.N[i]?=some x) (hx:Loc X.env.scope x) (r:RelV v u)
  (h:∀ s',Inv X pins (Z.set i (some v)) H s'->Q () s') (hf:X.fn x=true\/X.env.scope.names.lookup x=some .local:=by first|exact .inl rfl|exact .inr rfl|assumption):aQ M A (storeName X.env x u) Q E s :=
 Ia I hN hi hx r (λs' I' _=>h s' I') hf
theorem Inv.YI (I:Inv X pins Z H s) (ho:s'.os=s.os) (u:Un (vv X.stack) ch H H' s.heap s'.heap) (fh:tq X.prog X.w H' s'.heap) (hg:vw s'.gens)
  (hch:∀ b∈ch,(b∈X.ex\/X.s₀.heap.objs.size<=b)/\b≠X.env.locals/\(∀ x c,X.env.cells.lookup x=some c->c≠b)/\∀ p∈X.pn++pins,p.1≠b):Inv X pins Z H' s':=by
 obtain ⟨h',g',d',t',o'⟩:=s';have e:o'=s.os:=ho;subst e;exact I.call (g':=g') (t':=t') (d':=d') u fh hg hch
end
abbrev XK:=au->Option ai->Hp->Prop
abbrev St:=List (Option V)
abbrev VK:=V->Hp->Prop
abbrev TE:=St->Hp->VK->Prop
abbrev TT:=St->Hp->(Bool->Hp->Prop)->Prop
abbrev TA:=St->Hp->(List V->Hp->Prop)->Prop
structure vH where
 nx:St->Hp->Prop
 rt:VK
 bk:St->Hp->Prop:=λ_ _=>False
 ct:St->Hp->Prop:=λ_ _=>False
abbrev TS:=vH->St->Hp->Prop
def EP (X:Cx) (pins:List (ai×iW)) (Z:St) (Q:VK) (u:au) (s':aC):Prop:=∃ v H',Inv X pins Z H' s'/\RelV v u/\Q v H'
def TP (X:Cx) (pins:List (ai×iW)) (Z:St) (Q:Bool->Hp->Prop) (b:Bool) (s':aC):Prop:=∃ H',Inv X pins Z H' s'/\Q b H'
def AP (X:Cx) (pins:List (ai×iW)) (Z:St) (Q:List V->Hp->Prop) (us:List au) (s':aC):Prop:=∃ vs H',Inv X pins Z H' s'/\Vals vs us/\Q vs H'
def SP (X:Cx) (pins:List (ai×iW)) (D:vH) (f:Flow) (s':aC):Prop :=
 match f with
 | .next=>∃ σ' H',Inv X pins σ' H' s'/\D.nx σ' H'
 | .brk=>∃ σ' H',Inv X pins σ' H' s'/\D.bk σ' H'
 | .cont=>∃ σ' H',Inv X pins σ' H' s'/\D.ct σ' H'
 | .ret u=>∃ v σ' H',Inv X pins σ' H' s'/\RelV v u/\D.rt v H'
def PE (X:Cx) (e:Expr) (t:TE):Prop :=
 ∀ (pins:List (ai×iW)) (s:aC) (Z:St) (H:Hp) (Q:VK),Inv X pins Z H s->t Z H Q->aQ (a7 X.prog X.w) X.A (fw e X.env) (EP X pins Z Q) X.xe s
def PT (X:Cx) (e:Expr) (t:TT):Prop :=
 ∀ (pins:List (ai×iW)) (s:aC) (Z:St) (H:Hp) (Q:Bool->Hp->Prop),Inv X pins Z H s->t Z H Q->aQ (a7 X.prog X.w) X.A (isTrue e X.env (fw e X.env)) (TP X pins Z Q) X.xe s
def PW (X:Cx) (e:Expr) (t:TT):Prop :=
 ∀ (whole:R5 au) (pins:List (ai×iW)) (s:aC) (Z:St) (H:Hp) (Q:Bool->Hp->Prop),Inv X pins Z H s->t Z H Q->aQ (a7 X.prog X.w) X.A (isTrue e X.env whole) (TP X pins Z Q) X.xe s
theorem PW.pt {X:Cx}{t:TT}(h:PW X e t):PT X e t:=h _
def PA (X:Cx) (es:List Expr) (t:TA):Prop :=
 ∀ (pos:vQ) (pins:List (ai×iW)) (s:aC) (Z:St) (H:Hp) (Q:List V->Hp->Prop),Inv X pins Z H s->t Z H Q->aQ (a7 X.prog X.w) X.A (spliced (iC pos (bA es X.env))) (AP X pins Z Q) X.xe s
def PS (X:Cx) (st:cH) (t:TS):Prop :=
 ∀ (pins:List (ai×iW)) (s:aC) (Z:St) (H:Hp) (D:vH),Inv X pins Z H s->t D Z H->aQ (a7 X.prog X.w) X.A (exec st X.env) (SP X pins D) X.xe s
def LO (X:Cx) (st:List cH) (t:TS):Prop :=
 ∀ (pins:List (ai×iW)) (s:aC) (Z:St) (H:Hp) (D:vH),Inv X pins Z H s->t D Z H->aQ (a7 X.prog X.w) X.A (execs st X.env) (SP X pins D) X.xe s
theorem gN {α:Type} {t:R5 α}{Q Q':α->aC->Prop}(h:aQ M A t Q E s) (hQ:∀ a s,Q a s->Q' a s):aQ M A t Q' E s:=fk h hQ λ_ _ x=>x
section
variable {X:Cx}
def ak (i:Nat):TE:=λZ H Q=>∃ v,Z[i]?=some (some v)/\Q v H
def tC (v:V):TE:=λ_ H Q=>Q v H
theorem ab9 (hN:X.N[i]?=some x) (hv:Vis X.env.scope x) (hd:(x == ("__debug__":aY))=false:=by decide) (hcd:(x == ("__classdict__":aY))=false:=by decide):PE X (.Name x pos) (ak i):=by
 intro pins s Z H Q I h;obtain ⟨v,e,h⟩:=h;obtain ⟨m,hn,hl⟩:=I.loc;obtain ⟨u,r,l⟩:=hl i x v hN e hv
 have fin:EP X pins Z Q u s:=⟨v,H,I,r,h⟩
 rcases l with ⟨hk,hm⟩|⟨hk,c,hc,hcell⟩
 .exact zE (qM I.ok.kind hk hn hm fin) hd
 .rcases hk with hk|hk
  .exact zE (wpAny_loadName_cell I.ok.kind hk hc hcell fin) hd
  .exact zE (wpAny_loadName_free I.ok.kind hk hc hcell fin hcd) hd
theorem gO {i j pos}:PE X (.Constant (.int i) j pos) (tC (.int i)):=λ_ _ _ H _ I h=>wpAny_Constant_int ⟨.int i,H,I.tok _,⟨_,rfl⟩,h⟩
theorem VS {b j pos}:PE X (.Constant (.bool b) j pos) (tC (.bl b)):=λ_ _ _ H _ I h=>Constant_bool ⟨.bl b,H,I,rfl,h⟩
theorem VT {j pos}:PE X (.Constant .none j pos) (tC .non):=λ_ _ _ H _ I h=>YT ⟨.non,H,I,rfl,h⟩
theorem dR {x j pos}:PE X (.Constant (.str x) j pos) (tC (.str x)):=λ_ _ _ H _ I h=>Calls.Constant_str ⟨.str x,H,I.tok _,⟨_,rfl⟩,h⟩
def Gl (X:Cx) (x:aY):Prop:=X.env.kindOf x=some .globalImplicit
theorem rH {Z:St}{H:Hp}(I:Inv X pins Z H s) (hg:Gl X x) (hm:X.mg x=some u) (h:Q u s)
  (hd:(x == ("__debug__":aY))=false:=by decide):aQ (a7 X.prog X.w) X.A (fw (.Name x pos) X.env) Q E s :=
 LP I.ok.kind hg (Calls.loadGlobal_global (by rw [I.ok.glob];exact I.mod.glob.keeps I.bk) hm h) hd
theorem rJ {Z:St}{H:Hp}(I:Inv X pins Z H s) (hg:Gl X x) (hm:X.mg x=none) (hv:dI x=some u) (h:Q u s)
  (hn:x≠"__name__":=by decide) (hd:(x == ("__debug__":aY))=false:=by decide):aQ (a7 X.prog X.w) X.A (fw (.Name x pos) X.env) Q E s:=by
 obtain ⟨mb,h1,h2⟩:=I.mod.blt;exact LP I.ok.kind hg (Calls.loadGlobal_builtin (by rw [I.ok.glob];exact I.mod.glob.keeps I.bk) hm (by rw [I.ok.blt];exact h1.keeps I.bk) ((h2 x hn).trans hv) h) hd
theorem rK {v:V}(hg:Gl X x) (hm:X.mg x=some u) (r:RelV v u) (hd:(x == ("__debug__":aY))=false:=by decide):PE X (.Name x pos) (tC v) :=
 λ_ _ _ H _ I h=>rH I hg hm ⟨v,H,I,r,h⟩ hd
theorem Jp {v:V}(hg:Gl X x) (hm:X.mg x=none) (hv:dI x=some u) (r:RelV v u) (hn:x≠"__name__":=by decide) (hd:(x == ("__debug__":aY))=false:=by decide):PE X (.Name x pos) (tC v) :=
 λ_ _ _ H _ I h=>rJ I hg hm hv ⟨v,H,I,r,h⟩ hn hd
variable {a b:Expr}{ta tb:TE}
def PC (X:Cx) (op:CmpOp) (a b:Expr) (t:TE):Prop :=
 ∀ (pins:List (ai×iW)) (s:aC) (Z:St) (H:Hp) (Q:VK),Inv X pins Z H s->t Z H Q ->
  aQ (a7 X.prog X.w) X.A (fw a X.env) (λv s₁=>aQ (a7 X.prog X.w) X.A (fw b X.env) (λu s₂=>aQ (a7 X.prog X.w) X.A (dh op v u) (EP X pins Z Q) X.xe s₂) X.xe s₁) X.xe s
theorem Mx (b:Expr) {op:CmpOp}(h:op≠.In) (h2:op≠.NotIn):kW op b=false:=by
 have e1:(op == CmpOp.In)=false:=by cases op<;>first|rfl|exact absurd rfl h
 have e2:(op == CmpOp.NotIn)=false:=by cases op<;>first|rfl|exact absurd rfl h2
 cases b<;>simp [kW,e1,e2]
def My (ta:TE):TE:=λZ H Q=>ta Z H λx H1=>Q (.bl (decide (x=.non))) H1
def VU (ta:TE):TE:=λZ H Q=>ta Z H λx H1=>Q (.bl (!decide (x=.non))) H1
theorem RelV.OX {x:V}(r:RelV x v):(v == cG)=decide (x=.non):=by
 cases x with
 | non=>cases r;rfl
 | bl _=>cases r;rfl
 | int _=>obtain ⟨t,rfl⟩:=r;rfl
 | str _=>obtain ⟨t,rfl⟩:=r;rfl
 | byt _=>obtain ⟨t,rfl⟩:=r;rfl
 | flt _=>obtain ⟨t,rfl⟩:=r;rfl
 | ref _=>cases r;rfl
 | ty _=>cases r;rfl
theorem zU {j pos'} (ha:PE X a ta):PC X .Is a (.Constant .none j pos') (My ta):=by
 intro pins s Z H Q I h;refine gN (ha pins s Z H _ I h) λv s1 ⟨x,H1,I1,r1,q1⟩=>?_;exact YT (is_none_gen ⟨.bl _,H1,I1,by rw [r1.OX];rfl,q1⟩)
theorem Zm {j pos'} (ha:PE X a ta):PC X .IsNot a (.Constant .none j pos') (VU ta):=by
 intro pins s Z H Q I h;refine gN (ha pins s Z H _ I h) λv s1 ⟨x,H1,I1,r1,q1⟩=>?_;exact YT (isnot_none_gen ⟨.bl _,H1,I1,by rw [r1.OX];rfl,q1⟩)
def tB (t:TE):TT:=λZ H Q=>t Z H λx H1=>∃ c,x=.bl c/\Q c H1
theorem aca {t:TE}(h:PC X op a b t) (h1:kW op b=false:=by first|exact Mx _ (by decide) (by decide)|rfl):PE X (.Compare a [op] [b] pos) t:=λpins s Z H Q I hw=>wpAny_Compare1 (h pins s Z H Q I hw) h1
theorem zV {t:TE}(h:PC X op a b t) (h1:kW op b=false:=by first|exact Mx _ (by decide) (by decide)|rfl):PT X (.Compare a [op] [b] pos) (tB t):=by
 intro pins s Z H Q I hw;refine abS (gN (h pins s Z H _ I hw) λv s1 h1=>gN h1 λu s2 h2=>gN h2 λc s3 ⟨x,H1,I1,r1,q1⟩=>?_) h1;obtain ⟨d,rfl,q⟩:=q1;cases r1;exact jx ⟨H1,I1,q⟩
variable {tA tB':TT}{rest:List Expr}
def Gw (t u:TT):TT:=λZ H Q=>t Z H λc H1=>if c=true then u Z H1 Q else Q false H1
def tOr (t u:TT):TT:=λZ H Q=>t Z H λc H1=>if c=true then Q true H1 else u Z H1 Q
def Jq (t:TT):TT:=λZ H Q=>t Z H λc H1=>Q (!c) H1
theorem Jr (ha:PT X a tA):PW X (.BoolOp .And [a] pos) tA:=by
 intro wh pins s Z H Q I h;refine isTrue_and (gN (ha pins s Z H Q I h) λc s1 e=>?_)
 cases c with
 | true=>exact isTrue_and_nil e
 | false=>exact e
theorem acb (ha:PT X a tA):PW X (.BoolOp .Or [a] pos) tA:=by
 intro wh pins s Z H Q I h;refine isTrue_or (gN (ha pins s Z H Q I h) λc s1 e=>?_)
 cases c with
 | false=>exact isTrue_or_nil e
 | true=>exact e
theorem Pl (ha:PT X a tA) (hb:PW X (.BoolOp .And (b::rest) pos) tB'):PW X (.BoolOp .And (a::b::rest) pos) (Gw tA tB'):=by
 intro wh pins s Z H Q I h;refine isTrue_and (gN (ha pins s Z H _ I h) λc s1 ⟨H1,I1,q1⟩=>?_)
 cases c with
 | true=>exact hb wh pins s1 Z H1 Q I1 q1
 | false=>exact ⟨H1,I1,q1⟩
theorem aa8 (ha:PT X a tA) (hb:PW X (.BoolOp .Or (b::rest) pos) tB'):PW X (.BoolOp .Or (a::b::rest) pos) (tOr tA tB'):=by
 intro wh pins s Z H Q I h;refine isTrue_or (gN (ha pins s Z H _ I h) λc s1 ⟨H1,I1,q1⟩=>?_)
 cases c with
 | true=>exact ⟨H1,I1,q1⟩
 | false=>exact hb wh pins s1 Z H1 Q I1 q1
theorem acd (ha:PT X a tA):PT X (.UnaryOp .Not a pos) (Jq tA):=by
 intro pins s Z H Q I h;exact isTrue_not (ha pins s Z H (λc H1=>Q (!c) H1) I h)
def x8 (ta tb:TE):TE:=λZ H Q=>ta Z H λx H1=>∃ c,x=.bl c/\if c=true then tb Z H1 Q else Q (.bl false) H1
def Zo (ta tb:TE):TE:=λZ H Q=>ta Z H λx H1=>∃ c,x=.bl c/\if c=true then Q (.bl true) H1 else tb Z H1 Q
def VV (ta:TE):TE:=λZ H Q=>ta Z H λx H1=>∃ c,x=.bl c/\Q (.bl (!c)) H1
theorem tW {op} {t:TE}(h:PE X a t):PE X (.BoolOp op [a] pos) t:=λpins s Z H Q I hw=>BoolOp_one (h pins s Z H Q I hw)
theorem tX (ha:PE X a ta) (hb:PE X (.BoolOp .And (b::rest) pos) tb):PE X (.BoolOp .And (a::b::rest) pos) (x8 ta tb):=by
 intro pins s Z H Q I h;refine BoolOp_and (gN (ha pins s Z H _ I h) λv s1 ⟨x,H1,I1,r1,q1⟩=>?_);obtain ⟨c,rfl,q1⟩:=q1;cases r1;refine jx ?_
 cases c with
 | true=>exact hb pins s1 Z H1 Q I1 q1
 | false=>exact ⟨.bl false,H1,I1,rfl,q1⟩
theorem aa9 (ha:PE X a ta) (hb:PE X (.BoolOp .Or (b::rest) pos) tb):PE X (.BoolOp .Or (a::b::rest) pos) (Zo ta tb):=by
 intro pins s Z H Q I h;refine BoolOp_or (gN (ha pins s Z H _ I h) λv s1 ⟨x,H1,I1,r1,q1⟩=>?_);obtain ⟨c,rfl,q1⟩:=q1;cases r1;refine jx ?_
 cases c with
 | false=>exact hb pins s1 Z H1 Q I1 q1
 | true=>exact ⟨.bl true,H1,I1,rfl,q1⟩
theorem ace (ha:PE X a ta):PE X (.UnaryOp .Not a pos) (VV ta):=by
 intro pins s Z H Q I h;refine UnaryOp_ (gN (ha pins s Z H _ I h) λv s1 ⟨x,H1,I1,r1,q1⟩=>?_);obtain ⟨c,rfl,q1⟩:=q1;cases r1;exact not_of (jx ⟨.bl (!c),H1,I1,rfl,q1⟩)
def Pn (t:TT) (ta tb:TE):TE:=λZ H Q=>t Z H λc H1=>if c=true then ta Z H1 Q else tb Z H1 Q
theorem i9 (hc:PT X c tA) (ha:PE X a ta) (hb:PE X b tb):PE X (.IfExp c a b pos) (Pn tA ta tb):=by
 intro pins s Z H Q I h;refine wpAny_IfExp (gN (hc pins s Z H _ I h) λd s1 ⟨H1,I1,q1⟩=>?_)
 cases d with
 | true=>exact ha pins s1 Z H1 Q I1 q1
 | false=>exact hb pins s1 Z H1 Q I1 q1
end
def cW (K:aa) (H:Hp) (a:ai) (xs:List V):Prop :=
 Rd H a (.lst xs) \/
  ∃ (o:iW) (its:Array au) (n:Nat),K.lookup a=some o/\o.cls=.type "list"/\o.dict=none/\o.data=.seq its n/\its.size<=aZ/\Vals xs its.toList
def kU (K:aa) (H:Hp) (a:ai) (xs:List V):Prop :=
 Rd H a (.tup xs) \/
  ∃ (o:iW) (its:Array au) (n:Nat),K.lookup a=some o/\o.cls=.type "tuple"/\o.data=.seq its n/\its.size<=aZ/\Vals xs its.toList
def absV:au->Option V
 | .none=>some .non
 | .bool b=>some (.bl b)
 | .int i _=>some (.int i)
 | .str x _=>some (.str x)
 | .bytes b _=>some (.byt b)
 | .float b _=>some (.flt b)
 | .ref a=>some (.ref a)
 | .type n=>some (.ty n)
 | _=>none
theorem RelV.abs {x:V}(r:RelV x u):absV u=some x:=by
 cases x with
 | non=>cases r;rfl
 | bl _=>cases r;rfl
 | int _=>obtain ⟨t,rfl⟩:=r;rfl
 | str _=>obtain ⟨t,rfl⟩:=r;rfl
 | byt _=>obtain ⟨t,rfl⟩:=r;rfl
 | flt _=>obtain ⟨t,rfl⟩:=r;rfl
 | ref _=>cases r;rfl
 | ty _=>cases r;rfl
theorem RelV.inj {x y:V}(r:RelV x u) (q:RelV y u):x=y:=aL (r.abs.symm.trans q.abs)
theorem Vals.inj {xs ys:List V}(h:Vals xs us):Vals ys us->xs=ys:=by
 induction h generalizing ys with
 | nil=>intro q;cases q;rfl
 | cons r _ ih =>
  intro q
  cases q with
  | cons r' t'=>rw [r.inj r',ih t']
section
variable {X:Cx}{Z:St}{H:Hp}{xs ys:List V}
theorem cW.of (h:H a=some (.lst xs)):cW K H a xs:=.inl (.inl h)
theorem kU.of (h:H a=some (.tup xs)):kU K H a xs:=.inl (.inl h)
theorem Inv.list (I:Inv X pins Z H s) (h:cW X.K H a xs):∃ its:List au,Vals xs its/\PlainL s.heap a its.toArray/\xs.length<=aZ:=by
 rcases h with h|⟨o,its,n,hk,hc,hd,hs,hz,r⟩
 .obtain ⟨z,its,n,r,e⟩:=h.ok I.fh;exact ⟨its,r,⟨_,n,e,rfl,rfl,rfl⟩,z⟩
 .refine ⟨its.toList,r,⟨o,n,I.xS a o hk,hc,hd,by simpa using hs⟩,?_⟩;have e:=r.length;simp only [aX] at e;lia
theorem Inv.tuple (I:Inv X pins Z H s) (h:kU X.K H a xs):∃ its:List au,Vals xs its/\tO s.heap a its.toArray/\xs.length<=aZ:=by
 rcases h with h|⟨o,its,n,hk,hc,hs,hz,r⟩
 .obtain ⟨z,its,r,p⟩:=h.ok I.fh;exact ⟨its,r,p,z⟩
 .refine ⟨its.toList,r,⟨o,I.xS a o hk,hc,n,by simpa using hs⟩,?_⟩;have e:=r.length;simp only [aX] at e;lia
theorem Inv.YK (I:Inv X pins Z H s) (h:cW X.K H a xs) (h':cW X.K H a ys):xs=ys:=by
 obtain ⟨its,r,⟨o,n,e,_,_,d⟩,_⟩:=I.list h;obtain ⟨its',r',⟨o',n',e',_,_,d'⟩,_⟩:=I.list h';rw [e] at e';cases e';rw [d] at d'
 injection d' with d1 _
 have:its=its':=by simpa using congrArg Array.toList d1
 subst this;exact r.inj r'
theorem Inv.U4 (I:Inv X pins Z H s) (h:kU X.K H a xs) (h':kU X.K H a ys):xs=ys:=by
 obtain ⟨its,r,⟨o,e,_,n,d⟩,_⟩:=I.tuple h;obtain ⟨its',r',⟨o',e',_,n',d'⟩,_⟩:=I.tuple h';rw [e] at e';cases e';rw [d] at d'
 injection d' with d1 _
 have:its=its':=by simpa using congrArg Array.toList d1
 subst this;exact r.inj r'
end
abbrev Cx.HU (X:Cx) (E:au->aC->Prop):Cx:={ X with xe:=E }
abbrev Cx.nox (X:Cx):Cx:=X.HU λ_ _=>False
theorem Cx.Ok.HU {X:Cx}(ok:X.Ok) (E:au->aC->Prop):(X.HU E).Ok :=
 ⟨ok.mod,ok.kind,ok.glob,ok.blt,ok.above,ok.inj,ok.has,ok.cab,ok.hd,ok.frames,ok.stk,ok.exf,ok.bs,ok.Ts,ok.LN,ok.LM,ok.uW,ok.VF⟩
theorem Cx.Ok.uV {X:Cx}(ok:(X.HU E).Ok):X.Ok :=
 ⟨ok.mod,ok.kind,ok.glob,ok.blt,ok.above,ok.inj,ok.has,ok.cab,ok.hd,ok.frames,ok.stk,ok.exf,ok.bs,ok.Ts,ok.LN,ok.LM,ok.uW,ok.VF⟩
section
variable {X:Cx}{Z:St}{H:Hp}
theorem Inv.HU (I:Inv X pins Z H s) (E:au->aC->Prop):Inv (X.HU E) pins Z H s:=⟨I.ok.HU E,I.os,I.bare,I.base,I.loc,I.cell,I.free,I.pQ,I.pin,I.fh,I.len⟩
theorem Inv.uV (I:Inv (X.HU E) pins Z H s):Inv X pins Z H s:=⟨I.ok.uV,I.os,I.bare,I.base,I.loc,I.cell,I.free,I.pQ,I.pin,I.fh,I.len⟩
theorem SP.uV {D:vH}{f:Flow}(h:SP (X.HU E) pins D f s'):SP X pins D f s':=by
 cases f with
 | next=>obtain ⟨σ',H',I,q⟩:=h;exact ⟨σ',H',I.uV,q⟩
 | brk=>obtain ⟨σ',H',I,q⟩:=h;exact ⟨σ',H',I.uV,q⟩
 | cont=>obtain ⟨σ',H',I,q⟩:=h;exact ⟨σ',H',I.uV,q⟩
 | ret u=>obtain ⟨v,σ',H',I,r,q⟩:=h;exact ⟨v,σ',H',I.uV,r,q⟩
theorem LO.nox {st:List cH}{t:TS}(h:LO X.nox st t):LO X st t:=λpins s Z H D I hw =>
 fk (h pins s Z H D (I.HU _) hw) (λ_ _ q=>q.uV) λ_ _ z=>eU z
end
section
variable {X:Cx}{st:cH}{rest:List cH}{t u:TS}{te:TE}
def cM:TS:=λD Z H=>D.nx Z H
def bB (t u:TS):TS:=λD Z H=>t { D with nx:=u D } Z H
theorem cV:LO X [] cM:=λ_ _ Z H _ I h=>rD ⟨Z,H,I,h⟩
theorem aF (h1:PS X st t) (h2:LO X rest u):LO X (st::rest) (bB t u):=by
 intro pins s Z H D I h;refine wpAny_execs_cons (gN (h1 pins s Z H { D with nx:=u D } I h) λf s1 q=>?_)
 cases f with
 | next =>
  obtain ⟨σ',H',I',q⟩:=q
  exact h2 pins s1 σ' H' D I' q
 | ret v=>exact q
 | brk=>exact q
 | cont=>exact q
theorem aU (h1:PS X st t):LO X [st] t:=by
 intro pins s Z H D I h;refine wpAny_execs_cons (gN (h1 pins s Z H D I h) λf s1 q=>?_)
 cases f with
 | next=>exact rD q
 | ret v=>exact q
 | brk=>exact q
 | cont=>exact q
theorem Inv.quiet {Z:St}{H:Hp}(I:Inv X pins Z H s):interactive X.env=false:=by simp [interactive,I.ok.kind]
def iK (te:TE):TS:=λD Z H=>te Z H λ_ H1=>D.nx Z H1
theorem x9 (he:PE X e te) (hs:Dk e none pos.line X.env=pure false:=by rfl):PS X (.Expr e pos) (iK te):=by
 intro pins s Z H D I h;exact wpAny_Expr_any (gN (he pins s Z H _ I h) λv s1 ⟨x,H1,I1,r1,q1⟩=>⟨Z,H1,I1,q1⟩) I.quiet hs
def cC (te:TE):TS:=λD Z H=>te Z H D.rt
theorem cz (he:PE X e te):PS X (.Return (some e) pos) (cC te):=by
 intro pins s Z H D I h;exact wpAny_Return_some (gN (he pins s Z H _ I h) λv s1 ⟨x,H1,I1,r1,q1⟩=>⟨x,Z,H1,I1,r1,q1⟩)
def eO (c:TT) (t u:TS):TS:=λD Z H=>c Z H λb H1=>if b=true then t D Z H1 else u D Z H1
theorem gb {a b:List cH}{tc:TT}(hc:PT X c tc) (ha:LO X a t) (hb:LO X b u):PS X (.If c a b pos) (eO tc t u):=by
 intro pins s Z H D I h;refine wpAny_If (gN (hc pins s Z H _ I h) λd s1 ⟨H1,I1,q1⟩=>?_)
 cases d with
 | true=>exact ha pins s1 Z H1 D I1 q1
 | false=>exact hb pins s1 Z H1 D I1 q1
def fV:TS:=λ_ _ _=>False
theorem dw:PS X st fV:=λ_ _ _ _ _ _ h=>h.elim
end
abbrev TG:=V->St->Hp->(St->Hp->Prop)->Prop
abbrev Y3:=List V->St->Hp->(St->Hp->Prop)->Prop
def PG (X:Cx) (target:Expr) (t:TG):Prop :=
 ∀ (pins:List (ai×iW)) (s:aC) (Z:St) (H:Hp) (v:V) (u:au) (Q:St->Hp->Prop),Inv X pins Z H s->RelV v u->t v Z H Q ->
  aQ (a7 X.prog X.w) X.A (O0 target X.env u) (λ_ s'=>∃ σ' H',Inv X pins σ' H' s'/\Q σ' H') X.xe s
def PGs (X:Cx) (ts:List Expr) (t:Y3):Prop :=
 ∀ (pins:List (ai×iW)) (s:aC) (Z:St) (H:Hp) (vs:List V) (us:List au) (Q:St->Hp->Prop),Inv X pins Z H s->Vals vs us->t vs Z H Q ->
  aQ (a7 X.prog X.w) X.A (assignInOrder ((pX ts X.env).map (·.2)) us) (λ_ s'=>∃ σ' H',Inv X pins σ' H' s'/\Q σ' H') X.xe s
abbrev Zp:=V->V->V->Hp->(Hp->Prop)->Prop
def Zq (X:Cx) (t:Zp):Prop :=
 ∀ (pins:List (ai×iW)) (s:aC) (Z:St) (H:Hp) (o i v:V) (ov iv u:au) (Q:Hp->Prop),Inv X pins Z H s->RelV o ov->RelV i iv->RelV v u->t o i v H Q ->
  aQ (a7 X.prog X.w) X.A (setItem ov iv u) (λ_ s'=>∃ H',Inv X pins Z H' s'/\Q H') X.xe s
abbrev TIp:=V->V->Hp->VK->Prop
def PIp (X:Cx) (op:LQ) (t:TIp):Prop :=
 ∀ (pins:List (ai×iW)) (s:aC) (Z:St) (H:Hp) (x y:V) (v u:au) (Q:VK),Inv X pins Z H s->RelV x v->RelV y u->t x y H Q ->
  aQ (a7 X.prog X.w) X.A (Dl op v u) (EP X pins Z Q) X.xe s
section
variable {X:Cx}
def bf (i:Nat):TG:=λv Z H Q=>Q (Z.set i (some v)) H
theorem Zr (hN:X.N.Nodup) (hi:X.N[i]?=some x) (hx:Loc X.env.scope x) (hf:X.fn x=true\/X.env.scope.names.lookup x=some .local:=by first|exact .inl rfl|exact .inr rfl|assumption):PG X (.Name x pos) (bf i):=by
 intro pins s Z H v u Q I r h;exact wpAny_assign_Name (Du I hN hi hx r (λs' I'=>⟨_,H,I',h⟩) hf)
def Js:Y3:=λvs Z H Q=>vs=[]/\Q Z H
def jj (t:TG) (u:Y3):Y3:=λvs Z H Q=>∃ v r,vs=v::r/\t v Z H λσ' H'=>u r σ' H' Q
theorem vc:PGs X [] Js:=by
 intro pins s Z H vs us Q I r h;obtain ⟨e,h⟩:=h;subst e;cases r;exact assignInOrder_nil ⟨Z,H,I,h⟩
theorem eQ {t:TG}{u:Y3}(h1:PG X e t) (h2:PGs X es u)
  (hs:(pX (e::es) X.env).map (·.2)=O0 e X.env::(pX es X.env).map (·.2):=by rfl):PGs X (e::es) (jj t u):=by
 intro pins s Z H vs us Q I r h;obtain ⟨v,vr,e1,h⟩:=h;subst e1
 cases r with
 | cons r rr =>
  rw [hs];refine assignInOrder_cons (gN (h1 pins s Z H _ _ _ I r h) λ_ s1 ⟨σ1,H1,I1,q1⟩=>?_);exact h2 pins s1 σ1 H1 _ _ Q I1 rr q1
def Gx (K:aa) (n:Nat) (t:Y3):TG:=λv Z H Q=>∃ a xs,v=.ref a/\kU K H a xs/\xs.length=n/\t xs Z H Q
theorem zW {t:Y3}(hc:X.calm=true) (h:PGs X es t)
  (hn:(pX es X.env).length=n:=by rfl) (hst:(pX es X.env).findIdx? (·.1)=none:=by rfl):PG X (.Tuple es k pos) (Gx X.K n t):=by
 intro pins s Z H v u Q I r hw;obtain ⟨a,xs,e1,hq,hl,hw⟩:=hw;subst e1;cases r;obtain ⟨its,rv,ht,hz⟩:=I.tuple hq;refine assign_Tuple_tuple (I.ok.hd hc) ht (by simp [hn,← hl,rv.length]) hst λh' hx=>?_;have I1:Inv X pins Z H { s with heap:=h' }:=I.kept (t':=s.toks) λb o e=>hx b o (a6 (aO e)) e;exact h pins _ Z H xs _ Q I1 (by simpa using rv) hw
def Po (to ti:TE) (t:Zp):TG:=λv Z H Q=>to Z H λo H1=>ti Z H1 λi H2=>t o i v H2 λH3=>Q Z H3
theorem acf {o i:Expr}{to ti:TE}{t:Zp}(ho:PE X o to) (hi:PE X i ti) (hs:Zq X t)
  (ha:∀ v,O0 (.Subscript o i pos) X.env v=(do
   let ov ← ml [v] (fw o X.env)
   let iv ← ml [v,ov] (fw i X.env)
   zF pos
   ml [v,ov,iv] (setItem ov iv v)
   release [v,ov,iv] []):=by intro _;rfl):PG X (.Subscript o i pos) (Po to ti t):=by
 intro pins s Z H v u Q I r h;rw [ha];refine af (cU (gN (ho pins s Z H _ I h) λov s1 ⟨x,H1,I1,r1,q1⟩=>?_));refine af (cU (gN (hi pins s1 Z H1 _ I1 q1) λiv s2 ⟨y,H2,I2,r2,q2⟩=>?_));refine af (Gp (af (cU (gN (hs pins s2 Z H2 x y v ov iv u _ I2 r1 r2 r q2) λ_ s3 ⟨H3,I3,q3⟩=>?_))));exact wpAny_release ⟨Z,H3,I3,q3⟩
def dB (te:TE) (g:TG):TS:=λD Z H=>te Z H λx H1=>g x Z H1 D.nx
theorem acg {te:TE}{g:TG}(he:PE X e te) (hg:PG X tg g) (hs:swapsWithSole [tg] e pos.line X.env=pure false:=by rfl) (hw:swappedStores [tg] e X.env=pure none:=by rfl)
  (h1:(pX [tg] X.env).map (·.2)=[O0 tg X.env]:=by rfl):PS X (.Assign [tg] e pos) (dB te g):=by
 intro pins s Z H D I h;refine wpAny_Assign_stores (gN (he pins s Z H _ I h) λv s1 ⟨x,H1,I1,r1,q1⟩=>?_) hs hw;rw [h1];exact gN (hg pins s1 Z H1 x v _ I1 r1 q1) λ_ s2 q=>q
theorem VW {te:TE}(hN:X.N.Nodup) (hi:X.N[i]?=some x) (hx:Loc X.env.scope x) (he:PE X e te) (hs:Dk e (some (.Name x pos')) pos.line X.env=pure false:=by rfl) (hf:X.fn x=true\/X.env.scope.names.lookup x=some .local:=by first|exact .inl rfl|exact .inr rfl|assumption) :
  PS X (.Assign [.Name x pos'] e pos) (dB te (bf i)):=by
 intro pins s Z H D I h;refine wpAny_Assign_Name (gN (he pins s Z H _ I h) λv s1 ⟨y,H1,I1,r1,q1⟩=>?_) hs;exact Du I1 hN hi hx r1 (λs2 I2=>⟨_,H1,I2,q1⟩) hf
def VX (i:Nat) (te:TE) (ti:TIp):TS:=λD Z H=>∃ x,Z[i]?=some (some x)/\te Z H λy H1=>ti x y H1 λz H2=>D.nx (Z.set i (some z)) H2
theorem Pp {te:TE}{op:LQ}{ti:TIp}(hN:X.N.Nodup) (hi:X.N[i]?=some x) (hx:Loc X.env.scope x) (he:PE X e te) (ho:PIp X op ti) (hf:X.fn x=true\/X.env.scope.names.lookup x=some .local:=by first|exact .inl rfl|exact .inr rfl|assumption) :
  PS X (.AugAssign (.Name x pos') op e pos) (VX i te ti):=by
 intro pins s Z H D I h;obtain ⟨v,e1,h⟩:=h;obtain ⟨m,hn,hl⟩:=I.loc
 have vis:Vis X.env.scope x:=by rcases hx with k|k;exact .inl k;exact .inr (.inl k)
 obtain ⟨u,r,l⟩:=hl i x v hi e1 vis;refine wpAny_AugAssign_Name ?_
 have go:aQ (a7 X.prog X.w) X.A (fw e X.env) (λw s₂=>aQ (a7 X.prog X.w) X.A (Dl op u w) (λr s₃=>aQ (a7 X.prog X.w) X.A (storeName X.env x r) (λ_=>SP X pins D .next) X.xe s₃) X.xe s₂) X.xe s:=by
  refine gN (he pins s Z H _ I h) λw s1 ⟨y,H1,I1,r1,q1⟩=>?_;refine gN (ho pins s1 Z H1 v y u w _ I1 r r1 q1) λz s2 ⟨zv,H2,I2,r2,q2⟩=>?_;exact Du I2 hN hi hx r2 (λs3 I3=>⟨_,H2,I3,q2⟩) hf
 rcases l with ⟨hk,hm⟩|⟨hk,c,hc,hcell⟩
 .exact qM I.ok.kind hk hn hm go
 .rcases hk with hk|hk
  .exact wpAny_loadName_cell I.ok.kind hk hc hcell go
  .rcases hx with k|k
   .have:X.env.scope.names.lookup x=some .free:=hk;rw [k] at this;cases this
   .have:X.env.scope.names.lookup x=some .free:=hk;rw [k] at this;cases this
end
section
variable {X:Cx}
def Jt (c:TT) (tb:TS):TS:=λD Z H=>∃ W:Nat->St->Hp->Prop,(∃ m,W m Z H)/\∀ m Z H,W m Z H ->
 c Z H λb H1=>if b=true then ∃ N:St->Hp->Prop,(∀ σ' H',N σ' H'->∃ m',m'<m/\W m' σ' H')/\tb { D with nx:=N,ct:=N,bk:=D.nx } Z H1 else D.nx Z H1
theorem Dv {tc:TT}{tb:TS}(hp:PassesOwn (a7 X.prog X.w) X.A X.env X.xe) (hc:PT X c tc) (hb:LO X body tb):PS X (.While c body [] pos) (Jt tc tb):=by
 intro pins s Z H D I h;obtain ⟨W,⟨m0,w0⟩,turn⟩:=h;refine wpAny_While (codeAny_whileLoop (λn s'=>∃ σ' H',Inv X pins σ' H' s'/\W n σ' H') ?_ m0 ⟨Z,H,I,w0⟩);rintro n s1 ⟨σ1,H1,I1,w1⟩;refine kR hp (gN (hc pins s1 σ1 H1 _ I1 (turn n σ1 H1 w1)) λb s2 ⟨H2,I2,q2⟩=>?_)
 cases b with
 | true =>
  obtain ⟨N,hN,q2⟩:=q2;rw [if_pos rfl];refine kR hp (gN (hb pins s2 σ1 H2 _ I2 q2) λf s3 q3=>?_)
  cases f with
  | next =>
   obtain ⟨σ3,H3,I3,n3⟩:=q3;obtain ⟨m',hm,w3⟩:=hN σ3 H3 n3
   exact ⟨m',hm,σ3,H3,I3,w3⟩
  | cont =>
   obtain ⟨σ3,H3,I3,n3⟩:=q3;obtain ⟨m',hm,w3⟩:=hN σ3 H3 n3
   exact ⟨m',hm,σ3,H3,I3,w3⟩
  | brk=>exact q3
  | ret v=>exact q3
 | false =>
  rw [if_neg bG];exact rD ⟨σ1,H2,I2,q2⟩
end
structure It where
 go:Nat->Hp->Prop
 U8:Nat->Hp->V->Hp->Prop
 stop:Nat->Hp->Prop
def zX (X:Cx) (pins:List (ai×iW)) (H:Hp) (b:ai):Prop :=
 H b=none/\b≠X.env.locals/\b∉X.fs/\(b∈X.ex\/X.s₀.heap.objs.size<=b)/\(∀ x c,X.env.cells.lookup x=some c->c≠b)/\∀ p∈X.pn++pins,p.1≠b
theorem Inv.OY {X:Cx}{Z:St}{H H':Hp}(I:Inv X pins Z H s) (hb:s.heap.objs.size<=b) (hn:H' b=none):zX X pins H' b:=by
 refine ⟨hn,eP (bp I.lt hb),I.nofs hb,.inr (a9 I.sz hb),λx c e z=>?_,λp hp z=>?_⟩
 .obtain ⟨v,q⟩:=I.cell x c e;exact absurd (bp q.lt (by rw [z];exact hb)) (gR _)
 .exact absurd (bp (aO (I.pin p hp).1) (by rw [z];exact hb)) (gR _)
structure Pq (P:bQ) (w:cK) (K:aa) (tg:Expr) (J:It) (fp:List ai) (it:ai) (tn:Nat->cI->Prop):Prop where
 mem:it∈fp
 obj:∀ i h,tn i h->∀ b∈fp,∃ o,h.get? b=some o/\∀ v,o.data≠.cell v
 keep:∀ i h h',tn i h->(∀ b∈fp,∀ o,h.get? b=some o->h'.get? b=some o)->tn i h'
 item:∀ (X:Cx),X.prog=P->X.w=w->X.K=K->X.calm=true->∀ (i:Nat) (pins:List (ai×iW)) (s:aC) (Z:St) (H:Hp) (E:au->aC->Prop),Inv X pins Z H s->(∀ b∈fp,zX X pins H b)->tn i s.heap->J.go i H ->
  aQ (a7 P w) X.A (jH (.ref it)) (λr s1=>∃ u,r=some u /\
   aQ (a7 P w) X.A (zQ tg (.ref it) u) (λ_ s2=>∃ x H',Inv X pins Z H' s2/\RelV x u/\J.U8 i H x H'/\tn (i+1) s2.heap/\∀ b∈fp,H' b=none) E s1) E s
 done:∀ (X:Cx),X.prog=P->X.w=w->X.K=K->X.calm=true->∀ (i:Nat) (pins:List (ai×iW)) (s:aC) (Z:St) (H:Hp) (E:au->aC->Prop),Inv X pins Z H s->(∀ b∈fp,zX X pins H b)->tn i s.heap->J.stop i H ->
  aQ (a7 P w) X.A (jH (.ref it)) (λr s1=>r=none/\Inv X pins Z H s1) E s
 self:∀ (A:eD) (i:Nat) (s:aC) (Q:au->aC->Prop) (E:au->aC->Prop),tn i s.heap->Q (.ref it) s->aQ (a7 P w) A (Vg (.ref it)) Q E s
abbrev TI:=St->Hp->(It->Hp->Prop)->Prop
def PIE (X:Cx) (pins:List (ai×iW)) (Z:St) (tg:Expr) (R:It->Hp->Prop) (itv:au) (s2:aC):Prop :=
 ∃ (it:ai) (fp:List ai) (tn:Nat->cI->Prop) (J:It) (H':Hp),itv=.ref it/\Inv X pins Z H' s2/\Pq X.prog X.w X.K tg J fp it tn/\tn 0 s2.heap/\(∀ b∈fp,zX X pins H' b)/\R J H'
def PI (X:Cx) (tg iter:Expr) (wi:TI):Prop :=
 ∀ (pins:List (ai×iW)) (s:aC) (Z:St) (H:Hp) (R:It->Hp->Prop),Inv X pins Z H s->wi Z H R ->
  aQ (a7 X.prog X.w) X.A (fw iter X.env) (λv s1=>aQ (a7 X.prog X.w) X.A (Vg v) (PIE X pins Z tg R) X.xe s1) X.xe s
theorem Ib {n:String}{vs:Array au}{Q:Unit->aC->Prop}(ho:s.heap.get? it=some o) (hc:o.cls=.type n) (hd:o.data=.fields vs)
    (hn:["enumerate","zip","dict_itemiterator","dict_reverseitemiterator","odict_iterator","itertools.zip_longest","itertools.pairwise"].contains n=false) (hQ:Q () s):aQ M A (zQ tg (.ref it) u) Q E s:=by
  unfold zQ
  cases tg<;>first
    | exact aw hQ
    | (cases u<;>first
        | exact aw hQ
        | (refine af (Vh ho ?_)
           rw [hc,hd]
           show aQ M A (if (["enumerate","zip","dict_itemiterator","dict_reverseitemiterator","odict_iterator","itertools.zip_longest","itertools.pairwise"].contains n && vs[0]? == some (cq _))=true then _ else _) Q E s
           rw [if_neg (by intro h;rw [hn,nA] at h;cases h)]
           exact aw hQ))
def TM (K:aa) (a:ai):It :=
 ⟨λi H=>∃ xs x,cW K H a xs/\xs[i]?=some x,λi H x H'=>H'=H/\∀ xs,cW K H a xs->xs[i]?=some x,λi H=>∃ xs,cW K H a xs/\xs.length<=i⟩
def Itt (K:aa) (a:ai):It :=
 ⟨λi H=>∃ xs x,kU K H a xs/\xs[i]?=some x,λi H x H'=>H'=H/\∀ xs,kU K H a xs->xs[i]?=some x,λi H=>∃ xs,kU K H a xs/\xs.length<=i⟩
def Itr (lo:Int) (n:Nat):It:=⟨λi _=>i<n,λi H x H'=>H'=H/\x=.int (lo+i),λi _=>n<=i⟩
theorem TN (a it:ai):Pq P w K tg (TM K a) [it] it (λi h=>h.IsListIter it a i) where
 mem:=by simp
 obj:=λi h st b hb=>by
  have e:b=it:=by simpa using hb
  subst e;obtain ⟨o,e,c,d⟩:=st;exact ⟨o,e,λv z=>by rw [d] at z;cases z⟩
 keep:=λi h h' st k=>st.at λo e=>k it (by simp) o e
 item:=by
  intro X hP hw hK hc i pins s Z H E I hf st hg;subst hP hw hK;obtain ⟨xs,x,hq,hx⟩:=hg;obtain ⟨its,rv,p,hz⟩:=I.list hq;obtain ⟨u,hu,ru⟩:=rv.get hx;obtain ⟨f0,f1,f2,f3,f4,f5⟩:=hf it (by simp);refine wpAny_pyNext_list_item st p.isList (x:=u) (by simpa using hu) λh' st' sb=>?_;have I1:Inv X pins Z H { s with heap:=h' }:=I.turned (t':=s.toks) (λb o hb e=>(sb.2 b hb).trans e) f0 f1 f3 f4 f5;obtain ⟨o,e,c,d⟩:=id st';exact ⟨u,rfl,Ib (s:={ s with heap:=h' }) e c d (by decide) ⟨x,H,I1,ru,⟨rfl,λys hy=>by rw [I.YK hy hq];exact hx⟩,st',λb hb=>(hf b hb).1⟩⟩
 done:=by
  intro X hP hw hK hc i pins s Z H E I hf st hg;subst hP hw hK;obtain ⟨xs,hq,hx⟩:=hg;obtain ⟨its,rv,p,hz⟩:=I.list hq;obtain ⟨f0,f1,f2,f3,f4,f5⟩:=hf it (by simp);have hl:=rv.length
  exact wpAny_pyNext_list_end (I.ok.hd hc) st p.isList (by simp;lia) λh' eb=>⟨rfl,I.turned (t':=s.toks) (λb o hb e=>eb b o hb e) f0 f1 f3 f4 f5⟩
 self:=λ_ _ _ _ _ st h=>wpAny_pyIter_listiter st h
theorem Pu (a it:ai):Pq P w K tg (Itt K a) [it] it (λi h=>h.IsTupleIter it a i) where
 mem:=by simp
 obj:=λi h st b hb=>by
  have e:b=it:=by simpa using hb
  subst e;obtain ⟨o,e,c,d⟩:=st;exact ⟨o,e,λv z=>by rw [d] at z;cases z⟩
 keep:=λi h h' st k=>st.at λo e=>k it (by simp) o e
 item:=by
  intro X hP hw hK hc i pins s Z H E I hf st hg;subst hP hw hK;obtain ⟨xs,x,hq,hx⟩:=hg;obtain ⟨its,rv,p,hz⟩:=I.tuple hq;obtain ⟨u,hu,ru⟩:=rv.get hx;obtain ⟨f0,f1,f2,f3,f4,f5⟩:=hf it (by simp);refine wpAny_pyNext_tuple_item st (show s.heap.IsTuple a its.toArray from p) (x:=u) (by simpa using hu) λh' st' sb=>?_;have I1:Inv X pins Z H { s with heap:=h' }:=I.turned (t':=s.toks) (λb o hb e=>(sb.2 b hb).trans e) f0 f1 f3 f4 f5;obtain ⟨o,e,c,d⟩:=id st';exact ⟨u,rfl,Ib (s:={ s with heap:=h' }) e c d (by decide) ⟨x,H,I1,ru,⟨rfl,λys hy=>by rw [I.U4 hy hq];exact hx⟩,st',λb hb=>(hf b hb).1⟩⟩
 done:=by
  intro X hP hw hK hc i pins s Z H E I hf st hg;subst hP hw hK;obtain ⟨xs,hq,hx⟩:=hg;obtain ⟨its,rv,p,hz⟩:=I.tuple hq;obtain ⟨f0,f1,f2,f3,f4,f5⟩:=hf it (by simp);have hl:=rv.length
  exact wpAny_pyNext_tuple_end (I.ok.hd hc) st (show s.heap.IsTuple a its.toArray from p) (by simp;lia) λh' eb=>⟨rfl,I.turned (t':=s.toks) (λb o hb e=>eb b o hb e) f0 f1 f3 f4 f5⟩
 self:=λ_ _ _ _ _ st h=>wpAny_pyIter_tupleiter st h
theorem Pw (it:ai) (lo:Int) (n:Nat):Pq P w K tg (Itr lo n) [it] it (λi h=>IsRangeIter h it (lo+(i:Nat)*1) ((n:Int)-(i:Nat)) 1) where
 mem:=by simp
 obj:=λi h st b hb=>by
  have e:b=it:=by simpa using hb
  subst e
  exact ⟨_,st,λv z=>by
   have z':Data.fields _=Data.cell v:=z
   cases z'⟩
 keep:=λi h h' st k=>k it (by simp) _ st
 item:=by
  intro X hP hw hK hc i pins s Z H E I hf st hg;subst hP hw hK;obtain ⟨f0,f1,f2,f3,f4,f5⟩:=hf it (by simp);have W:=Walks.range (prog:=X.prog) (w:=X.w) (I.ok.hd hc) it lo 1 n;refine W.item i s _ _ hg st λv h' tk hv st' kk=>?_;obtain ⟨t,rfl⟩:=hv;have I1:Inv X pins Z H { s with heap:=h',toks:=tk }:=I.turned (λb o hb e=>kk b o (by simpa using hb) e) f0 f1 f3 f4 f5;refine ⟨_,rfl,Ib (s:={ s with heap:=h',toks:=tk }) (n:="range_iterator") st' rfl rfl (by decide) ⟨.int (lo+i),H,I1,⟨t,?_⟩,⟨rfl,rfl⟩,st',λb hb=>(hf b hb).1⟩⟩;rw [Int.mul_one]
 done:=by
  intro X hP hw hK hc i pins s Z H E I hf st hg;subst hP hw hK;obtain ⟨f0,f1,f2,f3,f4,f5⟩:=hf it (by simp)
  exact wpAny_pyNext_range_end (I.ok.hd hc) st (by have:n<=i:=hg;lia) λh' eb=>⟨rfl,I.turned (t':=s.toks) (λb o hb e=>eb b o hb e) f0 f1 f3 f4 f5⟩
 self:=λ_ _ _ _ _ st h=>wpAny_pyIter_rangeiter st h
section
variable {X:Cx}
theorem VY {Z:St}{H:Hp}{R:It->Hp->Prop}{hi:Int}{t u v:Tu}{tk:Nat}(I:Inv X pins Z H s) (h1:-(2^62)<=lo) (h2:lo<2^62) (h3:-(2^62)<=hi) (h4:hi<2^62)
  (q:R (Itr lo (hi-lo).toNat) H):aQ (a7 X.prog X.w) X.A (Vg (.ref s.heap.objs.size)) (PIE X pins Z tg R) E { s with heap:=s.heap.push { cls:=.type "range",data:=.fields #[.int lo t,.int hi u,.int 1 v] },toks:=tk }:=by
 refine wpAny_pyIter_range (IsRange.new ..) (small_one h1 h2 h3 h4) ?_;have I1:Inv X pins Z H { s with heap:=s.heap.push { cls:=.type "range",data:=.fields #[.int lo t,.int hi u,.int 1 v] },toks:=tk }:=I.kept λb o e=>ax _ e
 refine ⟨(s.heap.push { cls:=.type "range",data:=.fields #[.int lo t,.int hi u,.int 1 v] }).objs.size,[(s.heap.push { cls:=.type "range",data:=.fields #[.int lo t,.int hi u,.int 1 v] }).objs.size],_,_,H,rfl,
  I1.kept (t':=tk) λb o e=>ax _ e,Pw _ lo (hi-lo).toNat,?_,λb hb=>?_,q⟩
 .have e1:lo+((0:Nat):Int)*1=lo:=by simp
  have e2:(((hi-lo).toNat:Nat):Int)-((0:Nat):Int)=Builtin.Range.rangeSize lo hi 1:=by rw [rangeSize_one];split<;>lia
  show IsRangeIter _ _ (lo+((0:Nat):Int)*1) ((((hi-lo).toNat:Nat):Int)-((0:Nat):Int)) 1
  rw [e1,e2];exact aP _ rfl
 .have e:b=(s.heap.push { cls:=.type "range",data:=.fields #[.int lo t,.int hi u,.int 1 v] }).objs.size:=by simpa using hb
  subst e;exact I1.OY (aB _) (I1.fh.fresh (aB _))
def Mz (ta:TA):TI:=λZ H R=>ta Z H λvs H1=>∃ j:Int,vs=[.int j]/\-(2^62)<=j/\j<2^62/\R (Itr 0 j.toNat) H1
theorem TQ {a:Expr}{ta:TA}(hg:Gl X "range") (hm:X.mg "range"=none) (ha:PA X [a] ta) (hs:bA [a] X.env=[(false,fw a X.env)]:=by rfl):PI X tg (.Call (.Name "range" p) [a] [] pos) (Mz ta):=by
 intro pins s Z H R I h;refine Call_ (rJ I hg hm boot_range (gS (gN (ha pos pins s Z H _ I h) λus s1 ⟨vs,H1,I1,r1,q1⟩=>?_) hs rfl));obtain ⟨j,e,q1,q2,q⟩:=q1;subst e
 cases r1 with
 | cons r rr =>
  cases rr;obtain ⟨t,rfl⟩:=r;exact call_range_1 (VY I1 (by lia) (by lia) q1 q2 (by simpa using q))
def Dw (wi:TI) (g:TG) (tb:TS):TS:=λD Z H=>wi Z H λJ H1=>∃ W:Nat->Nat->St->Hp->Prop,(∃ m,W 0 m Z H1)/\∀ i m Z H,W i m Z H ->
 (J.stop i H/\D.nx Z H)\/(J.go i H/\∃ N:St->Hp->Prop,(∀ σ' H',N σ' H'->∃ m',m'<m/\W (i+1) m' σ' H')/\∀ x H',J.U8 i H x H'->g x Z H' λσ2 H2=>tb { D with nx:=N,ct:=N,bk:=D.nx } σ2 H2)
def Dy (fp:List ai) (h:cI):List (ai×iW):=fp.filterMap λb=>(h.get? b).map λo=>(b,o)
theorem rL (hb:b∈fp) (e:h.get? b=some o):(b,o)∈Dy fp h:=mB.mpr ⟨b,hb,by rw [e];rfl⟩
theorem TU {p:ai×iW}(hp:p∈Dy fp h):p.1∈fp/\h.get? p.1=some p.2:=by
 obtain ⟨b,hb,e⟩:=mB.mp hp
 cases q:h.get? b with
 | none=>rw [q] at e;cases e
 | some o =>
  rw [q] at e;have e':(b,o)=p:=aL e;subst e';exact ⟨hb,q⟩
theorem Inv.pinned {Z:St}{H:Hp}(I:Inv X pins Z H s) (hf:∀ b∈fp,zX X pins H b) (ho:∀ b∈fp,∃ o,s.heap.get? b=some o/\∀ v,o.data≠.cell v):Inv X (pins++Dy fp s.heap) Z H s :=
 I.Tr λp hp=>(aT.mp hp).elim (λz=>I.pin p (a8 _ z)) λz=>by
  obtain ⟨hb,e⟩:=TU z;obtain ⟨f0,f1,f2,_⟩:=hf p.1 hb;obtain ⟨o,e',d⟩:=ho p.1 hb;rw [e] at e';cases e';exact ⟨e,f0,f1,f2,d⟩
theorem Inv.zx {pl:List (ai×iW)}{Z:St}{H:Hp}(I:Inv X (pins++pl) Z H s):Inv X pins Z H s:=I.Tr λp hp=>I.pin p (a8 _ (bT _ hp))
theorem Px {iter:Expr}{wi:TI}{g:TG}{tb:TS}(hp:PassesOwn (a7 X.prog X.w) X.A X.env X.xe) (hc:X.calm=true) (hi:PI X tg iter wi) (hg:PG X tg g) (hb:LO X body tb)
  (hs:∀ x,vz iter X.env x=pure x:=by intro _;rfl):PS X (.For tg iter body [] pos) (Dw wi g tb):=by
 intro pins s Z H D I h;refine wpAny_For (gN (hi pins s Z H _ I h) λv s1 h1=>gN h1 λitv s2 h2=>?_) hs;obtain ⟨it,fp,tn,J,H2,e,I2,T,st2,f2,W,⟨m0,w0⟩,turn⟩:=h2;subst e
 -- what stays true of the iterator's objects through the VZ
 have stat:∀ {H':Hp},(∀ b∈fp,H' b=none)->∀ b∈fp,zX X pins H' b:=λhn b hb=>⟨hn b hb,(f2 b hb).2⟩
 refine codeAny_forLoop_any (λn s'=>∃ i σ' H',Inv X pins σ' H' s'/\tn i s'.heap/\(∀ b∈fp,H' b=none)/\W i n σ' H') ?_ m0 ⟨0,Z,H2,I2,st2,λb hb=>(f2 b hb).1,w0⟩;rintro n s3 ⟨i,σ3,H3,I3,st3,fr3,w3⟩
 rcases turn i n σ3 H3 w3 with ⟨stop,qn⟩|⟨go,N,hN,step⟩
 .refine kR hp (gN (T.done X rfl rfl rfl hc i pins s3 σ3 H3 X.xe I3 (stat fr3) st3 stop) λr s4 ⟨hr,I4⟩=>?_);subst hr;exact rD ⟨σ3,H3,I4,qn⟩
 .refine kR hp (gN (T.item X rfl rfl rfl hc i pins s3 σ3 H3 X.xe I3 (stat fr3) st3 go) λr s4 ⟨u,hr,h4⟩=>?_);subst hr;refine kR hp (gN h4 λ_ s5 ⟨x,H5,I5,r5,y5,st5,fr5⟩=>?_);have I5':=I5.pinned (stat fr5) (T.obj _ _ st5);refine kR hp (gN (hg _ s5 σ3 H5 x u _ I5' r5 (step x H5 y5)) λ_ s6 ⟨σ6,H6,I6,q6⟩=>?_);refine kR hp (gN (hb _ s6 σ6 H6 _ I6 q6) λf s7 q7=>?_)
  have again:∀ {σ7:St}{H7:Hp},Inv X (pins++Dy fp s5.heap) σ7 H7 s7->N σ7 H7->∃ m,m<n/\∃ i σ' H',Inv X pins σ' H' s7/\tn i s7.heap/\(∀ b∈fp,H' b=none)/\W i m σ' H':=λ{σ7 H7} I7 n7=>by
   obtain ⟨m',hm,w7⟩:=hN σ7 H7 n7;refine ⟨m',hm,i+1,σ7,H7,I7.zx,T.keep _ _ _ st5 λb hb o e=>(I7.pin (b,o) (a8 _ (a8 _ (rL hb e)))).1,λb hb=>?_,w7⟩;obtain ⟨o,e,d⟩:=T.obj _ _ st5 b hb;exact (I7.pin (b,o) (a8 _ (a8 _ (rL hb e)))).2.1
  cases f with
  | next=>obtain ⟨σ7,H7,I7,n7⟩:=q7;exact again I7 n7
  | cont=>obtain ⟨σ7,H7,I7,n7⟩:=q7;exact again I7 n7
  | brk=>obtain ⟨σ7,H7,I7,q7⟩:=q7;exact ⟨σ7,H7,I7.zx,q7⟩
  | ret v=>obtain ⟨x7,σ7,H7,I7,r7,q7⟩:=q7;exact ⟨x7,σ7,H7,I7.zx,r7,q7⟩
end
theorem oR {xs:List V}{g:TG}{tb:TS}{D:vH}{Z:St}{H:Hp}(Pv:Nat->St->Hp->Prop) (h0:Pv 0 Z H) (hl:∀ i Z H,i<=xs.length->Pv i Z H->cW K H a xs)
  (hs:∀ i x Z H,xs[i]?=some x->Pv i Z H->g x Z H λσ2 H2=>tb { D with nx:=Pv (i+1),ct:=Pv (i+1),bk:=D.nx } σ2 H2) (hd:∀ Z H,Pv xs.length Z H->D.nx Z H) :
  ∃ W:Nat->Nat->St->Hp->Prop,(∃ m,W 0 m Z H)/\∀ i m Z H,W i m Z H ->
   ((TM K a).stop i H/\D.nx Z H)\/((TM K a).go i H/\∃ N:St->Hp->Prop,(∀ σ' H',N σ' H'->∃ m',m'<m/\W (i+1) m' σ' H')/\∀ x H',(TM K a).U8 i H x H'->g x Z H' λσ2 H2=>tb { D with nx:=N,ct:=N,bk:=D.nx } σ2 H2):=by
 refine ⟨λi m Z H=>m=xs.length-i/\i<=xs.length/\Pv i Z H,⟨xs.length,by simp,bC _,h0⟩,?_⟩;rintro i m Z H ⟨rfl,hi,p⟩;have q:=hl i Z H hi p
 by_cases hlt:i<xs.length
 .refine .inr ⟨⟨xs,xs[i],q,by simp [hlt]⟩,Pv (i+1),λσ' H' p'=>⟨xs.length-(i+1),by lia,rfl,hlt,p'⟩,λx H' y=>?_⟩;obtain ⟨e,y⟩:=y;subst e;exact hs i x Z _ (y xs q) p
 .have e:i=xs.length:=by lia
  subst e;exact .inl ⟨⟨xs,q,aB _⟩,hd Z H p⟩
theorem Zs {xs:List V}{g:TG}{tb:TS}{D:vH}{Z:St}{H:Hp}(Pv:Nat->St->Hp->Prop) (h0:Pv 0 Z H) (hl:∀ i Z H,i<=xs.length->Pv i Z H->kU K H a xs)
  (hs:∀ i x Z H,xs[i]?=some x->Pv i Z H->g x Z H λσ2 H2=>tb { D with nx:=Pv (i+1),ct:=Pv (i+1),bk:=D.nx } σ2 H2) (hd:∀ Z H,Pv xs.length Z H->D.nx Z H) :
  ∃ W:Nat->Nat->St->Hp->Prop,(∃ m,W 0 m Z H)/\∀ i m Z H,W i m Z H ->
   ((Itt K a).stop i H/\D.nx Z H)\/((Itt K a).go i H/\∃ N:St->Hp->Prop,(∀ σ' H',N σ' H'->∃ m',m'<m/\W (i+1) m' σ' H')/\∀ x H',(Itt K a).U8 i H x H'->g x Z H' λσ2 H2=>tb { D with nx:=N,ct:=N,bk:=D.nx } σ2 H2):=by
 refine ⟨λi m Z H=>m=xs.length-i/\i<=xs.length/\Pv i Z H,⟨xs.length,by simp,bC _,h0⟩,?_⟩;rintro i m Z H ⟨rfl,hi,p⟩;have q:=hl i Z H hi p
 by_cases hlt:i<xs.length
 .refine .inr ⟨⟨xs,xs[i],q,by simp [hlt]⟩,Pv (i+1),λσ' H' p'=>⟨xs.length-(i+1),by lia,rfl,hlt,p'⟩,λx H' y=>?_⟩;obtain ⟨e,y⟩:=y;subst e;exact hs i x Z _ (y xs q) p
 .have e:i=xs.length:=by lia
  subst e;exact .inl ⟨⟨xs,q,aB _⟩,hd Z H p⟩
theorem TV {g:TG}{tb:TS}{D:vH}{Z:St}{H:Hp}(Pv:Nat->St->Hp->Prop) (h0:Pv 0 Z H)
  (hs:∀ i Z H,i<n->Pv i Z H->g (.int (lo+i)) Z H λσ2 H2=>tb { D with nx:=Pv (i+1),ct:=Pv (i+1),bk:=D.nx } σ2 H2) (hd:∀ Z H,Pv n Z H->D.nx Z H) :
  ∃ W:Nat->Nat->St->Hp->Prop,(∃ m,W 0 m Z H)/\∀ i m Z H,W i m Z H ->
   ((Itr lo n).stop i H/\D.nx Z H)\/((Itr lo n).go i H/\∃ N:St->Hp->Prop,(∀ σ' H',N σ' H'->∃ m',m'<m/\W (i+1) m' σ' H')/\∀ x H',(Itr lo n).U8 i H x H'->g x Z H' λσ2 H2=>tb { D with nx:=N,ct:=N,bk:=D.nx } σ2 H2):=by
 refine ⟨λi m Z H=>m=n-i/\i<=n/\Pv i Z H,⟨n,by simp,bC _,h0⟩,?_⟩;rintro i m Z H ⟨rfl,hi,p⟩
 by_cases hlt:i<n
 .refine .inr ⟨hlt,Pv (i+1),λσ' H' p'=>⟨n-(i+1),by lia,rfl,hlt,p'⟩,λx H' y=>?_⟩;obtain ⟨e,y⟩:=y;subst e y;exact hs i Z _ hlt p
 .have e:i=n:=by lia
  subst e;exact .inl ⟨aB _,hd Z H p⟩
abbrev R2:=V->V->Hp->VK->Prop
def qR (X:Cx) (f:au->au->R5 au) (r:R2):Prop :=
 ∀ (pins:List (ai×iW)) (s:aC) (Z:St) (H:Hp) (x y:V) (v u:au) (Q:VK),Inv X pins Z H s->RelV x v->RelV y u->r x y H Q ->
  aQ (a7 X.prog X.w) X.A (f v u) (EP X pins Z Q) X.xe s
def UnR (X:Cx) (f:au->R5 au) (r:V->Hp->VK->Prop):Prop :=
 ∀ (pins:List (ai×iW)) (s:aC) (Z:St) (H:Hp) (x:V) (v:au) (Q:VK),Inv X pins Z H s->RelV x v->r x H Q ->
  aQ (a7 X.prog X.w) X.A (f v) (EP X pins Z Q) X.xe s
def lM (X:Cx) (f:au) (r:List V->Hp->VK->Prop):Prop :=
 ∀ (pins:List (ai×iW)) (s:aC) (Z:St) (H:Hp) (xs:List V) (us:List au) (Q:VK),Inv X pins Z H s->Vals xs us->r xs H Q ->
  aQ (a7 X.prog X.w) X.A (call f us) (EP X pins Z Q) X.xe s
def TruR (X:Cx) (r:V->Hp->(Bool->Hp->Prop)->Prop):Prop :=
 ∀ (pins:List (ai×iW)) (s:aC) (Z:St) (H:Hp) (x:V) (v:au) (Q:Bool->Hp->Prop),Inv X pins Z H s->RelV x v->r x H Q ->
  aQ (a7 X.prog X.w) X.A (truthy v) (TP X pins Z Q) X.xe s
def bU (r:R2) (ta tb:TE):TE:=λZ H Q=>ta Z H λx H1=>tb Z H1 λy H2=>r x y H2 Q
def tUn (r:V->Hp->VK->Prop) (ta:TE):TE:=λZ H Q=>ta Z H λx H1=>r x H1 Q
def rI (C:Int->Int->Prop) (g:Int->Int->V):R2:=λx y H Q=>∃ i j,x=.int i/\y=.int j/\C i j/\Q (g i j) H
def tG (g:Int->Int->V):R2:=λx y H Q=>∃ i j,x=.int i/\y=.int j/\Q (g i j) H
def rU (g:Int->V):V->Hp->VK->Prop:=λx H Q=>∃ i,x=.int i/\Q (g i) H
section
variable {X:Cx}{a b:Expr}{ta tb tc:TE}
theorem Zu (ha:PE X a ta) (hb:PE X b tb) {pins:List (ai×iW)}{s:aC}{Z:St}{H:Hp}{R:V->V->Hp->Prop}(I:Inv X pins Z H s)
  (h:ta Z H λx H1=>tb Z H1 λy H2=>R x y H2) {Q:au->aC->Prop}{f:au->au->R5 au}
  (hf:∀ v u s2 x y H2,Inv X pins Z H2 s2->RelV x v->RelV y u->R x y H2->aQ (a7 X.prog X.w) X.A (f v u) Q X.xe s2) :
  aQ (a7 X.prog X.w) X.A (fw a X.env) (λv s₁=>aQ (a7 X.prog X.w) X.A (fw b X.env) (λu s₂=>aQ (a7 X.prog X.w) X.A (f v u) Q X.xe s₂) X.xe s₁) X.xe s:=by
 refine gN (ha pins s Z H _ I h) λv s1 ⟨x,H1,I1,r1,q1⟩=>?_;refine gN (hb pins s1 Z H1 _ I1 q1) λu s2 ⟨y,H2,I2,r2,q2⟩=>?_;exact hf v u s2 x y H2 I2 r1 r2 q2
theorem Sg {op:LQ}{r:R2}(ho:qR X (qN op) r) (ha:PE X a ta) (hb:PE X b tb):PE X (.BinOp a op b pos) (bU r ta tb):=by
 intro pins s Z H Q I h;exact wpAny_BinOp (Zu ha hb I h λv u s2 x y H2 I2 rx ry q=>ho pins s2 Z H2 x y v u Q I2 rx ry q)
theorem aba {op:UnaryOp}{r:V->Hp->VK->Prop}(ho:UnR X (unaryOp op) r) (ha:PE X a ta):PE X (.UnaryOp op a pos) (tUn r ta):=by
 intro pins s Z H Q I h;exact UnaryOp_ (gN (ha pins s Z H _ I h) λv s1 ⟨x,H1,I1,r1,q1⟩=>ho pins s1 Z H1 x v Q I1 r1 q1)
theorem opI {f:au->au->R5 au}{C:Int->Int->Prop}{g:Int->Int->Int}
  (rule:∀ (i j:Int) (t u:Tu) (s:aC) (Q:au->aC->Prop) (E:au->aC->Prop),C i j->Q (.int (g i j) s.toks) { s with toks:=s.toks+1 }->aQ (a7 X.prog X.w) X.A (f (.int i t) (.int j u)) Q E s) :
  qR X f (rI C λi j=>.int (g i j)):=by
 intro pins s Z H x y v u Q I rx ry h;obtain ⟨i,j,rfl,rfl,hc,q⟩:=h;obtain ⟨t,rfl⟩:=rx;obtain ⟨t',rfl⟩:=ry;exact rule i j t t' s _ _ hc ⟨.int (g i j),H,I.tok _,⟨_,rfl⟩,q⟩
theorem Zv {f:au->au->R5 au}{g:Int->Int->Int}
  (rule:∀ (i j:Int) (t u:Tu) (s:aC) (Q:au->aC->Prop) (E:au->aC->Prop),Q (.int (g i j) s.toks) { s with toks:=s.toks+1 }->aQ (a7 X.prog X.w) X.A (f (.int i t) (.int j u)) Q E s) :
  qR X f (tG λi j=>.int (g i j)):=by
 intro pins s Z H x y v u Q I rx ry h;obtain ⟨i,j,rfl,rfl,q⟩:=h;obtain ⟨t,rfl⟩:=rx;obtain ⟨t',rfl⟩:=ry;exact rule i j t t' s _ _ ⟨.int (g i j),H,I.tok _,⟨_,rfl⟩,q⟩
theorem Zw {f:au->au->R5 au}{g:Int->Int->Bool}
  (rule:∀ (i j:Int) (t u:Tu) (s:aC) (Q:au->aC->Prop) (E:au->aC->Prop),Q (.bool (g i j)) s->aQ (a7 X.prog X.w) X.A (f (.int i t) (.int j u)) Q E s) :
  qR X f (tG λi j=>.bl (g i j)):=by
 intro pins s Z H x y v u Q I rx ry h;obtain ⟨i,j,rfl,rfl,q⟩:=h;obtain ⟨t,rfl⟩:=rx;obtain ⟨t',rfl⟩:=ry;exact rule i j t t' s _ _ ⟨.bl (g i j),H,I,rfl,q⟩
def Ce (i j:Int):Prop:=0<j/\j<1073741824
def Va (i j:Int):Prop:=(-(2^64)<i/\i<2^64)\/(-(2^64)<j/\j<2^64)
theorem Va.ok {i:Int}(h:Va i j):IntMulOk i j:=by
 rcases h with ⟨h1,h2⟩|⟨h1,h2⟩
 .exact .of_left (intBits_le_64 h1 h2)
 .exact .of_right (intBits_le_64 h1 h2)
theorem acj:qR X (qN .Add) (tG λi j=>.int (i+j)):=Zv λ_ _ _ _ _ _ _ q=>add_int q
theorem V0:qR X (qN .Sub) (tG λi j=>.int (i-j)):=Zv λ_ _ _ _ _ _ _ q=>sub_int q
theorem ack:qR X (qN .Mult) (rI Va λi j=>.int (i*j)):=opI λ_ _ _ _ _ _ _ hc q=>mul_int q hc.ok
theorem Zx:qR X (qN .FloorDiv) (rI Ce λi j=>.int (i/j)):=opI λi j _ _ _ _ _ hc q=>by
 have h1:(0:Int)<j:=hc.1;have h2:j<1073741824:=hc.2;exact floordiv_int (by lia) (by rw [Int.fdiv_eq_ediv_of_nonneg i (by lia)];exact q) (.inl (PyProof.noPylong_small (by lia)))
theorem acm:qR X (qN .Mod) (rI (λ_ j=>0<j) λi j=>.int (i%j)):=opI λi j _ _ _ _ _ hc q=>by
 have h1:(0:Int)<j:=hc;exact mod_int' (by lia) (by rw [Int.fmod_eq_emod_of_nonneg i (by lia)];exact q)
theorem Zy:qR X (Dl .Add) (tG λi j=>.int (i+j)):=Zv λ_ _ _ _ _ _ _ q=>abT q
theorem Zz:qR X (Dl .Sub) (tG λi j=>.int (i-j)):=Zv λ_ _ _ _ _ _ _ q=>isub_int q
theorem ZA:qR X (Dl .Mult) (rI Va λi j=>.int (i*j)):=opI λ_ _ _ _ _ _ _ hc q=>imul_int q hc.ok
theorem unI {f:au->R5 au}{g:Int->Int}
  (rule:∀ (i:Int) (t:Tu) (s:aC) (Q:au->aC->Prop) (E:au->aC->Prop),Q (.int (g i) s.toks) { s with toks:=s.toks+1 }->aQ (a7 X.prog X.w) X.A (f (.int i t)) Q E s) :
  UnR X f (rU λi=>.int (g i)):=by
 intro pins s Z H x v Q I rx h;obtain ⟨i,rfl,q⟩:=h;obtain ⟨t,rfl⟩:=rx;exact rule i t s _ _ ⟨.int (g i),H,I.tok _,⟨_,rfl⟩,q⟩
theorem V1:UnR X (unaryOp .USub) (rU λi=>.int (-i)):=unI λ_ _ _ _ _ q=>neg_int q
end
def scal:V->V->Bool
 | .non,.non=>true | .non,.int _=>true | .int _,.non=>true | .non,.bl _=>true | .bl _,.non=>true | .non,.str _=>true | .str _,.non=>true
 | .int _,.int _=>true | .bl _,.bl _=>true | .str _,.str _=>true | .byt _,.byt _=>true
 | .int _,.str _=>true | .str _,.int _=>true | .bl _,.str _=>true | .str _,.bl _=>true
 | _,_=>false
def rEq:R2:=λx y H Q=>scal x y=true/\Q (.bl (decide (x=y))) H
def rNe:R2:=λx y H Q=>scal x y=true/\Q (.bl (!decide (x=y))) H
theorem Sh {i:Int}:decide (V.int i=V.int j)=(i == j):=by
 rw [j8];simp
theorem V2 {i j:Bool}:decide (V.bl i=V.bl j)=(i == j):=by
 rw [j8];simp
theorem Si {i j:aY}:decide (V.str i=V.str j)=(i == j):=by
 rw [j8];simp
theorem Sj {i j:Array UInt8}:decide (V.byt i=V.byt j)=(i.toList == j.toList):=by
 rw [j8];cases i;cases j;simp
section
variable {X:Cx}{a b:Expr}{ta tb tc:TE}
theorem eZ {Z:St}{H:Hp}{Q:VK}{k k':Bool}(I:Inv X pins Z H s) (q:Q (.bl k) H) (e:k=k'):EP X pins Z Q (.bool k') s:=by
 subst e;exact ⟨.bl k,H,I,rfl,q⟩
theorem aeh:qR X (dh .Eq) rEq:=by
 intro pins s Z H x y v u Q I rx ry h;obtain ⟨hs,q⟩:=h
 cases x with
 | non =>
  cases rx
  cases y with
  | non=>cases ry;exact PySem.EqNone.eq_none_none (eZ I q (by simp))
  | bl j=>cases ry;exact PySem.EqNone.eq_none_bool (eZ I q (by simp))
  | int j=>obtain ⟨t',rfl⟩:=ry;exact PySem.EqNone.eq_none_int (eZ I q (by simp))
  | str j=>obtain ⟨t',rfl⟩:=ry;exact PySem.EqNone.eq_none_str (eZ I q (by simp))
  | _=>exact absurd (show false=true from hs) bG
 | bl i =>
  cases rx
  cases y with
  | non=>cases ry;exact PySem.EqNone.eq_bool_none (eZ I q (by simp))
  | bl j=>cases ry;exact eq_bool (eZ I q V2)
  | str j=>obtain ⟨t',rfl⟩:=ry;exact PySem.EqMixed.eq_bool_str (eZ I q (by simp))
  | _=>exact absurd (show false=true from hs) bG
 | int i =>
  obtain ⟨t,rfl⟩:=rx
  cases y with
  | non=>cases ry;exact PySem.EqNone.eq_int_none (eZ I q (by simp))
  | int j=>obtain ⟨t',rfl⟩:=ry;exact eq_int (eZ I q Sh)
  | str j=>obtain ⟨t',rfl⟩:=ry;exact PySem.EqMixed.eq_int_str (eZ I q (by simp))
  | _=>exact absurd (show false=true from hs) bG
 | str i =>
  obtain ⟨t,rfl⟩:=rx
  cases y with
  | non=>cases ry;exact PySem.EqNone.eq_str_none (eZ I q (by simp))
  | bl j=>cases ry;exact PySem.EqMixed.eq_str_bool (eZ I q (by simp))
  | int j=>obtain ⟨t',rfl⟩:=ry;exact PySem.EqMixed.eq_str_int (eZ I q (by simp))
  | str j=>obtain ⟨t',rfl⟩:=ry;exact eq_str (eZ I q Si)
  | _=>exact absurd (show false=true from hs) bG
 | byt i =>
  obtain ⟨t,rfl⟩:=rx
  cases y with
  | byt j=>obtain ⟨t',rfl⟩:=ry;exact PySem.W.eq_bytes (eZ I q Sj)
  | _=>exact absurd (show false=true from hs) bG
 | _=>cases y<;>exact absurd (show false=true from hs) bG
theorem aei:qR X (dh .NotEq) rNe:=by
 intro pins s Z H x y v u Q I rx ry h;obtain ⟨hs,q⟩:=h
 cases x with
 | non =>
  cases rx
  cases y with
  | non=>cases ry;exact PySem.EqNone.ne_none_none (eZ I q (by simp))
  | bl j=>cases ry;exact PySem.EqNone.ne_none_bool (eZ I q (by simp))
  | int j=>obtain ⟨t',rfl⟩:=ry;exact PySem.EqNone.ne_none_int (eZ I q (by simp))
  | str j=>obtain ⟨t',rfl⟩:=ry;exact PySem.EqNone.ne_none_str (eZ I q (by simp))
  | _=>exact absurd (show false=true from hs) bG
 | bl i =>
  cases rx
  cases y with
  | non=>cases ry;exact PySem.EqNone.ne_bool_none (eZ I q (by simp))
  | bl j=>cases ry;exact ne_bool (eZ I q (congrArg not V2))
  | str j=>obtain ⟨t',rfl⟩:=ry;exact PySem.EqMixed.ne_bool_str (eZ I q (by simp))
  | _=>exact absurd (show false=true from hs) bG
 | int i =>
  obtain ⟨t,rfl⟩:=rx
  cases y with
  | non=>cases ry;exact PySem.EqNone.ne_int_none (eZ I q (by simp))
  | int j=>obtain ⟨t',rfl⟩:=ry;exact ne_int (eZ I q (congrArg not Sh))
  | str j=>obtain ⟨t',rfl⟩:=ry;exact PySem.EqMixed.ne_int_str (eZ I q (by simp))
  | _=>exact absurd (show false=true from hs) bG
 | str i =>
  obtain ⟨t,rfl⟩:=rx
  cases y with
  | non=>cases ry;exact PySem.EqNone.ne_str_none (eZ I q (by simp))
  | bl j=>cases ry;exact PySem.EqMixed.ne_str_bool (eZ I q (by simp))
  | int j=>obtain ⟨t',rfl⟩:=ry;exact PySem.EqMixed.ne_str_int (eZ I q (by simp))
  | str j=>obtain ⟨t',rfl⟩:=ry;exact ne_str (eZ I q (congrArg not Si))
  | _=>exact absurd (show false=true from hs) bG
 | byt i =>
  obtain ⟨t,rfl⟩:=rx
  cases y with
  | byt j=>obtain ⟨t',rfl⟩:=ry;exact PySem.W.ne_bytes (eZ I q (congrArg not Sj))
  | _=>exact absurd (show false=true from hs) bG
 | _=>cases y<;>exact absurd (show false=true from hs) bG
theorem abb:qR X (dh .Lt) (tG λi j=>.bl (decide (i<j))):=Zw λ_ _ _ _ _ _ _ q=>Y9 q
theorem Ic:qR X (dh .LtE) (tG λi j=>.bl (decide (i<=j))):=Zw λ_ _ _ _ _ _ _ q=>le_int q
theorem abc:qR X (dh .Gt) (tG λi j=>.bl (decide (j<i))):=Zw λ_ _ _ _ _ _ _ q=>gt_int q
theorem aej:qR X (dh .GtE) (tG λi j=>.bl (decide (j<=i))):=Zw λ_ _ _ _ _ _ _ q=>ge_int q
theorem TX:qR X (dh .In) (λx y H Q=>∃ i j,x=.str i/\y=.str j/\Q (.bl (!(Gq j i 0 j.length 1).isEmpty)) H):=by
 intro pins s Z H x y v u Q I rx ry h;obtain ⟨i,j,rfl,rfl,q⟩:=h;obtain ⟨t,rfl⟩:=rx;obtain ⟨t',rfl⟩:=ry;exact in_str (eZ I q rfl)
theorem qR.or {f:au->au->R5 au}{r r':R2}(h:qR X f r) (h':qR X f r'):qR X f (λx y H Q=>r x y H Q\/r' x y H Q):=by
 intro pins s Z H x y v u Q I rx ry q
 rcases q with q|q
 .exact h pins s Z H x y v u Q I rx ry q
 .exact h' pins s Z H x y v u Q I rx ry q
theorem kO (b:Expr) {op:CmpOp}(h:op≠.In:=by decide) (h2:op≠.NotIn:=by decide):kW op b=false:=by
 have e1:(op == CmpOp.In)=false:=by cases op<;>first|rfl|exact absurd rfl h
 have e2:(op == CmpOp.NotIn)=false:=by cases op<;>first|rfl|exact absurd rfl h2
 cases b<;>simp [kW,e1,e2]
theorem Ju {r:R2}(ho:qR X (dh op) r) (ha:PE X a ta) (hb:PE X b tb) (hm:kW op b=false):PE X (.Compare a [op] [b] pos) (bU r ta tb):=by
 intro pins s Z H Q I h;exact wpAny_Compare1 (Zu ha hb I h λv u s2 x y H2 I2 rx ry q=>ho pins s2 Z H2 x y v u Q I2 rx ry q) hm
def cu (t:TE):TT:=λZ H Q=>t Z H λx H'=>∃ k,x=.bl k/\Q k H'
theorem iL {r:R2}(ho:qR X (dh op) r) (ha:PE X a ta) (hb:PE X b tb) (hm:kW op b=false):PT X (.Compare a [op] [b] pos) (cu (bU r ta tb)):=by
 intro pins s Z H Q I h
 refine abS (gN (ha pins s Z H _ I h) λv s1 ⟨x,H1,I1,r1,q1⟩=>gN (hb pins s1 Z H1 _ I1 q1) λu s2 ⟨y,H2,I2,r2,q2⟩ =>
  gN (ho pins s2 Z H2 x y v u _ I2 r1 r2 q2) λc s3 ⟨z,H3,I3,r3,k,e,q3⟩=>?_) hm
 subst e;cases r3;exact jx ⟨H3,I3,q3⟩
def Dz (r r':R2) (ta tb tc:TE):TE:=λZ H Q=>ta Z H λx H1=>tb Z H1 λy H2=>r x y H2 λz H3=>∃ k,z=.bl k /\
 (if k=true then tc Z H3 λw' H4=>r' y w' H4 Q else Q (.bl false) H3)
theorem DA {op':CmpOp}{r r':R2}(ho:qR X (dh op) r) (ho':qR X (dh op') r') (ha:PE X a ta) (hb:PE X b tb) (hc:PE X c tc)
  (hm:lastMarks [op,op'] [b,c]=false:=by with_unfolding_all rfl):PE X (.Compare a [op,op'] [b,c] pos) (Dz r r' ta tb tc):=by
 intro pins s Z H Q I h
 refine Compare_chain (gN (ha pins s Z H _ I h) λv s1 ⟨x,H1,I1,r1,q1⟩=>chain_link (gN (hb pins s1 Z H1 _ I1 q1) λu s2 ⟨y,H2,I2,r2,q2⟩ =>
  gN (ho pins s2 Z H2 x y v u _ I2 r1 r2 q2) λd s3 ⟨z,H3,I3,r3,k,e,q3⟩=>?_)) hm
 subst e;cases r3;refine jx ?_
 cases k with
 | false=>exact ite_ff ⟨.bl false,H3,I3,rfl,q3⟩
 | true=>exact ite_tt (chain_last (gN (hc pins s3 Z H3 _ I3 q3) λw' s4 ⟨z',H4,I4,r4,q4⟩=>ho' pins s4 Z H4 y z' u w' Q I4 r2 r4 q4))
def ZC (K:aa) (x:V) (H:Hp) (k:Bool):Prop :=
 match x with
 | .non=>k=false
 | .bl b=>k=b
 | .int i=>k=(i != 0)
 | .str y=>y.length<=aZ/\k=((y.length:Int) != 0)
 | .byt y=>y.size<=aZ/\k=((y.size:Int) != 0)
 | .ref p=>(∃ xs,cW K H p xs/\k=!xs.isEmpty)\/(∃ xs,kU K H p xs/\k=!xs.isEmpty)\/∃ kvs,H p=some (.dK kvs)/\k=!kvs.isEmpty
 | _=>False
theorem Py {κ:Type} {kvs:List (κ×V)}{vs:List (κ×au)}(r:KV kvs vs):(!vs.isEmpty)=!kvs.isEmpty:=by
 cases r<;>rfl
theorem DB {xs:List V}{its:List au}(r:Vals xs its):(!its.toArray.isEmpty)=!xs.isEmpty:=by
 cases r<;>simp
theorem tY:(aZ:Nat)<2^63:=by rw [vA];decide
theorem acn:TruR X (λx H Q=>∃ k,ZC X.K x H k/\Q k H):=by
 intro pins s Z H x v Q I rx h;obtain ⟨k,e,q⟩:=h;have hl:=tY;have hs:aZ=16777216:=vA
 cases x with
 | non =>
  cases rx;have e':k=false:=e;subst e'
  exact truthy_none ⟨H,I,q⟩
 | bl b =>
  cases rx;have e':k=b:=e;subst e'
  exact jx ⟨H,I,q⟩
 | int i =>
  obtain ⟨t,rfl⟩:=rx;have e':k=(i != 0):=e;subst e'
  exact PySem.P.truthy_int ⟨H,I,q⟩
 | str y =>
  obtain ⟨t,rfl⟩:=rx;obtain ⟨hy,e'⟩:y.length<=aZ/\k=((y.length:Int) != 0):=e;subst e'
  exact PySem.P.truthy_str (by lia) ⟨H,I.tok _,q⟩
 | byt y =>
  obtain ⟨t,rfl⟩:=rx;obtain ⟨hy,e'⟩:y.size<=aZ/\k=((y.size:Int) != 0):=e;subst e'
  exact PySem.W.truthy_bytes (by lia) ⟨H,I.tok _,q⟩
 | ref p =>
  cases rx;have e':(∃ xs,cW X.K H p xs/\k=!xs.isEmpty)\/(∃ xs,kU X.K H p xs/\k=!xs.isEmpty)\/∃ kvs,H p=some (.dK kvs)/\k=!kvs.isEmpty:=e
  rcases e' with ⟨xs,hx,e'⟩|⟨xs,hx,e'⟩|⟨kvs,hx,e'⟩
  .subst e';obtain ⟨its,r,pl,hz⟩:=I.list hx;have hlen:=r.length;exact wpAny_truthy_list pl.isList (by simp only [bc];lia) ⟨H,I.tok _,by rw [DB r];exact q⟩
  .subst e';obtain ⟨its,r,pl,hz⟩:=I.tuple hx;have hlen:=r.length;exact truthy_tuple pl (by simp only [bc];lia) ⟨H,I.tok _,by rw [DB r];exact q⟩
  .subst e';obtain ⟨hz,hS,vs,r,m⟩:kvs.length<=aZ/\(p == kF)=false/\∃ vs,KV kvs vs/\s.heap.DictOf (fY X.prog X.w) p vs:=I.fh p _ hx;have hlen:kvs.length=vs.length:=zC r
   exact wpAny_truthy_dict hS m (by lia) ⟨H,I.tok _,by rw [Py r];exact q⟩
 | _=>exact (show False from e).elim
theorem V3 (ha:PE X a ta) (he:∀ whole,isTrue a X.env whole=(do let v ← whole;zF a.pos;ml [v] (truthy v))) :
  PT X a (λZ H Q=>ta Z H λx H'=>∃ k,ZC X.K x H' k/\Q k H'):=by
 intro pins s Z H Q I h;exact isTrue_plain (gN (ha pins s Z H _ I h) λv s1 ⟨x,H1,I1,r1,q1⟩=>acn pins s1 Z H1 x v Q I1 r1 q1) (he _)
theorem Pz:qR X (qN .Add) (λx y H Q=>∃ i j,x=.str i/\y=.str j/\i.length+j.length<=aZ/\Q (.str (i++j)) H):=by
 intro pins s Z H x y v u Q I rx ry h;obtain ⟨i,j,rfl,rfl,hz,q⟩:=h;obtain ⟨t,rfl⟩:=rx;obtain ⟨t',rfl⟩:=ry;exact add_str (λt' tk=>⟨.str (i++j),H,I.tok _,⟨_,rfl⟩,q⟩) hz
def MA (b:Expr):Prop:=∀ o i,subscripted b false o i=operate [o,i] (getItem o i)
theorem MB (ha:PE X a ta) (hb:PE X b tb) (hs:MA b) :
  PE X (.Subscript a b pos) (bU (λx y H Q=>∃ z i c,x=.str z/\y=.int i/\0<=i/\i<2^63/\i<z.length/\z.cps[i.toNat]?=some c/\Q (.str ⟨#[c]⟩) H) ta tb):=by
 intro pins s Z H Q I h;refine Vi (Zu ha hb I h λv u s2 x y H2 I2 rx ry q=>?_);obtain ⟨z,i,c,rfl,rfl,h0,h63,h1,hc,q⟩:=q;obtain ⟨t,rfl⟩:=rx;obtain ⟨t',rfl⟩:=ry;have e:seqIndex? i z.length=some i.toNat:=PySem.StrLaws.seqIndex_nonneg h0 h1
 exact tail_any (typeIs_str s2 z t) slot_str_getitem.lookup (getItem_str (c:=c) (by
  have e1:decide (i < -(2^63:Int))=false:=decide_eq_false (by lia);have e2:decide (i>=2^63)=false:=decide_eq_false (by lia)
  rw [e1,e2]<;>rfl) (by rw [e];exact hc) ⟨.str ⟨#[c]⟩,H2,I2.tok _,⟨_,rfl⟩,q⟩) (hs _ _)
theorem vals1 {x:V}(r:Vals [x] us):∃ u,us=[u]/\RelV x u:=by
 cases r with
 | cons r1 r2=>cases r2;exact ⟨_,rfl,r1⟩
theorem vals2 {x y:V}(r:Vals [x,y] us):∃ u w',us=[u,w']/\RelV x u/\RelV y w':=by
 cases r with
 | cons r1 r2 =>
  cases r2 with
  | cons r3 r4=>cases r4;exact ⟨_,_,rfl,r1,r3⟩
theorem TY (hc:X.calm=true):lM X (.builtin "max") (λxs H Q=>∃ i j,xs=[.int i,.int j]/\Q (.int (if j>i then j else i)) H):=by
 intro pins s Z H xs us Q I r h;obtain ⟨i,j,rfl,q⟩:=h;obtain ⟨u,w',rfl,⟨t,rfl⟩,⟨t',rfl⟩⟩:=vals2 r
 refine max_two_ints (I.ok.hd hc) λh' tk k=>⟨_,H,I.kept k,?_,q⟩
 by_cases hj:j>i
 .rw [if_pos hj,if_pos hj];exact ⟨_,rfl⟩
 .rw [if_neg hj,if_neg hj];exact ⟨_,rfl⟩
theorem TZ (hc:X.calm=true):lM X (.builtin "min") (λxs H Q=>∃ i j,xs=[.int i,.int j]/\Q (.int (if j<i then j else i)) H):=by
 intro pins s Z H xs us Q I r h;obtain ⟨i,j,rfl,q⟩:=h;obtain ⟨u,w',rfl,⟨t,rfl⟩,⟨t',rfl⟩⟩:=vals2 r
 refine min_two_ints (I.ok.hd hc) λh' tk k=>⟨_,H,I.kept k,?_,q⟩
 by_cases hj:j<i
 .rw [if_pos hj,if_pos hj];exact ⟨_,rfl⟩
 .rw [if_neg hj,if_neg hj];exact ⟨_,rfl⟩
theorem Jv:lM X (.type "str") (λxs H Q=>∃ i,xs=[.int i]/\i.natAbs.log2<1920/\Q (.str (toString i)) H):=by
 intro pins s Z H xs us Q I r h;obtain ⟨i,rfl,hz,q⟩:=h;obtain ⟨u,rfl,t,rfl⟩:=vals1 r;exact PySem.P.str_of_int hz ⟨.str _,H,I.tok _,⟨_,rfl⟩,q⟩
end
structure RV (h:cI) (x dx C:ai) (mA:aY->Option au):Prop where
 obj:h.get? x=some (iX C dx)
 ns:h.Ns1 dx mA
 ne:dx≠x
theorem T7 (n:h.Ns1 dx mA):∃ od,h.get? dx=some od/\∀ name,vR name od=some (mA name):=by
 obtain ⟨o,es,ep,ho,hd,hk,_,hm⟩:=n;refine ⟨o,ho,λname=>?_⟩;have e:=hm name;unfold nsFind findBy at e;rw [← Array.find?_toList] at e;unfold vR;rw [hd];dsimp only
 split
 .rename_i y q
  rw [q] at e;exact congrArg some e
 .rename_i q
  rw [q] at e
  have a:es.toList.any (·.refKey)=false:=by
   rw [List.any_eq_false];intro y hy;obtain ⟨z,t,hkey⟩:=hk y (Array.mem_toList_iff.mp hy);simp [DictEntry.refKey,hkey]
  have a':¬ es.toList.any (·.refKey)=true:=by rw [a];exact bG
  rw [if_neg a'];exact congrArg some e
theorem RV.look {x:ai}(I:RV h x dx C mA):∃ od,aaP h x (iX C dx) C (some od)/\∀ name,vR name od=some (mA name) :=
 let ⟨od,ho,hl⟩:=T7 I.ns
 ⟨od,⟨I.obj,rfl,rfl,ho⟩,hl⟩
section
variable {x:ai}
theorem ZD {expr:Bool}(X:K.In s.heap) (I:RV s.heap x dx C mA) (hg:iw K C name=true) (hh:i3 K C=true)
  (ha:bj K (.ref C) name=some none) (hv:mA name=some v) (hv':YU v=true) (h:Q v { s with toks:=s.toks+1 }) :
  aQ (a7 prog w) A (getAttr (.ref x) name expr) Q E s:=by
 obtain ⟨od,J,hl⟩:=I.look;exact PySem.W.get_value X J (xN hg).1 (PySem.W.findObj_own hh ha rfl (by rw [hl,hv])) hv' h
theorem V4 {Q:au×List au->aC->Prop}(X:K.In s.heap) (I:RV s.heap x dx C mA) (hg:iw K C name=true)
  (hf:bj K (.ref C) name=some (some (.ref f))) (ht:tP K (.ref f)=true) (hv:mA name=none) (h:Q (.ref f,[.ref x]) s) :
  aQ (a7 prog w) A (Dm (.ref x) name pl) Q E s:=by
 obtain ⟨od,J,hl⟩:=I.look;exact PySem.W.method_fn X J (xN hg).1 (xN hg).2 hf (beq_iff_eq.mp ht) (by show (vR name od).map (·.isSome)=some false;rw [hl,hv];rfl) h
theorem ZE {ns:List aY}{Q:Unit->aC->Prop}(X:K.In s.heap) (I:RV s.heap x dx C mA)
  (hs:bj K (.ref C) "__setattr__"=some (some (.builtin "object.__setattr__"))) (hp:j9 K C=true) (ht:Ge K C name=some none) (hh:i3 K C=true)
  (hw:R7 mA ns) (hsz:ns.length<=aZ)
  (h:∀ h',RV h' x dx C (λy=>if y=name then some v else mA y)->iB dx s.heap h'->Q () { s with heap:=h',toks:=s.toks+2 }) :
  aQ (a7 prog w) A (setAttr (.ref x) name v) Q E s:=by
 obtain ⟨od,J,hl⟩:=I.look;refine PySem.W.set_plain X J hs (PySem.W.osa_open (s:={ s with toks:=s.toks+1 }) (r:=none) X J hp ht λb=>?_);obtain ⟨cd,hc,hd'⟩:=PySem.W.any_some hh;have hx:s.heap.get? x=some ⟨.ref C,some dx,.plain,#[]⟩:=I.obj;refine af (aw (af (af (wpAny_loadPart hx (af (PySem.W.Looks.here (s:={ s with toks:=s.toks+1 }) (PySem.W.looks_clsIn X hc) ?_))))));rw [hd'];refine aw (a:=some dx) (af (aw (af ?_)));refine wpAny_nsSet1 (s:={ s with toks:=s.toks+1 }) I.ns λh' hn2 hs2=>?_;obtain ⟨oD,esD,epD,hoD,hdD,hcD⟩:=hn2.count (PySem.Within.cons name v hw);refine af (wpAny_lookBehind hoD (by rw [hdD];exact pastItsLine_dict (a9 hcD (by rw [bz];lia))) ?_);exact aw (h _ ⟨(hs2.2 _ (Ne.symm I.ne)).trans I.obj,hn2,I.ne⟩ hs2)
theorem V5 {R:Vj->aC->Prop}{vs:List au}(X:K.In s.heap) (hm:jV K C=true)
  (hi:bj K (.ref C) "__init__"=some (some (.ref f))) (hf:PySem.W.typeIn K (.ref f)=some (.type "function"))
  (h:mn (a7 prog w) (A.under (.builtin "type.__call__" ⟨.ref C::vs,kw⟩)) (.call (.ref f) ⟨.ref (s.heap.objs.size+1)::vs,kw⟩) (PySem.W.InitBack (s.heap.objs.size+1) R)
   { s with heap:=(s.heap.push fP).push (iX C s.heap.objs.size) }) :
  mn (a7 prog w) A (.call (.ref C) ⟨vs,kw⟩) R s:=by
 obtain ⟨hh,g,d,t,os⟩:=s;exact PySem.W.make_core (PySem.W.makes_of X hm) (PySem.W.looks_findIn X hi) (λself=>PySem.W.bind_fn X self hf) (.inl rfl) h
end
def d0 (f:aY) (v:V):List (aY×V)->List (aY×V)
 | []=>[(f,v)]
 | (g,x)::r=>if g=f then (g,v)::r else (g,x)::d0 f v r
theorem fR (f g:aY) (v:V):∀ fs:List (aY×V),(d0 f v fs).lookup g=if g=f then some v else fs.lookup g
 | []=>by
  show c9 g [(f,v)]=_
  by_cases h:g=f
  .have hb:(g == f)=true:=beq_iff_eq.mpr h;simp only [c9,hb,if_pos h]
  .have hb:(g == f)=false:=beq_eq_false_iff_ne.mpr h
   simp only [c9,hb,if_neg h]
 | (k,x)::r=>by
  have ih:=fR f g v r;rw [show d0 f v ((k,x)::r)=(if k=f then (k,v)::r else (k,x)::d0 f v r) from rfl]
  by_cases hk:k=f
  .rw [if_pos hk]
   by_cases h:g=k
   .have hb:(g == k)=true:=beq_iff_eq.mpr h;simp only [c9,hb,if_pos (h.trans hk)]
   .have hb:(g == k)=false:=beq_eq_false_iff_ne.mpr h;simp only [c9,hb,if_neg (λe:g=f=>h (e.trans hk.symm))]
  .rw [if_neg hk]
   by_cases h:g=k
   .have hb:(g == k)=true:=beq_iff_eq.mpr h;simp only [c9,hb,if_neg (λe:g=f=>hk (h.symm.trans e))]
   .have hb:(g == k)=false:=beq_eq_false_iff_ne.mpr h;simp only [c9,hb];exact ih
theorem zY (f:aY) (v:V):∀ fs:List (aY×V),f∈(d0 f v fs).map (·.1)/\∀ g,g∈fs.map (·.1)->g∈(d0 f v fs).map (·.1)
 | []=>⟨by simp [d0],λg h=>by simp at h⟩
 | (k,x)::r=>by
  obtain ⟨i1,i2⟩:=zY f v r;rw [show d0 f v ((k,x)::r)=(if k=f then (k,v)::r else (k,x)::d0 f v r) from rfl]
  by_cases hk:k=f
  .rw [if_pos hk];subst hk;exact ⟨by simp,λg h=>by simpa using h⟩
  .rw [if_neg hk];refine ⟨?_,λg h=>?_⟩
   .rw [bu];exact ae _ i1
   .rw [bu] at h ⊢
    rcases aj.mp h with e|e
    .exact aj.mpr (.inl e)
    .exact ae _ (i2 g e)
theorem Bc (f:aY) (v:V):∀ fs:List (aY×V),(d0 f v fs).length<=fs.length+1
 | []=>by simp [d0]
 | (k,x)::r=>by
  have ih:=Bc f v r;rw [show d0 f v ((k,x)::r)=(if k=f then (k,v)::r else (k,x)::d0 f v r) from rfl]
  by_cases hk:k=f
  .rw [if_pos hk,bz,bz];lia
  .rw [if_neg hk,bz,bz];lia
theorem uX.some_of {v:V}{o:Option au}(r:uX (some v) o):∃ u,o=some u/\RelV v u:=by
 cases o with
 | none=>exact (show False from r).elim
 | some u=>exact ⟨u,rfl,r⟩
theorem uX.none_of {o:Option au}(r:uX none o):o=none:=by
 cases o with
 | none=>rfl
 | some u=>exact (show False from r).elim
theorem T8 {v:V}(r:RelV v u):YU u=true:=by
 cases v with
 | non=>cases (show u=cG from r);rfl
 | bl b=>cases (show u=uZ b from r);rfl
 | int i=>obtain ⟨t,e⟩:=(show ∃ t,u=gX i t from r);cases e;rfl
 | str x=>obtain ⟨t,e⟩:=(show ∃ t,u=tM x t from r);cases e;rfl
 | byt b=>obtain ⟨t,e⟩:=(show ∃ t,u=Value.bytes b t from r);cases e;rfl
 | flt b=>obtain ⟨t,e⟩:=(show ∃ t,u=Vd b t from r);cases e;rfl
 | ref a=>cases (show u=aH a from r);rfl
 | ty n=>cases (show u=fj n from r);rfl
section
variable {H H':Hp}{fs fs':List (aY×V)}
theorem C7 (fh:tq P w H h) (e:H a=some (.ins C dx fs)):∃ mA,RV h a dx C mA/\(∀ f,uX (fs.lookup f) (mA f))/\R7 mA (fs.map (·.1))/\fs.length<=1000/\H dx=some (.own a):=by
 obtain ⟨d,z,ne,ob,mA,n,r,q⟩:=(show fS P w H h a (.ins C dx fs) from fh a _ e)
 exact ⟨mA,⟨ob,n,ne⟩,r,q,z,d⟩
end
structure Dj (K:aa) (C:ai):Prop where
 pg:iw K C u0=true
 hd:i3 K C=true
 po:j9 K C=true
 sa:bj K (.ref C) "__setattr__"=some (some (.builtin "object.__setattr__"))
theorem Dj.get (c:Dj K C) (f:aY):iw K C f=true:=c.pg
def dN (K:aa) (C:ai) (f:aY):Prop:=bj K (.ref C) f=some none
theorem dN.afc {f:aY}(n:dN K C f):Ge K C f=some none:=by
 unfold Ge;rw [show bj K (.ref C) f=some none from n]
 rfl
structure ZF (K:aa) (C:ai) (m:aY) (f:ai):Prop where
 at_:bj K (.ref C) m=some (some (.ref f))
 fn:tP K (.ref f)=true
 kp:c6 K (.ref f)=true
section
variable {X:Cx}{Z:St}{H:Hp}{fs:List (aY×V)}{f:aY}{v:V}
theorem DC {b:Bool}(I:Inv X pins Z H s) (e:H a=some (.ins C dx fs)) (c:Dj X.K C) (n:dN X.K C f) (l:fs.lookup f=some v)
  (h:∀ u s',Inv X pins Z H s'->RelV v u->Q u s'):aQ (a7 X.prog X.w) A (getAttr (.ref a) f b) Q E s:=by
 obtain ⟨mA,O,r,_,_,_⟩:=C7 I.fh e;obtain ⟨u,hu,ru⟩:=uX.some_of (v:=v) (o:=mA f) (by rw [← l];exact r f);exact ZD I.xS O (c.get f) c.hd n hu (T8 ru) (h u _ (I.tok _) ru)
theorem DD {g:ai}{Q:au×List au->aC->Prop}(I:Inv X pins Z H s) (e:H a=some (.ins C dx fs)) (c:Dj X.K C) (k:ZF X.K C m g) (l:fs.lookup m=none)
  (h:Q (.ref g,[.ref a]) s):aQ (a7 X.prog X.w) A (Dm (.ref a) m pl) Q E s:=by
 obtain ⟨mA,O,r,_,_,_⟩:=C7 I.fh e;have hn:mA m=none:=uX.none_of (by rw [← l];exact r m);exact V4 I.xS O (c.get m) k.at_ k.fn hn h
theorem DE {y:V}{Q:Unit->aC->Prop}(I:Inv X pins Z H s) (e:H a=some (.ins C dx fs)) (c:Dj X.K C) (n:dN X.K C f) (hl:fs.length<1000) (ry:RelV y u)
  (h:∀ s',Inv X pins Z (upd H a (.ins C dx (d0 f y fs))) s'->Q () s'):aQ (a7 X.prog X.w) A (setAttr (.ref a) f u) Q E s:=by
 obtain ⟨mA,O,r,wi,_,ho⟩:=C7 I.fh e
 have hz:(fs.map (·.1)).length<=aZ:=by rw [ag,vA];lia
 refine ZE I.xS O c.sa c.po n.afc c.hd wi hz λh' O' sb=>h _ ?_
 have hd:∃ o,h'.get? dx=some o:=let ⟨o,_,_,e',_⟩:=O'.ns;⟨o,e'⟩
 refine I.write (x:=a) (e:=dx) (by rw [e];exact jc) (.inr ho) (λb q hb z=>(sb.2 b hb).trans z) hd ?_;refine ⟨by rw [aI O.ne];exact ho,?_,O.ne,O'.obj,_,O'.ns,λg=>?_,λg hg=>?_⟩
 .have:=Bc f y fs;lia
 .show uX ((d0 f y fs).lookup g) (if g=f then some u else mA g)
  rw [fR]
  by_cases q:g=f
  .rw [if_pos q,if_pos q];exact ry
  .rw [if_neg q,if_neg q];exact r g
 .by_cases q:g=f
  .rw [q];exact (zY f y fs).1
  .refine (zY f y fs).2 g (wi g λz=>hg ?_)
   show (if g=f then some u else mA g)=none
   rw [if_neg q];exact z
theorem Inv.made (I:Inv X pins Z H s):Inv X pins Z (upd (upd H s.heap.objs.size (.own (s.heap.objs.size+1))) (s.heap.objs.size+1) (.ins C s.heap.objs.size []))
  { s with heap:=(s.heap.push fP).push (iX C s.heap.objs.size) }:=by
 have e1:(s.heap.push fP).get? s.heap.objs.size=some fP:=aP s.heap rfl
 have e2:((s.heap.push fP).push (iX C s.heap.objs.size)).get? (s.heap.objs.size+1)=some (iX C s.heap.objs.size):=by
  have:=aP (s.heap.push fP) (o:=iX C s.heap.objs.size) rfl
  rwa [jA] at this
 have e3:(s.heap.push fP).Ns s.heap.objs.size (λ_=>none):=⟨fP,#[],_,e1,rfl,(λe he=>absurd he (by simp)),λ_=>rfl⟩
 have I1:=I.laid (a:=s.heap.objs.size) (o:=.own (s.heap.objs.size+1)) (h':=s.heap.push fP) (t':=s.toks) (λb u q=>ax _ q) (aB _) ⟨_,e1⟩;refine I1.laid (a:=s.heap.objs.size+1) (o:=.ins C s.heap.objs.size []) (t':=s.toks) (λb u q=>ax _ q) (Gg (jA _ _)) ?_;have ne:s.heap.objs.size≠s.heap.objs.size+1:=a6 (lD _);refine ⟨by rw [aI ne,aK],bC _,ne,e2,λ_=>none,(Heap.Ns1.of_empty e3).at λo q=>ax _ q,λ_=>jc,λy hy=>absurd rfl hy⟩
theorem ZG {env:zB}{f:aY}(hb:mZ e f env (fw e env)=fw e env)
  (h:aQ (a7 prog w) A (fw e env) (λo s₁=>aQ (a7 prog w) A (getAttr o f true) Q E s₁) E s):aQ (a7 prog w) A (fw (.Attribute e f pos) env) Q E s :=
 Attribute_any_ h (by rw [arm_eval_Attribute,hb])
end
def df (K:aa) (ta:TE) (f:aY):TE:=λZ H Q=>ta Z H λx H1=>∃ a C dx fs v,x=.ref a/\H1 a=some (.ins C dx fs)/\Dj K C/\dN K C f/\fs.lookup f=some v/\Q v H1
def tH (K:aa) (ta tv:TE) (f:aY):TS:=λD Z H=>tv Z H λy H1=>ta Z H1 λx H2=>∃ a C dx fs,x=.ref a/\H2 a=some (.ins C dx fs)/\Dj K C/\dN K C f/\fs.length<1000 /\
 D.nx Z (upd H2 a (.ins C dx (d0 f y fs)))
def aco (X:Cx) (op:LQ) (rd:V->V->Hp->VK->Prop):Prop :=
 ∀ (pins:List (ai×iW)) (s:aC) (Z:St) (H:Hp) (x y:V) (u v:au) (Q:VK),Inv X pins Z H s->RelV x u->RelV y v->rd x y H Q->aQ (a7 X.prog X.w) X.A (Dl op u v) (EP X pins Z Q) X.xe s
def vd (K:aa) (ta tv:TE) (rd:V->V->Hp->VK->Prop) (f:aY):TS:=λD Z H=>ta Z H λx H1=>∃ a C dx fs v,x=.ref a/\H1 a=some (.ins C dx fs)/\Dj K C/\dN K C f/\fs.lookup f=some v /\
 tv Z H1 λy H2=>rd v y H2 λz H3=>∃ dx' fs',H3 a=some (.ins C dx' fs')/\fs'.length<1000/\D.nx Z (upd H3 a (.ins C dx' (d0 f z fs')))
section
variable {X:Cx}{o value:Expr}{f:aY}{tpos:vQ}{ta tv:TE}
theorem qw (he:PE X e ta) (hb:mZ e f X.env (fw e X.env)=fw e X.env):PE X (.Attribute e f pos) (df X.K ta f):=by
 intro pins s Z H Q I h;refine ZG hb (gN (he pins s Z H _ I h) λu s1 ⟨x,H1,I1,rx,a,C,dx,fs,v,ex,ea,c,n,l,q⟩=>?_);subst ex;obtain rfl:u=aH a:=rx
 exact DC I1 ea c n l λu' s2 I2 ru=>⟨v,H1,I2,ru,q⟩
theorem DF (ha:PE X o ta) (hv:PE X value tv) (hs:Dk value (some (.Attribute o f pos')) pos.line X.env=pure false):PS X (.Assign [.Attribute o f pos'] value pos) (tH X.K ta tv f):=by
 intro pins s Z H D I h;refine plainObj_wpAny_Assign_Attribute (gN (hv pins s Z H _ I h) λu s1 ⟨y,H1,I1,ry,q⟩=>gN (ha pins s1 Z H1 _ I1 q) λov s2 ⟨x,H2,I2,rx,a,C,dx,fs,ex,ea,c,n,l,q2⟩=>?_) hs;subst ex;obtain rfl:ov=aH a:=rx
 exact DE I2 ea c n l ry λs3 I3=>⟨Z,_,I3,q2⟩
theorem ve {op:LQ}{rd:V->V->Hp->VK->Prop}(ha:PE X o ta) (hv:PE X value tv) (hop:aco X op rd):PS X (.AugAssign (.Attribute o f tpos) op value pos) (vd X.K ta tv rd f):=by
 intro pins s Z H D I h;refine wpAny_AugAssign_AttributeAny (gN (ha pins s Z H _ I h) λov s1 ⟨x,H1,I1,rx,a,C,dx,fs,v,ex,ea,c,n,l,q⟩=>?_);subst ex;obtain rfl:ov=aH a:=rx;refine DC I1 ea c n l λu s2 I2 ru=>gN (hv pins s2 Z H1 _ I2 q) λw3 s3 ⟨y,H2,I3,ry,q3⟩=>gN (hop pins s3 Z H2 v y u w3 _ I3 ru ry q3) λw4 s4 ⟨z,H3,I4,rz,dx',fs',ea',l',q4⟩=>?_
 exact DE I4 ea' c n l' rz λs5 I5=>⟨Z,_,I5,q4⟩
def T9:V->V->Hp->VK->Prop:=λx y H Q=>∃ i j,x=.int i/\y=.int j/\Q (.int (i+j)) H
theorem DG:aco X .Add T9:=by
 rintro pins s Z H x y u v Q I rx ry ⟨i,j,rfl,rfl,q⟩
 obtain ⟨t,rfl⟩:=(show ∃ t,u=gX i t from rx)
 obtain ⟨t',rfl⟩:=(show ∃ t',v=gX j t' from ry)
 exact abT ⟨.int (i+j),H,I.tok _,⟨_,rfl⟩,q⟩
end
section
variable {X:Cx}{Z:St}{H:Hp}{c:au}{b:Bool}
inductive wV (K:aa) (H:Hp):V->au->Prop where
 | non:wV K H .non (.type "NoneType")
 | bl (x:Bool):wV K H (.bl x) (.type "bool")
 | int (i:Int):wV K H (.int i) (.type "int")
 | str (x:aY):wV K H (.str x) (.type "str")
 | flt (x:UInt64):wV K H (.flt x) (.type "float")
 | lst {a:ai}{xs:List V}(e:H a=some (.lst xs)):wV K H (.ref a) (.type "list")
 | frz {a:ai}{o:iW}{xs:List V}(e:H a=some (.frz o (.lst xs))):wV K H (.ref a) (.type "list")
 | tup {a:ai}{xs:List V}(e:H a=some (.tup xs)):wV K H (.ref a) (.type "tuple")
 | dK {a:ai}{kvs:List (jz×V)}(e:H a=some (.dK kvs)):wV K H (.ref a) (.type "dict")
 | dT {a:ai}{kvs:List (List jz×V)}(e:H a=some (.dT kvs)):wV K H (.ref a) (.type "dict")
 | ins {a C dx:ai}{fs:List (aY×V)}(e:H a=some (.ins C dx fs)) (cl:Dj K C) (ha:bj K (.ref C) "__class__"=some (some (.builtin "object.__class__")))
   (hn:qS K (.builtin "object.__class__") "__get__"=some (some (.builtin "getset_descriptor.__get__"))) (htk:tT K (.builtin "object.__class__")=some true)
   (hm:LR K C (.type "object")=some true):wV K H (.ref a) (.ref C)
theorem Ie {x:V}{t:au}(I:Inv X pins Z H s) (rx:RelV x u) (ty:wV X.K H x t) (e:iD X.K t c=some b) (h:∀ tk,Q (.bool b) { s with toks:=tk }) :
  aQ (a7 X.prog X.w) A (call (.builtin "isinstance") [u,c]) Q E s:=by
 cases ty with
 | non=>cases (show u=cG from rx);exact fb PySem.W.kitx_none I.xS jc e nofun h
 | bl y=>cases (show u=uZ y from rx);exact fb PySem.W.kitx_bool I.xS jc e nofun h
 | int i=>obtain ⟨t,q⟩:=(show ∃ t,u=gX i t from rx);cases q;exact fb PySem.W.kitx_int I.xS jc e nofun h
 | str y=>obtain ⟨t,q⟩:=(show ∃ t,u=tM y t from rx);cases q;exact fb PySem.W.kitx_str I.xS jc e nofun h
 | flt y=>obtain ⟨t,q⟩:=(show ∃ t,u=Vd y t from rx);cases q;exact fb PySem.W.kitx_float I.xS jc e nofun h
 | @lst a xs ea =>
  cases (show u=aH a from rx)
  obtain ⟨_,_,n,_,h1⟩:=(show fS X.prog X.w H s.heap a (.lst xs) from I.fh a _ ea)
  exact fb VI I.xS ⟨_,h1,rfl⟩ e nofun h
 | @frz a ob xs ea =>
  cases (show u=aH a from rx)
  obtain ⟨_,_,_,n,_,h1⟩:=(show fS X.prog X.w H s.heap a (.frz ob (.lst xs)) from I.fh a _ ea)
  exact fb VI I.xS ⟨_,h1,rfl⟩ e nofun h
 | @tup a xs ea =>
  cases (show u=aH a from rx)
  obtain ⟨_,_,_,p⟩:=(show fS X.prog X.w H s.heap a (.tup xs) from I.fh a _ ea)
  obtain ⟨o,h1,h2,_⟩:=p
  exact fb PySem.W.kitx_tuple I.xS ⟨o,h1,h2⟩ e nofun h
 | @dK a kvs ea =>
  cases (show u=aH a from rx)
  obtain ⟨_,_,vs,_,p⟩:=(show fS X.prog X.w H s.heap a (.dK kvs) from I.fh a _ ea)
  obtain ⟨o,es,ep,h1,h2,_⟩:=p
  exact fb VJ I.xS ⟨o,h1,h2.1⟩ e nofun h
 | @dT a kvs ea =>
  cases (show u=aH a from rx)
  obtain ⟨_,_,xs,_,o,es,ep,h1,h2,_⟩:=(show fS X.prog X.w H s.heap a (.dT kvs) from I.fh a _ ea)
  exact fb VJ I.xS ⟨o,h1,h2.1⟩ e nofun h
 | @ins a C dx fs ea cl ha hn htk hm =>
  cases (show u=aH a from rx);obtain ⟨mA,O,_⟩:=C7 I.fh ea;obtain ⟨od,J,_⟩:=O.look;exact fb (PySem.W.kitx_own (cl.get _) cl.hd ha hn htk hm) I.xS J e nofun h
end
structure iu (k:Nat) (A:eD):Prop where
 hd:A.handled=none
 dp:A.depth+3*k+5<CY
 un:A.units+16*k+200<i8
theorem iu.mono {j:Nat}(r:iu k A) (h:j<=k):iu j A:=⟨r.hd,by have:=r.dp;lia,by have:=r.un;lia⟩
theorem iu.deeper (r:iu (k+1) A) (env:zB):iu k (A.deeper env) :=
 ⟨r.hd,by have:=r.dp;show A.depth+1+3*k+5<_;lia,by have:=r.un;show A.units+3+16*k+200<_;lia⟩
theorem PB:(A.under (.builtin "type.__call__" ⟨.ref C::us,kw⟩)).depth=A.depth+1:=by
 first|rfl|simp [Pg,Code.weight,Code.isCreation,Code.isGuard,Code.isCaller,Code.frames,Tv,guardIds]
theorem PD:(A.under (.builtin "type.__call__" ⟨.ref C::us,kw⟩)).units=A.units+1:=by
 first|rfl|simp [Pg,Code.cUnits,Code.frames,Tv]
theorem iu.make (r:iu (k+1) A) (C:ai) (us:List au) (kw:List (aY×au)):iu k (A.under (.builtin "type.__call__" ⟨.ref C::us,kw⟩)) :=
 ⟨r.hd,by have:=r.dp;rw [PB];lia,by have:=r.un;rw [PD];lia⟩
theorem iu.depth (r:iu k A):A.depth<CY:=by have:=r.dp;lia
theorem iu.units (r:iu k A):A.units+64<i8:=by have:=r.un;lia
def aR:TA:=λ_ H Q=>Q [] H
def ao (ta:TE) (tr:TA):TA:=λZ H Q=>ta Z H λx H1=>tr Z H1 λxs H2=>Q (x::xs) H2
section
variable {X:Cx}{te:TE}{t:TA}
theorem cP:PA X [] aR:=λ_ _ _ _ H Q I h=>rG ⟨[],H,I,.nil,h⟩
theorem bg (ha:PE X e te) (hr:PA X es t) (hs:bA (e::es) X.env=(false,fw e X.env)::bA es X.env:=by rfl):PA X (e::es) (ao te t):=by
 intro pos pins s Z H Q I h;rw [hs]
 show aQ _ _ (spliced ((false,fw e X.env)::iC pos (bA es X.env))) _ _ s
 refine mq (gN (ha pins s Z H _ I h) λu s1 ⟨x,H1,I1,r1,q1⟩=>?_)
 exact gN (hr pos pins s1 Z H1 _ I1 q1) λus s2 ⟨xs,H2,I2,r2,q2⟩=>⟨x::xs,H2,I2,.cons r1 r2,q2⟩
def qx (t:TA):TE:=λZ H Q=>t Z H λxs H1=>xs.length<=aZ/\∀ p,H1 p=none->Q (.ref p) (upd H1 p (.tup xs))
def MC (t:TA):TE:=λZ H Q=>t Z H λxs H1=>xs.length<=aZ/\∀ p,H1 p=none->Q (.ref p) (upd H1 p (.lst xs))
theorem zZ {x1} (h:PA X es t):PE X (.Tuple es x1 pos) (qx t):=by
 intro pins s Z H Q I hq;refine wpAny_Tuple_spliced (gN (h pos pins s Z H _ I hq) λus s1 ⟨xs,H1,I1,r,z,q⟩=>⟨by rw [← r.length];exact z,?_⟩);have hf:H1 s1.heap.objs.size=none:=I1.fh.fresh (aB _);refine ⟨.ref s1.heap.objs.size,upd H1 s1.heap.objs.size (.tup xs),I1.laid (t':=s1.toks) (λb u e=>ax _ e) (aB _) ?_,rfl,q _ hf⟩;exact ⟨z,us,r,⟨_,aP _ rfl,rfl,_,rfl⟩⟩
theorem acp (h:PA X es t):PE X (.List es pos) (MC t):=by
 intro pins s Z H Q I hq;refine wpAny_List_spliced (gN (h pos pins s Z H _ I hq) λus s1 ⟨xs,H1,I1,r,z,q⟩=>⟨by rw [← r.length];exact z,?_⟩);have hf:H1 s1.heap.objs.size=none:=I1.fh.fresh (aB _);refine ⟨.ref s1.heap.objs.size,upd H1 s1.heap.objs.size (.lst xs),I1.laid (t':=s1.toks) (λb u e=>ax _ e) (aB _) ?_,rfl,q _ hf⟩;exact ⟨z,us,0,r,aP _ rfl⟩
end
abbrev Sp:=List V->Hp->VK->XK->Prop
abbrev Mj:=List zB->Hp->aC->XK->au->aC->Prop
structure RY (P:bQ) (w:cK) (K:aa) (mg:aY->Option au) (base:cI) (A:eD) (outer:List zB) (s:aC) (H:Hp):Prop where
 frames:A.frames=some outer
 mod:Mod K mg base
 bs:∀ b o,base.get? b=some o->s.heap.get? b=some o/\H b=none
 Ts:base.objs.size<=s.heap.objs.size
 uW:s.heap.FunFrames base outer
 VF:∀ b∈vv outer,H b=none
 fh:tq P w H s.heap
 bare:vw s.gens
def CE (outer:List zB) (P:bQ) (w:cK) (H:Hp) (s:aC) (Q:VK) (u:au) (s':aC):Prop :=
 ∃ v H',s'.os=s.os/\vw s'.gens/\Un (vv outer) [] H H' s.heap s'.heap/\tq P w H' s'.heap/\RelV v u/\Q v H'
def CR (CX:Mj) (outer:List zB) (P:bQ) (w:cK) (H:Hp) (s:aC) (Q:VK) (E:XK) (r:Vj) (s':aC):Prop :=
 match r with
 | .ok (.ret u)=>CE outer P w H s Q u s'
 | .ok _=>False
 | .error e=>CX outer H s E e s'
structure dC (P:bQ) (w:cK) (K:aa) (mg:aY->Option au) (base:cI) (CX:Mj) (k:Nat) (f:ai) (fd:gA) (ps:List aY) (sp:Sp):Prop where
 len:∀ vs H Q E,sp vs H Q E->vs.length=ps.length
 run:∀ (A:eD) (outer:List zB) (s:aC) (H:Hp) (args:Args) (us:List au) (vs:List V) (Q:VK) (E:XK),iu k A->RY P w K mg base A outer s H->LS s fd args (ps.zip us)->Vals vs us->sp vs H Q E ->
  mn (a7 P w) A (.call (.ref f) args) (CR CX outer P w H s Q E) s
theorem RY.make {H:Hp}(e:RY P w K mg base A outer s H) (C:ai) (us:List au) (kw:List (aY×au)) :
  RY P w K mg base (A.under (.builtin "type.__call__" ⟨.ref C::us,kw⟩)) outer s H:=⟨by first|exact e.frames|(simpa [Pg,Code.envs,Tv,pushEnvs] using e.frames),e.mod,e.bs,e.Ts,e.uW,e.VF,e.fh,e.bare⟩
section
variable {X:Cx}{Z:St}{H:Hp}
theorem Inv.env0 (I:Inv X pins Z H s):RY X.prog X.w X.K X.mg X.base X.A X.stack s H :=
 ⟨I.ok.frames,I.ok.mod,I.bs,a9 I.ok.Ts I.sz,I.stack,I.Di,I.fh,I.bare⟩
theorem Inv.after {Q:VK}(I:Inv X pins Z H s) (h:CE X.stack X.prog X.w H s Q u s'):EP X pins Z Q u s':=by
 obtain ⟨v,H',os,bare,un,fh,r,q⟩:=h;obtain ⟨hh,g,d,t,os'⟩:=s';obtain rfl:os'=s.os:=os;exact ⟨v,H',I.call (h':=hh) (g':=g) (d':=d) (t':=t) (ch:=[]) un fh bare (λb z=>absurd z (by simp)),r,q⟩
end
def cb (sp:Sp) (dvs:List V) (E:XK) (t:TA):TE:=λZ H Q=>t Z H λvs H1=>sp (vs++dvs) H1 Q E
def cJ (C:ai) (m:aY) (sp:Sp) (dvs:List V) (E:XK) (ta:TE) (t:TA):TE:=λZ H Q=>ta Z H λx H1=>∃ a dx fs,x=.ref a/\H1 a=some (.ins C dx fs)/\fs.lookup m=none /\
 t Z H1 λvs H2=>sp (x::(vs++dvs)) H2 Q E
def tZ (C:ai) (sp:Sp) (dvs:List V) (E:XK) (t:TA):TE:=λZ H Q=>t Z H λvs H1=>∀ x dx,H1 x=none->H1 dx=none->dx≠x ->
 sp (.ref x::(vs++dvs)) (upd (upd H1 dx (.own x)) x (.ins C dx [])) (λv H2=>v=.non/\Q (.ref x) H2) E
def Binds (K:aa) (fd:gA) (ps:List aY) (ds:List au):Prop :=
 ∀ (s:aC) (us:List au),K.In s.heap->(us++ds).length=ps.length->LS s fd ⟨us,[]⟩ (ps.zip (us++ds))
theorem Binds.all (h:∀ us:List au,us.length=ps.length->LU fd ⟨us,[]⟩=pure (ps.zip us)):Binds K fd ps []:=λs us _ hl=>by
 rw [mr] at hl ⊢;exact .of_eq (h us hl)
def lR (CX:Mj) (X:Cx) (E:XK):Prop:=∀ (pins:List (ai×iW)) (Z:St) (H:Hp) (s:aC) (e:au) (s':aC),Inv X pins Z H s->CX X.stack H s E e s'->X.xe e s'
section
variable {X:Cx}{CX:Mj}{sp:Sp}{dvs:List V}{ds:List au}{E:XK}{o:Expr}{ta:TE}{t:TA}
theorem PF {Z:St}{H:Hp}{Q:VK}{vs:List V}(F:dC X.prog X.w X.K X.mg X.base CX k f fd ps sp) (hr:iu k X.A) (hb:Binds X.K fd ps ds) (hd:Vals dvs ds) (hx:lR CX X E)
  (I:Inv X pins Z H s) (r:Vals vs us) (h:sp (vs++dvs) H Q E):aQ (a7 X.prog X.w) X.A (call (.ref f) us) (EP X pins Z Q) X.xe s:=by
 have r2:Vals (vs++dvs) (us++ds):=r.append hd
 have hl:(us++ds).length=ps.length:=by rw [← r2.length];exact F.len _ _ _ _ h
 refine Vk (mv (F.run X.A X.stack s H ⟨us,[]⟩ (us++ds) (vs++dvs) Q E hr I.env0 (hb s us I.xS hl) r2 h) λr s' hq=>?_)
 cases r with
 | error e=>exact hx pins Z H s e s' I hq
 | ok fl =>
  cases fl with
  | ret u=>exact I.after hq
  | next=>exact eU hq
  | brk=>exact eU hq
  | cont=>exact eU hq
theorem ZH (F:dC X.prog X.w X.K X.mg X.base CX k f fd ps sp) (hr:iu k X.A) (hg:Gl X x) (hm:X.mg x=some (.ref f)) (hk:c6 X.K (.ref f)=true) (hb:Binds X.K fd ps ds) (hd:Vals dvs ds) (hx:lR CX X E)
  (ha:PA X (e::es) t) (hdb:(x == ("__debug__":aY))=false:=by decide) (he:bA (e::es) X.env=(false,fw e X.env)::bA es X.env:=by rfl) (hpl:(iC pos (bA es X.env)).any (·.1)=false:=by rfl) :
  PE X (.Call (.Name x p) (e::es) [] pos) (cb sp dvs E t):=by
 intro pins s Z H Q I h;refine dU (rH I hg hm ?_ hdb);refine pY (h₀:=X.base) I.ok.mod.kin hk (gN (ha pos pins s Z H _ I h) λus s1 ⟨vs,H1,I1,r,q⟩=>⟨I1.xS,?_⟩) he hpl;exact PF F hr hb hd hx I1 r q
theorem ZI (he:PE X o ta) (c:Dj X.K C) (hm:ZF X.K C m f) (F:dC X.prog X.w X.K X.mg X.base CX k f fd ps sp) (hr:iu k X.A) (hb:Binds X.K fd ps ds) (hd:Vals dvs ds) (hx:lR CX X E) (ha:PA X (e::es) t)
  (hst:bA (e::es) X.env=(false,fw e X.env)::bA es X.env:=by rfl) (hpl:(iC pos (bA es X.env)).any (·.1)=false:=by rfl)
  (ht:fw (.Call (.Attribute o m apos) (e::es) [] pos) X.env=(do
   let ov ← fw o X.env
   zF apos.atName
   let (f,first) ← ml [ov] (Dm ov m pl)
   callWith pos f first (iC pos (bA (e::es) X.env)) (CZ pos (qO [] X.env))):=by rfl) :
  PE X (.Call (.Attribute o m apos) (e::es) [] pos) (cJ C m sp dvs E ta t):=by
 intro pins s Z H Q I h;refine Ph (pl:=pl) (gN (he pins s Z H _ I h) λu s1 ⟨x,H1,I1,rx,a,dx,fs,ex,ea,l,q⟩=>?_) ht;subst ex;obtain rfl:u=aH a:=rx;refine DD I1 ea c hm l ?_;refine pY (first:=[.ref a]) (h₀:=X.base) I.ok.mod.kin hm.kp (gN (ha pos pins s1 Z H1 _ I1 q) λus s2 ⟨vs,H2,I2,r,q2⟩=>⟨I2.xS,?_⟩) hst hpl;exact PF (us:=.ref a::us) (vs:=.ref a::vs) F hr hb hd hx I2 (.cons rfl r) q2
theorem V7 (he:PE X o ta) (c:Dj X.K C) (hm:ZF X.K C m f) (F:dC X.prog X.w X.K X.mg X.base CX k f fd ps sp) (hr:iu k X.A) (hb:Binds X.K fd ps ds) (hd:Vals dvs ds) (hx:lR CX X E)
  (ht:fw (.Call (.Attribute o m apos) [] [] pos) X.env=(do
   let ov ← fw o X.env
   zF apos.atName
   let (f,first) ← ml [ov] (Dm ov m pl)
   callWith pos f first (iC pos (bA [] X.env)) (CZ pos (qO [] X.env))):=by rfl) :
  PE X (.Call (.Attribute o m apos) [] [] pos) (cJ C m sp dvs E ta aR):=by
 intro pins s Z H Q I h;refine Ph (pl:=pl) (gN (he pins s Z H _ I h) λu s1 ⟨x,H1,I1,rx,a,dx,fs,ex,ea,l,q⟩=>?_) ht;subst ex;obtain rfl:u=aH a:=rx;refine DD I1 ea c hm l ?_;exact Tw (first:=[.ref a]) I1.xS hm.kp (PF (us:=[.ref a]) (vs:=[.ref a]) F hr hb hd hx I1 (.cons rfl .nil) q)
structure Mk (K:aa) (C f:ai):Prop where
 makes:jV K C=true
 init:bj K (.ref C) "__init__"=some (some (.ref f))
 fn:tP K (.ref f)=true
 kp:c6 K (.ref C)=true
theorem MD {Z:St}{H:Hp}{Q:VK}{vs:List V}(M:Mk X.K C f) (F:dC X.prog X.w X.K X.mg X.base CX k f fd ps sp) (hr:iu (k+1) X.A) (hb:Binds X.K fd ps ds) (hd:Vals dvs ds)
  (hx:lR CX X E) (I:Inv X pins Z H s) (r:Vals vs us)
  (h:∀ x dx,H x=none->H dx=none->dx≠x->sp (.ref x::(vs++dvs)) (upd (upd H dx (.own x)) x (.ins C dx [])) (λv H2=>v=.non/\Q (.ref x) H2) E) :
  aQ (a7 X.prog X.w) X.A (call (.ref C) us) (EP X pins Z Q) X.xe s:=by
 have hq:=h (s.heap.objs.size+1) s.heap.objs.size (I.fh.fresh (iF _)) (I.fh.fresh (aB _)) (a6 (lD _));have I2:=Inv.made (C:=C) I;have r2:Vals (V.ref (s.heap.objs.size+1)::(vs++dvs)) (aH (s.heap.objs.size+1)::(us++ds)):=.cons rfl (r.append hd)
 have hl:(aH (s.heap.objs.size+1)::us++ds).length=ps.length:=by
  have e:=r2.length;rw [F.len _ _ _ _ hq] at e;exact e.symm
 refine Vk (V5 (f:=f) I.xS M.makes M.init (beq_iff_eq.mp M.fn) (mv (F.run _ X.stack _ _ ⟨aH (s.heap.objs.size+1)::us,[]⟩ (aH (s.heap.objs.size+1)::(us++ds)) _ _ E (hr.make C us [])
  (I2.env0.make C us []) (hb _ (aH (s.heap.objs.size+1)::us) I2.xS hl) r2 hq) λr s' hq'=>?_))
 cases r with
 | error e=>exact hx pins Z _ _ e s' I2 hq'
 | ok fl =>
  cases fl with
  | ret u =>
   obtain ⟨v,H',I3,rv,ev,q3⟩:=I2.after hq';subst ev
   exact ⟨rv,⟨V.ref (s.heap.objs.size+1),H',I3,rfl,q3⟩⟩
  | next=>exact eU hq'
  | brk=>exact eU hq'
  | cont=>exact eU hq'
theorem vf (M:Mk X.K C f) (F:dC X.prog X.w X.K X.mg X.base CX k f fd ps sp) (hr:iu (k+1) X.A) (hg:Gl X x) (hm:X.mg x=some (.ref C)) (hb:Binds X.K fd ps ds) (hd:Vals dvs ds) (hx:lR CX X E)
  (ha:PA X (e::es) t) (hdb:(x == ("__debug__":aY))=false:=by decide) (he:bA (e::es) X.env=(false,fw e X.env)::bA es X.env:=by rfl) (hpl:(iC pos (bA es X.env)).any (·.1)=false:=by rfl) :
  PE X (.Call (.Name x p) (e::es) [] pos) (tZ C sp dvs E t):=by
 intro pins s Z H Q I h;refine dU (rH I hg hm ?_ hdb);refine pY (h₀:=X.base) I.ok.mod.kin M.kp (gN (ha pos pins s Z H _ I h) λus s1 ⟨vs,H1,I1,r,q⟩=>⟨I1.xS,?_⟩) he hpl;exact MD M F hr hb hd hx I1 r q
theorem ME (M:Mk X.K C f) (F:dC X.prog X.w X.K X.mg X.base CX k f fd ps sp) (hr:iu (k+1) X.A) (hg:Gl X x) (hm:X.mg x=some (.ref C)) (hb:Binds X.K fd ps ds) (hd:Vals dvs ds) (hx:lR CX X E)
  (hdb:(x == ("__debug__":aY))=false:=by decide):PE X (.Call (.Name x p) [] [] pos) (tZ C sp dvs E aR):=by
 intro pins s Z H Q I h;refine dU (rH I hg hm ?_ hdb);exact Tw I.xS M.kp (MD (us:=[]) M F hr hb hd hx I .nil h)
end
section
variable {X:Cx}{CX:Mj}{ks:List aY}{sp:Sp}{E:XK}{kpos:vQ}{o:Expr}{kws:List LW}{te ta:TE}{t tk:TA}{nm:Option aY}
variable {g:List au->List au->List au}{gV:List V->List V->List V}
end
structure bb (N P:List aY) (sc:tL):Prop where
 kind:sc.kind=.function
 co:sc.isCoroutine=false
 gen:sc.isGenerator=false
 nd:N.Nodup
 pre:N.take P.length=P
 par:∀ x∈P,sc.names.lookup x=some .local\/sc.names.lookup x=some .cell
 adA:∀ y∈sc.names,y.2≠.free
theorem Ig:∀ {binds:List (aY×au)}{m:aY->Option au},(∀ v,(x,v)∉binds)->Za kindOf binds m x=m x
 | [],_,_=>rfl
 | (n,v)::r,m,h=>by
  unfold Za;rw [Ig λw hw=>h w (ae _ hw)]
  split
  .have:x≠n:=by rintro rfl;exact h v ah
   simp [this]
  .rfl
theorem Ih:∀ {binds:List (aY×au)}{m:aY->Option au},(∀ v,(x,v)∉binds)->Zb kindOf binds m x=m x
 | [],_,_=>rfl
 | (n,v)::r,m,h=>by
  unfold Zb;rw [Ih λw hw=>h w (ae _ hw)]
  split
  .rfl
  .have:x≠n:=by rintro rfl;exact h v ah
   simp [this]
theorem Ii:∀ {P:List aY}{vs:List au}{i:Nat}{m:aY->Option au},P.Nodup->P[i]?=some x->vs[i]?=some v->kindOf x=some .local ->
  Za kindOf (P.zip vs) m x=some v
 | [],_,_,_,_,h,_,_=>by simp at h
 | _::_,[],_,_,_,_,h,_=>by simp at h
 | p::P,w::vs,0,m,nd,h1,h2,hk=>by
  simp at h1 h2;subst h1;subst h2
  show Za kindOf ((p,w)::P.zip vs) m p=_
  unfold Za;rw [Ig λv hv=>(bh.mp nd).1 (Ji hv).1,if_pos hk]
  simp
 | p::P,w::vs,i+1,m,nd,h1,h2,hk=>by
  show Za kindOf ((p,w)::P.zip vs) m x=_
  unfold Za;exact Ii (i:=i) (bh.mp nd).2 (by simpa using h1) (by simpa using h2) hk
theorem Ij:∀ {P:List aY}{vs:List au}{i:Nat}{m:aY->Option au},P.Nodup->P[i]?=some x->vs[i]?=some v->kindOf x≠some .local ->
  Zb kindOf (P.zip vs) m x=some v
 | [],_,_,_,_,h,_,_=>by simp at h
 | _::_,[],_,_,_,_,h,_=>by simp at h
 | p::P,w::vs,0,m,nd,h1,h2,hk=>by
  simp at h1 h2;subst h1;subst h2
  show Zb kindOf ((p,w)::P.zip vs) m p=_
  unfold Zb;rw [Ih λv hv=>(bh.mp nd).1 (Ji hv).1,if_neg hk]
  simp
 | p::P,w::vs,i+1,m,nd,h1,h2,hk=>by
  show Zb kindOf ((p,w)::P.zip vs) m x=_
  unfold Zb;exact Ij (i:=i) (bh.mp nd).2 (by simpa using h1) (by simpa using h2) hk
def start (N:List aY) (vs:List V):St:=vs.map some++nB (N.length-vs.length) none
def mG (CX:Mj) (P:bQ) (w:cK) (K:aa) (mg:aY->Option au) (base:cI) (N:List aY) (qual:aY) (scope:tL) (f:ai) (cd:au) (A:eD) (outer:List zB) (s:aC) (H:Hp) (E:XK):Cx where
 prog:=P
 w:=w
 K:=K
 mg:=mg
 base:=base
 A:=A.deeper (mI qual scope s.heap.objs.size f cd)
 N:=N
 s₀:=s
 H₀:=H
 env:=mI qual scope s.heap.objs.size f cd
 outer:=outer
 stack:=mI qual scope s.heap.objs.size f cd::outer
 ex:=[]
 calm:=true
 fn:=λ_=>true
 pn:=[]
 xe:=λe s'=>aQ (a7 P w) (A.deeper (mI qual scope s.heap.objs.size f cd)) (leaving (mI qual scope s.heap.objs.size f cd) e) (λ_ s''=>CX outer H s E e s'') (λe' s''=>CX outer H s E e' s'') s'
theorem MF {sc:tL}(h:sc.names.lookup x=some .cell):∃ c,(cellsFrom n sc.names []).lookup x=some c:=by
 have q:=O1 sc.names n [] (.inl h);exact Option.isSome_iff_exists.mp q
theorem Ua {CX:Mj}{cd:au}{s1:aC}{H:Hp}{E:XK}{vs:List V}
  (S:bb N ps scope) (hd:A.handled=none) (e0:RY P w K mg base A outer s H) (hl:vs.length=ps.length) (r:Vals vs us)
  (x:InCallC s s.heap.objs.size (Za (mI qual scope s.heap.objs.size f cd).kindOf (ps.zip us) λ_=>none) (cellsFrom (s.heap.objs.size+1) scope.names []) (Zb (mI qual scope s.heap.objs.size f cd).kindOf (ps.zip us) λ_=>none) s1) :
  Inv (mG CX P w K mg base N qual scope f cd A outer s H E) [] (start N vs) H s1:=by
 have hpl:ps.length<=N.length:=by have:=congrArg fA S.pre;rw [bK] at this;lia
 obtain ⟨h1,tk,rfl,hk⟩:=x.done;have noA:∀ b:ai,b∉(mG CX P w K mg base N qual scope f cd A outer s H E).ex:=λb z=>absurd (show b∈([]:List ai) from z) (by simp)
 refine ⟨⟨e0.mod,S.kind,rfl,rfl,aB _,λy z c h1 h2=>?_,λy hy=>?_,λy c _ h=>?_,λ_=>hd,Around.frames_deeper e0.frames,.inr ⟨rfl,rfl⟩,λb z=>absurd z (noA b),e0.bs,e0.Ts,λb _ _=>noA b,λb z=>absurd z (noA b),e0.uW,e0.VF⟩,
  rfl,e0.bare,Un.kept hk,⟨_,x.toInCall.ns,λi y v h1 h2 h3=>?_⟩,λy c h=>⟨_,x.cell y c h⟩,e0.fh.fresh (aB _),λy c h=>?_,λp hp=>absurd (show p∈([]:List (ai×iW)) from hp) (by simp),e0.fh.kept hk,?_⟩
 .exact name_of_addr x.apart (lE h1) (lE h2)
 .have hy:scope.names.lookup y=some .cell\/scope.names.lookup y=some .free:=hy
  rcases hy with hy|hy
  .exact MF hy
  .exact absurd rfl (S.adA _ (lE hy))
 .exact nV (x.above y c (lE h))
 .have hi:i<vs.length:=by
   unfold start at h2
   by_cases hi:i<vs.length
   .exact hi
   .rw [eC (by simpa using hi)] at h2;rw [R8] at h2
    split at h2<;>cases h2
  have ha:vs[i]?=some v:=by
   unfold start at h2;rw [gB (by simpa using hi),aG] at h2
   cases e:vs[i]? with
   | none=>rw [e] at h2;cases h2
   | some a=>rw [e] at h2;cases h2;rfl
  obtain ⟨u,hu,rv⟩:=r.get ha
  have hp:ps[i]?=some y:=by
   rw [← S.pre,List.getElem?_take_of_lt (by lia)];exact h1
  have ndP:ps.Nodup:=by rw [← S.pre];exact S.nd.sublist (List.take_sublist _ _)
  refine ⟨u,rv,?_⟩
  rcases S.par y (aS hp) with k|k
  .exact .inl ⟨k,Ii ndP hp hu k⟩
  .obtain ⟨c,e⟩:=MF (n:=s.heap.objs.size+1) k;refine .inr ⟨.inl k,c,e,?_⟩;have q:=x.cell y c e;rw [Ij ndP hp hu (by show scope.names.lookup y≠_;rw [k];decide)] at q;exact q
 .exact e0.fh.fresh (nV (x.above y c (lE h)))
 .unfold start
  show _=N.length
  rw [bD,ag,wQ];lia
theorem V8 {CX:Mj}{params:xO}{dV kV doc pm mM ct oc:au}{an od:Option ai}
  {osl:Array (Option au)}{N ps:List aY}{sp:Sp}(lk:K.lookup f=some ⟨oc,od,.func (i4 name qual params body scope dV kV doc pm an mM ct),osl⟩) (hcd:pZ K mM qual=true) (S:bb N ps scope)
  (len:∀ vs H Q E,sp vs H Q E->vs.length=ps.length)
  (hbody:∀ (A:eD) (outer:List zB) (s:aC) (H:Hp) (vs:List V) (Q:VK) (E:XK),iu k (A.deeper (mI qual scope s.heap.objs.size f mM))->sp vs H Q E ->
   ∃ t,LO (mG CX P w K mg base N qual scope f mM A outer s H E) body t/\t { nx:=λ_ H'=>Q .non H',rt:=Q } (start N vs) H) :
  dC P w K mg base CX (k+1) f (i4 name qual params body scope dV kV doc pm an mM ct) ps sp:=by
 refine ⟨len,λA outer s H args us vs Q E hr e0 hb r hsp=>?_⟩;have hl:=len _ _ _ _ hsp;have KX:K.In s.heap:=e0.mod.kin.keeps λb o e=>(e0.bs b o e).1;have lim:s.heap.NoLimit:=e0.mod.nolimit.keeps λb o e=>(e0.bs b o e).1
 have hkind:∀ y∈ps.zip us,scope.names.lookup y.1=some .local\/(scope.names.lookup y.1=some .cell/\((cellsFrom (s.heap.objs.size+1) scope.names []).lookup y.1).isSome=true):=λ⟨n,v⟩ hy=>by
  rcases S.par n (Ji hy).1 with q|q
  .exact .inl q
  .exact .inr ⟨q,O1 _ _ _ (.inl q)⟩
 refine codeAny_call_function hr.depth (KX _ _ lk) rfl S.co S.gen rfl (PySem.W.codeRec_of KX hcd) (hb _ _ _ _ ?_);refine wpAny_newFunctionEnv_cells S.kind hkind λenv he s1 x=>?_;subst he;refine ⟨lim.keeps x.toInCall.keep,codeAny_func ?_⟩;obtain ⟨t,ht,hq⟩:=hbody A outer s H vs Q E (hr.deeper _) hsp;have I:Inv (mG CX P w K mg base N qual scope f mM A outer s H E) [] (start N vs) H s1:=Ua S hr.hd e0 hl r x;refine fk (ht [] s1 (start N vs) H _ I hq) (λfl s' hs=>?_) λe s' hs=>hs
 have fin:∀ {σ':St}{H':Hp}{v:V}{u:au},Inv (mG CX P w K mg base N qual scope f mM A outer s H E) [] σ' H' s'->RelV v u->Q v H'->CE outer P w H s Q u s' :=
  λ{σ' H' v u} J rv q=>⟨v,H',J.os,J.bare,J.base,J.fh,rv,q⟩
 cases fl with
 | ret u =>
  obtain ⟨v,σ',H',J,rv,q⟩:=hs
  exact fin J rv q
 | next =>
  obtain ⟨σ',H',J,q⟩:=hs
  exact fin (v:=V.non) (u:=cG) J rfl q
 | brk =>
  obtain ⟨_,_,_,q⟩:=hs
  exact eU q
 | cont =>
  obtain ⟨_,_,_,q⟩:=hs;exact eU q
section
variable {X:Cx}{t:TA}{id T:String}{r:List V->Hp->VK->Prop}
def jQ (r:List V->Hp->VK->Prop) (t:TA):TE:=λZ H Q=>t Z H λvs H1=>r vs H1 Q
theorem ka (hc:lM X (.builtin id) r) (hg:Gl X x) (hm:X.mg x=none) (hv:dI x=some (.builtin id)) (ha:PA X (e::es) t) (hn:x≠"__name__":=by decide) (hdb:(x == ("__debug__":aY))=false:=by decide)
  (he:bA (e::es) X.env=(false,fw e X.env)::bA es X.env:=by rfl) (hpl:(iC pos (bA es X.env)).any (·.1)=false:=by rfl):PE X (.Call (.Name x p) (e::es) [] pos) (jQ r t):=by
 intro pins s Z H Q I h;refine dU (rJ I hg hm hv ?_ hn hdb);exact xW (gN (ha pos pins s Z H _ I h) λus s1 ⟨vs,H1,I1,r1,q1⟩=>hc pins s1 Z H1 vs us Q I1 r1 q1) he hpl
theorem Ik (hc:lM X (.type T) r) (hg:Gl X x) (hm:X.mg x=none) (hv:dI x=some (.type T)) (ha:PA X (e::es) t) (hn:x≠"__name__":=by decide) (hdb:(x == ("__debug__":aY))=false:=by decide)
  (he:bA (e::es) X.env=(false,fw e X.env)::bA es X.env:=by rfl) (hpl:(iC pos (bA es X.env)).any (·.1)=false:=by rfl):PE X (.Call (.Name x p) (e::es) [] pos) (jQ r t):=by
 intro pins s Z H Q I h;refine dU (rJ I hg hm hv ?_ hn hdb);exact gS (gN (ha pos pins s Z H _ I h) λus s1 ⟨vs,H1,I1,r1,q1⟩=>hc pins s1 Z H1 vs us Q I1 r1 q1) he hpl
end
end L2
namespace HT
open PySem PyProof.Rows
def lexLt:List Int->List Int->Bool
 | [],[]=>false
 | [],_::_=>true
 | _::_,[]=>false
 | x::xs,y::ys=>if x=y then lexLt xs ys else decide (x<y)
theorem DH (x y:Int) (xs ys:List Int):lexLt (x::xs) (y::ys)=if x=y then lexLt xs ys else decide (x<y):=rfl
theorem Gy:lexLt [] []=false:=rfl
theorem DI (y:Int) (ys:List Int):lexLt [] (y::ys)=true:=rfl
theorem DJ (x:Int) (xs:List Int):lexLt (x::xs) []=false:=rfl
theorem V9 (A:eD) (s:aC) (a:Int) (t:Tu) (c:Int) (u:Tu):∃ e,SeqAt.EqAt A s (.int a t) (.int c u) e/\(e=true↔a=c) :=
 ⟨(a == c),jt a t c u,by simp⟩
theorem Wa (A:eD) (s:aC) (a:Int) (t:Tu) (c:Int) (u:Tu) (prog:bQ) (w:cK) (E:au->aC->Prop) (Q:au->aC->Prop) (h:Q (.bool (decide (a<c))) s) :
  aQ (a7 prog w) A (richCompare .Lt (.int a t) (.int c u)) Q E s :=
 (Y9 h:aQ (a7 prog w) A (dh .Lt (.int a t) (.int c u)) Q E s)
section
open PySem.SeqAt
open PySem.AutoSeq1 (wpAny_loadPart')
open PySem.MeetsSeq PySem.MeetsSeq2 PySem.MeetsSeq3
theorem Gz (l b:ai) (items items2:Array au) (n n2:Nat) (dd dd2:Option ai) (sl sl2:Array (Option au)) (ns ms:List Int) (hi:gC items.toList ns) (hj:gC items2.toList ms) :
  Meets (kH.«tuple.__lt__» ⟨[.ref l,.ref b],[]⟩)
   (λ_ R s=>s.heap.get? l=some { cls:=.type "tuple",dict:=dd,data:=.seq items n,slots:=sl }/\s.heap.get? b=some { cls:=.type "tuple",dict:=dd2,data:=.seq items2 n2,slots:=sl2 } /\
    R (.ok (.ret (.bool (lexLt ns ms)))) s) :=
 .of_wp λprog w A R s h=>by
  obtain ⟨hp,g,d,tk,os⟩:=s;obtain ⟨hl,hb,h⟩:=h;have f2:=AutoSeq1.sub_tuple_tuple
  have z1:items.size=ns.length:=by rw [← hi.length];simp
  have z2:items2.size=ms.length:=by rw [← hj.length];simp
  wp_walk using wpAny_loadPart' hl,wpAny_loadPart' hb,wpAny_forIn_list _ (λrest b s'=>b.1=none/\s'=⟨hp,g,d,tk,os⟩/\∃ (vs ws:List au) (ns' ms':List Int),rest=vs.zip ws /\
   gC vs ns'/\gC ws ms'/\ns'.length+items2.size=ms'.length+items.size/\R (.ok (.ret (.bool (lexLt ns' ms')))) ⟨hp,g,d,tk,os⟩) _
  case turn =>
   rintro ⟨y,x⟩ rest b s' ⟨hb',rfl,vs,ws,ns',ms',hz,hvi,hwi,hlen,hR⟩
   cases hvi with
   | nil=>rw [List.zip_nil_left] at hz;cases hz
   | cons a t hvi' =>
    cases hwi with
    | nil=>rw [List.zip_nil_right] at hz;cases hz
    | cons c u hwi' =>
     rw [j4] at hz
     injection hz with hyx hrest
     injection hyx with hy hx
     subst hy hx;rw [DH] at hR;simp only [bz] at hlen;obtain ⟨e,he,hiff⟩:=V9 A.in1 ⟨hp,g,d,tk,os⟩ a t c u;refine af (he prog w _ _ ?_)
     cases e with
     | true =>
      rw [if_pos (hiff.mp rfl)] at hR
      wp_walk
      exact ⟨rfl,rfl,_,_,_,_,hrest,hvi',hwi',by lia,hR⟩
     | false =>
      rw [if_neg (λq=>absurd (hiff.mpr q) bG)] at hR;have hri:=Wa A.in1 ⟨hp,g,d,tk,os⟩ a t c u prog w
      wp_walk using hri
      exact ⟨_,rfl,by simpa using hR⟩
  case fin =>
   rintro ⟨b1,b2⟩ s' ⟨hb',rfl,vs,ws,ns',ms',hz,hvi,hwi,hlen,hR⟩;simp only at hb';subst hb'
   have hv:lexLt ns' ms'=decide (items.size<items2.size):=by
    cases hvi with
    | nil =>
     cases hwi with
     | nil =>
      simp only [pU] at hlen;rw [Gy]
      exact (decide_eq_false (by lia)).symm
     | cons c u hw =>
      simp only [pU,bz] at hlen;rw [DI]
      exact (decide_eq_true (by lia)).symm
    | cons a t hv =>
     cases hwi with
     | nil =>
      simp only [pU,bz] at hlen;rw [DJ]
      exact (decide_eq_false (by lia)).symm
     | cons c u hw =>
      rw [j4] at hz;cases hz
   rw [hv] at hR
   wp_walk
   exact ⟨_,rfl,by simpa [Builtin.Tuple.tupleCompareSizes] using hR⟩
  case h =>
   exact ⟨rfl,rfl,items.toList,items2.toList,ns,ms,rfl,hi,hj,by lia,h⟩
end
section
variable {prog:bQ}{w:cK}{A:eD}{E:au->aC->Prop}{s:aC}
theorem PH {l b:ai}{items items2:Array au}{ns ms:List Int}{Q:au->aC->Prop}(hl:tO s.heap l items) (hb:tO s.heap b items2) (hi:gC items.toList ns) (hj:gC items2.toList ms)
  (hu:A.units<i8) (h:Q (.bool (lexLt ns ms)) s):aQ (a7 prog w) A (dh .Lt (.ref l) (.ref b)) Q E s:=by
 obtain ⟨⟨cls,dd,data,sl⟩,ho,hc,n,hd⟩:=id hl;obtain ⟨⟨cls2,dd2,data2,sl2⟩,ho2,hc2,n2,hd2⟩:=id hb;simp only at hc hd hc2 hd2;subst hc hd hc2 hd2
 exact richCompare_meets_room (op:=.Lt) ⟨_,ho,rfl⟩ ⟨_,ho2,rfl⟩ PySem.F.slot_tuple_lt PySem.F.entry_tuple_lt (PySem.F.args_tuple_lt_2 _ _) (Gz l b items items2 n n2 dd dd2 sl sl2 ns ms hi hj)
  ⟨ho,ho2,show uZ (lexLt ns ms)≠Value.notImplemented/\Q (.bool (lexLt ns ms)) s from ⟨nofun,h⟩⟩ hu
def Ml (n d:Nat):Option Int->Nat
 | none=>d
 | some v=>if v<0 then (v+(n:Int)).toNat else min v.toNat n
theorem MG (n d:Nat):Ml n d none=d:=rfl
theorem ZJ (n d k:Nat):Ml n d (some (k:Int))=min k n:=by
 show (if (k:Int)<0 then ((k:Int)+(n:Int)).toNat else min (k:Int).toNat n)=min k n
 rw [if_neg (by lia),ij]
end
end HT
namespace L2
variable {H H':Hp}{X:Cx}{s:aC}{pins:List (ai×iW)}{Z:St}{a b p:ai}{w:cK}{A:eD}{E Q:au->aC->Prop}{P:bQ}{u:au}{xs ys:List V}{o:Option V}{y x v:V}{e:Expr}{pos apos cpos:vQ}{n t' j:Nat}{its its' us:List au}{i:Int}{r:R2}{T:String}{h':cI}
abbrev TO:=St->Hp->(Option Int->Hp->Prop)->Prop
def PO (X:Cx) (e:Option Expr) (t:TO):Prop :=
 ∀ (pins:List (ai×iW)) (s:aC) (Z:St) (H:Hp) (Q:Option Int->Hp->Prop),Inv X pins Z H s->t Z H Q ->
  aQ (a7 X.prog X.w) X.A (evalPart e X.env) (λu s'=>∃ o H',Inv X pins Z H' s'/\IsPart u o/\Q o H') X.xe s
def jv:TO:=λ_ H Q=>Q none H
def kZ (t:TE):TO:=λZ H Q=>t Z H λx H1=>∃ i,x=.int i/\Q (some i) H1
theorem intsAre_of {ns:List Int}:∀ {us:List au},Vals (ns.map V.int) us->gC us ns:=by
 induction ns with
 | nil=>intro us r;rw [Tx] at r;cases r;exact .nil
 | cons n ns ih =>
  intro us r;rw [bu] at r
  cases r with
  | cons r1 r2 =>
   obtain ⟨t,e⟩:=r1;subst e;exact .cons n t (ih r2)
section
variable {te:TE}{lo hi:Option Expr}{tl th:TO}{p2:vQ}
theorem ya:PO X none jv:=by
 intro pins s Z H Q I h;rw [evalPart_none];exact aw ⟨none,H,I,.none,h⟩
theorem Jw (h:PE X e te):PO X (some e) (kZ te):=by
 intro pins s Z H Q I hw;rw [evalPart_some];refine gN (h pins s Z H _ I hw) λu s1 ⟨x,H1,I1,r1,q1⟩=>?_;obtain ⟨i,rfl,q⟩:=q1;obtain ⟨t,rfl⟩:=r1;exact ⟨some i,H1,I1,.int i t,q⟩
def SlR (X:Cx) (r:V->Option Int->Option Int->Hp->VK->Prop):Prop :=
 ∀ (pins:List (ai×iW)) (s:aC) (Z:St) (H:Hp) (x:V) (v vl vu:au) (lo hi:Option Int) (sl:ai) (Q:VK),Inv X pins Z H s->RelV x v->s.heap.IsSliceOf sl vl vu .none->IsPart vl lo->IsPart vu hi->r x lo hi H Q ->
  ∃ T id,typeLookup (.type T) "__getitem__"=pure (some (.builtin id))/\s.TypeIs v T/\aQ (a7 X.prog X.w) X.A (getItem v (.ref sl)) (EP X pins Z Q) X.xe s
def Mm (r:V->Option Int->Option Int->Hp->VK->Prop) (te:TE) (tl th:TO):TE:=λZ H Q=>te Z H λx H1=>tl Z H1 λl H2=>th Z H2 λu H3=>r x l u H3 Q
theorem t7 {r:V->Option Int->Option Int->Hp->VK->Prop}(hr:SlR X r) (he:PE X e te) (hl:PO X lo tl) (hu:PO X hi th):PE X (.Subscript e (.Slice lo hi none p2) pos) (Mm r te tl th):=by
 intro pins s Z H Q I h;refine Vi (gN (he pins s Z H _ I h) λv s1 ⟨x,H1,I1,r1,q1⟩=>?_);refine wpAny_Slice (gN (hl pins s1 Z H1 _ I1 q1) λvl s2 ⟨l,H2,I2,pl,q2⟩=>gN (hu pins s2 Z H2 _ I2 q2) λvu s3 ⟨u,H3,I3,pu,q3⟩=>?_);rw [evalPart_none];refine aw ?_;have I4:Inv X pins Z H3 { s3 with heap:=s3.heap.push { cls:=.type "slice",data:=.fields #[vl,vu,.none] } }:=I3.kept (t':=s3.toks) λb ob q=>ax _ q;obtain ⟨T,id,hT,ht,hg⟩:=hr pins { s3 with heap:=s3.heap.push { cls:=.type "slice",data:=.fields #[vl,vu,.none] } } Z H3 x v vl vu l u s3.heap.objs.size Q I4 r1 (Heap.IsSliceOf.new ..) pl pu q3
 show aQ (a7 X.prog X.w) X.A (subscriptTail e (.Slice lo hi none p2) v (.ref s3.heap.objs.size)) (EP X pins Z Q) X.xe { s3 with heap:=s3.heap.push { cls:=.type "slice",data:=.fields #[vl,vu,.none] } }
 exact tail_any (ops:=[.ref s3.heap.objs.size,v]) ht hT hg (by with_unfolding_all rfl)
def Cg (xs:List V) (lo hi:Option Int):List V:=(xs.drop (HT.Ml xs.length 0 lo)).take (HT.Ml xs.length xs.length hi-HT.Ml xs.length 0 lo)
theorem MH (xs:List V) (lo hi:Option Int):(Cg xs lo hi).length<=xs.length:=by
 unfold Cg;rw [bK,cD];lia
end
def Ub (n:Nat) (i:Int):Option Nat:=if 0<=i then (if i<n then some i.toNat else none) else if -(n:Int)<=i then some (i+n).toNat else none
def Uc {α:Type} (xs:List α) (i:Int):Option α:=(Ub xs.length i).bind λj=>xs[j]?
theorem Sk (h:Ub n i=some j):seqIndex? i n=some j/\j<n/\-(n:Int)<=i/\i<n:=by
 unfold Ub at h
 by_cases h0:0<=i
 .rw [if_pos h0] at h
  by_cases h1:i<n
  .rw [if_pos h1] at h;have e:i.toNat=j:=aL h;exact ⟨by rw [seqIndex_of h0 h1,e],by lia,by lia,h1⟩
  .rw [if_neg h1] at h;cases h
 .rw [if_neg h0] at h
  by_cases h1:-(n:Int)<=i
  .rw [if_pos h1] at h;have e:(i+n).toNat=j:=aL h;exact ⟨by rw [seqIndex_neg (by lia) h1,e],by lia,h1,by lia⟩
  .rw [if_neg h1] at h;cases h
theorem Sl {α:Type} {xs:List α}{v:α}(h:Uc xs i=some v):∃ j,seqIndex? i xs.length=some j/\xs[j]?=some v/\j<xs.length/\-(xs.length:Int)<=i/\i<xs.length:=by
 unfold Uc at h
 cases e:Ub xs.length i with
 | none=>rw [e] at h;cases h
 | some j =>
  rw [e] at h;obtain ⟨h1,h2,h3,h4⟩:=Sk e;exact ⟨j,h1,h,h2,h3,h4⟩
theorem ZK {α:Type} {xs:List α}{v:α}(h:xs[j]?=some v):Uc xs (j:Int)=some v:=by
 have hj:j<xs.length:=(aE.mp h).1
 have e:Ub xs.length (j:Int)=some j:=by
  unfold Ub;rw [if_pos (by lia),if_pos (by lia)];simp
 unfold Uc;rw [e];exact h
theorem Wb {α:Type} (xs:List α) (v:α):Uc (xs++[v]) (-1)=some v:=by
 have hl:(xs++[v]).length=xs.length+1:=by simp
 have e:Ub (xs++[v]).length (-1)=some xs.length:=by
  unfold Ub;rw [hl,if_neg (by decide),if_pos (by lia)]
  congr 1
  lia
 unfold Uc;rw [e]
 show (xs++[v])[xs.length]?=some v
 simp
def ZL (b:Expr):Prop:=∀ o i,subscripted b false o i=operate [o,i] (getItem o i)
def IxR (X:Cx) (r:R2):Prop :=
 ∀ (value slice:Expr) (pins:List (ai×iW)) (s:aC) (Z:St) (H:Hp) (x y:V) (v u:au) (Q:VK),Inv X pins Z H s->RelV x v->RelV y u->r x y H Q ->
  subscripted slice false v u=operate [v,u] (getItem v u)->aQ (a7 X.prog X.w) X.A (subscriptTail value slice v u) (EP X pins Z Q) X.xe s
def MtR (X:Cx) (id:String) (r:V->List V->Hp->VK->Prop):Prop :=
 ∀ (pins:List (ai×iW)) (s:aC) (Z:St) (H:Hp) (x:V) (xs:List V) (v:au) (us:List au) (Q:VK),Inv X pins Z H s->RelV x v->Vals xs us->r x xs H Q ->
  aQ (a7 X.prog X.w) X.A (call (.builtin id) (v::us)) (EP X pins Z Q) X.xe s
section
variable {a b:Expr}{ta tb:TE}
theorem IxR.or {r':R2}(h:IxR X r) (h':IxR X r'):IxR X (λx y H Q=>r x y H Q\/r' x y H Q):=by
 intro value slice pins s Z H x y v u Q I rx ry q hs
 rcases q with q|q
 .exact h value slice pins s Z H x y v u Q I rx ry q hs
 .exact h' value slice pins s Z H x y v u Q I rx ry q hs
theorem t8 (hr:IxR X r) (ha:PE X a ta) (hb:PE X b tb) (hs:ZL b):PE X (.Subscript a b pos) (bU r ta tb):=by
 intro pins s Z H Q I h;exact Vi (Zu ha hb I h λv u s2 x y H2 I2 rx ry q=>hr a b pins s2 Z H2 x y v u Q I2 rx ry q (hs _ _))
def rIxL (K:aa):R2:=λx y H Q=>∃ p xs i v,x=.ref p/\y=.int i/\cW K H p xs/\Uc xs i=some v/\Q v H
def rIxT (K:aa):R2:=λx y H Q=>∃ p xs i v,x=.ref p/\y=.int i/\kU K H p xs/\Uc xs i=some v/\Q v H
theorem ZM:IxR X (rIxL X.K):=by
 intro value slice pins s Z H x y v u Q I rx ry h hs;obtain ⟨p,xs,i,z,rfl,rfl,hq,he,q⟩:=h;cases rx;obtain ⟨t,rfl⟩:=ry;obtain ⟨its,r,pl,hz⟩:=I.list hq;obtain ⟨j,h1,h2,h3,h4,h5⟩:=Sl he;obtain ⟨w,ew,rw'⟩:=r.get h2;have hl:=r.length;have hn:=tY
 have fin:EP X pins Z Q w s:=⟨z,H,I,rw',q⟩
 by_cases h0:0<=i
 .have hj:i.toNat=j:=by
   rw [seqIndex_of h0 h5] at h1;exact aL h1
  exact item_listR pl.isList h0 (by lia) (by rw [hj];simpa using ew) fin hs
 .have hj:(i+(its.toArray.size:Int)).toNat=j:=by
   rw [seqIndex_neg (by lia) h4] at h1;rw [bc,← hl];exact aL h1
  exact aaQ (x:=w) pl.isList.typeIs slot_list_getitem.lookup
   (wpAny_getItem_list_neg (Q:=λr s'=>r=w/\EP X pins Z Q r s') pl.isList (by lia) (by rw [bc]<;>lia) (by lia) (by rw [hj];simpa using ew) ⟨rfl,fin⟩) hs
theorem acq:IxR X (rIxT X.K):=by
 intro value slice pins s Z H x y v u Q I rx ry h hs;obtain ⟨p,xs,i,z,rfl,rfl,hq,he,q⟩:=h;cases rx;obtain ⟨t,rfl⟩:=ry;obtain ⟨its,r,pl,hz⟩:=I.tuple hq;obtain ⟨j,h1,h2,h3,h4,h5⟩:=Sl he;obtain ⟨w,ew,rw'⟩:=r.get h2;have hl:=r.length;have hn:=tY
 have fin:EP X pins Z Q w s:=⟨z,H,I,rw',q⟩
 exact aaQ (x:=w) pl.typeIs slot_tuple_getitem.lookup
  (getItem_tuple (j:=j) (Q:=λr s'=>r=w/\EP X pins Z Q r s') pl (by lia) (by lia) (by rw [bc,← hl];exact h1) (by simpa using ew) ⟨rfl,fin⟩) hs
theorem PJ (its:List au) (n j:Nat) (u:au):bH (·.setIfInBounds j u) { cls:=.type "list",data:=.seq its.toArray n }={ cls:=.type "list",data:=.seq (its.set j u).toArray n }:=by
 simp [bH]
theorem Inv.lst (I:Inv X pins Z H s) (h:H p=some (.lst xs)) :
  ∃ (its:List au) (n:Nat),Vals xs its/\s.heap.get? p=some { cls:=.type "list",data:=.seq its.toArray n }/\xs.length<=aZ:=by
 obtain ⟨z,its,n,r,e⟩:=I.fh p _ h;exact ⟨its,n,r,e,z⟩
theorem Inv.adz {n':Nat}{f:iW->iW}(I:Inv X pins Z H s) (h:H p=some (.lst xs))
  (ho:s.heap.get? p=some { cls:=.type "list",data:=.seq its.toArray n }) (hf:f { cls:=.type "list",data:=.seq its.toArray n }={ cls:=.type "list",data:=.seq its'.toArray n' }) (r:Vals ys its') (hz:ys.length<=aZ) (t:Nat) :
  Inv X pins Z (upd H p (.lst ys)) { s with heap:=s.heap.update p f,toks:=t }:=by
 have e:(s.heap.update p f).get? p=some { cls:=.type "list",data:=.seq its'.toArray n' }:=by
  rw [bL f ho (by rw [hf]<;>rfl),hf]
 refine I.write (x:=p) (e:=p) (by rw [h];trivial) (.inl rfl) (λb u hb q=>(cf _ _ (Ne.symm hb)).trans q) ⟨_,e⟩ ?_;exact ⟨hz,its',n',r,e⟩
def abd:V->V->V->Hp->(Hp->Prop)->Prop:=λo i v H Q=>∃ p xs k j,o=.ref p/\i=.int k/\H p=some (.lst xs)/\Ub xs.length k=some j/\Q (upd H p (.lst (xs.set j v)))
theorem Wc:Zq X abd:=by
 intro pins s Z H o i v ov iv u Q I ro ri rv h;obtain ⟨p,xs,k,j,rfl,rfl,hp,hj,q⟩:=h;cases ro;obtain ⟨t,rfl⟩:=ri;obtain ⟨its,n,r,ho,hz⟩:=I.lst hp;obtain ⟨h1,h2,h3,h4⟩:=Sk hj;have hl:=r.length;have hn:=tY
 have I':Inv X pins Z (upd H p (.lst (xs.set j v))) { s with heap:=s.heap.update p (bH (·.setIfInBounds j u)) } :=
  I.adz hp ho (PJ its n j u) (r.set rv j) (by rw [List.length_set];exact hz) s.toks
 by_cases h0:0<=k
 .have hk:k.toNat=j:=by
   rw [seqIndex_of h0 h4] at h1;exact aL h1
  exact PySem.W.ki_setAt ho h0 (by lia) (by rw [bc,← hl];exact h4) (by rw [hk];exact ⟨_,I',q⟩)
 .have hk:(k+(its.toArray.size:Int)).toNat=j:=by
   rw [seqIndex_neg (by lia) h3] at h1;rw [bc,← hl];exact aL h1
  exact PySem.W.ki_setBack ho (by lia) (by rw [bc,← hl];exact h3) (by lia) (by rw [hk];exact ⟨_,I',q⟩)
theorem Jx (lo hi:Option Int) (n:Nat):(qP lo hi none n).1=((HT.Ml n 0 lo:Nat):Int)/\(qP lo hi none n).2.1=((HT.Ml n n hi:Nat):Int)/\(qP lo hi none n).2.2=1:=by
 refine ⟨?_,?_,rfl⟩
 .cases lo with
  | none=>simp [qP,HT.Ml]
  | some i =>
   simp only [qP,HT.Ml,Zc,show (1:Int)>0 by decide,if_true]
   by_cases h:i<0
   .simp only [h,if_true]<;>lia
   .simp only [h,if_false]<;>lia
 .cases hi with
  | none=>simp [qP,HT.Ml]
  | some i =>
   simp only [qP,HT.Ml,Zc,show (1:Int)>0 by decide,if_true]
   by_cases h:i<0
   .simp only [h,if_true]<;>lia
   .simp only [h,if_false]<;>lia
theorem GA (its:List au) (lo hi:Option Int):slicePick its.toArray lo hi none=((its.drop (HT.Ml its.length 0 lo)).take (HT.Ml its.length its.length hi-HT.Ml its.length 0 lo)).toArray:=by
 obtain ⟨h1,h2,h3⟩:=Jx lo hi its.toArray.size;unfold slicePick;rw [h1,h2,h3];simp only [sliceRange_one,pick_run,bc]<;>rfl
def rM (K:aa):V->Option Int->Option Int->Hp->VK->Prop:=λx lo hi H Q=>∃ a xs,x=.ref a/\cW K H a xs/\∀ p,H p=none->Q (.ref p) (upd H p (.lst (Cg xs lo hi)))
theorem Jy:SlR X (rM X.K):=by
 intro pins s Z H x v vl vu lo hi sl Q I rx hs pl pu h;obtain ⟨a,xs,rfl,hx,q⟩:=h;cases rx;obtain ⟨its,r,ht,hz⟩:=I.list hx;have hlen:=r.length;refine ⟨"list",_,slot_list_getitem.lookup,ht.isList.typeIs,?_⟩;refine wpAny_getItem_list_slice ht.isList hs pl pu .none (by simp) ?_ (by rw [bc]<;>lia);rw [GA,← hlen];refine ⟨.ref s.heap.objs.size,_,I.laid (t':=s.toks) (o:=.lst (Cg xs lo hi)) (λb ob q=>ax _ q) (aB _) ?_,rfl,q _ (I.fh.fresh (aB _))⟩;exact ⟨a9 (MH xs lo hi) hz,_,0,(r.drop (HT.Ml xs.length 0 lo)).take (HT.Ml xs.length xs.length hi-HT.Ml xs.length 0 lo),aP _ rfl⟩
theorem Jz:lM X (.builtin "len") (λxs H Q=>∃ p ys,xs=[.ref p]/\(cW X.K H p ys\/kU X.K H p ys)/\Q (.int ys.length) H):=by
 intro pins s Z H xs us Q I r h;obtain ⟨p,ys,rfl,hq,q⟩:=h;obtain ⟨u,rfl,rx⟩:=vals1 r;cases rx;have hn:=tY
 rcases hq with hq|hq
 .obtain ⟨its,r',pl,hz⟩:=I.list hq;have hlen:=r'.length;exact Calls.call_len_list pl.isList (by simp only [bc]<;>lia) ⟨.int ys.length,H,I.tok _,⟨s.toks+1,by rw [bc,hlen]⟩,q⟩
 .obtain ⟨its,r',pl,hz⟩:=I.tuple hq;have hlen:=r'.length;exact len_tuple pl (by simp only [bc]<;>lia) ⟨.int ys.length,H,I.tok _,⟨s.toks+1,by rw [bc,hlen]⟩,q⟩
theorem JA:lM X (.builtin "len") (λxs H Q=>∃ z,xs=[.str z]/\z.length<=aZ/\Q (.int z.length) H):=by
 intro pins s Z H xs us Q I r h;obtain ⟨z,rfl,hz,q⟩:=h;obtain ⟨u,rfl,t,rfl⟩:=vals1 r;have hn:=tY;exact len_str (by lia) ⟨.int z.length,H,I.tok _,⟨_,rfl⟩,q⟩
theorem lM.or {f:au}{r r':List V->Hp->VK->Prop}(h:lM X f r) (h':lM X f r'):lM X f (λxs H Q=>r xs H Q\/r' xs H Q):=by
 intro pins s Z H xs us Q I rs q
 rcases q with q|q
 .exact h pins s Z H xs us Q I rs q
 .exact h' pins s Z H xs us Q I rs q
def tyV (K:aa) (T:String) (x:V) (H:Hp):Prop:=match x with
 | .str _=>T="str"
 | .int _=>T="int"
 | .ref p=>(T="list"/\∃ xs,cW K H p xs)\/(T="tuple"/\∃ o,K.lookup p=some o/\o.cls=.type "tuple"/\o.dict=none) \/
   (T="dict"/\((∃ kvs,H p=some (.dK kvs))\/∃ kvs,H p=some (.dT kvs)))\/(T="set"/\∃ S n,H p=some (.set S n))
 | _=>False
theorem We {v:au}(I:Inv X pins Z H s) (r:RelV x v) (ty:tyV X.K T x H) :
  s.TypeIs v T/\∀ a,v=.ref a->∃ ob,s.heap.get? a=some ob/\ob.dict=none:=by
 cases x with
 | str z =>
  obtain ⟨t,rfl⟩:=r;cases (show T="str" from ty)
  exact ⟨typeIs_str s z t,λ_ e=>nomatch e⟩
 | int i =>
  obtain ⟨t,rfl⟩:=r;cases (show T="int" from ty)
  exact ⟨typeIs_int s i t,λ_ e=>nomatch e⟩
 | ref p =>
  cases r
  rcases ty with ⟨rfl,xs,hq⟩|⟨rfl,o,hk,hc,hd⟩|⟨rfl,hk⟩|⟨rfl,S,n,hk⟩
  .obtain ⟨its,_,pl,_⟩:=I.list hq;refine ⟨pl.isList.typeIs,λa e=>?_⟩;cases e;obtain ⟨o,n,e,c,hd,_⟩:=pl;exact ⟨o,e,hd⟩
  .refine ⟨⟨o,I.xS p o hk,hc⟩,λa e=>?_⟩;cases e;exact ⟨o,I.xS _ o hk,hd⟩
  .have z:∃ o,s.heap.get? p=some o/\o.ExactDict:=by
    rcases hk with ⟨kvs,hk⟩|⟨kvs,hk⟩
    .obtain ⟨_,_,_,_,o,_,_,e,ex,_⟩:=I.fh p _ hk;exact ⟨o,e,ex⟩
    .obtain ⟨_,_,_,_,o,_,_,e,ex,_⟩:=I.fh p _ hk;exact ⟨o,e,ex⟩
   obtain ⟨o,e,ex⟩:=z;refine ⟨⟨o,e,ex.1⟩,λa e2=>?_⟩;cases e2;exact ⟨o,e,ex.2.1⟩
  .obtain ⟨o,_,_,_,e,ex,_⟩:=I.fh p _ hk;refine ⟨⟨o,e,ex.1⟩,λa e2=>?_⟩;cases e2
   exact ⟨o,e,ex.2.1⟩
 | _=>exact eU ty
def acr (K:aa) (T:String) (r:V->List V->Hp->VK->Prop) (to:TE):TE:=λZ H Q=>to Z H λx H1=>tyV K T x H1/\r x [] H1 Q
def GB (K:aa) (T:String) (r:V->List V->Hp->VK->Prop) (to:TE) (t:TA):TE:=λZ H Q=>to Z H λx H1=>tyV K T x H1/\t Z H1 λxs H2=>r x xs H2 Q
variable {o:Expr}{es:List Expr}{to:TE}{t:TA}{name:aY}{id:String}{r:V->List V->Hp->VK->Prop}
theorem acs (pa:PlainAttrs T) (slot:Slot T name id) (hty:typeOf (.builtin id)=pure (.type "method_descriptor")) (hm:MtR X id r) (ho:PE X o to)
  (hbase:mZ o name X.env (fw o X.env)=fw o X.env:=by rfl) (hline:(apos.endLine == cpos.line)=true:=by rfl):PE X (.Call (.Attribute o name apos) [] [] cpos) (acr X.K T r to):=by
 intro pins s Z H Q I h;refine wpAny_Call_method0_late hbase hline (gN (ho pins s Z H _ I h) λv s1 ⟨x,H1,I1,r1,ty,q1⟩=>?_);obtain ⟨h1,h2⟩:=We I1 r1 ty;exact ⟨T,id,pa,slot,hty,h1,h2,u6 rfl (PySem.evalArgs_none (hm pins s1 Z H1 x [] v [] Q I1 r1 .nil q1))⟩
theorem og (pa:PlainAttrs T) (slot:Slot T name id) (hty:typeOf (.builtin id)=pure (.type "method_descriptor")) (hm:MtR X id r) (ho:PE X o to) (ha:PA X (e::es) t)
  (hbase:mZ o name X.env (fw o X.env)=fw o X.env:=by rfl)
  (hfew:((iC cpos (bA (e::es) X.env)).all (λx=>!x.1) && (CZ cpos (qO [] X.env)).all (λx=>x.1.isSome)
   && decide ((e::es).length+([]:List LW).length+(if ([]:List LW).isEmpty then 0 else 1)<30))=true:=by rfl)
  (hline:(apos.endLine == cpos.line)=true:=by rfl) (hs:bA (e::es) X.env=(false,fw e X.env)::bA es X.env:=by rfl) (hplain:(iC cpos (bA es X.env)).any (·.1)=false:=by rfl) :
  PE X (.Call (.Attribute o name apos) (e::es) [] cpos) (GB X.K T r to t):=by
 intro pins s Z H Q I h;refine aaR hbase hfew hline rfl (gN (ho pins s Z H _ I h) λv s1 ⟨x,H1,I1,r1,ty,q1⟩=>?_);obtain ⟨h1,h2⟩:=We I1 r1 ty;refine ⟨T,id,pa,slot,hty,h1,h2,?_⟩;have hA:=ha cpos pins s1 Z H1 _ I1 q1;rw [hs] at hA ⊢;refine u6 (by show (false || (iC cpos (bA es X.env)).any (·.1))=false;rw [hplain]<;>rfl) (xP ?_);exact gN hA λus s2 ⟨vs,H2,I2,r2,q2⟩=>hm pins s2 Z H2 x vs v us Q I2 r1 r2 q2
end
def VG (X:Cx) (id:String) (r:V->List V->Hp->VK->Prop):Prop :=
 ∀ (pins:List (ai×iW)) (s:aC) (Z:St) (H:Hp) (x:V) (xs:List V) (v:au) (us:List au) (Q:VK),Inv X pins Z H s->RelV x v->Vals xs us->r x xs H Q ->
  aQ (a7 X.prog X.w) X.A (call (.builtin id) (v::us)) (EP X pins Z Q) X.xe s
theorem Vals.one (h:Vals [x] us):∃ u,us=[u]/\RelV x u:=by
 cases h with
 | cons r t=>cases t;exact ⟨_,rfl,r⟩
theorem Vals.zero:∀ {us:List au},Vals [] us->us=[]
 | _,.nil=>rfl
theorem Vals.dropLast (h:Vals xs us):Vals xs.dropLast us.dropLast:=by
 induction h with
 | nil=>exact .nil
 | cons r t ih =>
  cases t with
  | nil=>exact .nil
  | cons q t'=>exact .cons r ih
theorem PK {α:Type} (l:List α):l.eraseIdx (l.length-1)=l.dropLast:=by
 induction l with
 | nil=>rfl
 | cons a r ih =>
  cases r with
  | nil=>rfl
  | cons b r =>
   have e:(a::b::r).length-1=((b::r).length-1)+1:=by
    have h1:(a::b::r).length=r.length+2:=rfl;have h2:(b::r).length=r.length+1:=rfl;lia
   rw [e,tU,ih]
   all_goals rfl
section
variable {l:ai}{zs:List V}
theorem Inv.lset {f:Array au->Array au}(I:Inv X pins Z H s) (hH:H l=some (.lst xs))
  (e:s.heap.get? l=some { cls:=.type "list",data:=.seq its.toArray n }) (hf:f its.toArray=its'.toArray) (hv:Vals ys its') (hz:ys.length<=aZ) :
  Inv X pins Z (upd H l (.lst ys)) { s with heap:=s.heap.update l (bH f),toks:=t' }:=by
 have q:=PySem.IsL.update e f;rw [hf] at q;refine I.write (x:=l) (e:=l) (by rw [hH];exact trivial) (.inl rfl) (λb' u hb hu=>(cf s.heap (bH f) (Ne.symm hb)).trans hu) ⟨_,q⟩ ?_;exact ⟨hz,its',_,hv,q⟩
theorem Inv.lnew (I:Inv X pins Z H s) (hv:Vals ys its) (hz:ys.length<=aZ) :
  Inv X pins Z (upd H s.heap.objs.size (.lst ys)) { s with heap:=s.heap.push { cls:=.type "list",data:=.seq its.toArray },toks:=t' } :=
 I.laid (λ_ _ q=>ax _ q) (aB _) ⟨hz,its,0,hv,aP _ rfl⟩
theorem Inv.fresh (I:Inv X pins Z H s):H s.heap.objs.size=none:=I.fh.fresh (aB _)
theorem Inv.aaL (I:Inv X pins Z H s) (hH:H l=some (.lst xs)):xs.length<=aZ/\∃ (its:List au) (n:Nat),Vals xs its/\xs.length=its.length/\s.heap.get? l=some { cls:=.type "list",data:=.seq its.toArray n }:=by
 obtain ⟨z,its,n,r,e⟩:=I.fh l _ hH;exact ⟨z,its,n,r,r.length,e⟩
end
def vg:V->List V->Hp->VK->Prop:=λx vs H Q=>∃ l xs y,x=.ref l/\vs=[y]/\H l=some (.lst xs)/\xs.length<aZ/\Q .non (upd H l (.lst (xs++[y])))
theorem Il:VG X "list.append" vg:=by
 intro pins s Z H x vs v us Q I rx rv h;obtain ⟨l,xs,y,rfl,rfl,hH,hz,q⟩:=h;cases rx;obtain ⟨u,rfl,ru⟩:=rv.one;obtain ⟨z,its,n,r,hl,e⟩:=I.aaL hH;refine Vl F.slot_list_append ⟨_,e,rfl⟩ F.entry_list_append (F.args_list_append_2 _ _) (PySem.list_append l its.toArray n u (by rw [bc];lia)) ⟨e,?_⟩;refine ⟨.non,_,I.lset (its':=its++[u]) hH e (by simp) (r.append (.cons ru .nil)) ?_,rfl,q⟩;rw [bD,Vm];lia
def acu:V->List V->Hp->VK->Prop:=λx vs H Q=>∃ l xs y,x=.ref l/\vs=[]/\H l=some (.lst xs)/\xs[xs.length-1]?=some y/\Q y (upd H l (.lst xs.dropLast))
theorem acv:VG X "list.pop" acu:=by
 intro pins s Z H x vs v us Q I rx rv h;obtain ⟨l,xs,y,rfl,rfl,hH,hy,q⟩:=h;cases rx;have hus:=rv.zero;subst hus;obtain ⟨z,its,n,r,hl,e⟩:=I.aaL hH;obtain ⟨u,hu,ru⟩:=r.get hy
 have hy':its.toArray[its.toArray.size-1]?=some u:=by
  show its.toArray[its.length-1]?=some u
  rw [← cn,← hl];exact hu
 refine Vl F.slot_list_pop ⟨_,e,rfl⟩ F.entry_list_pop (F.args_list_pop_1 _) (MeetsSeq.list_pop_last l its.toArray n u hy' (by rw [bc];lia)) ⟨e,?_⟩;refine ⟨y,_,I.lset (its':=its.dropLast) hH e ?_ r.dropLast ?_,ru,q⟩
 .show its.toArray.eraseIdxIfInBounds (its.toArray.size-1)=its.dropLast.toArray
  rw [bc,List.eraseIdxIfInBounds_toArray,PK]
 .rw [VL];lia
def rCat:R2:=λx y H Q=>∃ l b xs zs,x=.ref l/\y=.ref b/\H l=some (.lst xs)/\H b=some (.lst zs)/\xs.length+zs.length<=aZ/\∀ p,H p=none->Q (.ref p) (upd H p (.lst (xs++zs)))
theorem acw:qR X (qN .Add) rCat:=by
 intro pins s Z H x y v u Q I rx ry h;obtain ⟨l,b,xs,zs,rfl,rfl,hH,hB,hz,q⟩:=h;cases rx;cases ry;obtain ⟨z,its,n,r,hl,e⟩:=I.aaL hH;obtain ⟨z2,its2,n2,r2,hl2,e2⟩:=I.aaL hB;refine PySem.P.add_list e e2 ?_ (by rw [bc,bc];lia)
 have ea:its.toArray++its2.toArray=(its++its2).toArray:=by simp
 rw [ea];exact ⟨.ref _,_,I.lnew (t':=s.toks) (r.append r2) (by rw [bD];lia),rfl,q _ I.fresh⟩
section
variable {prog:bQ}
end
section
variable {κ:Type} [DecidableEq κ]
def lS (kvs:List (κ×V)) (k:κ):Option V:=(kvs.find? λkv=>decide (kv.1=k)).map (·.2)
def vI (kvs:List (κ×V)) (k:κ) (v:V):List (κ×V) :=
 if (kvs.any λkv=>decide (kv.1=k))=true then kvs.map (λkv=>if kv.1=k then (kv.1,v) else kv) else kvs++[(k,v)]
def qT (kvs:List (κ×V)) (k:κ):List (κ×V):=kvs.filter λkv=>decide (kv.1≠k)
theorem t9 {p:κ×V}{r:List (κ×V)}{k:κ}(e:p.1=k):lS (p::r) k=some p.2:=by simp [lS,mw,e]
theorem qU {p:κ×V}{r:List (κ×V)}{k:κ}(e:¬ p.1=k):lS (p::r) k=lS r k:=by simp [lS,mw,e]
theorem yb (k:κ):∀ kvs:List (κ×V),(kvs.any λkv=>decide (kv.1=k))=(lS kvs k).isSome
 | []=>rfl
 | p::r=>by
  rw [A9]
  by_cases e:p.1=k
  .simp only [t9 e,decide_eq_true e,Bool.true_or,Option.isSome_some]
  .rw [qU e,decide_eq_false e,tu];exact yb k r
theorem Bd (kvs:List (κ×V)) (k:κ) (v:V):(vI kvs k v).length<=kvs.length+1:=by
 unfold vI
 split
 .rw [ag];lia
 .rw [bD,bz,pU];lia
theorem Wg {kvs:List (κ×V)}{k:κ}(v:V) (h:lS kvs k=none):vI kvs k v=kvs++[(k,v)]:=by
 unfold vI;rw [yb,h];exact if_neg (by decide)
theorem uX.rB {u:Option au}(r:uX o u):o.isSome=u.isSome:=by
 cases o with
 | none=>cases u with
  | none=>rfl
  | some _=>exact (show False from r).elim
 | some _=>cases u with
  | none=>exact (show False from r).elim
  | some _=>rfl
theorem KV.val {kvs:List (κ×V)}{vs:List (κ×au)}(r:KV kvs vs) (k:κ):uX (lS kvs k) (LX vs k):=by
 unfold KV at r
 induction r with
 | nil=>exact jc
 | @cons p q ps qs h t ih =>
  obtain ⟨h1,h2⟩:=h
  by_cases e:p.1=k
  .have e':q.1=k:=h1.symm.trans e
   have b:LX (q::qs) k=some q.2:=by simp [LX,mw,e']
   rw [t9 e,b];exact h2
  .have e':¬ q.1=k:=λz=>e (h1.trans z)
   have b:LX (q::qs) k=LX qs k:=by simp [LX,mw,e']
   rw [qU e,b];exact ih
theorem KV.any {kvs:List (κ×V)}{vs:List (κ×au)}(r:KV kvs vs) (k:κ):(kvs.any λkv=>decide (kv.1=k))=vs.any λkv=>decide (kv.1=k):=by
 unfold KV at r
 induction r with
 | nil=>rfl
 | cons h t ih=>rw [A9,A9,ih,h.1]
theorem KV.adB {kvs:List (κ×V)}{vs:List (κ×au)}(r:KV kvs vs) (k:κ) {y:V}{u:au}(ry:RelV y u) :
  KV (kvs.map λkv=>if kv.1=k then (kv.1,y) else kv) (vs.map λkv=>if kv.1=k then (kv.1,u) else kv):=by
 unfold KV at r ⊢
 induction r with
 | nil=>exact .nil
 | @cons p q ps qs h t ih =>
  rw [bu,bu];refine .cons ?_ ih;obtain ⟨h1,h2⟩:=h
  by_cases e:p.1=k
  .rw [if_pos e,if_pos (h1.symm.trans e)];exact ⟨h1,ry⟩
  .rw [if_neg e,if_neg (λz=>e (h1.trans z))];exact ⟨h1,h2⟩
theorem KV.put {kvs:List (κ×V)}{vs:List (κ×au)}(r:KV kvs vs) (k:κ) {y:V}{u:au}(ry:RelV y u):KV (vI kvs k y) (stored vs k u):=by
 unfold vI stored;rw [r.any k]
 by_cases e:(vs.any λkv=>decide (kv.1=k))=true
 .rw [if_pos e,if_pos e];exact r.adB k ry
 .rw [if_neg e,if_neg e];exact Paired.snoc r ⟨rfl,ry⟩
theorem KV.length {kvs:List (κ×V)}{vs:List (κ×au)}(r:KV kvs vs):kvs.length=vs.length:=zC r
end
theorem MI {k:jz}(r:RelV (kV k) u):(fY P w).is k u=true:=by
 cases k with
 | inl i=>obtain ⟨t,e⟩:=(show ∃ t,u=gX i t from r);subst e;exact Mu P w i t
 | inr x=>obtain ⟨t,e⟩:=(show ∃ t,u=tM x t from r);subst e;exact Mv P w x t
theorem Im:∀ {ks:List jz}{us:List au},Vals (ks.map kV) us->ItemsAre (fY P w) ks us
 | [],_,r=>by rw [Tx] at r;cases r;exact .nil
 | k::ks,_,r=>by
  rw [bu] at r
  cases r with
  | cons h t=>exact .cons (MI h) (Im t)
abbrev KT (H:Hp):List (List jz×V)->List (List jz×ai×au)->Prop:=Paired λp q=>p.1=q.1/\H q.2.1=some (.tup (p.1.map kV))/\RelV p.2 q.2.2
theorem KT.val {kvs:List (List jz×V)}{xs:List (List jz×ai×au)}(r:KT H kvs xs) (k:List jz):uX (lS kvs k) ((LY xs k).map (·.2)):=by
 induction r with
 | nil=>exact jc
 | @cons p q ps qs h t ih =>
  obtain ⟨h1,_,h2⟩:=h
  by_cases e:p.1=k
  .have e':q.1=k:=h1.symm.trans e
   have b:LY (q::qs) k=some q.2:=by simp [LY,mw,e']
   rw [t9 e,b];exact h2
  .have e':¬ q.1=k:=λz=>e (h1.trans z)
   have b:LY (q::qs) k=LY qs k:=by simp [LY,mw,e']
   rw [qU e,b];exact ih
theorem KT.adB {kvs:List (List jz×V)}{xs:List (List jz×ai×au)}(r:KT H kvs xs) (k:List jz) {y:V}{u:au}(ry:RelV y u) :
  KT H (kvs.map λkv=>if kv.1=k then (kv.1,y) else kv) (xs.map (putAt k u)):=by
 induction r with
 | nil=>exact .nil
 | @cons p q ps qs h t ih =>
  rw [bu,bu];refine .cons ?_ ih;obtain ⟨h1,h2,h3⟩:=h;unfold putAt
  by_cases e:p.1=k
  .rw [if_pos e,if_pos (h1.symm.trans e)];exact ⟨h1,h2,ry⟩
  .rw [if_neg e,if_neg (λz=>e (h1.trans z))];exact ⟨h1,h2,h3⟩
theorem KT.put {kvs:List (List jz×V)}{xs:List (List jz×ai×au)}(r:KT H kvs xs) (k:List jz) {b:ai}{y:V}{u:au}(hb:H b=some (.tup (k.map kV))) (ry:RelV y u) :
  KT H (vI kvs k y) (storedH xs k b u):=by
 have e:(kvs.any λkv=>decide (kv.1=k))=(LY xs k).isSome:=by
  rw [yb,(r.val k).rB,B4]
 unfold vI storedH;rw [e]
 by_cases q:(LY xs k).isSome=true
 .rw [if_pos q,if_pos q];exact r.adB k ry
 .rw [if_neg q,if_neg q];exact Paired.snoc r ⟨rfl,hb,ry⟩
theorem KT.keeps {kvs:List (List jz×V)}{xs:List (List jz×ai×au)}(r:KT H kvs xs) (ht:∀ b ys,H b=some (.tup ys)->H' b=some (.tup ys)):KT H' kvs xs :=
 Paired.Vb r λ_ _ z=>⟨z.1,ht _ _ z.2.1,z.2.2⟩
section
variable {h:cI}
theorem abe {u:HO}(ok:tq P w H h) (e:Rd H a u):fS P w H h a u:=e.ok ok
theorem Io {kvs:List (jz×V)}(ok:tq P w H h) (e:Rd H a (.dK kvs)):kvs.length<=aZ/\(a == kF)=false/\∃ vs,KV kvs vs/\h.DictOf (fY P w) a vs :=
 show fS P w H h a (.dK kvs) from abe ok e
theorem abf {kvs:List (jz×V)}(ok:tq P w H h) (e:H a=some (.dK kvs)):kvs.length<=aZ/\(a == kF)=false/\∃ vs,KV kvs vs/\h.DictOf (fY P w) a vs:=Io ok (.inl e)
theorem ua {ks:List jz}(ok:tq P w H h) (e:H a=some (.tup (ks.map kV))):(mj (fY P w)).is h ks a:=by
 obtain ⟨_,its,r,o,h1,h2,n,h3⟩:=(show fS P w H h a (.tup (ks.map kV)) from ok a _ e)
 exact ⟨o,its.toArray,n,h1,h2,h3,by simpa using Im r⟩
theorem Ip {kvs:List (List jz×V)}(ok:tq P w H h) (e:Rd H a (.dT kvs)):kvs.length<=aZ/\(a == kF)=false /\
  ∃ xs,KT H kvs xs/\h.DictOfH (mj (fY P w)) a xs:=by
 obtain ⟨z,y,xs,r,o,es,ep,h1,h2,h3,h4,h5⟩:=(show fS P w H h a (.dT kvs) from abe ok e)
 refine ⟨z,y,xs,r,o,es,ep,h1,h2,h3,h4,λx hx=>?_,h5⟩
 have all:∀ {l:List (List jz×V)}{m:List (List jz×ai×au)},KT H l m->∀ x∈m,(mj (fY P w)).is h x.1 x.2.1:=by
  intro l m q
  induction q with
  | nil=>intro x hx;exact nomatch hx
  | @cons p q ps qs hq t ih =>
   intro x hx
   rcases aj.mp hx with e|hx
   .subst e;exact ua ok (by rw [← hq.1];exact hq.2.1)
   .exact ih x hx
 exact all r x hx
theorem aeo {kvs:List (List jz×V)}(ok:tq P w H h) (e:H a=some (.dT kvs)):kvs.length<=aZ/\(a == kF)=false /\
  ∃ xs,KT H kvs xs/\h.DictOfH (mj (fY P w)) a xs:=Ip ok (.inl e)
end
def A6 (H:Hp) (a:ai) (y:V) (r:Option V):Prop :=
 (∃ kvs k,Rd H a (.dK kvs)/\y=kV k/\r=lS kvs k)\/∃ kvs k b,Rd H a (.dT kvs)/\y=.ref b/\H b=some (.tup (k.map kV))/\r=lS kvs k
def HR (H:Hp) (a:ai) (y v:V) (H':Hp):Prop :=
 (∃ kvs k,H a=some (.dK kvs)/\y=kV k/\kvs.length<aZ/\H'=upd H a (.dK (vI kvs k v))) \/
 ∃ kvs k b,H a=some (.dT kvs)/\y=.ref b/\H b=some (.tup (k.map kV))/\kvs.length<aZ/\H'=upd H a (.dT (vI kvs k v))
theorem A6.t {kvs:List (List jz×V)}{k:List jz}(e:H a=some (.dT kvs)) (eb:H b=some (.tup (k.map kV))):A6 H a (.ref b) (lS kvs k):=.inr ⟨kvs,k,b,.inl e,rfl,eb,rfl⟩
theorem HR.t {kvs:List (List jz×V)}{k:List jz}(e:H a=some (.dT kvs)) (eb:H b=some (.tup (k.map kV))) (hl:kvs.length<aZ) :
  HR H a (.ref b) v (upd H a (.dT (vI kvs k v))):=.inr ⟨kvs,k,b,e,rfl,eb,hl,rfl⟩
section
variable {r:au}
theorem Inv.big (I:Inv X pins Z H s):kF<s.heap.objs.size:=by
 have h:br<s.heap.objs.size:=(I.mod.glob.keeps I.bk).lt;exact Gh (by decide) h
theorem Iq (hu:A.units+1<i8) (I:Inv X pins Z H s) (g:A6 H a y (some v)) (ry:RelV y u) (h:∀ w' s',Inv X pins Z H s'->RelV v w'->Q w' s') :
  aQ (a7 X.prog X.w) A (getItem (.ref a) u) Q E s:=by
 rcases g with ⟨kvs,k,e,ey,l⟩|⟨kvs,k,b,e,ey,eb,l⟩
 .subst ey;obtain ⟨z,hd,vs,rel,dd⟩:=Io I.fh e;obtain ⟨w',hw,rw'⟩:=uX.some_of (v:=v) (o:=LX vs k) (by rw [l];exact rel.val k);exact wpAny_getItem_of (MI ry) dd.mapOf hw (h w' _ (I.tok _) rw')
 .subst ey;cases (show u=aH b from ry);obtain ⟨z,hd,xs,rel,dd⟩:=Ip I.fh e;obtain ⟨w',hw,rw'⟩:=uX.some_of (v:=v) (o:=(LY xs k).map (·.2)) (by rw [l];exact rel.val k);obtain ⟨p,hp,hp2⟩:=fT.mp hw;refine wpAny_getItem_heap (kI hu) (ua I.fh eb) dd hp ?_;rw [hp2];exact h w' _ (I.tok _) rw'
theorem d_in (hu:A.units+1<i8) (I:Inv X pins Z H s) (g:A6 H a y o) (ry:RelV y u) (h:∀ s',Inv X pins Z H s'->Q (.bool o.isSome) s') :
  aQ (a7 X.prog X.w) A (dh .In u (.ref a)) Q E s:=by
 rcases g with ⟨kvs,k,e,ey,l⟩|⟨kvs,k,b,e,ey,eb,l⟩
 .subst ey;obtain ⟨z,hd,vs,rel,dd⟩:=Io I.fh e;refine wpAny_in_of (MI ry) hd dd.mapOf ?_;rw [← (rel.val k).rB,← l];exact h _ (I.tok _)
 .subst ey;cases (show u=aH b from ry);obtain ⟨z,hd,xs,rel,dd⟩:=Ip I.fh e;refine wpAny_in_heap (kI hu) (ua I.fh eb) hd dd ?_;have q:=(rel.val k).rB;rw [B4] at q;rw [← q,← l];exact h _ (I.tok _)
theorem ZN (hu:A.units+1<i8) (I:Inv X pins Z H s) (g:A6 H a y o) (ry:RelV y u) (h:∀ s',Inv X pins Z H s'->Q (.bool (!o.isSome)) s') :
  aQ (a7 X.prog X.w) A (dh .NotIn u (.ref a)) Q E s:=by
 rcases g with ⟨kvs,k,e,ey,l⟩|⟨kvs,k,b,e,ey,eb,l⟩
 .subst ey;obtain ⟨z,hd,vs,rel,dd⟩:=Io I.fh e;refine wpAny_notIn_of (MI ry) hd dd.mapOf ?_;rw [← (rel.val k).rB,← l];exact h _ (I.tok _)
 .subst ey;cases (show u=aH b from ry);obtain ⟨z,hd,xs,rel,dd⟩:=Ip I.fh e;refine wpAny_notIn_heap (kI hu) (ua I.fh eb) hd dd ?_;have q:=(rel.val k).rB;rw [B4] at q;rw [← q,← l];exact h _ (I.tok _)
theorem JB {ob:HO}(I:Inv X pins Z H s) (mu:Mut (H a)) (hs:iB a s.heap h') (he:∃ q,h'.get? a=some q) (new:fS X.prog X.w (upd H a ob) h' a ob) :
  Inv X pins Z (upd H a ob) { s with heap:=h',toks:=t' } :=
 I.write (x:=a) (e:=a) mu (.inl rfl) (λb q hb z=>(hs.2 b hb).trans z) he new
theorem acx {kvs:List (jz×V)}{vs:List (jz×au)}(z:kvs.length<=aZ) (hd:(a == kF)=false) (rel:KV kvs vs) (dd:h'.DictOf (fY P w) a vs) :
  fS P w H' h' a (.dK kvs):=⟨z,hd,vs,rel,dd⟩
theorem Ir {Q:Unit->aC->Prop}(hu:A.units+1<i8) (I:Inv X pins Z H s) (g:HR H a y v H') (ry:RelV y u) (rv:RelV v r) (h:∀ s',Inv X pins Z H' s'->Q () s') :
  aQ (a7 X.prog X.w) A (setItem (.ref a) u r) Q E s:=by
 rcases g with ⟨kvs,k,e,ey,l,eH⟩|⟨kvs,k,b,e,ey,eb,l,eH⟩
 .subst ey eH;obtain ⟨z,hd,vs,rel,dd⟩:=abf I.fh e
  have hz:vs.length<=aZ:=by rw [← rel.length];exact z
  have hl:(vI kvs k v).length<=aZ:=by have:=Bd kvs k v;lia
  refine wpAny_setItem_pairs (hsz:=hz) (MI ry) dd λh' dd' hs=>h _ ?_
  have he:∃ q,h'.get? a=some q:=let ⟨q,_,_,hq,_⟩:=dd';⟨q,hq⟩
  exact JB I (by rw [e];exact jc) hs he (acx hl hd (rel.put k rv) dd')
 .subst ey eH;cases (show u=aH b from ry);obtain ⟨z,hd,xs,rel,dd⟩:=aeo I.fh e
  have hz:xs.length<=aZ:=by rw [← zC rel];exact z
  have hl:(vI kvs k v).length<=aZ:=by have:=Bd kvs k v;lia
  refine wpAny_setItem_heap (hsz:=hz) (kI hu) (ua I.fh eb) dd λh' dd' hs=>h _ ?_;obtain ⟨q,es,ep,hq,h2,h3,h4,_,h5⟩:=dd';refine JB I (by rw [e];exact jc) hs ⟨q,hq⟩ ⟨hl,hd,_,(rel.put k eb rv).keeps λc ys ec=>?_,q,es,ep,hq,h2,h3,h4,h5⟩;rw [aI (jW ec e nofun)];exact ec
end
section
variable {kvs:List (jz×V)}{k:jz}
theorem aep (I:Inv X pins Z H s) (e:Rd H a (.dK kvs)) (h:∀ t s',Inv X pins Z H s'->Q (.int kvs.length t) s'):aQ (a7 X.prog X.w) A (call (.builtin "len") [.ref a]) Q E s:=by
 obtain ⟨z,hd,vs,rel,dd⟩:=Io I.fh e;refine call_len_dict hd dd (by rw [← rel.length];rw [vA] at z;lia) ?_;rw [← rel.length];exact h _ _ (I.tok _)
end
theorem MJ (I:Inv X pins Z H s) (g:A6 H a y o):s.TypeIs (.ref a) "dict":=by
 rcases g with ⟨kvs,k,e,_,_⟩|⟨kvs,k,b,e,_,_,_⟩
 .obtain ⟨_,_,vs,_,dd⟩:=Io I.fh e;exact dd.typeIs
 .obtain ⟨_,_,xs,_,dd⟩:=Ip I.fh e;exact dd.typeIs
def abg (td ty tv:TE) (rd:V->V->Hp->VK->Prop):TS:=λD Z H=>td Z H λx H1=>ty Z H1 λy H2=>∃ a v,x=.ref a/\A6 H2 a y (some v) /\
 tv Z H2 λy2 H3=>rd v y2 H3 λz H4=>∃ H5,HR H4 a y z H5/\D.nx Z H5
section
variable {o i value:Expr}{pos' tpos:vQ}{td ty tv:TE}
theorem ZO {op:LQ}{rd:V->V->Hp->VK->Prop}(hu:X.A.units+1<i8) (ho:PE X o td) (hi:PE X i ty) (hv:PE X value tv) (hop:aco X op rd)
  (ha:∀ ov iv new,augStore i ov iv new=(do ml [new,ov,iv] (setItem ov iv new);release [new,ov,iv] [];pure .next)):PS X (.AugAssign (.Subscript o i tpos) op value pos) (abg td ty tv rd):=by
 intro pins s Z H D I h;refine wpAny_AugAssign_SubscriptAny (gN (ho pins s Z H _ I h) λu s1 ⟨x,H1,I1,rx,q1⟩=>gN (hi pins s1 Z H1 _ I1 q1) λiv s2 ⟨y,H2,I2,ry,a,v,ex,g,q2⟩=>?_) ha;subst ex;obtain rfl:u=aH a:=rx;refine Iq hu I2 g ry λw' s3 I3 rw'=>gN (hv pins s3 Z H2 _ I3 q2) λw2 s4 ⟨y2,H3,I4,ry2,q3⟩=>gN (hop pins s4 Z H3 v y2 w' w2 _ I4 rw' ry2 q3) λw3 s5 ⟨z,H4,I5,rz,H5,g5,q4⟩=>?_
 exact Ir hu I5 g5 ry rz λs6 I6=>⟨Z,H5,I6,q4⟩
end
theorem Wh (h:cI) (hb:kF<h.objs.size):fS P w H (h.push { cls:=.type "dict",data:=.dict #[] }) h.objs.size (.dT []) :=
 ⟨bC _,beq_eq_false_iff_ne.mpr (Ne.symm (a6 hb)),[],.nil,_,#[],0,aP _ rfl,⟨rfl,rfl,rfl⟩,rfl,rfl,xX⟩
def DK:TE:=λ_ H Q=>∀ p,H p=none->Q (.ref p) (upd H p (.dT []))
theorem Wi:PE X (.Dict [] [] pos) DK:=λpins s Z H Q I h =>
 wpAny_Dict_empty ⟨.ref s.heap.objs.size,_,I.laid (a:=s.heap.objs.size) (o:=.dT []) (t':=s.toks) (λ_ _ q=>ax _ q) (aB _) (Wh s.heap I.big),rfl,h _ (I.fh.fresh (aB _))⟩
section
variable {d:V}{r:au}
end
section
variable {o f:Expr}{td ty tx:TE}
end
section
variable {kvs:List (jz×V)}
end
end L2
namespace Att
open PySem PySem.W PySem.Calls PyProof.Rows
theorem Ci {P:Params}{h:cI}:∀ (ns:List Int) (vs:List au),WellAll P h vs (ns.map WData.int)->gC vs ns:=by
 intro ns
 induction ns with
 | nil =>
  intro vs w;rw [Tx] at w;cases w
  exact .nil
 | cons n ns ih =>
  intro vs w;rw [bu] at w
  cases w with
  | cons a b =>
   cases a;exact .cons _ _ (ih _ b)
theorem Ud {l:tw}{n:Nat}(hn:l.most=some n) {P:Params}{h:cI}{args:List WData}{vals:List au}
  (hpre:l.row.toRowW.claim.pre args=true) (hwl:WellAll P h vals args) :
  ∃ a vs ns,vals=[aH a]/\args=[WData.list (ns.map WData.int)]/\h.get? a=some { cls:=.type "list",data:=.seq vs.toArray }/\gC vs ns/\ns.length<=n:=by
 have hsh:WShape.hasAll [] args [.list .int]=true:=(pre_splitW hpre).1;have hc:l.pre.holds [] { args:=args }=true:=(pre_splitW hpre).2;obtain ⟨d,r,rfl,h1,h2⟩:=hasAllW_cons hsh;obtain rfl:=hasAllW_nil h2;obtain ⟨xs,rfl,h3⟩:=hasW_list h1;obtain ⟨ns,rfl⟩:=items_int h3
 have hlen:ns.length<=n:=by
  unfold OpenLaw.pre at hc
  have h4:(WTm.not (.lt (.lit (.int (n:Int))) (.len (.arg 0)))).holds [] { args:=[.list (ns.map .int)] }=true:=by
   have h4:=(holds_andW hc).1;rw [hn] at h4;exact h4
  have h5:=condW_of h4 (w_not (w_lt w_lit (w_len_list (w_arg rfl))));rw [ag] at h5;refine oH λq=>?_
  have q':(n:Int)<((ns.length:Nat):Int):=by lia
  first
   | (rw [decide_eq_true q'] at h5;exact absurd h5 (by decide))
   | (simp at h5;lia)
 cases hwl with
 | cons w1 w2 =>
  cases w2
  cases w1 with
  | list ho hall=>exact ⟨_,_,ns,rfl,rfl,ho,Ci ns _ hall,hlen⟩
theorem Ue (l:tw) (args:List WData):l.row.toRowW.claim.post args (.bool true) args=true :=
 postW_of (r:=l.row.toRowW) (X:=(true == true))
  (show WShape.has [] (.bool true) .bool=true by first|rfl|decide|simp [WShape.has,WShape.arms,WShape.armsAll])
  (show (WTm.eq .res (.lit (.bool true))).value [] { args:=args,res:=some (.bool true),after:=args }=some (.bool (true == true)) from w_eq_bool (w_res rfl) w_lit) rfl
theorem MK {l:tw}{n:Nat}{q:bQ}{loose:List aY}{XP:(aY->Option au)->cI->Prop}{YP:cK->cI->Prop}{d:DefRec}
  (hn:l.most=some n) (hdf:d.params.defaults=[])
  (call:∀ (w:cK) (s₀ s₁:aC) (mg mb:aY->Option au) (fa:ai) (o:iW) (pm cd doc:au) (a:ai) (vs:List au) (ns:List Int),
   Ground q loose [] XP w s₀ mg mb s₁.heap->YP w s₁.heap ->
   s₁.heap.get? fa=some o->o.data=.func (docDef d.name d.params d.body d.scope pm cd doc)->s₁.heap.CodeRec cd d.name->mg d.name=some (.ref fa) ->
   s₁.heap.get? a=some { cls:=.type "list",data:=.seq vs.toArray }->gC vs ns->ns.length<=n->s₁.gens=#[] ->
   mn (a7 l.prog w) LZ (.call (.ref fa) ⟨[.ref a],[]⟩) (λr s'=>r=.ok (.ret (.bool true))/\OldK s₁.heap s'.heap/\s'.os=s₁.os/\vw s'.gens) s₁) :
  YV q loose XP YP l.row.toRowW d [] (λf vs=>YW f vs):=by
 intro w s₀ s₁ mg mb G Y fa o pm cd doc dV kV ho hd hcd hD hmg hg args vals as hpre hlay hrd hwl hlo;obtain rfl:dV=.none:=Dflts.none hD hdf;obtain rfl:kV=.none:=Dflts.noKw hD;obtain ⟨a,vs,ns,rfl,rfl,hobj,hints,hlen⟩:=Ud hn hpre hwl;refine enter_call (mv (call w s₀ s₁ mg mb fa o pm cd doc a vs ns G Y ho (fd_plain hd) hcd hmg hobj hints hlen hg) λr s' hq=>?_);obtain ⟨rfl,h2,h3,h4⟩:=hq;exact ⟨.inl ⟨.bool true,.bool true,[],rfl,λ_=>rfl,.bool true,Ue l _,λ_=>⟨Mq,λ_ hm=>(nomatch hm)⟩⟩,h2,h3,h4⟩
section
variable {prog:bQ}{w:cK}{A:eD}{E:au->aC->Prop}{s:aC}{K:aa}
end
end Att
namespace L2
variable {H H':Hp}{K:aa}{X:Cx}{xs:List V}{scope:tL}{v:V}{i j:Int}{Z:St}{x qual y:aY}{s:aC}{pins:List (ai×iW)}{a p f:ai}{elt iter tg:Expr}{ifs:List Expr}{pos:vQ}{st:cH}{N ps own ys:List aY}{env:zB}{ds:List PyData}{fd:gA}{sp:Sp}{cells:List (aY×ai)}{js:List Nat}{g:TG}{te to:TE}{Q:VK}{R:St->Hp->Prop}{w:cK}
theorem z6:∀ {vs:List au}{ns:List Int},gC vs ns->Vals (ns.map V.int) vs
 | _,_,.nil=>.nil
 | _,_,.cons n t h=>.cons ⟨t,rfl⟩ (z6 h)
def dE (s:cH) (j:Nat):cH:=match s with
 | .ClassDef _ _ _ body _ _ _ _ _ _ _=>body.getD j (.Pass ⟨0,0,0,0⟩)
 | _=>.Pass ⟨0,0,0,0⟩
def qb (s:cH):xO:=match s with
 | .FunctionDef _ a _ _ _ _ _ _ _ _=>a
 | _=>{ posonlyargs:=[],args:=[],vararg:=none,kwonlyargs:=[],kw_defaults:=[],kwarg:=none,defaults:=[] }
def kA (s:cH):List cH:=match s with
 | .FunctionDef _ _ b _ _ _ _ _ _ _=>b
 | _=>[]
def aM (s:cH):tL:=match s with
 | .FunctionDef _ _ _ _ _ _ sc _ _ _=>sc
 | _=>{ kind:=.function,names:=[],isGenerator:=false,isCoroutine:=false }
abbrev eW:Mj:=λ_ _ _ _ _ _=>False
abbrev E0:XK:=λ_ _ _=>False
theorem i6:lR eW X E0:=λ_ _ _ _ _ _ _ h=>h.elim
structure lK (K:aa) (x qual:aY) (st:cH) (f:ai) (fd:gA):Prop where
 ex:∃ (oc:au) (od:Option ai) (kV doc pm:au) (an:Option ai) (mM ct:au) (osl:Array (Option au)),
  fd=i4 x qual (qb st) (kA st) (aM st) .none kV doc pm an mM ct/\K.lookup f=some ⟨oc,od,.func fd,osl⟩/\pZ K mM qual=true
 kp:c6 K (.ref f)=true
section
variable {P:bQ}{mg:aY->Option au}{base:cI}
theorem lK.ok {k:Nat}(F:lK K x qual st f fd) (S:bb N ps (aM st)) (len:∀ vs H Q E,sp vs H Q E->vs.length=ps.length)
  (hbody:∀ (mM:au) (A:eD) (outer:List zB) (s:aC) (H:Hp) (vs:List V) (Q:VK) (E:XK),iu k (A.deeper (mI qual (aM st) s.heap.objs.size f mM))->sp vs H Q E ->
   ∃ t,LO (mG eW P w K mg base N qual (aM st) f mM A outer s H E).nox (kA st) t/\t { nx:=λ_ H'=>Q .non H',rt:=Q } (start N vs) H):dC P w K mg base eW (k+1) f fd ps sp:=by
 obtain ⟨oc,od,kV,doc,pm,an,mM,ct,osl,rfl,lk,hcd⟩:=F.ex;refine V8 lk hcd S len λA outer s H vs Q E hr hsp=>?_;obtain ⟨t,h,q⟩:=hbody mM A outer s H vs Q E hr hsp;exact ⟨t,h.nox,q⟩
theorem lK.binds (F:lK K x qual st f fd)
  (h:∀ (kV doc pm:au) (an:Option ai) (mM ct:au) (us:List au),us.length=ps.length->LU (i4 x qual (qb st) (kA st) (aM st) .none kV doc pm an mM ct) ⟨us,[]⟩=pure (ps.zip us)):Binds K fd ps []:=by
 obtain ⟨oc,od,kV,doc,pm,an,mM,ct,osl,rfl,lk,hcd⟩:=F.ex;exact .all (h kV doc pm an mM ct)
theorem JC {oc:au}{od an:Option ai}{osl:Array (Option au)}{kV doc pm mM ct:au}(l:K.lookup f=some ⟨oc,od,.func (i4 x qual (qb st) (kA st) (aM st) .none kV doc pm an mM ct),osl⟩)
  (c:pZ K mM qual=true) (k:c6 K (.ref f)=true):lK K x qual st f (i4 x qual (qb st) (kA st) (aM st) .none kV doc pm an mM ct):=⟨⟨oc,od,kV,doc,pm,an,mM,ct,osl,rfl,l,c⟩,k⟩
end
theorem pv (i:Nat) {x:aY}{pos:vQ}(hN:X.N[i]?=some x:=by rfl) (hv:Vis X.env.scope x:=by first|exact Or.inl rfl|exact Or.inr (Or.inl rfl)|exact Or.inr (Or.inr rfl)) (hd:(x == ("__debug__":aY))=false:=by decide)
  (hcd:(x == ("__classdict__":aY))=false:=by decide):PE X (.Name x pos) (ak i):=ab9 hN hv hd hcd
theorem je {A B:Prop}(h:B):if false=true then A else B:=by
 rw [if_neg bG];exact h
theorem kB {A B:Prop}(h:A):if true=true then A else B:=by
 rw [if_pos rfl];exact h
def bY (H H':Hp):Prop:=∀ b o,H b=some o->H' b=some o
theorem bY.trans {H1 H2:Hp}(a:bY H H1) (b:bY H1 H2):bY H H2:=λc o h=>b c o (a c o h)
theorem bY.free (e:bY H H') {l:ai}(h:H' l=Option.none):H l=Option.none:=by
 cases q:H l with
 | none=>rfl
 | some o =>
  rw [e l o q] at h;cases h
theorem bY.seq (e:bY H H') (h:cW K H a xs):cW K H' a xs:=by
 rcases h with (h|⟨o,h⟩)|h
 .exact .inl (.inl (e _ _ h))
 .exact .inl (.inr ⟨o,e _ _ h⟩)
 .exact .inr h
theorem Ug:lM X (.builtin "len") (λxs H Q=>∃ a kvs,xs=[V.ref a]/\H a=some (.dK kvs)/\Q (.int kvs.length) H):=by
 intro pins s Z H xs us Q I r h;obtain ⟨a,kvs,rfl,ha,q⟩:=h;obtain ⟨u,rfl,ru⟩:=vals1 r;cases ru
 exact aep I (.inl ha) λt s' I'=>⟨.int kvs.length,H,I',⟨t,rfl⟩,q⟩
section
variable {κ:Type} [DecidableEq κ]
theorem Sn:∀ {l:List κ}{k:κ},l.Nodup->¬ k∈l->(l++[k]).Nodup
 | [],k,_,_=>by simp
 | a::r,k,h,hk=>by
  obtain ⟨h1,h2⟩:=bh.mp h
  show (a::(r++[k])).Nodup
  refine bh.mpr ⟨λm=>?_,Sn h2 λm=>hk (aj.mpr (Or.inr m))⟩
  rcases aT.mp m with q|q
  .exact h1 q
  .exact hk (aj.mpr (Or.inl (aA.mp q).symm))
theorem Uh {p:κ×V}{r:List (κ×V)}{k:κ}(e:p.1=k):qT (p::r) k=qT r k:=by
 unfold qT;rw [Gr,if_neg (by simp [e])]
theorem Iu {p:κ×V}{r:List (κ×V)}{k:κ}(e:¬ p.1=k):qT (p::r) k=p::qT r k:=by
 unfold qT;rw [Gr,if_pos (by simp [e])]
theorem ML:∀ {kvs:List (κ×V)}{k:κ},¬ k∈kvs.map (·.1)->qT kvs k=kvs
 | [],_,_=>rfl
 | p::r,k,h=>by
  have h':¬ k∈r.map (·.1):=λm=>by
   obtain ⟨q,hq,e⟩:=bS.mp m;exact h (bS.mpr ⟨q,aj.mpr (Or.inr hq),e⟩)
  rw [Iu λe=>h (bS.mpr ⟨p,aj.mpr (Or.inl rfl),e⟩),ML h']
end
def pW (cells:List (aY×ai)):List (aY×oF)->List (aY×ai)->List (aY×ai)
 | [],acc=>acc
 | (n,k)::r,acc=>pW cells r (if k == .free then (n,(cells.lookup n).getD 0)::acc else acc)
theorem wW:∀ (names:List (aY×oF)) (acc:List (aY×ai)),(∀ n,(n,bI)∈names->∃ c,env.cells.lookup n=some c) ->
  (forIn names acc λ(x:aY×oF) (r:List (aY×ai))=>(if x.2 == .free then (cellOf env x.1 >>= λc=>pure (lp ((x.1,c)::r))) else pure (lp r):R5 (ForInStep (List (aY×ai)))))=pure (pW env.cells names acc)
 | [],acc,_=>rfl
 | (n,k)::r,acc,h=>by
  rw [vS];have hr:∀ n,(n,bI)∈r->∃ c,env.cells.lookup n=some c:=λn hn=>h n (ae _ hn)
  cases hk:k == bI with
  | false =>
   simp only [hk,cg,if_false,pure_bind];rw [wW r acc hr]
   show _=pure (pW env.cells r (if k == bI then _ else acc))
   rw [hk];rfl
  | true =>
   have e:k=.free:=by simpa using hk
   subst e;obtain ⟨c,hc⟩:=h n ah
   have e2:cellOf env n=pure c:=by unfold cellOf;rw [hc]
   simp only [hk,if_true,e2,pure_bind];rw [wW r _ hr]
   show _=pure (pW env.cells r (if bI == bI then (n,(env.cells.lookup n).getD 0)::acc else acc))
   rw [hc];rfl
theorem wX (h:∀ n,(n,bI)∈scope.names->∃ c,env.cells.lookup n=some c):closureFor scope env=pure (pW env.cells scope.names []):=by
 have e:=wW (env:=env) scope.names [] h;unfold closureFor;rw [← bind_pure (pure (pW env.cells scope.names []):R5 _),← e]
theorem lF {c:ai}:∀ (names:List (aY×oF)) (acc:List (aY×ai)),(∀ n,(n,bI)∈names->∃ c,cells.lookup n=some c) ->
  (pW cells names acc).lookup x=some c->cells.lookup x=some c\/acc.lookup x=some c
 | [],acc,_,h=>.inr h
 | (n,k)::r,acc,hf,h=>by
  have hr:∀ n,(n,bI)∈r->∃ c,cells.lookup n=some c:=λn hn=>hf n (ae _ hn);unfold pW at h
  rcases lF r _ hr h with z|z
  .exact .inl z
  .cases hk:k == bI with
   | false=>rw [hk] at z;exact .inr z
   | true =>
    have e:k=.free:=by simpa using hk
    subst e;obtain ⟨d,hd⟩:=hf n ah;rw [hk,if_pos rfl,hd] at z
    by_cases hx:x=n
    .subst hx;rw [cS,beq_self_eq_true] at z;exact .inl (by rw [hd];exact z)
    .rw [cS,beq_false_of_ne hx] at z;exact .inr z
theorem yc:∀ (names:List (aY×oF)) (acc:List (aY×ai)),((x,bI)∈names\/∃ c,acc.lookup x=some c)->∃ c,(pW cells names acc).lookup x=some c
 | [],acc,h=>h.elim nofun λz=>z
 | (n,k)::r,acc,h=>by
  unfold pW;refine yc r _ ?_
  rcases h with z|⟨c,z⟩
  .rcases aj.mp z with e|z
   .have e1:n=x:=(c8 e).1.symm;have e2:k=.free:=(c8 e).2.symm;subst e1 e2;exact .inr ⟨_,by rw [if_pos (by rfl),cS,beq_self_eq_true]⟩
   .exact .inl z
  .refine .inr ?_
   split
   .rw [cS];cases x == n
    .exact ⟨c,z⟩
    .exact ⟨_,rfl⟩
   .exact ⟨c,z⟩
theorem yd {env:zB}{x:aY}{k:oF}:∀ {names:List (aY×oF)},
  (names.map λ(n,k)=>if (k == bI && env.scope.kind == .function && env.kindOf n == some .cell) then (n,ik) else (n,k)).lookup x=some k ->
   ∃ k0,names.lookup x=some k0/\(k=k0\/(k0=.free/\k=.cell))
 | [],h=>by simp at h
 | (n,k1)::r,h=>by
  have ih:=@yd env x k r;have h:c9 x ((if (k1 == bI && env.scope.kind == .function && env.kindOf n == some .cell)=true then (n,ik) else (n,k1))::r.map λ(n,k)=>if (k == bI && env.scope.kind == .function && env.kindOf n == some .cell) then (n,ik) else (n,k))=some k:=h
  by_cases hc:(k1 == bI && env.scope.kind == .function && env.kindOf n == some .cell)=true
  .rw [if_pos hc,cS] at h;rw [cS]
   have e:k1=.free:=by
    rw [fB,fB] at hc
    simpa using hc.1.1
   cases hx:x == n with
   | true=>rw [hx] at h;exact ⟨k1,rfl,.inr ⟨e,(aL h).symm⟩⟩
   | false=>rw [hx] at h;exact ih h
  .rw [if_neg hc,cS] at h;rw [cS]
   cases hx:x == n with
   | true=>rw [hx] at h;exact ⟨k1,rfl,.inl (aL h).symm⟩
   | false=>rw [hx] at h;exact ih h
theorem Be {env:zB}{x:aY}:∀ {names:List (aY×oF)},names.lookup x=some .free ->
  (names.map λ(n,k)=>if (k == bI && env.scope.kind == .function && env.kindOf n == some .cell) then (n,ik) else (n,k)).lookup x=some .free \/
  (names.map λ(n,k)=>if (k == bI && env.scope.kind == .function && env.kindOf n == some .cell) then (n,ik) else (n,k)).lookup x=some .cell
 | [],h=>by simp at h
 | (n,k1)::r,h=>by
  have ih:=@Be env x r
  show c9 x ((if (k1 == bI && env.scope.kind == .function && env.kindOf n == some .cell)=true then (n,ik) else (n,k1))::r.map λ(n,k)=>if (k == bI && env.scope.kind == .function && env.kindOf n == some .cell) then (n,ik) else (n,k))=some .free \/
   c9 x ((if (k1 == bI && env.scope.kind == .function && env.kindOf n == some .cell)=true then (n,ik) else (n,k1))::r.map λ(n,k)=>if (k == bI && env.scope.kind == .function && env.kindOf n == some .cell) then (n,ik) else (n,k))=some .cell
  rw [cS] at h
  by_cases hc:(k1 == bI && env.scope.kind == .function && env.kindOf n == some .cell)=true
  .rw [if_pos hc,cS]
   cases hx:x == n with
   | true=>exact .inr rfl
   | false=>rw [hx] at h;exact ih h
  .rw [if_neg hc,cS]
   cases hx:x == n with
   | true=>rw [hx] at h;exact .inl h
   | false=>rw [hx] at h;exact ih h
theorem mem_of_lookup {k:oF}:∀ {names:List (aY×oF)},names.lookup x=some k->(x,k)∈names
 | [],h=>by simp at h
 | (n,k1)::r,h=>by
  rw [cS] at h
  cases hx:x == n with
  | true =>
   rw [hx] at h
   have e:x=n:=by simpa using hx
   rw [e,aL h];exact ah
  | false=>rw [hx] at h;exact ae _ (mem_of_lookup h)
def JD (X:Cx) (N:List aY) (scope:tL) (s:aC) (H:Hp) (fp:List ai):Cx where
 prog:=X.prog
 w:=X.w
 K:=X.K
 mg:=X.mg
 base:=X.base
 A:=X.A
 N:=N
 s₀:=s
 H₀:=H
 env:=compEnvC scope (pW X.env.cells scope.names []) s.heap.objs.size X.env
 outer:=X.stack
 stack:=X.stack
 ex:=fp
 fn:=λ_=>false
 calm:=X.calm
 pn:=[]
 xe:=λ_ _=>False
def Gb (X:Cx) (scope:tL):List Nat->List aY->Prop
 | [],[]=>True
 | j::js,y::ys=>X.N[j]?=some y/\(X.env.kindOf y=some .cell\/X.env.kindOf y=some .free)/\scope.names.lookup y=some .free/\Gb X scope js ys
 | _,_=>False
def MM (Z:St) (js:List Nat):St:=js.map λj=>(Z[j]?).join
theorem Gb.len:∀ {js:List Nat}{ys:List aY},Gb X scope js ys->js.length=ys.length
 | [],[],_=>rfl
 | _::_,_::_,h=>by rw [bz,bz,Gb.len h.2.2.2]
 | [],_::_,h=>h.elim
 | _::_,[],h=>h.elim
theorem Gb.get:∀ {js:List Nat}{ys:List aY}{i:Nat},Gb X scope js ys->ys[i]?=some y->(MM Z js)[i]?=some (some v) ->
  ∃ j:Nat,X.N[j]?=some y/\Z[j]?=some (some v)/\(X.env.kindOf y=some .cell\/X.env.kindOf y=some .free)/\scope.names.lookup y=some .free
 | [],[],i,_,e,_=>by simp at e
 | j::js,z::ys,0,h,e,q=>by
  simp only [mJ,gK] at e;subst e;refine ⟨j,h.1,?_,h.2.1,h.2.2.1⟩
  have q':(Z[j]?).join=some v:=by simpa [MM] using q
  cases hj:Z[j]? with
  | none=>rw [hj] at q';simp at q'
  | some o=>rw [hj] at q';rw [← q'];rfl
 | j::js,z::ys,i+1,h,e,q=>Gb.get (i:=i) h.2.2.2 (by simpa using e) (by simpa [MM] using q)
 | [],_::_,_,h,_,_=>h.elim
 | _::_,[],_,h,_,_=>h.elim
section
variable {s':aC}{fp:List ai}
theorem PL (I:Inv X pins Z H s) (hf:∀ b∈fp,zX X pins H b) (hlt:∀ b∈fp,b<s.heap.objs.size) (hkind:scope.kind=.function) (hcell:∀ y∈scope.names,y.2≠.cell)
  (hfr:∀ n,(n,bI)∈scope.names->∃ c,X.env.cells.lookup n=some c):(JD X N scope s H fp).Ok where
 mod:=I.mod
 kind:=hkind
 glob:=I.ok.glob
 blt:=I.ok.blt
 above:=aB _
 inj:=λx y c h1 h2=>I.ok.inj x y c ((lF _ _ hfr h1).resolve_right (by simp)) ((lF _ _ hfr h2).resolve_right (by simp))
 has:=λx hx=>by
  refine yc _ _ (.inl ?_)
  have key:∀ k,(k=ik\/k=bI)->(relabel scope X.env).names.lookup x=some k->(x,bI)∈scope.names:=λk hk e=>by
   obtain ⟨k0,e0,z⟩:=yd e
   rcases z with z|⟨z,_⟩
   .subst z
    rcases hk with hk|hk
    .subst hk;exact absurd rfl (hcell _ (mem_of_lookup e0))
    .subst hk;exact mem_of_lookup e0
   .subst z;exact mem_of_lookup e0
  rcases hx with hx|hx
  .exact key _ (.inl rfl) hx
  .exact key _ (.inr rfl) hx
 cab:=λx c h=>by cases h
 hd:=I.ok.hd
 frames:=I.ok.frames
 stk:=.inl rfl
 exf:=λb hb=>⟨a6 (hlt b hb),λx c e=>(hf b hb).2.2.2.2.1 x c ((lF _ _ hfr e).resolve_right (by simp))⟩
 bs:=I.bs
 Ts:=a9 I.ok.Ts I.sz
 LN:=λb o e hb=>by
  rcases (hf b hb).2.2.2.1 with z|z
  .exact I.ok.LN b o e z
  .exact absurd (bp (aO e) (a9 I.ok.Ts z)) (gR _)
 LM:=λb hb hs=>by
  rcases aj.mp (I.RX b hs) with z|z
  .exact (hf b hb).2.1 z
  .exact (hf b hb).2.2.1 z
 uW:=I.stack
 VF:=I.Di
theorem ZP {h1:cI}{tk:Nat}{m:aY->Option au}(I:Inv X pins Z H s) (hf:∀ b∈fp,zX X pins H b) (hlt:∀ b∈fp,b<s.heap.objs.size) (hkind:scope.kind=.function)
  (hcell:∀ y∈scope.names,y.2≠.cell) (hfr:∀ n,(n,bI)∈scope.names->∃ c,X.env.cells.lookup n=some c) (hc:Gb X scope js ys)
  (hn:h1.Ns s.heap.objs.size m) (hk:∀ b o,s.heap.get? b=some o->h1.get? b=some o) :
  Inv (JD X (own++ys) scope s H fp) [] (nB own.length none++MM Z js) H { s with heap:=h1,toks:=tk }:=by
 have hcl:∀ x c,(pW X.env.cells scope.names []).lookup x=some c->X.env.cells.lookup x=some c:=λx c e=>(lF _ _ hfr e).resolve_right (by simp);refine ⟨PL I hf hlt hkind hcell hfr,rfl,I.bare,Un.kept hk,⟨m,hn,λi x v e1 e2 e3=>?_⟩,λx c e=>?_,I.fresh,λx c e=>I.pQ x c (hcl x c e),(λp hp=>nomatch hp),I.fh.kept hk,?_⟩
 .have e1':(own++ys)[i]?=some x:=e1
  by_cases hi:i<own.length
  .rw [gB (by simpa using hi)] at e2;rw [R8] at e2
   split at e2
   .cases aL e2
   .cases e2
  .have hi':own.length<=i:=oH hi;rw [eC hi'] at e1';rw [eC (by simpa using hi'),wQ] at e2;obtain ⟨j,q1,q2,q3,q4⟩:=hc.get e1' e2;obtain ⟨m0,_,hl⟩:=I.loc
   obtain ⟨u,r,l⟩:=hl j x v q1 q2 (by
    rcases q3 with q3|q3
    .exact .inr (.inl q3)
    .exact .inr (.inr q3))
   refine ⟨u,r,.inr ⟨?_,?_⟩⟩
   .rcases Be (env:=X.env) q4 with z|z
    .exact .inr z
    .exact .inl z
   .rcases l with ⟨k,_⟩|⟨_,c,hc1,hc2⟩
    .rcases q3 with q3|q3<;>rw [k] at q3<;>cases aL q3
    .obtain ⟨d,hd⟩:=yc (cells:=X.env.cells) (x:=x) scope.names [] (.inl (mem_of_lookup q4));have hd':=hcl x d hd;rw [hc1] at hd';cases aL hd';obtain ⟨o,ho,hod⟩:=hc2;exact ⟨c,hd,o,hk c o ho,hod⟩
 .obtain ⟨v,o,ho,hod⟩:=I.cell x c (hcl x c e);exact ⟨v,o,hk c o ho,hod⟩
 .show (nB own.length none++MM Z js).length=(own++ys).length
  rw [bD,bD,wQ,MM,ag,hc.len]
theorem Wj {σ':St}(I:Inv X pins Z H s) (hf:∀ b∈fp,zX X pins H b) (J:Inv (JD X N scope s H fp) [] σ' H' s'):Inv X pins Z H' s' :=
 I.YI (ch:=fp) J.os J.base J.fh J.bare λb hb=>⟨(hf b hb).2.2.2.1,(hf b hb).2.1,(hf b hb).2.2.2.2.1,(hf b hb).2.2.2.2.2⟩
end
section
variable {prog:bQ}{A:eD}{R:Vj->aC->Prop}
theorem JE {target:Expr}{it acc:au}(I:Nat->aC->Prop)
  (turn:∀ n s,I n s->aQ (a7 prog w) A (jH it) (λr s₁=>match r with
   | none=>R (.ok .next) s₁
   | some v=>aQ (a7 prog w) A (zQ target it v) (λ_ s₁'=>aQ (a7 prog w) A (O0 target env v) (λ_ s₂ =>
     aQ (a7 prog w) A (forIn ifs true λc r=>if r=true then do let ok ← isTrue c env (fw c env);pure (lp ok) else pure (lp r)) (λok s₃ =>
      if ok=true then aQ (a7 prog w) A (fw elt env) (λx s₄ =>
       aQ (a7 prog w) A (call (.builtin "list.append") [acc,x]) (λ_ s₅=>∃ m,m<n/\I m s₅) (λ_ _=>False) s₄) (λ_ _=>False) s₃
      else ∃ m,m<n/\I m s₃) (λ_ _=>False) s₂) (λ_ _=>False) s₁') (λ_ _=>False) s₁) (λ_ _=>False) s)
  (n:Nat) (h:I n s) :
  mn (a7 prog w) A (.compLoop (.ListComp elt [⟨target,iter,ifs,0⟩] scope pos) 0 it acc env) R s:=by
 refine codeAny_loop rfl I (λn s hI=>?_) n h
 show aQ _ A ((compTurn (.ListComp elt [⟨target,iter,ifs,0⟩] scope pos) 0 it acc env).onRaise (λx=>do noteFrame x env;theTreesLotGoes x)) _ _ s
 refine wpAny_noted ?_;rw [compTurn_list];refine af (Gp (af (fk (turn n s hI) (λr s₁ h₁=>?_) λ_ _ h'=>h'.elim)))
 cases r with
 | none=>exact aw h₁
 | some v =>
  refine af (fk h₁ (λ_ s₁' h₁'=>?_) λ_ _ h'=>h'.elim);refine af (fk h₁' (λ_ s₂ h₂=>af (fk h₂ (λok s₃ h₃=>?_) λ_ _ h'=>h'.elim)) λ_ _ h'=>h'.elim)
  cases ok with
  | false=>exact aw ⟨rfl,h₃⟩
  | true =>
   exact af (af (fk h₃ (λx s₄ h₄=>af (fk h₄ (λ_ s₅ h₅=>aw (aw ⟨rfl,h₅⟩)) λ_ _ h'=>h'.elim)) λ_ _ h'=>h'.elim))
end
def Wk (X:Cx) (ifs:List Expr) (t:TT):Prop :=
 ∀ (pins:List (ai×iW)) (s:aC) (Z:St) (H:Hp) (Q:Bool->Hp->Prop),Inv X pins Z H s->t Z H Q ->
  aQ (a7 X.prog X.w) X.A (forIn ifs true λc r=>if r=true then do let ok ← isTrue c X.env (fw c X.env);pure (lp ok) else pure (lp r)) (TP X pins Z Q) X.xe s
def rN:TT:=λ_ H Q=>Q true H
theorem ip:Wk X [] rN:=λ_ _ _ H _ I h=>wpAny_tests_nil ⟨H,I,h⟩
theorem qV {c:Expr}{t:TT}(h:PT X c t):Wk X [c] t:=λpins s Z H Q I q=>wpAny_tests_one (h pins s Z H Q I q)
def jB (own:Nat) (js:List Nat) (wi:TI) (g:TG) (tt:TT) (te:TE):TE:=λZ H Q=>wi Z H λJ H1=>∀ acc,H1 acc=none ->
 ∃ W:Nat->Nat->List V->St->Hp->Prop,(∃ m,W 0 m [] (nB own none++MM Z js) (upd H1 acc (.lst [])))/\∀ i m ys σ' H',W i m ys σ' H'->H' acc=some (.lst ys) /\
  ((J.stop i H'/\Q (.ref acc) H')\/(J.go i H'/\∀ x H2,J.U8 i H' x H2->g x σ' H2 λσ2 H3=>tt σ2 H3 λb H4 =>
   if b=true then te σ2 H4 λy H5=>H5 acc=some (.lst ys)/\ys.length<aZ/\∃ m',m'<m/\W (i+1) m' (ys++[y]) σ2 (upd H5 acc (.lst (ys++[y]))) else ∃ m',m'<m/\W (i+1) m' ys σ2 H4))
theorem MN {wi:TI}{tt:TT}
  {use:Option (au->R5 Unit)}{Q':au->aC->Prop}{p:vQ}(hcalm:X.calm=true)
  (hi:PI X tg iter wi) (hkind:scope.kind=.function) (hcell:∀ y∈scope.names,y.2≠.cell) (hnames:∀ y∈scope.names,y.2=.local->scope.names.lookup y.1=some .local)
  (hfr:∀ n,(n,bI)∈scope.names->∃ c,X.env.cells.lookup n=some c) (hc:Gb X scope js ys)
  (hg:∀ s0 H0 fp,PG (JD X (own++ys) scope s0 H0 fp) tg g) (ht:∀ s0 H0 fp,Wk (JD X (own++ys) scope s0 H0 fp) ifs tt) (he:∀ s0 H0 fp,PE (JD X (own++ys) scope s0 H0 fp) elt te)
  (I:Inv X pins Z H s) (h:jB own.length js wi g tt te Z H Q)
  (hu:∀ (D C:ai) (H':Hp) (s':aC),Inv X pins Z H' s'->Q (.ref D) H'->zX X pins H' C->(∃ m,s'.heap.Ns C m)->compPost (a7 X.prog X.w) X.A X.xe use Q' (.ref D) C (.ok .next) s')
  (hs:∀ x,vz iter X.env x=pure x) :
  aQ (a7 X.prog X.w) X.A (comprehension (.ListComp elt [⟨tg,iter,ifs,0⟩] scope pos) scope X.env p (newList []) false (fw iter X.env) use) Q' X.xe s:=by
 refine wpAny_comprehension_free (g:=⟨tg,iter,ifs,0⟩) (gs:=[]) rfl hs (wX hfr) hkind hnames (gN (hi pins s Z H _ I h) λv s1 h1=>gN h1 λitv s2 h2=>?_);obtain ⟨it,fp,tn,J,H2,e,I2,T,st2,f2,q⟩:=h2;subst e;refine d9 (wpAny_newFunctionEnv hcell (by intro y hy;simp at hy) (λh₁ hns₁ hsb₁=>?_) hkind);dsimp only at hns₁ hsb₁ ⊢;have nD:H2 s2.heap.objs.size=none:=I2.fresh;have I3:Inv X pins Z (upd H2 s2.heap.objs.size (.lst [])) { s2 with heap:=s2.heap.push { cls:=.type "list",data:=.seq ([]:List au).toArray },toks:=s2.toks }:=I2.lnew (its:=[]) .nil (bC _)
 have hlt2:∀ b∈fp,b<s2.heap.objs.size:=λb hb=>let ⟨o,e,_⟩:=T.obj _ _ st2 b hb;aO e
 obtain ⟨W,⟨m0,w0⟩,turn⟩:=q _ nD;generalize hs3:({ s2 with heap:=s2.heap.push { cls:=.type "list",data:=.seq ([]:List au).toArray },toks:=s2.toks }:aC)=s3 at I3
 have hh3:s2.heap.push { cls:=.type "list",dict:=none,data:=.seq ([]:List au).toArray }=s3.heap:=by rw [← hs3]
 have hsz3:s3.heap.objs.size=s2.heap.objs.size+1:=by rw [← hh3,jA]
 have hlt3:∀ b∈fp,b<s3.heap.objs.size:=λb hb=>by rw [hsz3];exact tD (hlt2 b hb)
 have f3:∀ b∈fp,zX X pins (upd H2 s2.heap.objs.size (.lst [])) b:=λb hb=>⟨by rw [aI (a6 (hlt2 b hb))];exact (f2 b hb).1,(f2 b hb).2⟩
 have fC:zX X pins (upd H2 s2.heap.objs.size (.lst [])) s3.heap.objs.size:=I3.OY (aB _) I3.fresh;rw [hh3] at hns₁ hsb₁ ⊢;have hk3:∀ b o,s3.heap.get? b=some o->h₁.get? b=some o:=λb o e=>hsb₁.extBut b o (a6 (aO e)) (ax _ e)
 have es4:({ s2 with heap:=h₁,toks:=s2.toks+([]:List (aY×au)).length }:aC)={ s3 with heap:=h₁,toks:=s2.toks+([]:List (aY×au)).length }:=by rw [← hs3]
 have I4:=ZP (own:=own) (h1:=h₁) (tk:=s2.toks+([]:List (aY×au)).length) I3 f3 hlt3 hkind hcell hfr hc hns₁ hk3;have st4:tn 0 h₁:=T.keep _ _ _ st2 λb hb o e=>hk3 b o (by rw [← hh3];exact ax _ e)
 have stat:∀ {H':Hp},(∀ b∈fp,H' b=none)->∀ b∈fp,zX (JD X (own++ys) scope s3 (upd H2 s2.heap.objs.size (.lst [])) fp) [] H' b:=λhn b hb =>
  ⟨hn b hb,a6 (hlt3 b hb),(PL (N:=own++ys) I3 f3 hlt3 hkind hcell hfr).LM b hb,.inl hb,λx c e=>((PL (N:=own++ys) I3 f3 hlt3 hkind hcell hfr).exf b hb).2 x c e,λp hp=>nomatch hp⟩
 have VZ:∀ s4:aC,s4={ s3 with heap:=h₁,toks:=s2.toks+([]:List (aY×au)).length } ->
   mn (a7 X.prog X.w) X.A (.compLoop (.ListComp elt [⟨tg,iter,ifs,0⟩] scope pos) 0 (.ref it) (.ref s2.heap.objs.size) (compEnvC scope (pW X.env.cells scope.names []) s3.heap.objs.size X.env))
    (compPost (a7 X.prog X.w) X.A X.xe use Q' (.ref s2.heap.objs.size) s3.heap.objs.size) s4:=by
  rintro s4 rfl
  refine JE (λn s'=>∃ i ys' σ' H',Inv (JD X (own++ys) scope s3 (upd H2 s2.heap.objs.size (.lst [])) fp) [] σ' H' s'/\tn i s'.heap/\(∀ b∈fp,H' b=none)/\W i n ys' σ' H') ?_ m0
   ⟨0,[],_,_,I4,st4,λb hb=>(f3 b hb).1,w0⟩
  rintro n s5 ⟨i,ys',σ5,H5,I5,st5,fr5,w5⟩;obtain ⟨hacc,rest⟩:=turn i n ys' σ5 H5 w5
  rcases rest with ⟨stop,qn⟩|⟨go,step⟩
  .refine gN (T.done (JD X (own++ys) scope s3 (upd H2 s2.heap.objs.size (.lst [])) fp) rfl rfl rfl hcalm i [] s5 σ5 H5 _ I5 (stat fr5) st5 stop) λr s6 ⟨hr,I6⟩=>?_;subst hr;exact hu _ _ H5 s6 (Wj I3 f3 I6) qn ⟨I6.free,fC.2⟩ (let ⟨m,hn,_⟩:=I6.loc;⟨m,hn⟩)
  .refine gN (T.item (JD X (own++ys) scope s3 (upd H2 s2.heap.objs.size (.lst [])) fp) rfl rfl rfl hcalm i [] s5 σ5 H5 _ I5 (stat fr5) st5 go) λr s6 ⟨u,hr,h6⟩=>?_;subst hr;refine gN h6 λ_ s7 ⟨x,H7,I7,r7,y7,st7,fr7⟩=>?_;have I7':=I7.pinned (stat fr7) (T.obj _ _ st7);refine gN (hg _ _ _ _ s7 σ5 H7 x u _ I7' r7 (step x H7 y7)) λ_ s8 ⟨σ8,H8,I8,q8⟩=>?_;refine gN (ht _ _ _ _ s8 σ8 H8 _ I8 q8) λok s9 ⟨H9,I9,q9⟩=>?_
   have kept:∀ {s10:aC}{σ10:St}{H10:Hp},Inv (JD X (own++ys) scope s3 (upd H2 s2.heap.objs.size (.lst [])) fp) ([]++Dy fp s7.heap) σ10 H10 s10 ->
     Inv (JD X (own++ys) scope s3 (upd H2 s2.heap.objs.size (.lst [])) fp) [] σ10 H10 s10/\tn (i+1) s10.heap/\∀ b∈fp,H10 b=none:=λ{s10 σ10 H10} I10=>by
    refine ⟨I10.zx,T.keep _ _ _ st7 λb hb o e=>(I10.pin (b,o) (a8 _ (a8 _ (rL hb e)))).1,λb hb=>?_⟩;obtain ⟨o,e,d⟩:=T.obj _ _ st7 b hb;exact (I10.pin (b,o) (a8 _ (a8 _ (rL hb e)))).2.1
   cases ok with
   | false =>
    simp only [cg,if_false] at q9 ⊢;obtain ⟨m',hm,w9⟩:=q9;obtain ⟨k1,k2,k3⟩:=kept I9
    exact ⟨m',hm,i+1,ys',σ8,H9,k1,k2,k3,w9⟩
   | true =>
    simp only [if_true] at q9 ⊢;refine gN (he _ _ _ _ s9 σ8 H9 _ I9 q9) λyv s10 ⟨y,H10,I10,r10,a10,l10,m',hm,w10⟩=>?_;refine gN (Il (X:=JD X (own++ys) scope s3 (upd H2 s2.heap.objs.size (.lst [])) fp) _ s10 σ8 H10 (.ref s2.heap.objs.size) [y] (.ref s2.heap.objs.size) [yv] (λv H'=>v=.non/\H'=upd H10 s2.heap.objs.size (.lst (ys'++[y]))) I10 rfl (.cons r10 .nil) ⟨_,_,_,rfl,rfl,a10,l10,rfl,rfl⟩) λ_ s11 ⟨_,H11,I11,_,_,e11⟩=>?_;subst e11;obtain ⟨k1,k2,k3⟩:=kept I11;exact ⟨m',hm,i+1,_,σ8,_,k1,k2,k3,w10⟩
 have fin:=codeAny_compStart_list (R:=compPost (a7 X.prog X.w) X.A X.xe use Q' (.ref s2.heap.objs.size) s3.heap.objs.size) (VZ _ rfl) (T.self X.A 0 { s3 with heap:=h₁,toks:=s2.toks+([]:List (aY×au)).length } _ _ st4 (VZ _ rfl));rw [← hs3] at fin ⊢;exact fin
theorem ye (I:Inv X pins Z H s) (h:(scope.names.all λy=>y.2 != .free || X.env.kindOf y.1 == some .cell || X.env.kindOf y.1 == some .free)=true) :
  ∀ n,(n,bI)∈scope.names->∃ c,X.env.cells.lookup n=some c:=λn hn=>by
 have q:=om.mp h _ hn;simp only [bne_self_eq_false,tu,vT,beq_iff_eq] at q;exact I.ok.has n q
theorem iM (own:List aY) {ys:List aY}(js:List Nat) {wi:TI}{g:TG}{tt:TT}{te:TE}(hcalm:X.calm=true)
  (hi:PI X tg iter wi) (hc:Gb X scope js ys)
  (hg:∀ s0 H0 fp,PG (JD X (own++ys) scope s0 H0 fp) tg g) (ht:∀ s0 H0 fp,Wk (JD X (own++ys) scope s0 H0 fp) ifs tt) (he:∀ s0 H0 fp,PE (JD X (own++ys) scope s0 H0 fp) elt te)
  (hfr:(scope.names.all λy=>y.2 != .free || X.env.kindOf y.1 == some .cell || X.env.kindOf y.1 == some .free)=true:=by rfl)
  (hkind:scope.kind=.function:=by rfl) (hcell:∀ y∈scope.names,y.2≠.cell:=by decide +kernel) (hnames:∀ y∈scope.names,y.2=.local->scope.names.lookup y.1=some .local:=by decide +kernel)
  (hs:∀ x,vz iter X.env x=pure x:=by intro _;rfl):PE X (.ListComp elt [⟨tg,iter,ifs,0⟩] scope pos) (jB own.length js wi g tt te):=by
 intro pins s Z H Q I h;rw [eval_ListComp];refine MN (use:=none) hcalm hi hkind hcell hnames (ye I hfr) hc hg ht he I h (λD C H' s' I' q fC ⟨m,hn⟩=>⟨m,hn,λh' hs'=>⟨.ref D,H',?_,rfl,q⟩⟩) hs;exact I'.turned (t':=s'.toks) (λb o hb e=>(hs'.2 b hb).trans e) fC.1 fC.2.1 fC.2.2.2.1 fC.2.2.2.2.1 fC.2.2.2.2.2
theorem C8 {spos py:vQ}{i:Nat}(own:List aY) {ys:List aY}(js:List Nat) {wi:TI}{g:TG}{tt:TT}{te:TE}(hcalm:X.calm=true)
  (hN:X.N.Nodup) (hy:X.N[i]?=some y) (hl:X.env.scope.names.lookup y=some .local)
  (hi:PI X tg iter wi) (hc:Gb X scope js ys)
  (hg:∀ s0 H0 fp,PG (JD X (own++ys) scope s0 H0 fp) tg g) (ht:∀ s0 H0 fp,Wk (JD X (own++ys) scope s0 H0 fp) ifs tt) (he:∀ s0 H0 fp,PE (JD X (own++ys) scope s0 H0 fp) elt te)
  (hfr:(scope.names.all λy=>y.2 != .free || X.env.kindOf y.1 == some .cell || X.env.kindOf y.1 == some .free)=true:=by rfl)
  (hsw:Dk (.ListComp elt [⟨tg,iter,ifs,0⟩] scope pos) (some (.Name y py)) spos.line X.env=pure true:=by rfl)
  (hkind:scope.kind=.function:=by rfl) (hcell:∀ y∈scope.names,y.2≠.cell:=by decide +kernel) (hnames:∀ y∈scope.names,y.2=.local->scope.names.lookup y.1=some .local:=by decide +kernel)
  (hs:∀ x,vz iter X.env x=pure x:=by intro _;rfl) :
  PS X (.Assign [.Name y py] (.ListComp elt [⟨tg,iter,ifs,0⟩] scope pos) spos) (dB (jB own.length js wi g tt te) (bf i)):=by
 intro pins s Z H D I h;rw [exec_Assign_Name_used _ _ _ _ hsw];refine af (Gp (af ?_))
 show aQ _ X.A (do let _ ← comprehension (.ListComp elt [⟨tg,iter,ifs,0⟩] scope pos) scope X.env _ (newList []) false (fw iter X.env) (some (O0 (.Name y py) X.env))) _ _ s
 refine af (fk (MN (Q:=λx H1=>bf i x Z H1 D.nx) (Q':=λ_ s'=>SP X pins D .next s') (use:=some (O0 (.Name y py) X.env)) hcalm hi hkind hcell hnames (ye I hfr) hc hg ht he I h (λDd C H' s' I' q fC ⟨m,hn⟩=>?_) hs) (λ_ s' hq=>aw (aw hq)) λ_ _ e=>e)
 show aQ _ X.A (O0 (.Name y py) X.env (.ref Dd)) _ _ _
 refine wpAny_assign_Name (Ia (v:=.ref Dd) I' hN hy (.inl hl) rfl (λs'' I'' ⟨a,sb,ha⟩=>?_) (.inr hl))
 have hCa:C≠a:=by
  rcases ha with z|z
  .rw [z];exact fC.2.1
  .exact Ne.symm (fC.2.2.2.2.1 _ _ z)
 refine ⟨m,hn.sameBut sb hCa,λh' hs'=>?_⟩;exact ⟨_,H',I''.turned (t':=s''.toks) (λb o hb e=>(hs'.2 b hb).trans e) fC.1 fC.2.1 fC.2.2.2.1 fC.2.2.2.2.1 fC.2.2.2.2.2,q⟩
mutual
def Rep (K:aa) (H:Hp):PyData->V->Prop
 | .none,v=>v=.non
 | .bool b,v=>v=.bl b
 | .int i,v=>v=.int i
 | .str x,v=>v=.str x
 | .list ds,v=>∃ a xs,v=.ref a/\cW K H a xs/\fN K H ds xs
 | .tuple ds,v=>∃ a xs,v=.ref a/\kU K H a xs/\fN K H ds xs
 | .dict _,_=>False
def fN (K:aa) (H:Hp):List PyData->List V->Prop
 | [],vs=>vs=[]
 | d::ds,vs=>∃ v r,vs=v::r/\Rep K H d v/\fN K H ds r
end
mutual
theorem Rep.reads (I:Inv X pins Z H s):∀ (d:PyData) (v:V) (u:au),Rep X.K H d v->RelV v u->∃ as,Reads s.heap u d as
 | .none,v,u,h,r=>by
  cases (show v=.non by simpa only [Rep] using h)
  cases (show u=cG from r);exact ⟨_,.none⟩
 | .bool b,v,u,h,r=>by
  cases (show v=.bl b by simpa only [Rep] using h)
  cases (show u=uZ b from r);exact ⟨_,.bool b⟩
 | .int i,v,u,h,r=>by
  cases (show v=.int i by simpa only [Rep] using h)
  obtain ⟨t,rfl⟩:=(show ∃ t,u=gX i t from r);exact ⟨_,.int i t⟩
 | .str x,v,u,h,r=>by
  cases (show v=.str x by simpa only [Rep] using h)
  obtain ⟨t,rfl⟩:=(show ∃ t,u=tM x t from r);exact ⟨_,.str x t⟩
 | .list ds,v,u,h,r=>by
  obtain ⟨a,xs,rfl,hq,ha⟩:=(show ∃ a xs,v=.ref a/\cW X.K H a xs/\fN X.K H ds xs by simpa only [Rep] using h)
  cases (show u=aH a from r);obtain ⟨its,rv,⟨o,n,e1,e2,_,e3⟩,_⟩:=I.list hq;obtain ⟨as,ra⟩:=fN.reads I ds xs its ha rv
  exact ⟨_,.list e1 e2 e3 (by simpa using ra)⟩
 | .tuple ds,v,u,h,r=>by
  obtain ⟨a,xs,rfl,hq,ha⟩:=(show ∃ a xs,v=.ref a/\kU X.K H a xs/\fN X.K H ds xs by simpa only [Rep] using h)
  cases (show u=aH a from r);obtain ⟨its,rv,⟨o,e1,e2,n,e3⟩,_⟩:=I.tuple hq;obtain ⟨as,ra⟩:=fN.reads I ds xs its ha rv
  exact ⟨_,.tuple e1 e2 e3 (by simpa using ra)⟩
 | .dict _,v,u,h,r=>absurd h (by simp only [Rep];exact λz=>z)
theorem fN.reads (I:Inv X pins Z H s):∀ (ds:List PyData) (vs:List V) (us:List au),fN X.K H ds vs->Vals vs us->∃ as,ReadsAll s.heap us ds as
 | [],vs,us,h,r=>by
  cases (show vs=[] by simpa only [fN] using h)
  cases r;exact ⟨_,.nil⟩
 | d::ds,vs,us,h,r=>by
  obtain ⟨v,rr,rfl,h1,h2⟩:=(show ∃ v r,vs=v::r/\Rep X.K H d v/\fN X.K H ds r by simpa only [fN] using h)
  cases r with
  | cons ru rs =>
   obtain ⟨as,r1⟩:=Rep.reads I d v _ h1 ru;obtain ⟨bs,r2⟩:=fN.reads I ds rr _ h2 rs;exact ⟨_,.cons r1 r2⟩
end
theorem bY.U6 (e:bY H H') (h:kU K H a xs):kU K H' a xs:=by
 rcases h with (h|⟨o,h⟩)|h
 .exact .inl (.inl (e _ _ h))
 .exact .inl (.inr ⟨o,e _ _ h⟩)
 .exact .inr h
theorem fN.cons {d:PyData}{vs:List V}(h1:Rep K H d v) (h2:fN K H ds vs):fN K H (d::ds) (v::vs):=by
 simp only [fN];exact ⟨v,vs,rfl,h1,h2⟩
theorem fN.nil:fN K H [] []:=by simp only [fN]
theorem Rep.int (i:Int):Rep K H (.int i) (.int i):=by simp only [Rep]
theorem Rep.lst (h:cW K H a xs) (r:fN K H ds xs):Rep K H (.list ds) (.ref a):=by
 simp only [Rep];exact ⟨a,xs,rfl,h,r⟩
theorem Rep.tup (h:kU K H a xs) (r:fN K H ds xs):Rep K H (.tuple ds) (.ref a):=by
 simp only [Rep];exact ⟨a,xs,rfl,h,r⟩
theorem fN.ints:∀ (ns:List Int),fN K H (ns.map .int) (ns.map V.int)
 | []=>fN.nil
 | n::ns=>fN.cons (Rep.int n) (fN.ints ns)
structure PP (d:PyData):Prop where
 lay:d.canLay0=true
 dep:d.depth<=60
def ZQ (K:aa) (neg:Bool):R2:=λx y H Q=>∃ dx dy,Rep K H dx x/\Rep K H dy y/\PP dx/\PP dy/\Q (.bl (if neg then !PyData.eqv dx dy else fU dx dy)) H
theorem acy (hu:X.A.units+64<i8):qR X (dh .Eq) (ZQ X.K false):=by
 intro pins s Z H x y v u Q I rx ry h;obtain ⟨dx,dy,h1,h2,f1,f2,q⟩:=h;obtain ⟨as,r1⟩:=Rep.reads I dx x v h1 rx;obtain ⟨bs,r2⟩:=Rep.reads I dy y u h2 ry;have:=f1.dep;exact SeqAt.compareEq_reads r1 r2 f1.lay f2.lay (bw (Ba (a9 (Nat.min_le_left _ _) (a9 f1.dep (by decide))) _) hu) ⟨.bl _,H,I,rfl,q⟩
theorem acz (hu:X.A.units+64<i8):qR X (dh .NotEq) (ZQ X.K true):=by
 intro pins s Z H x y v u Q I rx ry h;obtain ⟨dx,dy,h1,h2,f1,f2,q⟩:=h;obtain ⟨as,r1⟩:=Rep.reads I dx x v h1 rx;obtain ⟨bs,r2⟩:=Rep.reads I dy y u h2 ry;exact SeqAt.compareNe_reads r1 r2 f1.lay f2.lay (bw (Ba (a9 (Nat.min_le_left _ _) (a9 f1.dep (by decide))) _) hu) ⟨.bl _,H,I,rfl,q⟩
def gY (K:aa):R2:=λx y H Q=>rEq x y H Q\/ZQ K false x y H Q
def yf (K:aa):R2:=λx y H Q=>rNe x y H Q\/ZQ K true x y H Q
theorem nW (hu:X.A.units+64<i8):qR X (dh .Eq) (gY X.K):=aeh.or (acy hu)
theorem JF (hu:X.A.units+64<i8):qR X (dh .NotEq) (yf X.K):=aei.or (acz hu)
def acA (K:aa) (neg:Bool):R2:=λx y H Q=>∃ d ds,Rep K H d x/\(Rep K H (.list ds) y\/Rep K H (.tuple ds) y)/\PP d/\i7 ds=true/\Q (.bl (if neg then !(ds.any λe=>fU e d) else ds.any λe=>fU e d)) H
theorem acB (hu:X.A.units+64<i8):qR X (dh .In) (acA X.K false):=by
 intro pins s Z H x y v u Q I rx ry h;obtain ⟨d,ds,h1,h2,f1,f2,q⟩:=h;obtain ⟨as,r1⟩:=Rep.reads I d x v h1 rx;have hb:X.A.units+1+min (Gs ds) d.depth<i8:=bw (by have:=f1.dep;lia) hu
 rcases h2 with h2|h2
 .obtain ⟨bs,r2⟩:=Rep.reads I _ y u h2 ry;exact SeqAt.in_list_reads r2 r1 f2 f1.lay hb ⟨.bl _,H,I,rfl,q⟩
 .obtain ⟨bs,r2⟩:=Rep.reads I _ y u h2 ry;exact SeqAt.in_tuple_reads r2 r1 f2 f1.lay hb ⟨.bl _,H,I,rfl,q⟩
theorem Ui (hu:X.A.units+64<i8):qR X (dh .NotIn) (acA X.K true):=by
 intro pins s Z H x y v u Q I rx ry h;obtain ⟨d,ds,h1,h2,f1,f2,q⟩:=h;obtain ⟨as,r1⟩:=Rep.reads I d x v h1 rx;have hb:X.A.units+1+min (Gs ds) d.depth<i8:=bw (by have:=f1.dep;lia) hu
 rcases h2 with h2|h2
 .obtain ⟨bs,r2⟩:=Rep.reads I _ y u h2 ry;exact SeqAt.notIn_list_reads r2 r1 f2 f1.lay hb ⟨.bl _,H,I,rfl,q⟩
 .obtain ⟨bs,r2⟩:=Rep.reads I _ y u h2 ry;exact SeqAt.notIn_tuple_reads r2 r1 f2 f1.lay hb ⟨.bl _,H,I,rfl,q⟩
def acC (neg:Bool):R2:=λy x H Q=>∃ a o,x=.ref a/\A6 H a y o/\Q (.bl (if neg then !o.isSome else o.isSome)) H
theorem acD (hu:X.A.units+64<i8):qR X (dh .In) (acC false):=by
 intro pins s Z H y x iv u Q I ry rx h;obtain ⟨a,o,rfl,g,q⟩:=h;cases rx
 exact d_in (bw (by lia) hu) I g ry λs' I'=>⟨.bl _,H,I',rfl,q⟩
theorem Uj (hu:X.A.units+64<i8):qR X (dh .NotIn) (acC true):=by
 intro pins s Z H y x iv u Q I ry rx h;obtain ⟨a,o,rfl,g,q⟩:=h;cases rx
 exact ZN (bw (by lia) hu) I g ry λs' I'=>⟨.bl _,H,I',rfl,q⟩
def GC (K:aa) (neg:Bool):R2:=λx y H Q=>acA K neg x y H Q\/acC neg x y H Q
theorem Wl (hu:X.A.units+64<i8):qR X (dh .In) (GC X.K false):=(acB hu).or (acD hu)
theorem Iv (hu:X.A.units+64<i8):qR X (dh .NotIn) (GC X.K true):=(Ui hu).or (Uj hu)
def jk:R2:=λx y H Q=>tG (λi j=>.int (i+j)) x y H Q\/rCat x y H Q
theorem So:qR X (qN .Add) jk:=acj.or acw
def rIxD:R2:=λx y H Q=>∃ a v,x=.ref a/\A6 H a y (some v)/\Q v H
theorem ZR (hu:X.A.units+64<i8):IxR X rIxD:=by
 intro value slice pins s Z H x y v u Q I rx ry h hs;obtain ⟨a,z,rfl,g,q⟩:=h;cases rx;exact tail_any (MJ I g) Jj.lookup (Iq (bw (by lia) hu) I g ry λw' s' I' r'=>⟨z,H,I',r',q⟩) hs
def c5 (K:aa):R2:=λx y H Q=>(rIxL K x y H Q\/rIxT K x y H Q)\/rIxD x y H Q
theorem DL (hu:X.A.units+64<i8):IxR X (c5 X.K):=(ZM.or acq).or (ZR hu)
def abh:V->V->V->Hp->(Hp->Prop)->Prop:=λo i v H Q=>∃ a H',o=.ref a/\HR H a i v H'/\Q H'
theorem set_dict (hu:X.A.units+64<i8):Zq X abh:=by
 intro pins s Z H o i v ov iv u Q I ro ri rv h;obtain ⟨a,H',rfl,g,q⟩:=h;cases ro
 exact Ir (bw (by lia) hu) I g ri rv λs' I'=>⟨H',I',q⟩
def DM:V->V->V->Hp->(Hp->Prop)->Prop:=λo i v H Q=>abd o i v H Q\/abh o i v H Q
theorem aer (hu:X.A.units+64<i8):Zq X DM:=by
 intro pins s Z H o i v ov iv u Q I ro ri rv h
 rcases h with h|h
 .exact Wc pins s Z H o i v ov iv u Q I ro ri rv h
 .exact set_dict hu pins s Z H o i v ov iv u Q I ro ri rv h
def nX (K:aa):List V->Hp->VK->Prop:=λxs H Q=>(∃ p ys,xs=[.ref p]/\(cW K H p ys\/kU K H p ys)/\Q (.int ys.length) H)\/(∃ a kvs,xs=[V.ref a]/\H a=some (.dK kvs)/\Q (.int kvs.length) H)
theorem vh:lM X (.builtin "len") (nX X.K):=Jz.or Ug
def ZT (K:aa):List V->Hp->VK->Prop:=λxs H Q=>∃ x T t b,xs=[x,.ty T]/\wV K H x t/\iD K t (.type T)=some b/\Q (.bl b) H
theorem DN:lM X (.builtin "isinstance") (ZT X.K):=by
 intro pins s Z H xs us Q I r h;obtain ⟨x,T,t,b,rfl,ty,e,q⟩:=h;obtain ⟨u,w',rfl,ru,rw'⟩:=vals2 r;cases (show w'=fj T from rw')
 exact Ie I ru ty e λtk=>⟨.bl b,H,I.tok tk,rfl,q⟩
theorem Inv.vv (I:Inv X pins Z H s):∃ m,Fr X.base X.env.locals s.heap m/\zD X.base X.env.locals s.heap (lQ X.base s.heap X.env.locals) :=
 let ⟨m,F⟩:=I.fr
 ⟨m,F,VR⟩
section
variable {D:vH}{ta tb:TE}{t u:TS}{c c':TT}{tA:TA}{QT:Bool->Hp->Prop}{QA:List V->Hp->Prop}
theorem Bg (h:t { D with nx:=u D } Z H):bB t u D Z H:=h
theorem yg (h:te Z H λx H1=>g x Z H1 D.nx):dB te g D Z H:=h
theorem vi {i:Nat}(h:R (Z.set i (some v)) H):bf i v Z H R:=h
theorem acE {ti:TE}{ts:Zp}(h:to Z H λo H1=>ti Z H1 λi H2=>ts o i v H2 λH3=>R Z H3):Po to ti ts v Z H R:=h
theorem ft {i:Nat}(h:Z[i]?=some (some v)) (k:Q v H):ak i Z H Q:=⟨v,h,k⟩
theorem Iw (k:Q v H):tC v Z H Q:=k
theorem vJ {r:R2}(h:ta Z H λx H1=>tb Z H1 λy H2=>r x y H2 Q):bU r ta tb Z H Q:=h
theorem x_un {r:V->Hp->VK->Prop}(h:ta Z H λx H1=>r x H1 Q):tUn r ta Z H Q:=h
theorem lT (h:te Z H D.rt):cC te D Z H:=h
theorem acF (h:te Z H λ_ H1=>D.nx Z H1):iK te D Z H:=h
theorem z7 (h:D.nx Z H):cM D Z H:=h
theorem yh (h:c Z H λb H1=>if b=true then t D Z H1 else u D Z H1):eO c t u D Z H:=h
theorem Wm (h:c Z H λb H1=>if b=true then ta Z H1 Q else tb Z H1 Q):Pn c ta tb Z H Q:=h
theorem wY (h:te Z H λx H'=>∃ k,x=.bl k/\QT k H'):cu te Z H QT:=h
theorem Wn (h:c Z H λb H1=>if b=true then c' Z H1 QT else QT false H1):Gw c c' Z H QT:=h
theorem x_or (h:c Z H λb H1=>if b=true then QT true H1 else c' Z H1 QT):tOr c c' Z H QT:=h
theorem Wo (h:c Z H λb H1=>QT (!b) H1):Jq c Z H QT:=h
theorem acG (h:ta Z H λx H1=>∃ c,x=.bl c/\if c=true then tb Z H1 Q else Q (.bl false) H1):x8 ta tb Z H Q:=h
theorem aes (h:ta Z H λx H1=>∃ c,x=.bl c/\if c=true then Q (.bl true) H1 else tb Z H1 Q):Zo ta tb Z H Q:=h
theorem acH (h:ta Z H λx H1=>∃ c,x=.bl c/\Q (.bl (!c)) H1):VV ta Z H Q:=h
theorem abi (h:QT true H):rN Z H QT:=h
theorem nH (h:QA [] H):aR Z H QA:=h
theorem gF (h:te Z H λx H1=>tA Z H1 λxs H2=>QA (x::xs) H2):ao te tA Z H QA:=h
theorem aet (h:tA Z H λxs H1=>xs.length<=aZ/\∀ p,H1 p=none->Q (.ref p) (upd H1 p (.tup xs))):qx tA Z H Q:=h
theorem aeu (h:tA Z H λxs H1=>xs.length<=aZ/\∀ p,H1 p=none->Q (.ref p) (upd H1 p (.lst xs))):MC tA Z H Q:=h
theorem JG {dvs:List V}{E:XK}(h:tA Z H λvs H1=>sp (vs++dvs) H1 Q E):cb sp dvs E tA Z H Q:=h
theorem PQ {r:List V->Hp->VK->Prop}(h:tA Z H λvs H1=>r vs H1 Q):jQ r tA Z H Q:=h
theorem x_bm {T:String}{r:V->List V->Hp->VK->Prop}(h:to Z H λx H1=>tyV K T x H1/\tA Z H1 λxs H2=>r x xs H2 Q):GB K T r to tA Z H Q:=h
theorem x_sl {r:V->Option Int->Option Int->Hp->VK->Prop}{tl th:TO}(h:te Z H λx H1=>tl Z H1 λl H2=>th Z H2 λu H3=>r x l u H3 Q):Mm r te tl th Z H Q:=h
theorem Wp {R:Option Int->Hp->Prop}(h:R none H):jv Z H R:=h
theorem acI {R:Option Int->Hp->Prop}(h:te Z H λx H1=>∃ i,x=.int i/\R (some i) H1):kZ te Z H R:=h
theorem Sq {g:Int->Int->V}(h:Q (g i j) H):tG g (.int i) (.int j) H Q:=⟨i,j,rfl,rfl,h⟩
theorem x_rI {C:Int->Int->Prop}{g:Int->Int->V}(hc:C i j) (h:Q (g i j) H):rI C g (.int i) (.int j) H Q:=⟨i,j,rfl,rfl,hc,h⟩
theorem acJ (h:Q (.int (i+j)) H):jk (.int i) (.int j) H Q:=.inl ⟨i,j,rfl,rfl,h⟩
theorem aev (h:Q (.bl (decide (V.int i=V.int j))) H):gY K (.int i) (.int j) H Q:=.inl ⟨rfl,h⟩
theorem abj (h:Q (.bl (!decide (V.int i=V.int j))) H):yf K (.int i) (.int j) H Q:=.inl ⟨rfl,h⟩
theorem gL (h:cW K H p xs) (e:Uc xs i=some v) (k:Q v H):c5 K (.ref p) (.int i) H Q:=.inl (.inl ⟨p,xs,i,v,rfl,rfl,h,e,k⟩)
theorem iq (h:kU K H p xs) (e:Uc xs i=some v) (k:Q v H):c5 K (.ref p) (.int i) H Q:=.inl (.inr ⟨p,xs,i,v,rfl,rfl,h,e,k⟩)
theorem lq (h:cW K H p xs) (k:Q (.int xs.length) H):nX K [.ref p] H Q:=.inl ⟨p,xs,rfl,.inl h,k⟩
theorem DO {l:ai}{y:V}(h:H l=some (.lst xs)) (hl:xs.length<aZ) (k:Q .non (upd H l (.lst (xs++[y])))):vg (.ref l) [y] H Q:=⟨l,xs,y,rfl,rfl,h,hl,k⟩
theorem acK {k:Int}{j:Nat}{R:Hp->Prop}(h:H p=some (.lst xs)) (e:Ub xs.length k=some j) (q:R (upd H p (.lst (xs.set j v)))):DM (.ref p) (.int k) v H R:=.inl ⟨p,xs,k,j,rfl,rfl,h,e,q⟩
theorem nY {p A B:Prop} [Decidable p] (h1:p->A) (h2:¬ p->B):if decide p=true then A else B:=by
 by_cases h:p
 .rw [if_pos (decide_eq_true h)];exact h1 h
 .rw [if_neg (by rw [decide_eq_false h];decide)];exact h2 h
theorem e9:(V.int i=V.int j)↔i=j:=⟨λh=>by injection h,λh=>by rw [h]⟩
end
end L2
namespace BootT
open PySem
theorem len:dI "len"=some (.builtin "len"):=by decide +kernel
theorem oS:dI "isinstance"=some (.builtin "isinstance"):=by decide +kernel
theorem JH:dI "sorted"=some (.builtin "sorted"):=by decide +kernel
theorem min:dI "min"=some (.builtin "min"):=by decide +kernel
theorem max:dI "max"=some (.builtin "max"):=by decide +kernel
theorem int:dI "int"=some (.type "int"):=by decide +kernel
theorem bool:dI "bool"=some (.type "bool"):=by decide +kernel
theorem str:dI "str"=some (.type "str"):=by decide +kernel
theorem list:dI "list"=some (.type "list"):=by decide +kernel
end BootT
namespace L2
variable {H:Hp}{K:aa}{Z:St}{n m:Nat}{i j:Int}{g:TG}{x y:V}{ta tl te:TE}{xs:List V}{R:St->Hp->Prop}{Q:VK}{tg:Expr}{tt:TT}{D:vH}{wi:TI}{a l c:ai}{d:PyData}{ds:List PyData}{o:HO}{X:Cx}
def abk:List V->Hp->VK->Prop:=λxs H Q=>∃ i j,xs=[.int i,.int j]/\Q (.int (if j<i then j else i)) H
def abl:List V->Hp->VK->Prop:=λxs H Q=>∃ i j,xs=[.int i,.int j]/\Q (.int (if j>i then j else i)) H
def jR:List V->Hp->VK->Prop:=λxs H Q=>∃ i:Int,xs=[.int i]/\i.natAbs.log2<1920/\Q (.str (toString i)) H
def mH (K:aa) (ta:TE):TT:=λZ H Q=>ta Z H λx H'=>∃ k,ZC K x H' k/\Q k H'
theorem ub {Q:Bool->Hp->Prop}(h:ta Z H λx H'=>∃ k,ZC K x H' k/\Q k H'):mH K ta Z H Q:=h
section
variable {a:Expr}
theorem DP (ha:PE X a ta) (he:∀ whole,isTrue a X.env whole=(do let v ← whole;zF a.pos;ml [v] (truthy v))):PT X a (mH X.K ta):=V3 ha he
end
def Itd (a:ai) (kvs:List (jz×V)) (o:iW):It :=
 ⟨λi H=>i<kvs.length/\H a=some (.frz o (.dK kvs)),λi H x H'=>H'=H/\∃ k v,kvs[i]?=some (k,v)/\x=kV k,λi H=>kvs.length<=i/\H a=some (.frz o (.dK kvs))⟩
theorem acL {k:jz}{u:au}(h:Dq k u=true):RelV (kV k) u:=by
 rcases hV h with ⟨i,t,rfl,rfl⟩|⟨x,t,rfl,rfl⟩
 .exact ⟨t,rfl⟩
 .exact ⟨t,rfl⟩
theorem KV.get {kvs:List (jz×V)}{vs:List (jz×au)}(r:KV kvs vs) {i:Nat}{k:jz}{v:V}(e:kvs[i]?=some (k,v)):∃ u,vs[i]?=some (k,u)/\RelV v u:=by
 unfold KV at r
 induction r generalizing i with
 | nil=>simp at e
 | @cons p q ps qs h t ih =>
  cases i with
  | zero =>
   simp at e;subst e;obtain ⟨q1,q2⟩:=q;obtain ⟨h1,h2⟩:=h;simp only at h1 h2;subst h1
   exact ⟨q2,rfl,h2⟩
  | succ i =>
   obtain ⟨u,e1,e2⟩:=ih (by simpa using e);exact ⟨u,by simpa using e1,e2⟩
theorem Uk {P:bQ}{w:cK}(a it:ai) (o:iW) (kvs:List (jz×V)) (vs:List (jz×au)) (ep:Nat) (rel:KV kvs vs)
  (od:∀ h:cI,h.get? a=some o->h.DictAt (fY P w) a vs ep):Pq P w K tg (Itd a kvs o) [it] it (λi h=>h.IsKeyIter it a i vs.length ep) where
 mem:=by simp
 obj:=λi h st b hb=>by
  have e:b=it:=by simpa using hb
  subst e;obtain ⟨o,e,c,d⟩:=st;exact ⟨o,e,λv z=>by rw [d] at z;cases z⟩
 keep:=λi h h' st k=>st.at λo e=>k it (by simp) o e
 item:=by
  intro X hP hw hK hc i pins s Z H E I hf st hg;subst hP hw hK;obtain ⟨hlt,hq⟩:=hg
  obtain ⟨e0,_⟩:=(show fS X.prog X.w H s.heap a (.frz o (.dK kvs)) from I.fh a _ hq)
  obtain ⟨⟨k,v⟩,hx⟩:∃ p,kvs[i]?=some p:=⟨kvs[i],by simp [hlt]⟩
  obtain ⟨u,hu,ru⟩:=rel.get hx;obtain ⟨f0,f1,f2,f3,f4,f5⟩:=hf it (by simp);refine wpAny_pyNext_dict_item st (od _ e0) hu λkey h' hkey st' sb=>?_;have I1:Inv X pins Z H { s with heap:=h' }:=I.turned (t':=s.toks) (λb o hb e=>(sb.2 b hb).trans e) f0 f1 f3 f4 f5;obtain ⟨o',e,c,d⟩:=id st';exact ⟨key,rfl,Ib (s:={ s with heap:=h' }) e c d (by decide) ⟨kV k,H,I1,acL hkey,⟨rfl,k,v,hx,rfl⟩,st',λb hb=>(hf b hb).1⟩⟩
 done:=by
  intro X hP hw hK hc i pins s Z H E I hf st hg;subst hP hw hK;obtain ⟨hle,hq⟩:=hg
  obtain ⟨e0,_⟩:=(show fS X.prog X.w H s.heap a (.frz o (.dK kvs)) from I.fh a _ hq)
  obtain ⟨f0,f1,f2,f3,f4,f5⟩:=hf it (by simp);have hl:=rel.length
  exact wpAny_pyNext_dict_end (I.ok.hd hc) st (od _ e0) (by simp;lia) λh' eb=>⟨rfl,I.turned (t':=s.toks) (λb o hb e=>eb b o hb e) f0 f1 f3 f4 f5⟩
 self:=λ_ _ _ _ _ st h=>wpAny_pyIter_keyiter st h
def mO (K:aa) (tl:TE):TI:=λZ H R=>tl Z H λx H1=>∃ a,x=.ref a/\(((∃ xs,cW K H1 a xs)/\R (TM K a) H1)\/((∃ xs,kU K H1 a xs)/\R (Itt K a) H1) \/
 ∃ kvs,H1 a=some (.dK kvs)/\∀ o,R (Itd a kvs o) (upd H1 a (.frz o (.dK kvs))))
theorem acM {R:It->Hp->Prop}(h:tl Z H λx H1=>∃ a,x=.ref a/\(((∃ xs,cW K H1 a xs)/\R (TM K a) H1)\/((∃ xs,kU K H1 a xs)/\R (Itt K a) H1) \/
 ∃ kvs,H1 a=some (.dK kvs)/\∀ o,R (Itd a kvs o) (upd H1 a (.frz o (.dK kvs))))):mO K tl Z H R:=h
theorem lU {l:Expr}(hl:PE X l tl):PI X tg l (mO X.K tl):=by
 intro pins s Z H R I h;refine gN (hl pins s Z H _ I h) λv s1 ⟨x,H1,I1,r1,q1⟩=>?_;obtain ⟨a,e,q1⟩:=q1;subst e;cases r1
 rcases q1 with ⟨⟨xs,hq⟩,q⟩|⟨⟨xs,hq⟩,q⟩|⟨kvs,hq,q⟩
 .obtain ⟨its,rv,p,hz⟩:=I1.list hq;refine wpAny_pyIter_list p.isList ?_;refine ⟨s1.heap.objs.size,[s1.heap.objs.size],_,_,H1,rfl,I1.kept (t':=s1.toks) λb o e=>ax _ e,TN a _,⟨_,aP _ rfl,rfl,rfl⟩,λb hb=>?_,q⟩
  have e:b=s1.heap.objs.size:=by simpa using hb
  subst e;exact I1.OY (aB _) (I1.fh.fresh (aB _))
 .obtain ⟨its,rv,p,hz⟩:=I1.tuple hq;refine wpAny_pyIter_tuple (show s1.heap.IsTuple a its.toArray from p) ?_;refine ⟨s1.heap.objs.size,[s1.heap.objs.size],_,_,H1,rfl,I1.kept (t':=s1.toks) λb o e=>ax _ e,Pu a _,⟨_,aP _ rfl,rfl,rfl⟩,λb hb=>?_,q⟩
  have e:b=s1.heap.objs.size:=by simpa using hb
  subst e;exact I1.OY (aB _) (I1.fh.fresh (aB _))
 .obtain ⟨hz,hsys,vs,rel,dd⟩:=abf I1.fh hq;obtain ⟨ep,da⟩:=dd.dictAt;obtain ⟨ob,es,ho,rr⟩:=id da
  have od:∀ h:cI,h.get? a=some ob->h.DictAt (fY X.prog X.w) a vs ep:=λh e=>⟨ob,es,e,rr⟩
  have un:Un X.fs [] H1 (upd H1 a (.frz ob (.dK kvs))) s1.heap s1.heap:=by
   have hne:∀ b u,H1 b=some u->u≠.dK kvs->b≠a:=λb u e n z=>by subst z;rw [hq] at e;exact n (aL e).symm
   refine ⟨λb o e _ _ _=>e,λb o e _ _ _=>⟨o.slots,e⟩,λb o e n _=>?_,λb o e _=>⟨o,e⟩,λb ys e=>?_,λb o u e=>?_,λb ps e=>?_⟩
   .rw [aI (λz=>by subst z;rw [hq] at n;cases n)];exact n
   .rw [aI (hne b _ e (by intro z;cases z))];exact e
   .rw [aI (hne b _ e (by intro z;cases z))];exact e
   .exact ⟨#[],by rw [aI (hne b _ e (by intro z;cases z)),e];simp⟩
  have fh:tq X.prog X.w (upd H1 a (.frz ob (.dK kvs))) s1.heap:=λb u e=>by
   by_cases hb:b=a
   .subst hb;rw [aK] at e;cases e;exact ⟨ho,hz,hsys,vs,rel,dd⟩
   .rw [aI hb] at e;refine (I1.fh b u e).zr (λc v _ q=>q) (λc q0=>?_) λc ys q0=>?_
    .rw [aI (λz=>by rw [z,hq] at q0;cases q0)];exact q0
    .rw [aI (λz=>by rw [z,hq] at q0;cases q0)];exact q0
  have I2:Inv X pins Z (upd H1 a (.frz ob (.dK kvs))) { s1 with heap:=s1.heap,toks:=s1.toks }:=I1.un un fh;refine wpAny_pyIter_dict hsys da ?_;refine ⟨s1.heap.objs.size,[s1.heap.objs.size],_,_,_,rfl,I2.kept (t':=s1.toks) λb o e=>ax _ e,Uk a _ ob kvs vs ep rel od,⟨_,aP _ rfl,rfl,rfl⟩,λb hb=>?_,q ob⟩
  have e:b=s1.heap.objs.size:=by simpa using hb
  subst e;exact I2.OY (aB _) (I2.fh.fresh (aB _))
structure lL (n i:Nat) (S:St->Prop) (Pv:List V->Hp->Prop) (m:Nat) (ys:List V) (Z:St) (H:Hp):Prop where
 m:m=n-i
 le:i<=n
 s:S Z
 p:Pv ys H
theorem lL.mk' {i:Nat}{S:St->Prop}{Pv:List V->Hp->Prop}{ys:List V}(hi:i<n) (s:S Z) (p:Pv ys H):∃ m',m'<n-i/\lL n (i+1) S Pv m' ys Z H:=⟨n-(i+1),by lia,rfl,hi,s,p⟩
theorem m7 {σ0:St}{J:It}{acc:ai}{R:Hp->Prop}(Pv:Nat->List V->Hp->Prop) (S:St->Prop) (h0:Pv 0 [] (upd H acc (.lst []))) (s0:S σ0)
  (ha:∀ i ys H,Pv i ys H->H acc=some (.lst ys)) (hst:∀ ys H,Pv n ys H->J.stop n H/\R H) (hgo:∀ i ys H,i<n->Pv i ys H->J.go i H)
  (hs:∀ i ys σ' H x H2,i<n->Pv i ys H->S σ'->J.U8 i H x H2->g x σ' H2 λσ2 H3=>tt σ2 H3 λb H4=>if b=true then te σ2 H4 λy H5=>H5 acc=some (.lst ys)/\ys.length<aZ/\∃ m',m'<n-i/\lL n (i+1) S (Pv (i+1)) m' (ys++[y]) σ2 (upd H5 acc (.lst (ys++[y]))) else ∃ m',m'<n-i/\lL n (i+1) S (Pv (i+1)) m' ys σ2 H4) :
  ∃ W:Nat->Nat->List V->St->Hp->Prop,(∃ m,W 0 m [] σ0 (upd H acc (.lst [])))/\∀ i m ys σ' H',W i m ys σ' H'->H' acc=some (.lst ys) /\
  ((J.stop i H'/\R H')\/(J.go i H'/\∀ x H2,J.U8 i H' x H2->g x σ' H2 λσ2 H3=>tt σ2 H3 λb H4 =>
   if b=true then te σ2 H4 λy H5=>H5 acc=some (.lst ys)/\ys.length<aZ/\∃ m',m'<m/\W (i+1) m' (ys++[y]) σ2 (upd H5 acc (.lst (ys++[y]))) else ∃ m',m'<m/\W (i+1) m' ys σ2 H4)):=by
 refine ⟨λi m ys σ' H'=>lL n i S (Pv i) m ys σ' H',⟨n,by simp,bC _,s0,h0⟩,?_⟩;rintro i m ys σ' H' ⟨rfl,hi,hS,p⟩;refine ⟨ha i ys H' p,?_⟩
 by_cases hlt:i<n
 .exact .inr ⟨hgo i ys H' hlt p,λx H2 y=>hs i ys σ' H' x H2 hlt p hS y⟩
 .have e:i=n:=by lia
  subst e;exact .inl (hst ys H' p)
structure Wq (Pv:St->Hp->Prop) (μ:St->Hp->Nat) (m:Nat) (Z:St) (H:Hp):Prop where
 m:m=μ Z H
 p:Pv Z H
theorem MO {c:TT}{tb:TS}(Pv:St->Hp->Prop) (μ:St->Hp->Nat) (h0:Pv Z H)
  (hs:∀ Z H,Pv Z H->c Z H λb H1=>if b=true then ∃ N:St->Hp->Prop,(∀ σ' H',N σ' H'->∃ m',m' < μ Z H/\Wq Pv μ m' σ' H')/\tb { D with nx:=N,ct:=N,bk:=D.nx } Z H1 else D.nx Z H1):Jt c tb D Z H:=by
 refine ⟨Wq Pv μ,⟨_,rfl,h0⟩,?_⟩;rintro m Z H ⟨rfl,p⟩;exact hs Z H p
def wN (Pv:St->Hp->Prop) (μ:St->Hp->Nat) (b:Nat):St->Hp->Prop:=λZ H=>Pv Z H/\μ Z H<b
theorem abm {Pv:St->Hp->Prop}{μ:St->Hp->Nat} {b:Nat}:∀ σ' H',wN Pv μ b σ' H'->∃ m',m'<b/\Wq Pv μ m' σ' H':=λσ' H' ⟨p,l⟩=>⟨_,l,rfl,p⟩
section
variable {tb:TE}{t u:TS}{tA:TA}{QT:Bool->Hp->Prop}{QA:List V->Hp->Prop}
theorem ZU {r r':R2}{tc:TE}(h:ta Z H λx H1=>tb Z H1 λy H2=>r x y H2 λz H3=>∃ k,z=.bl k/\(if k=true then tc Z H3 λw' H4=>r' y w' H4 Q else Q (.bl false) H3)):Dz r r' ta tb tc Z H Q:=h
theorem x_rU {g:Int->V}(h:Q (g i) H):rU g (.int i) H Q:=⟨i,rfl,h⟩
theorem aew (hi:i.natAbs.log2<1920) (h:Q (.str (toString i)) H):jR [.int i] H Q:=⟨i,rfl,hi,h⟩
theorem aex {i j:Bool}(h:Q (.bl (decide (V.bl i=V.bl j))) H):gY K (.bl i) (.bl j) H Q:=.inl ⟨rfl,h⟩
theorem x_tB (h:te Z H λx H1=>∃ c,x=.bl c/\QT c H1):tB te Z H QT:=h
theorem aey (h:ta Z H λx H1=>Q (.bl (decide (x=.non))) H1):My ta Z H Q:=h
theorem acN (h:ta Z H λx H1=>Q (.bl (!decide (x=.non))) H1):VU ta Z H Q:=h
theorem acO {R:It->Hp->Prop}(h:tA Z H λvs H1=>∃ j:Int,vs=[.int j]/\-(2^62)<=j/\j<2^62/\R (Itr 0 j.toNat) H1):Mz tA Z H R:=h
theorem aez {tb:TS}(h:wi Z H λJ H1=>∃ W:Nat->Nat->St->Hp->Prop,(∃ m,W 0 m Z H1)/\∀ i m Z H,W i m Z H ->
 (J.stop i H/\D.nx Z H)\/(J.go i H/\∃ N:St->Hp->Prop,(∀ σ' H',N σ' H'->∃ m',m'<m/\W (i+1) m' σ' H')/\∀ x H',J.U8 i H x H'->g x Z H' λσ2 H2=>tb { D with nx:=N,ct:=N,bk:=D.nx } σ2 H2)):Dw wi g tb D Z H:=h
theorem acP {own:Nat}{js:List Nat}(h:wi Z H λJ H1=>∀ acc,H1 acc=none ->
 ∃ W:Nat->Nat->List V->St->Hp->Prop,(∃ m,W 0 m [] (nB own none++MM Z js) (upd H1 acc (.lst [])))/\∀ i m ys σ' H',W i m ys σ' H'->H' acc=some (.lst ys) /\
  ((J.stop i H'/\Q (.ref acc) H')\/(J.go i H'/\∀ x H2,J.U8 i H' x H2->g x σ' H2 λσ2 H3=>tt σ2 H3 λb H4 =>
   if b=true then te σ2 H4 λy H5=>H5 acc=some (.lst ys)/\ys.length<aZ/\∃ m',m'<m/\W (i+1) m' (ys++[y]) σ2 (upd H5 acc (.lst (ys++[y]))) else ∃ m',m'<m/\W (i+1) m' ys σ2 H4))):jB own js wi g tt te Z H Q:=h
theorem aeA {i:Nat}{ti:TIp}(hx:Z[i]?=some (some x)) (h:te Z H λy H1=>ti x y H1 λz H2=>D.nx (Z.set i (some z)) H2):VX i te ti D Z H:=⟨x,hx,h⟩
theorem wZ {ts:Y3}(h:kU K H a xs) (hn:xs.length=n) (k:ts xs Z H R):Gx K n ts (.ref a) Z H R:=⟨a,xs,rfl,h,hn,k⟩
theorem ZV {gs:Y3}{v:V}{r:List V}(h:g v Z H λσ' H'=>gs r σ' H' R):jj g gs (v::r) Z H R:=⟨v,r,rfl,h⟩
theorem acQ (h:R Z H):Js [] Z H R:=⟨rfl,h⟩
theorem aeB {b:ai}{zs:List V}(h:H l=some (.lst xs)) (h':H b=some (.lst zs)) (hl:xs.length+zs.length<=aZ) (k:∀ p,H p=none->Q (.ref p) (upd H p (.lst (xs++zs)))):jk (.ref l) (.ref b) H Q:=.inr ⟨l,b,xs,zs,rfl,rfl,h,h',hl,k⟩
theorem aeC (k:Q (.int (if j<i then j else i)) H):abk [.int i,.int j] H Q:=⟨i,j,rfl,k⟩
theorem aeD (k:Q (.int (if j>i then j else i)) H):abl [.int i,.int j] H Q:=⟨i,j,rfl,k⟩
theorem abn {T:String}{t:au}{b:Bool}(ty:wV K H x t) (e:iD K t (.type T)=some b) (k:Q (.bl b) H):ZT K [x,.ty T] H Q:=⟨x,T,t,b,rfl,ty,e,k⟩
theorem Iy {lo hi:Option Int}(h:cW K H a xs) (k:∀ p,H p=none->Q (.ref p) (upd H p (.lst (Cg xs lo hi)))):rM K (.ref a) lo hi H Q:=⟨a,xs,rfl,h,k⟩
theorem Wr (h1:Rep K H d x) (h2:Rep K H (.list ds) y) (f1:PP d) (f2:i7 ds=true) (k:Q (.bl (!(ds.any λe=>fU e d))) H):GC K true x y H Q:=.inl ⟨d,ds,h1,.inl h2,f1,f2,k⟩
theorem aeE (h1:Rep K H d x) (h2:Rep K H (.list ds) y) (f1:PP d) (f2:i7 ds=true) (k:Q (.bl (ds.any λe=>fU e d)) H):GC K false x y H Q:=.inl ⟨d,ds,h1,.inl h2,f1,f2,k⟩
end
theorem acR:iD K (.type "int") (.type "int")=some true:=by rfl
theorem acS:iD K (.type "int") (.type "bool")=some false:=by rfl
theorem bY.dm (h:H l=none):bY H (upd H l o):=λb u e=>by rw [aI (aJ e h)];exact e
def bJ (c:ai) (H H':Hp):Prop:=∀ b o,H b=some o->b≠c->H' b=some o
theorem bJ.refl (c:ai) (H:Hp):bJ c H H:=λ_ _ h _=>h
theorem bJ.trans {H1 H2:Hp}(a:bJ c H H1) (b:bJ c H1 H2):bJ c H H2:=λx o h n=>b x o (a x o h n) n
theorem bJ.upd:bJ c H (upd H c o):=λb u e n=>by rw [aI n];exact e
theorem b8 {α:Type} {xs:List α}{j:Nat}{v:α}(hi:i=(j:Int)) (h:xs[j]?=some v):Uc xs i=some v:=by subst hi;exact ZK h
theorem acT {j:Nat}(hi:i=(j:Int)) (h:j<n):Ub n i=some j:=by
 subst hi;unfold Ub;rw [if_pos (by lia),if_pos (by lia)]
 rfl
theorem eS (h:n<=m) (hm:m<=100000:=by decide):n<=aZ:=a9 h (a9 hm (by rw [vA];decide))
theorem gG (h:n<m) (hm:m<=100000:=by decide):n<aZ:=bp h (a9 hm (by rw [vA];decide))
mutual
def oU:PyData->Bool
 | .int _=>true
 | .list xs=>kb xs
 | .tuple xs=>kb xs
 | _=>false
def kb:List PyData->Bool
 | []=>true
 | x::xs=>oU x && kb xs
end
mutual
theorem Iz:∀ d:PyData,oU d=true->d.canLay0=true
 | .int _,_=>by simp [Jk]
 | .list xs,h=>by simp only [oU] at h;simp only [Jk];exact kC xs h
 | .tuple xs,h=>by simp only [oU] at h;simp only [Jk];exact kC xs h
 | .none,h=>by simp [oU] at h
 | .bool _,h=>by simp [oU] at h
 | .str _,h=>by simp [oU] at h
 | .dict _,h=>by simp [oU] at h
theorem kC:∀ ds:List PyData,kb ds=true->i7 ds=true
 | [],_=>by simp [i7]
 | d::ds,h=>by
  simp only [kb,fB] at h;simp only [i7,fB];exact ⟨Iz d h.1,kC ds h.2⟩
end
end L2
namespace L2
open PySem.Calls
open PySem.W (kla_fn kla_obj tabObj CodeHd)
variable {X:Cx}{H:Hp}{Pt c:ai}{pos:vQ}{m:aY->Option au}{pins:List (ai×iW)}{Z:St}{s:aC}{params:xO}{scope:tL}
theorem aeF {h:cI}{a:ai}{m':aY->Option au}(x:h.Ns a m) (y:h.Ns a m'):m=m':=by
 obtain ⟨o,es,ep,e,d,_,r⟩:=x;obtain ⟨o',es',ep',e',d',_,r'⟩:=y;rw [e] at e';cases e';rw [d] at d';cases d'
 funext n
 rw [← r n,← r' n]
theorem Inv.news {h':cI}{t':Nat}(I:Inv X pins Z H s) (hm:s.heap.Ns X.env.locals m) (F:Fr X.base X.env.locals h' m)
  (N:zD X.base X.env.locals h' (lQ X.base s.heap X.env.locals)):Inv X pins Z H { s with heap:=h',toks:=t' }:=by
 have k:∀ b o,b≠X.env.locals->s.heap.get? b=some o->h'.get? b=some o:=λb o h1 e=>by
  cases q:X.base.get? b with
  | some u =>
   have:=I.bk b u q;rw [e] at this;cases this
   exact F.keep b _ q
  | none=>exact (N (b,o) (nG h1 q e)).1
 refine I.step (g':=s.gens) (d':=s.drawn) (ch:=[]) (λ_ z=>nomatch z) (λb o h1 _ _ e _=>k b o h1 e) (λb o h1 _ _ e _=>⟨o.slots,k b o h1 e⟩) (λ_ _ _ _ n=>n) (λb o _ e=>?_) (λ_ _ e=>e) (λ_ _ _ e=>e)
  (λb ps e=>⟨#[],by rw [e];simp⟩) (λm' hm'=>by rw [← aeF hm hm'];exact F.ns) (λb u e=>?_) I.bare
 .by_cases hb:b=X.env.locals
  .subst hb;obtain ⟨o',_,_,e',_⟩:=F.ns;exact ⟨o',e'⟩
  .exact ⟨o,k b o hb e⟩
 .refine (I.fh b u e).zr (λc v hc q=>k c v ?_ q) (λ_ q=>q) λ_ _ q=>q;rintro rfl
  rcases hc with hc|hc
  .rw [← hc,I.free] at e;cases e
  .rw [I.free] at hc;cases hc
def MP (Pt:ai) (H H':Hp):Prop:=∀ b o,b≠Pt->H b=some o->H' b=some o
def R3 (Pt:ai) (pos:vQ) (qual:aY) (H:Hp):Prop :=
 H Pt=some (.tbl #[])\/∃ c' oc vs t,H Pt=some (.tbl #[cq pos.line,cq pos.col,.ref c'])/\H c'=some (.frz oc (.ext λ_=>True))/\oc.data=.fields vs/\vs[1]?=some (tM qual t)
theorem R3.tbl {qual:aY}(h:R3 Pt pos qual H):∃ ps,H Pt=some (.tbl ps):=by
 rcases h with h|⟨_,_,_,_,h,_⟩
 .exact ⟨_,h⟩
 .exact ⟨_,h⟩
theorem Ws {E:au->aC->Prop}{Q:au->aC->Prop}{body:Expr}(I:Inv X pins Z H s) (hcode:X.env.code=.ref c) (C:oI X.base c Pt) (B:X.base.BuiltinsAt X.mg Pt)
  (hdef:defaultsOf params X.env=([],[])) (hfr:∀ n,(n,bI)∈scope.names->∃ c,X.env.cells.lookup n=some c) (hT:R3 Pt pos (X.env.qual++"<lambda>") H)
  (h:∀ f c' ctv h' tk H2,Inv X pins Z H2 { s with heap:=h',toks:=tk }->h'.get? f=some (zG "<lambda>" (X.env.qual++"<lambda>") params body scope (pW X.env.cells scope.names []) ((X.mg "__name__").getD .none) c' ctv)->h'.CodeRec (.ref c') (X.env.qual++"<lambda>") ->
   MP Pt H H2->R3 Pt pos (X.env.qual++"<lambda>") H2->(∀ b o,b≠Pt->s.heap.get? b=some o->h'.get? b=some o)->Q (.ref f) { s with heap:=h',toks:=tk }) :
  aQ (a7 X.prog X.w) X.A (fw (.Lambda params body scope pos) X.env) Q E s:=by
 have hg:s.heap.Ns br X.mg:=I.mod.glob.keeps I.bk;have C1:=C.keeps I.bk
 have B1:s.heap.BuiltinsAt X.mg Pt:=let ⟨bm,o,b1,b2,b3,b4,b5,b6⟩:=B;⟨bm,o,b1,b2,b3,b4,I.bk _ _ b5,b6⟩
 refine PySem.W.kla_eval hdef ?_
 rcases hT with hT|⟨c',oc,vs,t,hT,hc',hd,hv⟩
 .have hP:s.heap.get? Pt=some (O2 #[]):=I.fh Pt _ hT
  have hgP:br≠Pt:=λq=>by
   obtain ⟨o,es,ep,e,hd,_⟩:=hg;rw [q,hP] at e;cases e;cases hd
  refine PySem.W.kla_makeFunction (mg:=X.mg) (wX hfr) I.ok.glob hg hcode C1 hP trivial rfl hgP B1 λc' ctv h' tk hx hge hlt hrec htb=>?_;obtain ⟨c₂,oc,vs,t,e2,hoc,hd,hv⟩:=id hrec;cases e2;have hn:H c'=none:=I.fh.fresh hge
  have ncP:c'≠Pt:=λq=>by rw [q,hT] at hn;cases hn
  have hL:X.env.locals≠Pt:=λq=>by have:=I.free;rw [q,hT] at this;cases this
  have k:∀ b o,b≠Pt->s.heap.get? b=some o->(h'.push (zG "<lambda>" (X.env.qual++"<lambda>") params body scope (pW X.env.cells scope.names []) ((X.mg "__name__").getD .none) c' ctv)).get? b=some o:=λb o hb e=>ax _ (hx b o hb e);have hP':(h'.push (zG "<lambda>" (X.env.qual++"<lambda>") params body scope (pW X.env.cells scope.names []) ((X.mg "__name__").getD .none) c' ctv)).get? Pt=some (O2 #[cq pos.line,cq pos.col,.ref c']):=ax _ htb;have hoc':(h'.push (zG "<lambda>" (X.env.qual++"<lambda>") params body scope (pW X.env.cells scope.names []) ((X.mg "__name__").getD .none) c' ctv)).get? c'=some oc:=ax _ hoc;have hf:(h'.push (zG "<lambda>" (X.env.qual++"<lambda>") params body scope (pW X.env.cells scope.names []) ((X.mg "__name__").getD .none) c' ctv)).get? h'.objs.size=some (zG "<lambda>" (X.env.qual++"<lambda>") params body scope (pW X.env.cells scope.names []) ((X.mg "__name__").getD .none) c' ctv):=aP _ rfl;generalize h'.push (zG "<lambda>" (X.env.qual++"<lambda>") params body scope (pW X.env.cells scope.names []) ((X.mg "__name__").getD .none) c' ctv)=h2 at k hP' hoc' hf
  have st:∀ b o,b≠Pt->H b=some o->upd (upd H Pt (.tbl #[cq pos.line,cq pos.col,.ref c'])) c' (.frz oc (.ext λ_=>True)) b=some o:=λb o hb e=>by
   rw [aI (aJ e hn),aI hb];exact e
  refine h _ c' ctv h2 tk (upd (upd H Pt (.tbl #[cq pos.line,cq pos.col,.ref c'])) c' (.frz oc (.ext λ_=>True))) ?_ hf ⟨c',oc,vs,t,rfl,hoc',hd,hv⟩ st (.inr ⟨c',oc,vs,t,by rw [aI (Ne.symm ncP)];exact aK,aK,hd,hv⟩) k
  have nP:∀ b,H b=none->b≠Pt:=λb e q=>by rw [q,hT] at e;cases e
  refine I.step (g':=s.gens) (d':=s.drawn) (ch:=[]) (λ_ z=>nomatch z) (λb o _ _ _ e n=>k b o (nP b n) e) (λb o _ _ _ e n=>⟨o.slots,k b o (nP b n) e⟩) (λb o _ e n=>?_) (λb o _ e=>?_) (λb xs e=>?_) (λb o u e=>?_)
   (λb ps e=>?_) (λm' hm'=>?_) (λb u e=>?_) I.bare
  .rw [aI (a6 (bp (aO e) hge)),aI (nP b n)];exact n
  .by_cases hb:b=Pt
   .exact ⟨_,hb▸hP'⟩
   .exact ⟨o,k b o hb e⟩
  .exact st b _ (λq=>by rw [q,hT] at e;cases e) e
  .exact st b _ (λq=>by rw [q,hT] at e;cases e) e
  .by_cases hb:b=Pt
   .subst hb;rw [hT] at e;cases e;exact ⟨#[cq pos.line,cq pos.col,.ref c'],by rw [aI (Ne.symm ncP),aK];simp⟩
   .exact ⟨#[],by rw [st b _ hb e];simp⟩
  .obtain ⟨o,es,ep,e,r⟩:=hm';exact ⟨o,es,ep,k _ o hL e,r⟩
  .by_cases hb:b=c'
   .subst hb;rw [aK] at e;cases e;exact ⟨hoc',trivial,⟨oc,hoc'⟩,λ_ _ _ _=>trivial⟩
   .rw [aI hb] at e
    by_cases hb2:b=Pt
    .subst hb2;rw [aK] at e;cases e;exact hP'
    .rw [aI hb2] at e;refine (I.fh b u e).zr (λd v hc q=>k d v ?_ q) (λd q=>st d _ (λz=>by rw [z,hT] at q;cases q) q) λd xs q=>st d _ (λz=>by rw [z,hT] at q;cases q) q;rintro rfl
     rcases hc with hc|hc
     .exact hb2 hc.symm
     .rw [hT] at hc;cases hc
 .have hP:s.heap.get? Pt=some (O2 #[cq pos.line,cq pos.col,.ref c']):=I.fh Pt _ hT;refine PySem.W.kla_makeFunctionHit (mg:=X.mg) (cv:=.ref c') (wX hfr) I.ok.glob hg hcode C1 hP (by simp [TriplesOk,cq]) (by simp [codeAmong,cq]) B1 λctv h' tk hk hsz=>?_;have k:∀ b o,s.heap.get? b=some o->(h'.push (zG "<lambda>" (X.env.qual++"<lambda>") params body scope (pW X.env.cells scope.names []) ((X.mg "__name__").getD .none) c' ctv)).get? b=some o:=λb o e=>ax _ (hk b o e);refine h h'.objs.size c' ctv _ tk H (I.kept k) (aP _ rfl) ⟨c',oc,vs,t,rfl,k _ _ (I.fh c' _ hc').1,hd,hv⟩ (λ_ _ _ e=>e) (.inr ⟨c',oc,vs,t,hT,hc',hd,hv⟩) λb o _ e=>k b o e
section
variable {e:Expr}{tx:TA}{x y:aY}{j:Nat}{p0 p1 p2 p3 lpos kpos:vQ}
end
end L2
namespace L2
open PySem.Calls
open PySem.W (tabObj CodeHd noTabs tabIn)
end L2
namespace L2
theorem lK.okC {P:bQ}{w:cK}{K:aa}{mg:aY->Option au}{base:cI}{x qual:aY}{st:cH}{f:ai}{fd:gA}{N ps:List aY}{k:Nat}{sp:Sp}{mM:au}(F:lK K x qual st f fd) (hc:fd.code=mM) (S:bb N ps (aM st)) (len:∀ vs H Q E,sp vs H Q E->vs.length=ps.length)
  (hbody:∀ (A:eD) (outer:List zB) (s:aC) (H:Hp) (vs:List V) (Q:VK) (E:XK),iu k (A.deeper (mI qual (aM st) s.heap.objs.size f mM))->sp vs H Q E ->
   ∃ t,LO (mG eW P w K mg base N qual (aM st) f mM A outer s H E).nox (kA st) t/\t { nx:=λ_ H'=>Q .non H',rt:=Q } (start N vs) H):dC P w K mg base eW (k+1) f fd ps sp:=by
 obtain ⟨oc,od,kV,doc,pm,an,cdv',ct,osl,rfl,lk,hcd⟩:=F.ex;have e:cdv'=mM:=hc;subst e;refine V8 lk hcd S len λA outer s H vs Q E hr hsp=>?_;obtain ⟨t,h,q⟩:=hbody A outer s H vs Q E hr hsp;exact ⟨t,h.nox,q⟩
section
variable {K:aa}{Z:St}{H:Hp}{Q:VK}
theorem qc {σ0:St}{g:TG}{tt:TT}{te:TE}{z acc:ai}{xs:List V}{R:Hp->Prop}{α:Type} (items:List α) (p:α->Bool) (f:α->V) (S:St->Prop) (hlen:items.length=xs.length) (hz:cW K H z xs) (ha:H acc=none) (s0:S σ0) (hs:xs.length<=100000)
  (turn:∀ (i:Nat) (a:α) (x:V) (σ':St) (H':Hp) (G:V->St->Hp->Prop) (G':St->Hp->Prop),items[i]?=some a->xs[i]?=some x->bY H H'->S σ'->(p a=true->∀ σ2,S σ2->G (f a) σ2 H')->(p a=false->∀ σ2,S σ2->G' σ2 H') ->
   g x σ' H' λσ2 H3=>tt σ2 H3 λb H4=>if b=true then te σ2 H4 λy H5=>G y σ2 H5 else G' σ2 H4)
  (fin:∀ H',bY H H'->H' acc=some (.lst ((items.filter p).map f))->R H') :
  ∃ W:Nat->Nat->List V->St->Hp->Prop,(∃ m,W 0 m [] σ0 (upd H acc (.lst [])))/\∀ i m ys σ' H',W i m ys σ' H'->H' acc=some (.lst ys) /\
  (((TM K z).stop i H'/\R H')\/((TM K z).go i H'/\∀ x H2,(TM K z).U8 i H' x H2->g x σ' H2 λσ2 H3=>tt σ2 H3 λb H4 =>
   if b=true then te σ2 H4 λy H5=>H5 acc=some (.lst ys)/\ys.length<aZ/\∃ m',m'<m/\W (i+1) m' (ys++[y]) σ2 (upd H5 acc (.lst (ys++[y]))) else ∃ m',m'<m/\W (i+1) m' ys σ2 H4)):=by
 refine m7 (n:=xs.length) (λi ys H'=>ys=((items.take i).filter p).map f/\H' acc=some (.lst ys)/\bY H H') S ⟨by simp,aK,bY.dm ha⟩ s0 ?_ ?_ ?_ ?_
 .rintro i ys H' ⟨_,h,_⟩;exact h
 .rintro ys H' ⟨e,h,S'⟩;refine ⟨⟨_,S'.seq hz,aB _⟩,fin H' S' ?_⟩;rw [h,e,bV (by lia)]
 .rintro i ys H' hi ⟨e,h,S'⟩;exact ⟨_,_,S'.seq hz,ay hi⟩
 .rintro i ys σ' H' x H2 hi ⟨e,h,S'⟩ hσ ⟨e2,hx⟩;subst e2;have hxi:=hx _ (S'.seq hz)
  obtain ⟨a,hai⟩:∃ a,items[i]?=some a:=⟨_,ay (by lia)⟩
  have et:items.take (i+1)=items.take i++[a]:=by rw [f9,hai];rfl
  refine turn i a x σ' H2 _ _ hai hxi S' hσ (λhp σ2 h2=>?_) λhp σ2 h2=>?_
  .refine ⟨h,bw (m:=i) ?_ (bp hi (eS hs)),lL.mk' hi h2 ⟨?_,aK,λb o q=>by rw [aI (aJ q ha)];exact S' _ _ q⟩⟩
   .rw [e,ag];exact a9 (dX _ _) (by rw [bK];lia)
   .rw [et,e,fu,bx];simp [hp]
  .refine lL.mk' hi h2 ⟨?_,h,S'⟩;rw [et,e,fu,bx];simp [hp]
theorem DQ:∀ ns:List Int,kb (ns.map .int)=true
 | []=>rfl
 | n::ns=>by simp only [bu,kb,fB];exact ⟨by simp [oU],DQ ns⟩
theorem Wt {H:Hp}{a:ai}{ns:List Int}(h:cW K H a (ns.map V.int)):Rep K H (.list (ns.map .int)) (.ref a):=.lst h (fN.ints ns)
end
end L2
namespace BootT
open PySem
theorem sum:dI "sum"=some (.builtin "sum"):=by decide +kernel
theorem zip:dI "zip"=some (.type "zip"):=by decide +kernel
theorem set:dI "set"=some (.type "set"):=by decide +kernel
end BootT
namespace L2
open PySem PySem.Spec PyProof.Rows PySem.SeqAt
variable {K:aa}{H:Hp}{Q:VK}
section
variable {X:Cx}
def Wu (K:aa):V->List V->Hp->VK->Prop:=λx vs H Q=>∃ (l:ai) (ns:List Int) (k:Int),x=.ref l/\vs=[.int k]/\cW K H l (ns.map V.int)/\k∈ns/\Q (.int (ns.idxOf k:Nat)) H
theorem Wv:VG X "list.index" (Wu X.K):=by
 intro pins s Z H x vs v us Q I rx rv h;obtain ⟨l,ns,k,rfl,rfl,hq,hk,q⟩:=h;cases rx;obtain ⟨u,rfl,t,rfl⟩:=rv.one;obtain ⟨its,r,pl,hz⟩:=I.list hq;have hi:gC its ns:=intsAre_of r;have hlen:=hi.length;have hl2:=r.length;have hj:ns.idxOf k<ns.length:=fe.mpr hk;have h63:=tY;rw [ag] at hz hl2;obtain ⟨⟨cls,dd,data,sl⟩,ho,hc,n,hd⟩:=pl.isList;simp only at hc hd;subst hc hd
 refine Vl fo ⟨_,ho,rfl⟩ L0 (Jl _ _)
  (list_indexAt l its.toArray n dd sl (.int k t) (isInt k) (ns.idxOf k) (by rw [bc];lia) (by lia) ?_ ?_) ⟨ho,λy hy=>(eq_isInt k t hi y (by simpa using hy)).at _ _,⟨.int _,H,I.tok _,⟨_,rfl⟩,q⟩⟩
 .show isInt k its[ns.idxOf k]=true
  rw [isInt_at k hi _ (by lia) hj]
  simpa using Ca hj
 .intro j hjs hlt
  show isInt k its[j]=false
  rw [isInt_at k hi j (by simpa using hjs) (by lia)];exact ne_of_lt_idxOf hlt _
def Sr (K:aa):V->List V->Hp->VK->Prop:=λx vs H Q=>∃ (l:ai) (y:V) (ds:List PyData) (d:PyData) (j:Nat) (ej:PyData),x=.ref l/\vs=[y]/\Rep K H (.list ds) (.ref l)/\Rep K H d y/\PP d/\i7 ds=true /\
 ds.length<=aZ/\ds[j]?=some ej/\fU ej d=true/\(∀ m e,m<j->ds[m]?=some e->fU e d=false)/\Q (.int (j:Nat)) H
theorem Ul (hu:X.A.units+64<i8):VG X "list.index" (Sr X.K):=by
 intro pins s Z H x vs v us Q I rx rv h;obtain ⟨l,y,ds,d,j,ej,rfl,rfl,hR,hd,hf,hc,hz,hj,he,hno,q⟩:=h;cases rx;obtain ⟨u,rfl,ru⟩:=rv.one;obtain ⟨as,r1⟩:=Rep.reads I _ _ _ hR rfl;obtain ⟨bs,r2⟩:=Rep.reads I d y u hd ru;have h63:=tY;have hdep:=hf.dep;have hjl:j<ds.length:=(aE.mp hj).1
 cases r1 with
 | @list _ o items n _ as2 h1 h2 h3 h4 =>
  obtain ⟨cls,dd,data,sl⟩:=o;have h2':cls=_:=h2;have h3':data=_:=h3;subst h2' h3';have hm:=readsAll_map _ _ _ hc h4
  have hsz:items.size=ds.length:=by rw [← hm,ag,aX]
  have at_:∀ (m:Nat) (hm':m<items.size) (e:PyData),ds[m]?=some e->readOf s.heap items[m]=e:=λm hm' e z=>by
   rw [← hm,aG,cn,bX hm'] at z;exact aL z
  refine Vl fo ⟨_,h1,rfl⟩ L0 (Jl _ _)
   (list_indexAt l items n dd sl u (λy=>fU (readOf s.heap y) d) j (by lia) (by lia) ?_ ?_) ⟨h1,items_eqAt h4 r2 hc hf.lay (by lia),⟨.int _,H,I.tok _,⟨_,rfl⟩,q⟩⟩
  .show fU (readOf s.heap items[j]) d=true
   rw [at_ j (by lia) _ hj];exact he
  .intro m hm' hlt
   obtain ⟨e,z⟩:∃ e,ds[m]?=some e:=⟨_,ay (by lia)⟩
   show fU (readOf s.heap items[m]) d=false
   rw [at_ m hm' e z];exact hno m e hlt z
theorem VG.or {id:String}{r r':V->List V->Hp->VK->Prop}(h:VG X id r) (h':VG X id r'):VG X id (λx vs H Q=>r x vs H Q\/r' x vs H Q):=by
 intro pins s Z H x vs v us Q I rx rv z
 rcases z with z|z
 .exact h pins s Z H x vs v us Q I rx rv z
 .exact h' pins s Z H x vs v us Q I rx rv z
def qd (K:aa):V->List V->Hp->VK->Prop:=λx vs H Q=>Wu K x vs H Q\/Sr K x vs H Q
theorem qW (hu:X.A.units+64<i8):VG X "list.index" (qd X.K):=Wv.or (Ul hu)
variable {tg:Expr}
theorem aeG {T:String}{r:V->List V->Hp->VK->Prop}{to:TE}{Z:St}(h:to Z H λx H1=>tyV K T x H1/\r x [] H1 Q):acr K T r to Z H Q:=h
theorem JI {l:ai}{ns:List Int}{k:Int}(h:cW K H l (ns.map V.int)) (hk:k∈ns) (q:Q (.int (ns.idxOf k:Nat)) H):qd K (.ref l) [.int k] H Q:=.inl ⟨l,ns,k,rfl,rfl,h,hk,q⟩
end
end L2
namespace L2
variable {j:Nat}{l:ai}{v:Int}{xs:List V}{K:aa}{H:Hp}{Q:VK}
section
variable {a:ai}{ns:List Int}{i i':Int}{j':Nat}
theorem JJ {n d:Nat}(h:i=(j:Int)):HT.Ml n d (some i)=min j n:=by subst h;exact HT.ZJ n d j
theorem MQ (h:i=(j:Int)):Cg xs (some i) none=xs.drop j:=by
 unfold Cg;rw [JJ h,HT.MG]
 by_cases e:j<=xs.length
 .rw [wR e,bV (by rw [cD];lia)]
 .rw [HV (by lia),nC (aB _),nC (by lia)];simp
theorem PR (h:i=(j:Int)):Cg xs none (some i)=xs.take j:=by
 unfold Cg;rw [JJ h,HT.MG,List.drop_zero,Nat.sub_zero]
 by_cases e:j<=xs.length
 .rw [wR e]
 .rw [HV (by lia),bV (aB _),bV (by lia)]
theorem ZW (h:i=(j:Int)) (h':i'=(j':Int)):Cg xs (some i) (some i')=(xs.drop j).take (j'-j):=by
 unfold Cg;rw [JJ h,JJ h']
 by_cases e:j<=xs.length
 .rw [wR e]
  by_cases e':j'<=xs.length
  .rw [wR e']
  .rw [HV (by lia),bV (by rw [cD];lia),bV (by rw [cD];lia)]
 .rw [nC (show xs.length<=min j xs.length by lia),nC (show xs.length<=j by lia)];simp
theorem yi (h:cW K H a (ns.map V.int)) (e:i=(j:Int)) (k:∀ p,H p=none->Q (.ref p) (upd H p (.lst ((ns.drop j).map V.int)))):rM K (.ref a) (some i) none H Q :=
 Iy h λp hp=>by rw [MQ e,← List.map_drop];exact k p hp
theorem PU (h:cW K H a (ns.map V.int)) (e:i=(j:Int)) (k:∀ p,H p=none->Q (.ref p) (upd H p (.lst ((ns.take j).map V.int)))):rM K (.ref a) none (some i) H Q :=
 Iy h λp hp=>by rw [PR e,← Bb];exact k p hp
theorem JK (h:cW K H a (ns.map V.int)) (e:i=(j:Int)) (e':i'=(j':Int)) (k:∀ p,H p=none->Q (.ref p) (upd H p (.lst (((ns.drop j).take (j'-j)).map V.int)))):rM K (.ref a) (some i) (some i') H Q :=
 Iy h λp hp=>by rw [ZW e e',← List.map_drop,← Bb];exact k p hp
theorem JL {b:ai}{ms:List Int}(h:H l=some (.lst (ns.map V.int))) (h':H b=some (.lst (ms.map V.int))) (hl:ns.length+ms.length<=100000) (k:∀ p,H p=none->Q (.ref p) (upd H p (.lst ((ns++ms).map V.int)))):jk (.ref l) (.ref b) H Q :=
 aeB h h' (by rw [ag,ag];exact eS hl) λp hp=>by rw [← bx];exact k p hp
theorem Ss (h:ns[j]?=some v):(ns.map V.int)[j]?=some (.int v):=by rw [aG,h];rfl
theorem MR (h:cW K H a (ns.map V.int)) (e:i=(j:Int)) (g:ns[j]?=some v) (k:Q (.int v) H):c5 K (.ref a) (.int i) H Q:=gL h (b8 e (Ss g)) k
theorem Ww (h:cW K H a (ns.map V.int)) (k:Q (.int ns.length) H):nX K [.ref a] H Q:=lq h (by rw [ag];exact k)
theorem ZX {α:Type} {xs:List α}{v:α}(hj:j<xs.length) (h:xs[xs.length-(j+1)]?=some v):Uc xs (-((j:Int)+1))=some v:=by
 unfold Uc Ub;rw [if_neg (by lia),if_pos (by lia)]
 have e:(-((j:Int)+1)+(xs.length:Int)).toNat=xs.length-(j+1):=by lia
 simpa [e] using h
end
section
variable {Z:St}
theorem aeH {y:V}(h:H l=some (.lst (xs++[y]))) (k:Q y (upd H l (.lst xs))):acu (.ref l) [] H Q:=⟨l,xs++[y],y,rfl,rfl,h,by simp,by simpa using k⟩
end
end L2
namespace Sx
open PySem.W
variable {n:Nat}{k:Nat->Int}
def Sat (n:Nat) (k:Nat->Int) {α:Type}:KasT α->(α->Prop)->Prop
 | .ret a,Q=>Q a
 | .ask i j f,Q=>i<n/\j<n/\Sat n k (f (decide (k i<k j))) Q
theorem Sat.bind {α β:Type} {f:α->KasT β}{Q:β->Prop}:∀ {t:KasT α},Sat n k t (λa=>Sat n k (f a) Q)->Sat n k (t.bind f) Q
 | .ret _,h=>h
 | .ask _ _ _,h=>⟨h.1,h.2.1,Sat.bind h.2.2⟩
theorem Sat.mono {α:Type} {Q Q':α->Prop}(hq:∀ a,Q a->Q' a):∀ {t:KasT α},Sat n k t Q->Sat n k t Q'
 | .ret _,h=>hq _ h
 | .ask _ _ _,h=>⟨h.1,h.2.1,Sat.mono hq h.2.2⟩
def Pm (n:Nat) (p:Array Nat):Prop:=p.toList.Perm (eh n)
theorem Pm.size {p:Array Nat}(h:Pm n p):p.size=n:=by have:=h.length_eq;simpa using this
theorem Pm.lt {p:Array Nat}(h:Pm n p) (hn:0<n) (i:Nat):p.getD i 0<n:=by
 by_cases hi:i<p.size
 .have e:p.getD i 0=p[i]:=by simp [qQ,hi]
  rw [e];have:p[i]∈eh n:=h.mem_iff.mp (by simp)
  simpa using this
 .have e:p.getD i 0=0:=by simp [qQ,hi]
  lia
def Ky (k:Nat->Int) (p:Array Nat) (i:Nat):Int:=k (p.getD i 0)
theorem Ky.congr {p q:Array Nat}{i j:Nat}(h:p[i]?=q[j]?):Ky k p i=Ky k q j:=by
 unfold Ky
 have e:∀ (r:Array Nat) (a:Nat),r.getD a 0=(r[a]?).getD 0:=λr a=>by by_cases h:a<r.size<;>simp [qQ,h]
 rw [e,e,h]
theorem Pm.rev {p:Array Nat}(h:Pm n p) (i j:Nat):Pm n (Tz p i j):=(L3.mp (mirror_perm p i j _)).trans h
theorem Pm.bub {p:Array Nat}(h:Pm n p) (i j:Nat):Pm n (bubble p i j):=(L3.mp (bubble_perm p i j)).trans h
theorem PV {p:Array Nat}{a b:Nat}(hb:b<=p.size) (i:Nat):Ky k (Tz p a b) i=if a<=i/\i<b then Ky k p (a+b-1-i) else Ky k p i:=by
 have e:=getElem?_mirror_all (i:=a) hb i
 split
 .rename_i h;rw [if_pos h] at e;exact Ky.congr e
 .rename_i h;rw [if_neg h] at e;exact Ky.congr e
theorem JM {p:Array Nat}{a b:Nat}(hb:b<=p.size) (h:∀ i,a<=i->i+1<b->Ky k p i=Ky k p (i+1)) (i:Nat):Ky k (Tz p a b) i=Ky k p i:=by
 have all:∀ d i,a<=i->i+d<b->Ky k p i=Ky k p (i+d):=λd=>by
  induction d with
  | zero=>intro i _ _;rfl
  | succ d ih=>intro i h1 h2;rw [ih i h1 (by lia),h (i+d) (by lia) (by lia)];rfl
 rw [PV hb]
 split
 .rename_i z
  by_cases c:a+b-1-i<=i
  .have:=all (i-(a+b-1-i)) (a+b-1-i) (by lia) (by lia);rw [this];congr 1;lia
  .have:=all (a+b-1-i-i) i (by lia) (by lia);rw [this];congr 1;lia
 .rfl
def Up (k:Nat->Int) (p:Array Nat) (m:Nat):Prop:=∀ i,i+1<m->Ky k p i<=Ky k p (i+1)
def Dn (k:Nat->Int) (p:Array Nat) (m:Nat):Prop:=∀ i,i+1<m->Ky k p (i+1)<=Ky k p i
theorem Up.le {p:Array Nat}{m:Nat}(h:Up k p m) {i j:Nat}(hij:i<=j) (hj:j<m):Ky k p i<=Ky k p j:=by
 induction j with
 | zero =>
  have:i=0:=by lia
  subst this;exact Int.le_refl _
 | succ j ih =>
  by_cases e:i=j+1
  .subst e;exact Int.le_refl _
  .exact Int.le_trans (ih (by lia) (by lia)) (h j hj)
theorem Up.one {p:Array Nat}{m:Nat}(hm:m<=1):Up k p m:=λi hi=>absurd hi (by lia)
theorem JN {p:Array Nat}(hp:Pm n p) (hn:0<n):∀ (f m:Nat),1<=m->m+f<=n->Up k p m->Sat n k (kas_asc p f m) λm'=>m<=m'/\m'<=m+f/\Up k p m'/\(m'<m+f->Ky k p m'<Ky k p (m'-1))
 | 0,m,_,_,h=>⟨aB _,aB _,h,λz=>absurd z (by lia)⟩
 | f+1,m,h1,h2,h=>by
  refine ⟨hp.lt hn _,hp.lt hn _,?_⟩
  by_cases c:k (p.getD m 0)<k (p.getD (m-1) 0)
  .rw [decide_eq_true c];exact ⟨aB _,by lia,h,λ_=>c⟩
  .rw [decide_eq_false c];refine Sat.mono (λm' z=>⟨by lia,by lia,z.2.2.1,λw=>z.2.2.2 (by lia)⟩) (JN hp hn f (m+1) (by lia) (by lia) λi hi=>?_)
   by_cases e:i+1=m
   .subst e;have:Ky k p i=k (p.getD (i+1-1) 0):=rfl;have:Ky k p (i+1)=k (p.getD (i+1) 0):=rfl;lia
   .exact h i (by lia)
structure acU (n:Nat) (k:Nat->Int) (p:Array Nat) (m q:Nat):Prop where
 pm:Pm n p
 dn:Dn k p m
 le:q+1<=m
 eq:∀ i,m-(q+1)<=i->i+1<m->Ky k p i=Ky k p (i+1)
theorem yj (hn:0<n):∀ (f:Nat) (p:Array Nat) (m q:Nat),1<=m->m+f<=n->acU n k p m q->Sat n k (kas_desc f p m q) λr=>m<=r.2.1/\r.2.1<=m+f/\acU n k r.1 r.2.1 r.2.2
 | 0,p,m,q,_,_,h=>⟨aB _,aB _,h⟩
 | f+1,p,m,q,h1,h2,h=>by
  refine ⟨h.pm.lt hn _,h.pm.lt hn _,?_⟩
  by_cases c:k (p.getD m 0)<k (p.getD (m-1) 0)
  .rw [decide_eq_true c]
   show Sat n k (if q>0 then _ else _) _
   have hc:Ky k p m<=Ky k p (m-1):=Vn c
   by_cases hq:q>0
   .rw [if_pos hq];have sm:∀ i,Ky k (Tz p (m-(q+1)) m) i=Ky k p i:=JM (by rw [h.pm.size];lia) h.eq;refine Sat.mono (λr z=>⟨by lia,by lia,z.2.2⟩) (yj hn f _ (m+1) 0 (by lia) (by lia) ⟨h.pm.rev _ _,λi hi=>?_,by lia,λi h3 h4=>absurd h4 (by lia)⟩);rw [sm,sm]
    by_cases e:i+1=m
    .subst e;exact hc
    .exact h.dn i (by lia)
   .rw [if_neg hq];refine Sat.mono (λr z=>⟨by lia,by lia,z.2.2⟩) (yj hn f _ (m+1) 0 (by lia) (by lia) ⟨h.pm,λi hi=>?_,by lia,λi h3 h4=>absurd h4 (by lia)⟩)
    by_cases e:i+1=m
    .subst e;exact hc
    .exact h.dn i (by lia)
  .rw [decide_eq_false c];refine ⟨h.pm.lt hn _,h.pm.lt hn _,?_⟩
   by_cases d:k (p.getD (m-1) 0)<k (p.getD m 0)
   .rw [decide_eq_true d];exact ⟨aB _,jI m (f+1),h⟩
   .rw [decide_eq_false d]
    have he:Ky k p m=Ky k p (m-1):=by
     have e1:Ky k p m=k (p.getD m 0):=rfl;have e2:Ky k p (m-1)=k (p.getD (m-1) 0):=rfl;lia
    have hle:=h.le;refine Sat.mono (λr z=>⟨by lia,by lia,z.2.2⟩) (yj hn f p (m+1) (q+1) (by lia) (by lia) ⟨h.pm,λi hi=>?_,by lia,λi h3 h4=>?_⟩)
    .by_cases e:i+1=m
     .subst e;exact Int.le_of_eq he
     .exact h.dn i (by lia)
    .by_cases e:i+1=m
     .subst e;exact he.symm
     .exact h.eq i (by lia) (by lia)
theorem MS {p:Array Nat}{m:Nat}(hn:0<n) (hp:Pm n p) (h1:1<=m) (hm:m<=n) (h:Dn k p m):Sat n k (kas_tail3 m n p) λr=>Pm n r.2/\1<=r.1/\r.1<=n/\Up k r.2 r.1:=by
 refine Sat.bind (Sat.mono (λm' z=>⟨hp.rev _ _,by lia,by lia,z.2.2.1⟩) (JN (hp.rev 0 m) hn (n-m) m h1 (by lia) λi hi=>?_));rw [PV (by rw [hp.size];exact hm),PV (by rw [hp.size];exact hm),if_pos (by lia),if_pos (by lia)];have:=h (0+m-1-(i+1)) (by lia)
 have e:0+m-1-(i+1)+1=0+m-1-i:=by lia
 rw [e] at this;exact this
theorem yk {p:Array Nat}{m:Nat}(hn:0<n) (hp:Pm n p) (h1:1<=m) (hm:m+1<=n) (h:Dn k p (m+1)):Sat n k (kas_descPart m n p) λr=>Pm n r.2/\1<=r.1/\r.1<=n/\Up k r.2 r.1:=by
 refine Sat.bind (Sat.mono ?_ (yj hn (n-(m+1)) p (m+1) 0 (by lia) (by lia) ⟨hp,h,by lia,λi h3 h4=>absurd h4 (by lia)⟩));rintro ⟨p',m',q'⟩ ⟨a1,a2,a3⟩
 show Sat n k (if q'>0 then _ else _) _
 have a1:m+1<=m':=a1;have a2:m'<=m+1+(n-(m+1)):=a2;have a3:acU n k p' m' q':=a3
 by_cases hq:q'>0
 .rw [if_pos hq];refine MS hn (a3.pm.rev _ _) (by lia) (by lia) λi hi=>?_;have sm:∀ i,Ky k (Tz p' (m'-(q'+1)) m') i=Ky k p' i:=JM (by rw [a3.pm.size];lia) a3.eq;rw [sm,sm];exact a3.dn i hi
 .rw [if_neg hq];exact MS hn a3.pm (by lia) (by lia) a3.dn
theorem Um {p:Array Nat}(hn:0<n) (hp:Pm n p):Sat n k (kas_count n p) λr=>Pm n r.2/\1<=r.1/\r.1<=n/\Up k r.2 r.1:=by
 refine Sat.bind (Sat.mono ?_ (JN hp hn (n-1) 1 (aB _) (by lia) (Up.one (aB _))));rintro m ⟨a1,a2,a3,a4⟩
 show Sat n k (if (m == n)=true then _ else _) _
 by_cases e:m=n
 .subst e;rw [if_pos (by simp)];exact ⟨hp,a1,aB _,a3⟩
 .rw [if_neg (by simpa using e)];have a4:=a4 (by lia)
  by_cases h1:m>1
  .rw [if_pos h1];refine ⟨hp.lt hn _,hp.lt hn _,?_⟩
   by_cases c:k (p.getD 0 0)<k (p.getD (m-1) 0)
   .rw [decide_eq_true c];exact ⟨hp,a1,by lia,a3⟩
   .rw [decide_eq_false c]
    have eqs:∀ i,i+1<m->Ky k p i=Ky k p (i+1):=λi hi=>by
     have b1:=a3.le (bC i) (show i<m by lia);have b2:=a3 i hi;have b3:=a3.le (show i+1<=m-1 by lia) (by lia);have e1:Ky k p 0=k (p.getD 0 0):=rfl;have e2:Ky k p (m-1)=k (p.getD (m-1) 0):=rfl;lia
    have sm:∀ i,Ky k (Tz p 0 m) i=Ky k p i:=JM (by rw [hp.size];lia) λi _ hi=>eqs i hi;refine yk hn (hp.rev _ _) a1 (by lia) λi hi=>?_;rw [sm,sm]
    by_cases e3:i+1=m
    .subst e3;exact Vn a4
    .exact Int.le_of_eq (eqs i (by lia)).symm
  .rw [if_neg h1]
   have e1:m=1:=by lia
   subst e1;refine yk hn hp (aB _) (by lia) λi hi=>?_
   have e2:i=0:=by lia
   subst e2;exact Vn a4
theorem z8 {p:Array Nat}{x:Nat}(hn:0<n) (hp:Pm n p) (hx:Up k p x):∀ (f l r:Nat),r-l<=f->l<=r->r<=x->(∀ i,i<l->Ky k p i<=Ky k p x)->(∀ i,r<=i->i<x->Ky k p x<Ky k p i) ->
  Sat n k (kas_place p x f l r) λl'=>l'<=x/\(∀ i,i<l'->Ky k p i<=Ky k p x)/\∀ i,l'<=i->i<x->Ky k p x<Ky k p i
 | 0,l,r,h1,h2,h3,h4,h5=>⟨by lia,h4,λi z1 z2=>h5 i (by lia) z2⟩
 | f+1,l,r,h1,h2,h3,h4,h5=>by
  show Sat n k (if l>=r then _ else _) _
  by_cases c:l>=r
  .rw [if_pos c];exact ⟨by lia,h4,λi z1 z2=>h5 i (by lia) z2⟩
  .rw [if_neg c];refine ⟨hp.lt hn _,hp.lt hn _,?_⟩
   by_cases d:k (p.getD x 0)<k (p.getD ((l+r)/2) 0)
   .rw [decide_eq_true d];refine z8 hn hp hx f l ((l+r)/2) (by lia) (by lia) (by lia) h4 λi z1 z2=>?_;have b:=hx.le z1 z2;have d:Ky k p x<Ky k p ((l+r)/2):=d;lia
   .rw [decide_eq_false d];refine z8 hn hp hx f ((l+r)/2+1) r (by lia) (by lia) h3 (λi z1=>?_) h5;have b:=hx.le (show i<=(l+r)/2 by lia) (by lia);have d:¬ Ky k p x<Ky k p ((l+r)/2):=d;lia
theorem Wx {p:Array Nat}{x l:Nat}(hx:x<p.size) (hl:l<=x) (i:Nat):Ky k (bubble p x (x-l)) i=if i=l then Ky k p x else if l<i/\i<=x then Ky k p (i-1) else Ky k p i:=by
 have e:=getElem?_bubble hx (x-l) (by lia) i
 have e2:x-(x-l)=l:=by lia
 rw [e2] at e
 by_cases h1:i=l
 .rw [if_pos h1] at e ⊢;exact Ky.congr e
 .rw [if_neg h1] at e ⊢
  by_cases h2:l<i/\i<=x
  .rw [if_pos h2] at e ⊢;exact Ky.congr e
  .rw [if_neg h2] at e ⊢;exact Ky.congr e
theorem Su (hn:0<n):∀ (f:Nat) (p:Array Nat) (x:Nat),x+f=n->Pm n p->Up k p x->Sat n k (kas_bin f p x) λp'=>Pm n p'/\Up k p' n
 | 0,p,x,h1,hp,h=>⟨hp,by rw [← h1];exact h⟩
 | f+1,p,x,h1,hp,h=>by
  refine Sat.bind (Sat.mono ?_ (z8 hn hp h x 0 x (by lia) (bC _) (aB _) (λi z=>absurd z (by lia)) (λi z1 z2=>absurd z2 (by lia))));rintro l ⟨a1,a2,a3⟩;refine Su hn f _ (x+1) (by lia) (hp.bub _ _) λi hi=>?_
  have hs:x<p.size:=by rw [hp.size];lia
  rw [Wx hs a1,Wx hs a1]
  by_cases c1:i+1<l
  .rw [if_neg (by lia),if_neg (by lia),if_neg (by lia),if_neg (by lia)];exact h i (by lia)
  .by_cases c2:i+1=l
   .rw [if_neg (by lia),if_neg (by lia),if_pos c2];exact a2 i (by lia)
   .by_cases c3:i=l
    .rw [if_pos c3,if_neg (by lia),if_pos (by lia)];have:=a3 i (by lia) (by lia)
     have e:i+1-1=i:=by lia
     rw [e];lia
    .rw [if_neg c3,if_pos (by lia),if_neg (by lia),if_pos (by lia)];have:=h (i-1) (by lia)
     have e:i-1+1=i+1-1:=by lia
     rw [e] at this;exact this
theorem Wy:Pm n (List.toArray (eh n)):=by unfold Pm;simp
theorem MT (hn:0<n):Sat n k (kas_sort n) λp=>Pm n p/\Up k p n:=by
 refine Sat.bind (Sat.mono ?_ (Um hn Wy));rintro ⟨m,p⟩ ⟨a1,a2,a3,a4⟩
 show Sat n k (if m<n then _ else _) _
 have a2:1<=m:=a2;have a3:m<=n:=a3;have a4:Up k p m:=a4
 by_cases c:m<n
 .rw [if_pos c]
  have e:max m 1=m:=by lia
  show Sat n k (kas_bin (n-max m 1) p (max m 1)) _
  rw [e];exact Su hn (n-m) p m (by lia) a1 a4
 .rw [if_neg c]
  have:m=n:=by lia
  subst this;exact ⟨a1,a4⟩
theorem Sat.ask {cmp:Nat->Nat->(Bool->aC->Prop)->aC->Prop}{s:aC}(hc:∀ i j C,i<n->j<n->C (decide (k i<k j)) s->cmp i j C s) {α:Type} {Q:α->Prop}{G:α->aC->Prop}(hG:∀ a,Q a->G a s):∀ {t:KasT α},Sat n k t Q->t.kasWp cmp G s
 | .ret _,h=>hG _ h
 | .ask i j f,h=>hc i j _ h.1 h.2.1 (Sat.ask hc hG h.2.2)
end Sx
namespace L2
open PySem.W
variable {w:cK}{s:aC}{X:Cx}{h:cI}{a:ai}{m:aY->Option au}{H:Hp}{o:HO}{prog:bQ}{A:eD}
theorem acV {m':aY->Option au}(x:h.Ns a m) (y:h.Ns a m'):m=m':=by
 obtain ⟨o,es,ep,e,d,_,r⟩:=x;obtain ⟨o',es',ep',e',d',_,r'⟩:=y;rw [e] at e';cases e';rw [d] at d';cases d'
 funext n
 rw [← r n,← r' n]
theorem fS.obj {P:bQ}(x:fS P w H h a o):∃ ob,h.get? a=some ob:=by
 cases o with
 | lst xs=>obtain ⟨_,_,_,_,e⟩:=x;exact ⟨_,e⟩
 | tup xs=>obtain ⟨_,_,_,ob,e,_⟩:=x;exact ⟨_,e⟩
 | dK kvs=>obtain ⟨_,_,_,_,ob,_,_,e,_⟩:=x;exact ⟨_,e⟩
 | dT kvs=>obtain ⟨_,_,_,_,ob,_,_,e,_⟩:=x;exact ⟨_,e⟩
 | set S n=>obtain ⟨ob,_,_,_,e,_⟩:=x;exact ⟨_,e⟩
 | ins C dx fs=>obtain ⟨_,_,_,e,_⟩:=x;exact ⟨_,e⟩
 | own y=>exact x
 | xd fs=>obtain ⟨_,⟨ob,_,_,e,_⟩,_⟩:=x;exact ⟨_,e⟩
 | rng lo hi=>obtain ⟨_,_,_,e⟩:=x;exact ⟨_,e⟩
 | frz ob u=>exact ⟨_,x.1⟩
 | tbl ps=>exact ⟨_,x⟩
 | met f y=>exact ⟨_,x⟩
 | ext φ=>exact x.2.1
section
variable {pins:List (ai×iW)}{Z:St}
theorem Inv.zA {h':cI}{t':Nat}{D:ai}{ob:iW}(I:Inv X pins Z H s) (hm:s.heap.Ns X.env.locals m) (F:Fr X.base X.env.locals h' m)
  (N:zD X.base X.env.locals h' ((D,ob)::lQ X.base s.heap X.env.locals)) (hD:∀ q∈lQ X.base s.heap X.env.locals,q.1<D) (new:fS X.prog X.w (upd H D o) h' D o):H D=none/\Inv X pins Z (upd H D o) { s with heap:=h',toks:=t' }:=by
 have nd:=N (D,ob) ah
 have gD:s.heap.get? D=none:=by
  cases q:s.heap.get? D with
  | none=>rfl
  | some u=>exact absurd (hD (D,u) (nG nd.2.1 nd.2.2 q)) (gR _)
 have hn:H D=none:=by
  cases q:H D with
  | none=>rfl
  | some u =>
   obtain ⟨w,e⟩:∃ w,s.heap.get? D=some w:=(I.fh D u q).obj;rw [gD] at e;cases e
 have k:∀ b o,b≠X.env.locals->s.heap.get? b=some o->h'.get? b=some o:=λb o h1 e=>by
  cases q:X.base.get? b with
  | some u =>
   have z:=I.bk b u q;rw [e] at z;cases z
   exact F.keep b _ q
  | none=>exact (N (b,o) (ae _ (nG h1 q e))).1
 have nD:∀ b o,s.heap.get? b=some o->b≠D:=λb o e z=>by rw [z,gD] at e;cases e
 have hH:∀ b u,H b=some u->b≠D:=λb u e=>aJ e hn
 refine ⟨hn,I.step (g':=s.gens) (d':=s.drawn) (ch:=[]) (λ_ z=>nomatch z) (λb o h1 _ _ e _=>k b o h1 e) (λb o h1 _ _ e _=>⟨o.slots,k b o h1 e⟩) (λb o _ e n=>by rw [aI (nD b o e)];exact n) (λb o _ e=>?_)
  (λb _ e=>by rw [aI (hH b _ e)];exact e) (λb _ _ e=>by rw [aI (hH b _ e)];exact e) (λb ps e=>⟨#[],by rw [aI (hH b _ e),e];simp⟩) (λm' hm'=>by rw [← acV hm hm'];exact F.ns) (λb u e=>?_) I.bare⟩
 .by_cases hb:b=X.env.locals
  .subst hb;obtain ⟨o',_,_,e',_⟩:=F.ns;exact ⟨o',e'⟩
  .exact ⟨o,k b o hb e⟩
 .by_cases hb:b=D
  .subst hb;rw [aK] at e;cases e;exact new
  .rw [aI hb] at e
   refine (I.fh b u e).zr (λc v hc q=>k c v ?_ q) (λc q=>by rw [aI (hH c _ q)];exact q) λc _ q=>by rw [aI (hH c _ q)];exact q
   rintro rfl
   rcases hc with hc|hc
   .rw [← hc,I.free] at e;cases e
   .rw [I.free] at hc;cases hc
end
theorem MU {α:Type} {p q:α->Bool}:∀ {l:List α}{x:α},(∀ y∈l,p y=true->q y=true)->x∈l->p x=false->q x=true->l.countP p<l.countP q
 | y::l,x,h,hx,h1,h2=>by
  have hl:∀ y∈l,p y=true->q y=true:=λy hy=>h y (ae _ hy);have hle:l.countP p<=l.countP q:=Vo hl;rw [abU,abU]
  rcases aj.mp hx with e|hx
  .subst e;rw [h1,h2];simp;lia
  .have hlt:=MU hl hx h1 h2
   by_cases hp:p y=true
   .rw [if_pos hp,if_pos (h y ah hp)];lia
   .rw [if_neg hp];lia
abbrev Zt:=Int×Int×ai
def zP (z:Zt):Int×Int:=(z.1,z.2.1)
def qy (z:Zt):V:=.ref z.2.2
def lu (H:Hp) (z:Zt):Prop:=H z.2.2=some (.tup [.int z.1,.int z.2.1])
theorem IA:∀ zs:List Zt,Vals (zs.map qy) (zs.map λz=>aH z.2.2)
 | []=>.nil
 | z::zs=>.cons rfl (IA zs)
theorem PX {α:Type} (l:List α) (d:α):(eh l.length).map (λi=>l.getD i d)=l:=by
 apply nE
 intro i;rw [aG]
 by_cases h:i<l.length
 .rw [YX h,ay h];simp [h]
 .rw [dD (by simp;lia),dD (by lia)];rfl
theorem JO {E:au->aC->Prop}{l:ai}{vs:List au}{Q:au->aC->Prop}(hl:s.heap.IsList l vs.toArray) (h2:vs.length<2)
  (h:Q (.ref (s.heap.objs.size+1)) { s with heap:=sortedAll s.heap vs vs.toArray }):aQ (a7 prog w) A (call (.builtin "sorted") [.ref l]) Q E s:=by
 have hz:vs.length<=aZ:=eS (m:=2) (by lia);refine Mr kind_sorted aaS aaT (args_sorted1 _) (af (m:=checkCount "sorted" 1 1 _) (aw (af (collect_list hl (af (vU ?_ hz)) hz))));have e1:((s.heap.push (bE "list" #[] 0)).update s.heap.objs.size (bH (·++vs.toArray))).objs.size=s.heap.objs.size+1:=(oo ..).trans (size_push' ..);have g1:(((s.heap.push (bE "list" #[] 0)).update s.heap.objs.size (bH (·++vs.toArray))).push (bE "list" vs.toArray 0)).get? (s.heap.objs.size+1)=some (bE "list" vs.toArray 0):=e1▸aP _ rfl;have e0:(bE "list" vs.toArray 0:iW)={ cls:=.type "list",data:=.seq vs.toArray }:=rfl;have hlt:s.heap.objs.size+1<(((s.heap.push (bE "list" #[] 0)).update s.heap.objs.size (bH (·++vs.toArray))).push (bE "list" vs.toArray 0)).objs.size:=aO g1
 show aQ (a7 prog w) A.in1 (do let _ ← ml [aH ((s.heap.push (bE "list" #[] 0)).update s.heap.objs.size (bH (·++vs.toArray))).objs.size] (call (.builtin "list.sort") [aH ((s.heap.push (bE "list" #[] 0)).update s.heap.objs.size (bH (·++vs.toArray))).objs.size]);ret (aH ((s.heap.push (bE "list" #[] 0)).update s.heap.objs.size (bH (·++vs.toArray))).objs.size)) _ _ { s with heap:=((s.heap.push (bE "list" #[] 0)).update s.heap.objs.size (bH (·++vs.toArray))).push (bE "list" vs.toArray 0) }
 rw [e1];generalize hh:((s.heap.push (bE "list" #[] 0)).update s.heap.objs.size (bH (·++vs.toArray))).push (bE "list" vs.toArray 0)=hp at g1 hlt;unfold sortedAll at h;rw [hh] at h;refine af (cU (di Vp ⟨_,g1,rfl⟩ R9 ?_ (args_list_sort _)));rw [list_sort_plain]
 obtain ⟨c1,g2⟩:∃ c1,(hp.update (s.heap.objs.size+1) (bH λ_=>#[])).get? (s.heap.objs.size+1)=some (bE "list" #[] c1):=⟨_,rE g1 λ_=>#[]⟩
 refine af (zH g1 rfl (af (vV g1 rfl (af (seqEpoch_at g2 rfl (af (C2 (af (vU (cU ?_) (bC _))) hz)))) (by rw [bc];exact hz) (bC _))));have g6:(((hp.update (s.heap.objs.size+1) (bH λ_=>#[])).push (bE "tuple" vs.toArray 0)).push (bE "list" #[] 0)).get? (s.heap.objs.size+1)=some (bE "list" #[] c1):=ax _ (ax _ g2)
 have hn:vs.toArray.size<2:=by rw [bc];exact h2
 show aQ (a7 prog w) A.in1.in1 _ _ _ { s with heap:=((hp.update (s.heap.objs.size+1) (bH λ_=>#[])).push (bE "tuple" vs.toArray 0)).push (bE "list" #[] 0) }
 dsimp only;rw [if_pos hn,if_pos hn];refine af (aw ?_);rw [aaU];refine af (aw ?_);dsimp only
 have es:(arrOf (SortSt.mk' general' (vs.toArray.zip vs.toArray) #[] 7 none)).map (·.2)=vs.toArray:=by
  show (vs.toArray.zip vs.toArray).map (·.2)=vs.toArray
  apply Gi.mp
  simp;exact abV (aB _)
 rw [es];refine af (seqEpoch_at g6 rfl (af (vV g6 rfl ?_ (bC _) (by rw [bc];exact abW hz))));simp only [bne_self_eq_false,cg,if_false];exact aw ⟨_,rfl,aw ⟨_,rfl,h⟩⟩
end L2
namespace Zl
open PySem.W
variable {T S:ai}{f:Bool}{oT:iW}{n:Nat}{Q:Bool->aC->Prop}{R:Vj->aC->Prop}
section
variable {prog:bQ}{w:cK}{A:eD}{E:au->aC->Prop}{s:aC}{z TI TO i1 i2 l1 l2:ai}{xs ys:Array au}{k:Nat}
abbrev DR (h:cI) (z TI TO T:ai) (f:Bool):Prop:=h.get? z=some { cls:=.type "zip",dict:=none,data:=.fields #[cq T,.bool f,.bool false,.ref TI,.ref TO],slots:=#[] }
theorem MV (hz:DR s.heap z TI TO T f) (hT:s.heap.get? T=some oT)
  (hQ:∀ h',DR h' z TI TO T true->iB z s.heap h'->Q false { s with heap:=h' }):aQ (a7 prog w) A (gJ (.ref z)) Q E s:=by
 unfold gJ;refine af (vB hz rfl (x:=cq T) rfl ?_);unfold cq;dsimp only;refine af (kdx_alive (a:=T) hT ?_);simp only [VM,cg,if_false];refine af (vB hz rfl (x:=.bool f) rfl ?_)
 cases f with
 | true =>
  rw [if_neg (by decide)]
  exact aw (hQ s.heap hz ⟨rfl,λb hb=>rfl⟩)
 | false =>
  rw [if_pos (by decide)];exact af (wpAny_setField_rec hz (by simp) λh' hz' hs'=>aw (hQ h' hz' hs'))
theorem Wz {x y:au}{Q:au->aC->Prop}(D:C3 z TI TO i1 i2 l1 l2) (hz:DR s.heap z TI TO T f) (hT:s.heap.get? T=some oT) (hTI:vW s.heap TI (.ref i1) (.ref i2))
  (h1:s.heap.IsListIter i1 l1 k) (h2:s.heap.IsListIter i2 l2 k) (hl1:s.heap.IsList l1 xs) (hl2:s.heap.IsList l2 ys) (hx:xs[k]?=some x) (hy:ys[k]?=some y)
  (hQ:∀ h',DR h' z TI TO T true->h'.IsListIter i1 l1 (k+1)->h'.IsListIter i2 l2 (k+1)->vW h' s.heap.objs.size x y ->
   (∀ c o,c≠z->c≠i1->c≠i2->s.heap.get? c=some o->h'.get? c=some o)->Q (.ref s.heap.objs.size) { s with heap:=h' }) :
  aQ (a7 prog w) A (kH.«zip.__next__» ⟨[.ref z],[]⟩) (λfin s'=>∃ v,fin=.done (.ret v)/\Q v s') E s:=by
 show aQ _ _ (field (.ref z) 2 >>= _) _ _ _
 refine af (vB hz rfl (x:=.bool false) rfl ?_)
 show aQ _ _ (field (.ref z) 3 >>= _) _ _ _
 refine af (vB hz rfl (x:=.ref TI) rfl (af (wpAny_seqItems hTI rfl ?_)))
 show aQ _ _ (gJ (.ref z) >>= _) _ _ _
 refine af (MV hz hT λh₀ z₀ s₀=>?_);simp only [cg,if_false];refine af ?_;rw [← YY];simp only [vS,xY];refine af (af (cU ?_))
 show aQ _ _ (jJ (.ref i1) >>= _) _ _ _
 refine af (zI (s:={ s with heap:=h₀ }) (h1.extBut s₀.extBut D.i1z) (hl1.extBut s₀.extBut D.l1z) hx λh₁ j₁ s₁=>aw (aw ?_));refine af (af (cU ?_))
 show aQ _ _ (jJ (.ref i2) >>= _) _ _ _
 refine af (zI (s:={ s with heap:=h₁ }) ((h2.extBut s₀.extBut D.i2z).extBut s₁.extBut D.i12.symm) ((hl2.extBut s₀.extBut D.l2z).extBut s₁.extBut D.l2i1) hy λh₂ j₂ s₂=>aw (aw (aw ?_)))
 have sz:h₂.objs.size=s.heap.objs.size:=by rw [s₂.1,s₁.1,s₀.1]
 have zz:DR h₂ z TI TO T true:=s₂.extBut _ _ D.i2z.symm (s₁.extBut _ _ D.i1z.symm z₀);have kp:∀ c o,c≠z->c≠i1->c≠i2->s.heap.get? c=some o->h₂.get? c=some o:=λc o c1 c2 c3 e=>s₂.extBut _ _ c3 (s₁.extBut _ _ c2 (s₀.extBut _ _ c1 e));refine af (C2 ?_ (by show 2<=aZ;exact L2.eS (m:=2) (aB 2)));refine aw ⟨_,rfl,?_⟩
 show Q (.ref h₂.objs.size) { s with heap:=h₂.push { cls:=.type "tuple",data:=.seq #[x,y] } }
 rw [sz];refine hQ _ (ax _ zz) ((Heap.IsListIter.extBut j₁ s₂.extBut D.i12).at λo e=>ax _ e) (j₂.at λo e=>ax _ e) (by rw [← sz];exact aP _ rfl) λc o c1 c2 c3 e=>ax _ (kp c o c1 c2 c3 e)
theorem ZY {Q:PySem.Fin->aC->Prop}(hh:A.handled=none) (D:C3 z TI TO i1 i2 l1 l2) (hz:DR s.heap z TI TO T f) (hT:s.heap.get? T=some oT) (hTI:vW s.heap TI (.ref i1) (.ref i2))
  (h1:s.heap.IsListIter i1 l1 k) (h2:s.heap.IsListIter i2 l2 k) (hl1:s.heap.IsList l1 xs) (hl2:s.heap.IsList l2 ys) (hend:xs[k]?=none\/ys[k]?=none)
  (hE:∀ h' e,(∀ c o,c≠z->c≠i1->c≠i2->s.heap.get? c=some o->h'.get? c=some o)->(∃ o,h'.get? e=some o/\o.cls=.type "StopIteration")->E (.ref e) { s with heap:=h' }) :
  aQ (a7 prog w) A (kH.«zip.__next__» ⟨[.ref z],[]⟩) Q E s:=by
 show aQ _ _ (field (.ref z) 2 >>= _) _ _ _
 refine af (vB hz rfl (x:=.bool false) rfl ?_)
 show aQ _ _ (field (.ref z) 3 >>= _) _ _ _
 refine af (vB hz rfl (x:=.ref TI) rfl (af (wpAny_seqItems hTI rfl ?_)))
 show aQ _ _ (gJ (.ref z) >>= _) _ _ _
 refine af (MV hz hT λh₀ z₀ s₀=>?_);simp only [cg,if_false];refine af ?_;rw [← YY];simp only [vS,xY];refine af (af (cU ?_))
 show aQ _ _ (jJ (.ref i1) >>= _) _ _ _
 cases hx:xs[k]? with
 | none=>exact af (abX (s:={ s with heap:=h₀ }) hh (h1.extBut s₀.extBut D.i1z) (hl1.extBut s₀.extBut D.l1z) hx λh₁ e s₁ he=>hE h₁ e (λc o c1 c2 c3 q=>s₁ _ _ c2 (s₀.extBut _ _ c1 q)) he)
 | some x =>
  have hy:ys[k]?=none:=by rcases hend with q|q;rw [hx] at q;cases q;exact q
  refine af (zI (s:={ s with heap:=h₀ }) (h1.extBut s₀.extBut D.i1z) (hl1.extBut s₀.extBut D.l1z) hx λh₁ j₁ s₁=>aw (aw ?_));refine af (af (cU ?_))
  show aQ _ _ (jJ (.ref i2) >>= _) _ _ _
  exact af (abX (s:={ s with heap:=h₁ }) hh ((h2.extBut s₀.extBut D.i2z).extBut s₁.extBut D.i12.symm) ((hl2.extBut s₀.extBut D.l2z).extBut s₁.extBut D.l2i1) hy λh₂ e s₂ he =>
   hE h₂ e (λc o c1 c2 c3 q=>s₂ _ _ c3 (s₁.extBut _ _ c2 (s₀.extBut _ _ c1 q))) he)
structure ZS (h:cI) (z TI TO i1 i2 l1 l2 S:ai) (xs ys:Array au) (k:Nat):Prop where
 zz:(k=0/\IsZip h z TI TO .none/\∃ a b,vW h TO a b)\/∃ T f oT,DR h z TI TO T f/\h.get? T=some oT/\T≠z/\T≠i1/\T≠i2/\T≠S
 ti:vW h TI (.ref i1) (.ref i2)
 a1:h.IsListIter i1 l1 k
 a2:h.IsListIter i2 l2 k
 b1:h.IsList l1 xs
 b2:h.IsList l2 ys
structure Off (z TI TO i1 i2 l1 l2 S:ai):Prop where
 z:z≠S
 ti:TI≠S
 to:TO≠S
 i1:i1≠S
 i2:i2≠S
 l1:l1≠S
 l2:l2≠S
theorem ZS.keep {h h':cI}(x:ZS h z TI TO i1 i2 l1 l2 S xs ys k) (O:Off z TI TO i1 i2 l1 l2 S) (hk:∀ b o,b≠S->h.get? b=some o->h'.get? b=some o):ZS h' z TI TO i1 i2 l1 l2 S xs ys k where
 zz:=by
  rcases x.zz with ⟨e,hz,a,b,hp⟩|⟨T,f,oT,hz,hT,n1,n2,n3,n4⟩
  .exact .inl ⟨e,hk _ _ O.z hz,a,b,hk _ _ O.to hp⟩
  .exact .inr ⟨T,f,oT,hk _ _ O.z hz,hk _ _ n4 hT,n1,n2,n3,n4⟩
 ti:=hk _ _ O.ti x.ti
 a1:=x.a1.at λo e=>hk _ o O.i1 e
 a2:=x.a2.at λo e=>hk _ o O.i2 e
 b1:=x.b1.at λo e=>hk _ o O.l1 e
 b2:=x.b2.at λo e=>hk _ o O.l2 e
theorem ZS.item {x y:au}{Q:Option au->aC->Prop}(D:C3 z TI TO i1 i2 l1 l2) (st:ZS s.heap z TI TO i1 i2 l1 l2 S xs ys k) (hS:S<s.heap.objs.size) (hx:xs[k]?=some x) (hy:ys[k]?=some y)
  (hQ:∀ h',ZS h' z TI TO i1 i2 l1 l2 S xs ys (k+1)->vW h' s.heap.objs.size x y->(∀ c o,c≠z->c≠TO->c≠i1->c≠i2->s.heap.get? c=some o->h'.get? c=some o)->Q (some (.ref s.heap.objs.size)) { s with heap:=h' }) :
  aQ (a7 prog w) A (jH (.ref z)) Q E s:=by
 have lt1:i1<s.heap.objs.size:=by obtain ⟨_,e,_⟩:=st.a1;exact aO e
 have lt2:i2<s.heap.objs.size:=by obtain ⟨_,e,_⟩:=st.a2;exact aO e
 rcases st.zz with ⟨e,hz,a,b,hp⟩|⟨T,f,oT,hz,hT,n1,n2,n3,n4⟩
 .refine wpAny_pyNext_zip_item D hz st.ti hp st.a1 st.a2 st.b1 st.b2 hx hy λh' q1 q2 q3 q4 q5 q6 q7=>?_;refine hQ h' ⟨.inr ⟨_,false,_,q1,q5,eP (aO hz),eP lt1,eP lt2,eP hS⟩,q7 _ _ D.TIz D.TITO D.TIi1 D.TIi2 st.ti,q3,q4,st.b1.at λo e=>q7 _ o D.l1z D.l1TO D.l1i1 D.l1i2 e,st.b2.at λo e=>q7 _ o D.l2z D.l2TO D.l2i1 D.l2i2 e⟩ q5 q7
 .have ty:s.TypeIs (.ref z) "zip":=⟨_,hz,rfl⟩
  unfold jH
  refine af (jK (eE (name:=av "__next__") ty F.slot_zip_next (di F.slot_zip_next ty F.entry_zip_next
   (Wz D hz hT st.ti st.a1 st.a2 st.b1 st.b2 hx hy λh' q1 q3 q4 q5 q7=>aw ?_) (F.args_zip_next_1 _))))
  refine hQ h' ⟨.inr ⟨T,true,oT,q1,q7 _ _ n1 n2 n3 hT,n1,n2,n3,n4⟩,q7 _ _ D.TIz D.TIi1 D.TIi2 st.ti,q3,q4,st.b1.at λo e=>q7 _ o D.l1z D.l1i1 D.l1i2 e,st.b2.at λo e=>q7 _ o D.l2z D.l2i1 D.l2i2 e⟩ q5 λc o c1 _ c3 c4 e=>q7 c o c1 c3 c4 e
theorem ZS.done {Q:Option au->aC->Prop}(hh:A.handled=none) (D:C3 z TI TO i1 i2 l1 l2) (st:ZS s.heap z TI TO i1 i2 l1 l2 S xs ys k) (hend:xs[k]?=none\/ys[k]?=none)
  (hQ:∀ h',(∀ c o,c≠z->c≠TO->c≠i1->c≠i2->s.heap.get? c=some o->h'.get? c=some o)->Q none { s with heap:=h' }):aQ (a7 prog w) A (jH (.ref z)) Q E s:=by
 rcases st.zz with ⟨e,hz,a,b,hp⟩|⟨T,f,oT,hz,hT,n1,n2,n3,n4⟩
 .exact wpAny_pyNext_zip_end hh D hz st.ti hp st.a1 st.a2 st.b1 st.b2 hend hQ
 .have ty:s.TypeIs (.ref z) "zip":=⟨_,hz,rfl⟩
  unfold jH
  refine af (jK (eE (name:=av "__next__") ty F.slot_zip_next (di F.slot_zip_next ty F.entry_zip_next
   (ZY hh D hz hT st.ti st.a1 st.a2 st.b1 st.b2 hend λh' e hk he=>?_) (F.args_zip_next_1 _))))
  obtain ⟨o,ho,hc⟩:=he;exact af (qa (T:="StopIteration") (b:=true) ⟨o,ho,hc⟩ C4 (aw (hQ _ λc o c1 _ c3 c4 q=>hk c o c1 c3 c4 q)))
structure Made (h:cI) (lo:ai) (xs ys:Array au) (as:List ai):Prop where
 up:as.Pairwise (· < ·)
 lo:∀ a∈as,lo<a
 pr:∀ (j:Nat) (a:ai),as[j]?=some a->∃ x y,xs[j]?=some x/\ys[j]?=some y/\vW h a x y
theorem VZ {S:Nat}(hh:A.handled=none) (D:C3 z TI TO i1 i2 l1 l2) (O:Off z TI TO i1 i2 l1 l2 S) (hn:min xs.size ys.size=n) (hn2:n<=100000) (res:au) (lo:ai) (hlo:z<=lo/\TO<=lo/\i1<=lo/\i2<=lo/\S<=lo) {h₀:cI}
  (hR:∀ h' tk acc c as,(∀ b o,b≠S->b≠z->b≠TO->b≠i1->b≠i2->h₀.get? b=some o->h'.get? b=some o)->h'.get? S=some { cls:=.type "list",dict:=none,data:=.seq acc c,slots:=#[] }->acc.toList=as.map aH->as.length=n->Made h' lo xs ys as->R (.ok (.ret res)) { s with heap:=h',toks:=tk }) :
  ∀ (m i:Nat) (h:cI) (tk c:Nat) (acc:Array au) (as:List ai),n-i=m->i<=n->ZS h z TI TO i1 i2 l1 l2 S xs ys i->(∀ b o,b≠S->b≠z->b≠TO->b≠i1->b≠i2->h₀.get? b=some o->h.get? b=some o) ->
   h.get? S=some { cls:=.type "list",dict:=none,data:=.seq acc c,slots:=#[] }->acc.toList=as.map aH->as.length=i->Made h lo xs ys as->lo<h.objs.size ->
   mn (a7 prog w) A (.builtin "list.extend.loop" ⟨[.ref S,.ref z,res],[]⟩) R { s with heap:=h,toks:=tk }:=by
 intro m
 induction m with
 | zero =>
  intro i h tk c acc as hm hi st kp hS hacc hal hM hlh
  have ei:i=n:=by lia
  subst ei;refine ju Jm ?_;rw [gM eF _]
  show aQ _ A.in1 (jH (.ref z) >>= _) _ _ _
  have hend:xs[i]?=none\/ys[i]?=none:=by
   by_cases q:xs.size<=i
   .exact .inl (iz q)
   .exact .inr (iz (by lia))
  refine af (ZS.done (s:={ s with heap:=h,toks:=tk }) (A:=A.in1) hh D st hend λh' he=>?_);refine aw (hR h' tk acc c as (λb o b1 b2 b3 b4 b5 e=>he b o b2 b3 b4 b5 (kp b o b1 b2 b3 b4 b5 e)) (he S _ (Ne.symm O.z) (Ne.symm O.to) (Ne.symm O.i1) (Ne.symm O.i2) hS) hacc hal ⟨hM.up,hM.lo,λj a hj=>?_⟩);obtain ⟨x,y,q1,q2,q3⟩:=hM.pr j a hj;have far:∀ {b:ai},b<=lo->a≠b:=λhb=>eP (bw hb (hM.lo a (aS hj)))
  exact ⟨x,y,q1,q2,he a _ (far hlo.1) (far hlo.2.1) (far hlo.2.2.1) (far hlo.2.2.2.1) q3⟩
 | succ m ih =>
  intro i h tk c acc as hm hi st kp hS hacc hal hM hlh
  have hlt:i<n:=by lia
  obtain ⟨x,hx⟩:∃ x,xs[i]?=some x:=⟨_,bX (by lia)⟩
  obtain ⟨y,hy⟩:∃ y,ys[i]?=some y:=⟨_,bX (by lia)⟩
  refine ju Jm ?_;rw [gM eF _]
  show aQ _ A.in1 (jH (.ref z) >>= _) _ _ _
  refine af (ZS.item (s:={ s with heap:=h,toks:=tk }) (A:=A.in1) D st (aO hS) hx hy λh' st' hp kk=>?_);have hS':=kk S _ (Ne.symm O.z) (Ne.symm O.to) (Ne.symm O.i1) (Ne.symm O.i2) hS
  have hsz:acc.size=i:=by rw [← aX,hacc,ag,hal]
  show aQ _ A.in1 (O3 S (·.push (aH h.objs.size)) >>= _) _ _ _
  refine af (rF hS' rfl (aw ⟨kX eF _,?_⟩) (by rw [hsz];exact L2.eS (m:=100000) (by lia)) (by rw [Array.size_push,hsz];exact abW (L2.eS (m:=100000) (by lia))));have oth:∀ b o,b≠S->h'.get? b=some o->(h'.update S (bH (·.push (aH h.objs.size)))).get? b=some o:=λb o hb e=>(cf _ _ (Ne.symm hb)).trans e;have hnS:h.objs.size≠S:=eP (aO hS);refine ih (i+1) _ tk _ (acc.push (aH h.objs.size)) (as++[h.objs.size]) (by lia) hlt (st'.keep O oth) (λb o b1 b2 b3 b4 b5 e=>oth b o b1 (kk b o b2 b3 b4 b5 (kp b o b1 b2 b3 b4 b5 e))) (bL _ hS' rfl) (by rw [C5,hacc,bx];rfl) (by rw [bD,hal];rfl) ⟨?_,λa ha=>?_,λj a hj=>?_⟩ ?_
  .refine xZ.mpr ⟨hM.up,tV _ _,λa ha b hb=>?_⟩;rw [aA.mp hb];obtain ⟨j,hj⟩:=bM.mp ha;obtain ⟨_,_,_,_,q⟩:=hM.pr j a hj;exact aO q
  .rcases aT.mp ha with q|q
   .exact hM.lo a q
   .rw [aA.mp q];exact hlh
  .by_cases q:j<as.length
   .rw [gB q] at hj;obtain ⟨x',y',q1,q2,q3⟩:=hM.pr j a hj;have far:∀ {b:ai},b<=lo->a≠b:=λhb=>eP (bw hb (hM.lo a (aS hj)));exact ⟨x',y',q1,q2,oth a _ (far hlo.2.2.2.2) (kk a _ (far hlo.1) (far hlo.2.1) (far hlo.2.2.1) (far hlo.2.2.2.1) q3)⟩
   .rw [eC (by lia)] at hj
    have ej:j-as.length=0:=by
     by_cases w:j-as.length=0
     .exact w
     .rw [dD (by simp;lia)] at hj;cases hj
    rw [ej] at hj
    have ea:h.objs.size=a:=by simpa using hj
    have ej':j=i:=by lia
    subst ea ej';exact ⟨x,y,hx,hy,oth _ _ hnS hp⟩
  .rw [oo];exact bp hlh (nV (aO hp))
theorem acW:typeLookup (.type "zip") "__len__"=pure none:=by rw [zS,pV];kernel_rfl
theorem ZZ:typeLookup (.type "zip") "__length_hint__"=pure none:=by rw [zS,pV];kernel_rfl
theorem acX (ty:s.TypeIs (.ref z) "zip") (h:Q true s):aQ (a7 prog w) A (jL (.ref z)) Q E s:=by
 unfold jL;refine af (Sa ty acW ?_);refine af (Sa ty ZZ ?_);exact aw h
theorem acY {S c₀:Nat} {va vb:au}(hh:A.handled=none) (D:C3 z TI TO i1 i2 l1 l2) (O:Off z TI TO i1 i2 l1 l2 S) (hn:min xs.size ys.size=n) (hn2:n<=100000) (res:au) (hz:IsZip s.heap z TI TO .none) (hTO:vW s.heap TO va vb)
  (st:ZS s.heap z TI TO i1 i2 l1 l2 S xs ys 0) (hS:s.heap.get? S=some { cls:=.type "list",data:=.seq #[] c₀ })
  (hR:∀ h' tk acc c as,(∀ b o,b≠S->b≠z->b≠TO->b≠i1->b≠i2->s.heap.get? b=some o->h'.get? b=some o)->h'.get? S=some { cls:=.type "list",dict:=none,data:=.seq acc c,slots:=#[] }->acc.toList=as.map aH->as.length=n->Made h' (s.heap.objs.size-1) xs ys as->R (.ok (.ret res)) { s with heap:=h',toks:=tk }) :
  aQ (a7 prog w) A.in1 (gU (.ref S) (.ref z) res) (λfin s'=>match fin with | .done f=>R (.ok f) s' | .again c'=>c'.quiet=true/\mn (a7 prog w) A c' R s') (λe s'=>R (.error e) s') s:=by
 have ty:s.TypeIs (.ref z) "zip":=⟨_,hz,rfl⟩
 have lts:∀ {b:ai}{o:iW},s.heap.get? b=some o->b<=s.heap.objs.size-1:=λe=>Nat.le_sub_one_of_lt (aO e)
 have lt1:i1<=s.heap.objs.size-1:=by obtain ⟨_,e,_⟩:=st.a1;exact lts e
 have lt2:i2<=s.heap.objs.size-1:=by obtain ⟨_,e,_⟩:=st.a2;exact lts e
 have pos:0<s.heap.objs.size:=bw (bC _) (aO hz)
 have key:∀ (h:cI) (c₁ tk:Nat),h.objs.size=s.heap.objs.size->(∀ b o,b≠S->s.heap.get? b=some o->h.get? b=some o)->h.get? S=some { cls:=.type "list",data:=.seq #[] c₁ } ->
   mn (a7 prog w) A (.builtin "list.extend.loop" ⟨[.ref S,.ref z,res],[]⟩) R { s with heap:=h,toks:=tk }:=λh c₁ tk hsz kp hS₁ =>
  VZ (h₀:=s.heap) hh D O hn hn2 res (s.heap.objs.size-1) ⟨lts hz,lts hTO,lt1,lt2,lts hS⟩ hR n 0 h tk c₁ #[] [] rfl (bC _) (st.keep O kp) (λb o b1 _ _ _ _ e=>kp b o b1 e) hS₁ rfl rfl ⟨Mq,(λa ha=>nomatch ha),λj a hj=>by simp at hj⟩ (by rw [hsz];exact Nat.sub_lt pos (by decide))
 unfold gU;refine af (aaV (T:="zip") ty ?_)
 have e1:kN (.ref S) (.ref z)=false:=by simp [kN,Ne.symm O.z]
 have e2:(fj "zip" == fj "list")=false:=by decide
 have e3:(fj "zip" == fj "tuple")=false:=by decide
 simp only [e1,e2,e3,Bool.or_false,cg,if_false];refine af (wpAny_pyIter_zip hz (af (cU (acX ty ?_))));refine kT (λ_=>af (tQ (af ?_))) (λ_=>aw ⟨kX eF _,key _ c₀ _ rfl (λb o _ e=>e) hS⟩)
 show aQ _ _ (O3 S (·.push .none) >>= λ_=>O3 S (·.pop)) _ _ _
 have g₂:=bL (bH (·.push cG)) hS rfl;have g₃:=bL (bH (·.pop)) g₂ rfl;refine af (rF hS rfl (rF (hz:=by seq_fits) g₂ rfl (aw ⟨kX eF _,key _ _ _ ?_ (λb o hb e=>?_) g₃⟩)))
 .rw [oo,oo]
 .exact (cf _ _ (Ne.symm hb)).trans ((cf _ _ (Ne.symm hb)).trans e)
theorem Uo {Q:au->aC->Prop}{va vb:au}(hh:A.handled=none) (D:C3 z TI TO i1 i2 l1 l2) (hn:min xs.size ys.size=n) (hn2:n<=100000) (hz:IsZip s.heap z TI TO .none) (hTO:vW s.heap TO va vb) (hTI:vW s.heap TI (.ref i1) (.ref i2))
  (a1:s.heap.IsListIter i1 l1 0) (a2:s.heap.IsListIter i2 l2 0) (b1:s.heap.IsList l1 xs) (b2:s.heap.IsList l2 ys)
  (hQ:∀ h' tk acc c as,(∀ b o,b≠z->b≠TO->b≠i1->b≠i2->s.heap.get? b=some o->h'.get? b=some o)->h'.get? s.heap.objs.size=some { cls:=.type "list",dict:=none,data:=.seq acc c,slots:=#[] }->acc.toList=as.map aH->as.length=n->Made h' s.heap.objs.size xs ys as->Q (.ref s.heap.objs.size) { s with heap:=h',toks:=tk }) :
  aQ (a7 prog w) A (call (.type "list") [.ref z]) Q E s:=by
 refine callType_codes (Q₁:=λobj s₁=>obj=.ref s.heap.objs.size/\s₁={ s with heap:=s.heap.push { cls:=.type "list",data:=.seq #[] } }) PySem.F.called_list (PySem.F.typeCall_list_1 _) PySem.F.entry_list_init (code_list_new _ ⟨rfl,rfl⟩) ?_;rintro obj s₁ ⟨rfl,rfl⟩;have hS:(s.heap.push { cls:=.type "list",data:=.seq #[] }).get? s.heap.objs.size=some { cls:=.type "list",data:=.seq #[] }:=aP _ rfl;refine ⟨⟨_,hS,rfl⟩,PySem.F.args_list_init_2 _ _,?_⟩;have ne:∀ {b:ai}{o:iW},s.heap.get? b=some o->b≠s.heap.objs.size:=λe=>a6 (aO e)
 have O:Off z TI TO i1 i2 l1 l2 s.heap.objs.size:=⟨ne hz,ne hTI,ne hTO,by obtain ⟨_,e,_⟩:=a1;exact ne e,by obtain ⟨_,e,_⟩:=a2;exact ne e,by obtain ⟨_,e,_⟩:=b1;exact ne e,by obtain ⟨_,e,_⟩:=b2;exact ne e⟩
 show aQ _ _ (do let old ← Builtin.List.listItems (.ref s.heap.objs.size);Builtin.List.listUpdate (.ref s.heap.objs.size) (λ_=>#[]);letGo old.toList.reverse;gU (.ref s.heap.objs.size) (.ref z) .none) _ _ _
 refine af (zH hS rfl (af (vV hS rfl (af (wpAny_letGo ?_)) (bC _) (bC _))));have g₂:=bL (bH (λ_=>(#[]:Array au))) hS rfl;have kp:∀ b o,s.heap.get? b=some o->((s.heap.push { cls:=.type "list",data:=.seq #[] }).update s.heap.objs.size (bH (λ_=>(#[]:Array au)))).get? b=some o:=λb o e=>(cf _ _ (Ne.symm (ne e))).trans (ax _ e)
 have sz:((s.heap.push { cls:=.type "list",data:=.seq #[] }).update s.heap.objs.size (bH (λ_=>(#[]:Array au)))).objs.size-1=s.heap.objs.size:=by rw [oo,jA];rfl
 refine acY (s:={ s with heap:=(s.heap.push { cls:=.type "list",data:=.seq #[] }).update s.heap.objs.size (bH (λ_=>(#[]:Array au))) }) (A:=A.in1) hh D O hn hn2 .none (kp _ _ hz) (kp _ _ hTO) ⟨.inl ⟨rfl,kp _ _ hz,_,_,kp _ _ hTO⟩,kp _ _ hTI,a1.at λo e=>kp _ o e,a2.at λo e=>kp _ o e,b1.at λo e=>kp _ o e,b2.at λo e=>kp _ o e⟩ g₂ λh' tk acc c as k1 k2 k3 k4 k5=>?_;have k5':Made h' s.heap.objs.size xs ys as:=sz▸k5;exact ⟨rfl,hQ h' tk acc c as (λb o c1 c2 c3 c4 e=>k1 b o (ne e) c1 c2 c3 c4 (kp b o e)) k2 k3 k4 k5'⟩
end
end Zl
namespace L2
open PySem.W
variable {H H':Hp}{X:Cx}{h h':cI}{Z:St}{w:cK}{K:aa}{t:TA}{Q:Option au->aC->Prop}{P:bQ}{tg:Expr}{tl:TE}{a:ai}{o:iW}{s:aC}
section
variable {pins:List (ai×iW)}
theorem Inv.grow {t':Nat}(I:Inv X pins Z H s) (k:∀ b u,s.heap.get? b=some u->h'.get? b=some u) (sub:bY H H') (new:∀ b,b<s.heap.objs.size->H b=none->H' b=none) (ok:tq X.prog X.w H' h'):Inv X pins Z H' { s with heap:=h',toks:=t' } :=
 I.un ⟨λb o e _ _ _=>k b o e,λb o e _ _ _=>⟨o.slots,k b o e⟩,λb o e n _=>new b (aO e) n,λb o e _=>⟨o,k b o e⟩,λb _ e=>sub _ _ e,λb _ _ e=>sub _ _ e,λb ps e=>⟨#[],by rw [sub _ _ e];simp⟩⟩ ok
end
def GD (H:Hp) (zs:List Zt):Hp:=λb=>match zs.find? (λz=>z.2.2 == b) with|some z=>some (.tup [.int z.1,.int z.2.1])|none=>H b
theorem WB {zs:List Zt}{b:ai}(h:∀ z∈zs,z.2.2≠b):GD H zs b=H b:=by
 unfold GD;rw [List.find?_eq_none.mpr λz hz=>by simpa using h z hz]
theorem MW:∀ {zs:List Zt}{z:Zt},(zs.map λz=>z.2.2).Nodup->z∈zs->GD H zs z.2.2=some (.tup [.int z.1,.int z.2.1])
 | y::zs,z,hn,hz=>by
  unfold GD;rw [bu,bh] at hn
  rcases aj.mp hz with e|hz
  .subst e;rw [List.find?_cons_of_pos (by simp)]
  .have hne:¬ (y.2.2 == z.2.2)=true:=λq=>hn.1 (by
    have e:y.2.2=z.2.2:=by simpa using q
    rw [e];exact bq hz)
   rw [List.find?_cons_of_neg (p:=λw:Zt=>w.2.2 == z.2.2) hne];exact MW hn.2 hz
def WC (K:aa) (t:TA):TE:=λZ H Q=>t Z H λvs H1=>∃ (a b:ai) (ns ms:List Int),vs=[.ref a,.ref b]/\cW K H1 a (ns.map V.int)/\cW K H1 b (ms.map V.int)/\ns.length<=100000 /\
 ∀ (l:ai) (zs:List Zt) (H2:Hp),bY H1 H2->H1 l=none->H2 l=some (.lst (zs.map qy))->(∀ z∈zs,lu H2 z)->zs.map zP=ns.zip ms->Q (.ref l) H2
theorem JP:∀ {vs:List au}{ns:List Int}{j:Nat}{v:au},gC vs ns->vs[j]?=some v->∃ i t,ns[j]?=some i/\v=.int i t
 | _,_,0,v,.cons n t r,e=>by simp at e;exact ⟨n,t,rfl,e.symm⟩
 | _,_,j+1,v,.cons n t r,e=>JP (j:=j) r (by simpa using e)
 | _,_,j,v,.nil,e=>by simp at e
theorem WD {lo:ai}{xs ys:List au}{ns ms:List Int}(hx:gC xs ns) (hy:gC ys ms):∀ {as:List ai},(∀ (j:Nat) (a:ai),as[j]?=some a->∃ x y,xs.toArray[j]?=some x/\ys.toArray[j]?=some y/\vW h a x y)->as.length=min ns.length ms.length ->
  ∃ zs:List Zt,zs.map (λz=>z.2.2)=as/\zs.map zP=ns.zip ms/\∀ z∈zs,∃ t u,vW h z.2.2 (.int z.1 t) (.int z.2.1 u):=by
 intro as hp hl;have hlx:=hx.length;have hly:=hy.length;refine ⟨(ns.zip ms).zipWith (λt a=>(t.1,t.2,a)) as,?_,?_,λz hz=>?_⟩
 .apply nE
  intro j;rw [aG,wU]
  by_cases hj:j<as.length
  .rw [ay hj,ay (by rw [vX];lia)];rfl
  .rw [dD (oH hj)];cases (ns.zip ms)[j]?<;>rfl
 .apply nE
  intro j;rw [aG,wU]
  by_cases hj:j<as.length
  .rw [ay hj,ay (by rw [vX];lia)];rfl
  .rw [dD (oH hj),dD (by rw [vX];lia)];rfl
 .obtain ⟨j,hj⟩:=bM.mp hz;rw [wU] at hj
  cases ea:as[j]? with
  | none =>
   rw [ea] at hj
   cases ew:(ns.zip ms)[j]? with
   | none=>rw [ew] at hj;cases hj
   | some w=>rw [ew] at hj;cases hj
  | some a =>
   obtain ⟨x,y,q1,q2,q3⟩:=hp j a ea;obtain ⟨i,t,e1,rfl⟩:=JP (j:=j) hx (by simpa using q1);obtain ⟨i',u,e2,rfl⟩:=JP (j:=j) hy (by simpa using q2)
   have ez:(ns.zip ms)[j]?=some (i,i'):=by rw [O4];exact ⟨e1,e2⟩
   rw [ea,ez] at hj;have:z=(i,i',a):=(aL hj).symm;subst this;exact ⟨t,u,q3⟩
section
variable {x y:Expr}{p1 p2 q1 q2:vQ}
theorem Z0 (hc:X.calm=true) (hgl:Gl X "list") (hml:X.mg "list"=none) (hgz:Gl X "zip") (hmz:X.mg "zip"=none) (ha:PA X [x,y] t)
  (he:bA [.Call (.Name "zip" p1) [x,y] [] p2] X.env=[(false,fw (.Call (.Name "zip" p1) [x,y] [] p2) X.env)]:=by rfl) (he2:bA [x,y] X.env=(false,fw x X.env)::bA [y] X.env:=by rfl) (hpl:(iC p2 (bA [y] X.env)).any (·.1)=false:=by rfl) :
  PE X (.Call (.Name "list" q1) [.Call (.Name "zip" p1) [x,y] [] p2] [] q2) (WC X.K t):=by
 intro pins s Z H Q I h;refine dU (rJ I hgl hml BootT.list (gS ?_ he rfl));rw [he]
 show aQ _ _ (spliced ((false,fw (.Call (.Name "zip" p1) [x,y] [] p2) X.env)::iC q2 (bA [] X.env))) _ _ s
 refine mq (dU (rJ I hgz hmz BootT.zip (gS (gN (ha p2 pins s Z H _ I h) λus s1 ⟨vs,H1,I1,r1,q⟩=>?_) he2 hpl)));obtain ⟨a,b,ns,ms,rfl,hA,hB,hle,k⟩:=q;obtain ⟨u,v,rfl,ru,rv⟩:=vals2 r1;cases ru;cases rv;obtain ⟨xs,vx,px,_⟩:=I1.list hA;obtain ⟨ys,vy,py,_⟩:=I1.list hB;have ix:=intsAre_of vx;have iy:=intsAre_of vy;have lx:=ix.length;have ly:=iy.length
 have al:a<s1.heap.objs.size:=by obtain ⟨_,e,_⟩:=px.isList;exact aO e
 have bl:b<s1.heap.objs.size:=by obtain ⟨_,e,_⟩:=py.isList;exact aO e
 refine call_zip_2 px.isList py.isList λh' hz hTI hTO j1 j2 hsz hk=>rG ?_;refine Zl.Uo (s:={ s1 with heap:=h' }) (n:=min ns.length ms.length) (I1.ok.hd hc) (zipApart_new al bl) (by rw [bc,bc,lx,ly]) (by lia) hz hTO hTI j1 j2 (px.isList.at λo e=>hk _ o e) (py.isList.at λo e=>hk _ o e) λh2 tk acc c as k1 k2 k3 k4 k5=>?_;obtain ⟨zs,e1,e2,e3⟩:=WD (lo:=0) ix iy k5.pr k4
 have old:∀ b o,s1.heap.get? b=some o->h2.get? b=some o:=λb o e=>by
  have hb:=aO e;refine k1 b o (a6 (bp hb (jI _ _))) (a6 (bp hb (jI _ _))) (a6 hb) (a6 (bp hb (jI _ _))) (hk b o e)
 have up:∀ z∈zs,h'.objs.size<z.2.2:=λz hz=>k5.lo _ (by rw [← e1];exact bq hz);have hs5:h'.objs.size=s1.heap.objs.size+5:=hsz
 have nd:(zs.map λz=>z.2.2).Nodup:=by rw [e1];exact k5.up.imp λq=>a6 q
 have far:∀ z∈zs,∀ b:ai,b<s1.heap.objs.size->z.2.2≠b:=λz hz b hb=>eP (Gh (bp hb (by rw [hs5];exact jI _ _)) (up z hz));have lf:∀ b:ai,b<s1.heap.objs.size->b≠h'.objs.size:=λb hb=>a6 (bp hb (by rw [hs5];exact jI _ _))
 have hold:∀ b:ai,b<s1.heap.objs.size->upd (GD H1 zs) h'.objs.size (.lst (zs.map qy)) b=H1 b:=λb hb=>by rw [aI (lf b hb),WB λz hz=>far z hz b hb]
 have S:bY H1 (upd (GD H1 zs) h'.objs.size (.lst (zs.map qy))):=λb o e=>by rw [hold b (I1.fh.lt e)];exact e
 have hpair:∀ z∈zs,lu (upd (GD H1 zs) h'.objs.size (.lst (zs.map qy))) z:=λz hz=>by
  show upd (GD H1 zs) h'.objs.size (.lst (zs.map qy)) z.2.2=_
  rw [aI (eP (up z hz))];exact MW nd hz
 have hlz:zs.length<=100000:=by
  have:=congrArg fA e2;rw [ag,vX] at this;lia
 have I2:Inv X pins Z (upd (GD H1 zs) h'.objs.size (.lst (zs.map qy))) { s1 with heap:=h2,toks:=tk }:=I1.grow old S (λb hb n=>by rw [hold b hb];exact n) λb o e=>by
  by_cases hb:b<s1.heap.objs.size
  .rw [hold b hb] at e;exact (I1.fh b o e).zr (λc v _ q=>old c v q) (λc q=>S _ _ q) λc _ q=>S _ _ q
  .by_cases hl:b=h'.objs.size
   .subst hl;rw [aK] at e;cases e;refine ⟨by rw [ag];exact eS hlz,acc.toList,c,?_,by rw [Array.toArray_toList];exact k2⟩;rw [k3,← e1,bO];exact IA zs
   .rw [aI hl] at e;unfold GD at e
    cases w:zs.find? (λz=>z.2.2 == b) with
    | none =>
     rw [w] at e;have e:H1 b=some o:=e;rw [I1.fh.fresh (oH hb)] at e
     cases e
    | some z =>
     rw [w] at e;cases e;have hz':=List.mem_of_find?_eq_some w
     have eb:z.2.2=b:=by simpa using List.find?_some w
     subst eb;obtain ⟨t,u,hp⟩:=e3 z hz';exact ⟨eS (m:=2) (aB 2),[.int z.1 t,.int z.2.1 u],.cons ⟨t,rfl⟩ (.cons ⟨u,rfl⟩ .nil),⟨_,hp,rfl,_,rfl⟩⟩
 exact ⟨.ref h'.objs.size,_,I2,rfl,k _ zs _ S (I1.fh.fresh (by rw [hs5];exact jI _ _)) aK hpair e2⟩
theorem acZ {Q:VK}(h:t Z H λvs H1=>∃ (a b:ai) (ns ms:List Int),vs=[.ref a,.ref b]/\cW K H1 a (ns.map V.int)/\cW K H1 b (ms.map V.int)/\ns.length<=100000 /\
 ∀ (l:ai) (zs:List Zt) (H2:Hp),bY H1 H2->H1 l=none->H2 l=some (.lst (zs.map qy))->(∀ z∈zs,lu H2 z)->zs.map zP=ns.zip ms->Q (.ref l) H2):WC K t Z H Q:=h
end
def YL (h:cI) (d:ai) (ks:List au) (ep:Nat):Prop:=∃ o es,h.get? d=some o/\o.ExactDict/\o.data=.dict es ep/\es.toList.map (·.key)=ks
section
variable {prog:bQ}{A:eD}{E:au->aC->Prop}{d it:ai}{ks:List au}{ep i:Nat}
theorem YL.typeIs (x:YL s.heap d ks ep):s.TypeIs (.ref d) "dict":=let ⟨o,_,e,c,_⟩:=x;⟨o,e,c.1⟩
theorem MX {Q:au->aC->Prop}(hd:(d == kF)=false) (x:YL s.heap d ks ep)
  (q:Q (.ref s.heap.objs.size) { s with heap:=s.heap.push { cls:=.type "dict_keyiterator",data:=.fields #[.ref d,.int 0 0,.int ks.length 0,.int ep 0] } }):aQ (a7 prog w) A (Vg (.ref d)) Q E s:=by
 have hT:=x.typeIs;obtain ⟨o,es,e,c,da,hk⟩:=x
 have hs:es.size=ks.length:=by rw [← hk,ag,aX]
 refine L9 hT F.slot_dict_iter (di F.slot_dict_iter hT F.entry_dict_iter ?_ (F.args_dict_iter_1 _));unfold kH.«dict.__iter__» Builtin.Dict.dictSlotNone;refine af (af (abY hT ?_))
 show aQ _ _ (pure (aH d)) _ _ s
 refine aw ?_
 show aQ _ _ (HW d >>= _) _ _ s
 unfold HW;rw [if_neg (by rw [hd];exact bG)];refine af (aw (af (oJ e da (af (Sb e da ?_)))));refine af (d9 (aw ⟨_,rfl,"dict_keyiterator",_,⟨_,aP _ rfl,rfl⟩,F.slot_dict_keyiterator_next.lookup,?_⟩))
 simpa [cq,hs] using q
theorem WE {v:au}(t:s.heap.IsKeyIter it d i ks.length ep) (x:YL s.heap d ks ep) (hv:ks[i]?=some v)
  (q:∀ h',h'.IsKeyIter it d (i+1) ks.length ep->iB it s.heap h'->Q (some v) { s with heap:=h' }):aQ (a7 prog w) A (jH (.ref it)) Q E s:=by
 have tt:=t.typeIs;obtain ⟨ob,g,gc,gd⟩:=id t;obtain ⟨o,es,e,c,da,hk⟩:=x
 have hs:es.size=ks.length:=by rw [← hk,ag,aX]
 have hi:i<es.size:=by rw [hs];exact (aE.mp hv).1
 have ev:es[i].key=v:=by
  rw [← hk,aG] at hv
  simpa [hi] using hv
 unfold jH;refine af (jK (eE (name:=av "__next__") tt F.slot_dict_keyiterator_next (di F.slot_dict_keyiterator_next tt F.entry_dict_keyiterator_next ?_ (F.args_dict_keyiterator_next_1 _))));refine af (aw (af (af ?_)))
 first|refine af (ko tt (aw ?_))|refine af (m5 tt (aw ?_))
 refine af (oK g gd ?_);simp only [show vC "dict_keyiterator"=false by decide,cg,if_false]
 show aQ _ _ (if (aH d == cG)=true then _ else _) _ _ s
 rw [if_neg (show ¬ ((aH d == cG)=true) from bG)];refine af (aw (af (oJ e da ?_)));rw [if_neg (by rw [hs];simp)];refine af (aw (af (Sb e da ?_)));rw [if_neg (by simp)];refine aw ?_;simp only [show ¬ ((i:Int)<0) from by lia,if_false,ij,bX hi];refine af ?_
 first|refine af (ko tt (aw ?_))|refine af (m5 tt (aw ?_))
 refine af (abZ tt ?_)
 show aQ _ _ (Vq (.ref it) 1 (cq ((i:Int)+1)) >>= _) _ _ s
 refine af (j5 g gd (by simp) ?_)
 have t':(s.heap.update it (jh (·.setIfInBounds 1 (cq ((i:Int)+1))))).IsKeyIter it d (i+1) ks.length ep :=
  ⟨_,bL _ g (kJ (dt gd _)),(tE ..).trans gc,by rw [dt gd];simp [cq]⟩
 refine af (cU ?_);refine af (abZ (s:={ s with heap:=s.heap.update it (jh (·.setIfInBounds 1 (cq ((i:Int)+1)))) }) t'.typeIs ?_)
 show aQ _ _ (pure es[i].key) _ _ _
 rw [ev];exact aw (aw ⟨_,rfl,aw (q _ t' (cB ..))⟩)
theorem Z1 (hh:A.handled=none) (hi:ks.length<=i) (t:s.heap.IsKeyIter it d i ks.length ep) (x:YL s.heap d ks ep) (q:∀ h',VN it s.heap h'->Q none { s with heap:=h' }):aQ (a7 prog w) A (jH (.ref it)) Q E s:=by
 have tt:=t.typeIs;obtain ⟨ob,g,gc,gd⟩:=id t;obtain ⟨o,es,e,c,da,hk⟩:=x
 have hs:es.size=ks.length:=by rw [← hk,ag,aX]
 unfold jH;refine af (jK (eE (name:=av "__next__") tt F.slot_dict_keyiterator_next (di F.slot_dict_keyiterator_next tt F.entry_dict_keyiterator_next ?_ (F.args_dict_keyiterator_next_1 _))));refine af (aw (af (af ?_)))
 first|refine af (ko tt (aw ?_))|refine af (m5 tt (aw ?_))
 refine af (oK g gd ?_);simp only [show vC "dict_keyiterator"=false by decide,cg,if_false]
 show aQ _ _ (if (aH d == cG)=true then _ else _) _ _ s
 rw [if_neg (show ¬ ((aH d == cG)=true) from bG)];refine af (aw (af (oJ e da ?_)));rw [if_neg (by rw [hs];simp)];refine af (aw (af (Sb e da ?_)));rw [if_neg (by simp)];refine aw ?_;simp only [show ¬ ((i:Int)<0) from by lia,if_false,ij,iz (a9 (Gg hs) hi)];refine af ?_
 first|refine af (ko tt (aw ?_))|refine af (m5 tt (aw ?_))
 show aQ _ _ (Vq (.ref it) 0 .none >>= _) _ _ s
 refine af (j5 g gd (by simp) ?_)
 show aQ _ _ (newExc (.type "StopIteration") [] >>= _) _ _ _
 refine af ?_;simp only [newExc,newTuple];refine af (d9 ?_ (by size_fits));refine af (m:=oM _ _) (Pi (a:=cG) (by first|rfl|(simp only [oM];rfl)) ?_);refine d9 ?_ (by size_fits);simp only [raiseNew];refine af (YZ ?_);rw [show A.in1.handled=none from hh];refine af (aw (wpAny_throw ?_));refine af (qa (T:="StopIteration") (b:=true) ⟨_,aP _ rfl,rfl⟩ C4 ?_);exact aw (q _ (((cB ..).extBut.push _).push _))
theorem WG {acc:Array au}(h:ItemsOf (λi v=>ks[i]?=some v) acc ks.length):acc.toList=ks:=by
 apply nE
 intro j
 cases e:acc.toList[j]? with
 | some v=>exact (h.2 j v (by rw [← cn];exact e)).symm
 | none =>
  have:ks.length<=j:=by have:=List.getElem?_eq_none_iff.mp e;rw [aX,h.1] at this;exact this
  exact (dD this).symm
end
theorem Paired.at {α β:Type} {F:α->β->Prop}{l₁:List α} {l₂:List β} (r:Paired F l₁ l₂):∀ {i:Nat}{a:α},l₁[i]?=some a->∃ b,l₂[i]?=some b/\F a b:=by
 induction r with
 | nil=>intro i a e;simp at e
 | cons h t ih =>
  intro i a e
  cases i with
  | zero =>
   simp only [mJ,gK] at e;subst e
   exact ⟨_,rfl,h⟩
  | succ i=>exact ih (by simpa using e)
theorem Paired.len {α β:Type} {F:α->β->Prop}{l₁:List α} {l₂:List β} (r:Paired F l₁ l₂):l₁.length=l₂.length:=by
 induction r with
 | nil=>rfl
 | cons h t ih=>simp [ih]
def ItT (a:ai) (kvs:List (List jz×V)) (o:iW):It :=
 ⟨λi H=>i<kvs.length/\H a=some (.frz o (.dT kvs)),λi H x H'=>H'=H/\∃ k v b,kvs[i]?=some (k,v)/\x=.ref b/\H b=some (.tup (k.map kV)),λi H=>kvs.length<=i/\H a=some (.frz o (.dT kvs))⟩
theorem Sv (a it:ai) (o:iW) (kvs:List (List jz×V)) (es:Array DictEntry) (ep:Nat) (hx:o.ExactDict) (hd:o.data=.dict es ep) (hl:es.size=kvs.length) :
  Pq P w K tg (ItT a kvs o) [it] it (λi h=>h.IsKeyIter it a i (es.toList.map (·.key)).length ep) where
 mem:=by simp
 obj:=λi h st b hb=>by
  have e:b=it:=by simpa using hb
  subst e;obtain ⟨o,e,c,d⟩:=st;exact ⟨o,e,λv z=>by rw [d] at z;cases z⟩
 keep:=λi h h' st k=>st.at λo e=>k it (by simp) o e
 item:=by
  intro X hP hw hK hc i pins s Z H E I hf st hg;subst hP hw hK;obtain ⟨hlt,hq⟩:=hg
  obtain ⟨e0,_,_,xs,rel,o',es',ep',e1,e2,e3,e4,e5⟩:=(show fS X.prog X.w H s.heap a (.frz o (.dT kvs)) from I.fh a _ hq)
  rw [e0] at e1;cases e1;rw [hd] at e3
  injection e3 with e3 e3'
  subst e3 e3'
  obtain ⟨⟨k,v⟩,hkv⟩:∃ p,kvs[i]?=some p:=⟨kvs[i],by simp [hlt]⟩
  obtain ⟨q,hq2,rq⟩:=L2.Paired.at rel hkv
  have hkey:(es.toList.map (·.key))[i]?=some (.ref q.2.1):=by rw [e4,bO,aG,hq2];rfl
  obtain ⟨f0,f1,f2,f3,f4,f5⟩:=hf it (by simp);refine WE st ⟨o,es,e0,hx,hd,rfl⟩ hkey λh' st' sb=>?_;have I1:Inv X pins Z H { s with heap:=h' }:=I.turned (t':=s.toks) (λb o hb e=>(sb.2 b hb).trans e) f0 f1 f3 f4 f5;obtain ⟨o',e,c,d⟩:=id st';exact ⟨_,rfl,Ib (s:={ s with heap:=h' }) e c d (by decide) ⟨.ref q.2.1,H,I1,rfl,⟨rfl,k,v,q.2.1,hkv,rfl,rq.2.1⟩,st',λb hb=>(hf b hb).1⟩⟩
 done:=by
  intro X hP hw hK hc i pins s Z H E I hf st hg;subst hP hw hK;obtain ⟨hle,hq⟩:=hg
  obtain ⟨e0,_⟩:=(show fS X.prog X.w H s.heap a (.frz o (.dT kvs)) from I.fh a _ hq)
  obtain ⟨f0,f1,f2,f3,f4,f5⟩:=hf it (by simp)
  have hn:(es.toList.map (·.key)).length=kvs.length:=by rw [ag,aX,hl]
  exact Z1 (I.ok.hd hc) (by lia) st ⟨o,es,e0,hx,hd,rfl⟩ λh' eb=>⟨rfl,I.turned (t':=s.toks) (λb o hb e=>eb b o hb e) f0 f1 f3 f4 f5⟩
 self:=λ_ _ _ _ _ st h=>wpAny_pyIter_keyiter st h
def iDT (tl:TE):TI:=λZ H R=>tl Z H λx H1=>∃ a kvs,x=.ref a/\((H1 a=some (.dT kvs)/\∀ o,R (ItT a kvs o) (upd H1 a (.frz o (.dT kvs))))\/∃ o,H1 a=some (.frz o (.dT kvs))/\R (ItT a kvs o) H1)
theorem abo {R:It->Hp->Prop}(h:tl Z H λx H1=>∃ a kvs,x=.ref a/\((H1 a=some (.dT kvs)/\∀ o,R (ItT a kvs o) (upd H1 a (.frz o (.dT kvs))))\/∃ o,H1 a=some (.frz o (.dT kvs))/\R (ItT a kvs o) H1)):iDT tl Z H R:=h
theorem abp {l:Expr}(hl:PE X l tl):PI X tg l (iDT tl):=by
 intro pins s Z H R I h;refine gN (hl pins s Z H _ I h) λv s1 ⟨x,H1,I1,r1,q1⟩=>?_;obtain ⟨a,kvs,e,q1⟩:=q1;subst e;cases r1
 rcases q1 with ⟨hq,q⟩|⟨ob,hq,q⟩
 rotate_left
 .obtain ⟨ho,hz,hsys,xs,rel,ob',es,ep,ho',hx,hd,he,hn⟩:=(show fS X.prog X.w H1 s1.heap a (.frz ob (.dT kvs)) from I1.fh a _ hq)
  rw [ho] at ho';cases ho'
  have hl:es.size=kvs.length:=by rw [← aX,he,ag,Paired.len rel]
  refine MX hsys ⟨ob,es,ho,hx,hd,rfl⟩ ?_;refine ⟨s1.heap.objs.size,[s1.heap.objs.size],_,_,_,rfl,I1.kept (t':=s1.toks) λb o e=>ax _ e,Sv a _ ob kvs es ep hx hd hl,⟨_,aP _ rfl,rfl,rfl⟩,λb hb=>?_,q⟩
  have e:b=s1.heap.objs.size:=by simpa using hb
  subst e;exact I1.OY (aB _) (I1.fh.fresh (aB _))
 obtain ⟨hz,hsys,xs,rel,ob,es,ep,ho,hx,hd,he,hn⟩:=(show fS X.prog X.w H1 s1.heap a (.dT kvs) from I1.fh a _ hq)
 have un:Un X.fs [] H1 (upd H1 a (.frz ob (.dT kvs))) s1.heap s1.heap:=by
  have hne:∀ b u,H1 b=some u->u≠.dT kvs->b≠a:=λb u e n z=>by subst z;rw [hq] at e;exact n (aL e).symm
  refine ⟨λb o e _ _ _=>e,λb o e _ _ _=>⟨o.slots,e⟩,λb o e n _=>?_,λb o e _=>⟨o,e⟩,λb ys e=>?_,λb o u e=>?_,λb ps e=>?_⟩
  .rw [aI (λz=>by subst z;rw [hq] at n;cases n)];exact n
  .rw [aI (hne b _ e (by intro z;cases z))];exact e
  .rw [aI (hne b _ e (by intro z;cases z))];exact e
  .exact ⟨#[],by rw [aI (hne b _ e (by intro z;cases z)),e];simp⟩
 have nt:∀ c ys,H1 c=some (.tup ys)->(upd H1 a (.frz ob (.dT kvs))) c=some (.tup ys):=λc ys q0=>by
  rw [aI (λz=>by rw [z,hq] at q0;cases q0)];exact q0
 have fh:tq X.prog X.w (upd H1 a (.frz ob (.dT kvs))) s1.heap:=λb u e=>by
  by_cases hb:b=a
  .subst hb;rw [aK] at e;cases e;exact ⟨ho,hz,hsys,xs,Paired.Vb rel λp q z=>⟨z.1,nt _ _ z.2.1,z.2.2⟩,ob,es,ep,ho,hx,hd,he,hn⟩
  .rw [aI hb] at e;refine (I1.fh b u e).zr (λc v _ q=>q) (λc q0=>?_) nt;rw [aI (λz=>by rw [z,hq] at q0;cases q0)];exact q0
 have I2:Inv X pins Z (upd H1 a (.frz ob (.dT kvs))) { s1 with heap:=s1.heap,toks:=s1.toks }:=I1.un un fh
 have hl:es.size=kvs.length:=by rw [← aX,he,ag,Paired.len rel]
 refine MX hsys ⟨ob,es,ho,hx,hd,rfl⟩ ?_;refine ⟨s1.heap.objs.size,[s1.heap.objs.size],_,_,_,rfl,I2.kept (t':=s1.toks) λb o e=>ax _ e,Sv a _ ob kvs es ep hx hd hl,⟨_,aP _ rfl,rfl,rfl⟩,λb hb=>?_,q ob⟩
 have e:b=s1.heap.objs.size:=by simpa using hb
 subst e;exact I2.OY (aB _) (I2.fh.fresh (aB _))
def Z2 (H:Hp) (Q:VK):VK:=λx H'=>Q x H'\/∃ a o kvs,(∀ o' u',H a≠some (.frz o' u'))/\H' a=some (.frz o (.dT kvs))/\Q x (upd H' a (.dT kvs))
theorem Un.U7 {fs ex:List ai}{kvs:List (List jz×V)}(u:Un fs ex H H' h h') (hn:∀ o' u',H a≠some (.frz o' u')) (ha:H' a=some (.frz o (.dT kvs))):Un fs ex H (upd H' a (.dT kvs)) h h' where
 keep:=u.keep
 slot:=u.slot
 free:=λb ob e n hx=>by
  have q:=u.free b ob e n hx;rw [aI (λz=>by rw [z,ha] at q;cases q)];exact q
 there:=u.there
 zt:=λb xs e=>by
  have q:=u.zt b xs e;rw [aI (λz=>by rw [z,ha] at q;cases q)];exact q
 xM:=λb ob w e=>by
  have q:=u.xM b ob w e;rw [aI (λz=>hn ob w (by rw [← z];exact e))];exact q
 xH:=λb ps e=>by
  obtain ⟨more,q⟩:=u.xH b ps e;exact ⟨more,by rw [aI (λz=>by rw [z,ha] at q;cases q)];exact q⟩
theorem tq.U7 {kvs:List (List jz×V)}(k:tq P w H h) (ha:H a=some (.frz o (.dT kvs))):tq P w (upd H a (.dT kvs)) h:=by
 have nt:∀ c ys,H c=some (.tup ys)->(upd H a (.dT kvs)) c=some (.tup ys):=λc ys q0=>by
  rw [aI (λz=>by rw [z,ha] at q0;cases q0)];exact q0
 intro b u e
 by_cases hb:b=a
 .subst hb;rw [aK] at e;cases e
  obtain ⟨_,hz,hsys,xs,rel,ob,es,ep,r⟩:=(show fS P w H h b (.frz o (.dT kvs)) from k b _ ha)
  exact ⟨hz,hsys,xs,Paired.Vb rel λp q z=>⟨z.1,nt _ _ z.2.1,z.2.2⟩,ob,es,ep,r⟩
 .rw [aI hb] at e;refine (k b u e).zr (λc v _ q=>q) (λc q0=>?_) nt;rw [aI (λz=>by rw [z,ha] at q0;cases q0)];exact q0
end L2
namespace BootT
end BootT
namespace L2
open PySem.W
variable {w:cK}{X:Cx}
theorem dC.U7 {P:bQ}{K:aa}{mg:aY->Option au}{base:cI}{CX:Mj}{k:Nat}{f:ai}{fd:gA}{ps:List aY}{sp sp':Sp}(F:dC P w K mg base CX k f fd ps sp')
  (h:∀ vs H Q E,sp vs H Q E->sp' vs H (Z2 H Q) E):dC P w K mg base CX k f fd ps sp:=by
 refine ⟨λvs H Q E q=>F.len vs H _ E (h _ _ _ _ q),λA outer s H args us vs Q E hr he hb hv hs=>?_⟩;refine mv (F.run A outer s H args us vs _ E hr he hb hv (h _ _ _ _ hs)) λr s' q=>?_
 cases r with
 | error e=>exact q
 | ok fl =>
  cases fl with
  | ret u =>
   obtain ⟨v,H',h1,h2,h3,h4,h5,q⟩:=(show CE outer P w H s (Z2 H Q) u s' from q)
   rcases q with q|⟨a,o,kvs,hn,ha,q⟩
   .exact (show CE outer P w H s Q u s' from ⟨v,H',h1,h2,h3,h4,h5,q⟩)
   .exact (show CE outer P w H s Q u s' from ⟨v,_,h1,h2,h3.U7 hn ha,h4.U7 ha,h5,q⟩)
  | _=>exact q
theorem Paired.eraseIdx {α β:Type} {F:α->β->Prop}{l₁:List α} {l₂:List β} (r:Paired F l₁ l₂):∀ j,Paired F (l₁.eraseIdx j) (l₂.eraseIdx j):=by
 induction r with
 | nil=>intro j;exact .nil
 | cons h t ih =>
  intro j
  cases j with
  | zero=>exact t
  | succ j=>exact .cons h (ih j)
theorem DT {κ:Type} [DecidableEq κ] {k:κ}{v:V}:∀ {kvs:List (κ×V)}{j:Nat},(kvs.map (·.1)).Nodup->kvs[j]?=some (k,v)->kvs.eraseIdx j=qT kvs k
 | [],j,_,e=>by simp at e
 | p::r,0,hn,e=>by
  simp only [mJ,gK] at e;subst e;have h1:=(bh.mp hn).1
  rw [Uh rfl,ML h1];rfl
 | p::r,j+1,hn,e=>by
  simp only [Sd] at e;have h1:=(bh.mp hn).1;have hm:k∈r.map (·.1):=bS.mpr ⟨_,aS e,rfl⟩;have hne:¬ p.1=k:=λz=>h1 (by rw [show (λx:κ×V=>x.1) p=k from z];exact hm);rw [Iu hne,tU,DT (bh.mp hn).2 e]
theorem Bh {κ:Type} [DecidableEq κ] {k:κ}{v:V}:∀ {kvs:List (κ×V)}{j:Nat},(kvs.map (·.1)).Nodup->kvs[j]?=some (k,v)->lS kvs k=some v
 | [],j,_,e=>by simp at e
 | p::r,0,hn,e=>by
  simp only [mJ,gK] at e;subst e
  exact t9 rfl
 | p::r,j+1,hn,e=>by
  simp only [Sd] at e;have h1:=(bh.mp hn).1;have hm:k∈r.map (·.1):=bS.mpr ⟨_,aS e,rfl⟩;have hne:¬ p.1=k:=λz=>h1 (by rw [show (λx:κ×V=>x.1) p=k from z];exact hm);rw [qU hne];exact Bh (bh.mp hn).2 e
theorem IB {α β:Type} (f:α->β):∀ (l:List α) (j:Nat),(l.map f).eraseIdx j=(l.eraseIdx j).map f
 | [],_=>by simp
 | a::l,0=>rfl
 | a::l,j+1=>by simp [tU,IB f l j]
theorem Uq {H:Hp}{kvs:List (List jz×V)}{xs:List (List jz×ai×au)}(r:KT H kvs xs):kvs.map (·.1)=xs.map (·.1):=by
 induction r with
 | nil=>rfl
 | cons h t ih=>simp [h.1,ih]
def Sy:V->List V->Hp->VK->Prop:=λx vs H Q=>∃ a kvs k b v,x=.ref a/\vs=[.ref b]/\H a=some (.dT kvs)/\H b=some (.tup (k.map kV))/\lS kvs k=some v/\Q v (upd H a (.dT (qT kvs k)))
theorem JQ (hu:X.A.units+64<i8):VG X "dict.pop" Sy:=by
 intro pins s Z H x xs v us Q I rx rs h;obtain ⟨a,kvs,k,b,y,rfl,rfl,ha,hb,hy,q⟩:=h;cases rx;obtain ⟨u,rfl,ru⟩:=vals1 rs;cases ru
 obtain ⟨hz,lo,ys,rel,o,es,ep,e1,e2,e3,e4,e5⟩:=(show fS X.prog X.w H s.heap a (.dT kvs) from I.fh a _ ha)
 have hl:es.size=kvs.length:=by rw [← aX,e4,ag,Paired.len rel]
 have hT:s.TypeIs (.ref a) "dict":=⟨o,e1,e2.1⟩
 have hes:es.size<=aZ:=by rw [hl];exact hz
 have hkey:=ua (P:=X.prog) (w:=X.w) I.fh hb
 have his:∀ x∈ys,(mj (fY X.prog X.w)).is s.heap x.1 x.2.1:=λx hx=>by
  obtain ⟨i,hi⟩:=bM.mp hx
  obtain ⟨p,hp⟩:∃ p,kvs[i]?=some p:=⟨kvs[i]'(by rw [Paired.len rel];exact (aE.mp hi).1),by simp⟩
  obtain ⟨x',hx',r1,r2,_⟩:=L2.Paired.at rel hp;rw [hi] at hx';cases hx';rw [← r1];exact ua I.fh r2
 have rel:KT H kvs ys:=rel;have ev:=KT.val rel k;rw [hy] at ev;have hroom:(mj (fY X.prog X.w)).room X.A.in1:=kI (by lia)
 have hnd:(kvs.map (·.1)).Nodup:=by rw [Uq rel];exact e5
 refine di F.slot_dict_pop hT F.entry_dict_pop ?_ (F.args_dict_pop_2 _ _);unfold kH.«dict.pop» Builtin.Dict.keyAndDefault;refine af (af (abY hT ?_))
 show aQ _ _ (pure (a,aH b,none)) _ _ s
 refine aw ?_
 have hne:es.isEmpty=false:=by
  cases e:es.isEmpty with
  | false=>rfl
  | true =>
   have:es.size=0:=by simpa [Array.isEmpty] using e
   have:kvs=[]:=oP (by lia);subst this;cases hy
 show aQ _ _ (dictEntries a >>= _) _ _ s
 refine af (oJ e1 e3 ?_);simp only [hne,cg,if_false,pure_bind];refine af ?_;unfold Builtin.Dict.takeOut
 try with_reducible refine cU ?_
 refine af ((mj (fY X.prog X.w)).pyHash hroom hkey ?_);refine af (wpAny_dictFind_heap (s:={ s with toks:=s.toks+(mj (fY X.prog X.w)).draws k }) hroom hkey e1 e3 e4 his e5 (λhno=>?_) λj p hj=>?_)
 .rw [atKey_none_of_get hno] at ev;exact ev.elim
 .have ep':LY ys k=some p:=atKey_of_get e5 hj;rw [ep'] at ev;have ev:RelV y p.2:=ev;refine af (oJ (s:={ s with toks:=s.toks+(mj (fY X.prog X.w)).draws k }) e1 e3 ?_);rw [entry_at e4 j,hj];refine af (wpAny_updateDictKeys (hz:=hes) (s:={ s with toks:=s.toks+(mj (fY X.prog X.w)).draws k }) e1 e3 (aw ?_));simp only [aaN,VM,cg,if_false];refine af (wpAny_letGo (aw ⟨_,rfl,y,upd H a (.dT (qT kvs k)),?_,ev,q⟩))
  have hk2:kvs[j]?=some (k,y):=by
   have hjl:j<kvs.length:=by rw [Paired.len rel];exact (aE.mp hj).1
   obtain ⟨x',hx',r1,_⟩:=L2.Paired.at rel (ay hjl);rw [hj] at hx';cases hx'
   have e:kvs[j]?=some (k,kvs[j].2):=by
    rw [ay hjl];have r1:kvs[j].1=k:=r1;exact congrArg some (Prod.ext r1 rfl)
   have:=Bh hnd e;rw [hy] at this;rw [e,← aL this]
  have hrel:KT H (qT kvs k) (ys.eraseIdx j):=by rw [← DT hnd hk2];exact Paired.eraseIdx rel j
  refine JB I (by rw [ha];exact jc) (cB ..) ⟨_,bL _ e1 (Zd (zJ e3 _))⟩
   ⟨a9 (dX _ _) hz,lo,_,hrel.keeps λc zs ec=>?_,_,_,ep+1,bL _ e1 (Zd (zJ e3 _)),e2.mapDictKeys _,zJ e3 _,?_,?_⟩
  .rw [aI (jW ec ha nofun)];exact ec
  .have:(es.eraseIdxIfInBounds j).toList=es.toList.eraseIdx j:=by obtain ⟨l⟩:=es;simp
   rw [this,e4,IB]
  .exact (x4 _ (List.eraseIdx_sublist _ _)).nodup e5
namespace Rv
section
variable {prog:bQ}{A:eD}{E:au->aC->Prop}{s:aC}{I l:ai}
end
end Rv
section
variable {x:Expr}{t:TA}{p1 p2 q1 q2:vQ}
end
end L2
namespace Sw
open PySem
variable {t:m6}{xs:Array Nat}
def A7 (xs:Array Nat):Prop:=xs.toList.Pairwise (· < ·)
theorem A7.lt (h:A7 xs) {i j a b:Nat}(hij:i<j) (h1:xs[i]?=some a) (h2:xs[j]?=some b):a<b:=by
 rw [← cn] at h1 h2;obtain ⟨hi,e1⟩:=aE.mp h1;obtain ⟨hj,e2⟩:=aE.mp h2;have:=O5.mp h i j hi hj hij;rw [e1,e2] at this;exact this
theorem DU {j:Nat}(h:A7 xs):∀ (fuel lo hi:Nat),lo<=hi->hi<=xs.size->hi-lo<=fuel->(∀ i a,i<lo->xs[i]?=some a->a<j)->(∀ i a,hi<=i->xs[i]?=some a->j<=a) ->
  (oN xs j fuel lo hi<=xs.size/\(∀ i a,i<oN xs j fuel lo hi->xs[i]?=some a->a<j)/\∀ i a,oN xs j fuel lo hi<=i->xs[i]?=some a->j<=a)
 | 0,lo,hi,h1,h2,h3,h4,h5=>by
  have:lo=hi:=by lia
  subst this
  exact ⟨h2,h4,h5⟩
 | fuel+1,lo,hi,h1,h2,h3,h4,h5=>by
  unfold oN
  by_cases c:lo<hi
  .rw [if_pos c]
   have hm:(lo+hi)/2<xs.size:=by lia
   have em:xs[(lo+hi)/2]?=some xs[(lo+hi)/2]:=bX hm
   have eg:xs.getD ((lo+hi)/2) j=xs[(lo+hi)/2]:=by simp [qQ,hm]
   simp only [eg]
   by_cases c2:xs[(lo+hi)/2]<j
   .rw [if_pos c2];refine DU h fuel _ _ (by lia) h2 (by lia) (λi a hi' ha=>?_) h5
    by_cases e:i=(lo+hi)/2
    .subst e;rw [em] at ha;cases ha;exact c2
    .exact Gh (h.lt (show i<(lo+hi)/2 by lia) ha em) c2
   .rw [if_neg c2];refine DU h fuel _ _ (by lia) (by lia) (by lia) h4 (λi a hi' ha=>?_)
    by_cases e:i=(lo+hi)/2
    .subst e;rw [em] at ha;cases ha;lia
    .have:=h.lt (show (lo+hi)/2<i by lia) em ha;lia
  .rw [if_neg c]
   have:lo=hi:=by lia
   subst this;exact ⟨h2,h4,h5⟩
theorem DV (h:A7 xs) (j:Nat):dO xs j<=xs.size/\(∀ i a,i<dO xs j->xs[i]?=some a->a<j)/\∀ i a,dO xs j<=i->xs[i]?=some a->j<=a :=
 DU h _ _ _ (bC _) (aB _) (by lia) (λi a hi=>absurd hi (by lia)) λi a hi ha=>by
  have:=(iG.mp ha).1;lia
theorem MY (h:A7 xs) {k p:Nat}(hk:k=0/\p=0\/∃ k',k=k'+1/\∃ a,xs[k']?=some a/\p=a+1):dO xs p=k:=by
 obtain ⟨h1,h2,h3⟩:=DV h p
 rcases hk with ⟨rfl,rfl⟩|⟨k',rfl,a,ha,rfl⟩
 .by_cases e:dO xs 0=0
  .exact e
  .have:xs[0]?=some xs[0]:=bX (by lia);have:=h2 0 _ (by lia) this;lia
 .have hk:=(iG.mp ha).1
  rcases Nat.lt_trichotomy (dO xs (a+1)) (k'+1) with c|c|c
  .have:=h3 k' a (by lia) ha;lia
  .exact c
  .have e:xs[k'+1]?=some (xs[k'+1]'(by lia)):=bX (by lia);have q1:=h2 (k'+1) _ c e;have q2:=h.lt (show k'<k'+1 by lia) ha e;lia
theorem A7.insert (h:A7 xs) {j:Nat}(hj:xs[dO xs j]?≠some j):A7 (SetTable.insertAt xs (dO xs j) j):=by
 obtain ⟨h1,h2,h3⟩:=DV h j;generalize dO xs j=p at h1 h2 h3 hj;unfold A7;rw [SetTable.toList_insertAt];have e:xs.toList=xs.toList.take p++xs.toList.drop p:=(ku _ _).symm
 have hp:(xs.toList.take p++xs.toList.drop p).Pairwise (· < ·):=by rw [← e];exact h
 rw [xZ] at hp;obtain ⟨p1,p2,p3⟩:=hp
 have m1:∀ a∈xs.toList.take p,a<j:=λa ha=>by
  obtain ⟨i,hi⟩:=bM.mp ha;rw [mC] at hi
  split at hi
  .exact h2 i a (by assumption) (by rw [← cn];exact hi)
  .cases hi
 have m2:∀ a∈xs.toList.drop p,j<a:=λa ha=>by
  obtain ⟨i,hi⟩:=bM.mp ha;rw [mD,cn] at hi;have q:=h3 (p+i) a (by lia) hi
  rcases Nat.lt_or_eq_of_le q with q|q
  .exact q
  .subst q
   cases i with
   | zero=>exact absurd hi hj
   | succ i =>
    have e0:xs[p]?=some (xs[p]'(by have:=(iG.mp hi).1;lia)):=bX _;have q1:=h3 p _ (aB _) e0;have q2:=h.lt (show p<p+(i+1) by lia) e0 hi;lia
 rw [xZ];refine ⟨p1,List.pairwise_cons.mpr ⟨m2,p2⟩,λa ha b hb=>?_⟩
 rcases aj.mp hb with rfl|hb
 .exact m1 a ha
 .exact p3 a ha b hb
structure TI (t:m6):Prop where
 rise:A7 t.place
 nod:t.dummies=#[]
theorem Sz (j:Nat):Ms #[] j=false:=by simp [Ms]
theorem MZ (h:TI t) {hashAt:Nat->Int}{hh:Int}:∀ (fuel:Nat) (p:SetTable.Probe) {j:Nat}{d:Option Nat},vD t hashAt hh fuel p=some (.empty j d)->p.dummy=none->d=none/\t.place[dO t.place j]?≠some j
 | 0,p,j,d,e,_=>by simp [vD] at e
 | fuel+1,p,j,d,e,hd=>by
  unfold vD at e
  have adv:(t.advance p).dummy=none:=by unfold SetTable.advance;split<;>exact hd
  cases hs:t.slot p.j with
  | empty =>
   rw [hs] at e;simp only [gK,ab0] at e;obtain ⟨rfl,rfl⟩:=e;refine ⟨hd,λz=>?_⟩;unfold aaX at hs
   simp [z] at hs
  | dummy =>
   unfold aaX at hs;rw [h.nod] at hs;simp only [Sz] at hs
   split at hs<;>simp at hs
  | live i =>
   rw [hs] at e;simp only at e
   split at e
   .simp at e
   .exact MZ h fuel _ e adv
theorem Ur (h:TI t) {hh:Int}{j:Nat}{b:Bool}(e:t.freeSlot hh=some (j,b)):t.place[dO t.place j]?≠some j:=by
 unfold SetTable.freeSlot at e
 split at e
 .rename_i j' d he
  obtain ⟨e1,e2⟩:=MZ h _ _ he rfl;subst e1;simp at e;rw [← e.1];exact e2
 .cases e
theorem TI.standIn (t:m6) (n:Nat):TI (t.standIn n):=⟨by unfold A7 SetTable.standIn;simp only [Array.toList_range];exact TB,rfl⟩
theorem TI.orStandIn (h:TI t) (n:Nat):TI (t.orStandIn n):=by
 unfold TC
 split
 .exact h
 .exact TI.standIn t n
theorem TI.put (h:TI t) {j:Nat}(hj:t.place[dO t.place j]?≠some j):TI (t.put j).1:=by
 refine ⟨h.rise.insert hj,?_⟩
 show (if Ms t.dummies j then _ else t.dummies)=#[]
 rw [h.nod,Sz,if_neg (by decide)]
theorem TI.layNew (h:TI t) (es:Array (Int×au)) (hh:Int) (x:au):TI (C6 t es hh x).2.1:=by
 unfold C6
 split
 .rename_i slot wd he
  exact (h.put (Ur h he)).orStandIn _
 .exact TI.standIn t _
theorem TI.relayAll (es:Array (Int×au)) (wanted:Nat):TI (xQ t es wanted).2.1:=by
 unfold xQ
 split
 .rename_i t' order he
  dsimp only
  split
  .unfold Y0 aaY at he;simp only [Vr,O6,aaZ,gK] at he;obtain ⟨owner,_,he⟩:=he;have:=(c8 he).1;subst this;refine ⟨?_,rfl⟩
   show ((eh _).filterMap _ |>.map _).toArray.toList.Pairwise _
   rw [List.toList_toArray,List.map_filterMap]
   have:(λx=>zT (λy:Nat×Nat=>y.1) (zT (λy=>(x,y)) (owner.getD x none)))=λx=>zT (λ_=>x) (owner.getD x none):=by funext x;cases owner.getD x none<;>rfl
   refine List.Pairwise.filterMap _ (λa b hab c hc d hd=>?_) TB;cases ha:owner.getD a none<;>rw [ha] at hc<;>simp at hc;cases hb:owner.getD b none<;>rw [hb] at hd<;>simp at hd;lia
  .exact TI.standIn t _
 .exact TI.standIn t _
theorem TI.off (h:TI t):TI { t with plain:=false }:=⟨h.rise,h.nod⟩
theorem TI.fresh (a b:Nat) (c:Bool):TI (Ze a b c):=⟨by simp [A7,Ze],rfl⟩
theorem PY (t:m6) (es:Array (Int×au)) (hh:Int) (x:au):(C6 t es hh x).2.1.led=t.led:=by
 unfold C6
 split
 .simp only [TC];split<;>rfl
 .rfl
theorem JR (t:m6) (es:Array (Int×au)) (wanted:Nat):(xQ t es wanted).2.1.led=t.led:=by
 unfold xQ
 split
 .rename_i t' order he
  dsimp only
  split
  .unfold Y0 aaY at he;simp only [Vr,O6,aaZ,gK] at he;obtain ⟨owner,_,he⟩:=he;have:=(c8 he).1;subst this
   rfl
  .rfl
 .rfl
end Sw
namespace Sw
variable {bt:Bool}{a:ai}{ks:List Int}{h:cI}
def key (e:Int×au):Int:=match e.2 with | .int i _=>i|_=>0
section
variable {prog:bQ}{w:cK}
def SO (prog:bQ) (w:cK) (bt:Bool) (h:cI) (a:ai) (ks:List Int):Prop :=
 ∃ o es ep t,h.get? a=some o/\o.ExactSet/\o.data=.set es ep t/\ElemsOf (oG prog w) es.toList/\(∀ e∈es.toList,∃ u,e.2=.int (key e) u)/\es.size<xR/\t.fits es.size=true/\TI t/\t.led=!bt/\ks=es.toList.map key/\ks.Nodup
theorem SO.keep {h':cI}(x:SO prog w bt h a ks) (k:∀ o,h.get? a=some o->h'.get? a=some o):SO prog w bt h' a ks :=
 let ⟨o,es,ep,t,e,r⟩:=x;⟨o,es,ep,t,k o e,r⟩
theorem SO.lt (x:SO prog w bt h a ks):a<h.objs.size:=let ⟨_,_,_,_,e,_⟩:=x;aO e
variable {A:eD}{E:au->aC->Prop}{s:aC}
theorem M0 {g:Bool->R5 Unit}(hg:∀ (b:Bool) (s₁:aC) (Q':Unit->aC->Prop),Q' () s₁->aQ (a7 prog w) A (g b) Q' E s₁)
  {a:ai}{o:iW}{es:Array (Int×au)}{ep:Nat}{t:m6}(ho:s.heap.get? a=some o) (hd:o.data=.set es ep t)
  {es1:Array (Int×au)}{t2:m6}(hb1:es1.size<xR) (hf2:t2.fits es1.size=true) (ti:TI t2) {wasDummy:Bool}{R:Option Bool->aC->Prop}
  (h:∀ h' es2 ep2 t3,iB a s.heap h'->h'.get? a=some { o with data:=.set es2 ep2 t3 }->es2.toList.Perm es1.toList->t3.fits es2.size=true->TI t3->t3.led=t2.led->R (some true) { s with heap:=h' }) :
  aQ (a7 prog w) A (do
    storeSet a es1 t2
    if (!wasDummy && t2.tooFull)=true then do
      g (relayAll t2 es1 (jd es1.size)).2.2
      storeSet a (relayAll t2 es1 (jd es1.size)).1 (relayAll t2 es1 (jd es1.size)).2.1
      pure (some true)
     else pure (some true)) R E s:=by
 refine af (wpAny_storeSet_of ho hd ?_ (Ma hb1))
 have g1:(s.heap.update a (vY es1 t2)).get? a=some { o with data:=.set es1 (ep+1) t2 }:=by
  have:=bL (vY es1 t2) ho (by rw [putSet_of es1 t2 hd];rfl);rw [putSet_of es1 t2 hd] at this;exact this
 have b1:=cB s.heap a (vY es1 t2)
 split
 .have hp:=relayAll_perm t2 es1 (jd es1.size);have hfr:=relayAll_fits t2 es1 (jd es1.size);have tir:=TI.relayAll (t:=t2) es1 (jd es1.size);have lr:=JR t2 es1 (jd es1.size);generalize relayAll t2 es1 (jd es1.size)=Rl at hp hfr tir lr ⊢;obtain ⟨es2,t3,gave2⟩:=Rl;dsimp only at hp hfr tir lr ⊢
  have hsz:es2.size=es1.size:=by rw [← aX,hp.length_eq,aX]
  refine af (hg _ _ _ (af (wpAny_storeSet_of g1 rfl ?_ (Ma (by rw [hsz];exact hb1)))));have g2:((s.heap.update a (vY es1 t2)).update a (vY es2 t3)).get? a=some { o with data:=.set es2 (ep+1+1) t3 }:=bL (vY es2 t3) g1 rfl;exact aw (h _ es2 _ t3 (b1.trans (cB _ a _)) g2 hp hfr tir lr)
 .exact aw (h _ es1 _ t2 b1 g1 (km _) hf2 ti rfl)
theorem ac0 {k:Int}{u:Tu}{Q:Bool->aC->Prop}(hS:SO prog w bt s.heap a ks) (hroom:ks.length+1<xR)
  (h:∀ h' ks' b,iB a s.heap h'->SO prog w bt h' a ks'->(∀ x,x∈ks'↔x∈ks\/x=k)->ks'.length<=ks.length+1->Q b { s with heap:=h' }) :
  aQ (a7 prog w) A (setAddHashed a (.int k u) ((oG prog w).hash k)) Q E s:=by
 obtain ⟨o,es,ep,t,ho,hex,hd,hel,hin,hb,hf,ti,hled,rfl,hnd⟩:=hS;have hsc:(gX k u).scannable=true:=rfl;have hkey:(oG prog w).is k (.int k u)=true:=intKind_is _ _ _ _
 have hisk:∀ e∈es.toList,((oG prog w).is k e.2=true↔key e=k):=λe he=>by
  obtain ⟨v,hv⟩:=hin e he;rw [hv,KeyKind.is_eq_decide (intKind_is prog w (key e) v) k,decide_eq_true_iff];exact eq_comm
 unfold setAddHashed setAddHashedIn;refine cU (af (jy ho hd hf ?_));dsimp only;rw [byScan_of hsc hb hel];simp only [↓reduceIte];unfold setAddByScan;refine af (af (tQ (af (wpAny_setScan_of hkey ho hd hf hel ?_))))
 cases hr:List.findIdx? (λe=>(oG prog w).is k e.2) es.toList with
 | some j =>
  dsimp only;obtain ⟨hj,hpj,_⟩:=List.findIdx?_eq_some_iff_getElem.mp hr;have hm:k∈es.toList.map key:=bS.mpr ⟨es.toList[j],eN hj,(hisk _ (eN hj)).mp hpj⟩;refine aw (aw ?_)
  have e:s={ s with heap:=s.heap }:=by cases s;rfl
  rw [e]
  exact h s.heap _ _ (Heap.SameBut.refl a s.heap) ⟨o,es,ep,t,ho,hex,hd,hel,hin,hb,hf,ti,hled,rfl,hnd⟩ (λx=>⟨.inl,λq=>q.elim id λe=>e▸hm⟩) (iF _)
 | none =>
  dsimp only
  have hnm:k∉es.toList.map key:=λhm=>by
   obtain ⟨e,he,ek⟩:=bS.mp hm;have:=List.findIdx?_eq_none_iff.mp hr e he;rw [(hisk e he).mpr ek] at this;exact Bool.noConfusion this
  have hgw:∀ (b:Bool) {s₁:aC} {Q':Unit->aC->Prop},Q' () s₁->aQ (a7 prog w) A (match b with|true=>rule "set.scan.the-table-gave-way" | false=>pure ()) Q' E s₁ :=
   λb s₁ Q' hq=>by cases b<;>first|exact aw hq|exact tQ hq
  have hperm:=layNew_perm t es ((oG prog w).hash k) (.int k u);have hfits:=layNew_fits t es ((oG prog w).hash k) (.int k u);have tin:=ti.layNew es ((oG prog w).hash k) (.int k u);have ledn:=PY t es ((oG prog w).hash k) (.int k u);generalize layNew t es ((oG prog w).hash k) (.int k u)=L at hperm hfits tin ledn ⊢;obtain ⟨es1,t1,wasDummy,gave⟩:=L;dsimp only at hperm hfits tin ledn ⊢;rw [C5] at hperm
  have hsz1:es1.size=es.size+1:=by rw [← aX,hperm.length_eq,bD,aX];rfl
  rw [ag,aX] at hroom
  have hb1:es1.size<xR:=by lia
  refine af (hgw _ ?_)
  have hend:∀ (h':cI) (es2:Array (Int×au)) (ep2:Nat) (t2 t3:m6),t2.led=t1.led->iB a s.heap h'->h'.get? a=some { o with data:=.set es2 ep2 t3 }->es2.toList.Perm es1.toList->t3.fits es2.size=true->TI t3->t3.led=t2.led->Q true { s with heap:=h' }:=by
   intro h' es2 ep2 t2 t3 l2 sb g2 hp2 hf3 ti3 l3;have hpp:=hp2.trans hperm;have hpk:=hpp.map key;rw [bx] at hpk;have ek:[((oG prog w).hash k,gX k u)].map key=[k]:=rfl;rw [ek] at hpk
   have hs2:es2.size=es.size+1:=by rw [← aX,hp2.length_eq,aX];exact hsz1
   refine h h' (es2.toList.map key) true sb ⟨_,es2,ep2,t3,g2,hex,rfl,(hel.push hkey hsc).perm hpp,λe he=>?_,by lia,hf3,ti3,by rw [l3,l2,ledn,hled],rfl,?_⟩ (λx=>?_) (by rw [ag,ag,aX,aX];lia)
   .rcases aT.mp (hpp.mem_iff.mp he) with he|he
    .exact hin e he
    .rw [aA.mp he];exact ⟨u,rfl⟩
   .exact hpk.nodup_iff.mpr (L2.Sn hnd hnm)
   .rw [hpk.mem_iff,aT,aA]
  split
  .refine af ?_;rw [hashByValue_scannable 8 hsc];refine aw ?_;refine M0 (λb s₁ Q' hq=>by cases b<;>first|exact aw hq|exact tQ hq) ho hd hb1 ?_ ?_ ?_
   .split
    .exact hfits
    .exact SetTable.fits_plain_off hfits
   .split
    .exact tin
    .exact tin.off
   .intro h' es2 ep2 t3 q1 q2 q3 q4 q5 q6;dsimp only;refine aw (hend h' es2 ep2 _ t3 ?_ q1 q2 q3 q4 q5 q6)
    split<;>rfl
  .refine af (aw ?_);simp only [↓reduceIte];refine M0 (λb s₁ Q' hq=>by cases b<;>first|exact aw hq|exact tQ hq) ho hd hb1 hfits tin ?_;intro h' es2 ep2 t3 q1 q2 q3 q4 q5 q6;dsimp only;exact aw (hend h' es2 ep2 _ t3 rfl q1 q2 q3 q4 q5 q6)
end
end Sw
namespace Sw
abbrev bt (w:cK):Bool:=w.params.followText "set-order"
section
variable {prog:bQ}{w:cK}{A:eD}{E:au->aC->Prop}{s:aC}
theorem WH (a:au) {Q₁:au->aC->Prop} (h:Q₁ (.ref s.heap.objs.size) { s with heap:=s.heap.push { cls:=.type "set",dict:=none,data:=.set #[] 0 (.fresh 0 0 (!bt w)) } }) :
  mn (a7 prog w) A (.call (.builtin "set.__new__") ⟨[.type "set",a],[]⟩) (wants Q₁ E) s:=by
 refine codeAny_of_tree ?_
 show aQ _ A.in1 (do checkBuiltinCall "set.__new__" ⟨[.type "set",a],[]⟩;again (.builtin "set.__new__" ⟨[.type "set",a],[]⟩)) _ _ s
 refine af (Pi (F.newCall_set_1 a) (aw ⟨kX F.plain_set_new _,ju F.entry_set_new ?_⟩));rw [gM F.plain_set_new _];unfold kH.«set.__new__» adL;have hsub:=sub_set_self;obtain ⟨hp,g,d,tk,os⟩:=s;dsimp only
 wp_walk
 refine i5 (aw ?_);dsimp only;simp only [newObj];refine af (wpAny_alloc (aw ?_));exact aw h
theorem Z3 {R:Vj->aC->Prop}{I:ai}{fp wr:List ai}{G:Array GenState->Array GenState->Prop}{n:Nat}{P:Nat->au->Prop}{St:Nat->aC->Prop}(W:WalksS prog w A.in1 I fp wr G n P St) (S:ai) (hSf:S∉fp) (ns:List Int) (hl:ns.length=n) (hval:∀ i v,P i v->∃ k t,ns[i]?=some k/\v=.int k t) (hb:n+1<xR) :
  ∀ (k i:Nat) (s:aC) (ks:List Int),n-i=k->i<=n->St i s->SO prog w (bt w) s.heap S ks->(∀ x,x∈ks↔x∈ns.take i)->ks.length<=i ->
   (∀ s' ks',Moved (S::wr) G s s'->SO prog w (bt w) s'.heap S ks'->(∀ x,x∈ks'↔x∈ns)->ks'.length<=n->R (.ok (.ret .none)) s') ->
   mn (a7 prog w) A (.builtin "set.update.loop" ⟨[.ref S,.ref I],[]⟩) R s:=by
 have hSw:S∉wr:=λh=>hSf (W.sub _ h);have hsub:∀ b∈wr,b∈S::wr:=λb hb=>ae _ hb;intro k
 induction k with
 | zero =>
  intro i s ks hk hi hst hS hm0 hle hR
  have hin:i=n:=by lia
  subst hin;refine ju F.entry_set_update_loop ?_;rw [gM F.plain_set_update_loop _]
  show aQ _ A.in1 (jH (.ref I) >>= _) _ _ s
  refine af (W.done s _ _ hst λs' hm=>?_)
  show aQ _ A.in1 (ret cG) _ _ s'
  exact aw (hR s' ks (hm.mono hsub) (hS.keep λo e=>hm.heap S o hSw e) (λx=>by rw [hm0,← hl,Gu]) hle)
 | succ k ih =>
  intro i s ks hk hi hst hS hm0 hle hR
  have hlt:i<n:=by lia
  refine ju F.entry_set_update_loop ?_;rw [gM F.plain_set_update_loop _]
  show aQ _ A.in1 (jH (.ref I) >>= _) _ _ s
  refine af (W.item i s _ _ hlt hst λv s' hP hst' hm=>?_);obtain ⟨c,t,hc,rfl⟩:=hval i v hP
  show aQ _ A.in1 (ml [gX c t] (setAdd S (.int c t)) >>= _) _ _ s'
  refine af (cU ?_);unfold setAdd;refine cU ?_;refine af ((oG prog w).pyHash (k:=c) (intKind_is _ _ _ _) ?_);refine ac0 (s:={ s' with toks:=s'.toks+1 }) (hS.keep λo e=>hm.heap S o hSw e) (by lia) λh' ks' b hsb hS2 hmem hlen=>?_;refine aw ⟨kX F.plain_set_update_loop _,ih (i+1) _ ks' (by lia) hlt (W.frame _ s' _ _ hst' (iF _) λb hb o e=>?_) hS2 (λx=>?_) (by lia) λs'' ks'' hm'' hS'' hmem'' hlen''=>?_⟩
  .rw [hsb.2 b (λh:b=S=>hSf (by rw [← h];exact hb))];exact e
  .rw [hmem,hm0,List.take_succ,hc,aT];simp
  .refine hR s'' ks'' (Moved.trans W.gtrans ((hm.mono hsub).then_heap (iF _) λb o hb e=>?_) hm'') hS'' hmem'' hlen'';rw [hsb.2 b (λh:b=S=>hb (by rw [h];exact ah))];exact e
theorem WI {l:ai}{items:Array au}{ns:List Int}{Q:au->aC->Prop}(hh:A.handled=none) (hl:s.heap.IsList l items) (hi:gC items.toList ns) (hb:items.size+1<xR)
  (h:∀ (h':cI) (tk:Nat) (ks:List Int),SO prog w (bt w) h' s.heap.objs.size ks->(∀ x,x∈ks↔x∈ns)->ks.length<=items.size->(∀ b o,s.heap.get? b=some o->h'.get? b=some o)->Q (.ref s.heap.objs.size) { s with heap:=h',toks:=tk }) :
  aQ (a7 prog w) A (call (.type "set") [.ref l]) Q E s:=by
 obtain ⟨c,tl,hmro⟩:=F.called_set.mro;have hmade:=F.called_set.made;have hsub:=F.called_set.sub;refine Vk (codeAny_of_tree ?_)
 show aQ _ _ (callAny (.type "set") _) _ _ _
 refine aw ⟨Code.quiet_builtin _ (by decide +kernel),ju F.entry_type_call ?_⟩;rw [Around.under_plain (weight_type_call_type "set" [.ref l] []) rfl];have h1:=F.called_set.notType;have h2:=F.called_set.canCreate;have hct:=F.typeCall_set_1 (.ref l)
 repeat (any_goals (first|assumption|wp_step))
 refine mv (WH (.ref l) (E:=E) (Q₁:=λobj s₁=>obj=.ref s.heap.objs.size/\s₁={ s with heap:=s.heap.push { cls:=.type "set",dict:=none,data:=.set #[] 0 (.fresh 0 0 (!bt w)) } }) ⟨rfl,rfl⟩) λr s₁ hr=>?_
 cases r with
 | error e=>exact hr
 | ok fl =>
  cases fl with
  | ret obj =>
   obtain ⟨rfl,rfl⟩:=hr;have hS:(s.heap.push { cls:=.type "set",dict:=none,data:=.set #[] 0 (.fresh 0 0 (!bt w)) }).get? s.heap.objs.size=some { cls:=.type "set",dict:=none,data:=.set #[] 0 (.fresh 0 0 (!bt w)) }:=aP _ rfl
   have hT:Shared.TypeIs { s with heap:=s.heap.push { cls:=.type "set",dict:=none,data:=.set #[] 0 (.fresh 0 0 (!bt w)) } } (.ref s.heap.objs.size) "set":=⟨_,hS,rfl⟩
   have hli:=F.called_set.init.lookup;have hbi:=F.called_set.init.bind (.ref s.heap.objs.size)
   repeat (any_goals (first|assumption|wp_step))
   refine mv (codeAny_call_builtin (R:=wants (λr s₂=>r=.none/\∃ h' tk ks,s₂={ s with heap:=h',toks:=tk }/\SO prog w (bt w) h' s.heap.objs.size ks/\(∀ x,x∈ks↔x∈ns)/\ks.length<=items.size/\(∀ b o,s.heap.get? b=some o->h'.get? b=some o)) E) F.called_set.init.plain F.entry_set_init (check_set_init_1 hT ?_)) λr₂ s₂ hr₂=>?_
   .obtain ⟨ol,hol,hcl,nl,hdl⟩:=hl;obtain ⟨ocls,odict,odata,oslots⟩:=ol;simp only at hcl hdl;subst hcl;subst hdl;have hol':(s.heap.push { cls:=.type "set",dict:=none,data:=.set #[] 0 (.fresh 0 0 (!bt w)) }).get? l=some { cls:=.type "list",dict:=odict,data:=.seq items nl,slots:=oslots }:=ax _ hol;have hsls:=F.sub_list_set;have hslf:=F.sub_list_frozenset
    have hne:(fj "list" == fj "dict")=false:=by decide
    have hl1:(s.heap.push { cls:=.type "set",dict:=none,data:=.set #[] 0 (.fresh 0 0 (!bt w)) }).IsList l items:=⟨_,hol',rfl,nl,rfl⟩
    unfold kH.«set.__init__» noKeywords adM;generalize hPI:Vg=PI
    wp_walk
    subst hPI;refine wpAny_pyIter_list hl1 ?_;refine af (wpAny_runValue ?_);have hlS:l<s.heap.objs.size:=aO hol
    have hh3:A.in1.in1.in1.handled=none:=by simp [hh]
    have hneI:l≠(s.heap.push { cls:=.type "set",dict:=none,data:=.set #[] 0 (.fresh 0 0 (!bt w)) }).objs.size:=by
     rw [jA];exact a6 (tD hlS)
    have hSf:s.heap.objs.size∉[(s.heap.push { cls:=.type "set",dict:=none,data:=.set #[] 0 (.fresh 0 0 (!bt w)) }).objs.size,l]:=by
     rw [jA];simp only [aj,aA,cj,or_false,not_or];exact ⟨a6 (lD _),eP hlS⟩
    have hlen:=hi.length;rw [aX] at hlen
    have hval:∀ (i:Nat) (v:au),items[i]?=some v->∃ k t,ns[i]?=some k/\v=.int k t:=λi v hv=>by
     obtain ⟨t,e⟩:=Zg hi i v (by rw [cn];exact hv);have hlt:=(iG.mp hv).1
     have:ns[i]?=some (ns.getD i 0):=by rw [List.getD_eq_getElem?_getD,ay (by lia)];rfl
     exact ⟨_,t,this,e⟩
    refine Z3 ((Walks.list hh3 _ l hneI items).toS) s.heap.objs.size hSf ns hlen.symm hval hb (items.size-0) 0 _ [] (by lia) (bC _)
     ⟨⟨_,aP _ rfl,rfl,rfl⟩,(hl1.push _)⟩ ?hS0 (λx=>by simp) (aB _) ?hR
    case hS0 =>
     have hget:((s.heap.push { cls:=.type "set",dict:=none,data:=.set #[] 0 (.fresh 0 0 (!bt w)) }).push { cls:=.type "list_iterator",data:=.fields #[.ref l,.int 0 0] }).get? s.heap.objs.size
       = some { cls:=.type "set",dict:=none,data:=.set #[] 0 (.fresh 0 0 (!bt w)) }:=ax _ hS
     exact ⟨_,#[],0,_,hget,⟨rfl,rfl,rfl⟩,rfl,(λe he=>by simp at he),(λe he=>by simp at he),by decide,rfl,TI.fresh _ _ _,rfl,rfl,xX⟩
    case hR =>
     intro s' ks' hm hS' hmem hlen';obtain ⟨h',g',d',tk',os'⟩:=s';have eg:g'=s.gens:=hm.gens;have ed:d'=s.drawn:=hm.drawn;have eo:os'=s.os:=hm.os;subst eg;subst ed;subst eo
     show aQ _ _ _ _ _ _
     refine aw ?_
     show aQ _ _ (ret cG) _ _ _
     refine aw ⟨rfl,h',tk',ks',rfl,hS',hmem,hlen',λb o e=>?_⟩;have hb:=aO e;have hb1:b≠s.heap.objs.size:=a6 hb
     have hb2:b≠(s.heap.push { cls:=.type "set",dict:=none,data:=.set #[] 0 (.fresh 0 0 (!bt w)) }).objs.size:=by
      rw [jA];exact a6 (tD hb)
     exact hm.heap b o (by simp only [aj,aA,cj,or_false,not_or];exact ⟨hb1,hb2⟩) (ax _ (ax _ e))
   .cases r₂ with
    | error e=>exact hr₂
    | ok fl₂ =>
     cases fl₂ with
     | ret r =>
      obtain ⟨rfl,h',tk,ks,rfl,hS',hm',hl',hk'⟩:=hr₂
      repeat (any_goals (first|assumption|wp_step))
      exact h _ _ _ hS' hm' hl' hk'
     | _=>exact hr₂.elim
  | _=>exact hr.elim
end
end Sw
namespace Sw
variable {i ep n:Nat}{a it:ai}{first:au}{es:Array (Int×au)}{t:m6}{vs:List au}{sl:Nat->Nat}{Q:Option au->aC->Prop}
theorem M1:Manifest.owners.lookup (String.ofList ['r','o','t','a','r','e','t','i','_','t','e','s'].reverse)=some Manifest.sig_set_iterator:=by kernel_rfl
theorem fF:Slot "set_iterator" "__next__" "set_iterator.__next__" :=
 .of (owner:="set_iterator") (n:="__next__") (by rw [zS,pV];kernel_rfl) (by decide +kernel) (by decide +kernel) (by decide +kernel)
  (by first|exact .inl (by decide +kernel)|exact .inr (by decide +kernel)) (by rw [Vs];kernel_rfl)
theorem m8:entryFor table "set_iterator.__next__"=some kH.«set_iterator.__next__»:=entryFor_of_tree (by kernel_rfl)
theorem oq (a:au):argsOk "set_iterator.__next__" ⟨[a],[]⟩:=by
 unfold argsOk;rw [signature?_of (id:="set_iterator.__next__") (n:=['_','_','t','x','e','n','_','_']) (o:=['r','o','t','a','r','e','t','i','_','t','e','s']) (by kernel_rfl) M1];kernel_rfl
theorem yl:Slot "set_iterator" "__iter__" "set_iterator.__iter__" :=
 .of (owner:="set_iterator") (n:="__iter__") (by rw [zS,pV];kernel_rfl) (by decide +kernel) (by decide +kernel) (by decide +kernel)
  (by first|exact .inl (by decide +kernel)|exact .inr (by decide +kernel)) (by rw [Vs];kernel_rfl)
theorem JS (a:au):argsOk "set_iterator.__iter__" ⟨[a],[]⟩:=by
 unfold argsOk;rw [signature?_of (id:="set_iterator.__iter__") (n:=['_','_','r','e','t','i','_','_']) (o:=['r','o','t','a','r','e','t','i','_','t','e','s']) (by kernel_rfl) M1];kernel_rfl
theorem GE:entryFor table "set_iterator.__iter__"=some kH.«dict_keyiterator.__iter__» :=
 entryFor_alias (id':="dict_keyiterator.__iter__") (by kernel_rfl) rfl (by decide +kernel) (by kernel_rfl)
theorem DW:entryFor table "set.__iter__"=some kH.«frozenset.__iter__» :=
 entryFor_alias (id':="frozenset.__iter__") (by kernel_rfl) rfl (by decide +kernel) (by kernel_rfl)
theorem DX {α:Type} {l:List α}(h:i<l.length):(l[i]::l.eraseIdx i).Perm l:=by
 rw [List.eraseIdx_eq_take_drop_succ]
 have e:l=l.take i++l[i]::l.drop (i+1):=by rw [List.getElem_cons_drop,ku]
 conv=>rhs;rw [e]
 exact Gv.symm
theorem IC {α:Type} (next:Nat->Nat):∀ (fuel k:Nat) (left:List α) (out:Array α),fuel=left.length->(Mb next fuel k left out).toList.Perm (out.toList++left)
 | 0,k,left,out,h=>by
  have:left=[]:=oP h.symm
  subst this;simp [Mb]
 | fuel+1,k,left,out,h=>by
  unfold Mb;have hlt:next k%left.length<left.length:=Nat.mod_lt _ (by lia);rw [ay hlt];dsimp only;refine (IC next fuel _ _ _ (by rw [VO];simp [hlt];lia)).trans ?_;rw [C5,de];refine tR _ ?_;exact DX hlt
def zy (h:cI) (it:ai) (first:au) (i:Nat) (a:ai) (n ep:Nat):Prop:=∃ o,h.get? it=some o/\o.cls=.type "set_iterator"/\o.data=.fields #[first,cq i,.ref a,cq n,cq ep]
theorem zy.keep {h h':cI}(x:zy h it first i a n ep) (k:∀ o,h.get? it=some o->h'.get? it=some o):zy h' it first i a n ep:=let ⟨o,e,r⟩:=x;⟨o,k o e,r⟩
def RS (h:cI) (a:ai) (es:Array (Int×au)) (ep:Nat) (t:m6):Prop:=∃ o,h.get? a=some o/\o.ExactSet/\o.data=.set es ep t/\t.fits es.size=true
theorem RS.keep {h h':cI}(x:RS h a es ep t) (k:∀ o,h.get? a=some o->h'.get? a=some o):RS h' a es ep t:=let ⟨o,e,r⟩:=x;⟨o,k o e,r⟩
section
variable {prog:bQ}{w:cK}{A:eD}{E:au->aC->Prop}{s:aC}
theorem SB {Q:au->aC->Prop}(x:zy s.heap it first i a n ep) (h:Q (.ref it) s):aQ (a7 prog w) A (Vg (.ref it)) Q E s:=by
 have hT:s.TypeIs (.ref it) "set_iterator":=let ⟨o,e,c,_⟩:=x;⟨o,e,c⟩
 refine L9 hT yl (di yl hT GE ?_ (JS _))
 show aQ _ _ (ret (.ref it)) _ _ s
 exact aw ⟨_,rfl,"set_iterator",_,hT,fF.lookup,h⟩
def Ord (w:cK) (a:ai) (es:Array (Int×au)) (ep:Nat) (t:m6) (vs:List au) (sl:Nat->Nat):Prop :=
 sl 0=0/\vs.length=es.size/\((bt w=true/\vs=(Do (w.params.setOrder a ep) es).toList.map (·.2)/\∀ i,sl i=0) \/
  (bt w=false/\vs=es.toList.map (·.2)/\(!t.plain && decide (es.size>1))=false/\(t.led=true)/\A7 t.place/\∀ i p,t.place[i]?=some p->sl (i+1)=p+1))
theorem Us {v:au}(x:zy s.heap it (cq (sl i)) i a es.size ep) (r:RS s.heap a es ep t) (o:Ord w a es ep t vs sl) (hv:vs[i]?=some v)
  (q:∀ h',zy h' it (cq (sl (i+1))) (i+1) a es.size ep->iB it s.heap h'->Q (some v) { s with heap:=h' }):aQ (a7 prog w) A (jH (.ref it)) Q E s:=by
 have hT:s.TypeIs (.ref it) "set_iterator":=let ⟨o,e,c,_⟩:=x;⟨o,e,c⟩
 obtain ⟨ob,g,gc,gd⟩:=x;obtain ⟨oa,ra,rx,rd,rf⟩:=r;unfold jH;refine af (jK (eE (name:=av "__next__") hT fF (di fF hT m8 ?_ (oq _))));unfold kH.«set_iterator.__next__»;refine af (m:=Vt "__next__" 0 _) (aw ?_);refine af (oK g gd ?_)
 show aQ _ _ (Vu a >>= _) _ _ s
 refine af (mK ra rd rf ?_);rw [if_neg (by simp)]
 show aQ _ _ (TF a ((sl i:Nat):Int).toNat ((i:Nat):Int).toNat ((ep:Nat):Int).toNat >>= _) _ _ s
 simp only [ij]
 have nxt:aQ (a7 prog w) A.in1 (TF a (sl i) i ep) (λz s'=>z=some (v,sl (i+1))/\s'=s) (λ_ _=>False) s:=by
  unfold TF;refine af (jy ra rd rf ?_);dsimp only;refine af ?_;unfold HX;refine af (i5 (aw ?_));obtain ⟨o0,o1,⟨b1,b2,b3⟩|⟨b1,b2,b3,b4,b5,b6⟩⟩:=o
  .have b1':(({ program:=(a7 prog w).prog,params:=(a7 prog w).w.params }:Setting).params.followText "set-order")=true:=b1;rw [b1'];simp only [↓reduceIte];rw [if_neg (by simp)];refine af ?_;unfold setWalk;refine af (jy ra rd rf ?_);dsimp only;refine af ?_;unfold HX;refine af (i5 (aw ?_));rw [b1'];simp only [↓reduceIte];refine af (i5 (aw (aw ⟨?_,rfl⟩)));have hv':=hv;rw [b2,aG,cn] at hv'
   show zT (λe=>(e.2,sl i)) (Do (w.params.setOrder a ep) es)[i]?=_
   obtain ⟨e,he,ev⟩:=fT.mp hv';rw [he,b3 i,b3 (i+1)];simp [ev]
  .have b1':(({ program:=(a7 prog w).prog,params:=(a7 prog w).w.params }:Setting).params.followText "set-order")=false:=b1;rw [b1'];simp only [cg,↓reduceIte];refine kT (λhd=>absurd (show (!t.plain && decide (es.size>1))=true from hd) (by rw [b3];decide)) (λ_=>af ?_)
   show aQ _ _ (if (!t.led && !es.isEmpty)=true then _ else _) _ _ _
   rw [if_neg (by rw [b4];simp)];refine aw (aw ⟨?_,rfl⟩)
   have hlt:i<es.size:=by rw [← o1];exact (aE.mp hv).1
   have hfs:t.place.size=es.size:=by
    have:=rf;unfold aa0 at this;simp at this;exact this.1
   have hp:t.place[i]?=some (t.place[i]'(by lia)):=bX _
   have hbel:dO t.place (sl i)=i:=by
    refine MY b5 ?_
    cases i with
    | zero=>exact .inl ⟨rfl,o0⟩
    | succ k =>
     have hk:t.place[k]?=some (t.place[k]'(by lia)):=bX _;exact .inr ⟨k,rfl,_,hk,b6 k _ hk⟩
   rw [hbel,hp,b6 i _ hp];rw [b2,aG,cn] at hv;obtain ⟨e,he,ev⟩:=fT.mp hv;rw [he];obtain ⟨e1,e2⟩:=e;simp at ev;simp [ev]
 refine af (fk nxt (λz s' hz=>?_) λ_ _ x=>x.elim);obtain ⟨rfl,rfl⟩:=hz;dsimp only;have g1:=bL (jh (·.setIfInBounds 0 (cq ((sl (i+1):Nat):Int)))) g (kJ (dt gd _));refine af (j5 g gd (by simp) (af (j5 g1 (dt gd _) (by simp) ?_)));have g2:=bL (jh (·.setIfInBounds 1 (cq ((i:Int)+1)))) g1 (kJ (dt (dt gd _) _));refine aw ⟨_,rfl,aw (q _ ⟨_,g2,(tE ..).trans ((tE ..).trans gc),?_⟩ ((cB ..).trans (cB ..)))⟩;rw [dt (dt gd _)];simp [cq]
theorem WJ (hh:A.handled=none) (x:zy s.heap it (cq (sl vs.length)) vs.length a es.size ep) (r:RS s.heap a es ep t) (o:Ord w a es ep t vs sl)
  (q:∀ h',VN it s.heap h'->Q none { s with heap:=h' }):aQ (a7 prog w) A (jH (.ref it)) Q E s:=by
 have hT:s.TypeIs (.ref it) "set_iterator":=let ⟨o,e,c,_⟩:=x;⟨o,e,c⟩
 obtain ⟨ob,g,gc,gd⟩:=x;obtain ⟨oa,ra,rx,rd,rf⟩:=r;unfold jH;refine af (jK (eE (name:=av "__next__") hT fF (di fF hT m8 ?_ (oq _))));unfold kH.«set_iterator.__next__»;refine af (m:=Vt "__next__" 0 _) (aw ?_);refine af (oK g gd ?_)
 show aQ _ _ (Vu a >>= _) _ _ s
 refine af (mK ra rd rf ?_);rw [if_neg (by simp)]
 show aQ _ _ (TF a ((sl vs.length:Nat):Int).toNat ((vs.length:Nat):Int).toNat ((ep:Nat):Int).toNat >>= _) _ _ s
 simp only [ij]
 have nxt:aQ (a7 prog w) A.in1 (TF a (sl vs.length) vs.length ep) (λz s'=>z=none/\s'=s) (λ_ _=>False) s:=by
  unfold TF;refine af (jy ra rd rf ?_);dsimp only;refine af ?_;unfold HX;refine af (i5 (aw ?_));obtain ⟨o0,o1,⟨b1,b2,b3⟩|⟨b1,b2,b3,b4,b5,b6⟩⟩:=o
  .have b1':(({ program:=(a7 prog w).prog,params:=(a7 prog w).w.params }:Setting).params.followText "set-order")=true:=b1;rw [b1'];simp only [↓reduceIte];rw [if_neg (by simp)];refine af ?_;unfold setWalk;refine af (jy ra rd rf ?_);dsimp only;refine af ?_;unfold HX;refine af (i5 (aw ?_));rw [b1'];simp only [↓reduceIte];refine af (i5 (aw (aw ⟨?_,rfl⟩)))
   show zT (λe=>(e.2,sl vs.length)) (Do (w.params.setOrder a ep) es)[vs.length]?=_
   rw [iz (by have h:=o1;rw [b2,ag,aX] at h;rw [o1];exact Gg h)]
   rfl
  .have b1':(({ program:=(a7 prog w).prog,params:=(a7 prog w).w.params }:Setting).params.followText "set-order")=false:=b1;rw [b1'];simp only [cg,↓reduceIte];refine kT (λhd=>absurd (show (!t.plain && decide (es.size>1))=true from hd) (by rw [b3];decide)) (λ_=>af ?_)
   show aQ _ _ (if (!t.led && !es.isEmpty)=true then _ else _) _ _ _
   rw [if_neg (by rw [b4];simp)];refine aw (aw ⟨?_,rfl⟩)
   have hfs:t.place.size=es.size:=by
    have:=rf;unfold aa0 at this;simp at this;exact this.1
   have hbel:dO t.place (sl vs.length)=vs.length:=by
    refine MY b5 ?_
    cases e:vs.length with
    | zero=>exact .inl ⟨rfl,o0⟩
    | succ k =>
     have hk:t.place[k]?=some (t.place[k]'(by lia)):=bX _;exact .inr ⟨k,rfl,_,hk,b6 k _ hk⟩
   rw [hbel,iz (by lia)]
 refine af (fk nxt (λz s' hz=>?_) λ_ _ x=>x.elim);obtain ⟨rfl,rfl⟩:=hz;dsimp only;refine af (j5 g gd (by simp) ?_)
 show aQ _ _ (newExc (.type "StopIteration") [] >>= _) _ _ _
 refine af ?_;simp only [newExc,newTuple];refine af (d9 ?_ (by size_fits));refine af (m:=oM _ _) (Pi (a:=cG) (by first|rfl|(simp only [oM];rfl)) ?_);refine d9 ?_ (by size_fits);simp only [raiseNew];refine af (YZ ?_);rw [show A.in1.handled=none from hh];refine af (aw (wpAny_throw ?_));refine af (qa (T:="StopIteration") (b:=true) ⟨_,aP _ rfl,rfl⟩ C4 ?_);exact aw (q _ (((cB ..).extBut.push _).push _))
theorem Ut (hh:A.handled=none) (I a:ai) (hne:a≠I) {vs:List au}{sl:Nat->Nat}(o:Ord w a es ep t vs sl) :
  Walks prog w A I [I,a] [I] vs.length (λi v=>vs[i]?=some v) (λi h=>zy h I (cq (sl i)) i a es.size ep/\RS h a es ep t) where
 sub:=λb hb=>by simp at hb;simp [hb]
 frame:=λ_ _ _ st hk=>⟨st.1.keep λo e=>hk I (by simp) o e,st.2.keep λo e=>hk a (by simp) o e⟩
 item:=λi s Q E hi st hQ=>by
  have hv:vs[i]?=some vs[i]:=ay hi;exact Us st.1 st.2 o hv λh' x' hs'=>hQ _ h' s.toks hv ⟨x',st.2.keep λo e=>hs'.extBut a o hne e⟩ λb o hb e=>hs'.extBut b o (λh=>hb (by simp [h])) e
 done:=λs Q E st hQ=>WJ hh st.1 st.2 o λh' he=>hQ h' s.toks λb o hb e=>he b o (λh=>hb (by simp [h])) e
 self:=λ_ _ _ _ st hQ=>SB st.1 hQ
end
end Sw
namespace Sw
variable {T:ai}{ord:List Nat}{vs:List au}{Q:Option au->aC->Prop}
section
variable {prog:bQ}{w:cK}{A:eD}{E:au->aC->Prop}{s:aC}{it a:ai}{es:Array (Int×au)}{ep n:Nat}{t:m6}
theorem Uu {M:Model}{src:Source}{k:Nat}{Q:Nat->aC->Prop}(hk:k≠0) (h:∀ i d,i<k->Q i { s with drawn:=d }):aQ M A (choose src k) Q E s :=
 λΓ p hΓ=>⟨hk,h _ _ (Nat.mod_lt _ (Nat.pos_of_ne_zero hk))⟩
theorem SC {α:Type}:∀ (k:Nat) (xs:List α) {s:aC}{Q:List α->aC->Prop},xs.length=k->(∀ ys d,ys.Perm xs->Q ys { s with drawn:=d })->aQ (a7 prog w) A (drawOrder k xs) Q E s
 | 0,xs,s,Q,hl,h=>by
  have:xs=[]:=oP hl;subst this
  exact aw (h [] s.drawn (km _))
 | k+1,[],s,Q,hl,h=>by simp at hl
 | k+1,x::xs,s,Q,hl,h=>by
  unfold drawOrder;refine af (Uu (by simp) λi d hi=>?_);rw [ay hi];dsimp only;refine af (SC k _ (by rw [VO,if_pos hi];lia) λys d' hp=>aw (h _ d' ?_));exact (hp.cons _).trans (DX hi)
structure Dr (h:cI) (T:ai) (es:Array (Int×au)) (ord:List Nat) (vs:List au):Prop where
 tup:∃ o,h.get? T=some o/\o.data=.seq (ord.map λ(i:Nat)=>cq (i:Int)).toArray 0
 len:vs.length=ord.length
 at_:∀ (i:Nat) p,ord[i]?=some p->∃ e,es[p]?=some e/\vs[i]?=some e.2
theorem Z4 {i:Nat}{v:au}(x:zy s.heap it (.ref T) i a es.size ep) (r:RS s.heap a es ep t) (o:Dr s.heap T es ord vs) (hv:vs[i]?=some v)
  (q:∀ h',zy h' it (.ref T) (i+1) a es.size ep->iB it s.heap h'->Q (some v) { s with heap:=h' }):aQ (a7 prog w) A (jH (.ref it)) Q E s:=by
 have hT:s.TypeIs (.ref it) "set_iterator":=let ⟨o,e,c,_⟩:=x;⟨o,e,c⟩
 obtain ⟨ob,g,gc,gd⟩:=x;obtain ⟨oa,ra,rx,rd,rf⟩:=r;obtain ⟨⟨ot,gt,gtd⟩,ol,oat⟩:=o
 have hi:i<ord.length:=by rw [← ol];exact (aE.mp hv).1
 obtain ⟨e,he,hve⟩:=oat i _ (ay hi);rw [hv] at hve;cases hve;unfold jH;refine af (jK (eE (name:=av "__next__") hT fF (di fF hT m8 ?_ (oq _))));unfold kH.«set_iterator.__next__»;refine af (m:=Vt "__next__" 0 _) (aw ?_);refine af (oK g gd ?_)
 show aQ _ _ (Vu a >>= _) _ _ s
 refine af (mK ra rd rf ?_);rw [if_neg (by simp)]
 show aQ _ _ (Dp (.ref T) >>= _) _ _ s
 have sq:aQ (a7 prog w) A.in1 (Dp (.ref T)) (λz s'=>z=some (ord.map λ(i:Nat)=>cq (i:Int)).toArray/\s'=s) (λ_ _=>False) s:=by
  unfold Dp;refine af (Vh gt ?_);rw [gtd];exact aw ⟨rfl,rfl⟩
 refine af (fk sq (λz s' hz=>?_) λ_ _ x=>x.elim);obtain ⟨rfl,rfl⟩:=hz;dsimp only
 have hpi:(ord.map λ(i:Nat)=>cq (i:Int)).toArray[((i:Nat):Int).toNat]?=some (cq (ord[i]:Int)):=by
  rw [ij,Vv,aG,ay hi];rfl
 show aQ _ _ (match (ord.map λ(i:Nat)=>cq (i:Int)).toArray[((i:Nat):Int).toNat]? with|some (.int place _)=>_|some _=>_|none=>_) _ _ _
 rw [hpi]
 show aQ _ _ (setNextDrawn a ((ord[i]:Nat):Int).toNat ((ep:Nat):Int).toNat >>= _) _ _ _
 simp only [ij];refine af ?_;unfold setNextDrawn;refine af (jy ra rd rf ?_);dsimp only;rw [if_neg (by simp),he];refine aw (af (j5 g gd (by simp) ?_));have g1:=bL (jh (·.setIfInBounds 1 (cq ((i:Int)+1)))) g (kJ (dt gd _));refine aw ⟨_,rfl,aw (q _ ⟨_,g1,(tE ..).trans gc,?_⟩ (cB ..))⟩;rw [dt gd];simp [cq]
theorem ac1 (hh:A.handled=none) (x:zy s.heap it (.ref T) vs.length a es.size ep) (r:RS s.heap a es ep t) (o:Dr s.heap T es ord vs)
  (q:∀ h',VN it s.heap h'->Q none { s with heap:=h' }):aQ (a7 prog w) A (jH (.ref it)) Q E s:=by
 have hT:s.TypeIs (.ref it) "set_iterator":=let ⟨o,e,c,_⟩:=x;⟨o,e,c⟩
 obtain ⟨ob,g,gc,gd⟩:=x;obtain ⟨oa,ra,rx,rd,rf⟩:=r;obtain ⟨⟨ot,gt,gtd⟩,ol,oat⟩:=o;unfold jH;refine af (jK (eE (name:=av "__next__") hT fF (di fF hT m8 ?_ (oq _))));unfold kH.«set_iterator.__next__»;refine af (m:=Vt "__next__" 0 _) (aw ?_);refine af (oK g gd ?_)
 show aQ _ _ (Vu a >>= _) _ _ s
 refine af (mK ra rd rf ?_);rw [if_neg (by simp)]
 show aQ _ _ (Dp (.ref T) >>= _) _ _ s
 have sq:aQ (a7 prog w) A.in1 (Dp (.ref T)) (λz s'=>z=some (ord.map λ(i:Nat)=>cq (i:Int)).toArray/\s'=s) (λ_ _=>False) s:=by
  unfold Dp;refine af (Vh gt ?_);rw [gtd];exact aw ⟨rfl,rfl⟩
 refine af (fk sq (λz s' hz=>?_) λ_ _ x=>x.elim);obtain ⟨rfl,rfl⟩:=hz;dsimp only
 have hpi:(ord.map λ(i:Nat)=>cq (i:Int)).toArray[((vs.length:Nat):Int).toNat]?=none:=by
  rw [ij,Vv,aG,dD (by lia)];rfl
 show aQ _ _ (match (ord.map λ(i:Nat)=>cq (i:Int)).toArray[((vs.length:Nat):Int).toNat]? with|some (.int place _)=>_|some _=>_|none=>_) _ _ _
 rw [hpi];dsimp only;have g1:=bL (jh (·.setIfInBounds 0 (cq 0))) g (kJ (dt gd _));refine af (j5 g gd (by simp) (af (j5 g1 (dt gd _) (by simp) ?_)))
 show aQ _ _ (newExc (.type "StopIteration") [] >>= _) _ _ _
 refine af ?_;simp only [newExc,newTuple];refine af (d9 ?_ (by size_fits));refine af (m:=oM _ _) (Pi (a:=cG) (by first|rfl|(simp only [oM];rfl)) ?_);refine d9 ?_ (by size_fits);simp only [raiseNew];refine af (YZ ?_);rw [show A.in1.handled=none from hh];refine af (aw (wpAny_throw ?_));refine af (qa (T:="StopIteration") (b:=true) ⟨_,aP _ rfl,rfl⟩ C4 ?_);exact aw (q _ ((((cB ..).trans (cB ..)).extBut.push _).push _))
theorem WK (hh:A.handled=none) (I a T:ai) (hne:a≠I) (hnT:T≠I) {ord:List Nat}{vs:List au} :
  Walks prog w A I [I,a,T] [I] vs.length (λi v=>vs[i]?=some v) (λi h=>zy h I (.ref T) i a es.size ep/\RS h a es ep t/\Dr h T es ord vs) where
 sub:=λb hb=>by simp at hb;simp [hb]
 frame:=λ_ _ _ st hk=>⟨st.1.keep λo e=>hk I (by simp) o e,st.2.1.keep λo e=>hk a (by simp) o e,let ⟨o,e,d⟩:=st.2.2.tup;⟨⟨o,hk T (by simp) o e,d⟩,st.2.2.len,st.2.2.at_⟩⟩
 item:=λi s Q E hi st hQ=>by
  have hv:vs[i]?=some vs[i]:=ay hi;exact Z4 st.1 st.2.1 st.2.2 hv λh' x' hs'=>hQ _ h' s.toks hv ⟨x',st.2.1.keep λo e=>hs'.extBut a o hne e,let ⟨o,e,d⟩:=st.2.2.tup;⟨⟨o,hs'.extBut T o hnT e,d⟩,st.2.2.len,st.2.2.at_⟩⟩ λb o hb e=>hs'.extBut b o (λh=>hb (by simp [h])) e
 done:=λs Q E st hQ=>ac1 hh st.1 st.2.1 st.2.2 λh' he=>hQ h' s.toks λb o hb e=>he b o (λh=>hb (by simp [h])) e
 self:=λ_ _ _ _ st hQ=>SB st.1 hQ
theorem WL {ks:List Int}{Q:au->aC->Prop}(hh:A.handled=none) (hS:SO prog w (bt w) s.heap a ks)
  (q:∀ I h1 d (vs:List au) (ns:List Int) fp St,Walks prog w A I fp [I] vs.length (λi v=>vs[i]?=some v) St->St 0 h1->(∀ b o,s.heap.get? b=some o->h1.get? b=some o)->I∈fp->(∀ b∈fp,b=a\/s.heap.objs.size<=b)->s.heap.objs.size<=I->gC vs ns->ns.Perm ks->Q (.ref I) { s with heap:=h1,drawn:=d }) :
  aQ (a7 prog w) A (Vg (.ref a)) Q E s:=by
 have hlt:=hS.lt;obtain ⟨o,es,ep,t,ho,hex,hd,hel,hin,hb,hf,ti,hled,rfl,hnd⟩:=hS
 have hT:s.TypeIs (.ref a) "set":=⟨o,ho,hex.1⟩
 have hints:∀ {l:List (Int×au)},(∀ e∈l,∃ u,e.2=.int (key e) u)->gC (l.map (·.2)) (l.map key):=by
  intro l
  induction l with
  | nil=>intro _;exact .nil
  | cons e l ih =>
   intro h;obtain ⟨u,eu⟩:=h e ah;rw [bu,bu,eu];exact .cons _ _ (ih λe' he'=>h e' (ae _ he'))
 refine L9 hT F.slot_set_iter (di F.slot_set_iter hT DW ?_ (F.args_set_iter_1 _));unfold kH.«frozenset.__iter__» adN Vt;simp only [List.isEmpty_nil,Bool.not_true,cg,↓reduceIte,bind_assoc,pU,bne_self_eq_false];unfold adO adP;refine af (aw ?_)
 try dsimp only
 refine af (aw ?_);refine af (af (mK ho hd hf (aw ?_)));refine af ?_;unfold setDrawn;refine af (jy ho hd hf ?_);dsimp only;refine af ?_;unfold HX;refine af (i5 (aw (aw ?_)));have hz:es.size<=aZ:=Ma hb
 have hrs:RS s.heap a es ep t:=⟨o,ho,hex,hd,hf⟩
 refine kT (λhdr=>?_) (λhdr=>?_)
 .refine af (SC es.size (eh es.size) nF λord d hp=>?_)
  have hol:ord.length=es.size:=by rw [hp.length_eq,nF]
  refine af (C2 ?_ (by rw [ag,hol];exact hz));have k1:∀ b ob,s.heap.get? b=some ob->(s.heap.push (bE "tuple" (ord.map λ(i:Nat)=>cq (i:Int)).toArray 0)).get? b=some ob:=λb ob e=>ax _ e;have gT:(s.heap.push (bE "tuple" (ord.map λ(i:Nat)=>cq (i:Int)).toArray 0)).get? s.heap.objs.size=some (bE "tuple" (ord.map λ(i:Nat)=>cq (i:Int)).toArray 0):=aP _ rfl;have hsz:(s.heap.push (bE "tuple" (ord.map λ(i:Nat)=>cq (i:Int)).toArray 0)).objs.size=s.heap.objs.size+1:=jA ..;generalize s.heap.push (bE "tuple" (ord.map λ(i:Nat)=>cq (i:Int)).toArray 0)=h0 at k1 gT hsz;refine af (wpAny_setEpoch_of (s:={ s with heap:=h0,drawn:=d }) (k1 _ _ ho) hd hf ?_);unfold newFields;refine af (d9 (aw ⟨_,rfl,"set_iterator",_,⟨_,aP _ rfl,rfl⟩,fF.lookup,?_⟩))
  have hmem:∀ p∈ord,p<es.size:=λp hpm=>by simpa using hp.mem_iff.mp hpm
  have hget:∀ p,p<es.size->es[p]?=some (es.getD p (0,.none)):=λp hp'=>by rw [bX hp'];simp [qQ,hp']
  have hperm:(ord.map λp=>es.getD p (0,.none)).Perm es.toList:=by
   refine (hp.map _).trans ?_
   have:(eh es.size).map (λp=>es.getD p (0,.none))=es.toList:=by
    apply nE
    intro i;rw [aG]
    by_cases hi:i<es.size
    .rw [YX hi,cn,hget i hi];rfl
    .rw [dD (by rw [nF];lia),dD (by rw [aX];lia)];rfl
   rw [this]
  have hsub:∀ e∈ord.map (λp=>es.getD p (0,.none)),∃ u,e.2=.int (key e) u:=λe he=>hin e (hperm.mem_iff.mp he)
  have hst:zy (h0.push { cls:=.type "set_iterator",data:=.fields [aH s.heap.objs.size,cq 0,.ref a,cq es.size,cq ep].toArray }) h0.objs.size (.ref s.heap.objs.size) 0 a es.size ep:=⟨_,aP _ rfl,rfl,rfl⟩
  have haI:a≠h0.objs.size:=by rw [hsz];exact a6 (tD hlt)
  have hTI:s.heap.objs.size≠h0.objs.size:=by rw [hsz];exact a6 (lD _)
  refine q h0.objs.size _ d ((ord.map λp=>es.getD p (0,.none)).map (·.2)) ((ord.map λp=>es.getD p (0,.none)).map key) [h0.objs.size,a,s.heap.objs.size] _ (WK (es:=es) (ep:=ep) (t:=t) (ord:=ord) hh h0.objs.size a s.heap.objs.size haI hTI) ⟨hst,hrs.keep λob e=>ax _ (k1 _ _ e),⟨_,ax _ gT,rfl⟩,by rw [ag,ag],λi p hip=>?_⟩
   (λb ob e=>ax _ (k1 _ _ e)) (by simp) (λb hb'=>?_) (by rw [hsz];exact iF _) (hints hsub) (hperm.map key)
  .have hpl:=hmem p (aS hip);exact ⟨_,hget p hpl,by rw [aG,aG,hip];rfl⟩
  .simp only [aj,cj,or_false] at hb'
   rcases hb' with rfl|rfl|rfl
   .exact .inr (by rw [hsz];exact iF _)
   .exact .inl rfl
   .exact .inr (aB _)
 .refine af (aw (af (wpAny_setEpoch_of ho hd hf ?_)));unfold newFields;refine af (d9 (aw ⟨_,rfl,"set_iterator",_,⟨_,aP _ rfl,rfl⟩,fF.lookup,?_⟩))
  have hst:zy (s.heap.push { cls:=.type "set_iterator",data:=.fields [cq 0,cq 0,.ref a,cq es.size,cq ep].toArray }) s.heap.objs.size (cq 0) 0 a es.size ep:=⟨_,aP _ rfl,rfl,rfl⟩
  obtain ⟨vs,sl,ns,hord,hiv,hpn⟩:∃ vs sl ns,Ord w a es ep t vs sl/\gC vs ns/\ns.Perm (es.toList.map key):=by
   by_cases hbt:bt w=true
   .have hpp:=IC (w.params.setOrder a ep) es.size 0 es.toList #[] (aX).symm;rw [show (#[]:Array (Int×au)).toList++es.toList=es.toList by simp] at hpp;have hpp:(Do (w.params.setOrder a ep) es).toList.Perm es.toList:=hpp;exact ⟨(Do (w.params.setOrder a ep) es).toList.map (·.2),λ_=>0,(Do (w.params.setOrder a ep) es).toList.map key,⟨rfl,by rw [ag,hpp.length_eq,aX],.inl ⟨hbt,rfl,λ_=>rfl⟩⟩,hints λe he=>hin e (hpp.mem_iff.mp he),hpp.map key⟩
   .have hbf:bt w=false:=by cases h:bt w<;>simp_all
    refine ⟨es.toList.map (·.2),λi=>match i with|0=>0|k+1=>t.place.getD k 0+1,es.toList.map key,⟨rfl,by rw [ag,aX],.inr ⟨hbf,rfl,?_,by rw [hled,hbf];rfl,ti.rise,λi p hp=>?_⟩⟩,hints hin,km _⟩
    .cases hx:(!t.plain && decide (es.size>1)) with
     | false=>rfl
     | true =>
      refine absurd ?_ hdr
      show (!(w.params.followText "set-order") && (!t.plain && decide (es.size>1)))=true
      rw [hx,show w.params.followText "set-order"=false from hbf];rfl
    .have:=(iG.mp hp)
     obtain ⟨hlt',e⟩:=this
     show t.place.getD i 0+1=p+1
     simp [qQ,hlt',e]
  have h0:=hord.1;refine q s.heap.objs.size _ s.drawn vs ns [s.heap.objs.size,a] _ (Ut hh s.heap.objs.size a (a6 hlt) hord) ⟨by rw [h0];exact hst,hrs.keep λob e=>ax _ e⟩ (λb ob e=>ax _ e) (by simp) (λb hb'=>?_) (aB _) hiv hpn;simp only [aj,cj,or_false] at hb'
  rcases hb' with rfl|rfl
  .exact .inr (aB _)
  .exact .inl rfl
end
end Sw
namespace Sw
open PySem.W
variable {ks:List Int}
section
variable {prog:bQ}{w:cK}{A:eD}{E:au->aC->Prop}{s:aC}{a:ai}
theorem WM {Q:Bool->aC->Prop}(hT:s.TypeIs (.ref a) "set") (h:Q false s):aQ (a7 prog w) A (jL (.ref a)) Q E s:=by
 unfold jL;refine af (Sa hT PySem.F.slot_set_len.lookup ?_);generalize hid:("set.__len__":String)=id0
 wp_delta
 rw [show splitId id0=some ("set","__len__") from by subst hid;decide +kernel];subst hid;refine af (qa (T:="set") (b:=true) hT (by rw [Vs];kernel_rfl) ?_);refine kT (λhab=>absurd hab (by decide)) (λ_=>?_);refine kT (λ_=>?_) (λhab=>absurd (by decide +kernel) hab);refine af (aaV hT ?_);exact aw h
theorem WN {S:ai}{R:Vj->aC->Prop}(hh:A.handled=none) (hS:SO prog w (bt w) s.heap a ks) (hSa:S≠a) (hn:ks.length<=aZ) (g:s.heap.get? S=some { cls:=.type "list",data:=.seq #[] 0 })
  (q:∀ h' tk d acc' c' (ns:List Int),(∀ b o,b≠S->s.heap.get? b=some o->h'.get? b=some o)->h'.get? S=some { cls:=.type "list",dict:=none,data:=.seq acc' c',slots:=#[] }->gC acc'.toList ns->ns.Perm ks->R (.ok (.ret (.ref S))) { s with heap:=h',toks:=tk,drawn:=d }) :
  mn (a7 prog w) A (.builtin "list.__iadd__" ⟨[.ref S,.ref a],[]⟩) R s:=by
 have hT:s.TypeIs (.ref a) "set":=let ⟨o,_,_,_,e,c,_⟩:=hS;⟨o,e,c.1⟩
 refine ju F.entry_list_iadd ?_;rw [gM F.plain_list_iadd _]
 show aQ _ A.in1 (gU (.ref S) (.ref a) (.ref S)) _ _ s
 unfold gU;refine af (aaV (T:="set") hT ?_)
 have h1:kN (.ref S) (.ref a)=false:=by simp [kN,hSa]
 have h2:(fj "set" == fj "list")=false:=by decide
 have h3:(fj "set" == fj "tuple")=false:=by decide
 simp only [h1,h2,h3,Bool.or_false,cg,if_false];refine af (WL (A:=A.in1) hh hS λI h1 d vs ns fp St W st kp hI hfp hIl hiv hpn=>?_)
 have hSf:S∉fp:=λhm=>by
  rcases hfp S hm with e|e
  .exact hSa e
  .exact absurd (aO g) (Nat.not_lt.mpr e)
 have hln:vs.length=ks.length:=by rw [hiv.length,hpn.length_eq]
 have hn':vs.length<=aZ:=by lia
 have hT1:({ s with heap:=h1,drawn:=d }:aC).TypeIs (.ref a) "set":=let ⟨o,e,c⟩:=hT;⟨o,kp _ _ e,c⟩
 have key:∀ (h:cI) (c₁:Nat),St 0 h->(∀ b o,b≠S->s.heap.get? b=some o->h.get? b=some o)->h.get? S=some { cls:=.type "list",data:=.seq #[] c₁ } ->
   mn (a7 prog w) A (.builtin "list.extend.loop" ⟨[.ref S,.ref I,.ref S],[]⟩) R { s with heap:=h,drawn:=d }:=by
  intro h c₁ hst hk hS₁;refine codeAny_extend_loopS W.toS hn' S hSf (.ref S) vs.length 0 _ #[] c₁ rfl (bC _) hst hS₁ (ItemsOf.nil _) λs' acc' c' hm hS' hacc=>?_
  have es:s'={ s with heap:=s'.heap,toks:=s'.toks,drawn:=d }:=by have e:=Moved.eq_with hm;exact e
  rw [es];have ea:acc'.toList=vs:=L2.WG hacc;refine q s'.heap s'.toks d acc' c' ns (λb o hb e=>hm.heap b o (λhmem=>?_) (hk b o hb e)) hS' (by rw [ea];exact hiv) hpn
  rcases aj.mp hmem with e'|hmem
  .exact hb e'
  .rw [aA.mp hmem] at e;exact absurd (aO e) (Nat.not_lt.mpr hIl)
 refine af (cU (WM hT1 ?_));refine kT (λ_=>?_) (λ_=>aw ⟨kX eF _,key _ 0 st (λb o _ e=>kp b o e) (kp _ _ g)⟩);refine af (tQ (af ?_))
 show aQ _ _ (O3 S (·.push .none) >>= λ_=>O3 S (·.pop)) _ _ _
 refine af (rF (kp _ _ g) rfl ?_);have g2:=bL (bH (·.push cG)) (kp _ _ g) rfl;refine rF (hz:=by seq_fits) g2 rfl ?_;have g3:=bL (bH (·.pop)) g2 rfl;refine aw ⟨kX eF _,key _ _ ?_ (λb o hb e=>?_) g3⟩
 .refine W.frame 0 _ _ st λb hb o e=>?_;have hbS:b≠S:=λh=>hSf (h▸hb);exact (cf _ _ (Ne.symm hbS)).trans ((cf _ _ (Ne.symm hbS)).trans e)
 .exact (cf _ _ (Ne.symm hb)).trans ((cf _ _ (Ne.symm hb)).trans (kp b o e))
theorem M3 {Q:List au->aC->Prop}(hh:A.handled=none) (hS:SO prog w (bt w) s.heap a ks) (hn:ks.length<=aZ)
  (q:∀ h' tk d vs (ns:List Int),(∀ b o,s.heap.get? b=some o->h'.get? b=some o)->gC vs ns->ns.Perm ks->Q vs { s with heap:=h',toks:=tk,drawn:=d }):aQ (a7 prog w) A (collect (.ref a)) Q E s:=by
 have hlt:=hS.lt;unfold collect;refine af (wpAny_runValue (ju F.entry_proto_collect ?_));rw [gM F.plain_proto_collect _]
 show aQ _ A.in1 (newList [] >>= λl=>again (.builtin "list.__iadd__" ⟨[l,.ref a],[]⟩)) _ _ s
 have g:(s.heap.push { cls:=.type "list",data:=.seq ([]:List au).toArray }).get? s.heap.objs.size=some { cls:=.type "list",data:=.seq #[] 0 }:=aP _ rfl;refine af (d9 (aw ⟨kX F.plain_list_iadd _,WN (s:={ s with heap:=s.heap.push { cls:=.type "list",data:=.seq ([]:List au).toArray } }) hh (hS.keep λo e=>ax _ e) (eP hlt) hn g λh' tk d acc' c' ns hk hS' hi hp=>?_⟩))
 show aQ _ A (load s.heap.objs.size >>= _) _ _ { s with heap:=h',toks:=tk,drawn:=d }
 refine af (Vh hS' (aw (q h' tk d acc'.toList ns (λb o e=>hk b o (a6 (aO e)) (ax _ e)) hi hp)))
theorem PZ {h₀:cI} {L:ai}{m:aY->Option au}{news:List (ai×iW)}{Q:au->aC->Prop}(hh:A.handled=none) (hS:SO prog w (bt w) s.heap a ks) (h64:ks.length<64) (F:Fr h₀ L s.heap m) (N:zD h₀ L s.heap news)
  (q:∀ D c h' tk d (out:List au) (ns:List Int),Fr h₀ L h' m->zD h₀ L h' ((D,bE "list" out.toArray c)::news)->(∀ p∈news,p.1<D)->gC out ns->ns.Perm ks->ns.Pairwise (·<=·)->Q (.ref D) { s with heap:=h',toks:=tk,drawn:=d }) :
  aQ (a7 prog w) A (call (.builtin "sorted") [.ref a]) Q E s:=by
 refine Mr kind_sorted aaS aaT (args_sorted1 _) (af (m:=checkCount "sorted" 1 1 _) (aw (af (M3 hh hS (L2.eS (m:=64) (by lia)) λh1 tk d vs ns keep hi hp=>?_))))
 have hvl:vs.length<64:=by rw [hi.length,hp.length_eq];exact h64
 have hz:vs.length<=aZ:=L2.eS (m:=64) (by lia);refine af (vU ?_ hz);have F1:=F.kept keep;have N1:=N.grown keep;have hL:L<h1.objs.size:=F1.ns.lt;have g:(h1.push (bE "list" vs.toArray 0)).get? h1.objs.size=some (bE "list" vs.toArray 0):=aP _ rfl
 show aQ (a7 prog w) A.in1 (do let _ ← ml [aH h1.objs.size] (call (.builtin "list.sort") [aH h1.objs.size]);ret (aH h1.objs.size)) _ _ { s with heap:=h1.push (bE "list" vs.toArray 0),toks:=tk,drawn:=d }
 refine af (cU (di Vp ⟨_,g,rfl⟩ R9 (list_sort_tree (s:={ s with heap:=h1.push (bE "list" vs.toArray 0),toks:=tk,drawn:=d }) g hi hvl λout ns' a1 a2 a3=>⟨_,rfl,aw ⟨_,rfl,?_⟩⟩) (args_list_sort _)));have hb:∀ b o,s.heap.get? b=some o->b≠h1.objs.size:=λb o e=>a6 (aO (keep b o e))
 have k7:∀ b o,s.heap.get? b=some o->(sortedHeap (h1.push (bE "list" vs.toArray 0)) h1.objs.size vs out).get? b=some o:=λb o e=>by
  unfold sortedHeap;exact (cf _ _ (Ne.symm (hb b o e))).trans (ax _ (ax _ ((cf _ _ (Ne.symm (hb b o e))).trans (ax _ (keep b o e)))))
 obtain ⟨c1,g2⟩:∃ c1,((h1.push (bE "list" vs.toArray 0)).update h1.objs.size (bH λ_=>#[])).get? h1.objs.size=some (bE "list" #[] c1):=⟨_,rE g λ_=>#[]⟩
 obtain ⟨c7,g7⟩:∃ c7,(sortedHeap (h1.push (bE "list" vs.toArray 0)) h1.objs.size vs out).get? h1.objs.size=some (bE "list" out c7):=⟨_,rE (ax _ (ax _ g2)) λ_=>out⟩
 refine q h1.objs.size c7 _ tk d out.toList ns' (F.kept k7) (λp hp'=>?_) (λp hp'=>aO (N1 p hp').1) a1 (a2.trans hp) a3
 rcases aj.mp hp' with rfl|hp'
 .exact ⟨by simpa using g7,eP hL,xU (a9 F1.above (nV hL))⟩
 .exact (N.grown k7) p hp'
end
end Sw
namespace L2
open PySem.W
variable {X:Cx}{Z:St}{H:Hp}{t:TA}
theorem Inv.drawn {pins:List (ai×iW)}{s:aC}(I:Inv X pins Z H s) (d:Drawn):Inv X pins Z H { s with drawn:=d }:=⟨I.ok,I.os,I.bare,I.base,I.loc,I.cell,I.free,I.pQ,I.pin,I.fh,I.len⟩
def DY (K:aa) (t:TA):TE:=λZ H Q=>t Z H λvs H1=>∃ (a:ai) (ns:List Int),vs=[.ref a]/\cW K H1 a (ns.map V.int)/\ns.length<=4000/\(∃ ds:List Int,ds.length<64/\∀ x∈ns,x∈ds) /\
 ∀ p (ks:List Int),H1 p=none->ks.Pairwise (· < ·)->(∀ x,x∈ks↔x∈ns)->Q (.ref p) (upd H1 p (.lst (ks.map V.int)))
theorem Uv {K:aa}{Q:VK}(h:t Z H λvs H1=>∃ (a:ai) (ns:List Int),vs=[.ref a]/\cW K H1 a (ns.map V.int)/\ns.length<=4000/\(∃ ds:List Int,ds.length<64/\∀ x∈ns,x∈ds) /\
 ∀ p (ks:List Int),H1 p=none->ks.Pairwise (· < ·)->(∀ x,x∈ks↔x∈ns)->Q (.ref p) (upd H1 p (.lst (ks.map V.int)))):DY K t Z H Q:=h
theorem WO {ks ds:List Int}(hn:ks.Nodup) (h:∀ x∈ks,x∈ds):ks.length<=ds.length:=by
 induction ks generalizing ds with
 | nil=>simp
 | cons a ks ih =>
  obtain ⟨h1,h2⟩:=bh.mp hn;obtain ⟨l1,l2,rfl⟩:=mE (h a ah)
  have:=ih (ds:=l1++l2) h2 λx hx=>by
   have hx':=h x (ae _ hx)
   rcases aT.mp hx' with q|q
   .exact bT _ q
   .rcases aj.mp q with q|q
    .exact absurd (q▸hx) h1
    .exact a8 _ q
  simp at this ⊢;lia
section
variable {x:Expr}{p1 p2 q1 q2:vQ}
theorem P0 (hc:X.calm=true) (hgl:Gl X "sorted") (hml:X.mg "sorted"=none) (hgz:Gl X "set") (hmz:X.mg "set"=none) (ha:PA X [x] t)
  (he:bA [.Call (.Name "set" p1) [x] [] p2] X.env=[(false,fw (.Call (.Name "set" p1) [x] [] p2) X.env)]:=by rfl) (he2:bA [x] X.env=(false,fw x X.env)::bA [] X.env:=by rfl) (hpl:(iC p2 (bA [] X.env)).any (·.1)=false:=by rfl) :
  PE X (.Call (.Name "sorted" q1) [.Call (.Name "set" p1) [x] [] p2] [] q2) (DY X.K t):=by
 intro pins s Z H Q I h;refine dU (rJ I hgl hml BootT.JH (xW ?_ he rfl));rw [he]
 show aQ _ _ (spliced ((false,fw (.Call (.Name "set" p1) [x] [] p2) X.env)::iC q2 (bA [] X.env))) _ _ s
 refine mq (dU (rJ I hgz hmz BootT.set (gS (gN (ha p2 pins s Z H _ I h) λus s1 ⟨vs,H1,I1,r1,q⟩=>?_) he2 hpl)));obtain ⟨a,ns,rfl,hA,hl4,⟨ds,hds,hsub⟩,k⟩:=q;obtain ⟨u,rfl,ru⟩:=vals1 r1;cases ru;obtain ⟨its,rv,pl,hz⟩:=I1.list hA;have hi:gC its ns:=intsAre_of rv;have hlen:=hi.length;refine Sw.WI (ns:=ns) (I1.ok.hd hc) pl.isList (by simpa using hi) (by rw [bc,hlen];unfold xR;lia) λh2 tk ks hS hmem hle hk=>rG ?_
 have hnd:ks.Nodup:=by obtain ⟨_,_,_,_,_,_,_,_,_,_,_,_,_,_,hn⟩:=hS;exact hn
 have h64:ks.length<64:=bw (WO hnd λx hx=>hsub x ((hmem x).mp hx)) hds;have I2:Inv X pins Z H1 { s1 with heap:=h2,toks:=tk }:=I1.kept (t':=tk) hk;obtain ⟨m,F,N⟩:=I2.vv;refine Sw.PZ (s:={ s1 with heap:=h2,toks:=tk }) (I1.ok.hd hc) hS h64 F N λD c h' tk' d out ms F' N' hD a1 a2 a3=>?_;obtain ⟨hn,I3⟩:=I2.zA (t':=tk') (o:=.lst (ms.map V.int)) F.ns F' N' hD ⟨by rw [ag,a2.length_eq];exact eS (m:=64) (by lia),out,c,z6 a1,(N' _ ah).1⟩;refine ⟨.ref D,_,I3.drawn d,rfl,k D ms hn ?_ (λx=>by rw [a2.mem_iff,hmem])⟩;have hnd':ms.Nodup:=a2.nodup_iff.mpr hnd
 exact (List.Pairwise.and a3 hnd').imp λ{x y} h=>by
  have h1:=h.1;have h2:x≠y:=h.2;lia
end
end L2
namespace L2
variable {K:aa}{H:Hp}{h base h':cI}{x qual q:aY}{f a C:ai}{P:bQ}{w:cK}{X:Cx}{s:aC}{E:XK}{mg:aY->Option au}{ps N:List aY}{Z:St}{k:Nat}{pos p np cpos:vQ}{st:cH}{sp:Sp}{cd cls:au}{pins:List (ai×iW)}{sl:Array (Option au)}{fd:gA}{scope:tL}{A:eD}{outer:List zB}{e:Expr}{es:List Expr}{t:TA}{o:iW}{pl:R5 Bool}
def Kp (h h':cI):Prop:=∀ b o,h.get? b=some o->∃ o',h'.get? b=some o'/\o'.cls=o.cls/\o'.dict=o.dict
theorem Kp.refl (h:cI):Kp h h:=λb o e=>⟨o,e,rfl,rfl⟩
theorem Kp.trans {h1 h2:cI}(a:Kp h h1) (b:Kp h1 h2):Kp h h2:=λc o e=>by
 obtain ⟨o1,e1,p1,q1⟩:=a c o e;obtain ⟨o2,e2,p2,q2⟩:=b c o1 e1;exact ⟨o2,e2,p2.trans p1,q2.trans q1⟩
inductive Quiet {α:Type}:R5 α->Prop where
 | pure (a:α):Quiet (.pure a)
 | unsup (w:String):Quiet (.unsupported w)
 | load {a:ai}{p:Option au}{k:iW->R5 α}(h:∀ o,Quiet (k o)):Quiet (.load a p k)
 | update {a:ai}{p:Option au}{f:iW->iW}{k:Unit->R5 α}(hf:∀ o,(f o).cls=o.cls/\(f o).dict=o.dict/\(o.isFreed=false->(f o).isFreed=false)) (h:Quiet (k ())):Quiet (.update a p f k)
 | alloc {o:iW}{k:ai->R5 α}(h:∀ a,Quiet (k a)):Quiet (.alloc o k)
 | stack {k:List (Code×vQ)->R5 α}(h:∀ x,Quiet (k x)):Quiet (.stack k)
theorem Quiet.bind {α β:Type} {t:R5 α}{f:α->R5 β}(ht:Quiet t) (hf:∀ a,Quiet (f a)):Quiet (t.bind f):=by
 induction ht with
 | pure a=>exact hf a
 | unsup w=>exact .unsup w
 | load h ih=>exact .load ih
 | update h1 h2 ih=>exact .update h1 ih
 | alloc h ih=>exact .alloc ih
 | stack h ih=>exact .stack ih
theorem Quiet.bind' {α β:Type} {t:R5 α}{f:α->R5 β}(ht:Quiet t) (hf:∀ a,Quiet (f a)):Quiet (t >>= f):=ht.bind hf
theorem Uw {b:ai}(e:h.get? b=some o):o.isFreed=false:=by
 unfold Heap.get? at e
 split at e
 .cases e
 .rename_i x hx
  obtain ⟨c,d,da,sl⟩:=o
  cases da with
  | freed=>exact absurd e (hx c d sl)
  | _=>rfl
theorem Ux {f:iW->iW}(hf:∀ o,(f o).cls=o.cls/\(f o).dict=o.dict/\(o.isFreed=false->(f o).isFreed=false)):Kp h (h.update a f):=λb o e=>by
 by_cases hb:b=a
 .subst hb;exact ⟨f o,bL f e ((hf o).2.2 (Uw e)),(hf o).1,(hf o).2.1⟩
 .exact ⟨o,by rw [cf _ _ (Ne.symm hb)];exact e,rfl,rfl⟩
theorem Z5:Kp h (h.push o):=λb u e=>⟨u,ax o e,rfl,rfl⟩
theorem Quiet.wp {α:Type} {t:R5 α}(ht:Quiet t) {M:Model}{Γ:PySem.Ctx}:∀ {Q:α->vQ->aC->Prop}{E:au->vQ->aC->Prop}{p:vQ}{s:aC},Sem.wp M Γ t Q E p s->Sem.wp M Γ t (λa p' s'=>Q a p' s'/\Kp s.heap s'.heap) E p s:=by
 induction ht with
 | pure a=>intro Q E p s h;exact ⟨h,Kp.refl _⟩
 | unsup w=>intro Q E p s h;exact h
 | load h ih=>intro Q E p s h;obtain ⟨o,e,q⟩:=h;exact ⟨o,e,ih o q⟩
 | update hf h ih =>
  intro Q E p s h;obtain ⟨e,q⟩:=h
  exact ⟨e,Sem.wp_mono _ _ _ (λx p' s' z=>⟨z.1,(Ux hf).trans z.2⟩) (λ_ _ _ z=>z) _ _ (ih q)⟩
 | alloc h ih=>intro Q E p s h;exact Sem.wp_mono _ _ _ (λx p' s' z=>⟨z.1,Z5.trans z.2⟩) (λ_ _ _ z=>z) _ _ (ih _ h)
 | stack h ih=>intro Q E p s h;exact ih _ h
theorem nI {α:Type} {t:R5 α}(ht:Quiet t) {M:Model}{A:eD}{Q:α->aC->Prop}{E:au->aC->Prop}{s:aC}(h:aQ M A t Q E s):aQ M A t (λa s'=>Q a s'/\Kp s.heap s'.heap) E s :=
 λΓ p hΓ=>ht.wp (h Γ p hΓ)
theorem P8 (a:ai):Quiet (load a):=.load λo=>.pure o
theorem JT:Quiet stack:=.stack λx=>.pure x
theorem WQ (v:au):Quiet (fieldsOf v):=by
 unfold fieldsOf
 split
 .refine (P8 _).bind' λo=>?_
  split
  .exact .pure _
  .exact .unsup _
 .exact .unsup _
theorem C9 (v:au) (i:Nat):Quiet (field v i):=by
 unfold field;refine (WQ v).bind' λo=>?_
 split
 .exact .pure _
 .exact .unsup _
theorem Uy (g:Array au->Array au) (o:iW):(jh g o).cls=o.cls/\(jh g o).dict=o.dict/\(o.isFreed=false->(jh g o).isFreed=false):=by
 obtain ⟨c,d,da,sl⟩:=o
 cases da<;>first|exact ⟨rfl,rfl,λz=>z⟩|exact ⟨rfl,rfl,λ_=>rfl⟩
theorem w6 (v:au) (i:Nat) (x:au):Quiet (Vq v i x):=by
 unfold Vq
 split
 .unfold updateField;refine (P8 _).bind' λo=>?_
  split
  .split
   .exact .update (Uy _) (.pure _)
   .exact .unsup _
  .exact .unsup _
 .exact .unsup _
theorem M4:Quiet frameEnvs:=JT.bind' λ_=>.pure _
theorem WR (env:zB) (outer:List zB):Quiet (behindIsImport env outer):=by
 unfold behindIsImport
 split
 .exact .pure _
 .split
  .exact .pure _
  .exact (C9 _ _).bind' λ_=>.pure _
theorem ac2 (env:zB) (b:Bool) (outer:List zB):Quiet (keptBack env b outer):=by
 unfold keptBack
 split
 .split
  .exact .pure _
  .exact (JT.bind' λ_=>.pure _:Quiet underTheClaimsCaller).bind' λ_=>.pure _
 .exact .pure _
theorem SD:∀ l:List zB,Quiet (readyFrames l)
 | []=>by rw [O7];exact .pure _
 | env::outer=>by
  rw [O7];simp only
  split
  .refine (P8 _).bind' λo=>?_
   split
   .exact .pure _
   .refine (WR _ _).bind' λ_=>?_;refine (ac2 _ _ _).bind' λ_=>?_;refine Quiet.bind' (.update (λo=>⟨rfl,rfl,λz=>?_⟩) (.pure _)) λ_=>SD outer;obtain ⟨c,d,da,sl⟩:=o
    cases da<;>first|exact z|rfl|(unfold Obj.isFreed at z ⊢;exact z)
  .exact .unsup _
theorem P9 (l:List zB):Quiet (frameObject l):=by
 unfold frameObject
 split
 .exact .pure _
 .exact (SD _).bind' λ_=>.pure _
theorem Uz (env:zB):Quiet (O8 env):=by
 unfold O8;refine M4.bind' λ_=>?_;refine (P9 _).bind' λ_=>?_
 split
 .exact .pure _
 .exact .unsup _
theorem Z6 (f:ai) (b:Bool):Quiet (aa1 f b):=by
 unfold aa1;refine JT.bind' λ_=>?_
 split
 .exact .pure _
 .exact .pure _
theorem WS (ty:String) (d:Data) (x:Option ai):Quiet (newObjAsIs (.type ty) d x):=by
 unfold newObjAsIs;exact Quiet.bind' (.alloc λ_=>.pure _) λ_=>.pure _
theorem Z7 (a b c d e:au) (p:List au):Quiet (vE a b c d e p):=by
 unfold vE newFields;generalize ([a,b,c,d,e]++if p.isEmpty=true then nB 6 cG else p)=vs;unfold newObj;simp only
 split
 .exact Quiet.bind' (.unsup _) λ_=>WS _ _ _
 .exact WS _ _ _
theorem WT (v:au) (env:zB):Quiet (noteFrame v env):=by
 unfold noteFrame
 split
 .refine (C9 _ _).bind' λhead=>?_
  have jp:∀ f,Quiet (do
    let x ← O8 env
    let y ← aa1 f (head != cG)
    let z ← vE head x cG (cq ↑f) cG y
    Vq v 1 z):=λf=>by
   refine (Uz _).bind' λ_=>?_;refine (Z6 _ _).bind' λ_=>?_;refine (Z7 _ _ _ _ _ _).bind' λ_=>w6 _ _ _
  split
  .refine (C9 _ _).bind' λ_=>?_
   split
   .exact .pure _
   .exact (w6 _ _ _).bind' λ_=>jp _
  .exact jp _
 .exact .unsup _
theorem DZ (v:au) (f:Option ai):Quiet (setFlight v f):=by
 unfold setFlight;refine (C9 _ _).bind' λ_=>?_
 split
 .exact w6 _ _ _
 .exact .pure _
theorem ID (env:zB) (v:au):Quiet (leaving env v):=(WT _ _).bind' λ_=>DZ _ _
theorem fS.at {o:HO}(x:fS P w H h a o):∃ u,h.get? a=some u:=by
 cases o with
 | lst xs=>obtain ⟨_,_,_,_,e⟩:=x;exact ⟨_,e⟩
 | tup xs=>obtain ⟨_,_,_,o,e,_⟩:=x;exact ⟨_,e⟩
 | dK kvs=>obtain ⟨_,_,_,_,o,_,_,e,_⟩:=x;exact ⟨_,e⟩
 | dT kvs=>obtain ⟨_,_,_,_,o,_,_,e,_⟩:=x;exact ⟨_,e⟩
 | set S n=>obtain ⟨o,_,_,_,e,_⟩:=x;exact ⟨_,e⟩
 | ins C dx fs=>obtain ⟨_,_,_,e,_⟩:=x;exact ⟨_,e⟩
 | own y=>obtain ⟨_,e⟩:=x;exact ⟨_,e⟩
 | xd fs=>obtain ⟨_,⟨_,_,_,e,_⟩,_⟩:=x;exact ⟨_,e⟩
 | rng lo hi=>obtain ⟨_,_,_,e⟩:=x;exact ⟨_,e⟩
 | frz ob u=>obtain ⟨e,_⟩:=x;exact ⟨_,e⟩
 | tbl ps=>exact ⟨_,(show h.get? a=some _ from x)⟩
 | met f y=>exact ⟨_,(show h.get? a=some _ from x)⟩
 | ext φ=>obtain ⟨_,⟨_,e⟩,_⟩:=x;exact ⟨_,e⟩
structure Fly (P:bQ) (w:cK) (st:List zB) (H:Hp) (s:aC) (H2:Hp) (a:ai) (B h:cI):Prop where
 un:Un (vv st) [] H H2 s.heap h
 fh:tq P w H2 h
 stays:B.StaysIn h
 has:∀ b o,H2 b=some o->∃ u,B.get? b=some u
 old:∀ b o,s.heap.get? b=some o->b∉vv st->∃ u,B.get? b=some u
 no:B.get? a=none
 dict:∃ o,h.get? a=some o/\o.dict=none
section
variable {st:List zB}{H2:Hp}{B:cI}
theorem Fly.step (F:Fly P w st H s H2 a B h) (hf:∀ b∈vv st,H b=none/\∃ o,s.heap.get? b=some o/\∀ vs,o.data≠.fields vs) (us:h.UpToSlots h') (sy:B.StaysIn h') (kp:Kp h h'):Fly P w st H s H2 a B h':=by
 have keep:∀ b o u,B.get? b=some u->h.get? b=some o->h'.get? b=some o:=λb o u e1 e2=>by
  have:=F.stays b u e1;rw [e2] at this;cases this;exact sy b _ e1
 have slot:∀ b o,s.heap.get? b=some o->H b=none->b∈vv st->∃ sl,h'.get? b=some { o with slots:=sl }:=λb o e n hb=>by
  obtain ⟨sl,e1⟩:=F.un.slot b o e n hb (by simp);obtain ⟨_,o',e',nd⟩:=hf b hb;rw [e] at e';cases e';obtain ⟨sl',e2⟩:=us b { o with slots:=sl } e1 nd;exact ⟨sl',e2⟩
 refine ⟨⟨λb o e n hb _=>?_,λb o e n hb _=>slot b o e n hb,λb o e n _=>F.un.free b o e n (by simp),λb o e _=>?_,F.un.zt,F.un.xM,F.un.xH⟩,λb o e=>?_,sy,F.has,F.old,F.no,?_⟩
 .obtain ⟨u,hu⟩:=F.old b o e hb;exact keep b o u hu (F.un.keep b o e n hb (by simp))
 .by_cases hb:b∈vv st
  .obtain ⟨sl,e1⟩:=slot b o e (hf b hb).1 hb;exact ⟨_,e1⟩
  .obtain ⟨u,hu⟩:=F.old b o e hb;exact ⟨u,sy b u hu⟩
 .refine (F.fh b o e).zr (λc v hc r=>?_) (λ_ z=>z) λ_ _ z=>z
  obtain ⟨u,hu⟩:∃ u,B.get? c=some u:=by
   rcases hc with rfl|hc
   .exact F.has _ o e
   .exact F.has _ _ hc
  exact keep c v u hu r
 .obtain ⟨o,e,d⟩:=F.dict;obtain ⟨o',e',_,d'⟩:=kp a o e;exact ⟨o',e',d'.trans d⟩
end
def z9 (P:bQ) (w:cK):Mj:=λouter H s E e s'=>∃ (a:ai) (cls a0:au) (B:cI) (H2:Hp),e=.ref a/\s'.os=s.os/\vw s'.gens/\B.FlyingW outer a cls a0 s'.heap/\Fly P w outer H s H2 a B s'.heap/\E cls none H2
theorem D0 (I:Inv X pins Z H s):∀ b∈vv X.stack,H b=none/\∃ o,s.heap.get? b=some o/\∀ vs,o.data≠.fields vs:=λb hb=>⟨I.Di b hb,(I.stack.mem hb).2⟩
section
variable {E':XK}
theorem UA {H1:Hp}{s1:aC}{args:List au}(I:Inv (mG (z9 P w) P w K mg base N qual scope f cd A outer s H E) pins Z H1 s1) (mk:s1.heap.MadeExcOf h' a cls args) (q:E cls none H1) :
  (mG (z9 P w) P w K mg base N qual scope f cd A outer s H E).xe (.ref a) { s1 with heap:=h' }:=by
 have hL:∀ b o,s.heap.get? b=some o->b≠s.heap.objs.size:=λb o e=>a6 (aO e)
 have hfr:∀ b o,s.heap.get? b=some o->b∉vv outer->b∉vv (mI qual scope s.heap.objs.size f cd::outer):=λb o e hb z=>by
  rcases aj.mp (show b∈s.heap.objs.size::vv outer from z) with z|z
  .exact hL b o e z
  .exact hb z
 have trk:∀ b o u,H1 b=some o->s1.heap.get? b=some u->(tS s1.heap (vv (mI qual scope s.heap.objs.size f cd::outer))).get? b=some u:=λb o u e r =>
  lj _ r λz=>by have:=I.Di b z;rw [e] at this;cases this
 refine gN (nI (ID _ _) (wpAny_leaves_madeW (base:=tS s1.heap (vv (mI qual scope s.heap.objs.size f cd::outer))) (h:=s1.heap) (L:=s.heap.objs.size) (outer:=outer) (Q:=λ_ s2=>∃ t,(tS s1.heap (vv (mI qual scope s.heap.objs.size f cd::outer))).FlyingW outer a cls (.ref t) s2.heap/\h'.UpToSlots s2.heap/\s2.os=s1.os/\s2.gens=s1.gens)
  I.ok.frames rfl (λb o e=>Ve _ e) (PySem.W.funFrames_hide I.stack λe he c hc=>mB.mpr ⟨e,he,hc⟩) mk λh2 t fl tp nt us=>⟨t,fl,us,rfl,rfl⟩)) λ_ s2 ⟨⟨t,fl,us,e1,e2⟩,kp⟩=>?_
 have slot:∀ b o,s.heap.get? b=some o->H b=none->b∈vv outer->∃ sl,s2.heap.get? b=some { o with slots:=sl }:=λb o e n hb=>by
  obtain ⟨sl,e3⟩:=I.base.slot b o e n hb (by simp [mG]);obtain ⟨_,o',e',nd⟩:=I.ok.uW.mem hb;have e':s.heap.get? b=some o':=e';rw [e] at e';cases e';obtain ⟨sl',e4⟩:=us b { o with slots:=sl } (mk.keeps b { o with slots:=sl } e3) nd;exact ⟨sl',e4⟩
 refine ⟨a,cls,.ref t,_,H1,rfl,e1.trans I.os,by rw [e2];exact I.bare,fl,⟨⟨λb o e n hb _=>?_,λb o e n hb _=>slot b o e n hb,λb o e n _=>I.base.free b o e n (by simp [mG]),λb o e _=>?_,I.base.zt,I.base.xM,I.base.xH⟩,λb o e=>?_,fl.1,λb o e=>?_,λb o e hb=>?_,fl.2.1,?_⟩,q⟩
 .exact fl.1 b o (lj _ (I.base.keep b o e n hb (by simp [mG])) (hfr b o e hb))
 .by_cases hb:b∈vv outer
  .obtain ⟨sl,e3⟩:=slot b o e (I.ok.VF b hb) hb;exact ⟨_,e3⟩
  .obtain ⟨o',e3⟩:=I.base.there b o e (by simp [mG]);exact ⟨o',fl.1 b o' (lj _ e3 (hfr b o e hb))⟩
 .refine (I.fh b o e).zr (λc v hc r=>fl.1 c v ?_) (λ_ z=>z) λ_ _ z=>z
  rcases hc with rfl|hc
  .exact trk _ o v e r
  .exact trk _ _ v hc r
 .obtain ⟨u,hu⟩:=(I.fh b o e).at;exact ⟨u,trk b o u e hu⟩
 .obtain ⟨o',e3⟩:=I.base.there b o e (by simp [mG]);exact ⟨o',lj _ e3 (hfr b o e hb)⟩
 .obtain ⟨t',e3,_⟩:=mk.there;obtain ⟨o',e4,_,d⟩:=kp a _ e3;exact ⟨o',e4,d⟩
theorem Z8 (hE:∀ cls H,E cls none H->E' cls none H):lR (z9 P w) (mG (z9 P w) P w K mg base N qual scope f cd A outer s H E') E:=by
 rintro pins Z H1 s1 e s2 I ⟨a,cls,a0,B,H2,rfl,os,bare,fl,F,q⟩
 have hfr:∀ b o,s.heap.get? b=some o->b∉vv outer->b∉vv (mI qual scope s.heap.objs.size f cd::outer):=λb o e hb z=>by
  rcases aj.mp (show b∈s.heap.objs.size::vv outer from z) with z|z
  .exact a6 (aO e) z
  .exact hb z
 refine gN (nI (ID _ _) (wpAny_leaves_onW (L:=s.heap.objs.size) (outer:=outer) (Q:=λ_ s3=>B.FlyingW outer a cls a0 s3.heap/\s2.heap.UpToSlots s3.heap/\s3.os=s2.os/\s3.gens=s2.gens) I.ok.frames rfl fl λh' fl' us=>⟨fl',us,rfl,rfl⟩)) λ_ s3 ⟨⟨fl',us,e1,e2⟩,kp⟩=>?_;have F':=F.step (D0 I) us fl'.1 kp;refine ⟨a,cls,a0,B,H2,rfl,(e1.trans os).trans I.os,by rw [e2];exact bare,fl',⟨⟨λb o e n hb _=>?_,λb o e n hb _=>?_,λb o e n _=>?_,λb o e _=>?_,λb xs e=>F'.un.zt _ _ (I.base.zt _ _ e),λb o u e=>F'.un.xM _ _ _ (I.base.xM _ _ _ e),λb ps e=>?_⟩,F'.fh,F'.stays,F'.has,λb o e hb=>?_,F'.no,F'.dict⟩,hE _ _ q⟩
 .exact F'.un.keep b o (I.base.keep b o e n hb (by simp [mG])) (I.base.free b o e n (by simp [mG])) (hfr b o e hb) (by simp)
 .obtain ⟨sl,e3⟩:=I.base.slot b o e n hb (by simp [mG]);obtain ⟨sl',e4⟩:=F'.un.slot b _ e3 (I.base.free b o e n (by simp [mG])) (ae _ hb:b∈s.heap.objs.size::vv outer) (by simp);exact ⟨sl',e4⟩
 .obtain ⟨o',e3⟩:=I.base.there b o e (by simp [mG]);exact F'.un.free b o' e3 (I.base.free b o e n (by simp [mG])) (by simp)
 .obtain ⟨o',e3⟩:=I.base.there b o e (by simp [mG]);exact F'.un.there b o' e3 (by simp)
 .obtain ⟨m1,e3⟩:=I.base.xH b ps e;obtain ⟨m2,e4⟩:=F'.un.xH b _ e3;exact ⟨m1++m2,by rw [e4,YS]⟩
 .obtain ⟨o',e3⟩:=I.base.there b o e (by simp [mG]);exact F'.old b o' e3 (hfr b o e hb)
end
abbrev WU:List au:=[.type "ValueError",.type "Exception",.type "BaseException",.type "object"]
def NsQ (K:aa) (N:ai):Prop:=aa2 K N=true/\∀ n∈Vw,bN K N n=some none
theorem nsq {N:ai}{c:au}{d:Option ai}{es:Array DictEntry}{ep:Nat}(h:c9 N K=some ⟨c,d,.dict es ep,sl⟩)
  (ho:(es.toList.all λe=>match e.key with | .str _ _=>true|_=>false)=true) (h1:bN K N "__init__"=some none) (h2:bN K N "__getattribute__"=some none) (h3:bN K N "__getattr__"=some none) (h4:bN K N "args"=some none):NsQ K N:=by
 refine ⟨?_,λn hn=>?_⟩
 .unfold aa2;rw [h];simp only [← aa3];exact ho
 .unfold Vw at hn;simp only [aj,cj,or_false] at hn
  rcases hn with rfl|rfl|rfl|rfl
  .exact h1
  .exact h2
  .exact h3
  .exact h4
def Z9 (K:aa) (C:ai):Prop:=∃ (N A:ai) (nm q:aY) (bs:List au) (hdct:Bool) (sn:List aY) (sub:List au) (ab:Bool) (col:Option Bool) (dd:Option ai) (k0 k1 k2 k3 k5:Option au) (c0:au) (dd':Option ai) (cd:ClassData) (sl:Array (Option au)),
 c9 C K=some (excClassObj nm q C N bs (.ref A::WU) hdct sn sub ab col dd k0 k1 k2 k3 k5 "ValueError.__new__")/\c9 A K=some ⟨c0,dd',.cls cd,sl⟩/\NsQ K N/\NsQ K cd.ns
theorem exK {N A:ai}{nm:aY}{bs:List au}{hdct:Bool}{sn:List aY}{sub:List au}{ab:Bool}{col:Option Bool}{dd:Option ai}{k0 k1 k2 k3 k5:Option au}{c0:au}{dd':Option ai}{cd:ClassData}
  (h1:c9 C K=some (excClassObj nm q C N bs (.ref A::WU) hdct sn sub ab col dd k0 k1 k2 k3 k5 "ValueError.__new__")) (h2:c9 A K=some ⟨c0,dd',.cls cd,sl⟩) (h3:NsQ K N) (h4:NsQ K cd.ns):Z9 K C :=
 ⟨N,A,nm,q,bs,hdct,sn,sub,ab,col,dd,k0,k1,k2,k3,k5,c0,dd',cd,sl,h1,h2,h3,h4⟩
theorem aaa (X:K.In h) (e:Z9 K C):∃ bm N nm q bs hdct sn sub ab col dd k0 k1 k2 k3 k5 mN,
  h.get? C=some (excClassObj nm q C N bs bm hdct sn sub ab col dd k0 k1 k2 k3 k5 "ValueError.__new__")/\h.Ns N mN/\(∀ n∈Vw,mN n=none)/\OwnTailQ h WU bm:=by
 obtain ⟨N,A,nm,q,bs,hdct,sn,sub,ab,col,dd,k0,k1,k2,k3,k5,c0,dd',cd,sl,h1,h2,⟨n1,n2⟩,⟨m1,m2⟩⟩:=e;refine ⟨.ref A::WU,N,nm,q,bs,hdct,sn,sub,ab,col,dd,k0,k1,k2,k3,k5,h.nsMap N,X _ _ h1,Zh (Vx X n1),λn hn=>Mc X n1 (n2 n hn),?_⟩;exact .own (X _ _ h2) (Zh (Vx X m1)) (λn hn=>Mc X m1 (m2 n hn)) .base
structure Exc (K:aa) (mg:aY->Option au) (x:aY) (C:ai):Prop where
 at_:mg x=some (.ref C)
 ex:Z9 K C
def JU (cls:au) (E:XK):TS:=λ_ _ H=>E cls none H
def M5 (X:Cx) (E:XK):Prop:=∀ (pins:List (ai×iW)) (Z:St) (H:Hp) (s:aC) (h':cI) (a:ai) (cls:au) (args:List au),Inv X pins Z H s->s.heap.MadeExcOf h' a cls args->E cls none H->X.xe (.ref a) { s with heap:=h' }
theorem M6 {txt:aY}{cp:vQ}(hc:X.calm=true) (hg:Gl X x) (ex:Exc X.K X.mg x C) (hx:M5 X E) (hd:(x == ("__debug__":aY))=false:=by decide) :
  PS X (.Raise (some (.Call (.Name x np) [.Constant (.str txt) k cp] [] cpos)) none pos) (JU (.ref C) E):=by
 intro pins s Z H D I h;obtain ⟨bm,N,nm,q,bs,hdct,sn,sub,ab,col,dd,k0,k1,k2,k3,k5,mN,o1,o2,o3,o4⟩:=aaa I.mod.kin ex.ex;refine wpAny_Raise_call_subT (bmB:=WU) (nm:=nm) (q:=q) (C:=C) (N:=N) (bs:=bs) (hdct:=hdct) (sn:=sn) (sub:=sub) (ab:=ab) (col:=col) (dd:=dd) (k0:=k0) (k1:=k1) (k2:=k2) (k3:=k3) (k5:=k5) F.excBase_ValueError (o4.tail.hasType rfl) (I.ok.hd hc) rfl (o3 _ (by simp [Vw])) ?_;refine rH I hg ex.at_ ⟨rfl,?_⟩ hd;refine xP ?_;refine gN ((show PA X [.Constant (.str txt) k cp] (ao (tC (.str txt)) aR) from bg dR cP) cpos pins s Z H (λvs H'=>vs.length=1/\H'=H) I ⟨rfl,rfl⟩) λus s2 ⟨vs,H',I2,r,hl,eH⟩=>?_;subst eH;refine ⟨rfl,by rw [← r.length,hl];decide,I2.bk _ _ o1,o2.keeps I2.bk,o4.tail.keeps I2.bk,λh' e mk=>hx pins Z H' s2 h' e _ _ I2 mk h⟩
theorem lK.okR (F:lK K x qual st f fd) (S:bb N ps (aM st)) (len:∀ vs H Q E,sp vs H Q E->vs.length=ps.length)
  (hbody:∀ (mM:au) (A:eD) (outer:List zB) (s:aC) (H:Hp) (vs:List V) (Q:VK) (E:XK),iu k (A.deeper (mI qual (aM st) s.heap.objs.size f mM))->sp vs H Q E ->
   ∃ t,LO (mG (z9 P w) P w K mg base N qual (aM st) f mM A outer s H E) (kA st) t/\t { nx:=λ_ H'=>Q .non H',rt:=Q } (start N vs) H):dC P w K mg base (z9 P w) (k+1) f fd ps sp:=by
 obtain ⟨oc,od,kV,doc,pm,an,mM,ct,osl,rfl,lk,hcd⟩:=F.ex;exact V8 lk hcd S len λA outer s H vs Q E hr hsp=>hbody mM A outer s H vs Q E hr hsp
theorem Bi:M5 (mG (z9 P w) P w K mg base N qual scope f cd A outer s H E) E:=λ_ _ _ _ _ _ _ _ I mk q=>UA I mk q
theorem IE:lR (z9 P w) (mG (z9 P w) P w K mg base N qual scope f cd A outer s H E) E:=Z8 λ_ _ z=>z
abbrev Cx.marked (X:Cx) (a:ai):Cx:={ X with A:=X.A.mark (some (.ref a)),calm:=false,xe:=λ_ _=>False }
theorem Inv.mark (I:Inv X pins Z H s) (a:ai):Inv (X.marked a) pins Z H s :=
 ⟨⟨I.ok.mod,I.ok.kind,I.ok.glob,I.ok.blt,I.ok.above,I.ok.inj,I.ok.has,I.ok.cab,nofun,I.ok.frames,I.ok.stk,I.ok.exf,I.ok.bs,I.ok.Ts,I.ok.LN,I.ok.LM,I.ok.uW,I.ok.VF⟩,I.os,I.bare,I.base,I.loc,I.cell,I.free,I.pQ,I.pin,I.fh,I.len⟩
theorem Inv.unmark (ok:X.Ok) (I:Inv (X.marked a) pins Z H s):Inv X pins Z H s:=⟨ok,I.os,I.bare,I.base,I.loc,I.cell,I.free,I.pQ,I.pin,I.fh,I.len⟩
section
variable {CT:ai}{xT n:aY}{epos hpos:vQ}{th:TS}{i:Nat}{b₀:cH} {Jh:List cH}
end
theorem SE {D:vH}(h:E cls none H):JU cls E D Z H:=h
section
variable {Q:VK}
end
structure qX (P:bQ) (w:cK) (K:aa) (mg:aY->Option au) (base:cI) (CX:Mj) (k:Nat) (x:aY) (ps:List aY) (sp:Sp) where
 f:ai
 d:gA
 G:dC P w K mg base CX k f d ps sp
 m:mg x=some (.ref f)
 kp:c6 K (.ref f)=true
 b:Binds K d ps []
structure jf (P:bQ) (w:cK) (K:aa) (mg:aY->Option au) (base:cI) (CX:Mj) (k:Nat) (C:ai) (x:aY) (ps:List aY) (sp:Sp) where
 f:ai
 d:gA
 G:dC P w K mg base CX k f d ps sp
 m:ZF K C x f
 b:Binds K d ps []
structure Qa (P:bQ) (w:cK) (K:aa) (mg:aY->Option au) (base:cI) (CX:Mj) (k:Nat) (C:ai) (ps:List aY) (sp:Sp) where
 f:ai
 d:gA
 G:dC P w K mg base CX k f d ps sp
 m:Mk K C f
 b:Binds K d ps []
structure oO (K:aa) (mg:aY->Option au) (x:aY) (st:cH) (ps:List aY) where
 f:ai
 d:gA
 F:lK K x x st f d
 m:mg x=some (.ref f)
 bt:∀ (s:aC) (us:List au),us.length=ps.length->LS s d ⟨us,[]⟩ (ps.zip us)
 b:Binds K d ps []
structure jU (K:aa) (C:ai) (x q:aY) (st:cH) (ps:List aY) where
 f:ai
 d:gA
 F:lK K x q st f d
 a:bj K (.ref C) x=some (some (.ref f))
 i:tP K (.ref f)=true
 b:Binds K d ps []
def qz (X:K.In h) (G:h.Ns br mg) {f:ai}{od an:Option ai}{sl:Array (Option au)}{oc kV dc pm cd ct:au}(a:bN K br x=some (some (.ref f)))
  (l:K.lookup f=some ⟨oc,od,.func (i4 x x (qb st) (kA st) (aM st) .none kV dc pm an cd ct),sl⟩) (c:pZ K cd x=true) (k:c6 K (.ref f)=true)
  (hb:∀ (kV doc pm:au) (an:Option ai) (mM ct:au) (us:List au),us.length=ps.length->LU (i4 x x (qb st) (kA st) (aM st) .none kV doc pm an mM ct) ⟨us,[]⟩=pure (ps.zip us)):oO K mg x st ps :=
 ⟨f,_,JC l c k,eY X G a,λs us hl=>.of_eq (hb kV dc pm an cd ct us hl),(JC l c k).binds hb⟩
def v7 {od an:Option ai}{oc kV dc pm ct:au}(a:bj K (.ref C) x=some (some (.ref f))) (i:tP K (.ref f)=true)
  (l:K.lookup f=some ⟨oc,od,.func (i4 x q (qb st) (kA st) (aM st) .none kV dc pm an cd ct),sl⟩) (c:pZ K cd q=true) (k:c6 K (.ref f)=true)
  (hb:∀ (kV doc pm:au) (an:Option ai) (mM ct:au) (us:List au),us.length=ps.length->LU (i4 x q (qb st) (kA st) (aM st) .none kV doc pm an mM ct) ⟨us,[]⟩=pure (ps.zip us)):jU K C x q st ps :=
 ⟨f,_,JC l c k,a,i,(JC l c k).binds hb⟩
theorem oO.law {y:aY}{fa:ai}(D:oO K mg x st [y]) (h:mg x=some (.ref fa)):D.f=fa:=by
 have:=D.m.symm.trans h;cases this;rfl
section
variable {CX:Mj}{apos:vQ}{o:Expr}{ta:TE}
theorem Qb (c:qX X.prog X.w X.K X.mg X.base CX k x ps sp) (hr:iu k X.A) (hg:Gl X x) (hx:lR CX X E) (ha:PA X (e::es) t) (hdb:(x == ("__debug__":aY))=false:=by decide) (he:bA (e::es) X.env=(false,fw e X.env)::bA es X.env:=by rfl) (hpl:(iC pos (bA es X.env)).any (·.1)=false:=by rfl) :
  PE X (.Call (.Name x p) (e::es) [] pos) (cb sp [] E t):=ZH c.G hr hg c.m c.kp c.b .nil hx ha hdb he hpl
theorem VC (c:jf X.prog X.w X.K X.mg X.base CX k C x ps sp) (cl:Dj X.K C) (hr:iu k X.A) (he:PE X o ta) (hx:lR CX X E) (ha:PA X (e::es) t)
  (hst:bA (e::es) X.env=(false,fw e X.env)::bA es X.env:=by rfl) (hpl:(iC pos (bA es X.env)).any (·.1)=false:=by rfl)
  (ht:fw (.Call (.Attribute o x apos) (e::es) [] pos) X.env=(do
   let ov ← fw o X.env
   zF apos.atName
   let (f,first) ← ml [ov] (Dm ov x pl)
   callWith pos f first (iC pos (bA (e::es) X.env)) (CZ pos (qO [] X.env))):=by rfl) :
  PE X (.Call (.Attribute o x apos) (e::es) [] pos) (cJ C x sp [] E ta t):=ZI he cl c.m c.G hr c.b .nil hx ha hst hpl ht
theorem pcm0 (c:jf X.prog X.w X.K X.mg X.base CX k C x ps sp) (cl:Dj X.K C) (hr:iu k X.A) (he:PE X o ta) (hx:lR CX X E)
  (ht:fw (.Call (.Attribute o x apos) [] [] pos) X.env=(do
   let ov ← fw o X.env
   zF apos.atName
   let (f,first) ← ml [ov] (Dm ov x pl)
   callWith pos f first (iC pos (bA [] X.env)) (CZ pos (qO [] X.env))):=by rfl) :
  PE X (.Call (.Attribute o x apos) [] [] pos) (cJ C x sp [] E ta aR):=V7 he cl c.m c.G hr c.b .nil hx ht
end
end L2
namespace L2
open PySem.W
variable {m:List Bool}{xs:List V}{ks:List Int}
def iY:List Int->List Int->Bool
 | [],[]=>false
 | [],_::_=>true
 | _::_,[]=>false
 | x::xs,y::ys=>if x=y then iY xs ys else decide (x<y)
theorem vj:∀ x:List Int,iY x x=false
 | []=>rfl
 | x::xs=>by unfold iY;rw [if_pos rfl];exact vj xs
theorem w8:∀ {x y:List Int},iY x y=false->iY y x=true\/x=y
 | [],[],_=>.inr rfl
 | [],_::_,h=>by unfold iY at h;cases h
 | _::_,[],_=>.inl (by unfold iY;rfl)
 | x::xs,y::ys,h=>by
  unfold iY at h ⊢
  by_cases e:x=y
  .subst e;rw [if_pos rfl] at h ⊢
   rcases w8 h with q|q
   .exact .inl q
   .exact .inr (by rw [q])
  .rw [if_neg e] at h;rw [if_neg (Ne.symm e)];exact .inl (by have:=of_decide_eq_false h;exact decide_eq_true (by lia))
theorem xa:∀ {x y z:List Int},iY x y=true->iY y z=true->iY x z=true
 | [],[],_,h,_=>by unfold iY at h;cases h
 | [],_::_,[],_,h=>by unfold iY at h;cases h
 | [],_::_,_::_,_,_=>by unfold iY;rfl
 | _::_,[],_,h,_=>by unfold iY at h;cases h
 | _::_,_::_,[],_,h=>by unfold iY at h;cases h
 | x::xs,y::ys,z::zs,h,h'=>by
  unfold iY at h h' ⊢
  by_cases e:x=y
  .subst e;rw [if_pos rfl] at h
   by_cases e':x=z
   .rw [if_pos e'] at h' ⊢;exact xa h h'
   .rw [if_neg e'] at h' ⊢;exact h'
  .rw [if_neg e] at h;have h1:=of_decide_eq_true h
   by_cases e':y=z
   .subst e';rw [if_neg e];exact h
   .rw [if_neg e'] at h';have h2:=of_decide_eq_true h';rw [if_neg (by lia)];exact decide_eq_true (by lia)
def IF (ts:List (List Int)) (t:List Int):Int:=(ts.countP λu=>iY u t:Nat)
theorem D5 {ts:List (List Int)}{t u:List Int}(ht:t∈ts):decide (IF ts t<IF ts u)=iY t u:=by
 unfold IF
 cases q:iY t u with
 | true =>
  have:=MU (l:=ts) (p:=λv=>iY v t) (q:=λv=>iY v u) (x:=t) (λy _ h=>xa h q) ht (vj t) q
  exact decide_eq_true (by lia)
 | false =>
  have:ts.countP (λv=>iY v u)<=ts.countP λv=>iY v t:=Vo λv _ h=>by
   rcases w8 q with e|e
   .exact xa h e
   .rw [e];exact h
  exact decide_eq_false (by lia)
inductive Flat:List Bool->List V->List Int->Prop
 | nil:Flat [] [] []
 | int (i:Int) {m:List Bool}{xs:List V}{ks:List Int}:Flat m xs ks->Flat (false::m) (.int i::xs) (i::ks)
 | bl (b:Bool) {m:List Bool}{xs:List V}{ks:List Int}:Flat m xs ks->Flat (true::m) (.bl b::xs) (b2i b::ks)
theorem Flat.length (h:Flat m xs ks):xs.length=m.length:=by
 induction h with
 | nil=>rfl
 | int _ _ ih=>simp [ih]
 | bl _ _ ih=>simp [ih]
section
variable {prog:bQ}{w:cK}{A:eD}{s:aC}{b:Bool}{Q:Bool->aC->Prop}
theorem WV (fx:Flat m xs ks):∀ {ys:List V}{ls:List Int}{us ws:List au}{i:Nat},Flat m ys ls->Vals xs us->Vals ys ws->(b && i == 0)=false->Q (iY ks ls) s ->
  KatLex prog w A b false Q (us.zip ws) i s:=by
 induction fx with
 | nil =>
  intro ys ls us ws i fy rx ry hi q;cases fy;cases rx;cases ry;unfold iY at q
  exact kat_nil q
 | int a _ ih =>
  intro ys ls us ws i fy rx ry hi q
  cases fy with
  | int c fy =>
   cases rx with
   | cons r1 rx =>
    cases ry with
    | cons r2 ry =>
     obtain ⟨t,rfl⟩:=r1;obtain ⟨u,rfl⟩:=r2;rw [j4];refine Md (jt a t c u _ _ _ _ ?_);unfold iY at q
     by_cases e:a=c
     .rw [if_pos e] at q;rw [show (a == c)=true by simpa using e];exact Me (ih fy rx ry (by simp) q)
     .rw [if_neg e] at q;rw [show (a == c)=false by simpa using e];refine kat_no ?_;rw [hi]
      exact kat_one _ _ (Y9 q)
 | bl a _ ih =>
  intro ys ls us ws i fy rx ry hi q
  cases fy with
  | bl c fy =>
   cases rx with
   | cons r1 rx =>
    cases ry with
    | cons r2 ry =>
     cases r1;cases r2;rw [j4];refine Md (SeqAt.EqAt.bool_bool a c _ _ _ _ ?_);unfold iY at q
     by_cases e:a=c
     .rw [if_pos (by rw [e])] at q;rw [show (a == c)=true by simpa using e];exact Me (ih fy rx ry (by simp) q)
     .rw [if_neg (by cases a<;>cases c<;>first|exact absurd rfl e|decide)] at q;rw [show (a == c)=false by simpa using e];refine kat_no ?_;rw [hi];exact kat_one _ _ (lt_bool q)
theorem aab {x y:ai}{ys:List V}{ls:List Int}{us ws:List au}{E:au->aC->Prop}(fx:Flat (false::m) xs ks) (fy:Flat (false::m) ys ls) (rx:Vals xs us) (ry:Vals ys ws)
  (hx:tO s.heap x us.toArray) (hy:tO s.heap y ws.toArray) (h:Q (iY ks ls) s):aQ (a7 prog w) A (keyLt' (tuples' true) (.ref x) (.ref y)) Q E s:=by
 obtain ⟨ox,ex,cx,nx,dx⟩:=hx;obtain ⟨oy,ey,cy,ny,dy⟩:=hy
 have l1:us.length=ws.length:=by rw [← rx.length,← ry.length,fx.length,fy.length]
 refine kat_lt ex dx ey dy ?_;rw [show decide (us.toArray.size<ws.toArray.size)=false by simp [l1]]
 cases fx with
 | int a fx =>
  cases fy with
  | int c fy =>
   cases rx with
   | cons r1 rx =>
    cases ry with
    | cons r2 ry =>
     obtain ⟨t,rfl⟩:=r1;obtain ⟨u,rfl⟩:=r2
     show KatLex _ _ _ _ _ _ (List.zip (_::_) (_::_)) 0 s
     rw [j4];refine Md (jt a t c u _ _ _ _ ?_);unfold iY at h
     by_cases e:a=c
     .rw [if_pos e] at h;rw [show (a == c)=true by simpa using e];exact Me (WV fx fy rx ry (by simp) h)
     .rw [if_neg e] at h;rw [show (a == c)=false by simpa using e];exact kat_no (oneLt_int h)
end
abbrev Zn:=List Int×ai
def tI (z:Zn):V:=.ref z.2
def ac3 (m:List Bool) (H:Hp) (z:Zn):Prop:=∃ xs,H z.2=some (.tup xs)/\Flat (false::m) xs z.1
def uc (K:aa):List V->Hp->VK->Prop:=λxs H Q=>∃ (p:ai) (zs:List Zn) (m:List Bool),xs=[.ref p]/\cW K H p (zs.map tI)/\(∀ z∈zs,ac3 m H z)/\zs.length<64 /\
 ∀ (l:ai) (zs':List Zn),H l=none->zs'.Perm zs->zs'.Pairwise (λz w=>iY w.1 z.1=false)->Q (.ref l) (upd H l (.lst (zs'.map tI)))
theorem D6:∀ {zs:List Zn}{us:List au},Vals (zs.map tI) us->us=zs.map λz=>aH z.2
 | [],_,h=>by cases h;rfl
 | z::zs,_,h=>by
  cases h with
  | cons h1 h2=>cases h1;rw [D6 h2];rfl
theorem rO:∀ zs:List Zn,Vals (zs.map tI) (zs.map λz=>aH z.2)
 | []=>.nil
 | _::zs=>.cons rfl (rO zs)
theorem SF {h:cI}:∀ {zs:List Zn},(∀ z∈zs,∃ i t us,tO h z.2 (gX i t::us).toArray)->∃ fs,KatTups h (zs.map λz=>aH z.2) fs/\fs.length=zs.length/\∀ v∈fs,∃ i t,v=gX i t
 | [],_=>⟨[],.nil,rfl,λ_ h=>nomatch h⟩
 | z::zs,hz=>by
  obtain ⟨fs,k1,k2,k3⟩:=SF (zs:=zs) λz' h'=>hz z' (ae _ h');obtain ⟨i,t,us,o,e,c,n,d⟩:=hz z ah;refine ⟨.int i t::fs,KatTups.cons e c d (by simp) k1,by simp [k2],λv hv=>?_⟩
  rcases aj.mp hv with rfl|hv
  .exact ⟨i,t,rfl⟩
  .exact k3 v hv
theorem ym {zs:List Zn}{d:Zn}{k:Nat->Int}{pr:Array Nat}(hk:∀ i,k i=IF (zs.map (·.1)) (zs.getD i d).1) (hp1:Sx.Pm zs.length pr) (hp2:Sx.Up k pr zs.length) :
  (pr.toList.map λi=>zs.getD i d).Perm zs/\(pr.toList.map λi=>zs.getD i d).Pairwise λz w=>iY w.1 z.1=false:=by
 have plt:∀ i∈pr.toList,i<zs.length:=λi hi=>by simpa using hp1.mem_iff.mp hi
 have mz:∀ i,i<zs.length->zs.getD i d∈zs:=λi hi=>by
  have:zs.getD i d=zs[i]:=by simp [hi]
  rw [this];exact eN hi
 refine ⟨?_,?_⟩
 .have:=hp1.map λi=>zs.getD i d
  rwa [PX] at this
 .rw [O5];intro i j hi hj hij;rw [ag] at hi hj;simp only [List.getElem_map];have hsz:pr.size=zs.length:=hp1.size
  have hj':j<zs.length:=by rw [← hsz];simpa using hj
  have hle:=hp2.le (nV hij) hj';unfold Sx.Ky at hle
  have gi:∀ i (h:i<pr.toList.length),pr.getD i 0=pr.toList[i]:=λi h=>by
   have h':i<pr.size:=by simpa using h
   simp [qQ,h']
  rw [gi i hi,gi j hj,hk,hk] at hle
  cases w:iY (zs.getD pr.toList[j] d).1 (zs.getD pr.toList[i] d).1 with
  | false=>rfl
  | true =>
   rw [← D5 (ts:=zs.map (·.1)) (bq (mz _ (plt _ (eN hj)))),decide_eq_true_iff] at w;lia
section
variable {X:Cx}
theorem yn:lM X (.builtin "sorted") (uc X.K):=by
 intro pins s Z H xs us Q I r h;obtain ⟨p,zs,mk,rfl,hq,hz,h64,q⟩:=h;obtain ⟨u,rfl,ru⟩:=vals1 r;cases ru;obtain ⟨its,rv,pl,hsz⟩:=I.list hq;have ei:=D6 rv;subst ei
 have tup0:∀ z∈zs,∃ xs us,Flat (false::mk) xs z.1/\Vals xs us/\tO s.heap z.2 us.toArray:=λz hz'=>by
  obtain ⟨xs,h1,h2⟩:=hz z hz';obtain ⟨ts,r,it,_⟩:=I.tuple (.of h1);exact ⟨xs,ts,h2,r,it⟩
 by_cases h2:2<=zs.length
 .obtain ⟨m,F,N⟩:=I.vv;refine kat_sorted F N pl.isList (by rw [ag];exact h2) (by rw [ag];exact h64) λD e1 h' F' N' hD=>?_
  have kept:∀ b o,b≠X.env.locals->s.heap.get? b=some o->h'.get? b=some o:=λb o h1 e=>by
   cases w:X.base.get? b with
   | some u =>
    have z:=I.bk b u w;rw [e] at z;cases z
    exact F'.keep b _ w
   | none=>exact (N' (b,o) (ae _ (nG h1 w e))).1
  have tup:∀ z∈zs,∃ xs us,Flat (false::mk) xs z.1/\Vals xs us/\tO h' z.2 us.toArray:=λz hz'=>by
   obtain ⟨xs,us,f,r,o,e,rest⟩:=tup0 z hz';refine ⟨xs,us,f,r,o,kept _ o (λw=>?_) e,rest⟩;obtain ⟨_,e2,_⟩:=hz z hz';rw [w,I.free] at e2;cases e2
  obtain ⟨fs,k1,k2,k3⟩:=SF (zs:=zs) (h:=h') λz hz'=>by
   obtain ⟨xs,us,f,r,it⟩:=tup z hz';generalize z.1=kz at f
   cases f with
   | int i f =>
    cases r with
    | cons r1 r=>obtain ⟨t,rfl⟩:=r1;exact ⟨i,t,_,it⟩
  refine kat_kind (T:=.type "int") k1 (by lia) (λv hv=>?_) rfl ?_
  .obtain ⟨i,t,rfl⟩:=k3 v hv;exact Looks.now
  have et:(fj "int" != fj "tuple")=true:=by decide
  rw [et,ag]
  have gz:∀ i,i<zs.length->(zs.map λz=>aH z.2).getD i cG=aH (zs.getD i ([],0)).2:=λi hi=>by simp [hi]
  have mz:∀ i,i<zs.length->zs.getD i ([],0)∈zs:=λi hi=>by
   have:zs.getD i ([],0)=zs[i]:=by simp [hi]
   rw [this];exact eN hi
  refine Sx.Sat.ask (n:=zs.length) (k:=λi=>IF (zs.map (·.1)) (zs.getD i ([],0)).1) (λi j C hi hj hC=>?_) (λpr hp=>?_) (Sx.MT (by lia))
  .unfold kas_ask;rw [gz i hi,gz j hj];obtain ⟨xs,us,f1,r1,i1⟩:=tup _ (mz i hi);obtain ⟨ys,ws,f2,r2,i2⟩:=tup _ (mz j hj);refine aab (s:={ s with heap:=h' }) f1 f2 r1 r2 i1 i2 ?_;rw [D5 (bq (mz i hi))] at hC;exact hC
  .obtain ⟨hperm,hsort⟩:=ym (d:=([],0)) (λi=>rfl) hp.1 hp.2
   have plt:∀ i∈pr.toList,i<zs.length:=λi hi=>by simpa using hp.1.mem_iff.mp hi
   have eo:(pr.toList.map λi=>(zs.map λz=>aH z.2).getD i cG)=(pr.toList.map λi=>zs.getD i ([],0)).map λz=>aH z.2:=by
    rw [bO];exact eV λi hi=>gz i (plt i hi)
   rw [eo];generalize (pr.toList.map λi=>zs.getD i ([],0))=zs' at hperm hsort;have hlen:zs'.length<=aZ:=eS (m:=64) (by rw [hperm.length_eq];lia);refine Pj F' N' (zK λq hq=>a6 (hD q hq)) λh'' c F'' N''=>?_;obtain ⟨hn,I2⟩:=I.zA (t':=s.toks) (o:=.lst (zs'.map tI)) F.ns F'' N'' hD ⟨by rw [ag];exact hlen,_,c,rO zs',(N'' _ ah).1⟩;exact ⟨.ref D,_,I2,rfl,q D zs' hn hperm hsort⟩
 .have hs:(zs.map λz=>aH z.2).length<2:=by rw [ag];lia
  refine JO pl.isList hs ?_;obtain ⟨e,he⟩:=sortedAll_at s.heap (zs.map λz=>aH z.2) (zs.map λz=>aH z.2).toArray;refine ⟨.ref (s.heap.objs.size+1),_,I.laid (t':=s.toks) (o:=.lst (zs.map tI)) (λb o e=>sortedAll_old e) (iF _) ⟨by rw [ag];exact eS (m:=64) (by lia),_,e,rO zs,by simpa [bE] using he⟩,rfl,q _ zs (I.fh.fresh (iF _)) (km _) ?_⟩
  match zs,h2 with
  | [],_=>exact .nil
  | [z],_=>exact tV _ _
  | z::w::r,h2=>simp at h2
end
end L2
namespace L2
open PySem.Calls
open PySem.W (kla_fn kla_obj tabObj CodeHd)
variable {prog:bQ}{w:cK}{A:eD}{s:aC}{params:xO}{body:Expr}{scope:tL}{pos:vQ}
theorem UB {E:au->aC->Prop}{Q:au->aC->Prop}{f c':ai}{qual x:aY}{clos:List (aY×ai)}{pm ctv v:au}
  (hroom:A.depth<CY) (ho:s.heap.get? f=some (zG "<lambda>" qual params body scope clos pm c' ctv)) (hrec:s.heap.CodeRec (.ref c') qual) (hlim:s.heap.NoLimit)
  (hb:LU (kla_fn "<lambda>" qual params body scope clos pm (.ref c') ctv) ⟨[v],[]⟩=pure [(x,v)])
  (hx:scope.names.lookup x=some .local) (hk:scope.kind=.function) (hco:scope.isCoroutine=false) (hgen:scope.isGenerator=false) (hcell:∀ z∈scope.names,z.2≠.cell)
  (h:∀ (env:zB) (h₁:cI) (tk:Nat) (E':au->aC->Prop),env.scope=scope->env.cells=clos->s.heap.objs.size<=env.locals->h₁.Ns env.locals (λz=>c9 z [(x,v)])->(∀ b o,s.heap.get? b=some o->h₁.get? b=some o) ->
   aQ (a7 prog w) (A.deeper env) (fw body env) Q E' { s with heap:=h₁,toks:=tk }) :
  aQ (a7 prog w) A (call (.ref f) [v]) Q E s:=by
 refine Vk (PySem.W.kla_callFunE hroom ho rfl hco hgen rfl hrec ?_);rw [hb];refine aw (wpAny_newFunctionEnv hcell (λz hz=>by rw [aA.mp hz];exact hx) (λh₁ hns hsb=>⟨hlim.fresh _ hsb,?_⟩) hk);have hk₁:∀ b o,s.heap.get? b=some o->h₁.get? b=some o:=λb o e=>hsb.extBut b o (a6 (aO e)) (ax _ e);exact PySem.W.kla_codeExpr (h _ h₁ _ _ rfl rfl (aB _) hns hk₁)
section
variable {env:zB}{h:cI}{a b:Expr}{i j:Int}
end
section
variable {X:Cx}{c Pt:ai}{e:Expr}{tx:TA}{x y:aY}{j:Nat}{p0 lpos kpos:vQ}{C:Int->Int->Int->Prop}{g:Int->Int->Int->Int}
end
end L2
namespace L2
open PySem.Calls PySem.W
variable {w:cK}{A:eD}{s:aC}{prog:bQ}{E:au->aC->Prop}{h₀:cI} {m:aY->Option au}{news:List (ai×iW)}{f:au}{e1:Nat}{zs:List Zn}
theorem SG:∀ x y:List Int,iY x y=HT.lexLt x y
 | [],[]=>rfl
 | [],_::_=>rfl
 | _::_,[]=>rfl
 | x::xs,y::ys=>by unfold iY;rw [HT.DH,SG xs ys]
def yo (z:Zn) (t:Tu):iW:=bE "tuple" #[.int (z.1.headD 0) t,.ref z.2] 0
section
variable {Q:Bool->aC->Prop}
theorem aac {k1 k2 b1 b2:ai}{w1 w2 x1 y1 x2 y2:Int}{t1 t2 ta tb tc td:Tu}(hx:tO s.heap k1 #[.int w1 t1,.ref b1]) (hy:tO s.heap k2 #[.int w2 t2,.ref b2])
  (hb1:tO s.heap b1 #[.int x1 ta,.int y1 tb]) (hb2:tO s.heap b2 #[.int x2 tc,.int y2 td]) (hu:A.units<i8) (h:Q (iY [w1,x1,y1] [w2,x2,y2]) s):aQ (a7 prog w) A (keyLt' (tuples' true) (.ref k1) (.ref k2)) Q E s:=by
 obtain ⟨ox,ex,cx,nx,dx⟩:=hx;obtain ⟨oy,ey,cy,ny,dy⟩:=hy;refine kat_lt ex dx ey dy ?_;have ez:(#[gX w1 t1,aH b1].toList.zip #[gX w2 t2,aH b2].toList)=[(.int w1 t1,.int w2 t2),(.ref b1,.ref b2)]:=rfl;rw [ez];refine Md (jt w1 t1 w2 t2 _ _ _ _ ?_);unfold iY at h
 by_cases e:w1=w2
 .rw [if_pos e] at h;rw [show (w1 == w2)=true by simpa using e]
  by_cases eb:b1=b2
  .subst eb;refine Me (Md (SeqAt.EqAt.same _ _ _ _ _ (Me (kat_nil ?_))))
   have:x1=x2/\y1=y2:=by
    obtain ⟨o,e1,_,n,d1⟩:=hb1;obtain ⟨o',e2,_,n',d2⟩:=hb2;rw [e1] at e2;cases e2;rw [d1] at d2;simp at d2;exact ⟨d2.1.1.1,d2.1.2.1⟩
   rw [this.1,this.2,vj] at h;exact h
  .have rc:SeqAt.RcAt A s (.ref b1) (.ref b2) ((eh (min 2 2)).all (λj=>if j=0 then x1 == x2 else y1 == y2) && (2 == 2)):=SeqAt.RcAt.tuples (items:=#[.int x1 ta,.int y1 tb]) (items2:=#[.int x2 tc,.int y2 td]) hb1 hb2 hu λj h1 h2=>by
    match j,h1,h2 with
    | 0,_,_=>exact jt x1 ta x2 tc
    | 1,_,_=>exact jt y1 tb y2 td
    | j+2,h1,_=>exact absurd h1 (by simp)
   have er:((eh (min 2 2)).all (λj=>if j=0 then x1 == x2 else y1 == y2) && (2 == 2))=(x1 == x2 && y1 == y2):=by
    show ([0,1].all _ && true)=_
    simp
   rw [er] at rc;refine Me (Md (SeqAt.EqAt.of_refs eb rc _ _ _ _ ?_))
   by_cases c1:x1=x2/\y1=y2
   .rw [show (x1 == x2 && y1 == y2)=true by simp [c1]];refine Me (kat_nil ?_);rw [c1.1,c1.2,vj] at h;exact h
   .rw [show (x1 == x2 && y1 == y2)=false by
     cases q:(x1 == x2 && y1 == y2) with
     | false=>rfl
     | true=>simp at q;exact absurd q c1]
    refine kat_no (kat_one _ _ (HT.PH hb1 hb2 (.cons _ _ (.cons _ _ .nil)) (.cons _ _ (.cons _ _ .nil)) hu ?_));rw [SG] at h;exact h
 .rw [if_neg e] at h;rw [show (w1 == w2)=false by simpa using e];exact kat_no (oneLt_int h)
end
section
variable {P:bQ}{env:zB}{h:cI}{H:Hp}
theorem WW {x y:aY}{b d cl:ai}{wt:Int}{tk:Nat}{p1 p2 p3 p4 p5:vQ}{x1} {Q:au->aC->Prop}(fh:tq P w H h) (hk:env.scope.kind=.function) (hx:env.scope.names.lookup x=some .local) (hy:env.scope.names.lookup y=some .free) (hn:h.Ns env.locals (λz=>c9 z [(x,aH b)]))
  (hcl:env.cells.lookup y=some cl) (hcv:h.IsCell cl (some (.ref d))) {VH:List (List jz×V)}{k:List jz}(hd:H d=some (.dT VH)) (hb:H b=some (.tup (k.map kV))) (hv:lS VH k=some (.int wt)) (hu:A.units+64<i8)
  (q:∀ t tk',Q (.ref h.objs.size) { s with heap:=h.push (bE "tuple" #[.int wt t,.ref b] 0),toks:=tk' })
  (hdx:(x == ("__debug__":aY))=false:=by decide) (hdy:(y == ("__debug__":aY))=false:=by decide) (hdc:(y == ("__classdict__":aY))=false:=by decide) :
  aQ (a7 P w) A (fw (.Tuple [.Subscript (.Name y p1) (.Name x p2) p3,.Name x p4] x1 p5) env) Q E { s with heap:=h,toks:=tk }:=by
 have lx:c9 x [(x,aH b)]=some (aH b):=by rw [cS,beq_self_eq_true]
 refine wpAny_Tuple_spliced (mq (Vi (zE (wpAny_loadName_free hk hy hcl (v:=.ref d) hcv ?_ hdc) hdy)));refine zE (qM hk hx hn (v:=.ref b) lx ?_) hdx;obtain ⟨z,hm,xs,rel,dd⟩:=Ip fh (.inl hd);obtain ⟨w',hw,rw'⟩:=uX.some_of (v:=V.int wt) (o:=(LY xs k).map (·.2)) (by rw [← hv];exact rel.val k);obtain ⟨t,rfl⟩:=rw';obtain ⟨p,hp,hp2⟩:=fT.mp hw
 have ty:({ s with heap:=h,toks:=tk }:aC).TypeIs (.ref d) "dict":=by
  obtain ⟨o,es,ep,e1,e2,_⟩:=dd;exact ⟨o,e1,e2.1⟩
 refine tail_any ty Jj.lookup (wpAny_getItem_heap (kI (by lia)) (ua fh hb) dd hp ?_) rfl;rw [hp2];refine mq (zE (qM hk hx hn (v:=.ref b) lx (rG ⟨?_,q t _⟩)) hdx);exact eS (m:=2) (aB 2)
end
def SH (own:List (ai×iW)) (zs:List Zn) (ks:List ai):Prop:=Paired (λ(z:Zn) (k:ai)=>∃ t,(k,yo z t)∈own) zs ks
theorem Bj {α β:Type} {R:α->β->Prop}{a:α}{b:β}(r:R a b):∀ {xs:List α}{ys:List β},Paired R xs ys->Paired R (xs++[a]) (ys++[b])
 | _,_,.nil=>.cons r .nil
 | _,_,.cons h t=>.cons h (Bj r t)
theorem D7 {α β:Type} {R:α->β->Prop}:∀ {xs:List α}{ys:List β},Paired R xs ys->ys.length=xs.length
 | _,_,.nil=>rfl
 | _,_,.cons _ t=>by simp [D7 t]
theorem Qc {α β:Type} {R:α->β->Prop}{xs:List α}{ys:List β}(p:Paired R xs ys):∀ (i:Nat) (a:α),xs[i]?=some a->∃ b,ys[i]?=some b/\R a b:=by
 induction p with
 | nil=>intro i a h;simp at h
 | cons r _ ih =>
  intro i a h
  cases i with
  | zero=>simp at h;subst h;exact ⟨_,rfl,r⟩
  | succ i=>simpa using ih i a (by simpa using h)
section
variable {L a kS:ai}{Fin:List au->Nat->aC->Prop}
theorem abq (turn:∀ z∈zs,∀ (h:cI) (tk:Nat) (own:List (ai×iW)),Fr h₀ L h m->zD h₀ L h (news++own)->∀ Q:au->aC->Prop,
   (∀ h' tk' t k,(∀ b o,h.get? b=some o->h'.get? b=some o)->h.get? k=none->h'.get? k=some (yo z t)->Q (.ref k) { s with heap:=h',toks:=tk' })->aQ (a7 prog w) A (call f [.ref z.2]) Q (λ_ _=>False) { s with heap:=h,toks:=tk })
  (hak:a≠kS):∀ (r done:List Zn) (ks:List ai) (own:List (ai×iW)) (e:Nat) (h:cI) (tk:Nat),Fr h₀ L h m->zD h₀ L h ((kS,bE "list" (ks.map aH).toArray e)::(a,bE "list" #[] e1)::(own++news))->(∀ q∈own++news,q.1≠kS)->SH own done ks->(∀ z∈r,z∈zs) ->
   (∀ own' ks' e' h' tk',Fr h₀ L h' m->zD h₀ L h' ((kS,bE "list" (ks'.map aH).toArray e')::(a,bE "list" #[] e1)::(own'++news))->(∀ q∈own'++news,q.1≠kS)->SH own' (done++r) ks'->Fin (ks'.map aH) e' { s with heap:=h',toks:=tk' }) ->
   KatKeys prog w A h₀ L m kS f Fin (r.map λz=>aH z.2) (ks.map aH) e { s with heap:=h,toks:=tk }
 | [],done,ks,own,e,h,tk,F,N,hk,rel,hr,fin=>KatKeys.nil (fin own ks e h tk F N hk (by rw [mr];exact rel))
 | z::r,done,ks,own,e,h,tk,F,N,hk,rel,hr,fin=>by
  have nk:=N _ ah;refine KatKeys.cons (turn z (hr z ah) h tk ((kS,bE "list" (ks.map aH).toArray e)::(a,bE "list" #[] e1)::own) F (λp hp=>N p ?_) _ λh' tk' t k keep kn hkk=>?_)
  .rcases aT.mp hp with hp|hp
   .exact ae _ (ae _ (a8 _ hp))
   .rcases aj.mp hp with hp|hp
    .exact hp▸ah
    .rcases aj.mp hp with hp|hp
     .exact hp▸ae _ ah
     .exact ae _ (ae _ (bT _ hp))
  have F':Fr h₀ L h' m:=F.kept keep;have N':=N.grown keep
  have kL:k≠L:=λq=>by
   obtain ⟨o,_,_,e,_⟩:=F.ns;rw [q,e] at kn;cases kn
  have k0:h₀.get? k=none:=by
   cases q:h₀.get? k with
   | none=>rfl
   | some o=>rw [F.keep k o q] at kn;cases kn
  have kk:k≠kS:=λq=>by rw [q,nk.1] at kn;cases kn
  have hk':∀ q∈(k,yo z t)::own++news,q.1≠kS:=λq hq=>by
   rcases aj.mp hq with rfl|hq
   .exact kk
   .exact hk q hq
  have N2:zD h₀ L h' ((kS,bE "list" (ks.map aH).toArray e)::(a,bE "list" #[] e1)::((k,yo z t)::own++news)):=λp hp=>by
   rcases aj.mp hp with rfl|hp
   .exact N' _ ah
   .rcases aj.mp hp with rfl|hp
    .exact N' _ (ae _ ah)
    .rcases aj.mp hp with rfl|hp
     .exact ⟨hkk,kL,k0⟩
     .exact N' p (ae _ (ae _ hp))
  refine KatBack.intro F' N2 (zK λq hq=>?_) λh2 c F2 N3=>?_
  .rcases aj.mp hq with rfl|hq
   .exact hak
   .exact hk' q hq
  have em:ks.map aH++[aH k]=(ks++[k]).map aH:=by simp
  rw [em] at N3 ⊢
  exact abq turn hak r (done++[z]) (ks++[k]) ((k,yo z t)::own) c h2 tk' F2 N3 hk' (Bj ⟨t,ah⟩ (Paired.Vb rel λz' k' ⟨t',ht⟩=>⟨t',ae _ ht⟩))
   (λz' hz'=>hr z' (ae _ hz')) λown' ks' e' h3 tk3 F3 N4 hk3 rel3=>fin own' ks' e' h3 tk3 F3 N4 hk3 (by rw [de] at rel3;exact rel3)
end
section
variable {L a kS:ai}{own:List (ai×iW)}{e:Nat}{ks:List ai}{Post:aC->Prop}
theorem Qd (F:Fr h₀ L s.heap m) (N:zD h₀ L s.heap ((kS,bE "list" (ks.map aH).toArray e)::(a,bE "list" #[] e1)::(own++news))) (hk:∀ q∈own++news,q.1≠kS) (hak:a≠kS) (hna:∀ q∈news,q.1≠a)
  (rel:SH own zs ks) (h2:2<=zs.length) (hu:A.units<i8) (tie:∀ z∈zs,∃ v x y t u,z.1=[v,x,y]/\tO s.heap z.2 #[.int x t,.int y u])
  (fin:∀ h' c (zs':List Zn),zs'.Perm zs->zs'.Pairwise (λz w=>iY w.1 z.1=false)->Fr h₀ L h' m->zD h₀ L h' ((a,bE "list" (zs'.map λz=>aH z.2).toArray c)::news)->Post { s with heap:=h' }) :
  aQ (a7 prog w) A (keyKind' (ks.map aH).toArray) (λκ s''=>(kas_sort (zs.map λz=>aH z.2).length).kasWp (kas_ask prog w A κ (Vy false (ks.map aH))) (λp s3=>KatFin h₀ L m kS a (ks.map aH) e e1 (Vy false (p.toList.map λi=>(Vy false (zs.map λz=>aH z.2)).getD i cG)) (λs4=>Post s4) s3) s'') (λ_ _=>False) s:=by
 have kl:=D7 rel
 have at_:∀ (z:Zn) (k:ai) (t:Tu),(k,yo z t)∈own->tO s.heap k #[.int (z.1.headD 0) t,.ref z.2]:=λz k t hm=>by
  have:=(N _ (ae _ (ae _ (bT _ hm)))).1;exact ⟨_,this,rfl,0,rfl⟩
 have kt:∀ {zs:List Zn}{ks:List ai},SH own zs ks->∃ fs,KatTups s.heap (ks.map aH) fs/\fs.length=zs.length/\∀ v∈fs,∃ i t,v=gX i t:=by
  intro zs ks rel
  induction rel with
  | nil=>exact ⟨[],.nil,rfl,λ_ h=>nomatch h⟩
  | cons r _ ih =>
   obtain ⟨fs,f1,f2,f3⟩:=ih;obtain ⟨t,ht⟩:=r;obtain ⟨o,e,c,n,d⟩:=at_ _ _ t ht;refine ⟨.int _ t::fs,KatTups.cons e c d (by rfl) f1,by simp [f2],λv hv=>?_⟩
   rcases aj.mp hv with rfl|hv
   .exact ⟨_,t,rfl⟩
   .exact f3 v hv
 obtain ⟨fs,f1,f2,f3⟩:=kt rel;refine kat_kind (T:=.type "int") f1 (by lia) (λv hv=>?_) rfl ?_
 .obtain ⟨i,t,rfl⟩:=f3 v hv;exact Looks.now
 have et:(fj "int" != fj "tuple")=true:=by decide
 rw [et,ag]
 have rv:∀ {α:Type} (l:List α),Vy false l=l:=λl=>by unfold Vy;rw [if_neg (by simp)]
 simp only [rv]
 have gz:∀ i,i<zs.length->(zs.map λz=>aH z.2).getD i cG=aH (zs.getD i ([],0)).2:=λi hi=>by simp [hi]
 have mz:∀ i,i<zs.length->zs.getD i ([],0)∈zs:=λi hi=>by
  have:zs.getD i ([],0)=zs[i]:=by simp [hi]
  rw [this];exact eN hi
 have gk:∀ i,i<zs.length->∃ k t,(ks.map aH).getD i cG=aH k/\tO s.heap k #[.int ((zs.getD i ([],0)).1.headD 0) t,.ref (zs.getD i ([],0)).2]:=λi hi=>by
  obtain ⟨k,hk1,t,ht⟩:=Qc rel i _ (by rw [ay hi])
  have:zs.getD i ([],0)=zs[i]:=by simp [hi]
  rw [this];exact ⟨k,t,by simp [hk1],at_ _ _ _ ht⟩
 refine Sx.Sat.ask (n:=zs.length) (k:=λi=>IF (zs.map (·.1)) (zs.getD i ([],0)).1) (λi j C hi hj hC=>?_) (λpr hp=>?_) (Sx.MT (by lia))
 .unfold kas_ask;obtain ⟨k1,t1,q1,i1⟩:=gk i hi;obtain ⟨k2,t2,q2,i2⟩:=gk j hj;rw [q1,q2]
  have hC':C (iY (zs.getD i ([],0)).1 (zs.getD j ([],0)).1) s:=by
   rw [D5 (bq (mz i hi))] at hC;exact hC
  obtain ⟨v1,x1,y1,ta,tb,z1,b1⟩:=tie _ (mz i hi);obtain ⟨v2,x2,y2,tc,td,z2,b2⟩:=tie _ (mz j hj);rw [z1,z2] at hC';rw [z1] at i1;rw [z2] at i2;exact aac i1 i2 b1 b2 hu hC'
 .obtain ⟨hperm,hsort⟩:=ym (d:=([],0)) (λi=>rfl) hp.1 hp.2
  have plt:∀ i∈pr.toList,i<zs.length:=λi hi=>by simpa using hp.1.mem_iff.mp hi
  have eo:(pr.toList.map λi=>(zs.map λz=>aH z.2).getD i cG)=(pr.toList.map λi=>zs.getD i ([],0)).map λz=>aH z.2:=by
   rw [bO];exact eV λi hi=>gz i (plt i hi)
  rw [eo];generalize (pr.toList.map λi=>zs.getD i ([],0))=zs' at hperm hsort;refine KatFin.intro F N (zK λq hq=>?_) λh' c F' N'=>?_
  .rcases aj.mp hq with rfl|hq
   .exact hak
   .exact hk q hq
  have N2:zD h₀ L h' ((a,bE "list" #[] e1)::news):=λp hp=>by
   rcases aj.mp hp with rfl|hp
   .exact N' _ (ae _ ah)
   .exact N' p (ae _ (ae _ (a8 _ hp)))
  exact Pj (s:={ s with heap:=h' }) F' N2 (zK λq hq=>hna q hq) λh'' c' F'' N''=>fin h'' c' zs' hperm hsort F'' N''
end
section
variable {L a:ai}{n:Nat}{vs:List au}{P:PySem.Fin->aC->Prop}
theorem UC (F:Fr h₀ L s.heap m) (N:zD h₀ L s.heap news) (ho:s.heap.get? a=some (bE "list" vs.toArray n)) (haL:a≠L) (ha0:h₀.get? a=none) (hna:∀ p∈news,p.1≠a) (h1:vs.length<2)
  (turn:∀ v∈vs,∀ (h:cI) (tk:Nat) (own:List (ai×iW)),Fr h₀ L h m->zD h₀ L h (news++own)->∀ Q:au->aC->Prop,
   (∀ h' tk' k,(∀ b o,h.get? b=some o->h'.get? b=some o)->Q k { s with heap:=h',toks:=tk' })->aQ (a7 prog w) A (call f [v]) Q (λ_ _=>False) { s with heap:=h,toks:=tk })
  (q:∀ h' tk c,Fr h₀ L h' m->zD h₀ L h' ((a,bE "list" vs.toArray c)::news)->P (.done (.ret .none)) { s with heap:=h',toks:=tk }):aQ (a7 prog w) A (ksk_tree a f false) P E s:=by
 have hz:vs.length<=aZ:=eS (m:=2) (by lia);have s1:=cB s.heap a (bH λ_=>(#[]:Array au))
 obtain ⟨e1,g1⟩:∃ c,(s.heap.update a (bH λ_=>(#[]:Array au))).get? a=some (bE "list" #[] c):=⟨_,rE ho λ_=>#[]⟩
 have F1:Fr h₀ L (s.heap.update a (bH λ_=>(#[]:Array au))) m:=ksk_fr F s1 haL ha0;have N1:=ksk_news N s1 hna;unfold ksk_tree;refine af (zH ho rfl (af (vV ho rfl (af (seqEpoch_at g1 rfl (af (C2 (af (vU (cU ?_) (bC _))) hz)))) (by rw [bc];exact hz) (bC _))));have k2:∀ b o,(s.heap.update a (bH λ_=>(#[]:Array au))).get? b=some o->(((s.heap.update a (bH λ_=>(#[]:Array au))).push (bE "tuple" vs.toArray 0)).push (bE "list" #[] 0)).get? b=some o:=λb o e=>ax _ (ax _ e);have gk:(((s.heap.update a (bH λ_=>(#[]:Array au))).push (bE "tuple" vs.toArray 0)).push (bE "list" #[] 0)).get? ((s.heap.update a (bH λ_=>(#[]:Array au))).push (bE "tuple" vs.toArray 0)).objs.size=some (bE "list" #[] 0):=aP _ rfl;have kfr:∀ b o,(s.heap.update a (bH λ_=>(#[]:Array au))).get? b=some o->b≠((s.heap.update a (bH λ_=>(#[]:Array au))).push (bE "tuple" vs.toArray 0)).objs.size:=λb o e=>a6 (aO (ax (bE "tuple" vs.toArray 0) e))
 show aQ (a7 prog w) A (ksk_rest a f false vs.toArray _ (.ref ((s.heap.update a (bH λ_=>(#[]:Array au))).push (bE "tuple" vs.toArray 0)).objs.size)) _ _ { s with heap:=((s.heap.update a (bH λ_=>(#[]:Array au))).push (bE "tuple" vs.toArray 0)).push (bE "list" #[] 0) }
 generalize ((s.heap.update a (bH λ_=>(#[]:Array au))).push (bE "tuple" vs.toArray 0)).objs.size=kS at gk kfr;generalize ((s.heap.update a (bH λ_=>(#[]:Array au))).push (bE "tuple" vs.toArray 0)).push (bE "list" #[] 0)=h2 at k2 gk;have hak:a≠kS:=kfr a _ g1;have hnk:∀ p∈news,p.1≠kS:=λp hp=>kfr _ _ (N1 p hp).1
 have kL:kS≠L:=λz=>by
  obtain ⟨o,_,_,e,_⟩:=F1.ns;exact kfr _ _ e z.symm
 have k0:h₀.get? kS=none:=by
  cases z:h₀.get? kS with
  | none=>rfl
  | some o=>exact absurd rfl (kfr _ _ (F1.keep kS o z))
 have F2:=F1.kept k2
 have N2:zD h₀ L h2 ((kS,bE "list" #[] 0)::(a,bE "list" #[] e1)::news):=λp hp=>by
  rcases aj.mp hp with rfl|hp
  .exact ⟨gk,kL,k0⟩
  .rcases aj.mp hp with rfl|hp
   .exact ⟨k2 _ _ g1,haL,ha0⟩
   .exact (N1.grown k2) p hp
 have end_:∀ (ks:List au) (e:Nat) (h:cI) (tk:Nat),ks.length=vs.length->Fr h₀ L h m->zD h₀ L h ((kS,bE "list" ks.toArray e)::(a,bE "list" #[] e1)::news)->aQ (a7 prog w) A (ksk_end a false vs.toArray e1 (.ref kS) ks.toArray) P E { s with heap:=h,toks:=tk }:=by
  intro ks e h tk hl F3 N3
  have hn2:vs.toArray.size<2:=by rw [bc];exact h1
  unfold ksk_end;simp only [cg,if_false];rw [if_pos hn2,if_pos hn2];refine af (aw ?_);rw [aaU];refine af (aw ?_);dsimp only;refine kat_tail (h₀:=h₀) (L:=L) (m:=m) (e:=e) (ks:=ks) (out:=vs) ?_ (by lia) (by lia) rfl ?_
  .show (ks.toArray.zip vs.toArray).map (·.2)=vs.toArray
   apply Gi.mp
   simp;exact abV (by lia)
  .have rv:Vy false vs=vs:=by unfold Vy;rw [if_neg (by simp)]
   rw [rv];refine KatFin.intro F3 N3 (zK λq hq=>?_) λh' c F' N'=>?_
   .rcases aj.mp hq with rfl|hq
    .exact hak
    .exact hnk q hq
   .exact Pj (s:={ s with heap:=h',toks:=tk }) F' (λp hp=>N' p (ae _ hp)) (zK λq hq=>hna q hq) λh'' c' F'' N''=>q h'' tk c' F'' N''
 unfold ksk_rest;refine af (tQ ?_)
 match vs,h1,turn,end_ with
 | [],_,_,end_ =>
  refine af ?_;simp only [Zi,xY]
  refine aw (af (zH gk rfl (end_ [] 0 h2 _ rfl F2 N2)))
 | [v],_,turn,end_ =>
  refine af ?_;simp only [Zi,vS,xY];refine af (af (jK (fk (turn v ah h2 _ ((kS,bE "list" #[] 0)::(a,bE "list" #[] e1)::[]) F2 (λp hp=>N2 p ?_) _ λh3 tk3 k keep=>?_) (λ_ _ z=>z) λ_ _ z=>z.elim)))
  .rcases aT.mp hp with hp|hp
   .exact ae _ (ae _ hp)
   .rcases aj.mp hp with rfl|hp
    .exact ah
    .rw [aA.mp hp];exact ae _ ah
  have g3:=keep _ _ gk;have s3:=cB h3 kS (bH (·.push k))
  obtain ⟨c3,g4⟩:∃ c,(h3.update kS (bH (·.push k))).get? kS=some (bE "list" (List.toArray [k]) c):=⟨_,rE g3 (·.push k)⟩
  dsimp only;refine af (vV g3 rfl (aw ?_) (bC _) (jM (bC _)));dsimp only;refine aw (af (zH g4 rfl (end_ [k] c3 _ tk3 rfl (ksk_fr (F2.kept keep) s3 kL k0) λp hp=>?_)))
  rcases aj.mp hp with rfl|hp
  .exact ⟨g4,kL,k0⟩
  .have:=(N2.grown keep) p (ae _ hp)
   exact ⟨(s3.2 p.1 (by
    rcases aj.mp hp with rfl|hp
    .exact hak
    .exact hnk p hp)).trans this.1,this.2⟩
 | _::_::_,h,_,_=>exact absurd h (by simp)
end
section
variable {X:Cx}{c Pt:ai}{e:Expr}{tx:TA}{x y:aY}{j:Nat}{params:xO}{scope:tL}{p0 p1 p2 p3 p4 p5 lpos kpos pos:vQ}{x1:Nat}
end
end L2
namespace L2
open PySem.Calls
theorem iu.YR {k:Nat}{A:eD}(r:iu k A):A.units+128<i8:=by have:=r.un;lia
section
variable {X:Cx}{CX:Mj}{k:Nat}{B:ai}{x:aY}{ps:List aY}{sp:Sp}{o e:Expr}{es:List Expr}{t:TA}{E:XK}{apos pos:vQ}
end
section
variable {X:Cx}{x:Expr}{t:TA}{p1 p2 q1 q2:vQ}
end
end L2
namespace L2
open PySem.Calls
open PySem.W (tabObj CodeHd noTabs tabIn)
variable {Ps:List (ai×ai)}{x:aY}
theorem UD {P:bQ}{w:cK}{K:aa}{mg mb:aY->Option au}{k:Nat}{fa a:ai}{fd:gA}{sp:Sp}{s₁:aC} {vs:List au}{ns:List Int}
  (KX:K.In s₁.heap) (hns:s₁.heap.Ns br mg) (hb:s₁.heap.Ns builtinsNs mb) (hbb:∀ x:aY,x≠"__name__"->mb x=dI x) (hlim:s₁.heap.NoLimit) (hg:s₁.gens=#[])
  (C:∀ p∈Ps,oI s₁.heap p.1 p.2) (hPt0:∀ p∈Ps,s₁.heap.get? p.2=some (O2 #[])) (Bm:∀ p∈Ps,s₁.heap.BuiltinsAt mg p.2) (hnt:noTabs K=true)
  (ha:s₁.heap.get? a=some { cls:=.type "list",data:=.seq vs.toArray }) (hi:gC vs ns) (hl:ns.length<=aZ) (hr:iu k LZ)
  (F:∀ base:cI,K.In base->base.Ns br mg->(∀ p∈Ps,oI base p.1 p.2/\base.BuiltinsAt mg p.2)->dC P w K mg base eW k fa fd [x] sp) (hbind:∀ (s:aC) (u:au),LS s fd ⟨[u],[]⟩ [(x,u)])
  (hsp:∀ H:Hp,(∀ p∈Ps,H p.2=some (.tbl #[]))->cW K H a (ns.map V.int)->sp [.ref a] H (λv _=>v=.bl true) λ_ _ _=>False)
  (hCX:∀ H e s',eW [] H s₁ (λ_ _ _=>False) e s'->False) :
  mn (a7 P w) LZ (.call (.ref fa) ⟨[.ref a],[]⟩) (λr s'=>r=.ok (.ret (.bool true))/\OldK s₁.heap s'.heap/\s'.os=s₁.os/\vw s'.gens) s₁:=by
 have rv:=z6 hi;have lenV:=hi.length
 have hPt:∀ b,b∈Ps.map (·.2)->s₁.heap.get? b=some (O2 #[]):=λb hb=>by
  obtain ⟨p,hp,rfl⟩:=bS.mp hb;exact hPt0 p hp
 have naP:a∉Ps.map (·.2):=λz=>by rw [hPt a z] at ha;cases ha
 have KPt:∀ b,b∈Ps.map (·.2)->K.lookup b=none:=λb hb=>by
  cases q:K.lookup b with
  | none=>rfl
  | some o =>
   have e:=KX b o q;rw [hPt b hb] at e;cases e;have h2:=om.mp hnt (b,O2 #[]) (PySem.W.mem_of_lookupK q);exact absurd (show false=true from h2) bG
 have core:∀ H:Hp,(∀ b,b∈Ps.map (·.2)->H b=some (.tbl #[]))->(∀ b,b∉Ps.map (·.2)->H b=none\/∃ o xs,H b=some (.frz o (.lst xs)))->cW K H a (ns.map V.int)->tq P w H s₁.heap->(∀ b,b∉Ps.map (·.2)->H b≠none->b=a)->(H a≠none->K.lookup a=none) ->
   mn (a7 P w) LZ (.call (.ref fa) ⟨[.ref a],[]⟩) (λr s'=>r=.ok (.ret (.bool true))/\OldK s₁.heap s'.heap/\s'.os=s₁.os/\vw s'.gens) s₁:=by
  intro H hT hO hS fh hA hK;have base_of:∀ {b:ai}{o:iW},s₁.heap.get? b=some o->H b=none->(Ds s₁.heap H).get? b=some o:=λe n=>VQ e n
  have noA:∀ {b:ai}{o:iW},s₁.heap.get? b=some o->o.cls≠.type "list"->b∉Ps.map (·.2)->H b=none:=λ{b o} e d hbP=>by
   cases q:H b with
   | none=>rfl
   | some u =>
    have e':b=a:=hA b hbP (by rw [q];simp);subst e';rw [ha] at e;cases e;exact absurd rfl d
  have noD:∀ {b:ai}{o:iW}{es:Array DictEntry}{ep:Nat},s₁.heap.get? b=some o->o.data=.dict es ep->H b=none:=λ{b o es ep} e d=>by
   have hbP:b∉Ps.map (·.2):=λz=>by rw [hPt b z] at e;cases e;cases d
   cases q:H b with
   | none=>rfl
   | some u =>
    have e':b=a:=hA b hbP (by rw [q];simp);subst e';rw [ha] at e;cases e;have d':Data.seq vs.toArray _=Data.dict es ep:=d;cases d'
  have nsK:∀ {b:ai}{m:aY->Option au},s₁.heap.Ns b m->(Ds s₁.heap H).Ns b m:=λ{b m} ⟨o,es,ep,e,d,r⟩=>⟨o,es,ep,base_of e (noD e d),d,r⟩
  have hKb:K.In (Ds s₁.heap H):=λb o e=>base_of (KX b o e) (by
   have hbP:b∉Ps.map (·.2):=λz=>by rw [KPt b z] at e;cases e
   cases q:H b with
   | none=>rfl
   | some u =>
    have e':b=a:=hA b hbP (by rw [q];simp);subst e'
    rw [hK (by rw [q];simp)] at e;cases e)
  have hM:Mod K mg (Ds s₁.heap H):=⟨hKb,nsK hns,⟨mb,nsK hb,hbb⟩,let ⟨mc,h1,h2⟩:=hlim;⟨mc,nsK h1,h2⟩⟩
  have notab:∀ {b:ai}{o:iW},s₁.heap.get? b=some o->o.cls≠.none->b∉Ps.map (·.2):=λ{b o} e d z=>by rw [hPt b z] at e;cases e;exact d rfl
  have hCB:∀ p∈Ps,oI (Ds s₁.heap H) p.1 p.2/\(Ds s₁.heap H).BuiltinsAt mg p.2:=λp hp=>by
   refine ⟨?_,?_⟩
   .obtain ⟨o,vs',file,tf,flags,tg,inF,text,tt,e1,r1,r2,r3,r4,r5,r6,r7,r8,hne⟩:=C p hp;exact ⟨o,vs',file,tf,flags,tg,inF,text,tt,base_of e1 (noA e1 (by rw [r1];decide) (notab e1 (by rw [r1];decide))),r1,r2,r3,r4,r5,r6,r7,r8,hne⟩
   .obtain ⟨bm,o,b1,b2,b3,b4,b5,b6,b7⟩:=Bm p hp;exact ⟨bm,o,b1,b2,b3,b4,base_of b5 (noA b5 (by rw [b6];decide) (notab b5 (by rw [b6];decide))),b6,b7⟩
  have e0:RY P w K mg (Ds s₁.heap H) LZ [] s₁ H:=⟨rfl,hM,λb o e=>Zk e,Gg (TL _ _),trivial,λb hb=>absurd (show b∈([]:List ai) from hb) (by simp),fh,.of_eq hg⟩
  refine mv ((F _ hKb (nsK hns) hCB).run LZ [] s₁ H ⟨[.ref a],[]⟩ [.ref a] [.ref a] _ _ hr e0 (hbind s₁ (.ref a)) (.cons rfl .nil) (hsp H (λp hp=>hT p.2 (bq hp)) hS)) λr s' h=>?_
  cases r with
  | error e=>exact (hCX H e s' h).elim
  | ok fl =>
   cases fl with
   | next=>exact eU h
   | brk=>exact eU h
   | cont=>exact eU h
   | ret u =>
    obtain ⟨v,H',os,bare,un,hok',r',q⟩:=h;have q':v=.bl true:=q;subst q';obtain rfl:u=uZ true:=r'
    have keep:∀ b o,b∉Ps.map (·.2)->s₁.heap.get? b=some o->s'.heap.get? b=some o:=λb o hbP e=>by
     cases q:H b with
     | none=>exact un.keep b o e q (by intro z;exact absurd (show b∈([]:List ai) from z) (by simp)) (by simp)
     | some u =>
      rcases hO b hbP with z|⟨ob,xs,z⟩
      .rw [q] at z;cases z
      .have z2:=un.xM b ob _ z;obtain ⟨e1,_⟩:=fh b _ z;obtain ⟨e2,_⟩:=hok' b _ z2;rw [e] at e1;cases e1;exact e2
    have hmore:∀ b,b∈Ps.map (·.2)->∃ more,s'.heap.get? b=some (O2 (#[]++more)):=λb hb=>by
     obtain ⟨more,hm⟩:=un.xH b _ (hT b hb);exact ⟨more,hok' b _ hm⟩
    refine ⟨rfl,⟨λb o e=>?_,λb o e=>?_⟩,os,bare⟩
    .by_cases hbP:b∈Ps.map (·.2)
     .obtain ⟨more,hP'⟩:=hmore b hbP;obtain ⟨p,hp,rfl⟩:=bS.mp hbP;rw [hPt0 p hp] at e;cases e;exact .inr (.inl ⟨((C p hp).tab (hPt0 p hp)).isCodeTable,rfl,#[],more,rfl,hP'⟩)
     .exact .inl (keep b o hbP e)
    .by_cases hbP:b∈Ps.map (·.2)
     .obtain ⟨more,hP'⟩:=hmore b hbP;exact ⟨_,hP'⟩
     .exact ⟨o,keep b o hbP e⟩
 cases hk:K.lookup a with
 | some o =>
  have e:=KX a o hk;rw [ha] at e;cases e;refine core (λb=>if b∈Ps.map (·.2) then some (.tbl #[]) else none) (λb hb=>if_pos hb) (λb hb=>.inl (if_neg hb)) (.inr ⟨_,vs.toArray,_,hk,rfl,rfl,rfl,by rw [bc,lenV];exact hl,by simpa using rv⟩) (λb u z=>?_) (λb hb z=>absurd (if_neg hb) z) λz=>absurd (if_neg naP) z
  by_cases hb:b∈Ps.map (·.2)
  .have z':=(if_pos hb).symm.trans z;cases z';exact hPt b hb
  .have z':=(if_neg hb).symm.trans z
   cases z'
 | none =>
  refine core (λb=>if b∈Ps.map (·.2) then some (.tbl #[]) else if b=a then some (.frz { cls:=.type "list",data:=.seq vs.toArray } (.lst (ns.map V.int))) else none) (λb hb=>if_pos hb) (λb hb=>?_) (.inl (.inr ⟨{ cls:=.type "list",data:=.seq vs.toArray },(if_neg naP).trans (if_pos rfl)⟩)) (λb u z=>?_) (λb hb z=>?_) λ_=>hk
  .by_cases hba:b=a
   .exact .inr ⟨_,_,(if_neg hb).trans (if_pos hba)⟩
   .exact .inl ((if_neg hb).trans (if_neg hba))
  .by_cases hb:b∈Ps.map (·.2)
   .have z':=(if_pos hb).symm.trans z;cases z';exact hPt b hb
   .have z0:=(if_neg hb).symm.trans z
    by_cases hba:b=a
    .have z':=(if_pos hba).symm.trans z0;cases z';subst hba;exact ⟨ha,by rw [ag];exact hl,vs,_,rv,ha⟩
    .have z':=(if_neg hba).symm.trans z0;cases z'
  .by_cases hba:b=a
   .exact hba
   .exact absurd ((if_neg hb).trans (if_neg hba)) z
theorem WX {l:tw}{n k:Nat}{q:bQ}{loose:List aY}{XP:(aY->Option au)->cI->Prop}{YP:cK->cI->Prop}{d:DefRec}{K:Params->aa}{sp:cK->Sp}
  (hn:l.most=some n) (hn2:n<=aZ) (hdf:d.params.defaults=[]) (hr:iu k LZ)
  (hY:∀ (w:cK) (h:cI),YP w h->(K w.params).In h)
  (htab:∀ p∈Ps,∃ (y:aY) (dy:DefRec),(recsOf q).find? (λe=>e.name == y)=some dy/\∀ w:cK,tabIn (K w.params) y=some p) (hnt:∀ w:cK,noTabs (K w.params)=true)
  (F:∀ (w:cK) (mg:aY->Option au) (fa:ai) (h:cI),(K w.params).In h->h.Ns br mg->mg d.name=some (.ref fa) ->
   ∃ fd:gA,(∀ (s:aC) (u:au),LS s fd ⟨[u],[]⟩ [(x,u)]) /\
    ∀ base:cI,(K w.params).In base->base.Ns br mg->(∀ p∈Ps,oI base p.1 p.2/\base.BuiltinsAt mg p.2)->dC l.prog w (K w.params) mg base eW k fa fd [x] (sp w))
  (hsp:∀ (w:cK) (H:Hp) (a:ai) (ns:List Int),ns.length<=n->(∀ p∈Ps,H p.2=some (.tbl #[]))->cW (K w.params) H a (ns.map V.int)->sp w [.ref a] H (λv _=>v=.bl true) λ_ _ _=>False)
  (hCX:∀ (H:Hp) (s:aC) (e:au) (s':aC),eW [] H s (λ_ _ _=>False) e s'->False) :
  YV q loose XP YP l.row.toRowW d [] (λf vs=>YW f vs):=by
 refine Att.MK hn hdf λw s₀ s₁ mg mb fa o pm cd doc a vs ns G Y ho hd hcd hmg hobj hints hlen hg=>?_;have KX:=hY w _ Y;obtain ⟨fd,hb,hF⟩:=F w mg fa _ KX G.T.g hmg
 have hC:∀ p∈Ps,oI s₁.heap p.1 p.2/\s₁.heap.get? p.2=some (O2 #[]):=λp hp=>by
  obtain ⟨y,dy,h1,h2⟩:=htab p hp;exact PySem.W.tab_of G.T KX h1 (h2 w)
 have hgs:=G.T.g;obtain ⟨bm,ob,b1,b2,b3,b4,b5,b6⟩:=G.T.bmain
 have hbG:bm≠br:=λq=>by
  obtain ⟨o,es,ep,e,hd,_⟩:=hgs;rw [q,e] at b3;cases b3;rw [hd] at b6;cases b6
 refine UD KX G.T.g G.T.b G.T.builtins G.T.nolimit hg (λp hp=>(hC p hp).1) (λp hp=>(hC p hp).2) (λp hp=>⟨bm,ob,b1,b2,hbG,λq=>?_,b3,b4,b5,b6⟩) (hnt w) hobj hints (a9 hlen hn2) hr hF hb (λH hT hS=>hsp w H a ns hlen hT hS) λH e s'=>hCX H s₁ e s';have:=(hC p hp).2;rw [← q,b3] at this;cases this;cases b4
end L2
namespace L2
def WY (K:aa):List V->Hp->VK->Prop:=λxs H Q=>∃ (p:ai) (ns:List Int),xs=[.ref p]/\cW K H p (ns.map V.int)/\Q (.int ns.sum) H
theorem IG {X:Cx}(hc:X.calm=true):lM X (.builtin "sum") (WY X.K):=by
 intro pins s Z H xs us Q I r h;obtain ⟨p,ns,rfl,hq,q⟩:=h;obtain ⟨u,rfl,ru⟩:=vals1 r;cases ru;obtain ⟨its,rv,pl,hz⟩:=I.list hq;have hi:gC its ns:=intsAre_of rv;obtain ⟨ys,e⟩:=hi.allInts.items;have hn:=hi.numsOf
 have e':its=(intItems ys).toList:=by rw [← e]
 rw [e',nums_intItems] at hn
 have hl:s.heap.IsList p (intItems ys):=by rw [← e];exact pl.isList
 subst hn
 refine sum_intListG (I.ok.hd hc) hl λh' tk t' hk=>⟨.int _,H,I.kept hk,⟨t',?_⟩,q⟩
 rw [preSum_eq,bV (by simp)]
end L2
namespace L2
open PySem.W
section
variable {X:Cx}{a:Expr}{ta:TE}
end
end L2
namespace L2
open PySem.Calls PySem.W
def Qe (Pt:ai) (pos:vQ) (qual:aY) (j:Nat) (tx:TA):TE:=λZ H Q=>tx Z H λv H1 =>
 ∃ (p d:ai) (zs:List Zn) (VH:List (List jz×V)),v=[.ref p]/\H1 p=some (.lst (zs.map tI))/\Z[j]?=some (some (.ref d))/\H1 d=some (.dT VH)/\(∀ z∈zs,∃ w x y:Int,z.1=[w,x,y]/\H1 z.2=some (.tup [.int x,.int y])/\lS VH [fi x,fi y]=some (.int w))/\zs.length<64/\R3 Pt pos qual H1 /\
  ∀ (l:ai) (zs':List Zn) (H2:Hp),H2 l=none->MP Pt H1 H2->R3 Pt pos qual H2->zs'.Perm zs->zs'.Pairwise (λz w=>iY w.1 z.1=false)->Q (.ref l) (upd H2 l (.lst (zs'.map tI)))
theorem M7 {prog:bQ}{w:cK}{A:eD}{E:au->aC->Prop}{s:aC}{l:ai}{vs:List au}{Q:List au->aC->Prop}(hl:s.heap.IsList l vs.toArray) (hn:vs.length<=aZ)
  (q:∀ h' tk,(∀ b o,s.heap.get? b=some o->h'.get? b=some o)->Q vs { s with heap:=h',toks:=tk }):aQ (a7 prog w) A (collect (.ref l)) Q E s:=by
 refine collect_list hl (q _ _ λb o e=>?_) (by simpa using hn);have hlt:b<s.heap.objs.size:=aO e;rw [Heap.get?_update_ne _ _ _ _ (a6 hlt),Heap.get?_push_ne _ _ _ (a6 hlt)];exact e
section
variable {X:Cx}{c Pt:ai}{e:Expr}{tx:TA}{x y:aY}{j:Nat}{params:xO}{scope:tL}{p0 p1 p2 p3 p4 p5 lpos kpos pos:vQ}{x1:Nat}
theorem WZ (hcalm:X.calm=true) (hcode:X.env.code=.ref c) (C0:oI X.base c Pt) (B:X.base.BuiltinsAt X.mg Pt) (hroom:X.A.depth<CY) (hun:X.A.units+128<i8)
  (hgl:Gl X "sorted") (hm:X.mg "sorted"=none) (hx:PA X [e] tx) (hN:X.N[j]?=some y) (hky:X.env.kindOf y=some .cell)
  (hs:iC pos (bA [e] X.env)=(false,fw e X.env)::iC pos (bA [] X.env):=by rfl) (hpl:(iC pos (bA [e] X.env)).any (·.1)=false:=by rfl)
  (hdef:defaultsOf params X.env=([],[]):=by rfl)
  (hbind:∀ clos pm mM ctv v,LU (kla_fn "<lambda>" (X.env.qual++"<lambda>") params (.Tuple [.Subscript (.Name y p1) (.Name x p2) p3,.Name x p4] x1 p5) scope clos pm mM ctv) ⟨[v],[]⟩=pure [(x,v)]:=by intros;rfl)
  (hsx:scope.names.lookup x=some .local:=by rfl) (hsy:scope.names.lookup y=some .free:=by rfl) (hk:scope.kind=.function:=by rfl) (hco:scope.isCoroutine=false:=by rfl) (hgen:scope.isGenerator=false:=by rfl) (hcell:∀ z∈scope.names,z.2≠.cell:=by decide +kernel)
  (hfr:(scope.names.all λy=>y.2 != .free || X.env.kindOf y.1 == some .cell || X.env.kindOf y.1 == some .free)=true:=by rfl)
  (hdx:(x == ("__debug__":aY))=false:=by decide) (hdy:(y == ("__debug__":aY))=false:=by decide) (hdc:(y == ("__classdict__":aY))=false:=by decide) :
  PE X (.Call (.Name "sorted" p0) [e] [⟨some "key",.Lambda params (.Tuple [.Subscript (.Name y p1) (.Name x p2) p3,.Name x p4] x1 p5) scope lpos,kpos⟩] pos) (Qe Pt lpos (X.env.qual++"<lambda>") j tx):=by
 intro pins s Z H Q I h;refine dU (rJ I hgl hm (u:=.builtin "sorted") BootT.JH ?_);refine callWith_kw ?_ hs hpl;refine gN (hx pos pins s Z H _ I h) λus s1 ⟨vs,H1,I1,rv,q⟩=>?_;obtain ⟨p,d,zs,VH,rfl,hp,hj,hd,hkv,h64,hT,k⟩:=q;obtain ⟨u,rfl,ru⟩:=vals1 rv;cases ru
 show aQ _ X.A (evalAll [do let v ← fw _ X.env;zF pos;pure v]) _ _ s1
 refine wpAny_evalAll_cons (af (Ws I1 hcode C0 B hdef (ye I1 hfr) hT λf c' ctv h' tk H2 I2 hf hrec S2 T2 hk2=>af (Gp (aw (wpAny_evalAll_nil ?_)))));obtain ⟨ps,hPt⟩:=hT.tbl;have hp2:=S2 p _ (λz=>by rw [z,hPt] at hp;cases hp) hp;have hd2:=S2 d _ (λz=>by rw [z,hPt] at hd;cases hd) hd
 have k2:∀ z∈zs,∃ w x y:Int,z.1=[w,x,y]/\H2 z.2=some (.tup [.int x,.int y])/\lS VH [fi x,fi y]=some (.int w):=λz hz=>by
  obtain ⟨w,x,y,e1,e2,e3⟩:=hkv z hz;exact ⟨w,x,y,e1,S2 _ _ (λz=>by rw [z,hPt] at e2;cases e2) e2,e3⟩
 obtain ⟨its,n1,rp,op,zp⟩:=I2.lst hp2;have hits:=D6 rp;subst hits;have hh:X.A.handled=none:=I2.ok.hd hcalm;obtain ⟨m,F2,N2⟩:=I2.vv;obtain ⟨my,hny,hlk⟩:=I2.loc;obtain ⟨uy,ruy,lky⟩:=hlk j y (.ref d) hN hj (.inr (.inl hky));cases ruy
 obtain ⟨cl,hcl,hcv⟩:∃ cl,X.env.cells.lookup y=some cl/\h'.IsCell cl (some (.ref d)):=by
  rcases lky with ⟨z,_⟩|⟨_,cl,h1,h2⟩
  .rw [hky] at z;cases z
  .exact ⟨cl,h1,h2⟩
 have hclo:(pW X.env.cells scope.names []).lookup y=some cl:=by
  obtain ⟨d,hd⟩:=yc (cells:=X.env.cells) (x:=y) scope.names [] (.inl (mem_of_lookup hsy));have hd':=(lF _ _ (ye I1 hfr) hd).resolve_right (by simp);rw [hcl] at hd';rw [hd,← hd']
 have kept:∀ (h:cI) (own:List (ai×iW)),Fr X.base X.env.locals h m->zD X.base X.env.locals h (lQ X.base h' X.env.locals++own)->∀ b o,b≠X.env.locals->h'.get? b=some o->h.get? b=some o:=λh own F N b o h1 e=>by
  cases q:X.base.get? b with
  | some u =>
   have:=I2.bk b u q;rw [e] at this;cases this
   exact F.keep b _ q
  | none=>exact (N (b,o) (bT _ (nG h1 q e))).1
 have fL:f≠X.env.locals:=λz=>by
  obtain ⟨o,es,ep,e,d,_⟩:=F2.ns;rw [← z] at e;rw [e] at hf;cases hf;cases d
 have cL:c'≠X.env.locals:=λz=>by
  obtain ⟨c2,o2,vs2,t2,e2,h2,d2,_⟩:=hrec;cases e2;obtain ⟨o,es,ep,e,d,_⟩:=F2.ns;rw [← z] at e;rw [e] at h2;cases h2;rw [d] at d2;cases d2
 have clL:cl≠X.env.locals:=I2.cne y cl hcl
 have un2:X.A.in1.in1.units+3+64<i8:=by show X.A.units+1+1+3+64<_;lia
 -- one key
 have turn:∀ z∈zs,∀ (h:cI) (tk':Nat) (own:List (ai×iW)),Fr X.base X.env.locals h m->zD X.base X.env.locals h (lQ X.base h' X.env.locals++own)->∀ R:au->aC->Prop,
   (∀ h3 tk3 t k,(∀ b o,h.get? b=some o->h3.get? b=some o)->h.get? k=none->h3.get? k=some (yo z t)->R (.ref k) { s1 with heap:=h3,toks:=tk3 })->aQ (a7 X.prog X.w) X.A.in1.in1 (call (.ref f) [.ref z.2]) R (λ_ _=>False) { s1 with heap:=h,toks:=tk' }:=by
  intro z hz h tk' own F N R hR;obtain ⟨ww,xx,yy,ez,hzt,hzw⟩:=k2 z hz;have kk:=kept h own F N;have J:Inv X pins Z H2 { s1 with heap:=h,toks:=tk' }:=I2.news (s:={ s1 with heap:=h',toks:=tk }) F2.ns F λp hp=>N p (bT _ hp);refine UB (s:={ s1 with heap:=h,toks:=tk' }) (by exact hroom) (kk f _ fL hf) ?_ (I2.mod.nolimit.keeps F.keep) (hbind _ _ _ _ _) hsx hk hco hgen hcell λenv h3 tk3 E' q1 q2 q3 hns hk3=>?_
  .obtain ⟨c2,o2,vs2,t2',e2,h2,d2⟩:=hrec;cases e2;exact ⟨c',o2,vs2,t2',rfl,kk _ _ cL h2,d2⟩
  .refine WW (s:={ s1 with heap:=h,toks:=tk' }) (H:=H2) (d:=d) (cl:=cl) (k:=[fi xx,fi yy]) (J.fh.kept hk3) (by rw [q1];exact hk) (by rw [q1];exact hsx) (by rw [q1];exact hsy) hns (by rw [q2];exact hclo) ?_ hd2 hzt hzw un2 (λt tk4=>?_) hdx hdy hdc
   .obtain ⟨o,e,d⟩:=hcv;exact ⟨o,hk3 _ _ (kk _ _ clL e),d⟩
   .refine hR _ tk4 t _ (λb o e=>ax _ (hk3 b o e)) ?_ ?_
    .cases q:h.get? h3.objs.size with
     | none=>rfl
     | some o=>exact absurd (aO (hk3 _ _ q)) (gR _)
    .have:yo z t=bE "tuple" #[.int ww t,.ref z.2] 0:=by unfold yo;rw [ez];rfl
     rw [this];exact aP _ rfl
 have hzl:(zs.map λz=>aH z.2).length<=aZ:=eS (m:=64) (by rw [ag];lia)
 -- the call
 refine call_function_entry_kw kind_sorted aaS aaT (ksk_s1 _ _) ?_;unfold kH.«sorted»;refine af (m:=checkCount "sorted" 1 1 _) (aw (af (M7 (s:={ s1 with heap:=h',toks:=tk }) ⟨_,op,rfl,n1,rfl⟩ hzl λh3 tk3 keep3=>?_)));refine af (vU ?_ hzl);have F3:=F2.kept keep3;have N3:=N2.grown keep3;have hL:X.env.locals<h3.objs.size:=F3.ns.lt;have g4:(h3.push (bE "list" (zs.map λz=>aH z.2).toArray 0)).get? h3.objs.size=some (bE "list" (zs.map λz=>aH z.2).toArray 0):=aP _ rfl;have k4:∀ b o,h3.get? b=some o->(h3.push (bE "list" (zs.map λz=>aH z.2).toArray 0)).get? b=some o:=λb o e=>ax _ e;have F4:=F3.kept k4;have N4:=N3.grown k4;have hD:∀ q∈lQ X.base h' X.env.locals,q.1<h3.objs.size:=λq hq=>aO (N3 q hq).1;have hD0:X.base.get? h3.objs.size=none:=xU (a9 F3.above (nV hL))
 show aQ (a7 X.prog X.w) X.A.in1 (do let _ ← ml [aH h3.objs.size] (call (.builtin "list.sort") [aH h3.objs.size] _);ret (aH h3.objs.size)) _ _ { s1 with heap:=h3.push (bE "list" (zs.map λz=>aH z.2).toArray 0),toks:=tk3 }
 refine af (cU (wpAny_call_entry_kw Vp ⟨_,g4,rfl⟩ R9 ?_ (ksk_l1 _ _)))
 have tie:∀ (h:cI),(∀ b o,b≠X.env.locals->h'.get? b=some o->h.get? b=some o)->∀ z∈zs,∃ v x y t u,z.1=[v,x,y]/\tO h z.2 #[.int x t,.int y u]:=λh hkp z hz=>by
  obtain ⟨ww,xx,yy,ez,hzt,hzw⟩:=k2 z hz;obtain ⟨ts,r,it,_⟩:=I2.tuple (.of hzt)
  cases r with
  | cons h1 r =>
   cases r with
   | cons h2 r =>
    cases r;obtain ⟨t,rfl⟩:=h1;obtain ⟨u,rfl⟩:=h2;obtain ⟨o,e,rest⟩:=it;refine ⟨ww,xx,yy,t,u,ez,o,hkp _ o (λw=>?_) e,rest⟩;rw [w,I2.free] at hzt;cases hzt
 have done:∀ (h'':cI) (tk'' c'':Nat) (zs':List Zn),zs'.Perm zs->zs'.Pairwise (λz w=>iY w.1 z.1=false)->Fr X.base X.env.locals h'' m->zD X.base X.env.locals h'' ((h3.objs.size,bE "list" (zs'.map λz=>aH z.2).toArray c'')::lQ X.base h' X.env.locals) ->
   EP X pins Z Q (.ref h3.objs.size) { s1 with heap:=h'',toks:=tk'' }:=λh'' tk'' c'' zs' hperm hsort F N=>by
  obtain ⟨hn,I3⟩:=I2.zA (t':=tk'') (o:=.lst (zs'.map tI)) F2.ns F N hD ⟨by rw [ag];exact eS (m:=64) (by rw [hperm.length_eq];lia),_,c'',rO zs',(N _ ah).1⟩;exact ⟨.ref h3.objs.size,_,I3,rfl,k h3.objs.size zs' H2 hn S2 T2 hperm hsort⟩
 show aQ (a7 X.prog X.w) X.A.in1.in1 (kH.«list.sort» ⟨[.ref h3.objs.size],[(av "key",.ref f)]⟩) _ _ _
 rw [ksk_t1]
 by_cases h2:2<=zs.length
 .refine kat_keyed (s:={ s1 with heap:=h3.push (bE "list" (zs.map λz=>aH z.2).toArray 0),toks:=tk3 }) F4 N4 g4 (eP hL) hD0 (λp hp=>a6 (hD p hp)) (by rw [ag];exact h2) (by rw [ag];lia) λkS e1 h5 F5 N5 l0 l1=>?_;refine abq (s:={ s1 with heap:=h3.push (bE "list" (zs.map λz=>aH z.2).toArray 0),toks:=tk3 }) (zs:=zs) (λz hz h tk' own F N R hR=>turn z hz h tk' own F N R hR) (a6 l0) zs [] [] [] 0 h5 tk3 F5 N5 (λq hq=>a6 (l1 q hq)) .nil (λz hz=>hz) λown' ks' e' h6 tk6 F6 N6 hk6 rel6=>?_;refine Qd (s:={ s1 with heap:=h6,toks:=tk6 }) F6 N6 hk6 (a6 l0) (λq hq=>a6 (hD q hq)) rel6 h2 (by lia) (tie h6 λb o hb e=>?_) λh7 c7 zs' hperm hsort F7 N7=>?_
  .refine kept h6 [] F6 (λp hp=>N6 p ?_) b o hb e;rw [mr] at hp;exact ae _ (ae _ (a8 _ hp))
  .exact ⟨_,rfl,aw ⟨_,rfl,done h7 tk6 c7 zs' hperm hsort F7 N7⟩⟩
 .refine UC (s:={ s1 with heap:=h3.push (bE "list" (zs.map λz=>aH z.2).toArray 0),toks:=tk3 }) F4 N4 g4 (eP hL) hD0 (λp hp=>a6 (hD p hp)) (by rw [ag];lia) (λv hv h tk' own F N R hR=>?_) λh7 tk7 c7 F7 N7=>?_
  .obtain ⟨z,hz,rfl⟩:=bS.mp hv;exact turn z hz h tk' own F N R λh3 tk3 t k keep _ _=>hR h3 tk3 (.ref k) keep
  .refine ⟨_,rfl,aw ⟨_,rfl,done h7 tk7 c7 zs (km _) ?_ F7 N7⟩⟩
   match zs,h2 with
   | [],_=>exact .nil
   | [z],_=>exact tV _ _
   | z::w::r,h2=>simp at h2
end
end L2
namespace Sw
section
variable {prog:bQ}{w:cK}{A:eD}{E:au->aC->Prop}{s:aC}
end
end Sw
namespace L2
open PySem.W
section
variable {X:Cx}{x:Expr}{t:TA}{p1 p2 q1 q2:vQ}
end
end L2
namespace L2
variable {C f:ai}{sp:Sp}{x:aY}{K:aa}{ta:TE}{Z:St}{H:Hp}{Q:VK}{t:TA}{fd:gA}{e:Expr}{X:Cx}{k i:Nat}{ps:List aY}{pos:vQ}
section
variable {CT:ai}{xT n:aY}{p np cpos epos hpos:vQ}{es:List Expr}{th:TS}{b₀:cH} {Jh:List cH}
end
theorem jC {f:aY}(h:ta Z H λx H1=>∃ a C dx fs v,x=.ref a/\H1 a=some (.ins C dx fs)/\Dj K C/\dN K C f/\fs.lookup f=some v/\Q v H1):df K ta f Z H Q:=h
theorem fG {m:aY}{dvs:List V}{E:XK}(h:ta Z H λx H1=>∃ a dx fs,x=.ref a/\H1 a=some (.ins C dx fs)/\fs.lookup m=none/\t Z H1 λvs H2=>sp (x::(vs++dvs)) H2 Q E):cJ C m sp dvs E ta t Z H Q:=h
section
variable {mg:aY->Option au}{q:aY}{st:cH}{CX:Mj}
def oO.jg (d:oO K mg x st ps) (P:bQ) (w:cK) (base:cI) (h:dC P w K mg base CX k d.f d.d ps sp):qX P w K mg base CX k x ps sp:=⟨d.f,d.d,h,d.m,d.F.kp,d.b⟩
def jU.jg (d:jU K C x q st ps) (P:bQ) (w:cK) (base:cI) (h:dC P w K mg base CX k d.f d.d ps sp):jf P w K mg base CX k C x ps sp:=⟨d.f,d.d,h,⟨d.a,d.i,d.F.kp⟩,d.b⟩
def jU.aaI (d:jU K C "__init__" q st ps) (P:bQ) (w:cK) (base:cI) (mk:jV K C=true) (kc:c6 K (.ref C)=true) (h:dC P w K mg base CX k d.f d.d ps sp):Qa P w K mg base CX k C ps sp:=⟨d.f,d.d,h,⟨mk,d.a,d.i,kc⟩,d.b⟩
theorem lK.oj {P:bQ}{w:cK}{base:cI}{N:List aY}{t:TS}(F:lK K x q st f fd) (S:bb N ps (aM st)) (len:∀ vs H Q E,sp vs H Q E->vs.length=ps.length) (run:∀ vs H Q E,sp vs H Q E->t { nx:=λ_ H'=>Q .non H',rt:=Q } (start N vs) H)
  (b:∀ (mM:au) (A:eD) (outer:List zB) (s:aC) (H:Hp) (E:XK),iu k (A.deeper (mI q (aM st) s.heap.objs.size f mM))->LO (mG eW P w K mg base N q (aM st) f mM A outer s H E).nox (kA st) t):dC P w K mg base eW (k+1) f fd ps sp :=
 F.ok S len λmM A outer s H vs Q E hr h=>⟨t,b mM A outer s H E hr,run vs H Q E h⟩
end
theorem jX {te:TE}{pos':vQ}(hN:X.N.Nodup) (he:PE X e te) (hi:X.N[i]?=some x:=by rfl) (hx:Loc X.env.scope x:=by exact .inl rfl) (hs:Dk e (some (.Name x pos')) pos.line X.env=pure false:=by rfl) (hf:X.fn x=true\/X.env.scope.names.lookup x=some .local:=by first|exact .inl rfl|exact .inr rfl|assumption):PS X (.Assign [.Name x pos'] e pos) (dB te (bf i)):=VW hN hi hx he hs hf
theorem gf (hN:X.N.Nodup) (hi:X.N[i]?=some x:=by rfl) (hx:Loc X.env.scope x:=by exact .inl rfl) (hf:X.fn x=true\/X.env.scope.names.lookup x=some .local:=by first|exact .inl rfl|exact .inr rfl|assumption):PG X (.Name x pos) (bf i):=Zr hN hi hx hf
end L2
namespace L2
open PySem.Calls PySem.W
end L2
namespace L2
variable {pos np hpos:vQ}{X:Cx}{ta:TE}{k:Nat}{K:aa}{e o:Expr}{f xT:aY}{es:List Expr}{mg:aY->Option au}{ps:List aY}{P:bQ}{w:cK}{base:cI}{fd:gA}{CT:ai}{tb:XK->TS}{th:TS}{b₀:cH}
theorem aeK {tg l:Expr}{tl:TE}(hl:PE X l tl) (hK:X.K=K):PI X tg l (mO K tl):=hK▸lU hl
theorem aeL {a:Expr}(ha:PE X a ta) (hK:X.K=K) (he:∀ whole,isTrue a X.env whole=(do let v ← whole;zF a.pos;ml [v] (truthy v))):PT X a (mH K ta):=hK▸DP ha he
theorem aeM (he:PE X e ta) (hK:X.K=K) (hb:mZ e f X.env (fw e X.env)=fw e X.env):PE X (.Attribute e f pos) (df K ta f):=hK▸qw he hb
theorem aeN {value:Expr}{pos':vQ}{tv:TE}(ha:PE X o ta) (hv:PE X value tv) (hK:X.K=K) (hs:Dk value (some (.Attribute o f pos')) pos.line X.env=pure false):PS X (.Assign [.Attribute o f pos'] value pos) (tH K ta tv f):=hK▸DF ha hv hs
theorem aeO {n:Nat}{t:Y3}(hc:X.calm=true) (h:PGs X es t) (hK:X.K=K) (hn:(pX es X.env).length=n) (hst:(pX es X.env).findIdx? (·.1)=none):PG X (.Tuple es k pos) (Gx K n t):=hK▸zW hc h hn hst
theorem o_bm {to:TE}{t:TA}{name:aY}{apos cpos:vQ}{T id:String}{r:V->List V->Hp->VK->Prop}(pa:PlainAttrs T) (slot:Slot T name id) (hty:typeOf (.builtin id)=pure (.type "method_descriptor")) (hm:MtR X id r) (ho:PE X o to) (ha:PA X (e::es) t) (hK:X.K=K)
  (hbase:mZ o name X.env (fw o X.env)=fw o X.env)
  (hfew:((iC cpos (bA (e::es) X.env)).all (λx=>!x.1) && (CZ cpos (qO [] X.env)).all (λx=>x.1.isSome)
   && decide ((e::es).length+([]:List LW).length+(if ([]:List LW).isEmpty then 0 else 1)<30))=true)
  (hline:(apos.endLine == cpos.line)=true) (hs:bA (e::es) X.env=(false,fw e X.env)::bA es X.env) (hplain:(iC cpos (bA es X.env)).any (·.1)=false) :
  PE X (.Call (.Attribute o name apos) (e::es) [] cpos) (GB K T r to t):=hK▸og pa slot hty hm ho ha hbase hfew hline hs hplain
theorem lK.j3 {x q:aY}{st:cH}{sp:Sp}{f:ai}{N:List aY}{t:TS}(F:lK K x q st f fd) (S:bb N ps (aM st)) (run:∀ vs H Q E,sp vs H Q E->t { nx:=λ_ H'=>Q .non H',rt:=Q } (start N vs) H)
  (b:∀ {mM:au}{A:eD}{outer:List zB}{s:aC}{H:Hp}{E:XK},iu k (A.deeper (mI q (aM st) s.heap.objs.size f mM))->N.Nodup->LO (mG eW P w K mg base N q (aM st) f mM A outer s H E).nox (kA st) t)
  (len:∀ vs H Q E,sp vs H Q E->vs.length=ps.length:=by first|(intro vs H Q E h;cases h;subst_vars;rfl)|(intro vs H Q E h;repeat' (first|(obtain ⟨e,_⟩:=h;exact e▸rfl)|(obtain ⟨_,h⟩:=h)))):dC P w K mg base eW (k+1) f fd ps sp :=
 F.oj S len run λmM A outer s H E hr=>b hr S.nd
def XW (X:Cx) (pins:List (ai×iW)) (E:XK):au->aC->Prop:=λe s'=>∃ Z H1 s1,Inv X pins Z H1 s1/\z9 X.prog X.w X.stack H1 s1 E e s'
abbrev Cx.tr (X:Cx) (pins:List (ai×iW)) (E:XK):Cx:={ X with pn:=X.pn++pins,xe:=XW X pins E }
section
variable {pins pins':List (ai×iW)}{Z:St}{H:Hp}{s:aC}{E:XK}
theorem Cx.Ok.tr (ok:X.Ok):(X.tr pins E).Ok:=⟨ok.mod,ok.kind,ok.glob,ok.blt,ok.above,ok.inj,ok.has,ok.cab,ok.hd,ok.frames,ok.stk,ok.exf,ok.bs,ok.Ts,ok.LN,ok.LM,ok.uW,ok.VF⟩
theorem Cx.Ok.RW (ok:(X.tr pins E).Ok):X.Ok:=⟨ok.mod,ok.kind,ok.glob,ok.blt,ok.above,ok.inj,ok.has,ok.cab,ok.hd,ok.frames,ok.stk,ok.exf,ok.bs,ok.Ts,ok.LN,ok.LM,ok.uW,ok.VF⟩
theorem Inv.tr (I:Inv X pins Z H s):Inv (X.tr pins E) [] Z H s:=⟨I.ok.tr,I.os,I.bare,I.base,I.loc,I.cell,I.free,I.pQ,λp hp=>I.pin p (by rw [mr] at hp;exact hp),I.fh,I.len⟩
theorem Inv.RW (I:Inv (X.tr pins E) pins' Z H s):Inv X pins Z H s:=⟨I.ok.RW,I.os,I.bare,I.base,I.loc,I.cell,I.free,I.pQ,λp hp=>I.pin p (bT _ hp),I.fh,I.len⟩
theorem W4:lR (z9 X.prog X.w) (X.tr pins E) E:=λ_ Z H s _ _ I h=>⟨Z,H,s,I.RW,h⟩
end
section
variable {body Jh:List cH}
end
def W5 (s1 s2:Sp):Sp:=λvs H Q E=>s1 vs H Q E\/s2 vs H Q E
theorem dC.orx {CX:Mj}{j m:Nat}{f:ai}{s1 s2:Sp}(F1:dC P w K mg base eW j f fd ps s1) (F2:dC P w K mg base CX k f fd ps s2) (h1:j<=m) (h2:k<=m):dC P w K mg base CX m f fd ps (W5 s1 s2) :=
 ⟨λvs H Q E q=>q.elim (F1.len vs H Q E) (F2.len vs H Q E),λA outer s H args us vs Q E hr he hb hv q=>q.elim
  (λq=>mv (F1.run A outer s H args us vs Q E (hr.mono h1) he hb hv q) λr s' z=>by
   cases r with
   | ok fl=>cases fl<;>exact z
   | error e=>exact eU z) (F2.run A outer s H args us vs Q E (hr.mono h2) he hb hv)⟩
section
variable {n:aY}{i:Nat}{body Jh:List cH}
end
end L2
namespace L2
open PySem
variable {P:List au->Prop}
theorem m1 (h:∀ a,P [a]):∀ us:List au,us.length=1->P us
 | [a],_=>h a
theorem m2 (h:∀ a b,P [a,b]):∀ us:List au,us.length=2->P us
 | [a,b],_=>h a b
theorem m3 (h:∀ a b c,P [a,b,c]):∀ us:List au,us.length=3->P us
 | [a,b,c],_=>h a b c
theorem m4 (h:∀ a b c d,P [a,b,c,d]):∀ us:List au,us.length=4->P us
 | [a,b,c,d],_=>h a b c d
end L2
namespace L2
open PySem.Calls PySem.W
section
variable {X:Cx}{c Pt:ai}{e:Expr}{tx:TA}{x y:aY}{j:Nat}{params:xO}{scope:tL}{p0 p1 p2 p3 p4 p5 lpos kpos pos:vQ}{x1:Nat}
end
end L2
namespace L2
section
variable {X:Cx}
end
end L2
namespace L2
open PySem.Calls PySem.W
variable {X:Cx}{tg e:Expr}{x:aY}{t:TA}
theorem M8:∀ (l:List (aY×Tu)),Vals ((l.map (·.1)).map V.str) (strValues l)
 | []=>.nil
 | (x,t)::l=>.cons ⟨t,rfl⟩ (M8 l)
def Qg (x:V) (xs:List V) (H:Hp) (Q:VK):Prop:=∃ a b:aY,x=.str a/\xs=[.str b]/\(b.length == 0)=false/\a.length+2<=aZ/\(Txt.split a b).length<=aZ/\∀ p,H p=none->Q (.ref p) (upd H p (.lst ((Txt.split a b).map V.str)))
theorem M9:VG X "str.split" Qg:=by
 intro pins s Z H x xs v us Q I rx rxs h;obtain ⟨a,b,rfl,rfl,hb,hsz,hl,q⟩:=h;obtain ⟨t,rfl⟩:=rx;obtain ⟨u,rfl,ru⟩:=vals1 rxs;obtain ⟨t2,rfl⟩:=ru;obtain ⟨m,F,N⟩:=I.vv;refine KSpl.split1 F N hb (λD l h' k e st F' N' lt=>?_) hsz;obtain ⟨hn,I3⟩:=I.zA (t':=k) (o:=.lst ((Txt.split a b).map V.str)) F.ns F' N' lt ⟨by rw [ag];exact hl,_,0,by rw [← e];exact M8 l,(N' _ ah).1⟩;exact ⟨.ref D,_,I3,rfl,q D hn⟩
theorem IH:∀ {ws:List aY}{us:List au},Vals (ws.map V.str) us->StrsAre us ws
 | [],_,.nil=>.nil
 | w::ws,_,.cons r h=>by
  obtain ⟨t,rfl⟩:=r;exact .cons w t (IH h)
def D8 (K:aa) (x:V) (xs:List V) (H:Hp) (Q:VK):Prop:=∃ (a:aY) (l:ai) (ws:List aY),x=.str a/\xs=[.ref l]/\cW K H l (ws.map V.str)/\(ws.map (·.length)).sum+ws.length*a.length<=16777216/\Q (.str (Txt.join a ws)) H
theorem yp:VG X "str.join" (D8 X.K):=by
 intro pins s Z H x xs v us Q I rx rxs h;obtain ⟨a,l,ws,rfl,rfl,hl,hz,q⟩:=h;obtain ⟨t,rfl⟩:=rx;obtain ⟨u,rfl,ru⟩:=vals1 rxs;cases ru;obtain ⟨its,rv,p,_⟩:=I.list hl
 exact join_list p.isList (IH rv) hz λt' k=>⟨.str (Txt.join a ws),H,I.kept (t':=k) λ_ _ e=>e,⟨t',rfl⟩,q⟩
theorem GF:lM X (.type "int") (λxs H Q=>∃ (a:aY) (n:Int),xs=[.str a]/\a.length<=640/\Mg a=some n/\Q (.int n) H):=by
 intro pins s Z H xs us Q I r h;obtain ⟨a,n,rfl,hl,hn,q⟩:=h;obtain ⟨u,rfl,ru⟩:=vals1 r;obtain ⟨t,rfl⟩:=ru;exact KIN.call_text hn hl ⟨.int n,H,I.tok _,⟨_,rfl⟩,q⟩
def Its (x:aY):It:=⟨λi _=>i<x.cps.size,λi H v H'=>H'=H/\∃ c,x.cps[i]?=some c/\v=.str ⟨#[c]⟩,λi _=>x.cps.size<=i⟩
theorem UE {P:bQ}{w:cK}{K:aa}(it:ai) (x:aY) (t:Tu):Pq P w K tg (Its x) [it] it (λi h=>h.IsStrIter it "str_ascii_iterator" x t i) where
 mem:=aA.mpr rfl
 obj:=λi h st b hb=>by
  obtain rfl:=aA.mp hb;obtain ⟨o,e,c,d⟩:=st;exact ⟨o,e,λv z=>by rw [d] at z;cases z⟩
 keep:=λi h h' st k=>by
  obtain ⟨o,e,r⟩:=st;exact ⟨o,k it (aA.mpr rfl) o e,r⟩
 item:=by
  intro X hP hw hK hc i pins s Z H E I hf st hg;subst hP hw hK;have hg:i<x.cps.size:=hg;obtain ⟨f0,f1,f2,f3,f4,f5⟩:=hf it (aA.mpr rfl);have hx:x.cps[i]?=some x.cps[i]:=bX hg;refine wpAny_pyNext_ascii_item st hx λh' st' sb=>?_;have I1:Inv X pins Z H { s with heap:=h',toks:=s.toks+1 }:=I.turned (λb o hb e=>(sb.2 b hb).trans e) f0 f1 f3 f4 f5;obtain ⟨o,e,c,d⟩:=id st';exact ⟨_,rfl,Ib (s:={ s with heap:=h',toks:=s.toks+1 }) e c d (by decide) ⟨.str ⟨#[x.cps[i]]⟩,H,I1,⟨_,rfl⟩,⟨rfl,_,hx,rfl⟩,st',λb hb=>(hf b hb).1⟩⟩
 done:=by
  intro X hP hw hK hc i pins s Z H E I hf st hg;subst hP hw hK;have hg:x.cps.size<=i:=hg;obtain ⟨f0,f1,f2,f3,f4,f5⟩:=hf it (aA.mpr rfl)
  exact wpAny_pyNext_ascii_end (I.ok.hd hc) st (iz hg) λh' eb=>⟨rfl,I.turned (t':=s.toks) (λb o hb e=>eb b o hb e) f0 f1 f3 f4 f5⟩
 self:=λ_ _ _ _ _ st h=>wpAny_pyIter_striter_ascii st h
def W6 (tl:TE):TI:=λZ H R=>tl Z H λx H1=>∃ a:aY,x=.str a/\a.cps.all (·<128)=true/\R (Its a) H1
theorem aad {l:Expr}{tl:TE}(hl:PE X l tl):PI X tg l (W6 tl):=by
 intro pins s Z H R I h;refine gN (hl pins s Z H _ I h) λv s1 ⟨x,H1,I1,r1,q1⟩=>?_;obtain ⟨a,rfl,ha,q⟩:=q1;obtain ⟨t,rfl⟩:=r1;refine wpAny_pyIter_ascii ha ?_;refine ⟨s1.heap.objs.size,[s1.heap.objs.size],_,_,H1,rfl,I1.kept (t':=s1.toks) λb o e=>ax _ e,UE _ a t,⟨_,aP _ rfl,rfl,rfl⟩,λb hb=>?_,q⟩;obtain rfl:=aA.mp hb;exact I1.OY (aB _) (I1.fh.fresh (aB _))
def ac4 (x:V) (lo hi:Option Int) (H:Hp) (Q:VK):Prop:=∃ a:aY,x=.str a/\a.length<=aZ/\Q (.str (Txt.slice a lo hi)) H
theorem part_of {v:au}{lo:Option Int}(h:IsPart v lo):∃ l:Option (Int×Tu),v=partValue l/\l.map (·.1)=lo:=by
 cases h with
 | none=>exact ⟨none,rfl,rfl⟩
 | int i t=>exact ⟨some (i,t),rfl,rfl⟩
theorem SI:SlR X ac4:=by
 intro pins s Z H x v vl vu lo hi sl Q I rx hs pl pu h;obtain ⟨a,rfl,hz,q⟩:=h;obtain ⟨t,rfl⟩:=rx;obtain ⟨l,rfl,rfl⟩:=part_of pl;obtain ⟨u,rfl,rfl⟩:=part_of pu;refine ⟨"str",_,F.slot_str_getitem.lookup,typeIs_str _ _ _,wpAny_getItem_str_slice (st:=none) hs rfl (post_val_or_str ⟨a9 (Txt.slice_le a _ _) hz,λt' k=>?_⟩)⟩;exact ⟨.str (Txt.slice a _ _),H,I.kept (t':=k) λ_ _ e=>e,⟨t',rfl⟩,q⟩
def tF3 (x:aY) (ta tb:TE):TE:=λZ H Q=>ta Z H λv H1=>∃ i:Int,v=.int i/\i.natAbs.log2<1920/\(av (toString i)).length<=1000/\x.length<=1000/\tb Z H1 λu H2=>∃ j:Int,u=.int j/\j.natAbs.log2<1920/\(av (toString j)).length<=1000/\Q (.str (av (toString i)++x++av (toString j))) H2
theorem aeP {a b:Expr}{ta tb:TE}{k p1 p2 p3 pos} (ha:PE X a ta) (hb:PE X b tb):PE X (.JoinedStr [.FormattedValue a (-1) none p1,.Constant (.str x) k p2,.FormattedValue b (-1) none p3] pos) (tF3 x ta tb):=by
 intro pins s Z H Q I h;have big:∀ {m:Nat},m<=3000->m<=aZ:=λh=>eS (m:=3000) h;refine JoinedStr_many (Vz (FormattedValue_plain (gN (ha pins s Z H _ I h) λv s1 ⟨x1,H1,I1,r1,i,e,hi,l1,lx,q1⟩=>?_)));subst e;obtain ⟨t1,rfl⟩:=r1;refine ab1 hi ?_;have z1:(u0++av (toString i):aY)=av (toString i):=Str.empty_append _;refine ⟨by rw [z1];exact big (by lia),Vz (gN (dR pins { s1 with toks:=s1.toks+1+1 } Z H1 (λz H2=>z=.str x/\H2=H1) (I1.kept (t':=s1.toks+1+1) λ_ _ e=>e) ⟨rfl,rfl⟩) λv s2 ⟨x2,H2,I2,r2,e1,e2⟩=>?_)⟩;subst e1 e2;obtain ⟨t2,rfl⟩:=r2;refine ⟨by rw [z1,aD];exact big (by lia),Vz (FormattedValue_plain (gN (hb pins s2 Z H2 _ I2 q1) λv s3 ⟨x3,H3,I3,r3,j,e,hj,l2,q2⟩=>?_))⟩;subst e;obtain ⟨t3,rfl⟩:=r3;refine ab1 hj ?_
 have l3:(u0++av (toString i)++x++av (toString j)).length<=aZ:=by rw [z1,aD,aD];exact big (by lia)
 refine ⟨l3,joinParts_nil ⟨.str (av (toString i)++x++av (toString j)),H3,I3.kept (t':=s3.toks+1+1+1) λ_ _ e=>e,⟨_,by rw [z1]⟩,q2⟩ l3⟩
def SJ (D:List (PyData×PyData)) (t:TA):TE:=λZ H Q=>t Z H λvs H1=>∃ x:aY,vs=[.str x]/\((∃ n:Int,iJ (.str x) D=some (.int n)/\Q (.int n) H1)\/(iJ (.str x) D=none/\Q .non H1))
theorem SK {o:Expr}{a:ai}{D:List (PyData×PyData)}{apos cpos:vQ}(hT:∀ h,X.K.In h->Gj X.prog X.w h a D) (ho:PE X o (tC (.ref a))) (ha:PA X [e] t)
  (hbase:mZ o "get" X.env (fw o X.env)=fw o X.env:=by rfl)
  (hfew:((iC cpos (bA [e] X.env)).all (λx=>!x.1) && (CZ cpos (qO [] X.env)).all (λx=>x.1.isSome)
   && decide ([e].length+([]:List LW).length+(if ([]:List LW).isEmpty then 0 else 1)<30))=true:=by rfl)
  (hline:(apos.endLine == cpos.line)=true:=by rfl) (hs:bA [e] X.env=(false,fw e X.env)::bA [] X.env:=by rfl) :
  PE X (.Call (.Attribute o "get" apos) [e] [] cpos) (SJ D t):=by
 intro pins s Z H Q I h;refine aaR hbase hfew hline rfl (gN (ho pins s Z H (λz H1=>z=.ref a/\H1=H) I ⟨rfl,rfl⟩) λv s1 ⟨x,H1,I1,r1,e1,e2⟩=>?_);subst e1 e2;cases r1;obtain ⟨_,kvs,hD,_⟩:=hT s1.heap I1.xS;refine ⟨"dict","dict.get",lP,PySem.F.slot_dict_get,PySem.F.type_dict_get,?_,?_,?_⟩
 .exact hD.typeIs
 .exact hD.mapOf.noDict
 .have hA:=ha cpos pins s1 Z H1 _ I1 h;rw [hs] at hA ⊢;refine u6 rfl (xP ?_);refine gN hA λus s2 ⟨vs,H2,I2,r2,x,e,q2⟩=>?_;subst e;obtain ⟨u,rfl,ru⟩:=vals1 r2;obtain ⟨t2,rfl⟩:=ru
  rcases q2 with ⟨n,hn,q2⟩|⟨hn,q2⟩
  .refine kt_get1_thereS (hT s2.heap I2.xS) hn λv hv=>?_;cases hv s2.heap;exact ⟨.int n,H2,I2.tok _,⟨_,rfl⟩,q2⟩
  .exact kt_get1_noneS (hT s2.heap I2.xS) hn ⟨.non,H2,I2.tok _,rfl,q2⟩
def tNo (t:TA):TE:=λZ H _=>t Z H λ_ _=>False
theorem UF {f:ai}{es:List Expr}{p pos:vQ}(hg:Gl X x) (hm:X.mg x=some (.ref f)) (hk:c6 X.K (.ref f)=true) (ha:PA X (e::es) t)
  (hdb:(x == ("__debug__":aY))=false:=by decide) (he:bA (e::es) X.env=(false,fw e X.env)::bA es X.env:=by rfl) (hpl:(iC pos (bA es X.env)).any (·.1)=false:=by rfl) :
  PE X (.Call (.Name x p) (e::es) [] pos) (tNo t):=by
 intro pins s Z H Q I h;refine dU (rH I hg hm ?_ hdb);exact pY (h₀:=X.base) I.ok.mod.kin hk (gN (ha pos pins s Z H _ I h) λus s1 ⟨vs,H1,I1,r,q⟩=>q.elim) he hpl
end L2
namespace L2
variable {X:Cx}{pos:vQ}{s:aC}{A:eD}
section
variable {M:Model}{E:au->aC->Prop}{base:cI}{l:List zB}{e:ai}{cls a0 mk:au}
end
section
variable {pins:List (ai×iW)}{Z:St}{H:Hp}{scope:tL}{fp:List ai}{N:List aY}{E:XK}
end
section
variable {prog:bQ}{w:cK}{R:Vj->aC->Prop}
end
def dG:R2:=λx y H Q=>∃ i j,x=.str i/\y=.str j/\i.length+j.length<=aZ/\Q (.str (i++j)) H
theorem SL:qR X (qN .Add) dG:=Pz
def rInS:R2:=λx y H Q=>∃ i j,x=.str i/\y=.str j/\Q (.bl (!(Gq j i 0 j.length 1).isEmpty)) H
theorem ac5:qR X (dh .In) rInS:=TX
def W7:List V->Hp->VK->Prop:=λxs H Q=>∃ z,xs=[.str z]/\z.length<=aZ/\Q (.int z.length) H
theorem UG:lM X (.builtin "len") W7:=JA
def abr:R2:=λx y H Q=>∃ z i c,x=.str z/\y=.int i/\0<=i/\i<2^63/\i<z.length/\z.cps[i.toNat]?=some c/\Q (.str ⟨#[c]⟩) H
theorem ac6 {a b:Expr}{ta tb:TE}(ha:PE X a ta) (hb:PE X b tb) (hs:MA b):PE X (.Subscript a b pos) (bU abr ta tb):=MB ha hb hs
def abt:List V->Hp->VK->Prop:=λxs H Q=>∃ (a:aY) (n:Int),xs=[.str a]/\a.length<=640/\Mg a=some n/\Q (.int n) H
theorem UH:lM X (.type "int") abt:=GF
def SM (K:aa):List V->Hp->VK->Prop:=λxs H Q=>∃ x T t b,xs=[x,.ref T]/\wV K H x t/\iD K t (.ref T)=some b/\Q (.bl b) H
theorem II:lM X (.builtin "isinstance") (SM X.K):=by
 intro pins s Z H xs us Q I r h;obtain ⟨x,T,t,b,rfl,ty,e,q⟩:=h;obtain ⟨u,w',rfl,ru,rw'⟩:=vals2 r;cases (show w'=aH T from rw')
 exact Ie I ru ty e λtk=>⟨.bl b,H,I.tok tk,rfl,q⟩
theorem Na {es rest:List Expr}{k} {env:zB}:bA (.Tuple es k pos::rest) env=(false,fw (.Tuple es k pos) env)::bA rest env:=by rfl
def tHs (K:aa) (cls:au):List (au×TS)->vH->St->Hp->Prop
 | [],_,_,_=>False
 | (c,th)::r,D,Z,H=>∃ b,HY K cls c=some b/\if b=true then th { nx:=D.nx,rt:=D.rt } Z H else tHs K cls r D Z H
def SN (K:aa) (N:Nat) (ths:List (au×TS)) (tb:XK->TS):TS:=λD Z H=>∃ E:XK,tb E D Z H /\
 ∀ cls H2 (σ':St),E cls none H2->σ'.length=N->∃ Dc:ai,cls=.ref Dc/\tHs K cls ths D σ' H2
inductive W8 (X:Cx):List ExceptHandler->List (au×TS)->Prop
 | nil:W8 X [] []
 | cons {CT:ai}{xT:aY}{np hpos:vQ}{b₀:cH} {Jh:List cH}{th:TS}{r:List ExceptHandler}{ths:List (au×TS)}(hgT:Gl X xT) (hmT:X.mg xT=some (.ref CT))
  (hth:∀ a,LO (X.marked a) (b₀::Jh) th) (hr:W8 X r ths) (Y4:(xT == ("__debug__":aY))=false:=by decide):W8 X (.ExceptHandler (some (.Name xT np)) none (b₀::Jh) hpos::r) ((.ref CT,th)::ths)
section
variable {tb:XK->TS}{ths:List (au×TS)}{h₀:ExceptHandler} {hs:List ExceptHandler}{body:List cH}
theorem JV (hb:∀ pins E,LO (X.tr pins E) body (tb E)) (hex0:X.ex=[]) (hst:X.stack=X.env::X.outer/\X.env.frame=some X.env.locals) (hh:W8 X (h₀::hs) ths) :
  PS X (.Try body (h₀::hs) [] [] pos) (SN X.K X.N.length ths tb):=by
 rintro pins s Z H D I ⟨E,h,hE⟩;refine wpAny_Try_except ?_;refine fk (hb pins E [] s Z H D I.tr h) (λf s1 q=>?_) λev s' q=>?_
 .cases f with
  | next=>obtain ⟨σ',H',I',q⟩:=q;exact rD ⟨σ',H',I'.RW,q⟩
  | brk=>obtain ⟨σ',H',I',q⟩:=q;exact ⟨σ',H',I'.RW,q⟩
  | cont=>obtain ⟨σ',H',I',q⟩:=q;exact ⟨σ',H',I'.RW,q⟩
  | ret u=>obtain ⟨v,σ',H',I',r,q⟩:=q;exact ⟨v,σ',H',I'.RW,r,q⟩
 .obtain ⟨σ1,H1,s1,I1,a,cls,a0,B,H2,rfl,os,bare,fl,Fl,qE⟩:=q;obtain ⟨Dc,rfl,hq⟩:=hE cls H2 σ1 qE I1.len;have frm:=D0 I1;have fl':=fl;rw [hst.1] at fl';have hfm:=I1.ok.frames;rw [hst.1] at hfm;refine gN (nI (WT _ _) (wpAny_looks_onW (L:=X.env.locals) (outer:=X.outer) (Q:=λ_ s3=>B.HeldW (X.env::X.outer) a (.ref Dc) a0 X.env.locals s3.heap/\s'.heap.UpToSlots s3.heap/\s3.os=s'.os/\s3.gens=s'.gens) hfm hst.2 fl' λh' hd us=>⟨hd,us,rfl,rfl⟩)) λ_ s3 ⟨⟨hd3,us3,o3,g3⟩,kp3⟩=>?_;have F3:=Fl.step frm us3 hd3.1 kp3;refine gN (nI (DZ _ _) (wpAny_landsW (Q:=λ_ s4=>B.FlyingW (X.env::X.outer) a (.ref Dc) a0 s4.heap/\s3.heap.UpToSlots s4.heap/\s4.os=s3.os/\s4.gens=s3.gens) hd3 λh' fl us=>⟨fl,us,rfl,rfl⟩)) λ_ s4 ⟨⟨fl4,us4,o4,g4⟩,kp4⟩=>?_;have F4:=F3.step frm us4 fl4.1 kp4;have I4:Inv X pins σ1 H2 s4:=I1.YI (ch:=[]) ((o4.trans o3).trans os) F4.un F4.fh (by rw [g4,g3];exact bare) (λb z=>absurd z (by simp));obtain ⟨oe4,vs4,T4,oT4,ts4,e4,⟨c4,_⟩,d4,_⟩:=fl4.2.2.2
  have dict4:oe4.dict=none:=by
   obtain ⟨o,e5,d5⟩:=F4.dict;rw [e4] at e5;cases e5;exact d5
  have inst4:aaP s4.heap a oe4 Dc none:=⟨e4,c4,by unfold PySem.W.notCls;rw [d4],by rw [dict4];trivial⟩
  generalize h₀::hs=hl at hh
  clear hE
  revert hq
  induction hh with
  | nil=>exact λz=>eU z
  | cons hgT hmT hth hr Y4 ih =>
   rintro ⟨b,hex,hq⟩;refine wpAny_handleBy_cons ?_ nofun;refine codeAny_handlers_test ?_;have I4m:=I4.mark a;refine rH I4m hgT hmT ?_ Y4;refine PySem.W.exm_one (K:=X.K) I4.xS inst4.type hex _ _ _ s4 (λ_ _ z=>z) ?_
   cases b with
   | false=>exact ih hq
   | true =>
   have hq:=(if_pos rfl:(if true=true then _ else _)=_)▸hq;refine codeAny_handlers_suite ?_;refine gN (nI (DZ _ _) (lands_againW (Q:=λ_ s5=>B.FlyingW (X.env::X.outer) a (.ref Dc) a0 s5.heap/\s4.heap.UpToSlots s5.heap/\s5.os=s4.os/\s5.gens=s4.gens) fl4 λh' fl us=>⟨fl,us,rfl,rfl⟩)) λ_ s5 ⟨⟨fl5,us5,o5,g5⟩,kp5⟩=>?_;have F5:=F4.step frm us5 fl5.1 kp5;have I5:Inv X pins σ1 H2 s5:=I1.YI (ch:=[]) (((o5.trans o4).trans o3).trans os) F5.un F5.fh (by rw [g5,g4,g3];exact bare) (λb z=>absurd z (by simp));refine fk (hth a pins s5 _ _ _ (I5.mark a) hq) (λf s7 z=>?_) λ_ _ z=>eU z
   cases f with
   | ret u =>
    obtain ⟨v,σ',H',I8,rv,q8⟩:=z
    exact ⟨v,_,H',I8.unmark I1.ok,rv,q8⟩
   | next =>
    obtain ⟨σ',H',I8,q8⟩:=z
    exact ⟨_,H',I8.unmark I1.ok,q8⟩
   | brk=>obtain ⟨_,_,_,z⟩:=z;exact eU z
   | cont=>obtain ⟨_,_,_,z⟩:=z;exact eU z
end
end L2
namespace Rm
variable {f:Nat->Int}{m:Nat}{r:List Int}
def tn {α:Type} (r:List α) (k:Nat):List α:=r.drop k++(r.drop 1).take k
theorem Qh {k:Nat}(hk:k<r.length):(tn r k).length=r.length:=by
 unfold tn;rw [bD,cD,bK,cD];lia
theorem aae:tn r 0=r:=by simp [tn]
theorem JW {a:Int}(h:a∈r):r.idxOf a<r.length:=fe.mpr h
end Rm
namespace Rm
section
variable {n:Nat}{v par:Nat->Nat}
end
end Rm
namespace Rm
def al:List Int->List (Int×Int)
 | []=>[]
 | [_]=>[]
 | a::b::r=>(a,b)::al (b::r)
theorem Qi:∀ r:List Int,al r=r.zip (r.drop 1)
 | []=>rfl
 | [_]=>rfl
 | a::b::r=>by
  have:=Qi (b::r);simp only [List.drop_succ_cons,List.drop_zero] at this ⊢;rw [j4,← this];rfl
theorem lV:∀ (xs:List Int) (x:Int) (ys:List Int),al (xs++x::ys)=al (xs++[x])++al (x::ys)
 | [],x,ys=>rfl
 | [a],x,ys=>rfl
 | a::b::xs,x,ys=>by
  have:=lV (b::xs) x ys
  show (a,b)::al ((b::xs)++x::ys)=(a,b)::al ((b::xs)++[x])++al (x::ys)
  rw [this];rfl
theorem gP:∀ {r:List Int}{x y:Int},(x,y)∈al r->x∈r/\y∈r
 | a::b::r,x,y,h=>by
  rcases aj.mp h with e|h
  .cases e;simp
  .have:=gP h;exact ⟨ae _ this.1,ae _ this.2⟩
theorem Qj:∀ r:List Int,(al r).length=r.length-1
 | []=>rfl
 | [_]=>rfl
 | a::b::r=>by
  have:=Qj (b::r);simp only [al,bz] at this ⊢;lia
structure mL (r:List Int):Prop where
 ne:r≠[]
 cnt:∃ ds:List Int,ds.Nodup/\(∀ x,x∈ds↔x∈r)/\r.length+1=2*ds.length
 ends:r.head?=r.getLast?
 nd:(al r).Nodup
 sym:∀ x y,(x,y)∈al r->(y,x)∈al r
theorem mL.one (a:Int):mL [a]:=⟨by simp,⟨[a],by simp,by simp,rfl⟩,rfl,by simp [al],λx y h=>by simp [al] at h⟩
theorem mL.YF {A B:List Int}{z:Int}(h:mL (A++z::B)) (hA:z∉A) (hB:z∉B) (hn:A++B≠[]):∃ A' w B',A=A'++[w]/\B=w::B':=by
 have he:=h.ends
 have hAne:A≠[]:=λe=>by
  subst e;simp only [List.nil_append,List.head?_cons] at he hn
  rcases fc B with e|⟨us,u,e⟩
  .exact hn e
  .rw [dY] at e;subst e;rw [show z::(us++[u])=(z::us)++[u] by simp,cO] at he;simp at he;subst he;exact hB (by simp)
 have hBne:B≠[]:=λe=>by
  subst e;rw [cO] at he;simp at he
  cases A with
  | nil=>exact hAne rfl
  | cons a A =>
   simp at he;subst he;exact hA (by simp)
 obtain ⟨A',w,e⟩:∃ A' w,A=A'++[w]:=by
  rcases fc A with e|⟨us,u,e⟩
  .exact absurd e hAne
  .exact ⟨us,u,by rw [e,dY]⟩
 subst e
 cases B with
 | nil=>exact absurd rfl hBne
 | cons v B' =>
  refine ⟨A',w,B',rfl,?_⟩
  have e1:al (A'++[w]++z::v::B')=al (A'++[w])++((w,z)::(z,v)::al (v::B')):=by
   rw [de,VA,lV];rfl
  have m:=h.sym w z (by rw [e1];simp);rw [e1] at m
  rcases aT.mp m with m|m
  .exact absurd (gP m).1 hA
  .rcases aj.mp m with m|m
   .cases m;exact absurd (by simp) hA
   .rcases aj.mp m with m|m
    .cases m;rfl
    .exact absurd (gP m).1 hB
theorem W9 (xs ys:List Int) (w z:Int):(al (xs++w::z::w::ys)).Perm ((w,z)::(z,w)::al (xs++w::ys)):=by
 rw [lV,lV xs w ys]
 show (al (xs++[w])++([(w,z),(z,w)]++al (w::ys))).Perm ([(w,z),(z,w)]++(al (xs++[w])++al (w::ys)))
 rw [← de,← de];exact List.Perm.append_right _ oe
theorem D9 (xs ys:List Int) (w z:Int):(xs++w::z::w::ys).head?=(xs++w::ys).head?/\(xs++w::z::w::ys).getLast?=(xs++w::ys).getLast?:=by
 constructor
 .cases xs<;>simp
 .cases ys with
  | nil=>simp [cO]
  | cons y ys=>simp [cO,mF]
theorem mL.Vc {xs ys:List Int}{w z:Int}(h:mL (xs++w::z::w::ys)) (hz:z∉xs++w::ys):mL (xs++w::ys):=by
 have hp:=W9 xs ys w z;have nd:=hp.nodup_iff.mp h.nd;have nd2:=(bh.mp nd).2;refine ⟨by simp,?_,?_,(bh.mp nd2).2,λx y hxy=>?_⟩
 .obtain ⟨ds,h1,h2,h3⟩:=h.cnt;have hzd:z∈ds:=(h2 z).mpr (by simp);refine ⟨ds.erase z,h1.erase z,λx=>?_,?_⟩
  .rw [h1.mem_erase_iff,h2]
   constructor
   .rintro ⟨h4,h5⟩;simp at h5 ⊢
    rcases h5 with h5|h5|h5|h5|h5
    .exact .inl h5
    .exact .inr (.inl h5)
    .exact absurd h5 h4
    .exact .inr (.inl h5)
    .exact .inr (.inr h5)
   .intro h5;refine ⟨λe=>hz (e▸h5),?_⟩;simp at h5 ⊢
    rcases h5 with h5|h5|h5
    .exact .inl h5
    .exact .inr (.inl h5)
    .exact .inr (.inr (.inr (.inr h5)))
  .rw [Pk hzd];have:0<ds.length:=TH hzd;simp at h3 ⊢;lia
 .have:=D9 xs ys w z;rw [← this.1,← this.2];exact h.ends
 .have hm:=hp.mem_iff.mp (h.sym x y (hp.mem_iff.mpr (ae _ (ae _ hxy))))
  rcases aj.mp hm with e|hm
  .cases e;exact absurd (gP hxy).1 hz
  .rcases aj.mp hm with e|hm
   .cases e;exact absurd (gP hxy).2 hz
   .exact hm
theorem mL.put {xs ys:List Int}{w z:Int}(h:mL (xs++w::ys)) (hz:z∉xs++w::ys):mL (xs++w::z::w::ys):=by
 have hp:=W9 xs ys w z;have hwz:w≠z:=λe=>hz (by simp [e]);refine ⟨by simp,?_,?_,hp.nodup_iff.mpr ?_,λx y hxy=>?_⟩
 .obtain ⟨ds,h1,h2,h3⟩:=h.cnt;refine ⟨z::ds,bh.mpr ⟨λhm=>hz ((h2 z).mp hm),h1⟩,λx=>?_,?_⟩
  .rw [aj,h2];simp
   constructor
   .rintro (h|h|h|h)
    .exact .inr (.inr (.inl h))
    .exact .inl h
    .exact .inr (.inl h)
    .exact .inr (.inr (.inr (.inr h)))
   .rintro (h|h|h|h|h)
    .exact .inr (.inl h)
    .exact .inr (.inr (.inl h))
    .exact .inl h
    .exact .inr (.inr (.inl h))
    .exact .inr (.inr (.inr h))
  .simp at h3 ⊢;lia
 .have:=D9 xs ys w z;rw [this.1,this.2];exact h.ends
 .refine bh.mpr ⟨λhm=>?_,bh.mpr ⟨λhm=>hz (gP hm).1,h.nd⟩⟩
  rcases aj.mp hm with e|hm
  .exact hwz (by cases e;rfl)
  .exact hz (gP hm).2
 .refine hp.mem_iff.mpr ?_
  rcases aj.mp (hp.mem_iff.mp hxy) with e|hm
  .cases e;simp
  .rcases aj.mp hm with e|hm
   .cases e;simp
   .exact ae _ (ae _ (h.sym x y hm))
theorem rP:∀ {ds r:List Int},ds.Nodup->(∀ x∈r,x∈ds)->(ds.map λd=>r.count d).sum=r.length
 | ds,[],h1,h2=>by
  have:(ds.map λd=>([]:List Int).count d)=ds.map λ_=>0:=by simp
  rw [this]
  clear this h1 h2
  induction ds with
  | nil=>rfl
  | cons d ds ih=>simpa using ih
 | ds,x::r,h1,h2=>by
  have ih:=rP (ds:=ds) (r:=r) h1 λy hy=>h2 y (ae _ hy);have hx:=h2 x ah
  have key:∀ (ds:List Int),ds.Nodup->(ds.map λd=>(x::r).count d).sum=(ds.map λd=>r.count d).sum+if x∈ds then 1 else 0:=by
   intro ds
   induction ds with
   | nil=>intro _;simp
   | cons d ds ih2 =>
    intro hnd;have:=ih2 (bh.mp hnd).2;have hd:=(bh.mp hnd).1;simp only [bu,fX,vZ] at this ⊢;rw [this]
    by_cases e:x=d
    .subst e;simp [hd];lia
    .have e':¬ d=x:=λz=>e z.symm;simp [e];lia
  rw [key ds h1,ih,if_pos hx,bz]
theorem mL.leaf {r:List Int}(h:mL r) (h1:1<r.length):∃ xs w z ys,r=xs++w::z::w::ys/\z∉xs++w::ys:=by
 obtain ⟨ds,d1,d2,d3⟩:=h.cnt;have hs:=rP d1 λx hx=>(d2 x).mpr hx
 obtain ⟨z,hz,hc⟩:∃ z∈ds,r.count z<2:=by
  refine Classical.byContradiction λq=>?_
  have hall:∀ z∈ds,2<=r.count z:=λz hz=>by
   by_cases c:r.count z<2
   .exact absurd ⟨z,hz,c⟩ q
   .lia
  have:∀ (ds:List Int),(∀ z∈ds,2<=r.count z)->2*ds.length<=(ds.map λd=>r.count d).sum:=by
   intro ds
   induction ds with
   | nil=>intro _;simp
   | cons d ds ih =>
    intro h;have a:=ih λz hz=>h z (ae _ hz);have b:=h d ah;simp only [bu,fX,bz];lia
  have:=this ds hall;lia
 have hzr:=(d2 z).mp hz;obtain ⟨A,B,e⟩:=mE hzr;subst e
 have hc2:A.count z=0/\B.count z=0:=by
  rw [hU,kY] at hc;lia
 have hA:z∉A:=fv.mp hc2.1;have hB:z∉B:=fv.mp hc2.2
 obtain ⟨A',w,B',e1,e2⟩:=h.YF hA hB (λq=>by
  rw [vF] at q;rw [q.1,q.2] at h1
  simp at h1)
 subst e1 e2
 exact ⟨A',w,z,B',by simp,λhm=>by
  simp at hm hA hB
  rcases hm with hm|hm|hm
  .exact hA.1 hm
  .exact hA.2 hm
  .exact hB.2 hm⟩
end Rm
namespace Rm
variable {a b:Int}{r xs ys T:List Int}
theorem mL.aaF {r':List Int}(h:mL r) (hn:r'≠[]) (hm:∀ x,x∈r'↔x∈r) (hl:r'.length=r.length) (he:r'.head?=r'.getLast?) (hp:(al r').Perm (al r)):mL r' :=
 ⟨hn,let ⟨ds,a,b,c⟩:=h.cnt;⟨ds,a,λx=>by rw [b,hm],by rw [hl];exact c⟩,he,hp.nodup_iff.mpr h.nd,λx y z=>hp.mem_iff.mpr (h.sym x y (hp.mem_iff.mp z))⟩
theorem IJ (h:a∈r):∃ xs ys,r=xs++a::ys/\xs.length=r.idxOf a/\a∉xs:=by
 induction r with
 | nil=>cases h
 | cons b r ih =>
  by_cases e:b=a
  .subst e;exact ⟨[],r,rfl,by simp,by simp⟩
  .have ha:a∈r:=(aj.mp h).resolve_left λq=>e q.symm;obtain ⟨xs,ys,e1,e2,e3⟩:=ih ha
   have eb:(b == a)=false:=by simpa using e
   refine ⟨b::xs,ys,by rw [e1];rfl,by rw [List.idxOf_cons,eb];simp [e2],λhm=>?_⟩
   rcases aj.mp hm with q|q
   .exact e q.symm
   .exact e3 q
theorem mL.turn (h:mL r) (ha:a∈r):mL (tn r (r.idxOf a))/\(al (tn r (r.idxOf a))).Perm (al r)/\(tn r (r.idxOf a)).head?=some a/\(∀ x,x∈tn r (r.idxOf a)↔x∈r)/\(tn r (r.idxOf a)).length=r.length:=by
 have hlen:(tn r (r.idxOf a)).length=r.length:=Qh (JW ha);obtain ⟨xs,ys,e,el,hx⟩:=IJ ha
 cases xs with
 | nil =>
  have e0:r.idxOf a=0:=by rw [← el];rfl
  rw [e0,aae]
  exact ⟨h,km _,by rw [e];rfl,λx=>Iff.rfl,rfl⟩
 | cons b xs =>
  have hba:b≠a:=λq=>hx (by simp [q]);have he:=h.ends
  obtain ⟨ys',ey⟩:∃ ys',ys=ys'++[b]:=by
   rw [e] at he;simp only [ab2,List.head?_cons] at he;rw [show b::(xs++a::ys)=(b::xs++[a])++ys by simp,cO] at he
   rcases fc ys with q|⟨us,u,q⟩
   .subst q;rw [show b::xs++[a]=(b::xs)++[a] by rfl,cO] at he;simp at he;exact absurd he hba
   .rw [dY] at q;subst q;rw [cO] at he;simp at he;subst he;exact ⟨us,rfl⟩
  subst ey
  have et:tn r (r.idxOf a)=(a::ys')++b::(xs++[a]):=by
   unfold tn;rw [← el,e];simp only [bz]
   have d1:((b::xs)++a::(ys'++[b])).drop (xs.length+1)=a::(ys'++[b]):=by simp
   have d2:(((b::xs)++a::(ys'++[b])).drop 1).take (xs.length+1)=xs++[a]:=by
    show (xs++a::(ys'++[b])).take (xs.length+1)=xs++[a]
    rw [ab3,bV (by lia)];simp
   rw [d1,d2];simp
  have hp:(al (tn r (r.idxOf a))).Perm (al r):=by
   rw [et,e,lV (a::ys') b (xs++[a]),lV (b::xs) a (ys'++[b])];exact oe
  have hm:∀ x,x∈tn r (r.idxOf a)↔x∈r:=λx=>by
   rw [et,e];simp
   constructor
   .rintro (q|q|q|q|q)
    .exact .inr (.inr (.inl q))
    .exact .inr (.inr (.inr (.inl q)))
    .exact .inl q
    .exact .inr (.inl q)
    .exact .inr (.inr (.inl q))
   .rintro (q|q|q|q|q)
    .exact .inr (.inr (.inl q))
    .exact .inr (.inr (.inr (.inl q)))
    .exact .inl q
    .exact .inr (.inl q)
    .exact .inr (.inr (.inl q))
  refine ⟨h.aaF (by rw [et];simp) hm hlen (by rw [et];simp [cO,mF]) hp,hp,by rw [et];rfl,hm,hlen⟩
theorem JX (h1:T.head?=some b) (h2:T.getLast?=some b):(al (xs++a::(T++a::ys))).Perm ((a,b)::(b,a)::(al (xs++a::ys)++al T)):=by
 obtain ⟨T1,e1⟩:∃ T1,T=b::T1:=by
  cases T with
  | nil=>simp at h1
  | cons c T=>simp at h1;exact ⟨T,by rw [h1]⟩
 obtain ⟨T2,e2⟩:∃ T2,T=T2++[b]:=by
  rcases fc T with q|⟨us,u,q⟩
  .subst q;simp at h2
  .rw [dY] at q;subst q;simp at h2;exact ⟨us,by rw [h2]⟩
 have e3:al (a::(T++a::ys))=(a,b)::(al T++(b,a)::al (a::ys)):=by
  have e4:al (T++a::ys)=al T++(b,a)::al (a::ys):=by
   conv=>lhs;rw [e2,de,VA,lV]
   rw [← e2];rfl
  have e5:al (a::(T++a::ys))=(a,b)::al (T++a::ys):=by rw [e1];rfl
  rw [e5,e4]
 rw [lV xs a (T++a::ys),lV xs a ys,e3];generalize al (xs++[a])=P;generalize al (a::ys)=R;generalize al T=U
 -- P++(ab::(U++ba::R)) ~ ab::ba::((P++R)++U)
 refine Gv.trans (mx _ ?_);rw [← de];refine Gv.trans (mx _ ?_);rw [de,de];exact tR _ oe
theorem Xa (xs ys T:List Int) (a:Int):(xs++a::(T++a::ys)).head?=(xs++a::ys).head?/\(xs++a::(T++a::ys)).getLast?=(xs++a::ys).getLast?:=by
 constructor
 .cases xs<;>simp
 .cases ys with
  | nil=>simp [cO,mF]
  | cons y ys=>simp [cO,mF]
theorem mL.adw (h:mL (xs++a::ys)) (hT:mL T) (h1:T.head?=some b) (hd:∀ x∈T,x∉xs++a::ys):mL (xs++a::(T++a::ys)):=by
 have h2:T.getLast?=some b:=by rw [← hT.ends];exact h1
 have hp:=JX (xs:=xs) (ys:=ys) (a:=a) h1 h2;have hb:b∈T:=kx (by rw [h1];rfl)
 have ha:a∈xs++a::ys:=by simp
 have hab:a≠b:=λe=>hd b hb (e▸ha);have hb':=hd b hb;have ha':a∉T:=λq=>hd a q ha;refine ⟨by simp,?_,?_,hp.nodup_iff.mpr ?_,λx y hxy=>?_⟩
 .obtain ⟨ds,d1,d2,d3⟩:=h.cnt;obtain ⟨es,e1,e2,e3⟩:=hT.cnt;refine ⟨ds++es,kK.mpr ⟨d1,e1,λx hx y hy q=>hd y ((e2 y).mp hy) (q▸(d2 x).mp hx)⟩,λx=>?_,?_⟩
  .rw [aT,d2,e2];simp
   constructor
   .rintro ((q|q|q)|q)
    .exact .inl q
    .exact .inr (.inl q)
    .exact .inr (.inr (.inr (.inr q)))
    .exact .inr (.inr (.inl q))
   .rintro (q|q|q|q|q)
    .exact .inl (.inl q)
    .exact .inl (.inr (.inl q))
    .exact .inr q
    .exact .inl (.inr (.inl q))
    .exact .inl (.inr (.inr q))
  .simp at d3 ⊢;lia
 .have:=Xa xs ys T a;rw [this.1,this.2];exact h.ends
 .refine bh.mpr ⟨λhm=>?_,bh.mpr ⟨λhm=>?_,kK.mpr ⟨h.nd,hT.nd,?_⟩⟩⟩
  .rcases aj.mp hm with q|hm
   .exact hab (by cases q;rfl)
   .rcases aT.mp hm with q|q
    .exact hb' (gP q).2
    .exact ha' (gP q).1
  .rcases aT.mp hm with q|q
   .exact hb' (gP q).1
   .exact ha' (gP q).2
  .rintro ⟨x,y⟩ hx t ht q;subst q;exact hd x (gP ht).1 (gP hx).1
 .refine hp.mem_iff.mpr ?_
  rcases aj.mp (hp.mem_iff.mp hxy) with q|hm
  .cases q;simp
  .rcases aj.mp hm with q|hm
   .cases q;simp
   .refine ae _ (ae _ ?_)
    rcases aT.mp hm with q|q
    .exact bT _ (h.sym x y q)
    .exact a8 _ (hT.sym x y q)
theorem mL.part:∀ (n:Nat) {p q inn:List Int}{x y:Int},(p++x::(inn++x::q)).length<=n->mL (p++x::(inn++x::q))->inn.head?=some y->inn.getLast?=some y ->
  mL inn/\mL (p++x::q)/\∀ c∈inn,c∉p++x::q
 | 0,p,q,inn,x,y,hn,h,h1,h2=>by simp at hn
 | n+1,p,q,inn,x,y,hn,h,h1,h2=>by
  have hl:1<(p++x::(inn++x::q)).length:=by simp;lia
  obtain ⟨X,w,z,Y,e,hz⟩:=h.leaf hl
  have hc:(p++x::(inn++x::q)).count z=1:=by
   rw [e];simp at hz;have a1:X.count z=0:=fv.mpr hz.1;have a2:Y.count z=0:=fv.mpr hz.2.2;have a3:¬ w=z:=λq=>hz.2.1 q.symm;simp [hU,vZ,a1,a2,a3]
  have hzx:x≠z:=λq=>by
   subst q;simp [hU,vZ] at hc;lia
  have hc2:p.count z+inn.count z+q.count z=1:=by
   simp [hU,vZ,hzx] at hc;lia
  -- a place that stands once,with what is around it
  have at_:∀ A B,p++x::(inn++x::q)=A++z::B->∃ A' w B',A=A'++[w]/\B=w::B':=λA B eA=>by
   rw [eA] at h hc hl
   have c0:A.count z=0/\B.count z=0:=by rw [hU,kY] at hc;lia
   refine h.YF (fv.mp c0.1) (fv.mp c0.2) λq=>?_;rw [vF] at q;rw [q.1,q.2] at hl;simp at hl
  have nin:∀ {l:List Int},l.count z=0->z∉l:=λq=>fv.mp q
  by_cases z1:z∈inn
  .have k1:0<inn.count z:=Cb.mpr z1;have hp0:z∉p:=nin (by lia);have hq0:z∉q:=nin (by lia);obtain ⟨i1,i2,ei⟩:=mE z1
   have c12:i1.count z=0/\i2.count z=0:=by
    rw [ei,hU,kY] at hc2;lia
   have n1:=nin c12.1;have n2:=nin c12.2
   by_cases hs:i1++i2=[]
   .rw [vF] at hs;rw [hs.1,hs.2] at ei;subst ei
    have zo:z∉p++x::q:=λhm=>by
     rcases aT.mp hm with m|m
     .exact hp0 m
     .rcases aj.mp m with m|m
      .exact hzx m.symm
      .exact hq0 m
    refine ⟨mL.one z,mL.Vc (w:=x) (z:=z) (by simpa using h) zo,λc hc=>?_⟩
    have:c=z:=by simpa using hc
    subst this;exact zo
   .obtain ⟨A',w',B',eA,eB⟩:=at_ (p++x::i1) (i2++x::q) (by rw [ei];simp)
    have i1n:i1≠[]:=λq0=>by
     subst q0;rw [ei] at h1 h2;simp at h1;subst h1
     rcases fc i2 with q1|⟨us,u,q1⟩
     .exact hs (by simp [q1])
     .rw [dY] at q1;subst q1;simp [cO,mF] at h2;exact n2 (by simp [h2])
    have i2n:i2≠[]:=λq0=>by
     subst q0;rw [ei] at h1 h2;rw [cO] at h2;simp at h2;subst h2
     cases i1 with
     | nil=>exact i1n rfl
     | cons a i1=>simp at h1;exact n1 (by simp [h1])
    obtain ⟨i1',u,ei1⟩:∃ i1' u,i1=i1'++[u]:=by
     rcases fc i1 with q0|⟨us,u,q0⟩
     .exact absurd q0 i1n
     .exact ⟨us,u,by rw [q0,dY]⟩
    cases i2 with
    | nil=>exact absurd rfl i2n
    | cons v i2' =>
     have ev:v=w':=by simp at eB;exact eB.1
     have eu:u=w':=by
      rw [ei1,← ab2,← de] at eA;have:=vG eA rfl
      simpa using this
     subst ei1 ev eu
     have ei':inn=i1'++u::z::u::i2':=by rw [ei];simp
     subst ei'
     have zi:z∉i1'++u::i2':=λhm=>by
      simp at hm n1 n2
      rcases hm with m|m|m
      .exact n1.1 m
      .exact n1.2 m
      .exact n2.2 m
     have eR:p++x::(i1'++u::z::u::i2'++x::q)=(p++x::i1')++u::z::u::(i2'++x::q):=by simp
     have eR':p++x::(i1'++u::i2'++x::q)=(p++x::i1')++u::(i2'++x::q):=by simp
     have zR:z∉(p++x::i1')++u::(i2'++x::q):=λhm=>by
      simp at hm zi
      rcases hm with m|m|m|m|m|m|m
      .exact hp0 m
      .exact hzx m.symm
      .exact zi.1 m
      .exact zi.2.1 m
      .exact zi.2.2 m
      .exact hzx m.symm
      .exact hq0 m
     rw [eR] at h;have hR':=h.Vc zR;rw [← eR'] at hR';have en:=D9 i1' i2' u z;obtain ⟨r1,r2,r3⟩:=mL.part n (by simp at hn ⊢;lia) hR' (by rw [← en.1];exact h1) (by rw [← en.2];exact h2);refine ⟨r1.put zi,r2,λc hc=>?_⟩;simp at hc
     have hcz:c=z->c∉p++x::q:=λq0 hm=>by
      subst q0;simp at hm
      rcases hm with m|m|m
      .exact hp0 m
      .exact hzx m.symm
      .exact hq0 m
     rcases hc with m|m|m|m|m
     .exact r3 c (by simp [m])
     .exact r3 c (by simp [m])
     .exact hcz m
     .exact r3 c (by simp [m])
     .exact r3 c (by simp [m])
  .by_cases z2:z∈p
   .have k1:0<p.count z:=Cb.mpr z2;have hq0:z∉q:=nin (by lia);obtain ⟨p1,p2,ep⟩:=mE z2;obtain ⟨A',w',B',eA,eB⟩:=at_ p1 (p2++x::(inn++x::q)) (by rw [ep];simp)
    have c12:p1.count z=0/\p2.count z=0:=by
     rw [ep,hU,kY] at hc2;lia
    have n1:=nin c12.1;have n2:=nin c12.2;subst eA
    cases p2 with
    | nil =>
     have ew:w'=x:=by simp at eB;exact eB.1.symm
     subst ew
     have ep':p=A'++[w',z]:=by rw [ep];simp
     subst ep'
     have zR:z∉A'++w'::(inn++w'::q):=λhm=>by
      simp at hm n1
      rcases hm with m|m|m|m|m
      .exact n1.1 m
      .exact n1.2 m
      .exact z1 m
      .exact n1.2 m
      .exact hq0 m
     have hR':=mL.Vc (xs:=A') (w:=w') (z:=z) (ys:=inn++w'::q) (by simpa using h) zR;obtain ⟨r1,r2,r3⟩:=mL.part n (by simp at hn ⊢;lia) hR' h1 h2
     have zo:z∉A'++w'::q:=λhm=>by
      simp at hm n1
      rcases hm with m|m|m
      .exact n1.1 m
      .exact n1.2 m
      .exact hq0 m
     refine ⟨r1,by simpa using r2.put zo,λc hc hm=>?_⟩;simp at hm
     rcases hm with m|m|m|m
     .exact r3 c hc (by simp [m])
     .exact r3 c hc (by simp [m])
     .exact z1 (m▸hc)
     .exact r3 c hc (by
       rcases m with m|m
       .simp [m]
       .simp [m])
    | cons v p2 =>
     have ew:v=w':=by simp at eB;exact eB.1
     subst ew
     have ep':p=A'++v::z::v::p2:=by rw [ep];simp
     subst ep'
     have zR:z∉A'++v::(p2++x::(inn++x::q)):=λhm=>by
      simp at hm n1 n2
      rcases hm with m|m|m|m|m|m|m
      .exact n1.1 m
      .exact n1.2 m
      .exact n2.2 m
      .exact hzx m.symm
      .exact z1 m
      .exact hzx m.symm
      .exact hq0 m
     have hR':=mL.Vc (xs:=A') (w:=v) (z:=z) (ys:=p2++x::(inn++x::q)) (by simpa using h) zR;obtain ⟨r1,r2,r3⟩:=mL.part n (p:=A'++v::p2) (q:=q) (inn:=inn) (x:=x) (by simp at hn ⊢;lia) (by simpa using hR') h1 h2
     have zo:z∉A'++v::(p2++x::q):=λhm=>by
      simp at hm n1 n2
      rcases hm with m|m|m|m|m
      .exact n1.1 m
      .exact n1.2 m
      .exact n2.2 m
      .exact hzx m.symm
      .exact hq0 m
     refine ⟨r1,by simpa using mL.put (xs:=A') (w:=v) (z:=z) (ys:=p2++x::q) (by simpa using r2) zo,λc hc hm=>?_⟩;simp at hm
     rcases hm with m|m|m|m|m|m|m
     .exact r3 c hc (by simp [m])
     .exact r3 c hc (by simp [m])
     .exact z1 (m▸hc)
     .exact r3 c hc (by simp [m])
     .exact r3 c hc (by simp [m])
     .exact r3 c hc (by simp [m])
     .exact r3 c hc (by simp [m])
   .have hq1:z∈q:=by
     have k1:0<q.count z:=by
      have a1:=fv.mpr z1;have a2:=fv.mpr z2;lia
     exact Cb.mp k1
    obtain ⟨q1,q2,eq⟩:=mE hq1;obtain ⟨A',w',B',eA,eB⟩:=at_ (p++x::(inn++x::q1)) q2 (by rw [eq];simp)
    have c12:q1.count z=0/\q2.count z=0:=by
     rw [eq,hU,kY] at hc2;lia
    have n1:=nin c12.1;have n2:=nin c12.2;subst eB
    rcases fc q1 with e1|⟨q1',u,e1⟩
    .subst e1
     have ew:x=w':=by
      rw [show p++x::(inn++[x])=(p++x::inn)++[x] by simp] at eA;have:=vG eA rfl
      simpa using this
     subst ew
     have eq':q=z::x::B':=by rw [eq];rfl
     subst eq'
     have zR:z∉(p++x::inn)++x::B':=λhm=>by
      simp at hm n2
      rcases hm with m|m|m|m|m
      .exact z2 m
      .exact hzx m.symm
      .exact z1 m
      .exact hzx m.symm
      .exact n2.2 m
     have hR':=mL.Vc (xs:=p++x::inn) (w:=x) (z:=z) (ys:=B') (by simpa using h) zR;obtain ⟨r1,r2,r3⟩:=mL.part n (p:=p) (q:=B') (inn:=inn) (x:=x) (by simp at hn ⊢;lia) (by simpa using hR') h1 h2
     have zo:z∉p++x::B':=λhm=>by
      simp at hm n2
      rcases hm with m|m|m
      .exact z2 m
      .exact hzx m.symm
      .exact n2.2 m
     refine ⟨r1,r2.put zo,λc hc hm=>?_⟩;simp at hm
     rcases hm with m|m|m|m|m
     .exact r3 c hc (by simp [m])
     .exact r3 c hc (by simp [m])
     .exact z1 (m▸hc)
     .exact r3 c hc (by simp [m])
     .exact r3 c hc (by simp [m])
    .rw [dY] at e1;subst e1
     have ew:u=w':=by
      rw [show p++x::(inn++x::(q1'++[u]))=(p++x::(inn++x::q1'))++[u] by simp] at eA;have:=vG eA rfl
      simpa using this
     subst ew
     have eq':q=q1'++u::z::u::B':=by rw [eq];simp
     subst eq'
     have zR:z∉(p++x::(inn++x::q1'))++u::B':=λhm=>by
      simp at hm n1 n2
      rcases hm with m|m|m|m|m|m|m
      .exact z2 m
      .exact hzx m.symm
      .exact z1 m
      .exact hzx m.symm
      .exact n1.1 m
      .exact n1.2 m
      .exact n2.2 m
     have hR':=mL.Vc (xs:=p++x::(inn++x::q1')) (w:=u) (z:=z) (ys:=B') (by simpa using h) zR;obtain ⟨r1,r2,r3⟩:=mL.part n (p:=p) (q:=q1'++u::B') (inn:=inn) (x:=x) (by simp at hn ⊢;lia) (by simpa using hR') h1 h2
     have zo:z∉(p++x::q1')++u::B':=λhm=>by
      simp at hm n1 n2
      rcases hm with m|m|m|m|m
      .exact z2 m
      .exact hzx m.symm
      .exact n1.1 m
      .exact n1.2 m
      .exact n2.2 m
     refine ⟨r1,by simpa using mL.put (xs:=p++x::q1') (w:=u) (z:=z) (ys:=B') (by simpa using r2) zo,λc hc hm=>?_⟩;simp at hm
     rcases hm with m|m|m|m|m|m|m
     .exact r3 c hc (by simp [m])
     .exact r3 c hc (by simp [m])
     .exact r3 c hc (by simp [m])
     .exact r3 c hc (by simp [m])
     .exact z1 (m▸hc)
     .exact r3 c hc (by simp [m])
     .exact r3 c hc (by simp [m])
end Rm
namespace Rm
variable {r:List Int}{i:Nat}
theorem Xb {x y:Int}:(al r)[i]?=some (x,y)↔r[i]?=some x/\r[i+1]?=some y:=by
 rw [Qi,O4,mD,Gk 1 i]
def vK (r:List Int) (i j:Nat):List Int:=(r.drop (i+1)).take (j-i)
def Aa (r:List Int) (i j:Nat):List Int:=r.take (i+1)++r.drop (j+2)
def zO (r:List Int) (a b:Int):List Int×List Int :=
 if (al r).idxOf (a,b)<(al r).idxOf (b,a) then (Aa r ((al r).idxOf (a,b)) ((al r).idxOf (b,a)),vK r ((al r).idxOf (a,b)) ((al r).idxOf (b,a)))
 else (vK r ((al r).idxOf (b,a)) ((al r).idxOf (a,b)),Aa r ((al r).idxOf (b,a)) ((al r).idxOf (a,b)))
theorem Xc {j:Nat}{x y:Int}(hij:i<j) (h1:r[i]?=some x) (h2:r[i+1]?=some y) (h3:r[j]?=some y) (h4:r[j+1]?=some x) :
  r=r.take i++x::(vK r i j++x::r.drop (j+2))/\Aa r i j=r.take i++x::r.drop (j+2)/\(vK r i j).head?=some y/\(vK r i j).getLast?=some y/\(vK r i j).length+(Aa r i j).length+1=r.length:=by
 have l4:=(aE.mp h4).1
 have g1:r.drop i=x::r.drop (i+1):=by
  have hl:=aE.mp h1;rw [gE hl.1,hl.2]
 have g2:r.drop (j+1)=x::r.drop (j+2):=by
  have hl:=aE.mp h4;rw [gE hl.1,hl.2]
 have g3:r.drop (i+1)=vK r i j++r.drop (j+1):=by
  unfold vK;have:=ku (j-i) (r.drop (i+1));rw [List.drop_drop,show i+1+(j-i)=j+1 by lia] at this;exact this.symm
 have li:(vK r i j).length=j-i:=by unfold vK;rw [bK,cD];lia
 refine ⟨?_,?_,?_,?_,?_⟩
 .rw [← g2,← g3,← g1,ku]
 .unfold Aa;rw [f9,h1];simp
 .rw [List.head?_eq_getElem?];unfold vK;rw [mC,if_pos (by lia),mD];exact h2
 .rw [List.getLast?_eq_getElem?,li];unfold vK;rw [mC,if_pos (by lia),mD,show i+1+(j-i-1)=j by lia];exact h3
 .rw [li];unfold Aa;rw [bD,bK,cD];lia
theorem abu {a b:Int}(h:(a,b)∈al r):r[(al r).idxOf (a,b)]?=some a/\r[(al r).idxOf (a,b)+1]?=some b:=by
 have hl:(al r).idxOf (a,b)<(al r).length:=fe.mpr h;refine Xb.mp ?_;rw [ay hl,Ca]
structure RZ (r X Y:List Int) (a b:Int):Prop where
 x:mL X
 y:mL Y
 ha:a∈X
 hb:b∈Y
 dis:∀ c∈Y,c∉X
 pm:(al r).Perm ((a,b)::(b,a)::(al X++al Y))
 len:X.length+Y.length+1=r.length
theorem mL.parted {a b:Int}(h:mL r) (hm:(a,b)∈al r) (hab:a≠b):RZ r (zO r a b).1 (zO r a b).2 a b:=by
 obtain ⟨p1,p2⟩:=abu hm;obtain ⟨q1,q2⟩:=abu (h.sym a b hm);unfold zO;generalize (al r).idxOf (a,b)=i at p1 p2;generalize (al r).idxOf (b,a)=j at q1 q2
 by_cases hij:i<j
 .rw [if_pos hij];obtain ⟨e1,e2,e3,e4,e5⟩:=Xc hij p1 p2 q1 q2;have hR:=h;rw [e1] at hR;obtain ⟨r1,r2,r3⟩:=mL.part _ (aB _) hR e3 e4;refine ⟨by rw [e2];exact r2,r1,by rw [e2];simp,kx (by rw [e3];rfl),λc hc=>by rw [e2];exact r3 c hc,?_,by simp only;lia⟩;simp only;rw [e2];have hp:=JX (xs:=r.take i) (ys:=r.drop (j+2)) (a:=a) e3 e4
  rwa [← e1] at hp
 .rw [if_neg hij]
  have hji:j<i:=by
   rcases Nat.lt_or_ge j i with q|q
   .exact q
   .have:i=j:=by lia
    subst this;rw [p1] at q1;exact absurd (aL q1) hab
  obtain ⟨e1,e2,e3,e4,e5⟩:=Xc hji q1 q2 p1 p2;have hR:=h;rw [e1] at hR;obtain ⟨r1,r2,r3⟩:=mL.part _ (aB _) hR e3 e4;refine ⟨r1,by rw [e2];exact r2,kx (by rw [e3];rfl),by rw [e2];simp,λc hc hx=>by rw [e2] at hc;exact r3 c hx hc,?_,by simp only;lia⟩;simp only;rw [e2];have hp:=JX (xs:=r.take j) (ys:=r.drop (i+2)) (a:=b) e3 e4;rw [← e1] at hp;refine hp.trans ((List.Perm.swap _ _ _).trans (mx _ (mx _ oe)))
end Rm
namespace Rm
theorem Nb (x y:Int) (l:List Int):al (x::y::l)=(x,y)::al (y::l):=rfl
end Rm
namespace Rm
variable {n:Nat}{R:Nat->List Int}
def Ea (r1 r2:List Int) (a b:Int):List Int:=r1.take (r1.idxOf a+1)++(tn r2 (r2.idxOf b)++r1.drop (r1.idxOf a))
structure Two (r1 r2:List Int) (a b:Int):Prop where
 h1:mL r1
 h2:mL r2
 ha:a∈r1
 hb:b∈r2
 dis:∀ x∈r2,x∉r1
theorem Two.facts {r1 r2:List Int}{a b:Int}(T:Two r1 r2 a b):mL (Ea r1 r2 a b)/\(al (Ea r1 r2 a b)).Perm ((a,b)::(b,a)::(al r1++al r2))/\(Ea r1 r2 a b).length=r1.length+r2.length+1:=by
 obtain ⟨t1,t2,t3,t4,t5⟩:=T.h2.turn T.hb;obtain ⟨xs,ys,e,el,hx⟩:=IJ T.ha
 have es:Ea r1 r2 a b=xs++a::(tn r2 (r2.idxOf b)++a::ys):=by
  unfold Ea;rw [← el]
  conv=>lhs;rw [e]
  have d1:(xs++a::ys).take (xs.length+1)=xs++[a]:=by
   rw [ab3,bV (by lia)];simp
  have d2:(xs++a::ys).drop xs.length=a::ys:=by simp
  rw [d1,d2];simp
 have hR:mL (xs++a::ys):=by rw [← e];exact T.h1
 have hd:∀ x∈tn r2 (r2.idxOf b),x∉xs++a::ys:=λx hx=>by rw [← e];exact T.dis x ((t4 x).mp hx)
 refine ⟨by rw [es];exact hR.adw t1 t3 hd,?_,?_⟩
 .rw [es,e]
  have t3':(tn r2 (r2.idxOf b)).getLast?=some b:=by rw [← t1.ends];exact t3
  exact (JX t3 t3').trans (mx _ (mx _ (tR _ t2)))
 .have hlt:(tn r2 (r2.idxOf b)).length=r2.length:=t5;unfold Ea;have:=JW T.ha;rw [bD,bD,bK,cD,hlt];lia
theorem Two.mem {r1 r2:List Int}{a b:Int}(T:Two r1 r2 a b) (x:Int):x∈Ea r1 r2 a b↔x∈r1\/x∈r2:=by
 obtain ⟨t1,t2,t3,t4,t5⟩:=T.h2.turn T.hb;unfold Ea;rw [aT,aT,t4]
 constructor
 .rintro (h|h|h)
  .exact .inl (x5 h)
  .exact .inr h
  .exact .inl (oQ h)
 .rintro (h|h)
  .rw [← ku (r1.idxOf a) r1] at h
   rcases aT.mp h with h|h
   .exact .inl (List.take_subset_take_left _ (iF _) h)
   .exact .inr (.inr h)
  .exact .inr (.inl h)
theorem RZ.mem {r X Y:List Int}{a b:Int}(P:RZ r X Y a b) (hr:mL r) (x:Int):x∈r↔x∈X\/x∈Y:=by
 have key:∀ {l:List Int},mL l->∀ {x:Int},x∈l->(l=[x]\/∃ y,(x,y)∈al l):=λ{l} hl {x} hx=>by
  obtain ⟨i,hi⟩:=bM.mp hx;have hlt:=(aE.mp hi).1
  by_cases h:i+1<l.length
  .exact .inr ⟨_,bM.mpr ⟨i,Xb.mpr ⟨hi,ay h⟩⟩⟩
  .by_cases h1:l.length=1
   .obtain ⟨c,rfl⟩:=List.length_eq_one_iff.mp h1
    have:i=0:=by simp at hlt;lia
    subst this;simp at hi;exact .inl (by rw [hi])
   .have e1:l[i-1]?=some l[i-1]:=ay (by lia);exact .inr ⟨_,hl.sym _ _ (bM.mpr ⟨i-1,Xb.mpr ⟨e1,by rw [show i-1+1=i by lia];exact hi⟩⟩)⟩
 constructor
 .intro hx
  rcases key hr hx with e|⟨y,hy⟩
  .have:=P.len;rw [e] at this;have h1:=Y1.mpr P.x.ne;have h2:=Y1.mpr P.y.ne;rw [Vm] at this;lia
  .rcases aj.mp (P.pm.mem_iff.mp hy) with e|hy
   .cases e;exact .inl P.ha
   .rcases aj.mp hy with e|hy
    .cases e;exact .inr P.hb
    .rcases aT.mp hy with hy|hy
     .exact .inl (gP hy).1
     .exact .inr (gP hy).1
 .intro hx;have Mo:∀ {u v:Int},(u,v)∈(a,b)::(b,a)::(al X++al Y)->u∈r:=λh=>(gP (P.pm.mem_iff.mpr h)).1
  rcases hx with hx|hx
  .rcases key P.x hx with e|⟨y,hy⟩
   .have:=P.ha;rw [e] at this;rw [← aA.mp this];exact Mo (v:=b) ah
   .exact Mo (v:=y) (ae _ (ae _ (bT _ hy)))
  .rcases key P.y hx with e|⟨y,hy⟩
   .have:=P.hb;rw [e] at this;rw [← aA.mp this];exact Mo (v:=a) (ae _ ah)
   .exact Mo (v:=y) (ae _ (ae _ (a8 _ hy)))
structure Wd (n:Nat) (R:Nat->List Int):Prop where
 r:∀ i,i<n->mL (R i)
 me:∀ i:Nat,i<n->(i:Int)∈R i
 Mo:∀ i,i<n->∀ x∈R i,∃ j:Nat,j<n/\x=(j:Int)/\R j=R i
def Ed (n:Nat) (R:Nat->List Int) (x y:Int):Prop:=∃ i,i<n/\(x,y)∈al (R i)
theorem Wd.start (n:Nat):Wd n λi=>[(i:Int)] :=
 ⟨λi _=>mL.one _,λi _=>by simp,λi hi x hx=>⟨i,hi,by simpa using hx,rfl⟩⟩
theorem Wd.same (W:Wd n R) {i j:Nat}(hi:i<n) (hj:j<n) {x:Int}(h1:x∈R i) (h2:x∈R j):R i=R j:=by
 obtain ⟨k,hk,e1,e2⟩:=W.Mo i hi x h1;obtain ⟨k',hk',e3,e4⟩:=W.Mo j hj x h2
 have:k=k':=by lia
 subst this;rw [← e2,e4]
theorem Wd.head (W:Wd n R) {i j:Nat}(hi:i<n) (hj:j<n):((R i).head?=(R j).head?↔(j:Int)∈R i):=by
 constructor
 .intro e
  obtain ⟨x,hx⟩:∃ x,(R i).head?=some x:=by
   cases h:R i with
   | nil=>exact absurd h (W.r i hi).ne
   | cons a l=>exact ⟨a,rfl⟩
  rw [W.same hi hj (kx hx) (kx (e▸hx))];exact W.me j hj
 .intro h;rw [W.same hi hj h (W.me j hj)]
theorem Ed.at (W:Wd n R) {x y:Int}(h:Ed n R x y) {i:Nat}(hi:i<n) (hx:x∈R i):(x,y)∈al (R i):=by
 obtain ⟨j,hj,hm⟩:=h;rw [W.same hi hj hx (gP hm).1];exact hm
theorem Ed.symm (W:Wd n R) {x y:Int}(h:Ed n R x y):Ed n R y x:=let ⟨i,hi,hm⟩:=h;⟨i,hi,(W.r i hi).sym _ _ hm⟩
theorem Wd.link (W:Wd n R) {a b:Nat}(ha:a<n) (hb:b<n) (hn:(b:Int)∉R a) :
  Two (R a) (R b) a b/\Wd n (λi=>if (i:Int)∈Ea (R a) (R b) a b then Ea (R a) (R b) a b else R i) /\
   ∀ x y,Ed n (λi=>if (i:Int)∈Ea (R a) (R b) a b then Ea (R a) (R b) a b else R i) x y↔(Ed n R x y\/(x,y)=((a:Int),(b:Int))\/(x,y)=((b:Int),(a:Int))):=by
 have T:Two (R a) (R b) a b:=⟨W.r a ha,W.r b hb,W.me a ha,W.me b hb,λx h2 h1=>hn (by rw [W.same ha hb h1 h2];exact W.me b hb)⟩
 obtain ⟨f1,f2,f3⟩:=T.facts;have fm:=T.mem;generalize Ea (R a) (R b) a b=s at f1 f2 f3 fm
 have hs:∀ x∈s,∃ j:Nat,j<n/\x=(j:Int)/\(j:Int)∈s:=λx hx=>by
  rcases (fm x).mp hx with h|h
  .obtain ⟨j,hj,e,_⟩:=W.Mo a ha x h;exact ⟨j,hj,e,e▸hx⟩
  .obtain ⟨j,hj,e,_⟩:=W.Mo b hb x h;exact ⟨j,hj,e,e▸hx⟩
 have nos:∀ i,i<n->(i:Int)∉s->∀ x∈R i,x∉s:=λi hi h x hx hxs=>by
  rcases (fm x).mp hxs with q|q
  .exact h ((fm i).mpr (.inl (W.same ha hi q hx▸W.me i hi)))
  .exact h ((fm i).mpr (.inr (W.same hb hi q hx▸W.me i hi)))
 refine ⟨T,⟨λi hi=>?_,λi hi=>?_,λi hi x hx=>?_⟩,λx y=>⟨?_,?_⟩⟩
 .by_cases c:(i:Int)∈s
  .rw [if_pos c];exact f1
  .rw [if_neg c];exact W.r i hi
 .by_cases c:(i:Int)∈s
  .rw [if_pos c];exact c
  .rw [if_neg c];exact W.me i hi
 .by_cases c:(i:Int)∈s
  .simp only [if_pos c] at hx ⊢;obtain ⟨j,hj,e,hjs⟩:=hs x hx;exact ⟨j,hj,e,if_pos hjs⟩
  .simp only [if_neg c] at hx ⊢;obtain ⟨j,hj,e,er⟩:=W.Mo i hi x hx;exact ⟨j,hj,e,by rw [if_neg (λh=>nos i hi c x hx (e▸h))];exact er⟩
 .rintro ⟨i,hi,hm⟩
  by_cases c:(i:Int)∈s
  .simp only [if_pos c] at hm
   rcases aj.mp (f2.mem_iff.mp hm) with e|hm
   .exact .inr (.inl e)
   .rcases aj.mp hm with e|hm
    .exact .inr (.inr e)
    .rcases aT.mp hm with h|h
     .exact .inl ⟨a,ha,h⟩
     .exact .inl ⟨b,hb,h⟩
  .simp only [if_neg c] at hm;exact .inl ⟨i,hi,hm⟩
 .have inS:∀ {u v:Int},(u,v)∈al s->Ed n (λi=>if (i:Int)∈s then s else R i) u v:=λh=>⟨a,ha,by simp only [if_pos ((fm a).mpr (.inl (W.me a ha)))];exact h⟩
  rintro (⟨i,hi,hm⟩|e|e)
  .by_cases c:(i:Int)∈s
   .refine inS (f2.mem_iff.mpr (ae _ (ae _ ?_)))
    rcases (fm i).mp c with h|h
    .rw [← W.same ha hi h (W.me i hi)] at hm;exact bT _ hm
    .rw [← W.same hb hi h (W.me i hi)] at hm;exact a8 _ hm
   .exact ⟨i,hi,by simp only [if_neg c];exact hm⟩
  .obtain ⟨rfl,rfl⟩:=c8 e;exact inS (f2.mem_iff.mpr ah)
  .obtain ⟨rfl,rfl⟩:=c8 e;exact inS (f2.mem_iff.mpr (ae _ ah))
theorem Wd.cut (W:Wd n R) {a b:Nat}(ha:a<n) (hb:b<n) (hab:a≠b) (hm:((a:Int),(b:Int))∈al (R a)) :
  Wd n (λi=>if (i:Int)∈(zO (R a) a b).2 then (zO (R a) a b).2 else if (i:Int)∈(zO (R a) a b).1 then (zO (R a) a b).1 else R i) /\
   ∀ x y,Ed n (λi=>if (i:Int)∈(zO (R a) a b).2 then (zO (R a) a b).2 else if (i:Int)∈(zO (R a) a b).1 then (zO (R a) a b).1 else R i) x y↔(Ed n R x y/\¬ (x,y)=((a:Int),(b:Int))/\¬ (x,y)=((b:Int),(a:Int))):=by
 have hR:=W.r a ha;have P:=hR.parted hm (by lia:(a:Int)≠b);have PM:=P.mem hR;generalize (zO (R a) a b).1=X at P PM;generalize (zO (R a) a b).2=Y at P PM;have nd:=P.pm.nodup_iff.mp hR.nd;have nab:=(bh.mp nd).1;have nba:=(bh.mp (bh.mp nd).2).1;have inr:∀ x∈R a,∃ j:Nat,j<n/\x=(j:Int)/\R j=R a:=W.Mo a ha;have nos:∀ i,i<n->(i:Int)∉R a->∀ x∈R i,x∉R a:=λi hi h x hx hxs=>h (W.same ha hi hxs hx▸W.me i hi);have sw:∀ i:Nat,(i:Int)∈Y->(i:Int)∉X:=λi h=>P.dis _ h;refine ⟨⟨λi hi=>?_,λi hi=>?_,λi hi x hx=>?_⟩,λx y=>⟨?_,?_⟩⟩
 .by_cases c2:(i:Int)∈Y
  .rw [if_pos c2];exact P.y
  .by_cases c1:(i:Int)∈X
   .rw [if_neg c2,if_pos c1];exact P.x
   .rw [if_neg c2,if_neg c1];exact W.r i hi
 .by_cases c2:(i:Int)∈Y
  .rw [if_pos c2];exact c2
  .by_cases c1:(i:Int)∈X
   .rw [if_neg c2,if_pos c1];exact c1
   .rw [if_neg c2,if_neg c1];exact W.me i hi
 .by_cases c2:(i:Int)∈Y
  .simp only [if_pos c2] at hx ⊢;obtain ⟨j,hj,e,_⟩:=inr x ((PM x).mpr (.inr hx));exact ⟨j,hj,e,if_pos (e▸hx)⟩
  .by_cases c1:(i:Int)∈X
   .simp only [if_neg c2,if_pos c1] at hx ⊢;obtain ⟨j,hj,e,_⟩:=inr x ((PM x).mpr (.inl hx));have hjX:(j:Int)∈X:=e▸hx;exact ⟨j,hj,e,by rw [if_neg (λh=>sw j h hjX),if_pos hjX]⟩
   .simp only [if_neg c2,if_neg c1] at hx ⊢;obtain ⟨j,hj,e,er⟩:=W.Mo i hi x hx;have hni:(i:Int)∉R a:=λh=>((PM i).mp h).elim c1 c2;have hnj:(j:Int)∉R a:=λh=>nos i hi hni x hx (e▸h);exact ⟨j,hj,e,by rw [if_neg (λh=>hnj ((PM j).mpr (.inr h))),if_neg (λh=>hnj ((PM j).mpr (.inl h)))];exact er⟩
 .have old:∀ {u v:Int},(u,v)∈al X++al Y->Ed n R u v/\¬ (u,v)=((a:Int),(b:Int))/\¬ (u,v)=((b:Int),(a:Int)):=λ{u v} h =>
   ⟨⟨a,ha,P.pm.mem_iff.mpr (ae _ (ae _ h))⟩,λe=>nab (ae _ (e▸h)),λe=>nba (e▸h)⟩
  rintro ⟨i,hi,h⟩
  by_cases c2:(i:Int)∈Y
  .simp only [if_pos c2] at h;exact old (a8 _ h)
  .by_cases c1:(i:Int)∈X
   .simp only [if_neg c2,if_pos c1] at h;exact old (bT _ h)
   .simp only [if_neg c2,if_neg c1] at h;have hni:(i:Int)∉R a:=λh=>((PM i).mp h).elim c1 c2;have hxa:x∉R a:=nos i hi hni x (gP h).1;refine ⟨⟨i,hi,h⟩,λe=>hxa ?_,λe=>hxa ?_⟩
    .rw [(c8 e).1];exact W.me a ha
    .rw [(c8 e).1];exact (PM _).mpr (.inr P.hb)
 .rintro ⟨h,e1,e2⟩
  by_cases hx:x∈R a
  .have hm:=Ed.at W h ha hx
   rcases aj.mp (P.pm.mem_iff.mp hm) with e|hm
   .exact absurd e e1
   .rcases aj.mp hm with e|hm
    .exact absurd e e2
    .rcases aT.mp hm with q|q
     .refine ⟨a,ha,?_⟩;simp only [if_neg (λh=>sw a h P.ha),if_pos P.ha];exact q
     .refine ⟨b,hb,?_⟩;simp only [if_pos P.hb];exact q
  .obtain ⟨i,hi,hm⟩:=h;have hni:(i:Int)∉R a:=λh=>hx (W.same ha hi h (W.me i hi)▸(gP hm).1);refine ⟨i,hi,?_⟩;simp only [if_neg (λh=>hni ((PM i).mpr (.inr h))),if_neg (λh=>hni ((PM i).mpr (.inl h)))];exact hm
theorem ac7 {M:Int->Prop}:∀ {l:List Int},(∀ x y,(x,y)∈al l->(M x↔M y))->(∃ a∈l,M a)->∀ x∈l,M x
 | [],_,_,x,hx=>nomatch hx
 | [c],_,⟨a,ha,hM⟩,x,hx=>by
  rw [aA.mp hx,← aA.mp ha];exact hM
 | c::d::t,h,⟨a,ha,hM⟩,x,hx=>by
  have hcd:=h c d (by rw [Nb];exact ah);have ih:=ac7 (l:=d::t) λx y hm=>h x y (by rw [Nb];exact ae _ hm)
  have hd:M d:=by
   rcases aj.mp ha with e|ha
   .exact hcd.mp (e▸hM)
   .exact ih ⟨a,ha,hM⟩ d ah
  rcases aj.mp hx with e|hx
  .rw [e];exact hcd.mpr hd
  .exact ih ⟨d,ah,hd⟩ x hx
theorem few {l:List Int}(hn:l.Nodup) (h:∀ x∈l,∃ j:Nat,j<n/\x=(j:Int)):l.length<=n:=by
 have e:=rP (ds:=(eh n).map λi:Nat=>(i:Int)) (r:=l) (by
  rw [Mt,sP]
  exact List.Pairwise.imp (λh e=>h (by lia)) (Mt.mp List.nodup_range)) λx hx=>by
   obtain ⟨j,hj,e⟩:=h x hx;exact bS.mpr ⟨j,Mp.mpr hj,e.symm⟩
 have le:∀ (ds:List Int),(ds.map λd=>l.count d).sum<=ds.length:=λds=>by
  induction ds with
  | nil=>simp
  | cons d ds ih =>
   have:l.count d<=1:=VP.mp hn d;simp only [bu,fX,bz];lia
 have:=le ((eh n).map λi:Nat=>(i:Int));rw [e] at this
 simpa using this
theorem Wd.len (W:Wd n R) {i:Nat}(hi:i<n):(R i).length+1<=2*n:=by
 obtain ⟨ds,h1,h2,h3⟩:=(W.r i hi).cnt
 have:=few h1 λx hx=>let ⟨j,hj,e,_⟩:=W.Mo i hi x ((h2 x).mp hx);⟨j,hj,e⟩
 lia
end Rm
namespace Rm
end Rm
namespace Rm
end Rm
namespace Rm
def lk (R:Nat->List Int) (a b:Nat):Nat->List Int:=λi=>if (i:Int)∈Ea (R a) (R b) a b then Ea (R a) (R b) a b else R i
def ct (R:Nat->List Int) (a b:Nat):Nat->List Int:=λi=>if (i:Int)∈(zO (R a) a b).2 then (zO (R a) a b).2 else if (i:Int)∈(zO (R a) a b).1 then (zO (R a) a b).1 else R i
theorem SQ {r s:List Int}(hr:mL r) (hs:mL s) (h:∀ x∈r,x∈s):r.length<=s.length:=by
 obtain ⟨d,d1,d2,d3⟩:=hr.cnt;obtain ⟨e,e1,e2,e3⟩:=hs.cnt;have q:=rP (ds:=e) (r:=d) e1 λx hx=>(e2 x).mpr (h x ((d2 x).mp hx))
 have le:∀ (ds:List Int),(ds.map λc=>d.count c).sum<=ds.length:=λds=>by
  induction ds with
  | nil=>simp
  | cons c ds ih =>
   have:d.count c<=1:=VP.mp d1 c;simp only [bu,fX,bz];lia
 have:=le e;lia
section
variable {n:Nat}{R R':Nat->List Int}{x y z a b:Nat}
theorem Wd.sub (W:Wd n R) (W':Wd n R') (h:∀ x y,Ed n R x y->Ed n R' x y) (hx:x<n):∀ c∈R x,c∈R' x :=
 ac7 (M:=λc=>c∈R' x) (λu v hm =>
  have e:=h u v ⟨x,hx,hm⟩
  ⟨λhu=>(gP (Ed.at W' e hx hu)).2,λhv=>(gP (Ed.at W' (Ed.symm W' e) hx hv)).2⟩) ⟨x,W.me x hx,W'.me x hx⟩
theorem Wd.sy (W:Wd n R) (hx:x<n) (hy:y<n) (h:(y:Int)∈R x):(x:Int)∈R y:=W.same hx hy h (W.me y hy)▸W.me x hx
theorem Wd.eq (W:Wd n R) (hx:x<n) (hy:y<n) (h:(y:Int)∈R x):R x=R y:=W.same hx hy h (W.me y hy)
theorem Wd.lk (W:Wd n R) (ha:a<n) (hb:b<n) (hn:(b:Int)∉R a):Wd n (lk R a b):=(W.link ha hb hn).2.1
theorem Wd.YH (W:Wd n R) (ha:a<n) (hb:b<n) (hn:(b:Int)∉R a) (x y:Int):Ed n (Rm.lk R a b) x y↔(Ed n R x y\/(x,y)=((a:Int),(b:Int))\/(x,y)=((b:Int),(a:Int))):=(W.link ha hb hn).2.2 x y
theorem Wd.Jg (W:Wd n R) (ha:a<n) (hb:b<n) (hn:(b:Int)∉R a) (h:(x:Int)∈R a\/(x:Int)∈R b):(∀ c,c∈Rm.lk R a b x↔c∈R a\/c∈R b)/\(Rm.lk R a b x).length=(R a).length+(R b).length+1:=by
 have T:=(W.link ha hb hn).1;have e:Rm.lk R a b x=Ea (R a) (R b) a b:=if_pos ((T.mem x).mpr h);rw [e];exact ⟨T.mem,T.facts.2.2⟩
theorem Wd.YM (W:Wd n R) (ha:a<n) (hb:b<n) (hn:(b:Int)∉R a) (h1:(x:Int)∉R a) (h2:(x:Int)∉R b):Rm.lk R a b x=R x :=
 if_neg λh=>((((W.link ha hb hn).1).mem x).mp h).elim h1 h2
theorem Wd.abM (W:Wd n R) (ha:a<n) (hb:b<n) (hn:(b:Int)∉R a) (hx:x<n):∀ c∈R x,c∈Rm.lk R a b x :=
 W.sub (W.lk ha hb hn) (λu v h=>(W.YH ha hb hn u v).mpr (.inl h)) hx
theorem Wd.ct (W:Wd n R) (ha:a<n) (hb:b<n) (hab:a≠b) (hm:Ed n R a b):Wd n (ct R a b):=(W.cut ha hb hab (Ed.at W hm ha (W.me a ha))).1
theorem Wd.YJ (W:Wd n R) (ha:a<n) (hb:b<n) (hab:a≠b) (hm:Ed n R a b) (x y:Int):Ed n (Rm.ct R a b) x y↔(Ed n R x y/\¬ (x,y)=((a:Int),(b:Int))/\¬ (x,y)=((b:Int),(a:Int))):=(W.cut ha hb hab (Ed.at W hm ha (W.me a ha))).2 x y
theorem Wd.abO (W:Wd n R) (ha:a<n) (hb:b<n) (hab:a≠b) (hm:Ed n R a b):(b:Int)∉Rm.ct R a b a/\(∀ c,c∈R a↔c∈Rm.ct R a b a\/c∈Rm.ct R a b b)/\(Rm.ct R a b a).length+(Rm.ct R a b b).length+1=(R a).length:=by
 have hR:=W.r a ha;have P:=hR.parted (Ed.at W hm ha (W.me a ha)) (by lia:(a:Int)≠b);have PM:=P.mem hR;have e1:Rm.ct R a b b=(zO (R a) a b).2:=if_pos P.hb
 have e2:Rm.ct R a b a=(zO (R a) a b).1:=by
  show (if _ then _ else if _ then _ else _)=_
  rw [if_neg λh=>P.dis _ h P.ha,if_pos P.ha]
 rw [e1,e2];exact ⟨P.dis _ P.hb,PM,P.len⟩
theorem Wd.adx (W:Wd n R) (ha:a<n) (hb:b<n) (hab:a≠b) (hm:Ed n R a b) (h:(x:Int)∉R a):Rm.ct R a b x=R x:=by
 have hR:=W.r a ha;have PM:=(hR.parted (Ed.at W hm ha (W.me a ha)) (by lia:(a:Int)≠b)).mem hR
 show (if _ then _ else if _ then _ else _)=_
 rw [if_neg λq=>h ((PM _).mpr (.inr q)),if_neg λq=>h ((PM _).mpr (.inl q))]
end
structure Ti where
 x:Nat
 y:Nat
 cF:Nat
 wd:Bool
def Ti.key (t:Ti):Int×Int:=((t.x:Int),(t.y:Int))
def Ti.Is (t:Ti) (u v:Int):Prop:=(u,v)=((t.x:Int),(t.y:Int))\/(u,v)=((t.y:Int),(t.x:Int))
def Ti.up (t:Ti):Ti:={ t with cF:=t.cF+1 }
def Ti.vP (t:Ti):Ti:={ t with wd:=true }
theorem Ti.YN {t u:Ti}(h:t.key=u.key):t.x=u.x/\t.y=u.y:=by
 obtain ⟨h1,h2⟩:=c8 h;lia
theorem Ti.xK {t u:Ti}(ht:t.x<t.y) (hu:u.x<u.y) (h:t.Is u.x u.y):t.key=u.key:=by
 rcases h with h|h<;>obtain ⟨h1,h2⟩:=c8 h
 .exact Prod.ext h1.symm h2.symm
 .lia
theorem Ti.Tp {t:Ti}{u v:Int}:t.Is u v->t.Is v u:=λh=>h.elim (λh=>.inr (by rw [Mh] at h ⊢;exact ⟨h.2,h.1⟩)) (λh=>.inl (by rw [Mh] at h ⊢;exact ⟨h.2,h.1⟩))
structure Lv (n T:Nat) (ts:List Ti) (R:Nat->Nat->List Int):Prop where
 wd:∀ i,i<=T->Wd n (R i)
 ed:∀ i,i<=T->∀ u v:Int,Ed n (R i) u v↔∃ t∈ts,t.wd=true/\i<=t.cF/\t.Is u v
 sz:∀ i,i<=T->∀ x,x<n->((R i x).length+1)*2^i<=2*n
 lt:∀ t∈ts,t.x<t.y/\t.y<n/\t.cF<=T
 nd:(ts.map Ti.key).Nodup
def Jn (ts:List Ti) (R:Nat->Nat->List Int):Prop:=∀ t∈ts,(t.y:Int)∈R t.cF t.x
theorem mP {ts:List Ti}(h:(ts.map Ti.key).Nodup) {t u:Ti}(ht:t∈ts) (hu:u∈ts) (e:t.key=u.key):t=u:=by
 induction ts with
 | nil=>nomatch ht
 | cons s ts ih =>
  rw [bu,bh] at h
  rcases aj.mp ht with rfl|ht'<;>rcases aj.mp hu with rfl|hu'
  .rfl
  .exact absurd (e▸bq hu') h.1
  .exact absurd (e▸bq ht') h.1
  .exact ih h.2 ht' hu'
def gW (ts:List Ti) (k:Int×Int) (f:Ti->Ti):List Ti:=ts.map λt=>if t.key=k then f t else t
section
variable {n T:Nat}{ts:List Ti}{R:Nat->Nat->List Int}{t:Ti}{f:Ti->Ti}
theorem lG (hf:∀ t,(f t).key=t.key) (k:Int×Int):(gW ts k f).map Ti.key=ts.map Ti.key:=by
 unfold gW;rw [bO]
 exact eV λu _=>by
  show Ti.key (if _ then _ else _)=_
  split
  .exact hf u
  .rfl
theorem lW (hnd:(ts.map Ti.key).Nodup) (ht:t∈ts) (u:Ti):u∈gW ts t.key f↔u=f t\/(u∈ts/\u.key≠t.key):=by
 unfold gW;rw [bS]
 constructor
 .rintro ⟨v,hv,e⟩
  by_cases c:v.key=t.key
  .rw [if_pos c] at e;rw [mP hnd hv ht c] at e;exact .inl e.symm
  .rw [if_neg c] at e;subst e;exact .inr ⟨hv,c⟩
 .rintro (e|⟨h,c⟩)
  .exact ⟨t,ht,by rw [if_pos rfl,e]⟩
  .exact ⟨u,h,if_neg c⟩
theorem Lv.mono (L:Lv n T ts R) {i j x:Nat}(hij:i<=j) (hj:j<=T) (hx:x<n):∀ c∈R j x,c∈R i x :=
 (L.wd j hj).sub (L.wd i (a9 hij hj)) (λu v h=>by
  obtain ⟨t,h1,h2,h3,h4⟩:=(L.ed j hj u v).mp h
  exact (L.ed i (a9 hij hj) u v).mpr ⟨t,h1,h2,a9 hij h3,h4⟩) hx
theorem Lv.apart (L:Lv n T ts R) (ht:t∈ts) (hw:t.wd=true) {i:Nat}(hi:t.cF<i) (hT:i<=T):(t.y:Int)∉R i t.x:=by
 obtain ⟨h1,h2,h3⟩:=L.lt t ht;have W:=L.wd t.cF h3;have e:Ed n (R t.cF) t.x t.y:=(L.ed _ h3 _ _).mpr ⟨t,ht,hw,aB _,.inl rfl⟩;have c:=W.abO (a:=t.x) (b:=t.y) (by lia) h2 (by lia) e;intro hin;refine c.1 ((L.wd i hT).sub (W.ct (a:=t.x) (b:=t.y) (by lia) h2 (by lia) e) (λu v h=>?_) (by lia) _ hin);obtain ⟨s,s1,s2,s3,s4⟩:=(L.ed i hT u v).mp h
 have ne:¬ t.Is u v:=λq=>by
  have:s.key=t.key:=by
   obtain ⟨l1,l2,l3⟩:=L.lt s s1
   rcases q with q|q<;>obtain ⟨rfl,rfl⟩:=c8 q
   .exact Ti.xK l1 h1 s4
   .exact Ti.xK l1 h1 (Ti.Tp s4)
  rw [mP L.nd s1 ht this] at s3;lia
 exact (W.YJ (a:=t.x) (b:=t.y) (by lia) h2 (by lia) e u v).mpr ⟨(L.ed _ h3 u v).mpr ⟨s,s1,s2,by lia,s4⟩,λq=>ne (.inl q),λq=>ne (.inr q)⟩
def upR (R:Nat->Nat->List Int) (j x y:Nat):Nat->Nat->List Int:=λi=>if i=j then lk (R j) x y else R i
def Gm (R:Nat->Nat->List Int) (l x y:Nat):Nat->Nat->List Int:=λi=>if i<=l then lk (R i) x y else R i
def drR (R:Nat->Nat->List Int) (l x y:Nat):Nat->Nat->List Int:=λi=>if i<=l then ct (R i) x y else R i
theorem Lv.xK (L:Lv n T ts R) {s:Ti}(hs:s∈ts) (ht:t∈ts) {u v:Int}(h1:s.Is u v) (h2:t.Is u v):s=t:=by
 refine mP L.nd hs ht ?_
 rcases h2 with q|q<;>obtain ⟨rfl,rfl⟩:=c8 q
 .exact Ti.xK (L.lt s hs).1 (L.lt t ht).1 h1
 .exact Ti.xK (L.lt s hs).1 (L.lt t ht).1 (Ti.Tp h1)
structure Dn (n T:Nat) (ts:List Ti) (R:Nat->Nat->List Int) (a b k:Nat):Prop where
 lv:Lv n T ts R
 ha:a<n
 hb:b<n
 hk:k<=T+1
 ap:(b:Int)∉R 0 a
 s2:∀ i,i<k->((R i a).length+(R i b).length+2)*2^i<=2*n
 jn:∀ t∈ts,(t.y:Int)∈R t.cF t.x\/(t.cF<k/\((t.x:Int)∈R t.cF a/\(t.y:Int)∈R t.cF b\/(t.x:Int)∈R t.cF b/\(t.y:Int)∈R t.cF a))
variable {a b k l:Nat}
theorem Dn.swap (D:Dn n T ts R a b k):Dn n T ts R b a k :=
 ⟨D.lv,D.hb,D.ha,D.hk,λh=>D.ap ((D.lv.wd 0 (bC _)).sy D.hb D.ha h),λi hi=>by have:=D.s2 i hi;rwa [Gk (R i b).length],λt ht=>(D.jn t ht).imp_right λh=>⟨h.1,h.2.symm⟩⟩
theorem Dn.done (D:Dn n T ts R a b 0):Jn ts R:=λt ht=>(D.jn t ht).resolve_right λh=>by lia
theorem Dn.apart (D:Dn n T ts R a b k) {i:Nat}(hi:i<=T):(b:Int)∉R i a:=λh=>D.ap (D.lv.mono (bC _) hi D.ha _ h)
theorem Lv.drop (L:Lv n T ts R) (J:Jn ts R) (ht:t∈ts) (hw:t.wd=true):Dn n T (ts.filter λu=>decide (u.key≠t.key)) (drR R t.cF t.x t.y) t.x t.y (t.cF+1):=by
 obtain ⟨h1,h2,h3⟩:=L.lt t ht
 have hx:t.x<n:=by lia
 have hne:t.x≠t.y:=by lia
 have e:∀ i,i<=t.cF->Ed n (R i) t.x t.y:=λi hi=>(L.ed i (by lia) _ _).mpr ⟨t,ht,hw,hi,.inl rfl⟩;have lo:∀ i,i<=t.cF->drR R t.cF t.x t.y i=ct (R i) t.x t.y:=λi hi=>if_pos hi;have hi':∀ i,¬ i<=t.cF->drR R t.cF t.x t.y i=R i:=λi hi=>if_neg hi
 have mm:∀ u,u∈ts.filter (λu=>decide (u.key≠t.key))↔u∈ts/\u≠t:=λu=>by
  rw [ig,decide_eq_true_iff];exact and_congr_right λhu=>not_congr ⟨λq=>mP L.nd hu ht q,λq=>q▸rfl⟩
 have C:=λi (hi:i<=t.cF)=>(L.wd i (by lia)).abO hx h2 hne (e i hi);refine ⟨⟨λi hi=>?_,λi hi u v=>?_,λi hi x hx'=>?_,λu hu=>L.lt u ((mm u).mp hu).1,?_⟩,hx,h2,by lia,?_,λi hi=>?_,λu hu=>?_⟩
 .by_cases c:i<=t.cF
  .rw [lo i c];exact (L.wd i hi).ct hx h2 hne (e i c)
  .rw [hi' i c];exact L.wd i hi
 .by_cases c:i<=t.cF
  .rw [lo i c,(L.wd i hi).YJ hx h2 hne (e i c),L.ed i hi]
   constructor
   .rintro ⟨⟨s,s1,s2,s3,s4⟩,n1,n2⟩;exact ⟨s,(mm s).mpr ⟨s1,λq=>(q▸s4).elim n1 n2⟩,s2,s3,s4⟩
   .rintro ⟨s,s1,s2,s3,s4⟩;have s5:=(mm s).mp s1;exact ⟨⟨s,s5.1,s2,s3,s4⟩,λq=>s5.2 (L.xK s5.1 ht s4 (.inl q)),λq=>s5.2 (L.xK s5.1 ht s4 (.inr q))⟩
  .rw [hi' i c,L.ed i hi]
   constructor
   .rintro ⟨s,s1,s2,s3,s4⟩;exact ⟨s,(mm s).mpr ⟨s1,λq=>c (q▸s3)⟩,s2,s3,s4⟩
   .rintro ⟨s,s1,s2⟩;exact ⟨s,((mm s).mp s1).1,s2⟩
 .refine a9 (pS _ (jM ?_)) (L.sz i hi x hx')
  by_cases c:i<=t.cF
  .rw [lo i c];have W':=(L.wd i hi).ct hx h2 hne (e i c);exact SQ (W'.r x hx') ((L.wd i hi).r x hx') (W'.sub (L.wd i hi) (λu v q=>(((L.wd i hi).YJ hx h2 hne (e i c) u v).mp q).1) hx')
  .rw [hi' i c];exact aB _
 .exact (x4 _ lO).nodup L.nd
 .rw [lo 0 (bC _)];exact (C 0 (bC _)).1
 .rw [lo i (by lia)];have:=(C i (by lia)).2.2;have:=L.sz i (by lia) t.x hx
  have e:(ct (R i) t.x t.y t.x).length+(ct (R i) t.x t.y t.y).length+2=(R i t.x).length+1:=by lia
  rw [e];exact this
 .obtain ⟨q1,q2⟩:=(mm u).mp hu;have j:=J u q1;obtain ⟨u1,u2,u3⟩:=L.lt u q1
  by_cases c:u.cF<=t.cF
  .rw [lo _ c];have W:=L.wd _ u3;have W':=W.ct hx h2 hne (e _ c)
   by_cases d:(u.x:Int)∈R u.cF t.x
   .have d':(u.y:Int)∈R u.cF t.x:=by rw [W.eq hx (by lia) d];exact j
    rcases ((C _ c).2.1 _).mp d with p|p<;>rcases ((C _ c).2.1 _).mp d' with p'|p'
    .exact .inl (by rw [← W'.eq hx (by lia) p];exact p')
    .exact .inr ⟨by lia,.inl ⟨p,p'⟩⟩
    .exact .inr ⟨by lia,.inr ⟨p,p'⟩⟩
    .exact .inl (by rw [← W'.eq h2 (by lia) p];exact p')
   .rw [W.adx hx h2 hne (e _ c) d];exact .inl j
  .rw [hi' _ c];exact .inl j
theorem Dn.few (D:Dn n T ts R a b (l+1)) (hT:∀ j,2^(j+1)<=n->j<=T) (hs:((R l a).length+1)*2^(l+1)<=2*n) {x y:Nat}(hx:(x:Int)∈R l a) (hy:(y:Int)∈R l a) (hxy:x≠y):l+1<=T:=by
 have hl:l<=T:=by have:=D.hk;lia
 obtain ⟨d,d1,d2,d3⟩:=((D.lv.wd l hl).r a D.ha).cnt
 have:2<=d.length:=by
  have hx':=(d2 _).mpr hx;have hy':=(d2 _).mpr hy
  match d,d1,hx',hy' with
  | [c],_,hx',hy' =>
   rw [aA] at hx' hy'
   lia
  | c::e::r,_,_,_=>simp
 refine hT _ ?_;have h4:4*2^(l+1)<=((R l a).length+1)*2^(l+1):=pS _ (by lia);have:=VB 2 (l+1);lia
theorem Dn.afg (D:Dn n T ts R a b (l+1)) (hT:∀ j,2^(j+1)<=n->j<=T) (hs:((R l a).length+1)*2^(l+1)<=2*n) (ht:t∈ts) (hw:t.wd=true) (hl:t.cF=l) (hx:(t.x:Int)∈R l a) (hy:(t.y:Int)∈R l a) :
  l+1<=T/\(t.y:Int)∉R (l+1) t.x/\Dn n T (gW ts t.key Ti.up) (upR R (l+1) t.x t.y) a b (l+1):=by
 have L:=D.lv;obtain ⟨h1,h2,h3⟩:=L.lt t ht;have hl1:l+1<=T:=D.few hT hs hx hy (by lia);have hap:=L.apart ht hw (i:=l+1) (by lia) hl1
 have hxn:t.x<n:=by lia
 have W:=L.wd _ hl1;have hi':∀ i,i≠l+1->upR R (l+1) t.x t.y i=R i:=λi hi=>if_neg hi;have at':upR R (l+1) t.x t.y (l+1)=lk (R (l+1)) t.x t.y:=if_pos rfl;have mm:=lW (f:=Ti.up) L.nd ht;have kk:∀ u,u∈ts->u≠t->u.key≠t.key:=λu hu hne q=>hne (mP L.nd hu ht q);have lo:=L.wd l (by lia);refine ⟨hl1,hap,⟨λi hi=>?_,λi hi u v=>?_,λi hi x hx'=>?_,λu hu=>?_,?_⟩,D.ha,D.hb,D.hk,?_,λi hi=>?_,λu hu=>?_⟩
 .by_cases c:i=l+1
  .subst c;rw [at'];exact W.lk hxn h2 hap
  .rw [hi' i c];exact L.wd i hi
 .have:(∃ s∈gW ts t.key Ti.up,s.wd=true/\i<=s.cF/\s.Is u v)↔(i<=l+1/\t.Is u v)\/∃ s∈ts,s≠t/\s.wd=true/\i<=s.cF/\s.Is u v:=by
   constructor
   .rintro ⟨s,s1,s2⟩
    rcases (mm s).mp s1 with rfl|⟨q1,q2⟩
    .exact .inl ⟨by have:i<=t.cF+1:=s2.2.1;lia,s2.2.2⟩
    .exact .inr ⟨s,q1,λq=>q2 (q▸rfl),s2⟩
   .rintro (⟨q1,q2⟩|⟨s,s1,s2,s3⟩)
    .exact ⟨t.up,(mm _).mpr (.inl rfl),hw,by show i<=t.cF+1;lia,q2⟩
    .exact ⟨s,(mm _).mpr (.inr ⟨s1,kk s s1 s2⟩),s3⟩
  rw [this]
  have old:Ed n (R i) u v↔(i<=l/\t.Is u v)\/∃ s∈ts,s≠t/\s.wd=true/\i<=s.cF/\s.Is u v:=by
   rw [L.ed i hi]
   constructor
   .rintro ⟨s,s1,s2,s3,s4⟩
    by_cases q:s=t
    .subst q;exact .inl ⟨by lia,s4⟩
    .exact .inr ⟨s,s1,q,s2,s3,s4⟩
   .rintro (⟨q1,q2⟩|⟨s,s1,s2,s3⟩)
    .exact ⟨t,ht,hw,by lia,q2⟩
    .exact ⟨s,s1,s3⟩
  by_cases c:i=l+1
  .subst c;rw [at',W.YH hxn h2 hap,old]
   constructor
   .rintro ((⟨q,_⟩|q)|q)
    .lia
    .exact .inr q
    .exact .inl ⟨aB _,q⟩
   .rintro (⟨_,q⟩|q)
    .exact .inr q
    .exact .inl (.inr q)
  .rw [hi' i c,old];exact or_congr_left (and_congr_left λ_=>by lia)
 .by_cases c:i=l+1
  .subst c;rw [at']
   by_cases d:(x:Int)∈R (l+1) t.x\/(x:Int)∈R (l+1) t.y
   .refine a9 (pS _ (jM ?_)) hs;refine SQ ((W.lk hxn h2 hap).r x hx') (lo.r a D.ha) λc hc=>?_
    rcases ((W.Jg hxn h2 hap d).1 c).mp hc with q|q
    .rw [lo.eq D.ha hxn hx];exact L.mono (iF l) hl1 hxn _ q
    .rw [lo.eq D.ha h2 hy];exact L.mono (iF l) hl1 h2 _ q
   .rw [W.YM hxn h2 hap (λq=>d (.inl q)) (λq=>d (.inr q))];exact L.sz _ hi x hx'
  .rw [hi' i c];exact L.sz i hi x hx'
 .rcases (mm u).mp hu with rfl|⟨q,_⟩
  .exact ⟨h1,h2,by show t.cF+1<=T;lia⟩
  .exact L.lt u q
 .exact (lG (f:=Ti.up) (λ_=>rfl) t.key).symm▸L.nd
 .rw [hi' 0 (by lia)];exact D.ap
 .rw [hi' i (by lia)];exact D.s2 i hi
 .rcases (mm u).mp hu with rfl|⟨q,_⟩
  .have:t.up.cF=l+1:=by show t.cF+1=l+1;lia
   rw [this,at'];exact .inl (((W.Jg (x:=t.x) hxn h2 hap (.inl (W.me _ hxn))).1 _).mpr (.inr (W.me _ h2)))
  .have j:=D.jn u q;obtain ⟨u1,u2,u3⟩:=L.lt u q
   by_cases c:u.cF=l+1
   .rw [c] at j ⊢;rw [at'];exact .inl (W.abM hxn h2 hap (by lia) _ (j.resolve_right λq=>by lia))
   .rw [hi' _ c];exact j
theorem Dn.full (D:Dn n T ts R a b (l+1)) (hno:∀ t∈ts,t.wd=true->t.cF=l->(t.x:Int)∈R l a->(t.y:Int)∈R l a->False) (hl:l+1<=T) {x y:Nat}(hx:x<n) (hy:y<n) (h1:(x:Int)∈R l a) (h2:(y:Int)∈R l a):(y:Int)∈R (l+1) x:=by
 have L:=D.lv;have W:=L.wd l (by lia);have V:=L.wd (l+1) hl;have e:=W.eq D.ha hx h1;refine ac7 (M:=λc=>c∈R (l+1) x) (l:=R l a) (λu v hm=>?_) ⟨x,h1,V.me x hx⟩ y h2;obtain ⟨t,t1,t2,t3,t4⟩:=(L.ed l (by lia) u v).mp ⟨a,D.ha,hm⟩;have m:=gP hm
 have ne:t.cF≠l:=λq=>by
  rcases t4 with p|p<;>obtain ⟨rfl,rfl⟩:=c8 p
  .exact hno t t1 t2 q m.1 m.2
  .exact hno t t1 t2 q m.2 m.1
 have E:Ed n (R (l+1)) u v:=(L.ed _ hl u v).mpr ⟨t,t1,t2,by lia,t4⟩;exact ⟨λhu=>(gP (Ed.at V E hx hu)).2,λhv=>(gP (Ed.at V (Ed.symm V E) hx hv)).2⟩
theorem Dn.afk (D:Dn n T ts R a b (l+1)) (ht:t∈ts) (hw:t.wd=false) (hl:t.cF=l) (hl1:l+1<=T) (hj:(t.y:Int)∈R (l+1) t.x):Dn n T (gW ts t.key Ti.up) R a b (l+1):=by
 have L:=D.lv;obtain ⟨h1,h2,h3⟩:=L.lt t ht;have mm:=lW (f:=Ti.up) L.nd ht;have kk:∀ u,u∈ts->u≠t->u.key≠t.key:=λu hu hne q=>hne (mP L.nd hu ht q);refine ⟨⟨L.wd,λi hi u v=>?_,L.sz,λu hu=>?_,?_⟩,D.ha,D.hb,D.hk,D.ap,D.s2,λu hu=>?_⟩
 .rw [L.ed i hi]
  constructor
  .rintro ⟨s,s1,s2,s3⟩;exact ⟨s,(mm s).mpr (.inr ⟨s1,kk s s1 λq=>by rw [q,hw] at s2;exact absurd s2 (by decide)⟩),s2,s3⟩
  .rintro ⟨s,s1,s2,s3⟩
   rcases (mm s).mp s1 with rfl|⟨q,_⟩
   .exact absurd (hw.symm.trans s2) (by decide)
   .exact ⟨s,q,s2,s3⟩
 .rcases (mm u).mp hu with rfl|⟨q,_⟩
  .exact ⟨h1,h2,by show t.cF+1<=T;lia⟩
  .exact L.lt u q
 .exact (lG (f:=Ti.up) (λ_=>rfl) t.key).symm▸L.nd
 .rcases (mm u).mp hu with rfl|⟨q,_⟩
  .have:t.up.cF=l+1:=by show t.cF+1=l+1;lia
   rw [this];exact .inl hj
  .exact D.jn u q
theorem Dn.next (D:Dn n T ts R a b (l+1)) (hno:∀ t∈ts,t.wd=false->t.cF=l->¬ ((t.x:Int)∈R l a/\(t.y:Int)∉R l a)/\¬ ((t.x:Int)∉R l a/\(t.y:Int)∈R l a)):Dn n T ts R a b l:=by
 have L:=D.lv
 have hl:l<=T:=by have:=D.hk;lia
 refine ⟨L,D.ha,D.hb,by lia,D.ap,λi hi=>D.s2 i (by lia),λt ht=>?_⟩;obtain ⟨h1,h2,h3⟩:=L.lt t ht
 rcases D.jn t ht with j|⟨j1,j2⟩
 .exact .inl j
 .by_cases c:t.cF=l
  .cases hw:t.wd with
   | true =>
    have E:Ed n (R t.cF) t.x t.y:=(L.ed _ h3 _ _).mpr ⟨t,ht,hw,aB _,.inl rfl⟩
    exact .inl (gP (Ed.at (L.wd _ h3) E (by lia) ((L.wd _ h3).me _ (by lia)))).2
   | false =>
    have q:=hno t ht hw c;have W:=L.wd l hl;have ap:∀ z:Int,z∈R l a->z∉R l b:=λz q1 q2=>D.apart hl (by rw [W.same D.ha D.hb q1 q2];exact W.me b D.hb);rw [c] at j2
    rcases j2 with ⟨p1,p2⟩|⟨p1,p2⟩
    .exact absurd ⟨p1,λp=>ap _ p p2⟩ q.1
    .exact absurd ⟨λp=>ap _ p p1,p2⟩ q.2
  .exact .inr ⟨by lia,j2⟩
theorem Lv.adopt (L:Lv n T ts R) (ht:t∈ts) (hw:t.wd=false) (hap:∀ i,i<=t.cF->(t.y:Int)∉R i t.x) (hs:∀ i,i<=t.cF->((R i t.x).length+(R i t.y).length+2)*2^i<=2*n):Lv n T (gW ts t.key Ti.vP) (Gm R t.cF t.x t.y):=by
 obtain ⟨h1,h2,h3⟩:=L.lt t ht
 have hxn:t.x<n:=by lia
 have mm:=lW (f:=Ti.vP) L.nd ht;have kk:∀ u,u∈ts->u≠t->u.key≠t.key:=λu hu hne q=>hne (mP L.nd hu ht q);have lo:∀ i,i<=t.cF->Gm R t.cF t.x t.y i=lk (R i) t.x t.y:=λi hi=>if_pos hi;have hi':∀ i,¬ i<=t.cF->Gm R t.cF t.x t.y i=R i:=λi hi=>if_neg hi;refine ⟨λi hi=>?_,λi hi u v=>?_,λi hi x hx'=>?_,λu hu=>?_,?_⟩
 .by_cases c:i<=t.cF
  .rw [lo i c];exact (L.wd i hi).lk hxn h2 (hap i c)
  .rw [hi' i c];exact L.wd i hi
 .have:(∃ s∈gW ts t.key Ti.vP,s.wd=true/\i<=s.cF/\s.Is u v)↔(∃ s∈ts,s.wd=true/\i<=s.cF/\s.Is u v)\/(i<=t.cF/\t.Is u v):=by
   constructor
   .rintro ⟨s,s1,s2⟩
    rcases (mm s).mp s1 with rfl|⟨q1,q2⟩
    .exact .inr ⟨s2.2.1,s2.2.2⟩
    .exact .inl ⟨s,q1,s2⟩
   .rintro (⟨s,s1,s2,s3⟩|⟨q1,q2⟩)
    .exact ⟨s,(mm _).mpr (.inr ⟨s1,kk s s1 λq=>by rw [q,hw] at s2;exact absurd s2 (by decide)⟩),s2,s3⟩
    .exact ⟨t.vP,(mm _).mpr (.inl rfl),rfl,q1,q2⟩
  rw [this,← L.ed i hi]
  by_cases c:i<=t.cF
  .rw [lo i c,(L.wd i hi).YH hxn h2 (hap i c)];exact or_congr_right ⟨λq=>⟨c,q⟩,λq=>q.2⟩
  .rw [hi' i c];exact ⟨.inl,λq=>q.elim id λq=>absurd q.1 c⟩
 .by_cases c:i<=t.cF
  .rw [lo i c]
   by_cases d:(x:Int)∈R i t.x\/(x:Int)∈R i t.y
   .rw [((L.wd i hi).Jg hxn h2 (hap i c) d).2];exact hs i c
   .rw [(L.wd i hi).YM hxn h2 (hap i c) (λq=>d (.inl q)) (λq=>d (.inr q))];exact L.sz _ hi x hx'
  .rw [hi' i c];exact L.sz i hi x hx'
 .rcases (mm u).mp hu with rfl|⟨q,_⟩
  .exact ⟨h1,h2,h3⟩
  .exact L.lt u q
 .exact (lG (f:=Ti.vP) (λ_=>rfl) t.key).symm▸L.nd
theorem Lv.OZ (L:Lv n T ts R) (ht:t∈ts) (hap:∀ i,i<=t.cF->(t.y:Int)∉R i t.x) {i x:Nat}(hi:i<=T) (hx:x<n):∀ c∈R i x,c∈Gm R t.cF t.x t.y i x:=by
 obtain ⟨h1,h2,h3⟩:=L.lt t ht
 by_cases c:i<=t.cF
 .have e:Gm R t.cF t.x t.y i=lk (R i) t.x t.y:=if_pos c;rw [e];exact (L.wd i hi).abM (by lia) h2 (hap i c) hx
 .have e:Gm R t.cF t.x t.y i=R i:=if_neg c;rw [e];exact λ_ h=>h
theorem Dn.adopt (D:Dn n T ts R a b (l+1)) (ht:t∈ts) (hw:t.wd=false) (hl:t.cF=l) (h:(t.x:Int)∈R l a/\(t.y:Int)∉R l a\/(t.x:Int)∉R l a/\(t.y:Int)∈R l a) :
  (∀ i,i<=t.cF->(t.y:Int)∉R i t.x)/\Lv n T (gW ts t.key Ti.vP) (Gm R t.cF t.x t.y)/\Jn (gW ts t.key Ti.vP) (Gm R t.cF t.x t.y):=by
 have L:=D.lv;obtain ⟨h1,h2,h3⟩:=L.lt t ht
 have hxn:t.x<n:=by lia
 have W:=L.wd t.cF h3
 have j:(t.x:Int)∈R t.cF a/\(t.y:Int)∈R t.cF b\/(t.x:Int)∈R t.cF b/\(t.y:Int)∈R t.cF a:=by
  rcases D.jn t ht with j|j
  .rw [← hl] at h
   rcases h with ⟨p1,p2⟩|⟨p1,p2⟩
   .exact absurd (by rw [W.eq D.ha hxn p1];exact j) p2
   .exact absurd (by rw [W.eq D.ha h2 p2];exact W.sy hxn h2 j) p1
  .exact j.2
 -- at each lower level the one end is on the one side,the other on the other
 have j':∀ i,i<=t.cF->(R i t.x=R i a/\R i t.y=R i b)\/(R i t.x=R i b/\R i t.y=R i a):=λi hi=>by
  have V:=L.wd i (by lia)
  rcases j with ⟨p1,p2⟩|⟨p1,p2⟩
  .exact .inl ⟨(V.eq D.ha hxn (L.mono hi h3 D.ha _ p1)).symm,(V.eq D.hb h2 (L.mono hi h3 D.hb _ p2)).symm⟩
  .exact .inr ⟨(V.eq D.hb hxn (L.mono hi h3 D.hb _ p1)).symm,(V.eq D.ha h2 (L.mono hi h3 D.ha _ p2)).symm⟩
 have hap:∀ i,i<=t.cF->(t.y:Int)∉R i t.x:=λi hi q=>by
  have V:=L.wd i (by lia);have e:=V.eq hxn h2 q;have n:=D.apart (i:=i) (by lia)
  rcases j' i hi with ⟨p1,p2⟩|⟨p1,p2⟩
  .exact n (by rw [← p1,e,p2];exact V.me b D.hb)
  .exact n (by rw [← p2,← e,p1];exact V.me b D.hb)
 have L':=L.adopt ht hw hap λi hi=>by
  have:=D.s2 i (by lia)
  rcases j' i hi with ⟨p1,p2⟩|⟨p1,p2⟩
  .rw [p1,p2];exact this
  .rw [p1,p2,Gk (R i b).length];exact this
 refine ⟨hap,L',λu hu=>?_⟩
 have lo:∀ i,i<=t.cF->∀ z:Nat,(z:Int)∈R i t.x\/(z:Int)∈R i t.y->∀ c,c∈Gm R t.cF t.x t.y i z↔c∈R i t.x\/c∈R i t.y:=λi hi z hz=>by
  have:Gm R t.cF t.x t.y i=lk (R i) t.x t.y:=if_pos hi;rw [this];exact ((L.wd i (by lia)).Jg hxn h2 (hap i hi) hz).1
 rcases (lW (f:=Ti.vP) L.nd ht u).mp hu with rfl|⟨q,_⟩
 .exact (lo t.cF (aB _) t.x (.inl (W.me _ hxn)) _).mpr (.inr (W.me _ h2))
 .obtain ⟨u1,u2,u3⟩:=L.lt u q
  rcases D.jn u q with j|⟨k1,k2⟩
  .exact L.OZ ht hap u3 (by lia) _ j
  .have V:=L.wd _ u3
   have c:u.cF<=t.cF:=by lia
   rcases j' _ c with ⟨p1,p2⟩|⟨p1,p2⟩<;>rcases k2 with ⟨k3,k4⟩|⟨k3,k4⟩<;>rw [← p1] at *<;>rw [← p2] at *
   .exact (lo _ c _ (.inl k3) _).mpr (.inr k4)
   .exact (lo _ c _ (.inr k3) _).mpr (.inl k4)
   .exact (lo _ c _ (.inr k3) _).mpr (.inl k4)
   .exact (lo _ c _ (.inl k3) _).mpr (.inr k4)
theorem Lv.afd (L:Lv n T ts R) (J:Jn ts R) (ht:t∈ts) (hw:t.wd=false):Lv n T (ts.filter λu=>decide (u.key≠t.key)) R/\Jn (ts.filter λu=>decide (u.key≠t.key)) R:=by
 have mm:∀ u,u∈ts.filter (λu=>decide (u.key≠t.key))↔u∈ts/\u≠t:=λu=>by
  rw [ig,decide_eq_true_iff];exact and_congr_right λhu=>not_congr ⟨λq=>mP L.nd hu ht q,λq=>q▸rfl⟩
 refine ⟨⟨L.wd,λi hi u v=>?_,L.sz,λu hu=>L.lt u ((mm u).mp hu).1,(x4 _ lO).nodup L.nd⟩,λu hu=>J u ((mm u).mp hu).1⟩;rw [L.ed i hi]
 constructor
 .rintro ⟨s,s1,s2,s3⟩;exact ⟨s,(mm s).mpr ⟨s1,λq=>by rw [q,hw] at s2;exact absurd s2 (by decide)⟩,s2,s3⟩
 .rintro ⟨s,s1,s2⟩;exact ⟨s,((mm s).mp s1).1,s2⟩
theorem Lv.put (L:Lv n T ts R) {x y:Nat}(hxy:x<y) (hy:y<n) (hk:((x:Int),(y:Int))∉ts.map Ti.key):Lv n T (ts++[⟨x,y,0,false⟩]) R:=by
 refine ⟨L.wd,λi hi u v=>?_,L.sz,λu hu=>?_,?_⟩
 .rw [L.ed i hi]
  constructor
  .rintro ⟨s,s1,s2⟩;exact ⟨s,bT _ s1,s2⟩
  .rintro ⟨s,s1,s2,s3⟩
   rcases aT.mp s1 with q|q
   .exact ⟨s,q,s2,s3⟩
   .rw [aA.mp q] at s2;exact absurd s2 bG
 .rcases aT.mp hu with q|q
  .exact L.lt u q
  .rw [aA.mp q];exact ⟨hxy,hy,bC _⟩
 .rw [bx,kK];exact ⟨L.nd,by simp,λp hp q hq e=>hk (by rw [Cc,aA] at hq;have e2:p=((x:Int),(y:Int)):=e.trans hq;rw [← e2];exact hp)⟩
theorem Lv.start (n T:Nat) (hn:2^(T+1)<=n\/T=0):Lv n T [] (λ_ i=>[(i:Int)]) :=
 ⟨λi _=>Wd.start n,λi _ u v=>⟨λ⟨j,_,hm⟩=>by simp [al] at hm,λ⟨t,h,_⟩=>nomatch h⟩,λi hi x hx=>by
  show 2*2^i<=2*n
  refine Nat.mul_le_mul_left 2 ?_
  rcases hn with h|h
  .exact a9 (zL (by decide) (by lia)) h
  .have:i=0:=by lia
   subst this
   simp;lia,(λt h=>nomatch h),xX⟩
theorem Eb {α:Type} [DecidableEq α]:∀ {l m:List α},l.Nodup->(∀ x∈l,x∈m)->l.length<=m.length
 | [],m,_,_=>bC _
 | a::l,m,hn,h=>by
  obtain ⟨h1,h2⟩:=bh.mp hn;have hm:=h a ah;have:=Eb (l:=l) (m:=m.erase a) h2 λx hx=>(List.mem_erase_of_ne (λe:x=a=>h1 (e▸hx))).mpr (h x (ae _ hx));rw [Pk hm] at this;have:=TH hm;simp only [bz];lia
structure Lo1 (n T lv s o:Nat) (ts:List Ti) (R:Nat->Nat->List Int) (ps:List (Int×Int)) (i:Nat) (ts1:List Ti) (R1:Nat->Nat->List Int):Prop where
 dn:Dn n T ts1 R1 s o (lv+1)
 rl:R1 lv=R lv
 ks:ts1.map Ti.key=ts.map Ti.key
 pend:∀ t∈ts1,t.wd=true->t.cF=lv->(t.x:Int)∈R lv s->(t.y:Int)∈R lv s->t.key∈ps.drop i
 rem:∀ p∈ps.drop i,∃ t∈ts1,t.key=p/\t.wd=true/\t.cF=lv/\(t.x:Int)∈R lv s/\(t.y:Int)∈R lv s
 all:∀ p∈ps,∃ t∈ts1,t.key=p/\t.wd=true
variable {s o lv i:Nat}{ps:List (Int×Int)}{p:Int×Int}{ts1:List Ti}{R1:Nat->Nat->List Int}
theorem Lo1.step (L:Lo1 n T lv s o ts R ps i ts1 R1) (hT:∀ j,2^(j+1)<=n->j<=T) (hs:((R lv s).length+1)*2^(lv+1)<=2*n) (hn:ps.Nodup) (hi:ps[i]?=some p) :
  ∃ t∈ts1,t.key=p/\t.wd=true/\t.cF+1<=T/\(t.y:Int)∉R1 (t.cF+1) t.x/\Lo1 n T lv s o ts R ps (i+1) (gW ts1 t.key Ti.up) (upR R1 (t.cF+1) t.x t.y):=by
 obtain ⟨hlt,he⟩:=aE.mp hi
 have ed:ps.drop i=p::ps.drop (i+1):=by rw [gE hlt,he]
 have hpn:p∉ps.drop (i+1):=by
  have:=(aa4 i ps).nodup hn;rw [ed] at this;exact (bh.mp this).1
 obtain ⟨t,t1,t2,t3,t4,t5,t6⟩:=L.rem p (by rw [ed];exact ah);have hnd:=L.dn.lv.nd;have q:=L.dn.afg hT (by rw [L.rl];exact hs) t1 t3 t4 (by rw [L.rl];exact t5) (by rw [L.rl];exact t6);have mm:=lW (f:=Ti.up) hnd t1;rw [← t4] at q;refine ⟨t,t1,t2,t3,q.1,q.2.1,by rw [t4] at q ⊢;exact q.2.2,?_,?_,λu hu h1 h2 h3 h4=>?_,λp' hp'=>?_,λp' hp'=>?_⟩
 .show (if _ then _ else _)=_
  rw [if_neg (by lia)];exact L.rl
 .rw [lG (f:=Ti.up) (λ_=>rfl)];exact L.ks
 .rcases (mm u).mp hu with rfl|⟨h5,h6⟩
  .exact absurd h2 (by show ¬ t.cF+1=lv;lia)
  .have:=L.pend u h5 h1 h2 h3 h4;rw [ed] at this;exact (aj.mp this).resolve_left λe=>h6 (e.trans t2.symm)
 .obtain ⟨u,u1,u2,u3⟩:=L.rem p' (by rw [ed];exact ae _ hp');exact ⟨u,(mm u).mpr (.inr ⟨u1,λe=>hpn (by rw [← t2,← e,u2];exact hp')⟩),u2,u3⟩
 .obtain ⟨u,u1,u2,u3⟩:=L.all p' hp'
  by_cases c:u.key=t.key
  .exact ⟨t.up,(mm _).mpr (.inl rfl),by rw [← u2,c];rfl,t3⟩
  .exact ⟨u,(mm u).mpr (.inr ⟨u1,c⟩),u2,u3⟩
structure U9 (n T lv s o:Nat) (ts:List Ti) (R:Nat->Nat->List Int) (ps:List (Int×Int)) (i:Nat) (ts1:List Ti):Prop where
 dn:Dn n T ts1 R s o (lv+1)
 ks:ts1.map Ti.key=ts.map Ti.key
 full:lv+1<=T->∀ x y,x<n->y<n->(x:Int)∈R lv s->(y:Int)∈R lv s->(y:Int)∈R (lv+1) x
 rem:∀ p∈ps.drop i,∃ t∈ts1,t.key=p/\t.wd=false/\t.cF=lv
 done:∀ t∈ts1,t.wd=false->t.cF=lv->t.key∈ps.drop i\/((t.x:Int)∉R lv s/\(t.y:Int)∉R lv s)
theorem U9.at (L:U9 n T lv s o ts R ps i ts1) (hn:ps.Nodup) (hi:ps[i]?=some p):∃ t∈ts1,t.key=p/\t.wd=false/\t.cF=lv/\ps.drop i=p::ps.drop (i+1)/\p∉ps.drop (i+1):=by
 obtain ⟨hlt,he⟩:=aE.mp hi
 have ed:ps.drop i=p::ps.drop (i+1):=by rw [gE hlt,he]
 obtain ⟨t,t1,t2,t3,t4⟩:=L.rem p (by rw [ed];exact ah);refine ⟨t,t1,t2,t3,t4,ed,?_⟩;have:=(aa4 i ps).nodup hn;rw [ed] at this;exact (bh.mp this).1
theorem U9.zero (L:U9 n T lv s o ts R ps i ts1) (hn:ps.Nodup) (hi:ps[i]?=some p) (h1:p.1∉R lv s) (h2:p.2∉R lv s):U9 n T lv s o ts R ps (i+1) ts1:=by
 obtain ⟨t,t1,t2,t3,t4,ed,hp⟩:=L.at hn hi;refine ⟨L.dn,L.ks,L.full,λq hq=>L.rem q (by rw [ed];exact ae _ hq),λu u1 u2 u3=>?_⟩
 rcases L.done u u1 u2 u3 with h|h
 .rw [ed] at h
  rcases aj.mp h with e|h
  .have e1:(u.x:Int)=p.1:=by rw [← e];rfl
   have e2:(u.y:Int)=p.2:=by rw [← e];rfl
   exact .inr (by rw [e1,e2];exact ⟨h1,h2⟩)
  .exact .inl h
 .exact .inr h
theorem U9.two (L:U9 n T lv s o ts R ps i ts1) (hT:∀ j,2^(j+1)<=n->j<=T) (hs:((R lv s).length+1)*2^(lv+1)<=2*n) (hn:ps.Nodup) (hi:ps[i]?=some p) (h1:p.1∈R lv s) (h2:p.2∈R lv s):∃ t∈ts1,t.key=p/\t.wd=false/\U9 n T lv s o ts R ps (i+1) (gW ts1 t.key Ti.up):=by
 obtain ⟨t,t1,t2,t3,t4,ed,hp⟩:=L.at hn hi;subst t2;have hl:=L.dn.lv.lt t t1;have hT1:=L.dn.few hT hs (x:=t.x) (y:=t.y) h1 h2 (by lia);have mm:=lW (f:=Ti.up) L.dn.lv.nd t1;refine ⟨t,t1,rfl,t3,L.dn.afk t1 t3 t4 hT1 (L.full hT1 _ _ (by lia) hl.2.1 h1 h2),?_,L.full,λq hq=>?_,λu hu h3 h4=>?_⟩
 .rw [lG (f:=Ti.up) (λ_=>rfl)];exact L.ks
 .obtain ⟨u,u1,u2,u3⟩:=L.rem q (by rw [ed];exact ae _ hq);exact ⟨u,(mm u).mpr (.inr ⟨u1,λe=>hp (by rw [← e,u2];exact hq)⟩),u2,u3⟩
 .rcases (mm u).mp hu with rfl|⟨h5,h6⟩
  .exact absurd h4 (by show ¬ t.cF+1=lv;lia)
  .rcases L.done u h5 h3 h4 with h|h
   .rw [ed] at h;exact .inl ((aj.mp h).resolve_left h6)
   .exact .inr h
theorem U9.one (L:U9 n T lv s o ts R ps i ts1) (hn:ps.Nodup) (hi:ps[i]?=some p) (h:p.1∈R lv s/\p.2∉R lv s\/p.1∉R lv s/\p.2∈R lv s):∃ t∈ts1,t.key=p/\(∀ i,i<=t.cF->(t.y:Int)∉R i t.x)/\Lv n T (gW ts1 t.key Ti.vP) (Gm R t.cF t.x t.y)/\Jn (gW ts1 t.key Ti.vP) (Gm R t.cF t.x t.y):=by
 obtain ⟨t,t1,t2,t3,t4,ed,hp⟩:=L.at hn hi;subst t2;exact ⟨t,t1,rfl,L.dn.adopt t1 t3 t4 h⟩
theorem U9.fin (L:U9 n T lv s o ts R ps i ts1) (hi:ps.length<=i):Dn n T ts1 R s o lv:=L.dn.next λt ht h1 h2=>by
 rcases L.done t ht h1 h2 with h|⟨h3,h4⟩
 .rw [x6.mpr hi] at h;cases h
 .exact ⟨λq=>h3 q.1,λq=>h4 q.2⟩
end
end Rm
namespace Rm
abbrev Srt (m:List (List Int)):Prop:=m.Pairwise λz w=>L2.iY w z=false
noncomputable def Qk (l:List (List Int)):List (List Int):=zM λm=>m.Perm l/\Srt m
theorem JY {l m:List (List Int)}(h:m.Perm l) (p:Srt m):m=Qk l:=by
 obtain ⟨h',p'⟩:(Qk l).Perm l/\Srt (Qk l):=sQ (p:=λm:List (List Int)=>m.Perm l/\Srt m) ⟨m,h,p⟩;refine HZ (λa b _ _ h1 h2=>?_) p p' (h.trans h'.symm)
 rcases L2.w8 h2 with z|z
 .rw [h1] at z;cases z
 .exact z
noncomputable def SR (r:List Int):List Int:=zM λk=>k.Pairwise (· < ·)/\∀ z,z∈k↔z∈r
theorem Ql {r k:List Int}(h:k.Pairwise (· < ·)) (p:∀ z,z∈k↔z∈r):k=SR r:=by
 obtain ⟨h',p'⟩:(SR r).Pairwise (· < ·)/\∀ z,z∈SR r↔z∈r:=sQ (p:=λk:List Int=>k.Pairwise (· < ·)/\∀ z,z∈k↔z∈r) ⟨k,h,p⟩
 have nd:∀ {l:List Int},l.Pairwise (· < ·)->l.Nodup:=λq=>q.imp λh e=>by lia
 exact HZ (λa b _ _ h1 h2=>by lia) h h' ((List.perm_ext_iff_of_nodup (nd h) (nd h')).mpr λz=>(p z).trans (p' z).symm)
def ew (x y:Int) (S:List Int):Nat:=(if x∈S then 1 else 0)+(if y∈S then 1 else 0)
theorem abv {x y:Int}{S S':List Int}(h:∀ z,z∈S↔z∈S'):ew x y S=ew x y S':=by
 unfold ew;simp only [h]
structure Rw where
 (lv sd rs:Nat) (fd:Option (Int×Int))
def Bw (r:Rw):Prop:=r.lv<=1000/\r.sd<=1000/\r.rs<=1000/\∀ p,r.fd=some p->0<=p.1/\p.1<=1000/\0<=p.2/\p.2<=1000
abbrev TR:=List Ti×(Nat->Nat->List Int)
def Xd (l:Nat) (s:TR) (p:Int×Int):TR:=(gW s.1 p Ti.up,upR s.2 (l+1) p.1.toNat p.2.toNat)
def Xe (S:List Int):List (Int×Int)->List Ti->Nat->List Ti×Nat×Option (Int×Int)
 | [],ts,c=>(ts,c,none)
 | p::ps,ts,c=>if ew p.1 p.2 S=1 then (ts,c,some p) else if ew p.1 p.2 S=2 then Xe S ps (gW ts p Ti.up) (c+1) else Xe S ps ts c
def kp (z:List Int):Int×Int:=(z.getD 1 0,z.getD 2 0)
noncomputable def atF (ts:List Ti) (l:Nat) (w:Bool):List (Int×Int):=(Qk (((ts.filter λu=>decide (u.cF=l)).filter λu=>decide (u.wd=w)).map λu=>[0,(u.x:Int),(u.y:Int)])).map kp
noncomputable def Y5 (S:List Int) (l:Nat) (s:TR):List (Int×Int):=(atF s.1 l true).filter λp=>decide (ew p.1 p.2 S=2)
noncomputable def Nc (S:List Int) (l:Nat) (s:TR):List Ti×Nat×Option (Int×Int) :=
 Xe S (atF ((Y5 S l s).foldl (Xd l) s).1 l false) ((Y5 S l s).foldl (Xd l) s).1 (Y5 S l s).length
noncomputable def oV (x y l:Nat) (s:TR):Rw×TR :=
 let S:=s.2 l (if (s.2 l x).length<=(s.2 l y).length then x else y)
 let g:=Nc S l s
 let R:=((Y5 S l s).foldl (Xd l) s).2
 (⟨l,(SR S).length,g.2.1,g.2.2⟩,match g.2.2 with
  | none=>(g.1,R)
  | some p=>(gW g.1 p Ti.vP,Gm R l p.1.toNat p.2.toNat))
section
variable {x y l c:Nat}{s:TR}{S:List Int}{ts:List Ti}{R:Nat->Nat->List Int}{p:Int×Int}
theorem Qm (hS:S=s.2 l (if (s.2 l x).length<=(s.2 l y).length then x else y)) (hg:Nc S l s=(ts,c,none)) (hR:((Y5 S l s).foldl (Xd l) s).2=R):oV x y l s=(⟨l,(SR S).length,c,none⟩,(ts,R)):=by
 unfold oV;rw [← hS];simp only [hg,hR]
theorem Qn (hS:S=s.2 l (if (s.2 l x).length<=(s.2 l y).length then x else y)) (hg:Nc S l s=(ts,c,some p)) (hR:((Y5 S l s).foldl (Xd l) s).2=R):oV x y l s=(⟨l,(SR S).length,c,some p⟩,(gW ts p Ti.vP,Gm R l p.1.toNat p.2.toNat)):=by
 unfold oV;rw [← hS];simp only [hg,hR]
end
noncomputable def oW (x y:Nat):Nat->TR->List Rw×TR
 | 0,s=>([],s)
 | l+1,s=>match (oV x y l s).1.fd with
  | none=>((oV x y l s).1::(oW x y l (oV x y l s).2).1,(oW x y l (oV x y l s).2).2)
  | some _=>([(oV x y l s).1],(oV x y l s).2)
theorem Qo {x y l:Nat}{s s':TR}{r:Rw}(h:(r,s')=oV x y l s) (hf:r.fd=none):oW x y (l+1) s=(r::(oW x y l s').1,(oW x y l s').2):=by
 unfold oW;rw [← h];simp only [hf];rw [oW.eq_def]
theorem Qp {x y l:Nat}{s s':TR}{r:Rw}(h:(r,s')=oV x y l s) (hf:r.fd≠none):oW x y (l+1) s=([r],s'):=by
 unfold oW;rw [← h]
 cases e:r.fd with
 | none=>exact absurd e hf
 | some p=>simp only [e]
noncomputable def oX (u:Ti) (s:TR):List Rw×TR :=
 if u.wd then oW u.x u.y (u.cF+1) (s.1.filter λv=>decide (v.key≠u.key),drR s.2 u.cF u.x u.y) else ([],(s.1.filter λv=>decide (v.key≠u.key),s.2))
def Ab (w:List Int) (p:Int):List Int:=if 1<w.length/\w[w.length-2]?=some p then w.dropLast else w++[p]
theorem Xg {w:List Int}{p:Int}(h:1<w.length) (e:w[w.length-2]?=some p):Ab w p=w.dropLast:=if_pos ⟨h,e⟩
theorem Nd {w:List Int}{p:Int}(h:1<w.length->¬ w[w.length-2]?=some p):Ab w p=w++[p]:=if_neg λz=>h z.1 z.2
def VD (r:List Int) (a b:Int):List Int:=((tn r (r.idxOf a)).take ((tn r (r.idxOf a)).idxOf b+1)).foldl Ab []
def r4 (u:Ti):List Int:=[(u.x:Int),u.y,u.cF,if u.wd then 1 else 0]
noncomputable def tiF (ts:List Ti):List (List Int):=Qk (ts.map r4)
structure Ks where
 (n T:Nat) (s:TR) (c1 c2 c3 c4:Int)
def Pd (us:List Rw):Nat:=(us.map Rw.rs).sum
def fdF (us:List Rw):Nat:=if us.any λu=>u.fd.isSome then 1 else 0
end Rm
namespace Rs
open PySem
theorem SS {c:Nat}{X Y:List Nat}:∀ {a b:List Nat},c∉a->c∉b->a++c::X=b++c::Y->a=b/\X=Y
 | [],[],_,_,e=>⟨rfl,(fE e).2⟩
 | [],d::b,_,hb,e=>absurd ah (by rw [(fE e).1] at hb;exact hb)
 | d::a,[],ha,_,e=>absurd ah (by rw [← (fE e).1] at ha;exact ha)
 | d::a,f::b,ha,hb,e=>by
  obtain ⟨e1,e2⟩:=fE e;obtain ⟨e3,e4⟩:=SS (λh=>ha (ae _ h)) (λh=>hb (ae _ h)) e2;exact ⟨by rw [e1,e3],e4⟩
theorem ext {a b:aY}(h:a.cps.toList=b.cps.toList):a=b:=Str.ext' (Gi.mp h)
theorem Ec (s x y:aY) (r:List aY):(pT s (x::y::r)).cps.toList=x.cps.toList++(s.cps.toList++(pT s (y::r)).cps.toList):=by
 show (x++s++pT s (y::r)).cps.toList=_
 rw [O9,O9,zN,zN,de]
theorem Ng {c:Nat}:∀ {as bs:List aY},as≠[]->bs≠[]->(∀ a∈as,c∉a.cps.toList)->(∀ b∈bs,c∉b.cps.toList)->pT ⟨#[c]⟩ as=pT ⟨#[c]⟩ bs->as=bs
 | [],_,h,_,_,_,_=>absurd rfl h
 | _::_,[],_,h,_,_,_=>absurd rfl h
 | [a],[b],_,_,_,_,e=>by rw [show a=b from e]
 | [a],b::b2::r,_,_,ha,_,e=>by
  have e:a=pT ⟨#[c]⟩ (b::b2::r):=e;refine absurd ?_ (ha a ah);rw [e,Ec]
  exact a8 _ (bT _ ah)
 | a::a2::r,[b],_,_,_,hb,e=>by
  have e:pT ⟨#[c]⟩ (a::a2::r)=b:=e;refine absurd ?_ (hb b ah);rw [← e,Ec]
  exact a8 _ (bT _ ah)
 | a::a2::r,b::b2::r',_,_,ha,hb,e=>by
  have e:=congrArg (λz:aY=>z.cps.toList) e;simp only [Ec] at e;obtain ⟨e1,e2⟩:=SS (c:=c) (ha a ah) (hb b ah) e;rw [ext e1,Ng (as:=a2::r) (bs:=b2::r') (by simp) (by simp) (λx hx=>ha x (ae _ hx)) (λx hx=>hb x (ae _ hx)) (ext e2)]
theorem Xh {c:Nat}{ws:List aY}(h0:ws≠[]) (h:∀ w∈ws,c∉w.cps.toList):Txt.split (pT ⟨#[c]⟩ ws) ⟨#[c]⟩=ws:=by
 refine Ng (c:=c) (λe=>?_) h0 (StrLaws.split_free _ _) h (StrLaws.join_split _ _);have:=PyProof.Rows.split_pos (pT ⟨#[c]⟩ ws) ⟨#[c]⟩;rw [e] at this;cases this
end Rs
namespace Rn
open PySem PySem.NumText
def Cj (m:Nat):List Nat:=(Nat.toDigits 10 m).map Char.toNat
theorem yq (m:Nat):AllDigits (Cj m):=λc hc=>by
 obtain ⟨d,hd,rfl⟩:=bS.mp hc;have:=Nat.isDigit_of_mem_toDigits (by decide) (by decide) hd;simp [Char.isDigit] at this;exact this
theorem Da (m:Nat):digitsVal (Cj m)=m:=PySem.W.KIN.val_back m
theorem Xi (m:Nat):Cj m≠[]:=λe=>by
 have:=PyProof.Rows.tDigits_len_ge 10 m;have e2:=congrArg fA e;rw [Cj,ag] at e2;simp at e2
theorem dgs_len {k m:Nat}(hk:1<=k) (h:m<10^k):(Cj m).length<=k:=by
 rw [Cj,ag];exact PyProof.Rows.digits10_le hk h
theorem Xj (m:Nat):Cj m=[48]\/(Cj m).head?≠some 48:=by
 have h:=toDigits_all (Cj m) (yq m);rw [Da] at h
 have hl:(Cj m).length=(Nat.toDigits 10 m).length:=by rw [Cj,ag]
 cases e:Cj m with
 | nil=>exact .inr (by simp)
 | cons c r =>
  by_cases hc:c=48
  .subst hc
   left
   rw [e] at h hl
   have e1:(48::r:List Nat).dropWhile (· == 48)=r.dropWhile (· == 48):=by simp
   rw [e1] at h;have h2:=congrArg fA h;rw [← hl] at h2;have h3:(r.dropWhile (· == 48)).length<=r.length:=len_dropWhile _ _
   split at h2
   .simp at h2;rw [h2]
   .rename_i c r' e2
    rw [ag,← e2] at h2;simp at h2;lia
  .exact .inr (by simp [hc])
theorem UI (m:Nat):(av (toString (m:Int))).cps.toList=Cj m:=PySem.W.KIN.signs_num m
theorem UJ (m:Nat) (h:0<m):(av (toString (-(m:Int)))).cps.toList=45::Cj m:=by
 obtain ⟨k,rfl⟩:∃ k,m=k+1:=⟨m-1,by lia⟩
 rw [show (-((k+1:Nat):Int))=Int.negSucc k from rfl,PyProof.Rows.signs_ofString]
 show (("-"++Nat.repr (k+1):String).toList).map Char.toNat=_
 rw [String.toList_append,bx,Nat.toList_repr]
 rfl
theorem signs (i:Int):(av (toString i)).cps.toList=if i<0 then 45::Cj i.natAbs else Cj i.natAbs:=by
 by_cases h:i<0
 .rw [if_pos h]
  obtain ⟨m,rfl⟩:∃ m:Nat,i=-(m:Int):=⟨i.natAbs,by lia⟩
  rw [UJ m (by lia),Int.natAbs_neg,aa5]
 .rw [if_neg h]
  obtain ⟨m,rfl⟩:∃ m:Nat,i=(m:Int):=⟨i.natAbs,by lia⟩
  rw [UI,aa5]
def SU (w:List Nat):Bool:=decide (1<=w.length) && decide (w.length<=60) && w.all (λc=>decide (48<=c/\c<=57)) && (w == [48] || w.head? != some 48)
def Y6 (w:List Nat):Bool:=SU w || (w.take 1 == [45] && w != [45,48] && SU (w.drop 1))
def Nh (w:List Nat):Int:=if w.take 1=[45] then -((digitsVal (w.drop 1):Nat):Int) else ((digitsVal w:Nat):Int)
theorem xb {w:List Nat}(h:SU w=true):1<=w.length/\w.length<=60/\AllDigits w/\(w=[48]\/w.head?≠some 48):=by
 simp only [SU,fB,decide_eq_true_iff,vT,beq_iff_eq,bne_iff_ne,om] at h;exact ⟨h.1.1.1,h.1.1.2,h.1.2,h.2⟩
theorem Qq {w:List Nat}(h1:1<=w.length) (h2:w.length<=60) (h3:AllDigits w) (h4:w=[48]\/w.head?≠some 48):SU w=true:=by
 simp only [SU,fB,decide_eq_true_iff,vT,beq_iff_eq,bne_iff_ne,om];exact ⟨⟨⟨h1,h2⟩,h3⟩,h4⟩
theorem SV {m:Nat}(h:m<10^60):SU (Cj m)=true:=by
 refine Qq ?_ (dgs_len (by decide) h) (yq m) (Xj m);have:=Xi m
 cases e:Cj m with
 | nil=>exact absurd e this
 | cons c r=>simp
theorem UK {w:List Nat}(h:SU w=true):w.take 1≠[45]:=λe=>by
 obtain ⟨_,_,h3,_⟩:=xb h
 cases w with
 | nil=>cases e
 | cons c r =>
  have e:c=45:=by simpa using e
  have:=h3 c ah;lia
theorem UL {i:Int}(h:i.natAbs<10^60):Y6 (av (toString i)).cps.toList=true:=by
 rw [signs];unfold Y6
 by_cases c:i<0
 .rw [if_pos c];have hu:=SV h
  have:(45::Cj i.natAbs:List Nat)≠[45,48]:=λe=>by
   have e:=(fE e).2;have:=Da i.natAbs;rw [e] at this;have:digitsVal [48]=i.natAbs:=this;have:(0:Nat)=i.natAbs:=this;lia
  simp [hu,this]
 .rw [if_neg c,SV h,Bool.true_or]
theorem Qr (i:Int):Nh (av (toString i)).cps.toList=i:=by
 rw [signs];unfold Nh
 by_cases c:i<0
 .rw [if_pos c,if_pos (show List.take 1 (45::Cj i.natAbs)=[45] from rfl)]
  show -((digitsVal (Cj i.natAbs):Nat):Int)=i
  rw [Da];lia
 .rw [if_neg c]
  have:(Cj i.natAbs).take 1≠[45]:=λe=>by
   have h3:=yq i.natAbs
   cases q:Cj i.natAbs with
   | nil=>exact Xi _ q
   | cons d r =>
    rw [q] at e h3
    have e:d=45:=by simpa using e
    have:=h3 d ah;lia
  rw [if_neg this,Da];lia
theorem ac9 {x:aY}(h:Y6 x.cps.toList=true):Mg x=some (Nh x.cps.toList)/\x.length<=61:=by
 have hx:x.length=x.cps.toList.length:=by simp [Pa]
 unfold Y6 at h;rw [vT] at h
 rcases h with h|h
 .obtain ⟨h1,h2,h3,_⟩:=xb h;unfold Nh;rw [if_neg (UK h)];exact ⟨intText_digits h3 (λe=>by rw [e] at h1;cases h1) (by lia),by lia⟩
 .simp only [fB,beq_iff_eq] at h;obtain ⟨⟨e,_⟩,h⟩:=h;obtain ⟨h1,h2,h3,_⟩:=xb h;unfold Nh;rw [if_pos e]
  cases q:x.cps.toList with
  | nil=>rw [q] at e;cases e
  | cons c r =>
   rw [q] at e h1 h2 h3
   have e:c=45:=by simpa using e
   subst e;have h1:1<=r.length:=h1;have h2:r.length<=60:=h2;rw [q] at hx;have hx:x.length=r.length+1:=hx;exact ⟨intText_neg q h3 (λe=>by have e:r=[]:=e;rw [e] at h1;cases h1) (by lia),by lia⟩
end Rn
namespace Rm
open PySem
def iS (i:Int):aY:=av (toString i)
structure Sm (i:Int):Prop where
 h:i.natAbs<10^60
theorem Sm.of {i:Int}(h:i.natAbs<=1000000):Sm i:=⟨bw h (by decide)⟩
def Xk (ws:List aY):aY:=if ws=[] then "none" else Txt.join (av " ") ws
def nbT (is:List Int):aY:=Xk (is.map iS)
def JZ (a b:Int):aY:=iS a++av "-"++iS b
def qY (u:Ti):aY:=JZ u.x u.y++av ":"++iS u.cF++(if u.wd then av "*" else av "")
def r4T (z:List Int):aY:=JZ (z.getD 0 0) (z.getD 1 0)++av ":"++iS (z.getD 2 0)++(if z.getD 3 0=1 then av "*" else av "")
theorem Xl (u:Ti):r4T (r4 u)=qY u:=by
 unfold r4T qY r4;cases u.wd<;>rfl
def Y4 (r:Rw):aY:=iS r.lv++av ":"++iS r.sd++av "/"++iS r.rs
def Ee (r:Rw):aY:=Y4 r++(match r.fd with
 | none=>av ""
 | some p=>av ">"++JZ p.1 p.2)
theorem IK (a:aY):a++av ""=a:=Rs.ext (by rw [O9,zN,show (av "").cps.toList=[] by decide,mr])
theorem fW {i:Int}(h:Sm i):(iS i).length<=61/\i.natAbs.log2<1920:=by
 constructor
 .show (iS i).cps.size<=61
  rw [← aX,show (iS i).cps.toList=_ from Rn.signs i];have:=Rn.dgs_len (k:=60) (by decide) h.h
  split
  .rw [bz];lia
  .lia
 .by_cases z:i.natAbs=0
  .rw [z];decide
  .rw [Nat.log2_lt z];exact Gh h.h (by decide)
theorem J0 {α:Type} {f:α->aY}{c:Nat}:∀ l:List α,(∀ a∈l,(f a).length<=c)->((l.map f).map (·.length)).sum<=c*l.length
 | [],_=>aB _
 | a::r,h=>by
  have h1:=h a ah;have h2:=J0 r λi hi=>h i (ae _ hi);rw [bu,bu,fX,bz,Nat.mul_succ];lia
theorem yr {a b:Int}(ha:Sm a) (hb:Sm b):(JZ a b).length<=123:=by
 unfold JZ;rw [aD,aD,show (av "-").length=1 by decide];have:=(fW ha).1;have:=(fW hb).1;lia
def STi (u:Ti):Prop:=Sm u.x/\Sm u.y/\Sm u.cF
theorem Xm {u:Ti}(h:STi u):(qY u).length<=200:=by
 have l1:=yr h.1 h.2.1;have l2:=(fW h.2.2).1;unfold qY;rw [aD,aD,aD,show (av ":").length=1 by decide]
 have:(if u.wd=true then av "*" else av "").length<=1:=by cases u.wd<;>decide
 lia
theorem Bw.sm {r:Rw}(h:Bw r):Sm r.lv/\Sm r.sd/\Sm r.rs/\∀ p,r.fd=some p->Sm p.1/\Sm p.2:=by
 obtain ⟨h1,h2,h3,h4⟩:=h;exact ⟨.of (by lia),.of (by lia),.of (by lia),λp hp=>⟨.of (by have:=h4 p hp;lia),.of (by have:=h4 p hp;lia)⟩⟩
theorem J1 {r:Rw}(h:Bw r):(Y4 r).length<=200:=by
 obtain ⟨h1,h2,h3,_⟩:=h.sm;have:=(fW h1).1;have:=(fW h2).1;have:=(fW h3).1;unfold Y4;rw [aD,aD,aD,aD,show (av ":").length=1 by decide,show (av "/").length=1 by decide];lia
theorem aag {r:Rw}(h:Bw r):(Ee r).length<=400:=by
 have h0:=J1 h;unfold Ee;rw [aD]
 cases e:r.fd with
 | none=>simp only [];rw [show (av "").length=0 by decide];lia
 | some p =>
  simp only [];have:=yr (h.sm.2.2.2 p e).1 (h.sm.2.2.2 p e).2;rw [aD,show (av ">").length=1 by decide];lia
end Rm
namespace Rm
open PySem
variable {r:List Int}{w:aY}{s:String}
instance:Nonempty Ti:=⟨⟨0,0,0,false⟩⟩
abbrev ky (x y:Nat):Int×Int:=(((min x y:Nat):Int),((max x y:Nat):Int))
noncomputable def uF (ts:List Ti) (x y:Nat):Ti:=zM λu=>u∈ts/\u.key=ky x y
theorem abx {ts:List Ti}{x y:Nat}{u:Ti}(hn:(ts.map Ti.key).Nodup) (hu:u∈ts) (e:u.key=ky x y):u=uF ts x y:=by
 obtain ⟨h1,h2⟩:uF ts x y∈ts/\(uF ts x y).key=ky x y:=sQ (p:=λu:Ti=>u∈ts/\u.key=ky x y) ⟨u,hu,e⟩;exact mP hn hu h1 (e.trans h2.symm)
def Y7 (k:Ks) (x y:Nat):Bool:=!decide (((max x y:Nat):Int)∈k.s.2 0 (min x y))
def ptF (k:Ks) (x y:Nat):Ks:=⟨k.n,k.T,(k.s.1++[⟨min x y,max x y,0,Y7 k x y⟩],bif Y7 k x y then Gm k.s.2 0 (min x y) (max x y) else k.s.2),k.c1+1,k.c2,k.c3,k.c4⟩
noncomputable def Mn (k:Ks) (x y:Nat):List Rw×TR:=oX (uF k.s.1 x y) k.s
noncomputable def otF (k:Ks) (x y:Nat):Ks:=⟨k.n,k.T,(Mn k x y).2,k.c1,k.c2+(Pd (Mn k x y).1+fdF (Mn k x y).1:Nat),k.c3+(Pd (Mn k x y).1:Nat),k.c4+(k.T-(uF k.s.1 x y).cF)⟩
def cdF (k:Ks):Int:=(k.s.1.map λt=>(k.T:Int)-t.cF).sum
inductive Ask
 | put (x y:Nat)|out (x y:Nat)|joined (x y:Nat)|way (x y:Nat)|side (x:Nat)|ties|account
def Ask.nm:Ask->aY
 | put _ _=>"put" | out _ _=>"out" | joined _ _=>"joined" | way _ _=>"way" | side _=>"side" | ties=>"ties" | account=>"account"
def Ask.is:Ask->List Int
 | put x y=>[(x:Int),y]|out x y=>[(x:Int),y]|joined x y=>[(x:Int),y]|way x y=>[(x:Int),y]|side x=>[(x:Int)]|ties=>[]|account=>[]
def Eg (w:aY) (is:List Int):aY:=pT ⟨#[32]⟩ (w::is.map iS)
def Ask.row (q:Ask):aY:=Eg q.nm q.is
noncomputable def nxF (k:Ks):Ask->Ks
 | .put x y=>ptF k x y
 | .out x y=>otF k x y
 | _=>k
noncomputable def xc (k:Ks):Ask->aY
 | .put x y=>if Y7 k x y then "wood" else "beside"
 | .out x y=>Xk ((Mn k x y).1.map Ee)
 | .joined x y=>if (y:Int)∈k.s.2 0 x then "yes" else "no"
 | .way x y=>if (y:Int)∈k.s.2 0 x then nbT (VD (k.s.2 0 x) x y) else "none"
 | .side x=>nbT (SR (k.s.2 0 x))
 | .ties=>Xk ((tiF k.s.1).map r4T)
 | .account=>nbT [k.c1,k.c2,k.c3,k.c4,cdF k]
def J2 (w x y:Nat):Ask:=match w with
 | 0=>.joined x y|1=>.way x y|2=>.side x|3=>.ties|_=>.account
def VE (k:Ks):Ask->Prop
 | .put x y=>x<k.n/\y<k.n/\x≠y/\ky x y∉k.s.1.map Ti.key
 | .out x y=>x<k.n/\y<k.n/\x≠y/\ky x y∈k.s.1.map Ti.key
 | .joined x y=>x<k.n/\y<k.n
 | .way x y=>x<k.n/\y<k.n
 | .side x=>x<k.n
 | .ties=>True
 | .account=>True
structure Kok (k:Ks):Prop where
 n6:k.n<=60
 ln:k.s.1.length<63
 m1:Sm k.c1
 m2:Sm k.c2
 m3:Sm k.c3
 m4:Sm k.c4
theorem SW:∀ (l:List Int) (w:List Int),(∀ z∈w,z∈r)->(∀ z∈l,z∈r)->∀ z∈l.foldl Ab w,z∈r
 | [],w,hw,_=>hw
 | p::l,w,hw,hl=>by
  rw [v3];refine SW l _ (λz hz=>?_) λz hz=>hl z (ae _ hz);unfold Ab at hz
  split at hz
  .exact hw z (List.dropLast_subset _ hz)
  .rcases aT.mp hz with hz|hz
   .exact hw z hz
   .rw [aA.mp hz];exact hl p ah
theorem Qs {a b:Int}:∀ z∈VD r a b,z∈r:=by
 refine SW _ _ (λz hz=>nomatch hz) λz hz=>?_;have hz:=x5 hz;unfold tn at hz
 rcases aT.mp hz with hz|hz
 .exact oQ hz
 .exact oQ (x5 hz)
theorem SX:∀ (l:List Int) (w:List Int),w≠[]->l.foldl Ab w≠[]
 | [],w,hw=>hw
 | p::l,w,hw=>by
  rw [v3];refine SX l _ λe=>?_;unfold Ab at e
  split at e
  .rename_i h
   have:=congrArg fA e;rw [VL] at this;simp at this;lia
  .exact absurd e (by simp)
theorem ada {a b:Int}(ha:a∈r):VD r a b≠[]:=by
 have hi:r.idxOf a<r.length:=fe.mpr ha;unfold VD
 have hn:tn r (r.idxOf a)≠[]:=by
  unfold tn;rw [gE hi];simp
 cases e:tn r (r.idxOf a) with
 | nil=>exact absurd e hn
 | cons c l =>
  rw [List.take_succ_cons,v3];exact SX _ _ (by unfold Ab;simp)
def xf (k:Ks) (x y:Nat):Prop:=ky x y∈k.s.1.map Ti.key
open Classical in
noncomputable def pnF (k:Ks) (b:Bool) (x y:Nat):Ks:=if xf k x y then (if b then k else otF k x y) else (if b then ptF k x y else k)
open Classical in
noncomputable def sdT (k:Ks) (b:Bool) (x y:Nat):aY:=if xf k x y then (if b then "tied" else xc k (.out x y)) else (if b then xc k (.put x y) else "gone")
theorem Xn {T:Nat}:∀ ts:List Ti,(∀ t∈ts,t.cF<=T)->0<=(ts.map λt=>(T:Int)-t.cF).sum/\(ts.map λt=>(T:Int)-t.cF).sum<=T*ts.length
 | [],_=>by simp
 | t::ts,h=>by
  have h1:=h t ah;have h2:=Xn ts λu hu=>h u (ae _ hu);rw [bu,fX,bz,Int.natCast_add,Int.mul_add];lia
theorem aah {is:List Int}(hw:w.length<=20) (hl:is.length<=2) (h:∀ i∈is,Sm i):(Eg w is).length<=1000:=by
 have b1:(⟨#[32]⟩:aY).length=1:=rfl
 match is,hl,h with
 | [],_,_=>exact a9 hw (by decide)
 | [a],_,h =>
  have:=(fW (h a (by simp))).1
  show (w++⟨#[32]⟩++iS a).length<=1000
  rw [aD,aD,b1];lia
 | [a,b],_,h =>
  have:=(fW (h a (by simp))).1;have:=(fW (h b (by simp))).1
  show (w++⟨#[32]⟩++(iS a++⟨#[32]⟩++iS b)).length<=1000
  rw [aD,aD,aD,aD,b1];lia
theorem Xo:av " "=⟨#[32]⟩:=Rs.ext (by decide)
theorem row2 (hs:av s=w++⟨#[32]⟩) (a b:Int):av s++iS a++av " "++iS b=Eg w [a,b]:=by
 show _=w++⟨#[32]⟩++(iS a++⟨#[32]⟩++iS b)
 rw [hs,Xo,iH,iH,iH (iS a)]
theorem aeW (w:aY) (a b:Int):w++(av " "++iS a++av " "++iS b)=Eg w [a,b]:=by
 show _=w++⟨#[32]⟩++(iS a++⟨#[32]⟩++iS b)
 rw [Xo,iH,iH,iH w,iH (iS a)]
theorem row1 (hs:av s=w++⟨#[32]⟩) (a:Int):av s++iS a=Eg w [a]:=by
 show _=w++⟨#[32]⟩++iS a
 rw [hs]
end Rm
namespace Rd
open PySem PySem.NumText Rs Rn
def sg (i:Int):List Nat:=(av (toString i)).cps.toList
theorem aeY (i:Int):sg i=if i<0 then 45::Cj i.natAbs else Cj i.natAbs:=signs i
theorem Xp {i:Int}{c:Nat}(h:c∈sg i):c=45/\i<0\/(48<=c/\c<=57):=by
 rw [aeY] at h
 split at h
 .rename_i hi
  rcases aj.mp h with h|h
  .exact .inl ⟨h,hi⟩
  .exact .inr (yq _ c h)
 .exact .inr (yq _ c h)
theorem sg32 (i:Int):32∉sg i:=λh=>by have:=Xp h;lia
def nm (w:List Nat):Option Nat :=
 if w=[110,101,119] then some 1 else if w=[112,117,116] then some 2 else if w=[111,117,116] then some 2 else if w=[106,111,105,110,101,100] then some 2 else if w=[119,97,121] then some 2
 else if w=[115,105,100,101] then some 1 else if w=[116,105,101,115] then some 0 else if w=[119,101,105,103,104,116] then some 0 else if w=[97,99,99,111,117,110,116] then some 0 else none
section
variable {n:Nat}{wd:Bool}{a b:Int}
end
end Rd
namespace Rd
open PySem PySem.NumText Rs Rn
section
variable {n:Nat}{wd:Bool}{a b:Int}
end
end Rd
namespace Rd
open PySem PySem.NumText Rs Rn
section
variable {n:Nat}{wd:Bool}{a b k:Int}
end
end Rd
namespace Rd
open PySem PySem.Builtin PySem.Builtin.Str Rs
theorem IL:∀ l:List Nat,(eh l.length).filterMap (l[·]?)=l
 | []=>rfl
 | a::r=>by
  rw [bz,List.range_succ_eq_map,lN,Zj]
  show a::List.filterMap (λi=>(a::r)[i+1]?) (eh r.length)=a::r
  rw [show (λi=>(a::r)[i+1]?)=(r[·]?) from funext λi=>by simp,IL r]
theorem sr (a b:Nat):sliceRange (a:Int) (b:Int) 1=(eh (b-a)).map (· + a):=by
 unfold sliceRange
 have e:(if (1:Int)>0 then (if (a:Int)<(b:Int) then ((b:Int)-a+1-1)/1 else 0) else (if (a:Int)>(b:Int) then ((a:Int)-b-1-1)/(-1) else 0)).toNat=b-a:=by
  rw [if_pos (by decide),Int.ediv_one]
  split<;>lia
 simp only [e];refine eV λk _=>?_;lia
theorem Ni (n:Nat):strSliceIndices none (some 1) 1 n=(eh (min 1 n)).map (· + 0):=by
 have h:=sr 0 (min 1 n);rw [Nat.sub_zero] at h;rw [← h];unfold strSliceIndices;simp only [show ((1:Int)>0)=True from eq_true (by decide),show ((1:Int)<0)=False from eq_false (by decide),if_true,if_false]
 congr 1
 lia
theorem Nj (n:Nat):strSliceIndices (some 1) none 1 n=(eh (n-1)).map (· + 1):=by
 unfold strSliceIndices;simp only [show ((1:Int)>0)=True from eq_true (by decide),show ((1:Int)<0)=False from eq_false (by decide),if_true,if_false]
 cases n with
 | zero=>rfl
 | succ n =>
  rw [show max (0:Int) (min 1 ((n+1:Nat):Int))=((1:Nat):Int) by lia];exact sr 1 (n+1)
theorem Xq {x:aY}{lo hi:Option Int}{l:List Nat}(h:(strSliceIndices lo hi 1 x.length).filterMap (x.cps[·]?)=l) (hf:l.length=x.length->l=x.cps.toList) (hl:l.length=(strSliceIndices lo hi 1 x.length).length):(Txt.slice x lo hi).cps.toList=l:=by
 unfold Txt.slice
 split
 .rename_i hc
  rw [fB] at hc;exact (hf (by rw [hl];exact eq_of_beq hc.2)).symm
 .exact h
theorem aai (x:aY):(Txt.slice x none (some 1)).cps.toList=x.cps.toList.take 1:=by
 have hx:x.cps.toList.length=x.length:=by simp [Pa]
 refine Xq ?_ (λe=>bV ?_) ?_
 .rw [Ni]
  cases e:x.cps.toList with
  | nil=>rw [e] at hx;rw [← hx];rfl
  | cons c r =>
   rw [e] at hx;rw [show min 1 x.length=1 by rw [← hx];simp]
   have:x.cps[0]?=some c:=by rw [← cn,e];rfl
   show [0].filterMap (x.cps[·]?)=_
   rw [lN,this];rfl
 .rw [bK] at e;lia
 .rw [Ni,ag,nF,bK,hx]
theorem aaj (x:aY):(Txt.slice x (some 1) none).cps.toList=x.cps.toList.drop 1:=by
 have hx:x.cps.toList.length=x.length:=by simp [Pa]
 refine Xq ?_ (λe=>?_) ?_
 .rw [Nj,Zj];have e:=IL (x.cps.toList.drop 1);rw [cD,hx] at e;rw [← e]
  show List.filterMap (λi=>x.cps[i+1]?) (eh (x.length-1))=_
  congr 1
  funext i
  rw [mD,← cn,Gk]
 .rw [cD] at e;have:x.cps.toList=[]:=Se.mp (by lia);rw [this];rfl
 .rw [Nj,ag,nF,cD,hx]
end Rd
namespace L2
abbrev Ln (sp:Sp) (k:Nat):Prop:=∀ vs H Q E,sp vs H Q E->vs.length=k
abbrev Rn (sp:Sp) (rd:TS) (N:List aY):Prop:=∀ vs H Q E,sp vs H Q E->rd { nx:=λ_ H'=>Q .non H',rt:=Q } (start N vs) H
abbrev Rx (sp:Sp) (rd:XK->TS) (N:List aY):Prop:=∀ vs H Q E,sp vs H Q E->rd E { nx:=λ_ H'=>Q .non H',rt:=Q } (start N vs) H
theorem gm {α β:Type} {f:α->β}{xs:List α}{i:Nat}{v:β}(h:(xs.map f)[i]?=some v):∃ t,xs[i]?=some t/\f t=v:=fT.mp (aG▸h)
theorem Bl {k:Nat}(h:Nat.ble k 100000=true:=by rfl):k<=aZ:=eS (Nat.le_of_ble_eq_true h)
theorem news {H H':Hp}{q:ai}{o:HO}(e:upd H q o=H') (h:H q=none):bY H H'/\H' q=some o:=e▸⟨bY.dm h,aK⟩
theorem iu.m {j k:Nat}{A:eD}(r:iu k A) (h:j<=k:=by decide):iu j A:=r.mono h
end L2
local macro_rules | `(tactic| walk_at "s")=>`(tactic| exact ⟨rfl,rfl,rfl,by decide +kernel,rfl,by decide +kernel,by decide +kernel⟩)
local macro_rules | `(tactic| k_in)=>`(tactic| (lk;refine L2.fG ?_;lk))
local macro_rules | `(tactic| k_go)=>`(tactic| (lk;refine L2.jC ?_;lk))
local macro_rules | `(tactic| walk_at "l")=>`(tactic| first|(intro vs H Q E h;cases h;subst_vars;rfl)|(intro vs H Q E h;repeat' (first|(obtain ⟨e,_⟩:=h;exact e▸rfl)|(obtain ⟨_,h⟩:=h))))
namespace K71
open PySem PySem.Spec PyProof.Rows L2
abbrev gg:List aY:=["self","a","b"]
abbrev tJ:List aY:=["level","side","risen","found"]
abbrev ade:List aY:=["_law_script","_law_first","_law_n","_law_desk","_law_other","_law_keeper","_law_beside","_law_cells","_law_k"]
abbrev ou:List aY:=["self","tie"]
abbrev Eh:List aY:=["a","b","level","in_wood"]
abbrev Ei:List aY:=["self","asked","numbers"]
abbrev oY:List aY:=["self","n"]
abbrev Nk:List aY:=["n","standing","a","b","tie"]
abbrev J3:List aY:=["n","standing","a","b"]
abbrev nl_9:List aY:=["_law_desk","_law_keeper","_law_n","_law_cell","_law_k","_law_a","_law_b","_law_way","_law_row","_law_due"]
abbrev Xr:List aY:=["_law_keeper","_law_way","_law_a","_law_b","_law_tail","_law_places"]
abbrev yt:List aY:=["self","tie","weight"]
abbrev Xs:List aY:=["row","a","b","along","there","back","k","m","inner","outer"]
abbrev IM:List aY:=["_law_keeper","_law_a","_law_b"]
abbrev oh:List aY:=["self","a"]
abbrev Xt:List aY:=["_law_keeper","_law_a","_law_b","_law_refused","_law_inside"]
abbrev Xu:List aY:=["_law_keeper","_law_a","_law_b","_law_refused","_law_trail"]
abbrev abA:List aY:=["_law_desk","_law_keeper","_law_n","_law_cell","_law_a","_law_b","_law_rows","_law_row"]
abbrev Bn:List aY:=["self","level","tie"]
abbrev kd:List aY:=["word"]
abbrev Xv:List aY:=["_law_desk","_law_keeper","_law_n","_law_cell","_law_k"]
abbrev kM:List aY:=["self"]
abbrev Xw:List aY:=["self","level","tie","side","risen","other","ends"]
abbrev lX:List aY:=["trail"]
abbrev Nl:List aY:=["self","a","b","tie","trail"]
abbrev Bo:List aY:=["_law_words_here"]
abbrev v8:List aY:=["n","a","b"]
abbrev Ej:List aY:=["ties","weight_of"]
abbrev IP:List aY:=["self","row","words"]
abbrev Xx:List aY:=["_law_keeper","_law_way","_law_a","_law_b"]
abbrev SY:List aY:=["a","b","level","in_wood","n"]
abbrev Xy:List aY:=["self","tie","level","looking","trail"]
abbrev qe:List aY:=["thing"]
abbrev Xz:List aY:=["row","a","b","ahead","way","place"]
abbrev Nm:List aY:=["_law_script","_law_k"]
abbrev XA:List aY:=["_law_desk","_law_row","_law_answer"]
abbrev Bp:List aY:=["self","row"]
abbrev Bq:List aY:=["n","thing"]
abbrev SZ:List aY:=["self","level","wooden"]
abbrev Ek:List aY:=["tie","side"]
abbrev XB:List aY:=["self","level","wooden","ties"]
abbrev IQ:List aY:=["row","a","b"]
abbrev abB:List aY:=["_law_desk","_law_keeper","_law_n","_law_cell"]
abbrev v9:List aY:=["a","b"]
abbrev XC:List aY:=["self","tie","level","wood"]
abbrev XD:List aY:=["self","level","tie","wood"]
abbrev XE:List aY:=["row","other","a","b","k"]
abbrev El:List aY:=["n","ties"]
abbrev abC:List aY:=["_law_cell","_law_n","_law_a","_law_b"]
abbrev abD:List aY:=["level","side","risen","found","end"]
abbrev yu:List aY:=["words"]
abbrev Nn:List aY:=["self","kept"]
abbrev XG:List aY:=["row","other","a","b"]
abbrev Em:List aY:=["numbers"]
abbrev XH:List aY:=["_law_desk","_law_row"]
abbrev Np:List aY:=["_law_script"]
abbrev XI:List aY:=["n","level","needed"]
abbrev Nq:List aY:=["_law_part"]
abbrev Nr:List aY:=["row","a"]
abbrev Nt:List aY:=["_law_row"]
def jS (i:Nat):cH:=PySem.Challenge.pw_tiewood_k71_rows_of_a_keeper.main.body.getD i (.Pass ⟨0,0,0,0⟩)
abbrev Ac:cH:=jS 12
abbrev Ad:cH:=jS 13
abbrev IR:cH:=jS 14
abbrev stop:cH:=jS 15
abbrev Ta:cH:=jS 16
abbrev J5:cH:=jS 18
abbrev Qt:cH:=jS 19
abbrev Qu:cH:=jS 20
abbrev yw:cH:=jS 22
abbrev J7:cH:=jS 23
abbrev En:cH:=jS 24
abbrev J8:cH:=jS 25
abbrev J9:cH:=jS 26
abbrev qZ:cH:=jS 28
abbrev qf:cH:=jS 29
abbrev sR:cH:=jS 30
abbrev Ae:cH:=jS 33
abbrev rQ:cH:=jS 34
abbrev Eo:cH:=jS 37
abbrev qA:cH:=jS 38
abbrev rR:cH:=jS 47
abbrev xg:cH:=jS 48
abbrev xh:cH:=jS 50
abbrev Ka:cH:=jS 52
abbrev qB:cH:=jS 53
abbrev IS:cH:=jS 54
abbrev IT:cH:=jS 55
abbrev Ep:cH:=jS 56
abbrev xi:cH:=jS 57
abbrev Br:cH:=jS 58
abbrev ud:cH:=jS 59
abbrev wb:cH:=jS 64
abbrev Er:cH:=jS 65
abbrev Bs:cH:=jS 66
abbrev IU:cH:=jS 67
abbrev ue:cH:=jS 68
abbrev Ag:cH:=jS 69
abbrev Ah:cH:=jS 70
abbrev xj:cH:=jS 71
abbrev uf:cH:=jS 72
abbrev Es:cH:=jS 73
abbrev Et:cH:=jS 74
abbrev adf:cH:=jS 75
abbrev oZ:cH:=dE (jS 31) 0
abbrev Eu:cH:=dE (jS 31) 1
abbrev Ew:cH:=dE (jS 31) 2
abbrev IV:cH:=dE (jS 31) 3
abbrev yx:cH:=dE (jS 31) 4
abbrev Bt:cH:=dE (jS 31) 5
abbrev Ex:cH:=dE (jS 31) 6
abbrev IW:cH:=dE (jS 31) 7
abbrev mQ:cH:=dE (jS 35) 0
abbrev Bu:cH:=dE (jS 35) 1
abbrev wc:cH:=dE (jS 35) 2
abbrev rS:cH:=dE (jS 35) 3
abbrev rT:cH:=dE (jS 35) 4
abbrev mR:cH:=dE (jS 35) 5
abbrev yz:cH:=dE (jS 35) 6
abbrev kP:cH:=dE (jS 35) 7
abbrev rV:cH:=dE (jS 35) 8
abbrev rW:cH:=dE (jS 35) 9
abbrev pb:cH:=dE (jS 39) 0
abbrev we:cH:=dE (jS 39) 1
abbrev vk:cH:=dE (jS 39) 2
abbrev yA:cH:=dE (jS 39) 3
abbrev IX:cH:=dE (jS 39) 4
abbrev Ey:cH:=dE (jS 39) 5
abbrev xk:cH:=dE (jS 39) 6
abbrev wg:cH:=dE (jS 39) 7
abbrev ug:cH:=dE (jS 41) 0
abbrev pd:cH:=dE (jS 62) 0
abbrev vm:cH:=dE (jS 62) 1
abbrev Bv:cH:=dE (jS 62) 3
abbrev ow:cH:=dE (jS 62) 4
abbrev vn:cH:=dE (jS 62) 5
theorem Qv:bb qe qe (aM Ac):=by walk_at "s"
theorem Qw:bb qe qe (aM Ad):=by walk_at "s"
theorem Qx:bb Bq Bq (aM IR):=by walk_at "s"
theorem XJ:bb XI ["n"] (aM stop):=by walk_at "s"
theorem XM:bb v9 v9 (aM Ta):=by walk_at "s"
theorem XN:bb El El (aM J5):=by walk_at "s"
theorem aak:bb lX lX (aM Qt):=by walk_at "s"
theorem Tb:bb ["trail","finds"] lX (aM Qu):=by walk_at "s"
theorem GG:bb ["row"] ["row"] (aM yw):=by walk_at "s"
theorem Nu:bb ["row","a","k"] Nr (aM J7):=by walk_at "s"
theorem IY:bb XE XG (aM En):=by walk_at "s"
theorem Ez:bb Xs IQ (aM J8):=by walk_at "s"
theorem XO:bb Xz IQ (aM J9):=by walk_at "s"
theorem yB:bb Bq Bq (aM qZ):=by walk_at "s"
theorem xl:bb v8 v8 (aM qf):=by walk_at "s"
theorem Ai:bb v8 v8 (aM sR):=by walk_at "s"
theorem Qy:bb Ej Ej (aM Ae):=by walk_at "s"
theorem GH:bb Ek Ek (aM rQ):=by walk_at "s"
theorem Aj:bb Nk J3 (aM Eo):=by walk_at "s"
theorem pe:bb Nk J3 (aM qA):=by walk_at "s"
theorem wj:bb ["word","figures"] kd (aM rR):=by walk_at "s"
theorem Nv:bb kd kd (aM xg):=by walk_at "s"
theorem Nw:bb kd kd (aM xh):=by walk_at "s"
theorem XQ:bb yu yu (aM Ka):=by walk_at "s"
theorem EA:bb Em Em (aM qB):=by walk_at "s"
theorem Qz:bb ["way"] ["way"] (aM IS):=by walk_at "s"
theorem QB:bb v9 v9 (aM IT):=by walk_at "s"
theorem Nx:bb Eh Eh (aM Ep):=by walk_at "s"
theorem Ny:bb ["ties"] ["ties"] (aM xi):=by walk_at "s"
theorem yC:bb abD tJ (aM Br):=by walk_at "s"
theorem Kb:bb lX lX (aM ud):=by walk_at "s"
theorem EB:bb Nm Nm (aM wb):=by walk_at "s"
theorem Nz:bb abC ["_law_cell","_law_n"] (aM Er):=by walk_at "s"
theorem Kc:bb ["_law_part","_law_word"] Nq (aM Bs):=by walk_at "s"
theorem QC:bb ["_law_row","_law_word"] Nt (aM IU):=by walk_at "s"
theorem Kd:bb Bo Bo (aM ue):=by walk_at "s"
theorem xm:bb Xt IM (aM Ag):=by walk_at "s"
theorem xn:bb Xu IM (aM Ah):=by walk_at "s"
theorem qg:bb XA XH (aM xj):=by walk_at "s"
theorem Ke:bb Xr Xx (aM uf):=by walk_at "s"
theorem NA:bb abA abB (aM Es):=by walk_at "s"
theorem NB:bb nl_9 Xv (aM Et):=by walk_at "s"
theorem NC:bb ade Np (aM adf):=by walk_at "s"
theorem Ck:bb oY oY (aM oZ):=by walk_at "s"
theorem ND:bb ["self","row","place"] Bp (aM Eu):=by walk_at "s"
theorem NF:bb gg gg (aM Ew):=by walk_at "s"
theorem QD:bb ["self","a","b","row"] gg (aM IV):=by walk_at "s"
theorem GI:bb gg gg (aM yx):=by walk_at "s"
theorem Kg:bb oh oh (aM Bt):=by walk_at "s"
theorem NG:bb oh oh (aM Ex):=by walk_at "s"
theorem QE:bb gg gg (aM IW):=by walk_at "s"
theorem yD:bb oY oY (aM mQ):=by walk_at "s"
theorem Kh:bb yt yt (aM Bu):=by walk_at "s"
theorem ED:bb ["self","tie","wood"] ou (aM wc):=by walk_at "s"
theorem GJ:bb ou ou (aM rS):=by walk_at "s"
theorem wk:bb XC ou (aM rT):=by walk_at "s"
theorem qh:bb XB SZ (aM mR):=by walk_at "s"
theorem GK:bb ou ou (aM yz):=by walk_at "s"
theorem uh:bb XD Bn (aM kP):=by walk_at "s"
theorem qC:bb Xw Bn (aM rV):=by walk_at "s"
theorem qD:bb Xy ou (aM rW):=by walk_at "s"
theorem Cm:bb oY oY (aM pb):=by walk_at "s"
theorem EE:bb yt yt (aM we):=by walk_at "s"
theorem xo:bb Nl gg (aM vk):=by walk_at "s"
theorem GL:bb gg gg (aM yA):=by walk_at "s"
theorem QF:bb gg gg (aM IX):=by walk_at "s"
theorem NH:bb oh oh (aM Ey):=by walk_at "s"
theorem NI:bb kM kM (aM xk):=by walk_at "s"
theorem EF:bb kM kM (aM wg):=by walk_at "s"
theorem yE:bb gg gg (aM ug):=by walk_at "s"
theorem Cn:bb kM kM (aM pd):=by walk_at "s"
theorem rX:bb IP Bp (aM vm):=by walk_at "s"
theorem Ki:bb Nn Nn (aM Bv):=by walk_at "s"
theorem wm:bb Ei Ei (aM ow):=by walk_at "s"
theorem EG:bb gg gg (aM vn):=by walk_at "s"
structure CA where
  (bo Keeper rC jb:ai)
structure EC where
  (pP vO:ai)
structure XF (K:aa) (x1 x2 D:ai) (b1 b2:Bool):Prop where
 ex:Z9 K D
 e1:HY K (.ref D) (.ref x1)=some b1
 e2:HY K (.ref D) (.ref x2)=some b2
def NUMD:List (aY×PyData):=[("new",.int 1),("put",.int 2),("out",.int 2),("joined",.int 2),("way",.int 2),("side",.int 1),("ties",.int 0),("weight",.int 0),("account",.int 0)]
abbrev UM:List (PyData×PyData):=NUMD.map λp=>(PyData.str p.1,p.2)
structure Txt (P:bQ) (w:cK) (K:aa) (mg:aY->Option au) (C:ai) (A:CA) (X:EC):Prop where
 LK:Dj K C
 aaJ:mg "Wood"=some (.ref C)
 uY:dN K C "n"
 nS:dN K C "rows"
 Je:Dj K A.bo
 U3:mg "Levels"=some (.ref A.bo)
 iV:dN K A.bo "level_of"
 ir:dN K A.bo "weight_of"
 jG:dN K A.bo "wooden"
 kj:dN K A.bo "woods"
 mY:Dj K A.Keeper
 vt:mg "Keeper"=some (.ref A.Keeper)
 lb:dN K A.Keeper "came"
 jF:dN K A.Keeper "levels"
 jE:dN K A.Keeper "looked"
 lg:dN K A.Keeper "lost"
 pR:dN K A.Keeper "n"
 ki:dN K A.Keeper "risen"
 lh:dN K A.Keeper "wood"
 sO:Dj K A.jb
 Tq:mg "Desk"=some (.ref A.jb)
 nT:dN K A.jb "kept"
 BZ:mg "Lightest"=some (.ref A.rC)
 LL:mg "NoTie"=some (.ref X.pP)
 R0:mg "Tied"=some (.ref X.vO)
 nR:XF K X.pP X.vO X.pP true false
 sN:XF K X.pP X.vO X.vO false true
 xhn:qS K (.builtin "object.__class__") "__get__"=some (some (.builtin "getset_descriptor.__get__"))
 YQ:tT K (.builtin "object.__class__")=some true
 adt:mg "bool"=none
 abN:mg "int"=none
 mi:mg "isinstance"=none
 To:mg "len"=none
 YO:mg "list"=none
 afm:mg "max"=none
 afl:mg "min"=none
 aaG:mg "range"=none
 afj:mg "set"=none
 zw:mg "sorted"=none
 afo:mg "str"=none
 abQ:mg "sum"=none
 afn:mg "zip"=none
 HS:∃ t:Tu,mg "MOST_PLACES"=some (.int 200 t)
 U5:∃ t:Tu,mg "FIGURES"=some (.str "0123456789" t)
 Gc:∃ t:Tu,mg "MOST_FIGURES"=some (.int 60 t)
 iA:iD K (.ref A.Keeper) (.ref A.rC)=some false
 nums:∃ a,mg "NUMBERS"=some (.ref a)/\∀ h,K.In h->Gj P w h a UM
 zu:∃ f,mg "trail_text"=some (.ref f)/\c6 K (.ref f)=true
variable {P:bQ}{w:cK}{K:aa}{mg:aY->Option au}{base:cI}{f:ai}{fd:gA}{sp:Sp}{C:ai}{A:CA}{X:EC}
def ui (K:aa) (C:ai):TS :=
 cC (x8 (jQ (ZT K) (ao (ak 0) (ao (tC (.ty "int")) aR))) (VV (jQ (ZT K) (ao (ak 0) (ao (tC (.ty "bool")) aR)))))
def uj (K:aa) (C:ai) (hW:Sp):TS :=
 cC (x8 (cb hW [] E0 (ao (ak 0) aR)) (Dz (tG λi j=>.bl (decide (i<=j))) (tG λi j=>.bl (decide (i<=j))) (tC (.int 1)) (ak 0) (tC (.int 200))))
def Bx (K:aa) (C:ai) (hW:Sp):TS :=
 cC (x8 (cb hW [] E0 (ao (ak 1) aR)) (Dz (tG λi j=>.bl (decide (i<=j))) (tG λi j=>.bl (decide (i<j))) (tC (.int 0)) (ak 1) (ak 0)))
def NJ (K:aa) (C:ai):TS :=
 Jt (cu (bU (tG λi j=>.bl (decide (i<=j))) (ak 2) (ak 0)))
 (bB (VX 1 (tC (.int 1)) (tG λi j=>.int (i+j)))
 (VX 2 (tC (.int 2)) (rI Va λi j=>.int (i*j))))
def QG (K:aa) (C:ai):TS :=
 bB (dB (tC (.int 0)) (bf 1))
 (bB (dB (tC (.int 4)) (bf 2))
 (bB (NJ K C)
 (cC (ak 1))))
def IZ (K:aa) (C:ai):TS :=
 cC (Pn (cu (bU (tG λi j=>.bl (decide (i<j))) (ak 0) (ak 1))) (qx (ao (ak 0) (ao (ak 1) aR))) (qx (ao (ak 1) (ao (ak 0) aR))))
def Ak (K:aa) (C:ai) (lz:Sp):TS :=
 cC (jQ (WY K) (ao (jB 4 [0] (mO K (ak 1)) (Gx K 4 (jj (bf 0) (jj (bf 1) (jj (bf 2) (jj (bf 3) Js))))) rN (bU (tG λi j=>.int (i-j)) (cb lz [] E0 (ao (ak 4) aR)) (ak 2))) aR))
def EH (K:aa) (C:ai):TS :=
 cC (jQ (WY K) (ao (jB 4 [] (mO K (ak 0)) (Gx K 4 (jj (bf 0) (jj (bf 1) (jj (bf 2) (jj (bf 3) Js))))) rN (jQ (nX K) (ao (ak 2) aR))) aR))
def EI (K:aa) (C:ai) (fH:Sp):TS :=
 bB (dB (jB 4 [] (mO K (ak 0)) (Gx K 4 (jj (bf 0) (jj (bf 1) (jj (bf 2) (jj (bf 3) Js))))) (tB (VU (ak 3))) (ak 3)) (bf 1))
 (cC (Pn (mH K (ak 1)) (bU jk (cb fH [] E0 (ao (ak 0) aR)) (tC (.int 1))) (cb fH [] E0 (ao (ak 0) aR))))
def uk (K:aa) (C:ai):TS :=
 cC (WC K (ao (ak 0) (ao (Mm (rM K) (ak 0) (kZ (tC (.int 1))) jv) aR)))
def Al (K:aa) (C:ai):TS :=
 bB (dB (GB K "list" (qd K) (ak 0) (ao (ak 1) aR)) (bf 2))
 (cC (bU jk (Mm (rM K) (ak 0) (kZ (ak 2)) jv) (Mm (rM K) (ak 0) (kZ (tC (.int 1))) (kZ (bU jk (ak 2) (tC (.int 1)))))))
def xp (K:aa) (C:ai) (fO:Sp):TS :=
 bB (dB (GB K "list" (qd K) (ak 0) (ao (ak 2) aR)) (bf 4))
 (cC (bU jk (bU jk (Mm (rM K) (ak 0) jv (kZ (bU jk (ak 4) (tC (.int 1))))) (cb fO [] E0 (ao (ak 1) (ao (ak 3) aR)))) (Mm (rM K) (ak 0) (kZ (ak 4)) jv)))
def Am (K:aa) (C:ai) (dA:Sp):TS :=
 bB (dB (cb dA [] E0 (ao (ak 0) aR)) (bf 3))
 (bB (dB (GB K "list" (qd K) (ak 3) (ao (qx (ao (ak 1) (ao (ak 2) aR))) aR)) (bf 4))
 (bB (dB (GB K "list" (qd K) (ak 3) (ao (qx (ao (ak 2) (ao (ak 1) aR))) aR)) (bf 5))
 (bB (dB (jQ abk (ao (ak 4) (ao (ak 5) aR))) (bf 6))
 (bB (dB (jQ abl (ao (ak 4) (ao (ak 5) aR))) (bf 7))
 (bB (dB (Mm (rM K) (ak 0) (kZ (bU jk (ak 6) (tC (.int 1)))) (kZ (bU jk (ak 7) (tC (.int 1))))) (bf 8))
 (bB (dB (bU jk (Mm (rM K) (ak 0) jv (kZ (bU jk (ak 6) (tC (.int 1))))) (Mm (rM K) (ak 0) (kZ (bU jk (ak 7) (tC (.int 2)))) jv)) (bf 9))
 (cC (Pn (cu (bU (tG λi j=>.bl (decide (i<j))) (ak 4) (ak 5))) (qx (ao (ak 9) (ao (ak 8) aR))) (qx (ao (ak 8) (ao (ak 9) aR)))))))))))
def By (K:aa) (C:ai) (fO:Sp):TS :=
 Dw (mO K (Mm (rM K) (ak 3) jv (kZ (bU jk (GB K "list" (qd K) (ak 3) (ao (ak 2) aR)) (tC (.int 1)))))) (bf 5)
 (eO (Gw (cu (bU (tG λi j=>.bl (decide (j<i))) (jQ (nX K) (ao (ak 4) aR)) (tC (.int 1)))) (cu (bU (gY K) (bU (c5 K) (ak 4) (tUn (rU λi=>.int (-i)) (tC (.int 2)))) (ak 5))))
 (iK (acr K "list" acu (ak 4)))
 (iK (GB K "list" vg (ak 4) (ao (ak 5) aR))))
def An (K:aa) (C:ai) (fO:Sp):TS :=
 bB (dB (cb fO [] E0 (ao (ak 0) (ao (ak 1) aR))) (bf 3))
 (bB (dB (MC aR) (bf 4))
 (bB (By K C fO)
 (cC (ak 4))))
def pf (K:aa) (C:ai) (nJ:Sp):TS :=
 eO (Jq (mH K (cb nJ [] E0 (ao (ak 0) (ao (ak 1) aR)))))
 fV
 cM
def oi (K:aa) (C:ai) (cA:Sp):TS :=
 bB (iK (cb cA [] E0 (ao (ak 0) (ao (ak 1) aR))))
 (iK (cb cA [] E0 (ao (ak 0) (ao (ak 2) aR))))
def qi (K:aa) (C:ai) (dQ:Sp):TS :=
 bB (iK (cb dQ [] E0 (ao (ak 0) (ao (ak 1) (ao (ak 2) aR)))))
 (eO (cu (bU (gY K) (ak 1) (ak 2)))
 fV
 cM)
def qj (K:aa) (C:ai) (Pt:ai):TS :=
 cC (Qe Pt ⟨129,28,129,61⟩ ((("in_order":aY)++".<locals>.")++"<lambda>") 1 (ao (ak 0) aR))
def ph (K:aa) (C:ai):TS :=
 cC (jQ (nX K) (ao (jB 1 [1] (mO K (ak 0)) (bf 0) (cu (bU (GC K false) (ak 0) (ak 1))) (ak 0)) aR))
def EJ (K:aa) (C:ai) (aV dH:Sp):TS :=
 bB (iK (cb aV [] E0 (ao (ak 0) (ao (ak 2) (ao (ak 3) aR)))))
 (bB (dB (cb dH [] E0 (ao (ak 2) (ao (ak 3) aR))) (bf 4))
 (bB (eO (cu (bU (GC K false) (ak 4) (ak 1)))
 fV
 cM)
 (cC (ak 4))))
def sT (K:aa) (C:ai) (aV dH:Sp):TS :=
 bB (iK (cb aV [] E0 (ao (ak 0) (ao (ak 2) (ao (ak 3) aR)))))
 (bB (dB (cb dH [] E0 (ao (ak 2) (ao (ak 3) aR))) (bf 4))
 (bB (eO (cu (bU (GC K true) (ak 4) (ak 1)))
 fV
 cM)
 (cC (ak 4))))
def pj (K:aa) (C:ai):TS :=
 bB (dB (jB 1 [] (W6 (ak 0)) (bf 0) (cu (bU rInS (ak 0) (tC (.str "0123456789")))) (ak 0)) (bf 1))
 (cC (x8 (Dz (tG λi j=>.bl (decide (i<=j))) (tG λi j=>.bl (decide (i<=j))) (tC (.int 1)) (jQ W7 (ao (ak 0) aR)) (tC (.int 60))) (x8 (bU (gY K) (jQ (nX K) (ao (ak 1) aR)) (jQ W7 (ao (ak 0) aR))) (Zo (bU (gY K) (ak 0) (tC (.str "0"))) (bU (yf K) (bU abr (ak 0) (tC (.int 0))) (tC (.str "0")))))))
def rY (K:aa) (C:ai) (fI:Sp):TS :=
 cC (Zo (cb fI [] E0 (ao (ak 0) aR)) (x8 (bU (gY K) (Mm ac4 (ak 0) jv (kZ (tC (.int 1)))) (tC (.str "-"))) (x8 (bU (yf K) (ak 0) (tC (.str "-0"))) (cb fI [] E0 (ao (Mm ac4 (ak 0) (kZ (tC (.int 1))) jv) aR)))))
def rZ (K:aa) (C:ai) (iN:Sp):TS :=
 bB (eO (Jq (mH K (cb iN [] E0 (ao (ak 0) aR))))
 fV
 cM)
 (cC (jQ abt (ao (ak 0) aR)))
def Ao (K:aa) (C:ai):TS :=
 cC (Pn (mH K (ak 0)) (GB K "str" (D8 K) (tC (.str " ")) (ao (ak 0) aR)) (tC (.str "none")))
def nZ (K:aa) (C:ai) (dW:Sp):TS :=
 cC (cb dW [] E0 (ao (jB 1 [] (mO K (ak 0)) (bf 0) rN (jQ jR (ao (ak 0) aR))) aR))
def um (K:aa) (C:ai) (du:Sp):TS :=
 cC (Pn (tB (My (ak 0))) (tC (.str "none")) (cb du [] E0 (ao (ak 0) aR)))
def Bz (K:aa) (C:ai):TS :=
 cC (tF3 "-" (ak 0) (ak 1))
def yF (K:aa) (C:ai) (jl:Sp):TS :=
 cC (bU dG (bU dG (bU dG (cb jl [] E0 (ao (ak 0) (ao (ak 1) aR))) (tC (.str ":"))) (jQ jR (ao (ak 2) aR))) (Pn (mH K (ak 3)) (tC (.str "*")) (tC (.str ""))))
def r0 (K:aa) (C:ai) (dW iO:Sp):TS :=
 cC (cb dW [] E0 (ao (jB 4 [] (mO K (ak 0)) (Gx K 4 (jj (bf 0) (jj (bf 1) (jj (bf 2) (jj (bf 3) Js))))) rN (cb iO [] E0 (ao (ak 0) (ao (ak 1) (ao (ak 2) (ao (ak 3) aR)))))) aR))
def wo (K:aa) (C:ai) (jl:Sp):TS :=
 bB (dB (Pn (tB (My (ak 3))) (tC (.str "")) (bU dG (tC (.str ">")) (cb jl [] E0 (ao (bU (c5 K) (ak 3) (tC (.int 0))) (ao (bU (c5 K) (ak 3) (tC (.int 1))) aR))))) (bf 4))
 (cC (bU dG (bU dG (bU dG (bU dG (bU dG (jQ jR (ao (ak 0) aR)) (tC (.str ":"))) (jQ jR (ao (jQ (nX K) (ao (ak 1) aR)) aR))) (tC (.str "/"))) (jQ jR (ao (jQ (nX K) (ao (ak 2) aR)) aR))) (ak 4)))
def qF (K:aa) (C:ai) (dW hX:Sp):TS :=
 cC (cb dW [] E0 (ao (jB 4 [] (mO K (ak 0)) (Gx K 4 (jj (bf 0) (jj (bf 1) (jj (bf 2) (jj (bf 3) Js))))) rN (cb hX [] E0 (ao (ak 0) (ao (ak 1) (ao (ak 2) (ao (ak 3) aR)))))) aR))
def sU (K:aa) (C:ai):TS :=
 bB (eO (cu (bU (tG λi j=>.bl (decide (i<j))) (ak 1) (jQ (nX K) (ao (ak 0) aR))))
 (cC (bU (c5 K) (ak 0) (ak 1)))
 cM)
 (cC (tC (.int 4)))
def yG (K:aa) (C:ai):TS :=
 bB (dB (bU (rI (λ_ j=>0<j) λi j=>.int (i%j)) (ak 0) (ak 1)) (bf 2))
 (bB (dB (bU (rI (λ_ j=>0<j) λi j=>.int (i%j)) (bU jk (bU jk (ak 2) (tC (.int 1))) (bU (rI (λ_ j=>0<j) λi j=>.int (i%j)) (bU (rI Ce λi j=>.int (i/j)) (ak 0) (tC (.int 20))) (tC (.int 3)))) (ak 1)) (bf 3))
 (bB (eO (cu (bU (gY K) (bU (rI (λ_ j=>0<j) λi j=>.int (i%j)) (ak 0) (tC (.int 4))) (tC (.int 1))))
 (dB (bU (rI (λ_ j=>0<j) λi j=>.int (i%j)) (bU (rI (λ_ j=>0<j) λi j=>.int (i%j)) (bU (rI Va λi j=>.int (i*j)) (ak 0) (tC (.int 48271))) (tC (.int 2147483647))) (ak 1)) (bf 3))
 cM)
 (bB (eO (cu (bU (gY K) (ak 2) (ak 3)))
 (dB (bU (rI (λ_ j=>0<j) λi j=>.int (i%j)) (bU jk (ak 2) (tC (.int 1))) (ak 1)) (bf 3))
 cM)
 (cC (qx (ao (ak 2) (ao (ak 3) aR)))))))
def wq (K:aa) (C:ai):TS :=
 bB (dB (bU dG (bU dG (bU dG (bU dG (jQ jR (ao (bU (c5 K) (ak 0) (tC (.int 0))) aR)) (tC (.str ":"))) (jQ jR (ao (jQ (nX K) (ao (bU (c5 K) (ak 0) (tC (.int 1))) aR)) aR))) (tC (.str "/"))) (jQ jR (ao (jQ (nX K) (ao (bU (c5 K) (ak 0) (tC (.int 2))) aR)) aR))) (bf 1))
 (bB (eO (tB (My (bU (c5 K) (ak 0) (tC (.int 3)))))
 (cC (ak 1))
 cM)
 (cC (bU dG (bU dG (bU dG (bU dG (ak 1) (tC (.str ">"))) (jQ jR (ao (bU (c5 K) (bU (c5 K) (ak 0) (tC (.int 3))) (tC (.int 0))) aR))) (tC (.str "-"))) (jQ jR (ao (bU (c5 K) (bU (c5 K) (ak 0) (tC (.int 3))) (tC (.int 1))) aR)))))
def BA (K:aa) (C:ai):TS :=
 bB (dB (bU dG (bU dG (bU dG (bU dG (jQ jR (ao (bU (c5 K) (ak 0) (tC (.int 0))) aR)) (tC (.str "-"))) (jQ jR (ao (bU (c5 K) (ak 0) (tC (.int 1))) aR))) (tC (.str ":"))) (jQ jR (ao (bU (c5 K) (ak 0) (tC (.int 2))) aR))) (bf 1))
 (bB (eO (mH K (bU (c5 K) (ak 0) (tC (.int 3))))
 (cC (bU dG (ak 1) (tC (.str "*"))))
 cM)
 (cC (ak 1)))
def qG (K:aa) (C:ai):TS :=
 bB (eO (tOr (tB (My (ak 0))) (cu (bU (gY K) (jQ (nX K) (ao (ak 0) aR)) (tC (.int 0)))))
 (cC (tC (.str "none")))
 cM)
 (cC (GB K "str" (D8 K) (tC (.str " ")) (ao (ak 0) aR)))
def uo (K:aa) (C:ai) (A:CA) (X:EC) (sp_Keeper_put_o:Sp):TS :=
 bB (dB (tC (.bl false)) (bf 3))
 (bB (dB (tC (.bl false)) (bf 4))
 (bB (SN K 5 [(.ref X.vO,(dB (tC (.bl true)) (bf 3):TS))] (λE =>
 dB (cJ A.Keeper "put" sp_Keeper_put_o [] E (ak 0) (ao (ak 1) (ao (ak 2) aR))) (bf 4)))
 (bB (eO (mH K (ak 3))
 (cC (tC (.str "tied")))
 cM)
 (bB (eO (mH K (ak 4))
 (cC (tC (.str "wood")))
 cM)
 (cC (tC (.str "beside")))))))
def uq (K:aa) (C:ai) (A:CA) (X:EC) (dF sp_Kept_out_o hZ:Sp):TS :=
 bB (dB (tC (.bl false)) (bf 3))
 (bB (dB (MC aR) (bf 4))
 (bB (SN K 5 [(.ref X.pP,(dB (tC (.bl true)) (bf 3):TS))] (λE =>
 dB (cJ A.Keeper "out" sp_Kept_out_o [] E (ak 0) (ao (ak 1) (ao (ak 2) aR))) (bf 4)))
 (bB (eO (mH K (ak 3))
 (cC (tC (.str "gone")))
 cM)
 (cC (cb dF [] E0 (ao (jB 1 [] (mO K (ak 4)) (bf 0) rN (cb hZ [] E0 (ao (ak 0) aR))) aR))))))
def r9 (K:aa) (C:ai) (A:CA) (X:EC) (sp_Desk_say_o:Sp):TS :=
 bB (dB (tC (.str "")) (bf 2))
 (bB (SN K 3 [(.ref X.vO,(dB (tC (.str "tied")) (bf 2):TS)),(.ref X.pP,(dB (tC (.str "gone")) (bf 2):TS))] (λE =>
 dB (cJ A.jb "say" sp_Desk_say_o [] E (ak 0) (ao (ak 1) aR)) (bf 2)))
 (cC (ak 2)))
def qH (K:aa) (C:ai) (A:CA) (eI dF cX jm cN dS cw:Sp):TS :=
 bB (dB (bU dG (bU dG (bU dG (tC (.str " ")) (jQ jR (ao (ak 2) aR))) (tC (.str " "))) (jQ jR (ao (ak 3) aR))) (bf 4))
 (bB (eO (cu (bU (gY K) (ak 1) (tC (.int 0))))
 (cC (qx (ao (bU dG (tC (.str "joined")) (ak 4)) (ao (Pn (mH K (cJ A.Keeper "joined" cX [] E0 (ak 0) (ao (ak 2) (ao (ak 3) aR)))) (tC (.str "yes")) (tC (.str "no"))) aR))))
 cM)
 (bB (eO (cu (bU (gY K) (ak 1) (tC (.int 1))))
 (bB (dB (cJ A.Keeper "way" eI [] E0 (ak 0) (ao (ak 2) (ao (ak 3) aR))) (bf 5))
 (bB (eO (tB (My (ak 5)))
 (cC (qx (ao (bU dG (tC (.str "way")) (ak 4)) (ao (tC (.str "none")) aR))))
 cM)
 (cC (qx (ao (bU dG (tC (.str "way")) (ak 4)) (ao (GB K "str" (D8 K) (tC (.str " ")) (ao (jB 1 [] (mO K (ak 5)) (bf 0) rN (jQ jR (ao (ak 0) aR))) aR)) aR))))))
 cM)
 (bB (eO (cu (bU (gY K) (ak 1) (tC (.int 2))))
 (cC (qx (ao (bU dG (tC (.str "side ")) (jQ jR (ao (ak 2) aR))) (ao (GB K "str" (D8 K) (tC (.str " ")) (ao (jB 1 [] (mO K (cJ A.Keeper "side" dS [] E0 (ak 0) (ao (ak 2) aR))) (bf 0) rN (jQ jR (ao (ak 0) aR))) aR)) aR))))
 cM)
 (bB (eO (cu (bU (gY K) (ak 1) (tC (.int 3))))
 (cC (qx (ao (tC (.str "ties")) (ao (cb dF [] E0 (ao (jB 1 [] (mO K (cJ A.Keeper "ties" cw [] E0 (ak 0) aR)) (bf 0) rN (cb jm [] E0 (ao (ak 0) aR))) aR)) aR))))
 cM)
 (cC (qx (ao (tC (.str "account")) (ao (GB K "str" (D8 K) (tC (.str " ")) (ao (jB 1 [] (mO K (cJ A.Keeper "account" cN [] E0 (ak 0) aR)) (bf 0) rN (jQ jR (ao (ak 0) aR))) aR)) aR))))))))
def yH (K:aa) (C:ai) (A:CA) (lY cw jw lH nK:Sp):TS :=
 bB (dB (cb lY [] E0 (ao (bU (rI Ce λi j=>.int (i/j)) (ak 3) (tC (.int 10))) (ao (ak 2) aR))) (Gx K 2 (jj (bf 4) (jj (bf 5) Js))))
 (bB (dB (cJ A.Keeper "ties" cw [] E0 (ak 1) aR) (bf 6))
 (bB (eO (cu (bU (tG λi j=>.bl (decide (i<j))) (bU (rI (λ_ j=>0<j) λi j=>.int (i%j)) (ak 3) (tC (.int 10))) (tC (.int 5))))
 (cC (bU (gY K) (cb jw [] E0 (ao (ak 0) (ao (bU dG (bU dG (bU dG (tC (.str "put ")) (jQ jR (ao (ak 4) aR))) (tC (.str " "))) (jQ jR (ao (ak 5) aR))) aR))) (cb nK [] E0 (ao (ak 1) (ao (ak 4) (ao (ak 5) aR))))))
 cM)
 (bB (eO (Gw (cu (bU (tG λi j=>.bl (decide (j<i))) (jQ (nX K) (ao (ak 6) aR)) (tC (.int 0)))) (cu (bU (gY K) (bU (rI (λ_ j=>0<j) λi j=>.int (i%j)) (bU (rI Ce λi j=>.int (i/j)) (ak 3) (tC (.int 10))) (tC (.int 2))) (tC (.int 0)))))
 (bB (dB (bU (c5 K) (ak 6) (bU (rI (λ_ j=>0<j) λi j=>.int (i%j)) (bU (rI Ce λi j=>.int (i/j)) (ak 3) (tC (.int 20))) (jQ (nX K) (ao (ak 6) aR)))) (bf 7))
 (bB (dB (bU (c5 K) (ak 7) (tC (.int 1))) (bf 4))
 (dB (bU (c5 K) (ak 7) (tC (.int 0))) (bf 5))))
 cM)
 (cC (bU (gY K) (cb jw [] E0 (ao (ak 0) (ao (bU dG (bU dG (bU dG (tC (.str "out ")) (jQ jR (ao (ak 4) aR))) (tC (.str " "))) (jQ jR (ao (ak 5) aR))) aR))) (cb lH [] E0 (ao (ak 1) (ao (ak 4) (ao (ak 5) aR)))))))))
def ur (K:aa) (C:ai) (A:CA) (fz gj bF:Sp):TS :=
 Dw (mO K (MC (ao (bU (rI (λ_ j=>0<j) λi j=>.int (i%j)) (ak 4) (tC (.int 5))) (ao (bU (rI (λ_ j=>0<j) λi j=>.int (i%j)) (bU (rI Ce λi j=>.int (i/j)) (ak 3) (tC (.int 7))) (tC (.int 5))) aR)))) (bf 7)
 (bB (dB (cb fz [] E0 (ao (ak 1) (ao (ak 7) (ao (ak 5) (ao (ak 6) aR))))) (Gx K 2 (jj (bf 8) (jj (bf 9) Js))))
 (eO (cu (bU (yf K) (cJ A.jb "say" bF [] E0 (ak 0) (ao (ak 8) aR)) (ak 9)))
 (cC (tC (.bl false)))
 cM))
abbrev uu (K:aa) (C:ai) (A:CA) (fz gj bF:Sp):TS :=
 bB (dB (bU (rI (λ_ j=>0<j) λi j=>.int (i%j)) (bU (rI Ce λi j=>.int (i/j)) (ak 3) (tC (.int 5))) (ak 2)) (bf 6))
 (bB (ur K C A fz gj bF)
 (cC (tC (.bl true))))
def yI (K:aa) (C:ai) (A:CA) (fz gj bF:Sp):TS :=
 bB (eO (Gw (cu (bU (tG λi j=>.bl (decide (j<i))) (ak 2) (tC (.int 1)))) (Jq (mH K (cb gj [] E0 (ao (ak 0) (ao (ak 1) (ao (ak 2) (ao (ak 3) aR))))))))
 (cC (tC (.bl false)))
 cM)
 (bB (dB (bU (rI (λ_ j=>0<j) λi j=>.int (i%j)) (bU (rI Ce λi j=>.int (i/j)) (ak 3) (tC (.int 3))) (ak 2)) (bf 5))
 (uu K C A fz gj bF))
def EK (K:aa) (C:ai) (A:CA) (bZ bP aW ck bF:Sp):TS :=
 Dw (Mz (ao (jQ (nX K) (ao (ak 7) aR)) aR)) (bf 8)
 (bB (eO (Jq (mH K (cb ck [] E0 (ao (ak 3) (ao (ak 5) (ao (ak 2) (ao (bU (c5 K) (ak 7) (ak 8)) (ao (ak 8) aR))))))))
 (cC (tC (.bl false)))
 cM)
 (eO (Gw (cu (bU (gY K) (bU (rI (λ_ j=>0<j) λi j=>.int (i%j)) (ak 1) (tC (.int 3))) (tC (.int 0)))) (Jq (mH K (cb ck [] E0 (ao (ak 4) (ao (ak 6) (ao (tC (.int 3)) (ao (bU jk (bU (rI Ce λi j=>.int (i/j)) (bU (c5 K) (ak 7) (ak 8)) (tC (.int 2))) (ak 8)) (ao (ak 8) aR)))))))))
 (cC (tC (.bl false)))
 cM))
abbrev XR (K:aa) (C:ai) (A:CA) (bZ bP aW ck bF:Sp):TS :=
 bB (dB (Mm (rM K) (ak 0) (kZ (tC (.int 1))) (kZ (tC (.int 41)))) (bf 7))
 (bB (EK K C A bZ bP aW ck bF)
 (cC (cb ck [] E0 (ao (ak 3) (ao (ak 5) (ao (ak 2) (ao (ak 1) (ao (tC (.int 3)) aR))))))))
abbrev XS (K:aa) (C:ai) (A:CA) (bZ bP aW ck bF:Sp):TS :=
 bB (dB (tZ A.Keeper aW [] E0 (ao (ak 2) aR)) (bf 5))
 (bB (dB (tZ A.Keeper aW [] E0 (ao (tC (.int 3)) aR)) (bf 6))
 (XR K C A bZ bP aW ck bF))
abbrev XT (K:aa) (C:ai) (A:CA) (bZ bP aW ck bF:Sp):TS :=
  bB (eO (tOr (cu (bU (yf K) (cJ A.jb "say" bF [] E0 (ak 3) (ao (tC (.str "side 0")) aR)) (tC (.str "0")))) (tOr (cu (bU (yf K) (cJ A.jb "say" bF [] E0 (ak 3) (ao (tC (.str "ties")) aR)) (tC (.str "none")))) (cu (bU (yf K) (cJ A.jb "say" bF [] E0 (ak 3) (ao (tC (.str "account")) aR)) (tC (.str "0 0 0 0 0"))))))
   (cC (tC (.bl false)))
   cM)
  (bB (eO (tOr (cu (bU (yf K) (cJ A.jb "say" bF [] E0 (ak 3) (ao (bU dG (tC (.str "new ")) (jQ jR (ao (ak 2) aR))) aR)) (tC (.str "ok")))) (cu (bU (yf K) (cJ A.jb "say" bF [] E0 (ak 4) (ao (tC (.str "new 3")) aR)) (tC (.str "ok")))))
   (cC (tC (.bl false)))
   cM)
  (XS K C A bZ bP aW ck bF))
abbrev XU (K:aa) (C:ai) (A:CA) (bZ bP aW ck bF:Sp):TS :=
 bB (dB (tZ A.jb bP [] E0 aR) (bf 3))
 (bB (dB (tZ A.jb bP [] E0 aR) (bf 4))
 (XT K C A bZ bP aW ck bF))
def QH (K:aa) (C:ai) (A:CA) (bZ bP aW ck bF:Sp):TS :=
 bB (dB (cb bZ [] E0 (ao (ak 0) (ao (tC (.int 0)) aR))) (bf 1))
 (bB (dB (bU jk (tC (.int 1)) (bU (rI (λ_ j=>0<j) λi j=>.int (i%j)) (bU (rI Ce λi j=>.int (i/j)) (ak 1) (tC (.int 3))) (tC (.int 20)))) (bf 2))
 (XU K C A bZ bP aW ck bF))
def mS (K:aa) (C:ai):TS :=
 bB (tH K (ak 0) (ak 1) "n")
 (tH K (ak 0) (jB 1 [] (Mz (ao (ak 1) aR)) (bf 0) rN (MC (ao (ak 0) aR))) "rows")
def uv (K:aa) (C:ai):TS :=
 Dw (mO K (ak 1)) (bf 2)
 (dB (ak 1) (Po (df K (ak 0) "rows") (ak 2) DM))
def yJ (K:aa) (C:ai):TS :=
 uv K C
def yK (K:aa) (C:ai) (aV cE gn pq:Sp):TS :=
 bB (iK (cb aV [] E0 (ao (df K (ak 0) "n") (ao (ak 1) (ao (ak 2) aR)))))
 (bB (eO (mH K (cJ C "joined" cE [] E0 (ak 0) (ao (ak 1) (ao (ak 2) aR))))
 fV
 cM)
 (iK (cJ C "keep" gn [] E0 (ak 0) (ao (cb pq [] E0 (ao (bU (c5 K) (df K (ak 0) "rows") (ak 1)) (ao (bU (c5 K) (df K (ak 0) "rows") (ak 2)) (ao (ak 1) (ao (ak 2) aR))))) aR))))
def wu (K:aa) (C:ai) (aV mT dA gn:Sp):TS :=
 Dw (mO K (cb mT [] E0 (ao (bU (c5 K) (df K (ak 0) "rows") (ak 1)) (ao (ak 1) (ao (ak 2) aR))))) (bf 3)
 (iK (cJ C "keep" gn [] E0 (ak 0) (ao (ak 3) aR)))
def BB (K:aa) (C:ai) (aV mT dA gn:Sp):TS :=
 bB (iK (cb aV [] E0 (ao (df K (ak 0) "n") (ao (ak 1) (ao (ak 2) aR)))))
 (bB (eO (cu (bU (GC K true) (qx (ao (ak 1) (ao (ak 2) aR))) (cb dA [] E0 (ao (bU (c5 K) (df K (ak 0) "rows") (ak 1)) aR))))
 fV
 cM)
 (wu K C aV mT dA gn))
def uw (K:aa) (C:ai) (dQ:Sp):TS :=
 bB (iK (cb dQ [] E0 (ao (df K (ak 0) "n") (ao (ak 1) (ao (ak 2) aR)))))
 (cC (bU (gY K) (bU (c5 K) (bU (c5 K) (df K (ak 0) "rows") (ak 1)) (tC (.int 0))) (bU (c5 K) (bU (c5 K) (df K (ak 0) "rows") (ak 2)) (tC (.int 0)))))
def wx (K:aa) (C:ai) (cA:Sp):TS :=
 bB (iK (cb cA [] E0 (ao (df K (ak 0) "n") (ao (ak 1) aR))))
 (cC (DY K (ao (bU (c5 K) (df K (ak 0) "rows") (ak 1)) aR)))
def yL (K:aa) (C:ai) (cA:Sp):TS :=
 bB (iK (cb cA [] E0 (ao (df K (ak 0) "n") (ao (ak 1) aR))))
 (cC (bU (rI Ce λi j=>.int (i/j)) (bU jk (jQ (nX K) (ao (bU (c5 K) (df K (ak 0) "rows") (ak 1)) aR)) (tC (.int 1))) (tC (.int 2))))
def BC (K:aa) (C:ai) (cE rg:Sp):TS :=
 cC (Pn (mH K (cJ C "joined" cE [] E0 (ak 0) (ao (ak 1) (ao (ak 2) aR)))) (cb rg [] E0 (ao (bU (c5 K) (df K (ak 0) "rows") (ak 1)) (ao (ak 1) (ao (ak 2) aR)))) (tC .non))
abbrev ux (K:aa) (C:ai) (A:CA) (dP lz:Sp):TS :=
 bB (tH K (ak 0) DK "weight_of")
 (tH K (ak 0) (jB 1 [1] (Mz (ao (bU jk (cb lz [] E0 (ao (ak 1) aR)) (tC (.int 1))) aR)) (bf 0) rN (tZ C dP [] E0 (ao (ak 1) aR))) "woods")
def lA (K:aa) (C:ai) (A:CA) (dP lz:Sp):TS :=
 bB (tH K (ak 0) DK "level_of")
 (bB (tH K (ak 0) DK "wooden")
 (ux K C A dP lz))
abbrev Co (K:aa) (C:ai) (A:CA) (cE b0:Sp):TS :=
  bB (dB (ak 2) (Po (df K (ak 0) "weight_of") (ak 1) DM))
  (bB (eO (Jq (mH K (cJ C "joined" cE [] E0 (bU (c5 K) (df K (ak 0) "woods") (tC (.int 0))) (ao (bU (c5 K) (ak 1) (tC (.int 0))) (ao (bU (c5 K) (ak 1) (tC (.int 1))) aR)))))
   (iK (cJ A.bo "adopt" b0 [] E0 (ak 0) (ao (ak 1) aR)))
   cM)
  (cC (bU (c5 K) (df K (ak 0) "wooden") (ak 1))))
def wz (K:aa) (C:ai) (A:CA) (cE b0:Sp):TS :=
 bB (dB (tC (.int 0)) (Po (df K (ak 0) "level_of") (ak 1) DM))
 (bB (dB (tC (.bl false)) (Po (df K (ak 0) "wooden") (ak 1) DM))
 (Co K C A cE b0))
def lZ (K:aa) (C:ai) (A:CA) (d8:Sp):TS :=
 Dw (mO K (Mm (rM K) (df K (ak 0) "woods") jv (kZ (bU jk (bU (c5 K) (df K (ak 0) "level_of") (ak 1)) (tC (.int 1)))))) (bf 2)
 (iK (cJ C "link" d8 [] E0 (ak 2) (ao (bU (c5 K) (ak 1) (tC (.int 0))) (ao (bU (c5 K) (ak 1) (tC (.int 1))) aR))))
def sV (K:aa) (C:ai) (A:CA) (d8:Sp):TS :=
 bB (dB (tC (.bl true)) (Po (df K (ak 0) "wooden") (ak 1) DM))
 (lZ K C A d8)
def pA (K:aa) (C:ai) (A:CA) (d8:Sp):TS :=
 bB (abg (df K (ak 0) "level_of") (ak 1) (tC (.int 1)) T9)
 (eO (mH K (bU (c5 K) (df K (ak 0) "wooden") (ak 1)))
 (iK (cJ C "link" d8 [] E0 (bU (c5 K) (df K (ak 0) "woods") (bU (c5 K) (df K (ak 0) "level_of") (ak 1))) (ao (bU (c5 K) (ak 1) (tC (.int 0))) (ao (bU (c5 K) (ak 1) (tC (.int 1))) aR))))
 cM)
def rh (K:aa) (C:ai) (A:CA) (ia:Sp):TS :=
 Dw (mO K (Mm (rM K) (df K (ak 0) "woods") jv (kZ (bU jk (ak 2) (tC (.int 1)))))) (bf 3)
 (iK (cJ C "cut" ia [] E0 (ak 3) (ao (bU (c5 K) (ak 1) (tC (.int 0))) (ao (bU (c5 K) (ak 1) (tC (.int 1))) aR))))
def pB (K:aa) (C:ai) (A:CA) (ia:Sp):TS :=
 bB (iK (GB K "dict" Sy (df K (ak 0) "weight_of") (ao (ak 1) aR)))
 (bB (dB (GB K "dict" Sy (df K (ak 0) "level_of") (ao (ak 1) aR)) (bf 2))
 (eO (mH K (GB K "dict" Sy (df K (ak 0) "wooden") (ao (ak 1) aR)))
 (rh K C A ia)
 cM))
def lB (K:aa) (C:ai) (A:CA) (jo:Sp):TS :=
 bB (dB (jB 1 [1,0] (iDT (df K (ak 0) "level_of")) (bf 0) (cu (bU (gY K) (bU (c5 K) (df K (ak 2) "level_of") (ak 0)) (ak 1))) (ak 0)) (bf 3))
 (cC (cb jo [] E0 (ao (jB 1 [2,0] (mO K (ak 3)) (bf 0) (cu (bU (gY K) (bU (c5 K) (df K (ak 2) "wooden") (ak 0)) (ak 1))) (ak 0)) (ao (df K (ak 0) "weight_of") aR))))
def uz (K:aa) (C:ai) (A:CA):TS :=
 cC (qx (ao (bU (c5 K) (ak 1) (tC (.int 0))) (ao (bU (c5 K) (ak 1) (tC (.int 1))) (ao (bU (c5 K) (df K (ak 0) "level_of") (ak 1)) (ao (bU (c5 K) (df K (ak 0) "wooden") (ak 1)) aR)))))
def jT (K:aa) (C:ai) (A:CA) (eT gZ:Sp):TS :=
 bB (dB (bU (c5 K) (df K (ak 0) "woods") (ak 1)) (bf 3))
 (cC (cJ C "group" eT [] E0 (ak 3) (ao (Pn (cu (bU (tG λi j=>.bl (decide (i<=j))) (cJ C "size" gZ [] E0 (ak 3) (ao (bU (c5 K) (ak 2) (tC (.int 0))) aR)) (cJ C "size" gZ [] E0 (ak 3) (ao (bU (c5 K) (ak 2) (tC (.int 1))) aR)))) (bU (c5 K) (ak 2) (tC (.int 0))) (bU (c5 K) (ak 2) (tC (.int 1)))) aR)))
def rj (K:aa) (C:ai) (A:CA) (bR b9 cQ cR b0:Sp):TS :=
 Dw (mO K (ak 4)) (bf 5)
 (iK (cJ A.bo "lift" cQ [] E0 (ak 0) (ao (ak 5) aR)))
def rk (K:aa) (C:ai) (A:CA) (bR b9 cQ cR b0:Sp):TS :=
 Dw (mO K (cJ A.bo "at_level" b9 [] E0 (ak 0) (ao (ak 1) (ao (tC (.bl false)) aR)))) (bf 5)
 (bB (dB (cb cR [] E0 (ao (ak 5) (ao (ak 3) aR))) (bf 6))
 (bB (eO (cu (bU (gY K) (ak 6) (tC (.int 1))))
 (bB (iK (cJ A.bo "adopt" b0 [] E0 (ak 0) (ao (ak 5) aR)))
 (cC (qx (ao (ak 1) (ao (ak 3) (ao (jQ (uc K) (ao (ak 4) aR)) (ao (ak 5) aR)))))))
 cM)
 (eO (cu (bU (gY K) (ak 6) (tC (.int 2))))
 (bB (iK (cJ A.bo "lift" cQ [] E0 (ak 0) (ao (ak 5) aR)))
 (iK (GB K "list" vg (ak 4) (ao (ak 5) aR))))
 cM)))
abbrev Aq (K:aa) (C:ai) (A:CA) (bR b9 cQ cR b0:Sp):TS :=
 bB (rj K C A bR b9 cQ cR b0)
 (bB (rk K C A bR b9 cQ cR b0)
 (cC (qx (ao (ak 1) (ao (ak 3) (ao (jQ (uc K) (ao (ak 4) aR)) (ao (tC .non) aR)))))))
def pC (K:aa) (C:ai) (A:CA) (bR b9 cQ cR b0:Sp):TS :=
 bB (dB (cJ A.bo "lesser_side" bR [] E0 (ak 0) (ao (ak 1) (ao (ak 2) aR))) (bf 3))
 (bB (dB (jB 1 [3] (mO K (cJ A.bo "at_level" b9 [] E0 (ak 0) (ao (ak 1) (ao (tC (.bl true)) aR)))) (bf 0) (cu (bU (gY K) (cb cR [] E0 (ao (ak 0) (ao (ak 1) aR))) (tC (.int 2)))) (ak 0)) (bf 4))
 (Aq K C A bR b9 cQ cR b0))
def rm (K:aa) (C:ai) (A:CA) (cY cZ:Sp):TS :=
 Jt (Gw (mH K (ak 3)) (cu (bU (tG λi j=>.bl (decide (j<=i))) (ak 2) (tC (.int 0)))))
 (bB (iK (GB K "list" vg (ak 4) (ao (cJ A.bo "look" cZ [] E0 (ak 0) (ao (ak 2) (ao (ak 1) aR))) aR)))
 (bB (dB (My (bU (c5 K) (bU (c5 K) (ak 4) (tUn (rU λi=>.int (-i)) (tC (.int 1)))) (tC (.int 3)))) (bf 3))
 (VX 2 (tC (.int 1)) (tG λi j=>.int (i-j)))))
abbrev Ar (K:aa) (C:ai) (A:CA) (cY cZ:Sp):TS :=
 bB (rm K C A cY cZ)
 (cC (ak 4))
abbrev Au (K:aa) (C:ai) (A:CA) (cY cZ:Sp):TS :=
 bB (iK (cJ A.bo "drop" cY [] E0 (ak 0) (ao (ak 1) aR)))
 (bB (dB (MC aR) (bf 4))
 (Ar K C A cY cZ))
def pD (K:aa) (C:ai) (A:CA) (cY cZ:Sp):TS :=
 bB (dB (bU (c5 K) (df K (ak 0) "level_of") (ak 1)) (bf 2))
 (bB (dB (bU (c5 K) (df K (ak 0) "wooden") (ak 1)) (bf 3))
 (Au K C A cY cZ))
abbrev xq (K:aa) (C:ai) (A:CA) (cc eJ:Sp):TS :=
 bB (tH K (ak 0) (tC (.int 0)) "risen")
 (tH K (ak 0) (tC (.int 0)) "lost")
abbrev xr (K:aa) (C:ai) (A:CA) (cc eJ:Sp):TS :=
 bB (tH K (ak 0) (tC (.int 0)) "came")
 (bB (tH K (ak 0) (tC (.int 0)) "looked")
 (xq K C A cc eJ))
abbrev xt (K:aa) (C:ai) (A:CA) (cc eJ:Sp):TS :=
 bB (tH K (ak 0) (tZ A.bo cc [] E0 (ao (ak 1) aR)) "levels")
 (bB (tH K (ak 0) (bU (c5 K) (df K (df K (ak 0) "levels") "woods") (tC (.int 0))) "wood")
 (xr K C A cc eJ))
def mU (K:aa) (C:ai) (A:CA) (cc eJ:Sp):TS :=
 bB (eO (Jq (mH K (cb eJ [] E0 (ao (ak 1) aR))))
 fV
 cM)
 (bB (tH K (ak 0) (ak 1) "n")
 (xt K C A cc eJ))
def sW (K:aa) (C:ai) (A:CA) (k8:Sp):TS :=
 bB (vd K (ak 0) (tC (.int 1)) T9 "came")
 (cC (cJ A.bo "add" k8 [] E0 (df K (ak 0) "levels") (ao (ak 1) (ao (ak 2) aR))))
abbrev GM (K:aa) (C:ai) (A:CA) (dv gh dJ jD fH cm:Sp):TS :=
 bB (vd K (ak 0) (cb fH [] E0 (ao (ak 4) aR)) T9 "risen")
 (cC (ak 4))
abbrev GN (K:aa) (C:ai) (A:CA) (dv gh dJ jD fH cm:Sp):TS :=
 bB (dB (cJ A.bo "take" dJ [] E0 (df K (ak 0) "levels") (ao (ak 3) aR)) (bf 4))
 (bB (vd K (ak 0) (cb jD [] E0 (ao (ak 4) aR)) T9 "looked")
 (GM K C A dv gh dJ jD fH cm))
def uA (K:aa) (C:ai) (A:CA) (dv gh dJ jD fH cm:Sp):TS :=
 bB (dB (cb dv [] E0 (ao (df K (ak 0) "n") (ao (df K (df K (ak 0) "levels") "level_of") (ao (ak 1) (ao (ak 2) aR))))) (bf 3))
 (bB (vd K (ak 0) (cb gh [] E0 (ao (df K (ak 0) "n") (ao (MC (ao (cJ A.bo "told" cm [] E0 (df K (ak 0) "levels") (ao (ak 3) aR)) aR)) aR))) T9 "lost")
 (GN K C A dv gh dJ jD fH cm))
def uB (K:aa) (C:ai) (A:CA) (cE:Sp):TS :=
 cC (cJ C "joined" cE [] E0 (df K (ak 0) "wood") (ao (ak 1) (ao (ak 2) aR)))
def BD (K:aa) (C:ai) (A:CA) (nM:Sp):TS :=
 cC (cJ C "way" nM [] E0 (df K (ak 0) "wood") (ao (ak 1) (ao (ak 2) aR)))
def yM (K:aa) (C:ai) (A:CA) (eT:Sp):TS :=
 cC (cJ C "group" eT [] E0 (df K (ak 0) "wood") (ao (ak 1) aR))
def se (K:aa) (C:ai) (A:CA) (cm:Sp):TS :=
 cC (jQ (uc K) (ao (jB 1 [0] (iDT (df K (df K (ak 0) "levels") "level_of")) (bf 0) rN (cJ A.bo "told" cm [] E0 (df K (ak 1) "levels") (ao (ak 0) aR))) aR))
def sX (K:aa) (C:ai) (A:CA) (gh cw:Sp):TS :=
 cC (qx (ao (df K (ak 0) "came") (ao (df K (ak 0) "looked") (ao (df K (ak 0) "risen") (ao (df K (ak 0) "lost") (ao (cb gh [] E0 (ao (df K (ak 0) "n") (ao (cJ A.Keeper "ties" cw [] E0 (ak 0) aR) aR))) aR))))))
def wA (K:aa) (C:ai) (A:CA) (dM pE:Sp):TS :=
 cC (cJ A.Keeper "receive" dM [] E0 (ak 0) (ao (cb pE [] E0 (ao (df K (ak 0) "n") (ao (df K (df K (ak 0) "levels") "level_of") (ao (ak 1) (ao (ak 2) aR))))) (ao (tC (.int 0)) aR)))
def mV (K:aa) (C:ai) (A:CA) (aW:Sp):TS :=
 tH K (ak 0) (tZ A.Keeper aW [] E0 (ao (tC (.int 1)) aR)) "kept"
def BE (K:aa) (C:ai) (A:CA) (gH dj:Sp):TS :=
 bB (dB (GB K "str" Qg (ak 1) (ao (tC (.str " ")) aR)) (bf 2))
 (bB (eO (Gw (cu (bU (gY K) (bU (c5 K) (ak 2) (tC (.int 0))) (tC (.str "weigh")))) (cu (bU (tG λi j=>.bl (decide (j<i))) (jQ (nX K) (ao (ak 2) aR)) (tC (.int 1)))))
 fV
 cM)
 (bB (eO (cu (bU (yf K) (SJ UM (ao (bU (c5 K) (ak 2) (tC (.int 0))) aR)) (bU (tG λi j=>.int (i-j)) (jQ (nX K) (ao (ak 2) aR)) (tC (.int 1)))))
 fV
 cM)
 (cC (cJ A.jb "answer" gH [] E0 (ak 0) (ao (bU (c5 K) (ak 2) (tC (.int 0))) (ao (jB 1 [] (mO K (Mm (rM K) (ak 2) (kZ (tC (.int 1))) jv)) (bf 0) rN (cb dj [] E0 (ao (ak 0) aR))) aR))))))
def wB (K:aa) (C:ai) (A:CA):TS :=
 bB (tH K (ak 0) (ak 1) "kept")
 (cC (tC (.str "ok")))
def l5 (K:aa) (C:ai) (A:CA) (du ib jq ic jr iP cN aW iQ cX eI dS cw:Sp):TS :=
 bB (eO (cu (bU (gY K) (ak 1) (tC (.str "new"))))
 (cC (cJ A.jb "begin" ib [] E0 (ak 0) (ao (tZ A.Keeper aW [] E0 (ao (bU (c5 K) (ak 2) (tC (.int 0))) aR)) aR)))
 cM)
 (bB (eO (cu (bU (gY K) (ak 1) (tC (.str "put"))))
 (cC (cJ A.jb "put" jq [] E0 (ak 0) (ao (bU (c5 K) (ak 2) (tC (.int 0))) (ao (bU (c5 K) (ak 2) (tC (.int 1))) aR))))
 cM)
 (bB (eO (cu (bU (gY K) (ak 1) (tC (.str "out"))))
 (cC (cb ic [] E0 (ao (cJ A.Keeper "out" iQ [] E0 (df K (ak 0) "kept") (ao (bU (c5 K) (ak 2) (tC (.int 0))) (ao (bU (c5 K) (ak 2) (tC (.int 1))) aR))) aR)))
 cM)
 (bB (eO (cu (bU (gY K) (ak 1) (tC (.str "joined"))))
 (cC (Pn (mH K (cJ A.Keeper "joined" cX [] E0 (df K (ak 0) "kept") (ao (bU (c5 K) (ak 2) (tC (.int 0))) (ao (bU (c5 K) (ak 2) (tC (.int 1))) aR)))) (tC (.str "yes")) (tC (.str "no"))))
 cM)
 (bB (eO (cu (bU (gY K) (ak 1) (tC (.str "way"))))
 (cC (cb jr [] E0 (ao (cJ A.Keeper "way" eI [] E0 (df K (ak 0) "kept") (ao (bU (c5 K) (ak 2) (tC (.int 0))) (ao (bU (c5 K) (ak 2) (tC (.int 1))) aR))) aR)))
 cM)
 (bB (eO (cu (bU (gY K) (ak 1) (tC (.str "side"))))
 (cC (cb du [] E0 (ao (cJ A.Keeper "side" dS [] E0 (df K (ak 0) "kept") (ao (bU (c5 K) (ak 2) (tC (.int 0))) aR)) aR)))
 cM)
 (bB (eO (cu (bU (gY K) (ak 1) (tC (.str "ties"))))
 (cC (cb iP [] E0 (ao (cJ A.Keeper "ties" cw [] E0 (df K (ak 0) "kept") aR) aR)))
 cM)
 (bB (eO (cu (bU (gY K) (ak 1) (tC (.str "weight"))))
 fV
 cM)
 (cC (cb du [] E0 (ao (cJ A.Keeper "account" cN [] E0 (df K (ak 0) "kept") aR) aR))))))))))
def uC (K:aa) (C:ai) (A:CA) (gp:Sp):TS :=
 bB (eO (mH K (jQ (SM K) (ao (df K (ak 0) "kept") (ao (tC (.ref A.rC)) aR))))
 fV
 cM)
 (cC (Pn (mH K (cJ A.Keeper "put" gp [] E0 (df K (ak 0) "kept") (ao (ak 1) (ao (ak 2) aR)))) (tC (.str "wood")) (tC (.str "beside"))))
def oz (K:aa) (C:ai) (X:EC) (E:XK) (aV dH:Sp):TS :=
 bB (iK (cb aV [] E0 (ao (ak 0) (ao (ak 2) (ao (ak 3) aR)))))
 (bB (dB (cb dH [] E0 (ao (ak 2) (ao (ak 3) aR))) (bf 4))
 (bB (eO (cu (bU (GC K false) (ak 4) (ak 1)))
 (JU (.ref X.vO) E)
 cM)
 (cC (ak 4))))
def jY (K:aa) (C:ai) (X:EC) (E:XK) (aV dH:Sp):TS :=
 bB (iK (cb aV [] E0 (ao (ak 0) (ao (ak 2) (ao (ak 3) aR)))))
 (bB (dB (cb dH [] E0 (ao (ak 2) (ao (ak 3) aR))) (bf 4))
 (bB (eO (cu (bU (GC K true) (ak 4) (ak 1)))
 (JU (.ref X.pP) E)
 cM)
 (cC (ak 4))))
def ll (K:aa) (C:ai) (A:CA) (E:XK) (dM iR:Sp):TS :=
 cC (cJ A.Keeper "receive" dM [] E0 (ak 0) (ao (cb iR [] E (ao (df K (ak 0) "n") (ao (df K (df K (ak 0) "levels") "level_of") (ao (ak 1) (ao (ak 2) aR))))) (ao (tC (.int 0)) aR)))
def m9 (K:aa) (C:ai) (A:CA) (E:XK) (eK:Sp):TS :=
 bB (dB (cb eK [] E (ao (df K (ak 0) "n") (ao (df K (df K (ak 0) "levels") "level_of") (ao (ak 1) (ao (ak 2) aR))))) (bf 3))
 (bB fV
 (bB fV
 (bB fV
 (bB fV
 fV))))
def nc (K:aa) (C:ai) (A:CA) (X:EC) (E:XK) (eX:Sp):TS :=
 bB (eO (mH K (jQ (SM K) (ao (df K (ak 0) "kept") (ao (tC (.ref A.rC)) aR))))
 fV
 cM)
 (cC (Pn (mH K (cJ A.Keeper "put" eX [] E (df K (ak 0) "kept") (ao (ak 1) (ao (ak 2) aR)))) (tC (.str "wood")) (tC (.str "beside"))))
def kD (K:aa) (C:ai) (A:CA) (E:XK) (ie gv:Sp):TS :=
 bB (eO (cu (bU (gY K) (ak 1) (tC (.str "new"))))
 fV
 cM)
 (bB (eO (cu (bU (gY K) (ak 1) (tC (.str "put"))))
 (cC (cJ A.jb "put" ie [] E (ak 0) (ao (bU (c5 K) (ak 2) (tC (.int 0))) (ao (bU (c5 K) (ak 2) (tC (.int 1))) aR))))
 cM)
 (bB (eO (cu (bU (gY K) (ak 1) (tC (.str "out"))))
 (cC (tNo (ao (cJ A.Keeper "out" gv [] E (df K (ak 0) "kept") (ao (bU (c5 K) (ak 2) (tC (.int 0))) (ao (bU (c5 K) (ak 2) (tC (.int 1))) aR))) aR)))
 cM)
 (bB (eO (cu (bU (gY K) (ak 1) (tC (.str "joined"))))
 fV
 cM)
 (bB (eO (cu (bU (gY K) (ak 1) (tC (.str "way"))))
 fV
 cM)
 (bB (eO (cu (bU (gY K) (ak 1) (tC (.str "side"))))
 fV
 cM)
 (bB (eO (cu (bU (gY K) (ak 1) (tC (.str "ties"))))
 fV
 cM)
 (bB (eO (cu (bU (gY K) (ak 1) (tC (.str "weight"))))
 fV
 cM)
 fV)))))))
def iZ (K:aa) (C:ai) (A:CA) (X:EC) (E:XK) (ff dj:Sp):TS :=
 bB (dB (GB K "str" Qg (ak 1) (ao (tC (.str " ")) aR)) (bf 2))
 (bB (eO (Gw (cu (bU (gY K) (bU (c5 K) (ak 2) (tC (.int 0))) (tC (.str "weigh")))) (cu (bU (tG λi j=>.bl (decide (j<i))) (jQ (nX K) (ao (ak 2) aR)) (tC (.int 1)))))
 fV
 cM)
 (bB (eO (cu (bU (yf K) (SJ UM (ao (bU (c5 K) (ak 2) (tC (.int 0))) aR)) (bU (tG λi j=>.int (i-j)) (jQ (nX K) (ao (ak 2) aR)) (tC (.int 1)))))
 fV
 cM)
 (cC (cJ A.jb "answer" ff [] E (ak 0) (ao (bU (c5 K) (ak 2) (tC (.int 0))) (ao (jB 1 [] (mO K (Mm (rM K) (ak 2) (kZ (tC (.int 1))) jv)) (bf 0) rN (cb dj [] E0 (ao (ak 0) aR))) aR))))))
end K71
section
open PySem PySem.Spec PyProof.Rows L2
local macro_rules | `(tactic| walk_at "c")=>`(tactic| first|(show (0:Int)<_;lia)|exact ⟨by lia,by lia⟩|exact Or.inl ⟨by lia,by lia⟩|exact Or.inr ⟨by lia,by lia⟩|exact ⟨by lia,by lia,by lia⟩)
local macro_rules | `(tactic| k_ne)=>`(tactic| first|(with_reducible first|refine Bg ?_|refine yg ?_|refine vi ?_|refine acE ?_)|((with_reducible refine' ft ?hv ?_);(case hv=>exact rfl))|(with_reducible first|refine Iw ?_|refine vJ ?_|refine lT ?_|refine acF ?_|refine z7 ?_|refine yh ?_|refine Wm ?_|refine wY ?_|refine x_tB ?_|refine aey ?_|refine acN ?_|refine Wn ?_|refine x_or ?_|refine Wo ?_|refine acG ?_|refine aes ?_|refine acH ?_|refine ub ?_|refine abi ?_|refine nH ?_|refine gF ?_|refine aet ?_|refine aeu ?_|refine JG ?_|refine PQ ?_|refine x_bm ?_|refine x_sl ?_|refine Wp ?_|refine acI ?_|refine Sq ?_)|((with_reducible refine x_rI ?hc ?_);(case hc=>walk_at "c"))|(with_reducible first|refine acJ ?_|refine x_addHI ?_|refine aev ?_|refine abj ?_|refine acO ?_|refine aez ?_|refine acP ?_|refine acM ?_|refine aeC ?_|refine aeD ?_|refine x_un ?_|refine x_rU ?_|refine ZU ?_|refine aex ?_|refine x_rev ?_|refine x_dnew ?_|refine ZV ?_|refine acQ ?_)|((with_reducible refine' aeA ?hv ?_);(case hv=>exact rfl))|with_reducible refine ⟨_,rfl,?_⟩)
local macro_rules | `(tactic| lk)=>`(tactic| (k_ne;repeat k_ne))
namespace K71
variable {K:aa}{C:ai}{A:CA}{Pt p dx l:ai}{H H':Hp}{n T:Nat}{ts:List Rm.Ti}{Q:VK}{R:Nat->Nat->List Int}{as:Nat->List ai}{us:List (Rm.Ti×ai)}{zs:List Zt}
open Rm
variable {X:EC}
def Pe (t:Int×Int):PyData:=.tuple [.int t.1,.int t.2]
theorem I0:∀ {zs:List Zt},(∀ z∈zs,lu H z)->fN K H ((zs.map zP).map Pe) (zs.map qy)
 | [],_=>.nil
 | z::zs,h=>.cons (.tup (.of (h z ah)) (.cons (.int _) (.cons (.int _) .nil))) (I0 λy hy=>h y (ae _ hy))
theorem XX (hl:H l=some (.lst (zs.map qy))) (h:∀ z∈zs,lu H z):Rep K H (.list ((zs.map zP).map Pe)) (.ref l):=.lst (cW.of hl) (I0 h)
theorem EL:∀ L:List (Int×Int),kb (L.map Pe)=true
 | []=>rfl
 | t::ts=>by simp only [bu,kb,fB];exact ⟨by simp [Pe,oU,kb],EL ts⟩
theorem EM (h:∀ z∈zs,lu H z) (S:bY H H'):∀ z∈zs,lu H' z:=λz hz=>S _ _ (h z hz)
theorem QI (t u:Int×Int):fU (Pe t) (Pe u)=decide (t=u):=by
 obtain ⟨a,b⟩:=t;obtain ⟨c,d⟩:=u;rw [j8];simp [Pe,fU,PyData.eqvAll,Mh]
theorem Tc (t:Int×Int):PP (Pe t):=⟨Iz _ (by simp [Pe,oU,kb]),by simp [Pe,PyData.depth,Gs]⟩
theorem XY {a b:Int}(h:H p=some (.tup [.int a,.int b])):Rep K H (Pe (a,b)) (.ref p):=.tup (.of h) (.cons (.int _) (.cons (.int _) .nil))
theorem adg {L:List (Int×Int)}{t u:Int×Int}:∀ {m:Nat},m<L.idxOf t->L[m]?=some u->u≠t:=by
 induction L with
 | nil=>intro m h e;simp at e
 | cons v L ih =>
  intro m h e
  by_cases q:v=t
  .subst q;simp at h
  .have hv:(v == t)=false:=by simpa using q
   rw [List.idxOf_cons,hv] at h
   cases m with
   | zero=>simp at e;subst e;exact q
   | succ m=>exact ih (m:=m) (by simpa using h) (by simpa using e)
theorem NK {a b:Int}(hl:H l=some (.lst (zs.map qy))) (hz:∀ z∈zs,lu H z) (hlen:zs.length<=100000) (hp:H p=some (.tup [.int a,.int b])) (hm:(a,b)∈zs.map zP)
  (k:Q (.int ((zs.map zP).idxOf (a,b):Nat)) H):qd K (.ref l) [.ref p] H Q:=by
 have hi:(zs.map zP).idxOf (a,b)<(zs.map zP).length:=fe.mpr hm;refine .inr ⟨l,.ref p,(zs.map zP).map Pe,Pe (a,b),(zs.map zP).idxOf (a,b),Pe (a,b),rfl,rfl,XX hl hz,XY hp,Tc _,kC _ (EL _),by rw [ag,ag];exact eS hlen,?_,by rw [QI];simp,λm e hm' em=>?_,k⟩
 .rw [aG,ay hi,Ca];rfl
 .obtain ⟨u,e1,e2⟩:=gm em;subst e2;rw [QI,decide_eq_false (adg hm' e1)]
inductive dA (K:aa) (C:ai) (vs:List V) (H:Hp) (Q:VK) (E:XK):Prop
 | mk (p:_) (r:List Int):vs=[.ref p]->cW K H p (r.map V.int)->r.length<=1000->(∀ l H' (zs:List Zt),bY H H'->H l=none->H' l=some (.lst (zs.map qy))->(∀ z∈zs,lu H' z)->zs.map zP=al r->Q (.ref l) H')->dA K C vs H Q E
theorem Cp:Rn (dA K C) (uk K C) ["row"]:=by
 rintro vs H Q E ⟨p,r,rfl,hp,hl,k⟩;unfold uk;lk;refine acZ ?_;lk;refine yi (j:=1) hp rfl λq hq=>?_;generalize eu_:upd _ q _=H1;obtain ⟨S1,g1⟩:=news eu_ hq;lk;exact ⟨p,q,r,r.drop 1,rfl,S1.seq hp,cW.of g1,by lia,λl zs H2 S2 hl2 gl hz e=>k l H2 zs (S1.trans S2) (S1.free hl2) gl hz (by rw [e,Qi])⟩
inductive mT (K:aa) (C:ai) (vs:List V) (H:Hp) (Q:VK) (E:XK):Prop
 | mk (p:_) (r:List Int) (a b:Int):vs=[.ref p,.int a,.int b]->cW K H p (r.map V.int)->r.length<=1000->(a,b)∈al r->(b,a)∈al r->(∀ (t x y:ai) (H':Hp),bY H H'->H t=none->H x=none->H y=none->x≠y->H' t=some (.tup [.ref x,.ref y])->H' x=some (.lst ((zO r a b).1.map V.int))->H' y=some (.lst ((zO r a b).2.map V.int))->Q (.ref t) H')->mT K C vs H Q E
theorem QJ:Rn (mT K C) (Am K C (dA K C)) Xs:=by
 rintro vs H Q E ⟨p,r,a,b,rfl,hp,hl,hab,hba,k⟩;have hi:(al r).idxOf (a,b)<(al r).length:=fe.mpr hab;have hj:(al r).idxOf (b,a)<(al r).length:=fe.mpr hba;rw [Qj] at hi hj;unfold Am;lk;refine ⟨p,r,rfl,hp,hl,λw H1 zs S1 hw gw hz ez=>?_⟩
 have hzl:zs.length<=1000:=by
  have:=congrArg fA ez;rw [ag,Qj] at this;lia
 lk;refine ⟨.inl ⟨rfl,_,cW.of gw⟩,?_⟩;lk;refine ⟨Bl,λt1 ht1=>?_⟩;generalize eu_:upd _ t1 _=H2;obtain ⟨S2,g2⟩:=news eu_ ht1;lk;refine NK (S2 _ _ gw) (EM hz S2) (by lia) g2 (by rw [ez];exact hab) ?_;rw [ez];lk;refine ⟨.inl ⟨rfl,_,cW.of (S2 _ _ gw)⟩,?_⟩;lk;refine ⟨Bl,λt2 ht2=>?_⟩;generalize eu_:upd _ t2 _=H3;obtain ⟨S3,g3⟩:=news eu_ ht2;have S13:=S2.trans S3;lk;refine NK (S13 _ _ gw) (EM hz S13) (by lia) g3 (by rw [ez];exact hba) ?_;rw [ez]
 have hpr:zO r a b=if (al r).idxOf (a,b)<(al r).idxOf (b,a) then (Aa r ((al r).idxOf (a,b)) ((al r).idxOf (b,a)),vK r ((al r).idxOf (a,b)) ((al r).idxOf (b,a))) else (vK r ((al r).idxOf (b,a)) ((al r).idxOf (a,b)),Aa r ((al r).idxOf (b,a)) ((al r).idxOf (a,b))):=rfl
 generalize (al r).idxOf (a,b)=i at hi hpr;generalize (al r).idxOf (b,a)=j at hj hpr;lk
 obtain ⟨u,v,eu,ev,huv⟩:∃ u v:Nat,(if (j:Int)<(i:Int) then (j:Int) else (i:Int))=(u:Int)/\(if (j:Int)>(i:Int) then (j:Int) else (i:Int))=(v:Int)/\((i<j/\u=i/\v=j)\/(¬ i<j/\u=j/\v=i)):=by
  by_cases c:i<j
  .exact ⟨i,j,by rw [if_neg (by lia)],by rw [if_pos (by lia)],.inl ⟨c,rfl,rfl⟩⟩
  .by_cases c2:j<i
   .exact ⟨j,i,by rw [if_pos (by lia)],by rw [if_neg (by lia)],.inr ⟨c,rfl,rfl⟩⟩
   .have:i=j:=by lia
    subst this;exact ⟨i,i,by rw [if_neg (by lia)],by rw [if_neg (by lia)],.inr ⟨c,rfl,rfl⟩⟩
 rw [eu,ev];have hS:=S1.trans S13;refine JK (j:=u+1) (j':=v+1) (hS.seq hp) (by lia) (by lia) λy hy=>?_
 have hin:(r.drop (u+1)).take (v+1-(u+1))=vK r u v:=by unfold vK;rw [show v+1-(u+1)=v-u by lia]
 rw [hin];generalize eu_:upd _ y _=H4;obtain ⟨S4,g4⟩:=news eu_ hy;lk;refine PU (j:=u+1) ((hS.trans S4).seq hp) (by lia) λq1 hq1=>?_;generalize eu_:upd _ q1 _=H5;obtain ⟨S5,g5⟩:=news eu_ hq1;lk;refine yi (j:=v+2) ((hS.trans (S4.trans S5)).seq hp) (by lia) λq2 hq2=>?_;generalize eu_:upd _ q2 _=H6;obtain ⟨S6,g6⟩:=news eu_ hq2;refine JL (S6 _ _ g5) g6 (by rw [bK,cD];lia) λx hx=>?_;have S7:=bY.dm (o:=.lst ((Aa r u v).map V.int)) hx;have g7:(upd H6 x (.lst ((Aa r u v).map V.int))) x=some (.lst ((Aa r u v).map V.int)):=aK
 show bf 9 (.ref x) _ (upd H6 x (.lst ((Aa r u v).map V.int))) _
 generalize upd H6 x (.lst ((Aa r u v).map V.int))=H7 at S7 g7;have S37:=S4.trans (S5.trans (S6.trans S7));have S47:=S5.trans (S6.trans S7);have nxy:x≠y:=Ne.symm (aJ (S6 _ _ (S5 _ _ g4)) hx);have hHx:H x=none:=(hS.trans (S4.trans (S5.trans S6))).free hx;have hHy:H y=none:=hS.free hy;lk
 rcases huv with ⟨c,rfl,rfl⟩|⟨c,rfl,rfl⟩
 .rw [if_pos c] at hpr;refine nY (λ_=>?_) λz=>absurd (by lia) z;lk;refine ⟨Bl,λt ht=>?_⟩;have S8:=bY.dm (o:=.tup [.ref x,.ref y]) ht;exact k t x y _ ((hS.trans S37).trans S8) ((hS.trans S37).free ht) hHx hHy nxy aK (by rw [hpr];exact S8 _ _ g7) (by rw [hpr];exact S8 _ _ (S47 _ _ g4))
 .rw [if_neg c] at hpr;refine nY (λz=>absurd (by lia) c) λ_=>?_;lk;refine ⟨Bl,λt ht=>?_⟩;have S8:=bY.dm (o:=.tup [.ref y,.ref x]) ht;exact k t y x _ ((hS.trans S37).trans S8) ((hS.trans S37).free ht) hHy hHx (Ne.symm nxy) aK (by rw [hpr];exact S8 _ _ (S47 _ _ g4)) (by rw [hpr];exact S8 _ _ g7)
inductive fO (K:aa) (C:ai) (vs:List V) (H:Hp) (Q:VK) (E:XK):Prop
 | mk (p:_) (r:List Int) (a:Int):vs=[.ref p,.int a]->cW K H p (r.map V.int)->a∈r->r.length<=1000->(∀ l H',bY H H'->H l=none->H' l=some (.lst ((tn r (r.idxOf a)).map V.int))->Q (.ref l) H')->fO K C vs H Q E
theorem QK:Rn (fO K C) (Al K C) ["row","a","k"]:=by
 rintro vs H Q E ⟨p,r,a,rfl,hp,ha,hl,q⟩;unfold Al;lk;refine ⟨.inl ⟨rfl,_,hp⟩,?_⟩;lk;refine JI hp ha ?_;lk;refine yi hp rfl λp1 h1=>?_;have S1:=bY.dm (o:=.lst ((r.drop (r.idxOf a)).map V.int)) h1;lk;refine JK (j:=1) (j':=r.idxOf a+1) (S1.seq hp) rfl (by lia) λp2 h2=>?_;have S2:=bY.dm (o:=.lst (((r.drop 1).take (r.idxOf a+1-1)).map V.int)) h2;refine JL (S2 _ _ aK) aK ?_ λp3 h3=>?_
 .rw [cD,bK,cD];lia
 .have S3:=bY.dm (o:=.lst (((r.drop (r.idxOf a))++((r.drop 1).take (r.idxOf a+1-1))).map V.int)) h3;have S:=(S1.trans S2).trans S3;exact q p3 _ S ((S1.trans S2).free h3) aK
inductive pq (K:aa) (C:ai) (vs:List V) (H:Hp) (Q:VK) (E:XK):Prop
 | mk (p q:_) (r1 r2:List Int) (a b:Int):vs=[.ref p,.ref q,.int a,.int b]->cW K H p (r1.map V.int)->cW K H q (r2.map V.int)->a∈r1->b∈r2->r1.length<=1000->r2.length<=1000->(∀ l H',bY H H'->H l=none->H' l=some (.lst ((Ea r1 r2 a b).map V.int))->Q (.ref l) H')->pq K C vs H Q E
theorem NL:Rn (pq K C) (xp K C (fO K C)) XE:=by
 rintro vs H Q E ⟨p,q,r1,r2,a,b,rfl,hp,hq,ha,hb,hl1,hl2,k⟩;unfold xp;lk;refine ⟨.inl ⟨rfl,_,hp⟩,?_⟩;lk;refine JI hp ha ?_;lk;refine PU (j:=r1.idxOf a+1) hp (by lia) λp1 h1=>?_;generalize eu_:upd _ p1 _=H1;obtain ⟨S1,g1⟩:=news eu_ h1;lk;refine ⟨q,r2,b,rfl,S1.seq hq,hb,hl2,λt H2 S2 ht gt=>?_⟩;have hlt:(tn r2 (r2.idxOf b)).length=r2.length:=Qh (JW hb);refine JL (S2 _ _ g1) gt (by rw [bK];lia) λp3 h3=>?_;generalize eu_:upd _ p3 _=H3;obtain ⟨S3,g3⟩:=news eu_ h3;lk;have S13:=S1.trans (S2.trans S3);refine yi (j:=r1.idxOf a) (S13.seq hp) rfl λp4 h4=>?_;generalize eu_:upd _ p4 _=H4;obtain ⟨S4,g4⟩:=news eu_ h4;refine JL (S4 _ _ g3) g4 (by rw [bD,bK,cD];lia) λp5 h5=>?_;have S5:=bY.dm (o:=.lst ((r1.take (r1.idxOf a+1)++tn r2 (r2.idxOf b)++r1.drop (r1.idxOf a)).map V.int)) h5;refine k p5 _ ((S13.trans S4).trans S5) ((S13.trans S4).free h5) ?_;unfold Ea;rw [← de];exact aK
inductive rg (K:aa) (C:ai) (vs:List V) (H:Hp) (Q:VK) (E:XK):Prop
 | mk (p:_) (r:List Int) (a b:Int):vs=[.ref p,.int a,.int b]->H p=some (.lst (r.map V.int))->mL r->r.length<=127->a∈r->b∈r->(∀ l H',bY H H'->H' l=some (.lst ((VD r a b).map V.int))->(VD r a b).length<=127->Q (.ref l) H')->rg K C vs H Q E
theorem QL:Rn (rg K C) (An K C (fO K C)) Xz:=by
 rintro vs H Q E ⟨p,r,a,b,rfl,hp,hR,hrl,ha,hb,q⟩;have hbt:=((hR.turn ha).2.2.2.1 b).mpr hb;have hlr:(tn r (r.idxOf a)).length=r.length:=Qh (JW ha);unfold An;lk;refine ⟨p,_,a,rfl,cW.of hp,ha,by lia,λt H1 S1 ht gt=>?_⟩;unfold VD at q;generalize tn r (r.idxOf a)=w at gt hbt hlr q;lk;refine ⟨Bl,λl hl=>?_⟩;generalize eu_:upd _ l _=H2;obtain ⟨S2,gl⟩:=news eu_ hl;have gt2:=S2 _ _ gt;lk;unfold By;lk;refine ⟨.inl ⟨rfl,_,cW.of gt2⟩,?_⟩;lk;refine JI (cW.of gt2) hbt ?_;lk;refine PU (j:=w.idxOf b+1) (cW.of gt2) (by lia) λs hs=>?_;generalize eu_:upd _ s _=H3;obtain ⟨S3,gs⟩:=news eu_ hs
 have hwl:(w.take (w.idxOf b+1)).length<=127:=by rw [bK];lia
 generalize w.take (w.idxOf b+1)=vs at gs hwl q;refine ⟨s,rfl,?_⟩
 refine .inl ⟨⟨_,cW.of gs⟩,oR (K:=K) (a:=s) (xs:=vs.map V.int)
  (λi Z H4=>bJ l H3 H4/\∃ (wn:List Int) (o5:Option V),Z=[some (.ref p),some (.int a),some (.int b),some (.ref t),some (.ref l),o5]/\H4 l=some (.lst (wn.map V.int))/\wn.length<=i/\wn=(vs.take i).foldl Ab [])
  ⟨bJ.refl _ _,[],_,rfl,S3 _ _ gl,aB _,rfl⟩ ?_ ?_ ?_⟩
 .rintro i Z H4 _ ⟨B,_⟩;exact cW.of (B _ _ gs (Ne.symm (aJ gl hs)))
 .rintro i z Z H4 hi ⟨B,wn,o5,rfl,gw,hwn,ew⟩;obtain ⟨pn,hpn,rfl⟩:=gm hi;have hiv:=(aE.mp hpn).1
  have et:(vs.take (i+1)).foldl Ab []=Ab wn pn:=by rw [f9,hpn,ew,List.foldl_append];rfl
  have push:Ab wn pn=wn++[pn]->vg (V.ref l) [V.int pn] H4 λ_ H1=>bJ l H3 H1/\∃ (wn:List Int) (o5':Option V),[some (V.ref p),some (V.int a),some (V.int b),some (V.ref t),some (V.ref l),some (V.int pn)]=[some (V.ref p),some (V.int a),some (V.int b),some (V.ref t),some (V.ref l),o5']/\H1 l=some (.lst (wn.map V.int))/\wn.length<=i+1/\wn=(vs.take (i+1)).foldl Ab []:=λep =>
   DO gw (gG (m:=1000) (by rw [ag];lia)) ⟨B.trans bJ.upd,wn++[pn],_,rfl,by rw [bx];exact aK,by rw [bD];exact jM hwn,by rw [et,ep]⟩
  lk;refine lq (cW.of gw) ?_;rw [ag];lk;refine nY (λh1=>?_) λh1=>?_
  .have h1:1<wn.length:=by lia
   lk;refine gL (cW.of gw) (ZX (j:=1) (v:=.int wn[wn.length-2]) (by rw [ag];exact h1) (Ss (by rw [ag];exact ay (by lia)))) ?_;lk;refine nY (λe=>?_) λe=>?_
   .lk;refine aeG ?_;lk;refine ⟨.inl ⟨rfl,_,cW.of gw⟩,?_⟩
    rcases fc wn with z|⟨us,u,z⟩
    .subst z;cases h1
    .have ep:=Xg (p:=pn) h1 (by rw [ay (by lia)];exact congrArg some (e9.mp e));rw [z,dY] at gw hwn ep;rw [List.dropLast_concat] at ep;rw [bx] at gw;rw [bD] at hwn;refine aeH gw ⟨B.trans bJ.upd,us,_,rfl,aK,by lia,?_⟩;rw [et,z,dY,ep]
   .lk;refine ⟨.inl ⟨rfl,_,cW.of gw⟩,?_⟩;lk;refine push (Nd λ_ z=>e ?_);rw [ay (by lia)] at z;rw [aL z]
  .refine je ?_;lk;refine ⟨.inl ⟨rfl,_,cW.of gw⟩,?_⟩;lk;exact push (Nd λz=>absurd z (by lia))
 .rintro Z H4 ⟨B,wn,o5,rfl,gw,hwn,ew⟩;rw [ag] at hwn ew;rw [bV (aB _)] at ew;lk;refine q l H4 (S1.trans λb o e=>B _ _ (S3 _ _ (S2 _ _ e)) (aJ e hl)) (by rw [← ew];exact gw) ?_;rw [← ew];lia
def hW (K:aa) (C:ai):Sp:=λvs H Q _=>∃ i:Int,vs=[.int i]/\Q (.bl true) H
theorem Kj:Rn (hW K C) (ui K C) qe:=by
 rintro vs H Q E ⟨i,rfl,k⟩;unfold ui;lk;refine abn (.int i) acR ?_;lk;refine kB ?_;lk;refine abn (.int i) acS ?_;lk;exact k
inductive nJ (K:aa) (C:ai) (vs:List V) (H:Hp) (Q:VK) (E:XK):Prop
 | mk (n i:Nat):vs=[.int n,.int i]->i<n->Q (.bl true) H->nJ K C vs H Q E
theorem Kk:Rn (nJ K C) (Bx K C (hW K C)) Bq:=by
 rintro vs H Q E ⟨n,i,rfl,hi,k⟩;unfold Bx;lk;refine ⟨i,rfl,?_⟩;refine ⟨true,rfl,?_⟩;refine kB ?_;lk;refine nY (λ_=>?_) λz=>absurd (show (0:Int)<=i by lia) z;lk;rw [decide_eq_true (show (i:Int)<n by lia)];exact k
inductive cA (K:aa) (C:ai) (vs:List V) (H:Hp) (Q:VK) (E:XK):Prop
 | mk (n i:Nat):vs=[.int n,.int i]->i<n->Q .non H->cA K C vs H Q E
theorem vL:Rn (cA K C) (pf K C (nJ K C)) Bq:=by
 rintro vs H Q E ⟨n,i,rfl,hi,k⟩;unfold pf;lk;refine ⟨n,i,rfl,hi,?_⟩;refine ⟨true,rfl,?_⟩;refine je ?_;lk;exact k
inductive dQ (K:aa) (C:ai) (vs:List V) (H:Hp) (Q:VK) (E:XK):Prop
 | mk (n i j:Nat):vs=[.int n,.int i,.int j]->i<n->j<n->Q .non H->dQ K C vs H Q E
theorem uD:Rn (dQ K C) (oi K C (cA K C)) v8:=by
 rintro vs H Q E ⟨n,i,j,rfl,hi,hj,k⟩;unfold oi;lk;refine ⟨n,i,rfl,hi,?_⟩;lk;refine ⟨n,j,rfl,hj,?_⟩;exact k
inductive aV (K:aa) (C:ai) (vs:List V) (H:Hp) (Q:VK) (E:XK):Prop
 | mk (n i j:Nat):vs=[.int n,.int i,.int j]->i<n->j<n->i≠j->Q .non H->aV K C vs H Q E
theorem xu:Rn (aV K C) (qi K C (dQ K C)) v8:=by
 rintro vs H Q E ⟨n,i,j,rfl,hi,hj,hij,k⟩;unfold qi;lk;refine ⟨n,i,j,rfl,hi,hj,?_⟩;lk;refine nY (λz=>absurd (e9.mp z) (by lia)) λ_=>?_;lk;exact k
theorem lC {ta tv:TE}{f:aY}{D:vH}{Z:L2.St}(h:tv Z H λy H1=>ta Z H1 λx H2=>∃ a C dx fs,x=.ref a/\H2 a=some (.ins C dx fs)/\Dj K C/\dN K C f/\fs.length<1000/\D.nx Z (upd H2 a (.ins C dx (d0 f y fs)))):tH K ta tv f D Z H:=h
theorem kn:¬ (("n":aY)="rows"):=by decide +kernel
def Kl (n:Nat) (l:ai):List (aY×V):=d0 "rows" (.ref l) (d0 "n" (.int n) [])
theorem iI (n:Nat) (l:ai):(Kl n l).lookup ("rows":aY)=some (.ref l):=by unfold Kl;rw [fR,if_pos rfl]
theorem Av (n:Nat) (l:ai):(Kl n l).lookup ("n":aY)=some (.int n):=by unfold Kl;rw [fR,if_neg kn,fR,if_pos rfl]
theorem jZ (n:Nat) (l:ai) {m:aY}(h1:¬ m="rows":=by decide +kernel) (h2:¬ m="n":=by decide +kernel):(Kl n l).lookup m=none:=by
 unfold Kl;rw [fR,if_neg h1,fR,if_neg h2];rfl
structure CT (K:aa) (C:ai):Prop where
 cl:Dj K C
 n:dN K C "n"
 rows:dN K C "rows"
structure WA (C:ai) (H:Hp) (p dx l:ai) (n:Nat) (as:List ai) (R:Nat->List Int):Prop where
 ob:H p=some (.ins C dx (Kl n l))
 rl:H l=some (.lst (as.map V.ref))
 len:as.length=n
 at_:∀ i a,as[i]?=some a->H a=some (.lst ((R i).map V.int))
 ne:∀ a∈as,a≠l
theorem WA.get {as:List ai}{R:Nat->List Int}(W:WA C H p dx l n as R) {i:Nat}(hi:i<n):∃ a,as[i]?=some a/\H a=some (.lst ((R i).map V.int))/\a≠l:=by
 have h:i<as.length:=by rw [W.len];exact hi
 exact ⟨as[i],ay h,W.at_ i _ (ay h),W.ne _ (eN h)⟩
theorem WA.same {as:List ai}{R:Nat->List Int}(W:WA C H p dx l n as R) (S:bY H H'):WA C H' p dx l n as R :=
 ⟨S _ _ W.ob,S _ _ W.rl,W.len,λi a h=>S _ _ (W.at_ i a h),W.ne⟩
inductive dP (K:aa) (C:ai) (vs:List V) (H:Hp) (Q:VK) (E:XK):Prop
 | mk (p dx:_) (n:Nat):vs=[.ref p,.int n]->H p=some (.ins C dx [])->CT K C->n<=1000->(∀ (l:ai) (as:List ai) (H':Hp),WA C H' p dx l n as (λi=>[(i:Int)])->H l=none->bJ p H H'->Q .non H')->dP K C vs H Q E
theorem yN:Rn (dP K C) (mS K C) oY:=by
 rintro vs H Q E ⟨p,dx,n,rfl,hp,ct,hn,k⟩;unfold mS;k_ne;refine lC ?_;lk;refine ⟨p,C,dx,[],rfl,hp,ct.cl,ct.n,by decide,?_⟩;dsimp only;refine lC ?_;lk;refine ⟨by lia,by lia,λacc hacc=>?_⟩
 have e0:((n:Int)).toNat=n:=by lia
 rw [e0]
 have hap:acc≠p:=λe=>by rw [e,aK] at hacc;cases hacc
 have hacc0:H acc=none:=by rw [aI hap] at hacc;exact hacc
 have g0:(upd H p (.ins C dx (d0 "n" (.int n) []))) p=some (.ins C dx (d0 "n" (.int n) [])):=aK;have B0:bJ p H (upd H p (.ins C dx (d0 "n" (.int n) []))):=bJ.upd;generalize upd H p (.ins C dx (d0 "n" (.int n) []))=H0 at hacc g0 B0;refine m7 (n:=n) (λt ys H1=>∃ as:List ai,ys=as.map V.ref/\as.length=t/\H1 acc=some (.lst ys)/\bY H0 H1/\∀ (i:Nat) a,as[i]?=some a->a≠acc/\H1 a=some (.lst ([(i:Int)].map V.int))) (λZ=>∃ o,Z=[o]) ⟨[],rfl,rfl,aK,bY.dm hacc,λi a h=>by simp at h⟩ ⟨_,rfl⟩ ?_ ?_ ?_ ?_
 .rintro t ys H1 ⟨_,_,_,h,_⟩;exact h
 .rintro ys H1 ⟨as,rfl,hl,g1,S1,hA⟩;refine ⟨aB n,?_⟩;lk;refine ⟨p,C,dx,_,rfl,S1 _ _ g0,ct.cl,ct.rows,by show 1<1000;decide,?_⟩;have hb:bJ p H1 (upd H1 p (.ins C dx (Kl n acc))):=bJ.upd
  have nl:∀ {b:ai}{xs:List V},H1 b=some (.lst xs)->b≠p:=λe z=>by rw [z,S1 _ _ g0] at e;cases e
  refine k acc as _ ⟨aK,hb _ _ g1 hap,hl,λi a ha=>hb _ _ (hA i a ha).2 (nl (hA i a ha).2),λa ha=>?_⟩ hacc0 λb o e hne=>hb _ _ (S1 _ _ (B0 _ _ e hne)) hne;obtain ⟨i,hi⟩:=bM.mp ha;exact (hA i a hi).1
 .rintro t ys H1 ht _;exact ht
 .rintro t ys σ' H1 x H2 ht ⟨as,rfl,hl,g1,S1,hA⟩ ⟨o,rfl⟩ ⟨eH,ex⟩;subst eH ex;lk;refine kB ?_;lk;refine ⟨Bl,λq hq=>?_⟩;have T:=bY.dm (o:=.lst [.int (0+(t:Int))]) hq
  have u:(upd H2 q (.lst [.int (0+(t:Int))])) q=some (.lst ([(t:Int)].map V.int)):=by rw [aK];simp
  generalize upd H2 q (.lst [.int (0+(t:Int))])=H3 at T u;have hqa:q≠acc:=Ne.symm (aJ g1 hq);refine ⟨T _ _ g1,gG (m:=10000) (by rw [ag];lia),lL.mk' ht ⟨_,rfl⟩ ⟨as++[q],by simp,by simp [hl],aK,λb o e=>by rw [aI (aJ e hacc)];exact T _ _ (S1 _ _ e),λi a ha=>?_⟩⟩
  by_cases hi:i<as.length
  .rw [gB hi] at ha;obtain ⟨h1,h2⟩:=hA i a ha;exact ⟨h1,by rw [aI h1];exact T _ _ h2⟩
  .rw [eC (by lia)] at ha
   have:i=as.length:=by
    have:=(aE.mp ha).1;simp at this;lia
   subst this;simp at ha;subst ha;rw [hl];exact ⟨hqa,by rw [aI hqa];exact u⟩
inductive gn (K:aa) (C:ai) (vs:List V) (H:Hp) (Q:VK) (E:XK):Prop
 | mk (p dx l q:_) (n:Nat) (as:List ai) (s:List Int):vs=[.ref p,.ref q]->CT K C->H p=some (.ins C dx (Kl n l))->H l=some (.lst (as.map V.ref))->as.length=n->H q=some (.lst (s.map V.int))->q≠l->(∀ x∈s,∃ j:Nat,j<n/\x=(j:Int))->(∀ (as':List ai) H',as'.length=n->(∀ (i:Nat) (a:ai),as[i]?=some a->as'[i]?=some (if (i:Int)∈s then q else a))->H' l=some (.lst (as'.map V.ref))->bJ l H H'->Q .non H')->gn K C vs H Q E
theorem GO:Rn (gn K C) (yJ K C) ["self","row","place"]:=by
 rintro vs H Q E ⟨p,dx,l,q,n,as,s,rfl,ct,hp,hl,hn,hq,hql,hs,k⟩;have hpl:p≠l:=jW hp hl;unfold yJ uv;lk
 refine .inl ⟨⟨_,cW.of hq⟩,oR (K:=K) (a:=q) (xs:=s.map V.int) (λi Z H1=>∃ (as':List ai) (o:Option V),Z=[some (.ref p),some (.ref q),o]/\as'.length=n/\(∀ (j:Nat) (a:ai),as[j]?=some a->as'[j]?=some (if (j:Int)∈s.take i then q else a))/\H1 l=some (.lst (as'.map V.ref))/\bJ l H H1)
  ⟨as,_,rfl,hn,λj a h=>by simpa using h,hl,bJ.refl _ _⟩ ?_ ?_ ?_⟩
 .rintro i Z H1 _ ⟨as',o,_,_,_,_,B⟩;exact cW.of (B _ _ hq hql)
 .rintro i x Z H1 hi ⟨as',o,rfl,hn',hA,g1,B⟩;obtain ⟨c,hc,ex⟩:=gm hi;have ex:x=V.int c:=ex.symm;subst ex;obtain ⟨j,hj,rfl⟩:=hs c (aS hc);k_go;refine ⟨p,C,dx,_,_,rfl,B _ _ hp hpl,ct.cl,ct.rows,iI _ _,?_⟩;lk;refine acK g1 (acT (j:=j) rfl (by rw [ag];lia)) ?_;refine ⟨as'.set j q,_,rfl,by simpa using hn',λk' a ha=>?_,?_,λb o' e hb=>by rw [aI hb];exact B _ _ e hb⟩
  .have e1:s.take (i+1)=s.take i++[(j:Int)]:=by rw [List.take_succ,hc];rfl
   rw [e1]
   by_cases hk:k'=j
   .subst hk;rw [fZ (by rw [hn',← hn];exact (aE.mp ha).1),if_pos (by simp)]
   .rw [xV (Ne.symm hk),hA k' a ha]
    have:((k':Int)∈s.take i++[(j:Int)])↔(k':Int)∈s.take i:=by
     simp only [aT,aA];exact ⟨λh=>h.elim id λe=>absurd (by lia) hk,.inl⟩
    by_cases c1:(k':Int)∈s.take i
    .rw [if_pos c1,if_pos (this.mpr c1)]
    .rw [if_neg c1,if_neg (λh=>c1 (this.mp h))]
  .rw [aK,List.map_set]
 .rintro Z H1 ⟨as',o,rfl,hn',hA,g1,B⟩;rw [ag,Gu] at hA;exact k as' H1 hn' hA g1 B
inductive cE (K:aa) (C:ai) (vs:List V) (H:Hp) (Q:VK) (E:XK):Prop
 | mk (p dx l:_) (n a b:Nat) (as R:_):vs=[.ref p,.int a,.int b]->CT K C->WA C H p dx l n as R->Wd n R->a<n->b<n->Q (.bl (decide ((b:Int)∈R a))) H->cE K C vs H Q E
theorem Cq:Rn (cE K C) (uw K C (dQ K C)) gg:=by
 rintro vs H Q E ⟨p,dx,l,n,a,b,as,R,rfl,ct,W,D,ha,hb,k⟩;obtain ⟨ra,e1,e2,_⟩:=W.get ha;obtain ⟨rb,f1,f2,_⟩:=W.get hb
 have hd:∀ i,i<n->∃ x,(R i)[0]?=some x/\(R i).head?=some x:=λi hi=>by
  cases h:R i with
  | nil=>exact absurd h (D.r i hi).ne
  | cons x t=>exact ⟨x,rfl,rfl⟩
 obtain ⟨x,hx,hx'⟩:=hd a ha;obtain ⟨y,hy,hy'⟩:=hd b hb;have hj:=D.head ha hb;rw [hx',hy'] at hj;unfold uw;k_go;refine ⟨p,C,dx,_,_,rfl,W.ob,ct.cl,ct.n,Av _ _,?_⟩;lk;refine ⟨n,a,b,rfl,ha,hb,?_⟩;k_go;refine ⟨p,C,dx,_,_,rfl,W.ob,ct.cl,ct.rows,iI _ _,?_⟩;lk;refine gL (cW.of W.rl) (b8 (j:=a) rfl (by rw [aG,e1];rfl)) ?_;lk;refine MR (cW.of e2) (j:=0) rfl hx ?_;k_go;refine ⟨p,C,dx,_,_,rfl,W.ob,ct.cl,ct.rows,iI _ _,?_⟩;lk;refine gL (cW.of W.rl) (b8 (j:=b) rfl (by rw [aG,f1];rfl)) ?_;lk;refine MR (cW.of f2) (j:=0) rfl hy ?_;lk
 have e:decide (V.int x=V.int y)=decide ((b:Int)∈R a):=by
  rw [j8,decide_eq_true_iff,decide_eq_true_iff,e9,← hj];exact ⟨λh=>by rw [h],λh=>aL h⟩
 rw [e];exact k
inductive nM (K:aa) (C:ai) (vs:List V) (H:Hp) (Q:VK) (E:XK):Prop
 | mk (p dx l:_) (n a b:Nat) (as R:_):vs=[.ref p,.int a,.int b]->CT K C->WA C H p dx l n as R->Wd n R->n<=60->a<n->b<n->((b:Int)∉R a->Q .non H)->((b:Int)∈R a->∀ q H',bY H H'->H' q=some (.lst ((VD (R a) a b).map V.int))->(VD (R a) a b).length<=127->Q (.ref q) H')->nM K C vs H Q E
theorem Km:Rn (nM K C) (BC K C (cE K C) (rg K C)) gg:=by
 rintro vs H Q E ⟨p,dx,l,n,a,b,as,R,rfl,ct,W,D,hn,ha,hb,k1,k2⟩;obtain ⟨ra,e1,e2,_⟩:=W.get ha;have hlen:=D.len ha;unfold BC;k_in;refine ⟨p,dx,_,rfl,W.ob,jZ _ _,?_⟩;lk;refine ⟨p,dx,l,n,a,b,as,R,rfl,ct,W,D,ha,hb,?_⟩;refine ⟨_,rfl,?_⟩;refine nY (λhm=>?_) λhm=>?_
 .k_go;refine ⟨p,C,dx,_,_,rfl,W.ob,ct.cl,ct.rows,iI _ _,?_⟩;lk;refine gL (cW.of W.rl) (b8 (j:=a) rfl (by rw [aG,e1];rfl)) ?_;lk;exact ⟨ra,R a,a,b,rfl,e2,D.r a ha,by lia,D.me a ha,hm,k2 hm⟩
 .lk;exact k1 hm
inductive d8 (K:aa) (C:ai) (vs:List V) (H:Hp) (Q:VK) (E:XK):Prop
 | mk (p dx l:_) (n a b:Nat) (as R:_):vs=[.ref p,.int a,.int b]->CT K C->WA C H p dx l n as R->Wd n R->n<=200->a<n->b<n->(b:Int)∉R a->(∀ (as':List ai) H',WA C H' p dx l n as' (lk R a b)->bJ l H H'->Q .non H')->d8 K C vs H Q E
theorem GP:Rn (d8 K C) (yK K C (aV K C) (cE K C) (gn K C) (pq K C)) gg:=by
 rintro vs H Q E ⟨p,dx,l,n,a,b,as,R,rfl,ct,W,D,hn,ha,hb,hm,k⟩;obtain ⟨ra,e1,e2,_⟩:=W.get ha;obtain ⟨rb,f1,f2,_⟩:=W.get hb;have hla:=D.len ha;have hlb:=D.len hb;have hab:a≠b:=λe=>hm (e▸D.me a ha);obtain ⟨T2,D2,E2⟩:=D.link ha hb hm;unfold yK;k_go;refine ⟨p,C,dx,_,_,rfl,W.ob,ct.cl,ct.n,Av _ _,?_⟩;lk;refine ⟨n,a,b,rfl,ha,hb,hab,?_⟩;k_in;refine ⟨p,dx,_,rfl,W.ob,jZ _ _,?_⟩;lk;refine ⟨p,dx,l,n,a,b,as,R,rfl,ct,W,D,ha,hb,?_⟩;refine ⟨_,rfl,?_⟩;refine nY (λz=>absurd z hm) λ_=>?_;k_in;refine ⟨p,dx,_,rfl,W.ob,jZ _ _,?_⟩;k_go;refine ⟨p,C,dx,_,_,rfl,W.ob,ct.cl,ct.rows,iI _ _,?_⟩;lk;refine gL (cW.of W.rl) (b8 (j:=a) rfl (by rw [aG,e1];rfl)) ?_;k_go;refine ⟨p,C,dx,_,_,rfl,W.ob,ct.cl,ct.rows,iI _ _,?_⟩;lk;refine gL (cW.of W.rl) (b8 (j:=b) rfl (by rw [aG,f1];rfl)) ?_;lk;refine ⟨ra,rb,R a,R b,a,b,rfl,cW.of e2,cW.of f2,D.me a ha,D.me b hb,by lia,by lia,λq H1 S1 hq gq=>?_⟩;lk;have W1:=W.same S1;have hql:q≠l:=Ne.symm (aJ W.rl hq);refine ⟨p,dx,l,q,n,as,_,rfl,ct,W1.ob,W1.rl,W.len,gq,hql,λx hx=>?_,λas' H2 hl2 hA g2 B2=>?_⟩
 .rcases (T2.mem x).mp hx with h|h
  .obtain ⟨j,hj,e,_⟩:=D.Mo a ha x h;exact ⟨j,hj,e⟩
  .obtain ⟨j,hj,e,_⟩:=D.Mo b hb x h;exact ⟨j,hj,e⟩
 .have hpl:p≠l:=jW W.ob W.rl
  have hAt:∀ (i:Nat) (c:ai),as'[i]?=some c->∃ c0,as[i]?=some c0/\c=if (i:Int)∈Ea (R a) (R b) a b then q else c0:=λi c hc=>by
   have hi:i<as.length:=by rw [W.len,← hl2];exact (aE.mp hc).1
   have:=hA i _ (ay hi);rw [hc] at this;exact ⟨_,ay hi,aL this⟩
  refine k as' H2 ⟨B2 _ _ W1.ob hpl,g2,hl2,λi c hc=>?_,λc hc=>?_⟩ (λb' o e hne=>B2 _ _ (S1 _ _ e) hne)
  .obtain ⟨c0,h0,ec⟩:=hAt i c hc
   show H2 c=some (.lst ((if (i:Int)∈Ea (R a) (R b) a b then Ea (R a) (R b) a b else R i).map V.int))
   by_cases ci:(i:Int)∈Ea (R a) (R b) a b
   .rw [if_pos ci] at ec ⊢;rw [ec];exact B2 _ _ gq hql
   .rw [if_neg ci] at ec ⊢;rw [ec];exact B2 _ _ (W1.at_ i c0 h0) (W.ne _ (aS h0))
  .obtain ⟨i,hi⟩:=bM.mp hc;obtain ⟨c0,h0,ec⟩:=hAt i c hi
   by_cases ci:(i:Int)∈Ea (R a) (R b) a b
   .rw [if_pos ci] at ec;rw [ec];exact hql
   .rw [if_neg ci] at ec;rw [ec];exact W.ne _ (aS h0)
inductive ia (K:aa) (C:ai) (vs:List V) (H:Hp) (Q:VK) (E:XK):Prop
 | mk (p dx l:_) (n a b:Nat) (as R:_):vs=[.ref p,.int a,.int b]->CT K C->WA C H p dx l n as R->Wd n R->n<=200->a<n->b<n->a≠b->Ed n R a b->(∀ (as':List ai) H',WA C H' p dx l n as' (Rm.ct R a b)->bJ l H H'->Q .non H')->ia K C vs H Q E
theorem Kn:Rn (ia K C) (BB K C (aV K C) (mT K C) (dA K C) (gn K C)) ["self","a","b","row"]:=by
 rintro vs H Q E ⟨p,dx,l,n,a,b,as,R,rfl,ct,W,D,hn,ha,hb,hab,hE,k⟩;obtain ⟨ra,e1,e2,_⟩:=W.get ha;have hla:=D.len ha;have hm:=Ed.at D hE ha (D.me a ha);have hm':=(D.r a ha).sym _ _ hm;have P:=(D.r a ha).parted hm (by lia:(a:Int)≠b);have PM:=P.mem (D.r a ha);have hpl:p≠l:=jW W.ob W.rl;unfold BB;k_go;refine ⟨p,C,dx,_,_,rfl,W.ob,ct.cl,ct.n,Av _ _,?_⟩;lk;refine ⟨n,a,b,rfl,ha,hb,hab,?_⟩;lk;refine ⟨Bl,λt ht=>?_⟩;generalize eu_:upd _ t _=H1;obtain ⟨S1,g1⟩:=news eu_ ht;have W1:=W.same S1;k_go;refine ⟨p,C,dx,_,_,rfl,W1.ob,ct.cl,ct.rows,iI _ _,?_⟩;lk;refine gL (cW.of W1.rl) (b8 (j:=a) rfl (by rw [aG,e1];rfl)) ?_;lk;refine ⟨ra,R a,rfl,cW.of (S1 _ _ e2),by lia,λz H2 zs S2 hz gz pz ez=>?_⟩;refine Wr (XY (S2 _ _ g1)) (XX gz pz) (Tc _) (kC _ (EL _)) ?_
 have hin:(((zs.map zP).map Pe).any λe=>fU e (Pe ((a:Int),(b:Int))))=true:=by
  rw [ez,List.any_map,ab4];exact ⟨_,hm,by simp [QI]⟩
 rw [hin];lk;refine je ?_;have S12:=S1.trans S2;have W2:=W.same S12;lk;unfold wu;k_go;refine ⟨p,C,dx,_,_,rfl,W2.ob,ct.cl,ct.rows,iI _ _,?_⟩;lk;refine gL (cW.of W2.rl) (b8 (j:=a) rfl (by rw [aG,e1];rfl)) ?_;lk;refine ⟨ra,R a,a,b,rfl,cW.of (S12 _ _ e2),by lia,hm,hm',λu x y H3 S3 hu hx hy hxy gu gx gy=>?_⟩;have S13:=S12.trans S3;have W3:=W.same S13;have hxl:x≠l:=Ne.symm (aJ W2.rl hx);have hyl:y≠l:=Ne.symm (aJ W2.rl hy);have hul:u≠l:=Ne.symm (aJ W2.rl hu)
 have jin:∀ z,z∈R a->∃ j:Nat,j<n/\z=(j:Int):=λz hz=>let ⟨j,hj,e,_⟩:=D.Mo a ha z hz;⟨j,hj,e⟩
 have ectR:∀ i:Nat,Rm.ct R a b i=if (i:Int)∈(zO (R a) a b).2 then (zO (R a) a b).2 else if (i:Int)∈(zO (R a) a b).1 then (zO (R a) a b).1 else R i:=λ_=>rfl
 generalize (zO (R a) a b).1=X at P PM gx ectR;generalize (zO (R a) a b).2=Y at P PM gy ectR;lk
 refine .inr (.inl ⟨⟨_,kU.of gu⟩,Zs (K:=K) (a:=u) (xs:=[.ref x,.ref y]) (λi Z H4=>∃ (as1:List ai) (o:Option V),Z=[some (.ref p),some (.int (a:Int)),some (.int (b:Int)),o]/\as1.length=n/\H4 l=some (.lst (as1.map V.ref))/\bJ l H3 H4 /\
  ∀ (j:Nat) (c:ai),as[j]?=some c->as1[j]?=some (if 2<=i/\(j:Int)∈Y then y else if 1<=i/\(j:Int)∈X then x else c)) ⟨as,_,rfl,W.len,W3.rl,bJ.refl _ _,λj c h=>by rw [if_neg (λz=>by lia),if_neg (λz=>by lia)];exact h⟩ ?_ ?_ ?_⟩)
 .rintro i Z H4 _ ⟨_,_,_,_,_,B,_⟩;exact kU.of (B _ _ gu hul)
 .rintro i v Z H4 hi ⟨as1,o,rfl,hl1,g4,B,hA⟩
  obtain ⟨q,s,hql,gq,hs,ev,hif⟩:∃ (q:ai) (s:List Int),q≠l/\H3 q=some (.lst (s.map V.int))/\(∀ z∈s,∃ j:Nat,j<n/\z=(j:Int))/\v=.ref q/\(∀ (j:Nat) (c:ai),(if (j:Int)∈s then q else if 2<=i/\(j:Int)∈Y then y else if 1<=i/\(j:Int)∈X then x else c)=if 2<=i+1/\(j:Int)∈Y then y else if 1<=i+1/\(j:Int)∈X then x else c):=by
   rcases (show i=0\/i=1 by have:=(aE.mp hi).1;simp at this;lia) with rfl|rfl
   .refine ⟨x,X,hxl,gx,λz hz=>jin z ((PM z).mpr (.inl hz)),by simpa using hi.symm,λj c=>?_⟩
    by_cases c1:(j:Int)∈X<;>simp [c1]
   .refine ⟨y,Y,hyl,gy,λz hz=>jin z ((PM z).mpr (.inr hz)),by simpa using hi.symm,λj c=>?_⟩
    by_cases c2:(j:Int)∈Y<;>by_cases c1:(j:Int)∈X<;>simp [c1,c2]
  subst ev;k_in;refine ⟨p,dx,_,rfl,B _ _ W3.ob hpl,jZ _ _,?_⟩;lk;refine ⟨p,dx,l,q,n,as1,s,rfl,ct,B _ _ W3.ob hpl,g4,hl1,B _ _ gq hql,hql,hs,λas2 H5 hl2 hA2 g5 B5=>?_⟩;refine ⟨as2,_,rfl,hl2,g5,λb' o' e hne=>B5 _ _ (B _ _ e hne) hne,λj c hc=>?_⟩;rw [hA2 j _ (hA j c hc),hif j c]
 .rintro Z H4 ⟨as2,o,rfl,hl2,g4,B,hA⟩
  have hAt:∀ (i:Nat) (c:ai),as2[i]?=some c->∃ c0,as[i]?=some c0/\c=if (i:Int)∈Y then y else if (i:Int)∈X then x else c0:=λi c hc=>by
   have hi:i<as.length:=by rw [W.len,← hl2];exact (aE.mp hc).1
   have:=hA i _ (ay hi);rw [hc] at this;refine ⟨_,ay hi,(aL this).trans ?_⟩
   show (if 2<=2/\(i:Int)∈Y then y else if 1<=2/\(i:Int)∈X then x else as[i])=_
   simp
  refine k as2 H4 ⟨B _ _ W3.ob hpl,g4,hl2,λi c hc=>?_,λc hc=>?_⟩ (λb' o' e hne=>B _ _ (S13 _ _ e) hne)
  .obtain ⟨c0,h0,ec⟩:=hAt i c hc;rw [ectR]
   by_cases c2:(i:Int)∈Y
   .rw [if_pos c2] at ec ⊢;rw [ec];exact B _ _ gy hyl
   .rw [if_neg c2] at ec ⊢
    by_cases c1:(i:Int)∈X
    .rw [if_pos c1] at ec ⊢;rw [ec];exact B _ _ gx hxl
    .rw [if_neg c1] at ec ⊢;rw [ec];exact B _ _ (W3.at_ i c0 h0) (W.ne _ (aS h0))
  .obtain ⟨i,hi⟩:=bM.mp hc;obtain ⟨c0,h0,ec⟩:=hAt i c hi
   by_cases c2:(i:Int)∈Y
   .rw [if_pos c2] at ec;rw [ec];exact hyl
   .rw [if_neg c2] at ec
    by_cases c1:(i:Int)∈X
    .rw [if_pos c1] at ec;rw [ec];exact hxl
    .rw [if_neg c1] at ec;rw [ec];exact W.ne _ (aS h0)
inductive eT (K:aa) (C:ai) (vs:List V) (H:Hp) (Q:VK) (E:XK):Prop
 | mk (p dx l:_) (n a:Nat) (as R:_):vs=[.ref p,.int a]->CT K C->WA C H p dx l n as R->Wd n R->(R a).length<=125->a<n->(∀ q (ks:List Int),H q=none->ks.Pairwise (· < ·)->(∀ x,x∈ks↔x∈R a)->Q (.ref q) (upd H q (.lst (ks.map V.int))))->eT K C vs H Q E
theorem EN:Rn (eT K C) (wx K C (cA K C)) oh:=by
 rintro vs H Q E ⟨p,dx,l,n,a,as,R,rfl,ct,W,D,hn,ha,k⟩;obtain ⟨ra,e1,e2,_⟩:=W.get ha;unfold wx;k_go;refine ⟨p,C,dx,_,_,rfl,W.ob,ct.cl,ct.n,Av _ _,?_⟩;lk;refine ⟨n,a,rfl,ha,?_⟩;lk;refine Uv ?_;k_go;refine ⟨p,C,dx,_,_,rfl,W.ob,ct.cl,ct.rows,iI _ _,?_⟩;lk;refine gL (cW.of W.rl) (b8 (j:=a) rfl (by rw [aG,e1];rfl)) ?_;lk;refine ⟨ra,R a,rfl,cW.of e2,by lia,?_,λq ks hq h1 h2=>k q ks hq h1 h2⟩;obtain ⟨ds,d1,d2,d3⟩:=(D.r a ha).cnt;exact ⟨ds,by lia,λx hx=>(d2 x).mpr hx⟩
inductive gZ (K:aa) (C:ai) (vs:List V) (H:Hp) (Q:VK) (E:XK):Prop
 | mk (p dx l:_) (n a:Nat) (as R:_):vs=[.ref p,.int a]->CT K C->WA C H p dx l n as R->Wd n R->a<n->Q (.int ((((R a).length:Int)+1)/2)) H->gZ K C vs H Q E
theorem GQ:Rn (gZ K C) (yL K C (cA K C)) oh:=by
 rintro vs H Q E ⟨p,dx,l,n,a,as,R,rfl,ct,W,D,ha,k⟩;obtain ⟨ra,e1,e2,_⟩:=W.get ha;unfold yL;k_go;refine ⟨p,C,dx,_,_,rfl,W.ob,ct.cl,ct.n,Av _ _,?_⟩;lk;refine ⟨n,a,rfl,ha,?_⟩;k_go;refine ⟨p,C,dx,_,_,rfl,W.ob,ct.cl,ct.rows,iI _ _,?_⟩;lk;refine gL (cW.of W.rl) (b8 (j:=a) rfl (by rw [aG,e1];rfl)) ?_;lk;refine Ww (cW.of e2) ?_;lk;exact k
variable {X:EC}
inductive eJ (K:aa) (C:ai) (vs:List V) (H:Hp) (Q:VK) (E:XK):Prop
 | mk (n:Nat):vs=[.int n]->1<=n->n<=200->Q (.bl true) H->eJ K C vs H Q E
theorem Ko:Rn (eJ K C) (uj K C (hW K C)) qe:=by
 rintro vs H Q E ⟨n,rfl,h1,h2,k⟩;unfold uj;lk;refine ⟨n,rfl,?_⟩;lk;refine kB ?_;lk;refine nY (λh=>?_) λh=>absurd (show (1:Int)<=n by lia) h;lk;rw [show decide ((n:Int)<=200)=true from decide_eq_true (by lia)];exact k
def Top (n:Int) (j:Nat):Prop:=(j=0\/2*(2:Int)^j<=n)/\n<4*(2:Int)^j
def lz (K:aa) (C:ai):Sp:=λvs H Q _=>∃ n:Int,vs=[.int n]/\∀ j:Nat,Top n j->Q (.int j) H
theorem NM (j:Nat):(0:Int)<2^j:=Int.pow_pos (by decide)
theorem aal:Rn (lz K C) (QG K C) XI:=by
 rintro vs H Q E ⟨n,rfl,k⟩;unfold QG;lk;unfold NJ;refine MO (λZ H'=>H'=H/\∃ j:Nat,Z=[some (.int n),some (.int j),some (.int (4*2^j))]/\(j=0\/2*(2:Int)^j<=n)) (λZ _=>match Z with|[_,_,some (.int p)]=>(n+1-p).toNat|_=>0) ⟨rfl,0,rfl,.inl rfl⟩ ?_;rintro Z H' ⟨rfl,j,rfl,hj⟩;have hp:=NM j;lk;refine nY (λh=>⟨_,abm,?_⟩) λh=>?_
 .lk;refine ⟨⟨rfl,j+1,?_,.inr ?_⟩,?_⟩
  .have e:(4*2^j*2:Int)=4*2^(j+1):=by rw [v5];lia
   show [some (V.int n),some (V.int ((j:Int)+1)),some (V.int (4*2^j*2))]=_
   rw [e];rfl
  .rw [v5];lia
  .show (n+1-4*2^j*2).toNat<(n+1-4*2^j).toNat
   lia
 .lk;exact k j ⟨hj,by lia⟩
inductive dH (K:aa) (C:ai) (vs:List V) (H:Hp) (Q:VK) (E:XK):Prop
 | mk (a b:Nat):vs=[.int a,.int b]->(∀ p,H p=none->Q (.ref p) (upd H p (.tup [.int (min a b:Nat),.int (max a b:Nat)])))->dH K C vs H Q E
theorem QM:Rn (dH K C) (IZ K C) v9:=by
 rintro vs H Q E ⟨a,b,rfl,k⟩;unfold IZ;lk;refine nY (λh=>?_) λh=>?_
 .rw [show min a b=a by lia,show max a b=b by lia] at k;lk;exact ⟨Bl,k⟩
 .rw [show min a b=b by lia,show max a b=a by lia] at k;lk;exact ⟨Bl,k⟩
abbrev pk (x y:Nat):List jz:=[fi (x:Int),fi (y:Int)]
inductive pE (K:aa) (C:ai) (vs:List V) (H:Hp) (Q:VK) (E:XK):Prop
 | mk (n a b:Nat) (d:_) (kvs:List (List jz×V)):vs=[.int n,.ref d,.int a,.int b]->a<n->b<n->a≠b->H d=some (.dT kvs)->lS kvs (pk (min a b) (max a b))=none->(∀ p,H p=none->Q (.ref p) (upd H p (.tup [.int (min a b:Nat),.int (max a b:Nat)])))->pE K C vs H Q E
theorem NN:Rn (pE K C) (EJ K C (aV K C) (dH K C)) Nk:=by
 rintro vs H Q E ⟨n,a,b,d,kvs,rfl,ha,hb,hab,hd,hk,k⟩;unfold EJ;lk;refine ⟨n,a,b,rfl,ha,hb,hab,?_⟩;lk;refine ⟨a,b,rfl,λp hp=>?_⟩;lk
 have gd:(upd H p (.tup [.int (min a b:Nat),.int (max a b:Nat)])) d=some (.dT kvs):=by rw [aI (aJ hd hp)];exact hd
 refine .inr ⟨d,_,rfl,A6.t (k:=pk (min a b) (max a b)) gd aK,?_⟩;rw [hk];lk;rw [if_neg (by simp)];lk;exact k p hp
inductive dv (K:aa) (C:ai) (vs:List V) (H:Hp) (Q:VK) (E:XK):Prop
 | mk (n a b:Nat) (d:_) (kvs:List (List jz×V)):vs=[.int n,.ref d,.int a,.int b]->a<n->b<n->a≠b->H d=some (.dT kvs)->(lS kvs (pk (min a b) (max a b))).isSome=true->(∀ p,H p=none->Q (.ref p) (upd H p (.tup [.int (min a b:Nat),.int (max a b:Nat)])))->dv K C vs H Q E
theorem Aw:Rn (dv K C) (sT K C (aV K C) (dH K C)) Nk:=by
 rintro vs H Q E ⟨n,a,b,d,kvs,rfl,ha,hb,hab,hd,hk,k⟩;unfold sT;lk;refine ⟨n,a,b,rfl,ha,hb,hab,?_⟩;lk;refine ⟨a,b,rfl,λp hp=>?_⟩;lk
 have gd:(upd H p (.tup [.int (min a b:Nat),.int (max a b:Nat)])) d=some (.dT kvs):=by rw [aI (aJ hd hp)];exact hd
 refine .inr ⟨d,_,rfl,A6.t (k:=pk (min a b) (max a b)) gd aK,?_⟩;rw [hk];lk;refine je ?_;lk;exact k p hp
def kf (f:Ti->V) (ts:List Ti):List (List jz×V):=ts.map λt=>(pk t.x t.y,f t)
abbrev kl:List Ti->List (List jz×V):=kf λt=>.int t.cF
abbrev kw:List Ti->List (List jz×V):=kf λt=>.bl t.wd
abbrev kv:List Ti->List (List jz×V):=kf λ_=>.int 0
theorem EO {x y u v:Nat}:pk x y=pk u v↔((x:Int),(y:Int))=((u:Int),(v:Int)):=by
 constructor
 .intro h;obtain ⟨h1,h2⟩:=fE h;rw [R6 h1,R6 (fE h2).1]
 .intro h;obtain ⟨h1,h2⟩:=c8 h
  show [fi (x:Int),fi (y:Int)]=_
  rw [h1,h2]
section
variable {f:Ti->V}{g:Ti->Ti}{t:Ti}
theorem i0 (hn:(ts.map Ti.key).Nodup) (ht:t∈ts):lS (kf f ts) (pk t.x t.y)=some (f t):=by
 induction ts with
 | nil=>nomatch ht
 | cons s ts ih =>
  rw [bu,bh] at hn
  by_cases e:pk s.x s.y=pk t.x t.y
  .have:s=t:=by
    rcases aj.mp ht with q|q
    .exact q.symm
    .have e':t.key=s.key:=(EO.mp e).symm;exact absurd (e'▸bq q) hn.1
   subst this;exact t9 (p:=(pk s.x s.y,f s)) rfl
  .refine (qU (p:=(pk s.x s.y,f s)) e).trans (ih hn.2 ?_);exact (aj.mp ht).resolve_left λq=>e (q▸rfl)
theorem Kq {x y:Nat}(h:((x:Int),(y:Int))∉ts.map Ti.key):lS (kf f ts) (pk x y)=none:=by
 induction ts with
 | nil=>rfl
 | cons s ts ih =>
  rw [bu,aj] at h;exact (qU (p:=(pk s.x s.y,f s)) λe=>h (.inl (EO.mp e).symm)).trans (ih λq=>h (.inr q))
theorem XZ (hn:(ts.map Ti.key).Nodup) (ht:t∈ts) (hg:∀ t,(g t).key=t.key):vI (kf f ts) (pk t.x t.y) (f (g t))=kf f (gW ts t.key g):=by
 unfold vI
 have hm:((kf f ts).any λkv=>decide (kv.1=pk t.x t.y))=true:=by rw [yb,i0 hn ht];rfl
 rw [if_pos hm];unfold kf gW;rw [bO,bO];refine eV λu hu=>?_
 show (if pk u.x u.y=pk t.x t.y then (pk u.x u.y,f (g t)) else (pk u.x u.y,f u))=(pk (if u.key=t.key then g u else u).x (if u.key=t.key then g u else u).y,f (if u.key=t.key then g u else u))
 by_cases c:u.key=t.key
 .rw [if_pos c,if_pos (EO.mpr c),mP hn hu ht c];obtain ⟨e1,e2⟩:=Ti.YN (hg t);rw [e1,e2]
 .rw [if_neg c,if_neg λe=>c (EO.mp e)]
theorem De (hg:∀ t,(g t).key=t.key) (hf:∀ t,f (g t)=f t) (k:Int×Int):kf f (gW ts k g)=kf f ts:=by
 unfold kf gW;rw [bO];refine eV λu hu=>?_
 show (pk (if u.key=k then g u else u).x (if u.key=k then g u else u).y,f (if u.key=k then g u else u))=_
 by_cases c:u.key=k
 .obtain ⟨e1,e2⟩:=Ti.YN (hg u);rw [if_pos c,e1,e2,hf]
 .rw [if_neg c]
theorem Kr:qT (kf f ts) (pk t.x t.y)=kf f (ts.filter λu=>decide (u.key≠t.key)):=by
 unfold qT kf;rw [Jo]
 congr 1
 refine aa6 λu _=>?_;exact decide_eq_decide.mpr (not_congr EO)
theorem sf:(kf f ts).length=ts.length:=ag _
end
abbrev nU (Pt:ai) (H:Hp):Prop:=R3 Pt ⟨129,28,129,61⟩ ((("in_order":aY)++".<locals>.")++"<lambda>") H
inductive jo (K:aa) (C:ai) (Pt:ai) (vs:List V) (H:Hp) (Q:VK) (E:XK):Prop
 | mk (p d:_) (zs:List Zn) (VH:List (List jz×V)):vs=[.ref p,.ref d]->H p=some (.lst (zs.map tI))->H d=some (.dT VH)->(∀ z∈zs,∃ w x y:Int,z.1=[w,x,y]/\H z.2=some (.tup [.int x,.int y])/\lS VH [fi x,fi y]=some (.int w))->zs.length<64->nU Pt H->(∀ (l:ai) (zs':List Zn) (H2:Hp),H2 l=none->MP Pt H H2->nU Pt H2->zs'.Perm zs->zs'.Pairwise (λz w=>iY w.1 z.1=false)->Q (.ref l) (upd H2 l (.lst (zs'.map tI))))->jo K C Pt vs H Q E
theorem Kt:Rn (jo K C Pt) (qj K C Pt) Ej:=by
 rintro vs H Q E ⟨p,d,zs,VH,rfl,hp,hd,hkv,hl,hT,k⟩;unfold qj;lk;unfold Qe;lk;exact ⟨p,d,zs,VH,rfl,hp,rfl,hd,hkv,hl,hT,k⟩
theorem any_ints (S:List Int) (x:Int):((S.map PyData.int).any λe=>fU e (.int x))=decide (x∈S):=by
 rw [List.any_map,j8,ab4,decide_eq_true_iff]
 constructor
 .rintro ⟨y,hy,e⟩
  have:y=x:=by simpa [fU] using e
  exact this▸hy
 .intro h;exact ⟨x,h,by simp [fU]⟩
inductive cR (K:aa) (C:ai) (vs:List V) (H:Hp) (Q:VK) (E:XK):Prop
 | mk (t s:_) (x y:Int) (S:List Int):vs=[.ref t,.ref s]->H t=some (.tup [.int x,.int y])->H s=some (.lst (S.map V.int))->(∀ H',bY H H'->Q (.int (ew x y S)) H')->cR K C vs H Q E
theorem Cr:Rn (cR K C) (ph K C) Ek:=by
 rintro vs H Q E ⟨t,s,x,y,S,rfl,ht,hs,k⟩;unfold ph;lk;refine .inr (.inl ⟨⟨_,kU.of ht⟩,λacc hacc=>?_⟩);refine m7 (n:=2) (λi ys H'=>ys=(([x,y].take i).filter λz=>decide (z∈S)).map V.int/\H' acc=some (.lst ys)/\bY H H') (λZ=>∃ o,Z=[o,some (.ref s)]) ⟨by simp,aK,bY.dm hacc⟩ ⟨_,rfl⟩ ?_ ?_ ?_ ?_
 .rintro i ys H' ⟨_,h,_⟩;exact h
 .rintro ys H' ⟨rfl,h,S'⟩;refine ⟨⟨_,S'.U6 (kU.of ht),aB _⟩,?_⟩;lk;refine lq (cW.of h) ?_
  have e:((([x,y].take 2).filter λz=>decide (z∈S)).map V.int).length=ew x y S:=by
   unfold ew
   by_cases c1:x∈S<;>by_cases c2:y∈S<;>simp [c1,c2]
  rw [e];exact k H' S'
 .rintro i ys H' hi ⟨e,h,S'⟩;exact ⟨_,_,S'.U6 (kU.of ht),ay hi⟩
 .rintro i ys σ' H' v H2 hi ⟨rfl,h,S'⟩ ⟨o,rfl⟩ ⟨e2,hx⟩;subst e2;have hxi:=hx _ (S'.U6 (kU.of ht))
  obtain ⟨a,ha⟩:∃ a,[x,y][i]?=some a:=⟨_,ay (by simpa using hi)⟩
  have et:[x,y].take (i+1)=[x,y].take i++[a]:=by rw [f9,ha];rfl
  have ev:v=.int a:=by
   have:([x,y].map V.int)[i]?=some v:=hxi;rw [aG,ha] at this;exact (aL this).symm
  subst ev;lk;refine aeE (Rep.int a) (Wt (cW.of (S' _ _ hs))) ⟨rfl,by simp [PyData.depth]⟩ (kC _ (DQ S)) ?_;rw [any_ints];lk;refine nY (λc=>?_) λc=>?_
  .lk;refine ⟨h,gG (m:=10) (by rw [ag];exact bw (dX _ _) (by rw [bK];lia)),lL.mk' hi ⟨_,rfl⟩ ⟨?_,aK,λb o q=>by rw [aI (aJ q hacc)];exact S' _ _ q⟩⟩;rw [et,fu,bx];simp [c]
  .refine lL.mk' hi ⟨_,rfl⟩ ⟨?_,h,S'⟩;rw [et,fu,bx];simp [c]
theorem Top.one {n:Int}{i j:Nat}(h:Top n i) (h':Top n j):i=j:=by
 have key:∀ {i j:Nat},Top n i->Top n j->¬ i<j:=λ{i j} h h' c=>by
  rcases h'.1 with z|z
  .lia
  .have p:(2:Int)^(i+1)<=2^j:=by
    have:=zL (n:=2) (by decide) (show i+1<=j from c)
    exact_mod_cast this
   have:=h.2;rw [v5] at p;lia
 have:=key h h';have:=key h' h;lia
def BF (H:Hp) (u:Ti×ai):Prop:=H u.2=some (.tup [.int u.1.x,.int u.1.y,.int u.1.cF,.bl u.1.wd])
def Cs (u:Ti×ai):V:=.ref u.2
inductive gh (K:aa) (C:ai) (vs:List V) (H:Hp) (Q:VK) (E:XK):Prop
 | mk (n:Int) (T:Nat) (p:_) (us:List (Ti×ai)):vs=[.int n,.ref p]->Top n T->H p=some (.lst (us.map Cs))->(∀ u∈us,BF H u)->us.length<=1000->(∀ H',bY H H'->Q (.int (us.map λu=>(T:Int)-u.1.cF).sum) H')->gh K C vs H Q E
theorem QN:Rn (gh K C) (Ak K C (lz K C)) El:=by
 rintro vs H Q E ⟨n,T,p,us,rfl,tp,hp,hR,hl,q⟩;unfold Ak;lk;refine .inl ⟨⟨_,cW.of hp⟩,λacc hacc=>?_⟩;refine qc (K:=K) (z:=p) (xs:=us.map Cs) us (λ_=>true) (λu=>.int ((T:Int)-u.1.cF)) (λZ=>∃ o o1 o2 o3,Z=[o,o1,o2,o3,some (.int n)]) (by simp) (cW.of hp) hacc ⟨_,_,_,_,rfl⟩ (by rw [ag];lia) ?_ ?_
 .rintro i u x σ' H' G G' hu hx S' ⟨o,o1,o2,o3,rfl⟩ g1 g2
  have ex:x=Cs u:=by rw [aG,hu] at hx;exact (aL hx).symm
  subst ex;refine wZ (.of (S' _ _ (hR u (aS hu)))) rfl ?_;lk;refine kB ?_;lk;refine ⟨n,rfl,λj hj=>?_⟩;obtain rfl:=hj.one tp;lk;exact g1 rfl _ ⟨_,_,_,_,rfl⟩
 .rintro H' S' hH;lk
  have e:(us.filter λ_=>true).map (λu=>V.int ((T:Int)-u.1.cF))=(us.map λu=>(T:Int)-u.1.cF).map V.int:=by rw [bO,il.mpr (λ_ _=>rfl)];rfl
  rw [e] at hH;exact ⟨acc,_,rfl,cW.of hH,q H' S'⟩
structure Tt where
 (p s q:ai) (ks:List Int) (xs:List V) (f:V) (lv:Nat) (fd:Option (Int×Int))
def pF (t:Tt):V:=.ref t.p
def row (t:Tt):Rw:=⟨t.lv,t.ks.length,t.xs.length,t.fd⟩
def Fd (H:Hp) (f:V) (o:Option (Int×Int)):Prop:=(o=none/\f=.non)\/∃ p b,o=some p/\f=.ref b/\H b=some (.tup [.int p.1,.int p.2])
theorem Fd.same {f:V}{o:Option (Int×Int)}(h:Fd H f o) (S:∀ b xs,H b=some (.tup xs)->H' b=some (.tup xs)):Fd H' f o:=h.imp_right λ⟨p,b,h1,h2,h3⟩=>⟨p,b,h1,h2,S _ _ h3⟩
structure xI (H:Hp) (t:Tt):Prop where
 h1:H t.p=some (.tup [.int t.lv,.ref t.s,.ref t.q,t.f])
 h2:H t.q=some (.lst t.xs)
 h3:H t.s=some (.lst (t.ks.map V.int))
 h4:Fd H t.f t.fd
 h5:Bw (row t)
theorem xI.same {t:Tt}(h:xI H t) (S:bY H H'):xI H' t:=⟨S _ _ h.h1,S _ _ h.h2,S _ _ h.h3,h.h4.same λb _=>S b _,h.h5⟩
theorem adh {f:V}{o:Option (Int×Int)}(h:Fd H f o):(!decide (f=V.non))=o.isSome:=by
 rcases h with ⟨rfl,rfl⟩|⟨p,b,rfl,rfl,_⟩
 .rfl
 .rfl
theorem adi {ts:List Tt}(h:∀ t∈ts,xI H t):(!((ts.filter λt=>!decide (t.f=V.non)).map λt=>t.f).isEmpty)=(ts.map row).any λu=>u.fd.isSome:=by
 induction ts with
 | nil=>rfl
 | cons t ts ih =>
  have e:=adh (h t ah).h4;rw [Gr,bu,A9]
  cases q:(!decide (t.f=V.non)) with
  | true=>rw [q] at e;rw [show (row t).fd.isSome=true from e.symm];rfl
  | false=>rw [q] at e;rw [show (row t).fd.isSome=false from e.symm,tu];exact ih λu hu=>h u (ae _ hu)
theorem aam (us:List Tt):(us.map λv=>(v.xs.length:Int)).sum=(Pd (us.map row):Int):=by
 unfold Pd
 induction us with
 | nil=>rfl
 | cons v us ih=>rw [bu,bu,bu,fX,fX,ih];rfl
inductive fH (K:aa) (C:ai) (vs:List V) (H:Hp) (Q:VK) (E:XK):Prop
 | mk (a:_) (ts:List Tt):vs=[.ref a]->H a=some (.lst (ts.map pF))->(∀ t∈ts,xI H t)->ts.length<=1000->(∀ H',bY H H'->Q (.int (Pd (ts.map row):Nat)) H')->fH K C vs H Q E
theorem UN:Rn (fH K C) (EH K C) lX:=by
 rintro vs H Q E ⟨a,ts,rfl,ha,hR,hl,q⟩;unfold EH;lk;refine .inl ⟨⟨_,cW.of ha⟩,λacc hacc=>?_⟩;refine qc (K:=K) (z:=a) (xs:=ts.map pF) ts (λ_=>true) (λt=>.int (t.xs.length:Int)) (λZ=>∃ o o1 o2 o3,Z=[o,o1,o2,o3]) (by simp) (cW.of ha) hacc ⟨_,_,_,_,rfl⟩ (by rw [ag];lia) ?_ ?_
 .rintro i t x σ' H' G G' ht hx S' ⟨o,o1,o2,o3,rfl⟩ g1 g2
  have ex:x=pF t:=by rw [aG,ht] at hx;exact (aL hx).symm
  subst ex;have ok:=(hR t (aS ht)).same S';refine wZ (.of ok.h1) rfl ?_;lk;refine kB ?_;lk;refine lq (cW.of ok.h2) ?_;exact g1 rfl _ ⟨_,_,_,_,rfl⟩
 .rintro H' S' hH;lk
  have e:(ts.filter λ_=>true).map (λt=>V.int (t.xs.length:Int))=(ts.map λt=>(t.xs.length:Int)).map V.int:=by rw [bO,il.mpr (λ_ _=>rfl)];rfl
  rw [e] at hH;refine ⟨acc,_,rfl,cW.of hH,?_⟩;rw [aam];exact q H' S'
inductive jD (K:aa) (C:ai) (vs:List V) (H:Hp) (Q:VK) (E:XK):Prop
 | mk (a:_) (ts:List Tt):vs=[.ref a]->H a=some (.lst (ts.map pF))->(∀ t∈ts,xI H t)->ts.length<=1000->(∀ H',bY H H'->Q (.int (Pd (ts.map row)+fdF (ts.map row):Nat)) H')->jD K C vs H Q E
theorem UO:Rn (jD K C) (EI K C (fH K C)) ["trail","finds"]:=by
 rintro vs H Q E ⟨a,ts,rfl,ha,hR,hl,q⟩;unfold EI;lk;refine .inl ⟨⟨_,cW.of ha⟩,λacc hacc=>?_⟩;refine qc (K:=K) (z:=a) (xs:=ts.map pF) ts (λt=>!decide (t.f=.non)) (λt=>t.f) (λZ=>∃ o o1 o2 o3,Z=[o,o1,o2,o3]) (by simp) (cW.of ha) hacc ⟨_,_,_,_,rfl⟩ (by rw [ag];lia) ?_ ?_
 .rintro i t x σ' H' G G' ht hx S' ⟨o,o1,o2,o3,rfl⟩ g1 g2
  have ex:x=pF t:=by rw [aG,ht] at hx;exact (aL hx).symm
  subst ex;have ok:=(hR t (aS ht)).same S';refine wZ (.of ok.h1) rfl ?_;lk
  cases hf:(!decide (t.f=V.non)) with
  | true =>
   refine kB ?_;lk
   exact g1 hf _ ⟨_,_,_,_,rfl⟩
  | false =>
   refine je ?_;exact g2 hf _ ⟨_,_,_,_,rfl⟩
 .rintro H' S' hH;lk;refine ⟨_,.inl ⟨_,cW.of hH,rfl⟩,?_⟩;rw [adi hR];unfold fdF at q
  cases c:(ts.map row).any λu=>u.fd.isSome with
  | true =>
   rw [c,if_pos rfl] at q;refine kB ?_;lk;refine ⟨a,ts,rfl,S' _ _ ha,λt ht=>(hR t ht).same S',hl,λH2 S2=>?_⟩;lk
   exact q _ (S'.trans S2)
  | false =>
   rw [c,if_neg (by decide)] at q;refine je ?_;lk;refine ⟨a,ts,rfl,S' _ _ ha,λt ht=>(hR t ht).same S',hl,λH2 S2=>q _ (S'.trans S2)⟩
def iR (K:aa) (C:ai) (X:EC):Sp:=λvs H _ E=>∃ (n a b:Nat) (d:ai) (kvs:List (List jz×V)),vs=[.int n,.ref d,.int a,.int b]/\a<n/\b<n/\a≠b/\H d=some (.dT kvs)/\(lS kvs (pk (min a b) (max a b))).isSome=true/\∀ H',bY H H'->E (.ref X.vO) none H'
theorem GR:Rx (iR K C X) (λE=>oz K C X E (aV K C) (dH K C)) Nk:=by
 rintro vs H Q E ⟨n,a,b,d,kvs,rfl,ha,hb,hab,hd,hk,k⟩;unfold oz;lk;refine ⟨n,a,b,rfl,ha,hb,hab,?_⟩;lk;refine ⟨a,b,rfl,λp hp=>?_⟩;lk
 have gd:(upd H p (.tup [.int (min a b:Nat),.int (max a b:Nat)])) d=some (.dT kvs):=by rw [aI (aJ hd hp)];exact hd
 refine .inr ⟨d,_,rfl,A6.t (k:=pk (min a b) (max a b)) gd aK,?_⟩;rw [hk];lk;rw [if_pos (by simp)];exact SE (k _ (bY.dm hp))
def eK (K:aa) (C:ai) (X:EC):Sp:=λvs H _ E=>∃ (n a b:Nat) (d:ai) (kvs:List (List jz×V)),vs=[.int n,.ref d,.int a,.int b]/\a<n/\b<n/\a≠b/\H d=some (.dT kvs)/\lS kvs (pk (min a b) (max a b))=none/\∀ H',bY H H'->E (.ref X.pP) none H'
theorem xv:Rx (eK K C X) (λE=>jY K C X E (aV K C) (dH K C)) Nk:=by
 rintro vs H Q E ⟨n,a,b,d,kvs,rfl,ha,hb,hab,hd,hk,k⟩;unfold jY;lk;refine ⟨n,a,b,rfl,ha,hb,hab,?_⟩;lk;refine ⟨a,b,rfl,λp hp=>?_⟩;lk
 have gd:(upd H p (.tup [.int (min a b:Nat),.int (max a b:Nat)])) d=some (.dT kvs):=by rw [aI (aJ hd hp)];exact hd
 refine .inr ⟨d,_,rfl,A6.t (k:=pk (min a b) (max a b)) gd aK,?_⟩;rw [hk];lk;rw [if_pos (by simp)];exact SE (k _ (bY.dm hp))
variable {X:EC}
theorem eL {f g:aY}{v x:V}{r:List (aY×V)}(h:¬ g=f):d0 f v ((g,x)::r)=(g,x)::d0 f v r:=by show (if g=f then _ else _)=_;rw [if_neg h]
theorem vo {f:aY}{v x:V}{r:List (aY×V)}:d0 f v ((f,x)::r)=(f,v)::r:=by show (if f=f then _ else _)=_;rw [if_pos rfl]
theorem sY {f:aY}{x:V}{r:List (aY×V)}:c9 f ((f,x)::r)=some x:=by rw [cS,beq_self_eq_true]
theorem fJ {f g:aY}{x:V}{r:List (aY×V)}(h:¬ g=f):c9 g ((f,x)::r)=c9 g r:=by
 rw [cS]
 have:(g == f)=false:=by simpa using h
 rw [this]
structure Ct (K:aa) (C:ai) (A:CA):Prop where
 w:CT K C
 lc:Dj K A.bo
 l1:dN K A.bo "level_of"
 l2:dN K A.bo "wooden"
 l3:dN K A.bo "weight_of"
 l4:dN K A.bo "woods"
 kc:Dj K A.Keeper
 k1:dN K A.Keeper "n"
 k2:dN K A.Keeper "levels"
 k3:dN K A.Keeper "wood"
 k4:dN K A.Keeper "came"
 k5:dN K A.Keeper "looked"
 k6:dN K A.Keeper "risen"
 k7:dN K A.Keeper "lost"
def fL (d1 d2 d3 L:ai):List (aY×V):=[("level_of",.ref d1),("wooden",.ref d2),("weight_of",.ref d3),("woods",.ref L)]
theorem Td {d1 d2 d3 L:ai}:(fL d1 d2 d3 L).lookup ("level_of":aY)=some (.ref d1):=sY
theorem fL2 {d1 d2 d3 L:ai}:(fL d1 d2 d3 L).lookup ("wooden":aY)=some (.ref d2):=by unfold fL;rw [fJ (by decide +kernel)];exact sY
theorem fL3 {d1 d2 d3 L:ai}:(fL d1 d2 d3 L).lookup ("weight_of":aY)=some (.ref d3):=by unfold fL;rw [fJ (by decide +kernel),fJ (by decide +kernel)];exact sY
theorem fL4 {d1 d2 d3 L:ai}:(fL d1 d2 d3 L).lookup ("woods":aY)=some (.ref L):=by unfold fL;rw [fJ (by decide +kernel),fJ (by decide +kernel),fJ (by decide +kernel)];exact sY
theorem fL0 {d1 d2 d3 L:ai}{m:aY}(h1:¬ m="level_of":=by decide +kernel) (h2:¬ m="wooden":=by decide +kernel) (h3:¬ m="weight_of":=by decide +kernel) (h4:¬ m="woods":=by decide +kernel):(fL d1 d2 d3 L).lookup m=none:=by unfold fL;rw [fJ h1,fJ h2,fJ h3,fJ h4];rfl
structure AL where
 (q dq d1 d2 d3 L:ai) (ws:List (ai×ai×ai))
variable {a:AL}
def fp (a:AL):List ai:=a.d1::a.d2::a.d3::a.ws.map (·.2.2)
def Fm (X:List ai) (H H':Hp):Prop:=∀ b o,b∉X->H b=some o->H' b=some o
theorem Fm.refl {X:List ai}:Fm X H H:=λ_ _ _ e=>e
theorem Fm.trans {X:List ai}{H1 H2:Hp}(x:Fm X H H1) (y:Fm X H1 H2):Fm X H H2:=λb o h e=>y b o h (x b o h e)
theorem Fm.of {X:List ai}(S:bY H H'):Fm X H H':=λb o _ e=>S b o e
theorem Fm.but {X:List ai}{c:ai}(hc:c∈X) (S:bJ c H H'):Fm X H H':=λb o h e=>S b o e λz=>h (z▸hc)
theorem Fm.upd {X:List ai}{c:ai}{o:HO}(hc:c∈X):Fm X H (upd H c o):=Fm.but hc bJ.upd
theorem Fm.mono {X Y:List ai}(S:Fm X H H') (h:∀ b∈X,b∈Y):Fm Y H H':=λb o hb e=>S b o (λz=>hb (h b z)) e
theorem Fm.tail {X:List ai}{c:ai}(S:Fm X H H'):Fm (c::X) H H':=S.mono λ_=>ae _
theorem Fm.free {X:List ai}(S:Fm X H H') {b:ai}(h:b∉X) (e:H' b=none):H b=none:=by
 cases z:H b with
 | none=>rfl
 | some o=>rw [S b o h z] at e;cases e
structure LV (C:ai) (A:CA) (H:Hp) (a:AL) (n T:Nat) (ts:List Ti) (as:Nat->List ai) (R:Nat->Nat->List Int):Prop where
 ob:H a.q=some (.ins A.bo a.dq (fL a.d1 a.d2 a.d3 a.L))
 e1:H a.d1=some (.dT (kl ts))
 e2:H a.d2=some (.dT (kw ts))
 e3:H a.d3=some (.dT (kv ts))
 ls:H a.L=some (.lst (a.ws.map λw=>.ref w.1))
 len:a.ws.length=T+1
 wa:∀ (i:Nat) w,a.ws[i]?=some w->WA C H w.1 w.2.1 w.2.2 n (as i) (R i)
 wd:∀ i,i<=T->Wd n (R i)
 n1:1<=n
 U2:a.d1≠a.d2
 YG:a.d1≠a.d3
 Y8:a.d2≠a.d3
 nl:(a.ws.map (·.2.2)).Nodup
 nL:∀ w∈a.ws,a.L≠w.2.2
section
variable {ts':List Ti}
theorem LV.at (h:LV C A H a n T ts as R) {w:ai×ai×ai}(hw:w∈a.ws):∃ i,i<=T/\a.ws[i]?=some w:=by
 obtain ⟨i,hi⟩:=bM.mp hw;have:=(aE.mp hi).1;rw [h.len] at this;exact ⟨i,by lia,hi⟩
theorem LV.get (h:LV C A H a n T ts as R) {i:Nat}(hi:i<=T):∃ w,a.ws[i]?=some w/\w∈a.ws:=by
 have hl:i<a.ws.length:=by rw [h.len];lia
 exact ⟨_,ay hl,eN hl⟩
theorem LV.rows (h:LV C A H a n T ts as R) {w:ai×ai×ai}(hw:w∈a.ws):∃ bs:List ai,bs.length=n/\H w.2.2=some (.lst (bs.map V.ref)):=by
 obtain ⟨i,_,hi⟩:=h.at hw;exact ⟨_,(h.wa i w hi).len,(h.wa i w hi).rl⟩
theorem LV.kind (h:LV C A H a n T ts as R) {b:ai}(hb:b∈fp a):(∃ ks,H b=some (.dT ks))\/∃ bs:List ai,bs.length=n/\H b=some (.lst (bs.map V.ref)):=by
 unfold fp at hb;simp only [aj,bS] at hb
 rcases hb with rfl|rfl|rfl|⟨w,hw,rfl⟩
 .exact .inl ⟨_,h.e1⟩
 .exact .inl ⟨_,h.e2⟩
 .exact .inl ⟨_,h.e3⟩
 .exact .inr (h.rows hw)
theorem LV.out (h:LV C A H a n T ts as R) {b:ai}{o:HO}(e:H b=some o) (h1:∀ ks,o≠.dT ks) (h2:∀ bs:List ai,bs.length=n->o≠.lst (bs.map V.ref)):b∉fp a:=λhb=>by
 rcases h.kind hb with ⟨ks,q⟩|⟨bs,hl,q⟩
 .rw [e] at q;exact h1 ks (aL q)
 .rw [e] at q;exact h2 bs hl (aL q)
theorem LV.xJ (h:LV C A H a n T ts as R) {b:ai}{xs:List V}(e:H b=some (.tup xs)):b∉fp a:=h.out e (λ_ z=>nomatch z) (λ_ _ z=>nomatch z)
theorem LV.outI (h:LV C A H a n T ts as R) {b x y:ai}{fs:List (aY×V)}(e:H b=some (.ins x y fs)):b∉fp a:=h.out e (λ_ z=>nomatch z) (λ_ _ z=>nomatch z)
theorem LV.aaK (h:LV C A H a n T ts as R) {b:ai}{r:List Int}(e:H b=some (.lst (r.map V.int))):b∉fp a:=h.out e (λ_ z=>nomatch z) λbs hl z=>by
 have n1:=h.n1
 injection z with z
 match r,bs,hl with
 | [],c::bs,_=>cases z
 | x::r,c::bs,_=>cases (fE z).1
 | x::r,[],_=>cases z
 | [],[],hl=>rw [← hl] at n1;cases n1
theorem LV.LJ (h:LV C A H a n T ts as R) {b:ai}(e:H b=none):b∉fp a:=λhb=>by
 rcases h.kind hb with ⟨ks,q⟩|⟨bs,hl,q⟩<;>rw [e] at q<;>cases q
theorem LV.keep (h:LV C A H a n T ts as R) {X:List ai}(S:Fm X H H') (hq:∀ x fs,H x=some fs->(∃ c d f,fs=.ins c d f/\f≠[])->(x=a.q\/∃ w∈a.ws,x=w.1)->x∉X) (hd:∀ b∈fp a,b∉X) (hL:a.L∉X) (hr:∀ (b:ai) (r:List Int),r≠[]->H b=some (.lst (r.map V.int))->b∉X):LV C A H' a n T ts as R:=by
 have m1:a.d1∈fp a:=ah;have m2:a.d2∈fp a:=ae _ ah;have m3:a.d3∈fp a:=ae _ (ae _ ah);refine ⟨S _ _ (hq _ _ h.ob ⟨_,_,_,rfl,by simp [fL]⟩ (.inl rfl)) h.ob,S _ _ (hd _ m1) h.e1,S _ _ (hd _ m2) h.e2,S _ _ (hd _ m3) h.e3,S _ _ hL h.ls,h.len,λi w hw=>?_,h.wd,h.n1,h.U2,h.YG,h.Y8,h.nl,h.nL⟩;have hm:=aS hw;have W:=h.wa i w hw
 have hi:i<=T:=by have:=(aE.mp hw).1;rw [h.len] at this;lia
 refine ⟨S _ _ (hq _ _ W.ob ⟨_,_,_,rfl,?_⟩ (.inr ⟨w,hm,rfl⟩)) W.ob,S _ _ (hd _ ?_) W.rl,W.len,λj c hc=>?_,W.ne⟩
 .intro z;have:=Av n w.2.2;rw [z] at this;cases this
 .exact ae _ (ae _ (ae _ (bq hm)))
 .have hj:j<n:=by rw [← W.len];exact (aE.mp hc).1
  exact S _ _ (hr _ _ ((h.wd i hi).r j hj).ne (W.at_ j c hc)) (W.at_ j c hc)
theorem LV.same (h:LV C A H a n T ts as R) (S:bY H H'):LV C A H' a n T ts as R:=h.keep (X:=[]) (λb o _ e=>S b o e) (λ_ _ _ _ _=>cj) (λ_ _=>cj) cj λ_ _ _ _=>cj
theorem LV.sets (h:LV C A H a n T ts as R) (B:Fm [a.d1,a.d2,a.d3] H H') (e1:H' a.d1=some (.dT (kl ts'))) (e2:H' a.d2=some (.dT (kw ts'))) (e3:H' a.d3=some (.dT (kv ts'))):LV C A H' a n T ts' as R:=by
 have ne:∀ {b:ai}{o:HO},H b=some o->(∀ ks,o≠.dT ks)->H' b=some o:=λ{b o} e q=>B _ _ (λhb=>by
  simp only [aj,cj,or_false] at hb
  rcases hb with rfl|rfl|rfl
  .rw [h.e1] at e;cases e;exact q _ rfl
  .rw [h.e2] at e;cases e;exact q _ rfl
  .rw [h.e3] at e;cases e;exact q _ rfl) e
 exact ⟨ne h.ob (λ_ z=>nomatch z),e1,e2,e3,ne h.ls (λ_ z=>nomatch z),h.len,λi w hw=>⟨ne (h.wa i w hw).ob (λ_ z=>nomatch z),ne (h.wa i w hw).rl (λ_ z=>nomatch z),(h.wa i w hw).len,λj c hc=>ne ((h.wa i w hw).at_ j c hc) (λ_ z=>nomatch z),(h.wa i w hw).ne⟩,h.wd,h.n1,h.U2,h.YG,h.Y8,h.nl,h.nL⟩
theorem LV.set1 (h:LV C A H a n T ts as R) (e2:kw ts'=kw ts) (e3:kv ts'=kv ts):LV C A (upd H a.d1 (.dT (kl ts'))) a n T ts' as R :=
 h.sets (Fm.upd ah) aK (by rw [aI h.U2.symm,e2];exact h.e2) (by rw [aI h.YG.symm,e3];exact h.e3)
theorem LV.set2 (h:LV C A H a n T ts as R) (e1:kl ts'=kl ts) (e3:kv ts'=kv ts):LV C A (upd H a.d2 (.dT (kw ts'))) a n T ts' as R :=
 h.sets (Fm.upd (ae _ ah)) (by rw [aI h.U2,e1];exact h.e1) aK (by rw [aI h.Y8.symm,e3];exact h.e3)
theorem LV.wood (h:LV C A H a n T ts as R) {i:Nat}{w:ai×ai×ai}{bs:List ai}{R1:Nat->List Int}(hw:a.ws[i]?=some w) (W:WA C H' w.1 w.2.1 w.2.2 n bs R1) (D:Wd n R1) (B:bJ w.2.2 H H') :
  LV C A H' a n T ts (λj=>if j=i then bs else as j) (λj=>if j=i then R1 else R j):=by
 have hm:=aS hw;obtain ⟨cs,hcl,hcs⟩:=h.rows hm
 have nt:∀ {b:ai}{o:HO},H b=some o->(∀ xs,o≠.lst xs)->H' b=some o:=λ{b o} e q=>B _ _ e λz=>by rw [z,hcs] at e;cases e;exact q _ rfl
 refine ⟨nt h.ob (λ_ z=>nomatch z),nt h.e1 (λ_ z=>nomatch z),nt h.e2 (λ_ z=>nomatch z),nt h.e3 (λ_ z=>nomatch z),B _ _ h.ls (h.nL w hm),h.len,λj v hv=>?_,λj hj=>?_,h.n1,h.U2,h.YG,h.Y8,h.nl,h.nL⟩
 .by_cases c:j=i
  .subst c;rw [hw] at hv;cases hv;simp only [if_pos];exact W
  .simp only [if_neg c];have V:=h.wa j v hv
   have hjT:j<=T:=by have:=(aE.mp hv).1;rw [h.len] at this;lia
   have nvl:v.2.2≠w.2.2:=λe=>c ((List.getElem?_inj (by rw [ag];exact (aE.mp hv).1) h.nl).mp (by rw [aG,aG,hv,hw];simp [e]));refine ⟨nt V.ob (λ_ z=>nomatch z),B _ _ V.rl nvl,V.len,λx b hb=>B _ _ (V.at_ x b hb) λz=>?_,V.ne⟩
   have hx:x<n:=by rw [← V.len];exact (aE.mp hb).1
   have e:=V.at_ x b hb;rw [z] at e;exact h.aaK e (ae _ (ae _ (ae _ (bq hm))))
 .by_cases c:j=i
  .simp only [if_pos c];exact D
  .simp only [if_neg c];exact h.wd j hj
end
inductive cm (K:aa) (C:ai) (A:CA) (vs:List V) (H:Hp) (Q:VK) (E:XK):Prop
 | mk (q dq d1 d2 d3 L t:_) (kl kw:List (List jz×V)) (x y:Int) (v1 v2:_):vs=[.ref q,.ref t]->Ct K C A->H q=some (.ins A.bo dq (fL d1 d2 d3 L))->Rd H d1 (.dT kl)->Rd H d2 (.dT kw)->H t=some (.tup [.int x,.int y])->lS kl [fi x,fi y]=some v1->lS kw [fi x,fi y]=some v2->(∀ p,H p=none->Q (.ref p) (upd H p (.tup [.int x,.int y,v1,v2])))->cm K C A vs H Q E
theorem Cu:Rn (cm K C A) (uz K C A) ou:=by
 rintro vs H Q E ⟨q,dq,d1,d2,d3,L,t,kl,kw,x,y,v1,v2,rfl,ct,hq,r1,r2,ht,h1,h2,k⟩;unfold uz;lk;refine iq (kU.of ht) (b8 (j:=0) rfl rfl) ?_;lk;refine iq (kU.of ht) (b8 (j:=1) rfl rfl) ?_;k_go;refine ⟨q,A.bo,dq,_,_,rfl,hq,ct.lc,ct.l1,Td,?_⟩;lk;refine .inr ⟨d1,v1,rfl,.inr ⟨kl,[fi x,fi y],t,r1,rfl,ht,h1.symm⟩,?_⟩;k_go;refine ⟨q,A.bo,dq,_,_,rfl,hq,ct.lc,ct.l2,fL2,?_⟩;lk;refine .inr ⟨d2,v2,rfl,.inr ⟨kw,[fi x,fi y],t,r2,rfl,ht,h2.symm⟩,?_⟩;lk;exact ⟨Bl,k⟩
variable {X:EC}
theorem fp1:a.d1∈fp a:=ah
theorem fp2:a.d2∈fp a:=ae _ ah
theorem fp3:a.d3∈fp a:=ae _ (ae _ ah)
theorem fpw {w:ai×ai×ai}(h:w∈a.ws):w.2.2∈fp a:=ae _ (ae _ (ae _ (bq h)))
theorem X0 {k:Int×Int}:kl (gW ts k Ti.vP)=kl ts:=De (g:=Ti.vP) (λ_=>rfl) (λ_=>rfl) k
theorem adj {k:Int×Int}:kv (gW ts k Ti.vP)=kv ts:=De (g:=Ti.vP) (λ_=>rfl) (λ_=>rfl) k
theorem abG {k:Int×Int}:kw (gW ts k Ti.up)=kw ts:=De (g:=Ti.up) (λ_=>rfl) (λ_=>rfl) k
theorem ae1 {k:Int×Int}:kv (gW ts k Ti.up)=kv ts:=De (g:=Ti.up) (λ_=>rfl) (λ_=>rfl) k
theorem LV.cast {R':Nat->Nat->List Int}(h:LV C A H a n T ts as R) (e:∀ j,R j=R' j):LV C A H a n T ts as R':=(funext e:R=R')▸h
structure Up (C:ai) (A:CA) (a:AL) (n T:Nat) (ts:List Ti) (R:Nat->Nat->List Int) (f:(Nat->List Int)->Nat->List Int) (H:Hp) (i:Nat) (H1:Hp):Prop where
 ex:∃ as R',LV C A H1 a n T ts as R'/\∀ j,R' j=if j<i then f (R j) else R j
 fm:Fm (fp a) H H1
theorem Up.step {R':Nat->Nat->List Int}{f:(Nat->List Int)->Nat->List Int}{H1 H2:Hp}{i:Nat}{w:ai×ai×ai}{bs:List ai}(L:LV C A H1 a n T ts as R') (e:∀ j,R' j=if j<i then f (R j) else R j) (F:Fm (fp a) H H1)
  (hw:a.ws[i]?=some w) (W:WA C H2 w.1 w.2.1 w.2.2 n bs (f (R' i))) (D:Wd n (f (R' i))) (B:bJ w.2.2 H1 H2):Up C A a n T ts R f H (i+1) H2:=by
 refine ⟨⟨_,_,L.wood hw W D B,λj=>?_⟩,F.trans (Fm.but (fpw (aS hw)) B)⟩
 have ei:R' i=R i:=by rw [e,if_neg (gR i)]
 by_cases c:j=i
 .subst c;rw [if_pos rfl,if_pos (lD j),ei]
 .rw [if_neg c,e]
  by_cases d:j<i
  .rw [if_pos d,if_pos (by lia)]
  .rw [if_neg d,if_neg (by lia)]
inductive b0 (K:aa) (C:ai) (A:CA) (vs:List V) (H:Hp) (Q:VK) (E:XK):Prop
 | mk (a:_) (n T:Nat) (ts as R t:_) (u:Ti):vs=[.ref a.q,.ref t]->Ct K C A->LV C A H a n T ts as R->n<=200->u∈ts->(ts.map Ti.key).Nodup->u.x<n->u.y<n->u.cF<=T->(∀ i,i<=u.cF->(u.y:Int)∉R i u.x)->H t=some (.tup [.int u.x,.int u.y])->ts.length<100->(∀ as' H',LV C A H' a n T (gW ts u.key Ti.vP) as' (Gm R u.cF u.x u.y)->Fm (fp a) H H'->Q .non H')->b0 K C A vs H Q E
theorem Ax:Rn (b0 K C A) (sV K C A (d8 K C)) ["self","tie","wood"]:=by
 rintro vs H Q E ⟨a,n,T,ts,as,R,t,u,rfl,ct,h,hn,hu,hnd,hx,hy,hl,hap,ht,hlen,k⟩;unfold sV;k_go;refine ⟨a.q,A.bo,a.dq,_,_,rfl,h.ob,ct.lc,ct.l2,fL2,?_⟩;lk;refine .inr ⟨a.d2,_,rfl,HR.t (k:=pk u.x u.y) h.e2 ht (gG (m:=100) (by rw [sf];exact hlen)),?_⟩;have e:=XZ (f:=λt=>V.bl t.wd) (g:=Ti.vP) hnd hu (λ_=>rfl);rw [show (V.bl true)=(λt:Ti=>V.bl t.wd) u.vP from rfl,e];have h1:=h.set2 (ts':=gW ts u.key Ti.vP) X0 adj
 have ht1:(upd H a.d2 (.dT (kw (gW ts u.key Ti.vP)))) t=some (.tup [.int u.x,.int u.y]):=by rw [aI (jW ht h.e2)];exact ht
 have S1:Fm (fp a) H (upd H a.d2 (.dT (kw (gW ts u.key Ti.vP)))):=Fm.upd fp2
 have hl1:lS (kl (gW ts u.key Ti.vP)) (pk u.x u.y)=some (.int u.cF):=by rw [X0];exact i0 hnd hu
 change (lZ K C A _) _ _ (upd H a.d2 (.dT (kw (gW ts u.key Ti.vP))));generalize upd H a.d2 (.dT (kw (gW ts u.key Ti.vP)))=H1 at h1 ht1 S1;generalize gW ts u.key Ti.vP=ts1 at h1 hl1 k;unfold lZ;k_go;refine ⟨a.q,A.bo,a.dq,_,_,rfl,h1.ob,ct.lc,ct.l4,fL4,?_⟩;k_go;refine ⟨a.q,A.bo,a.dq,_,_,rfl,h1.ob,ct.lc,ct.l1,Td,?_⟩;lk;refine .inr ⟨a.d1,.int u.cF,rfl,.inr ⟨_,pk u.x u.y,t,.inl h1.e1,rfl,ht1,hl1.symm⟩,?_⟩;lk;refine Iy (cW.of h1.ls) λs hs=>?_;rw [PR (j:=u.cF+1) (by lia),← Bb];have S2:=bY.dm (o:=.lst ((a.ws.take (u.cF+1)).map λw=>V.ref w.1)) hs;have gs:(upd H1 s (.lst ((a.ws.take (u.cF+1)).map λw=>V.ref w.1))) s=some (.lst ((a.ws.take (u.cF+1)).map λw=>V.ref w.1)):=aK;have nsf:=h1.LJ hs;generalize upd H1 s (.lst ((a.ws.take (u.cF+1)).map λw=>V.ref w.1))=H2 at S2 gs;have h2:=h1.same S2;have ht2:=S2 _ _ ht1
 have hlt:(a.ws.take (u.cF+1)).length=u.cF+1:=by rw [bK,h.len];lia
 refine ⟨s,rfl,?_⟩
 refine .inl ⟨⟨_,cW.of gs⟩,oR (K:=K) (a:=s) (xs:=(a.ws.take (u.cF+1)).map λw=>V.ref w.1)
  (λi Z H3=>Up C A a n T ts1 R (λr=>lk r u.x u.y) H2 i H3/\∃ o,Z=[some (.ref a.q),some (.ref t),o])
  ⟨⟨⟨as,R,h2,λj=>by rw [if_neg (by lia)]⟩,Fm.refl⟩,_,rfl⟩ ?_ ?_ ?_⟩
 .rintro i Z H3 _ ⟨U,_⟩;exact cW.of (U.fm _ _ nsf gs)
 .rintro i z Z H3 hi ⟨U,o,rfl⟩;obtain ⟨w,hw,rfl⟩:=gm hi
  have hi:i<u.cF+1:=by rw [← hlt];exact (aE.mp hw).1
  rw [mC,if_pos hi] at hw;obtain ⟨as1,R1,L1,e1⟩:=U.ex;have W1:=L1.wa i w hw;have ht3:=U.fm _ _ (h2.xJ ht2) ht2;k_in;refine ⟨w.1,w.2.1,_,rfl,W1.ob,jZ _ _,?_⟩;lk;refine iq (kU.of ht3) (b8 (j:=0) rfl rfl) ?_;lk;refine iq (kU.of ht3) (b8 (j:=1) rfl rfl) ?_;lk
  have ei:R1 i=R i:=by rw [e1,if_neg (gR i)]
  have D1:=L1.wd i (by lia)
  have hap1:(u.y:Int)∉R1 i u.x:=by rw [ei];exact hap i (by lia)
  refine ⟨w.1,w.2.1,w.2.2,n,u.x,u.y,as1 i,R1 i,rfl,ct.w,W1,D1,hn,hx,hy,hap1,λbs H4 W' B'=>?_⟩;exact ⟨Up.step (f:=λr=>lk r u.x u.y) L1 e1 U.fm hw W' (D1.lk hx hy hap1) B',_,rfl⟩
 .rintro Z H3 ⟨U,o,rfl⟩;rw [ag,hlt] at U;obtain ⟨as1,R1,L1,e1⟩:=U.ex;refine k as1 H3 (L1.cast λj=>?_) ((S1.trans (Fm.of S2)).trans U.fm);rw [e1]
  show _=if j<=u.cF then _ else _
  by_cases c:j<=u.cF
  .rw [if_pos c,if_pos (by lia)]
  .rw [if_neg c,if_neg (by lia)]
inductive cQ (K:aa) (C:ai) (A:CA) (vs:List V) (H:Hp) (Q:VK) (E:XK):Prop
 | mk (a:_) (n T:Nat) (ts as R t:_) (u:Ti):vs=[.ref a.q,.ref t]->Ct K C A->LV C A H a n T ts as R->n<=200->u∈ts->(ts.map Ti.key).Nodup->u.x<n->u.y<n->(u.wd=true->u.cF+1<=T/\(u.y:Int)∉R (u.cF+1) u.x)->H t=some (.tup [.int u.x,.int u.y])->ts.length<100->(∀ as' R' H',LV C A H' a n T (gW ts u.key Ti.up) as' R'->(R'=if u.wd=true then upR R (u.cF+1) u.x u.y else R)->Fm (fp a) H H'->Q .non H')->cQ K C A vs H Q E
theorem Cv:Rn (cQ K C A) (pA K C A (d8 K C)) ou:=by
 rintro vs H Q E ⟨a,n,T,ts,as,R,t,u,rfl,ct,h,hn,hu,hnd,hx,hy,hap,ht,hlen,k⟩;unfold pA;k_go;refine ⟨a.q,A.bo,a.dq,_,_,rfl,h.ob,ct.lc,ct.l1,Td,?_⟩;lk;refine ⟨a.d1,.int u.cF,rfl,.inr ⟨_,pk u.x u.y,t,.inl h.e1,rfl,ht,(i0 (f:=λt=>V.int t.cF) hnd hu).symm⟩,?_⟩;lk;refine ⟨u.cF,1,rfl,rfl,_,HR.t (k:=pk u.x u.y) h.e1 ht (gG (m:=100) (by rw [sf];exact hlen)),?_⟩;have e:=XZ (f:=λt=>V.int t.cF) (g:=Ti.up) hnd hu (λ_=>rfl);rw [show (V.int ((u.cF:Int)+1))=(λt:Ti=>V.int t.cF) u.up from rfl,e];have h1:=h.set1 (ts':=gW ts u.key Ti.up) abG ae1
 have ht1:(upd H a.d1 (.dT (kl (gW ts u.key Ti.up)))) t=some (.tup [.int u.x,.int u.y]):=by rw [aI (jW ht h.e1)];exact ht
 have S1:Fm (fp a) H (upd H a.d1 (.dT (kl (gW ts u.key Ti.up)))):=Fm.upd fp1
 have hw1:lS (kw (gW ts u.key Ti.up)) (pk u.x u.y)=some (.bl u.wd):=by rw [abG];exact i0 hnd hu
 have hl1:lS (kl (gW ts u.key Ti.up)) (pk u.x u.y)=some (.int ((u.cF+1:Nat):Int)):=by
  have:=i0 (f:=λt=>V.int t.cF) (by rw [lG (f:=Ti.up) (λ_=>rfl)];exact hnd) ((lW (f:=Ti.up) hnd hu u.up).mpr (.inl rfl));exact this
 dsimp only;change (eO _ _ _) _ _ (upd H a.d1 (.dT (kl (gW ts u.key Ti.up))));generalize upd H a.d1 (.dT (kl (gW ts u.key Ti.up)))=H1 at h1 ht1 S1;generalize gW ts u.key Ti.up=ts1 at h1 hl1 hw1 k;k_go;refine ⟨a.q,A.bo,a.dq,_,_,rfl,h1.ob,ct.lc,ct.l2,fL2,?_⟩;lk;refine .inr ⟨a.d2,.bl u.wd,rfl,.inr ⟨_,pk u.x u.y,t,.inl h1.e2,rfl,ht1,hw1.symm⟩,?_⟩;refine ⟨_,rfl,?_⟩
 cases hw:u.wd with
 | false =>
  rw [hw] at k;refine je ?_;lk
  exact k as R H1 h1 rfl S1
 | true =>
  rw [hw] at k;obtain ⟨hT,hap⟩:=hap hw;obtain ⟨w,hw1,hwm⟩:=h1.get hT;have W1:=h1.wa _ w hw1;have D1:=h1.wd _ hT;refine kB ?_;k_in;refine jC ?_;lk;refine ⟨a.q,A.bo,a.dq,_,_,rfl,h1.ob,ct.lc,ct.l4,fL4,?_⟩;k_go;refine ⟨a.q,A.bo,a.dq,_,_,rfl,h1.ob,ct.lc,ct.l1,Td,?_⟩;lk;refine .inr ⟨a.d1,.int ((u.cF+1:Nat):Int),rfl,.inr ⟨_,pk u.x u.y,t,.inl h1.e1,rfl,ht1,hl1.symm⟩,?_⟩;refine gL (cW.of h1.ls) (b8 (j:=u.cF+1) rfl (by rw [aG,hw1];rfl)) ?_;refine ⟨w.1,w.2.1,_,rfl,W1.ob,jZ _ _,?_⟩;lk;refine iq (kU.of ht1) (b8 (j:=0) rfl rfl) ?_;lk;refine iq (kU.of ht1) (b8 (j:=1) rfl rfl) ?_;lk;refine ⟨w.1,w.2.1,w.2.2,n,u.x,u.y,as (u.cF+1),R (u.cF+1),rfl,ct.w,W1,D1,hn,hx,hy,hap,λbs H4 W' B'=>?_⟩;exact k _ _ H4 (h1.wood hw1 W' (D1.lk hx hy hap) B') rfl (S1.trans (Fm.but (fpw hwm) B'))
inductive cY (K:aa) (C:ai) (A:CA) (vs:List V) (H:Hp) (Q:VK) (E:XK):Prop
 | mk (a:_) (n T:Nat) (ts as R t:_) (u:Ti):vs=[.ref a.q,.ref t]->Ct K C A->LV C A H a n T ts as R->n<=200->u∈ts->(ts.map Ti.key).Nodup->u.x<n->u.y<n->u.x≠u.y->u.cF<=T->(u.wd=true->∀ i,i<=u.cF->Ed n (R i) u.x u.y)->H t=some (.tup [.int u.x,.int u.y])->(∀ as' R' H',LV C A H' a n T (ts.filter λv=>decide (v.key≠u.key)) as' R'->(R'=if u.wd=true then drR R u.cF u.x u.y else R)->Fm (fp a) H H'->Q .non H')->cY K C A vs H Q E
theorem Cw:Rn (cY K C A) (pB K C A (ia K C)) XC:=by
 rintro vs H Q E ⟨a,n,T,ts,as,R,t,u,rfl,ct,h,hn,hu,hnd,hx,hy,hxy,hl,hed,ht,k⟩
 have td:∀ {H:Hp}{d:ai}{ks ks':List (List jz×V)},H t=some (.tup [.int u.x,.int u.y])->H d=some (.dT ks)->upd H d (.dT ks') t=some (.tup [.int u.x,.int u.y]):=λe1 e2=>by rw [aI (jW e1 e2)];exact e1
 unfold pB;k_go;refine ⟨a.q,A.bo,a.dq,_,_,rfl,h.ob,ct.lc,ct.l3,fL3,?_⟩;refine ⟨.inr (.inr (.inl ⟨rfl,.inr ⟨_,h.e3⟩⟩)),?_⟩;lk;refine ⟨a.d3,_,pk u.x u.y,t,.int 0,rfl,rfl,h.e3,ht,i0 (f:=λ_=>V.int 0) hnd hu,?_⟩;rw [Kr];have ht1:=td (ks':=kv (ts.filter λv=>decide (v.key≠u.key))) ht h.e3
 have ne3:∀ {b:ai}{o:HO},b≠a.d3->H b=some o->(upd H a.d3 (.dT (kv (ts.filter λv=>decide (v.key≠u.key))))) b=some o:=λhb e=>by rw [aI hb];exact e
 have q3:(upd H a.d3 (.dT (kv (ts.filter λv=>decide (v.key≠u.key))))) a.d3=_:=aK;have F1:Fm [a.d1,a.d2,a.d3] H (upd H a.d3 (.dT (kv (ts.filter λv=>decide (v.key≠u.key))))):=Fm.upd (ae _ (ae _ ah));have o1:=ne3 (jW h.ob h.e3) h.ob;have p1:=ne3 h.YG h.e1;have p2:=ne3 h.Y8 h.e2;generalize upd H a.d3 (.dT (kv (ts.filter λv=>decide (v.key≠u.key))))=H1 at ht1 q3 F1 o1 p1 p2;dsimp only;k_go;refine ⟨a.q,A.bo,a.dq,_,_,rfl,o1,ct.lc,ct.l1,Td,?_⟩;refine ⟨.inr (.inr (.inl ⟨rfl,.inr ⟨_,p1⟩⟩)),?_⟩;lk;refine ⟨a.d1,_,pk u.x u.y,t,.int u.cF,rfl,rfl,p1,ht1,i0 (f:=λt=>V.int t.cF) hnd hu,?_⟩;rw [Kr];have ht2:=td (ks':=kl (ts.filter λv=>decide (v.key≠u.key))) ht1 p1;have o2:(upd H1 a.d1 (.dT (kl (ts.filter λv=>decide (v.key≠u.key))))) a.q=_:=(aI (jW o1 p1)).trans o1;have r1:(upd H1 a.d1 (.dT (kl (ts.filter λv=>decide (v.key≠u.key))))) a.d1=_:=aK;have r2:(upd H1 a.d1 (.dT (kl (ts.filter λv=>decide (v.key≠u.key))))) a.d2=_:=(aI h.U2.symm).trans p2;have r3:(upd H1 a.d1 (.dT (kl (ts.filter λv=>decide (v.key≠u.key))))) a.d3=_:=(aI h.YG.symm).trans q3;have F2:Fm [a.d1,a.d2,a.d3] H (upd H1 a.d1 (.dT (kl (ts.filter λv=>decide (v.key≠u.key))))):=F1.trans (Fm.upd ah);generalize upd H1 a.d1 (.dT (kl (ts.filter λv=>decide (v.key≠u.key))))=H2 at ht2 o2 r1 r2 r3 F2;dsimp only;k_go;refine ⟨a.q,A.bo,a.dq,_,_,rfl,o2,ct.lc,ct.l2,fL2,?_⟩;refine ⟨.inr (.inr (.inl ⟨rfl,.inr ⟨_,r2⟩⟩)),?_⟩;lk;refine ⟨a.d2,_,pk u.x u.y,t,.bl u.wd,rfl,rfl,r2,ht2,i0 (f:=λt=>V.bl t.wd) hnd hu,?_⟩;rw [Kr];have ht3:=td (ks':=kw (ts.filter λv=>decide (v.key≠u.key))) ht2 r2;have F3:Fm [a.d1,a.d2,a.d3] H (upd H2 a.d2 (.dT (kw (ts.filter λv=>decide (v.key≠u.key))))):=F2.trans (Fm.upd (ae _ ah));have h3:LV C A (upd H2 a.d2 (.dT (kw (ts.filter λv=>decide (v.key≠u.key))))) a n T (ts.filter λv=>decide (v.key≠u.key)) as R:=h.sets F3 ((aI h.U2).trans r1) aK ((aI h.Y8.symm).trans r3)
 have G3:Fm (fp a) H (upd H2 a.d2 (.dT (kw (ts.filter λv=>decide (v.key≠u.key))))):=F3.mono λb hb=>by
  simp only [aj,cj,or_false] at hb
  rcases hb with rfl|rfl|rfl
  .exact fp1
  .exact fp2
  .exact fp3
 generalize upd H2 a.d2 (.dT (kw (ts.filter λv=>decide (v.key≠u.key))))=H3 at ht3 h3 G3;refine ⟨_,rfl,?_⟩
 cases hw:u.wd with
 | false =>
  rw [hw] at k;refine je ?_;lk
  exact k as R H3 h3 rfl G3
 | true =>
  rw [hw] at k;have hed:=hed hw;refine kB ?_;unfold rh;k_go;refine ⟨a.q,A.bo,a.dq,_,_,rfl,h3.ob,ct.lc,ct.l4,fL4,?_⟩;lk;refine Iy (cW.of h3.ls) λs hs=>?_;rw [PR (j:=u.cF+1) (by lia),← Bb];have S2:=bY.dm (o:=.lst ((a.ws.take (u.cF+1)).map λw=>V.ref w.1)) hs;have gs:(upd H3 s (.lst ((a.ws.take (u.cF+1)).map λw=>V.ref w.1))) s=some (.lst ((a.ws.take (u.cF+1)).map λw=>V.ref w.1)):=aK;have nsf:=h3.LJ hs;generalize upd H3 s (.lst ((a.ws.take (u.cF+1)).map λw=>V.ref w.1))=H4 at S2 gs;have h4:=h3.same S2;have ht4:=S2 _ _ ht3
  have hlt:(a.ws.take (u.cF+1)).length=u.cF+1:=by rw [bK,h.len];lia
  refine ⟨s,rfl,?_⟩
  refine .inl ⟨⟨_,cW.of gs⟩,oR (K:=K) (a:=s) (xs:=(a.ws.take (u.cF+1)).map λw=>V.ref w.1)
   (λi Z H5=>Up C A a n T (ts.filter λv=>decide (v.key≠u.key)) R (λr=>Rm.ct r u.x u.y) H4 i H5/\∃ o,Z=[some (.ref a.q),some (.ref t),some (.int u.cF),o])
   ⟨⟨⟨as,R,h4,λj=>by rw [if_neg (by lia)]⟩,Fm.refl⟩,_,rfl⟩ ?_ ?_ ?_⟩
  .rintro i Z H5 _ ⟨U,_⟩;exact cW.of (U.fm _ _ nsf gs)
  .rintro i z Z H5 hi ⟨U,o,rfl⟩;obtain ⟨w,hw,rfl⟩:=gm hi
   have hi:i<u.cF+1:=by rw [← hlt];exact (aE.mp hw).1
   rw [mC,if_pos hi] at hw;obtain ⟨as1,R1,L1,e1⟩:=U.ex;have W1:=L1.wa i w hw;have ht5:=U.fm _ _ (h4.xJ ht4) ht4;k_in;refine ⟨w.1,w.2.1,_,rfl,W1.ob,jZ _ _,?_⟩;lk;refine iq (kU.of ht5) (b8 (j:=0) rfl rfl) ?_;lk;refine iq (kU.of ht5) (b8 (j:=1) rfl rfl) ?_;lk
   have ei:R1 i=R i:=by rw [e1,if_neg (gR i)]
   have D1:=L1.wd i (by lia)
   have hE:Ed n (R1 i) u.x u.y:=by rw [ei];exact hed i (by lia)
   refine ⟨w.1,w.2.1,w.2.2,n,u.x,u.y,as1 i,R1 i,rfl,ct.w,W1,D1,hn,hx,hy,hxy,hE,λbs H6 W' B'=>?_⟩;exact ⟨Up.step (f:=λr=>Rm.ct r u.x u.y) L1 e1 U.fm hw W' (D1.ct hx hy hxy hE) B',_,rfl⟩
  .rintro Z H5 ⟨U,o,rfl⟩;rw [ag,hlt] at U;obtain ⟨as1,R1,L1,e1⟩:=U.ex;refine k as1 _ H5 (L1.cast λj=>?_) rfl ((G3.trans (Fm.of S2)).trans U.fm);rw [e1]
   show _=if j<=u.cF then _ else _
   by_cases c:j<=u.cF
   .rw [if_pos c,if_pos (by lia)]
   .rw [if_neg c,if_neg (by lia)]
variable {X:EC}
inductive k8 (K:aa) (C:ai) (A:CA) (vs:List V) (H:Hp) (Q:VK) (E:XK):Prop
 | mk (a:_) (n T:Nat) (ts as R t:_) (x y:Nat):vs=[.ref a.q,.ref t,.int 0]->Ct K C A->LV C A H a n T ts as R->n<=200->x<n->y<n->H t=some (.tup [.int x,.int y])->(ts.map Ti.key).Nodup->((x:Int),(y:Int))∉ts.map Ti.key->ts.length<99->(∀ b ts' as' R' H',LV C A H' a n T ts' as' R'->(((y:Int)∈R 0 x/\ts'=ts++[⟨x,y,0,false⟩]/\R'=R/\b=false)\/((y:Int)∉R 0 x/\ts'=gW (ts++[⟨x,y,0,false⟩]) ((x:Int),(y:Int)) Ti.vP/\R'=Gm R 0 x y/\b=true))->Fm (fp a) H H'->Q (.bl b) H')->k8 K C A vs H Q E
theorem ER:Rn (k8 K C A) (wz K C A (cE K C) (b0 K C A)) yt:=by
 rintro vs H Q E ⟨a,n,T,ts,as,R,t,x,y,rfl,ct,h,hn,hx,hy,ht,hnd,hk,hlen,k⟩
 have td:∀ {H:Hp}{d:ai}{ks ks':List (List jz×V)},H t=some (.tup [.int x,.int y])->H d=some (.dT ks)->upd H d (.dT ks') t=some (.tup [.int x,.int y]):=λe1 e2=>by rw [aI (jW e1 e2)];exact e1
 have kn:∀ (f:Ti->V) (v:V),f ⟨x,y,0,false⟩=v->vI (kf f ts) (pk x y) v=kf f (ts++[⟨x,y,0,false⟩]):=λf v e=>by rw [Wg _ (Kq hk),← e];unfold kf;rw [bx];rfl
 have hnd':((ts++[(⟨x,y,0,false⟩:Ti)]).map Ti.key).Nodup:=by
  rw [bx,kK];exact ⟨hnd,by simp,λp hp q hq e=>hk (by rw [Cc,aA] at hq;have e2:p=((x:Int),(y:Int)):=e.trans hq;rw [← e2];exact hp)⟩
 have hu:(⟨x,y,0,false⟩:Ti)∈ts++[⟨x,y,0,false⟩]:=a8 _ ah;unfold wz;k_go;refine ⟨a.q,A.bo,a.dq,_,_,rfl,h.ob,ct.lc,ct.l1,Td,?_⟩;lk;refine .inr ⟨a.d1,_,rfl,HR.t (k:=pk x y) h.e1 ht (gG (m:=100) (by rw [sf];lia)),?_⟩;rw [kn (λt=>V.int t.cF) (.int 0) rfl];have ht1:=td (ks':=kl (ts++[⟨x,y,0,false⟩])) ht h.e1;have o1:(upd H a.d1 (.dT (kl (ts++[⟨x,y,0,false⟩])))) a.q=_:=(aI (jW h.ob h.e1)).trans h.ob;have p1:(upd H a.d1 (.dT (kl (ts++[⟨x,y,0,false⟩])))) a.d1=_:=aK;have p2:(upd H a.d1 (.dT (kl (ts++[⟨x,y,0,false⟩])))) a.d2=_:=(aI h.U2.symm).trans h.e2;have p3:(upd H a.d1 (.dT (kl (ts++[⟨x,y,0,false⟩])))) a.d3=_:=(aI h.YG.symm).trans h.e3;have F1:Fm [a.d1,a.d2,a.d3] H (upd H a.d1 (.dT (kl (ts++[⟨x,y,0,false⟩])))):=Fm.upd ah;generalize upd H a.d1 (.dT (kl (ts++[⟨x,y,0,false⟩])))=H1 at ht1 o1 p1 p2 p3 F1;k_go;refine ⟨a.q,A.bo,a.dq,_,_,rfl,o1,ct.lc,ct.l2,fL2,?_⟩;lk;refine .inr ⟨a.d2,_,rfl,HR.t (k:=pk x y) p2 ht1 (gG (m:=100) (by rw [sf];lia)),?_⟩;rw [kn (λt=>V.bl t.wd) (.bl false) rfl];have ht2:=td (ks':=kw (ts++[⟨x,y,0,false⟩])) ht1 p2;have o2:(upd H1 a.d2 (.dT (kw (ts++[⟨x,y,0,false⟩])))) a.q=_:=(aI (jW o1 p2)).trans o1;have q1:(upd H1 a.d2 (.dT (kw (ts++[⟨x,y,0,false⟩])))) a.d1=_:=(aI h.U2).trans p1;have q2:(upd H1 a.d2 (.dT (kw (ts++[⟨x,y,0,false⟩])))) a.d2=_:=aK;have q3:(upd H1 a.d2 (.dT (kw (ts++[⟨x,y,0,false⟩])))) a.d3=_:=(aI h.Y8.symm).trans p3;have F2:Fm [a.d1,a.d2,a.d3] H (upd H1 a.d2 (.dT (kw (ts++[⟨x,y,0,false⟩])))):=F1.trans (Fm.upd (ae _ ah));generalize upd H1 a.d2 (.dT (kw (ts++[⟨x,y,0,false⟩])))=H2 at ht2 o2 q1 q2 q3 F2;k_go;refine ⟨a.q,A.bo,a.dq,_,_,rfl,o2,ct.lc,ct.l3,fL3,?_⟩;lk;refine .inr ⟨a.d3,_,rfl,HR.t (k:=pk x y) q3 ht2 (gG (m:=100) (by rw [sf];lia)),?_⟩;rw [kn (λ_=>V.int 0) (.int 0) rfl];have ht3:=td (ks':=kv (ts++[⟨x,y,0,false⟩])) ht2 q3;have F3:Fm [a.d1,a.d2,a.d3] H (upd H2 a.d3 (.dT (kv (ts++[⟨x,y,0,false⟩])))):=F2.trans (Fm.upd (ae _ (ae _ ah)));have h3:LV C A (upd H2 a.d3 (.dT (kv (ts++[⟨x,y,0,false⟩])))) a n T (ts++[⟨x,y,0,false⟩]) as R:=h.sets F3 ((aI h.YG).trans q1) ((aI h.Y8).trans q2) aK
 have S3:Fm (fp a) H (upd H2 a.d3 (.dT (kv (ts++[⟨x,y,0,false⟩])))):=F3.mono λb hb=>by
  simp only [aj,cj,or_false] at hb
  rcases hb with rfl|rfl|rfl
  .exact fp1
  .exact fp2
  .exact fp3
 generalize upd H2 a.d3 (.dT (kv (ts++[⟨x,y,0,false⟩])))=H3 at ht3 h3 S3;obtain ⟨w,hw,hwm⟩:=h3.get (bC _);have W3:=h3.wa 0 w hw;have D3:=h3.wd 0 (bC _);k_in;refine jC ?_;lk;refine ⟨a.q,A.bo,a.dq,_,_,rfl,h3.ob,ct.lc,ct.l4,fL4,?_⟩;lk;refine gL (cW.of h3.ls) (b8 (j:=0) rfl (by rw [aG,hw];rfl)) ?_;refine ⟨w.1,w.2.1,_,rfl,W3.ob,jZ _ _,?_⟩;lk;refine iq (kU.of ht3) (b8 (j:=0) rfl rfl) ?_;lk;refine iq (kU.of ht3) (b8 (j:=1) rfl rfl) ?_;lk;refine ⟨w.1,w.2.1,w.2.2,n,x,y,as 0,R 0,rfl,ct.w,W3,D3,hx,hy,?_⟩;refine ⟨_,rfl,?_⟩
 by_cases hj:(y:Int)∈R 0 x
 .rw [decide_eq_true hj];rw [if_neg (by simp)];k_go;refine ⟨a.q,A.bo,a.dq,_,_,rfl,h3.ob,ct.lc,ct.l2,fL2,?_⟩;lk;refine .inr ⟨a.d2,.bl false,rfl,.inr ⟨_,pk x y,t,.inl h3.e2,rfl,ht3,(i0 (f:=λt=>V.bl t.wd) hnd' hu).symm⟩,?_⟩;exact k _ _ as R H3 h3 (.inl ⟨hj,rfl,rfl,rfl⟩) S3
 .rw [decide_eq_false hj];rw [if_pos (by simp)];k_in;refine ⟨a.q,a.dq,_,rfl,h3.ob,fL0,?_⟩;lk;refine ⟨a,n,T,_,as,R,t,⟨x,y,0,false⟩,rfl,ct,h3,hn,hu,hnd',hx,hy,bC _,λi hi=>by rw [Y2.mp hi];exact hj,ht3,by simp;lia,λas' H4 h4 S4=>?_⟩;have ht4:H4 t=some (.tup [.int x,.int y]):=S4 _ _ (h3.xJ ht3) ht3;k_go;refine ⟨a.q,A.bo,a.dq,_,_,rfl,h4.ob,ct.lc,ct.l2,fL2,?_⟩;lk;refine .inr ⟨a.d2,.bl true,rfl,.inr ⟨_,pk x y,t,.inl h4.e2,rfl,ht4,(i0 (f:=λt=>V.bl t.wd) (t:=⟨x,y,0,true⟩) (by rw [lG (f:=Ti.vP) (λ_=>rfl)];exact hnd') ((lW (f:=Ti.vP) hnd' hu _).mpr (.inl rfl))).symm⟩,?_⟩;exact k _ _ as' _ H4 h4 (.inr ⟨hj,rfl,rfl,rfl⟩) (S3.trans S4)
inductive bR (K:aa) (C:ai) (A:CA) (vs:List V) (H:Hp) (Q:VK) (E:XK):Prop
 | mk (a:_) (n T:Nat) (ts as R:_) (lv:Nat) (t:_) (x y:Nat):vs=[.ref a.q,.int lv,.ref t]->Ct K C A->LV C A H a n T ts as R->n<=60->lv<=T->x<n->y<n->H t=some (.tup [.int x,.int y])->(∀ q (ks:List Int) (s o:Nat),(s=x/\o=y\/s=y/\o=x)->(R lv s).length<=(R lv o).length->s=(if (R lv x).length<=(R lv y).length then x else y)->H q=none->ks.Pairwise (· < ·)->(∀ z,z∈ks↔z∈R lv s)->Q (.ref q) (upd H q (.lst (ks.map V.int))))->bR K C A vs H Q E
theorem sh:Rn (bR K C A) (jT K C A (eT K C) (gZ K C)) XD:=by
 rintro vs H Q E ⟨a,n,T,ts,as,R,lv,t,x,y,rfl,ct,h,hn,hl,hx,hy,ht,k⟩;obtain ⟨w,hw,hwm⟩:=h.get hl;have W:=h.wa lv w hw;have D:=h.wd lv hl;have lx:=D.len hx;have ly:=D.len hy;obtain ⟨dx,_,_,cx⟩:=(D.r x hx).cnt;obtain ⟨dy,_,_,cy⟩:=(D.r y hy).cnt;unfold jT;k_go;refine ⟨a.q,A.bo,a.dq,_,_,rfl,h.ob,ct.lc,ct.l4,fL4,?_⟩;lk;refine gL (cW.of h.ls) (b8 (j:=lv) rfl (by rw [aG,hw];rfl)) ?_;k_in;refine ⟨w.1,w.2.1,_,rfl,W.ob,jZ _ _,?_⟩;k_in;refine ⟨w.1,w.2.1,_,rfl,W.ob,jZ _ _,?_⟩;lk;refine iq (kU.of ht) (b8 (j:=0) rfl rfl) ?_;lk;refine ⟨w.1,w.2.1,w.2.2,n,x,as lv,R lv,rfl,ct.w,W,D,hx,?_⟩;refine fG ?_;lk;refine ⟨w.1,w.2.1,_,rfl,W.ob,jZ _ _,?_⟩;lk;refine iq (kU.of ht) (b8 (j:=1) rfl rfl) ?_;lk;refine ⟨w.1,w.2.1,w.2.2,n,y,as lv,R lv,rfl,ct.w,W,D,hy,?_⟩;lk;refine nY (λc=>?_) λc=>?_
 .lk;refine iq (kU.of ht) (b8 (j:=0) rfl rfl) ?_;lk;exact ⟨w.1,w.2.1,w.2.2,n,x,as lv,R lv,rfl,ct.w,W,D,by lia,hx,λq ks hq hs hm=>k q ks x y (.inl ⟨rfl,rfl⟩) (by lia) (if_pos (by lia)).symm hq hs hm⟩
 .lk;refine iq (kU.of ht) (b8 (j:=1) rfl rfl) ?_;lk;exact ⟨w.1,w.2.1,w.2.2,n,y,as lv,R lv,rfl,ct.w,W,D,by lia,hy,λq ks hq hs hm=>k q ks y x (.inr ⟨rfl,rfl⟩) (by lia) (if_neg (by lia)).symm hq hs hm⟩
variable {X:EC}
theorem nU.keep (h:nU Pt H) (S:∀ b o,(∀ ks,o≠.dT ks)->(∀ xs,o≠.lst xs)->(∀ x y z,o≠.ins x y z)->(∀ o' ks,o≠.frz o' (.dT ks))->H b=some o->H' b=some o):nU Pt H':=by
 rcases h with h|⟨c',oc,vs,t,h1,h2,h3⟩
 .exact .inl (S _ _ (λ_ z=>nomatch z) (λ_ z=>nomatch z) (λ_ _ _ z=>nomatch z) (λ_ _ z=>nomatch z) h)
 .exact .inr ⟨c',oc,vs,t,S _ _ (λ_ z=>nomatch z) (λ_ z=>nomatch z) (λ_ _ _ z=>nomatch z) (λ_ _ z=>nomatch z) h1,S _ _ (λ_ z=>nomatch z) (λ_ z=>nomatch z) (λ_ _ _ z=>nomatch z) (λ_ _ z=>nomatch z) h2,h3⟩
theorem nU.same (h:nU Pt H) (S:bY H H'):nU Pt H':=h.keep λb o _ _ _ _ e=>S b o e
theorem nU.fm (h:nU Pt H) (L:LV C A H a n T ts as R) (S:Fm (fp a) H H'):nU Pt H' :=
 h.keep λb o h1 h2 _ _ e=>S b o (L.out e h1 λ_ _=>h2 _) e
theorem nU.ne (h:nU Pt H) {b:ai}{o:HO}(e:H b=some o) (hn:∀ ps,o≠.tbl ps):b≠Pt:=λz=>by
 obtain ⟨ps,q⟩:=h.tbl;rw [z,q] at e;exact hn ps (aL e).symm
def AtL (ts:List Ti) (lv:Nat) (w:Bool) (zs:List Zt):Prop:=(zs.map zP).Nodup/\∀ k,k∈zs.map zP↔∃ t∈ts,t.cF=lv/\t.wd=w/\t.key=k
inductive kQ (K:aa) (C:ai) (A:CA) (Pt:ai) (vs:List V) (H:Hp) (Q:VK) (E:XK):Prop
 | mk (a:_) (n T:Nat) (ts as R:_) (lv:Nat) (w:Bool):vs=[.ref a.q,.int lv,.bl w]->Ct K C A->LV C A H a n T ts as R->(ts.map Ti.key).Nodup->ts.length<64->nU Pt H->(∀ (q:ai) (zs:List Zt) (o:iW) H',H q=none->H' q=some (.lst (zs.map qy))->(∀ z∈zs,lu H' z)->AtL ts lv w zs->zs.map zP=atF ts lv w->H' a.d1=some (.frz o (.dT (kl ts)))->nU Pt H'->Fm [Pt,a.d1] H H'->Q (.ref q) H')->kQ K C A Pt vs H Q E
inductive b9 (K:aa) (C:ai) (A:CA) (Pt:ai) (vs:List V) (H:Hp) (Q:VK) (E:XK):Prop
 | mk (a:_) (n T:Nat) (ts as R:_) (lv:Nat) (w:Bool):vs=[.ref a.q,.int lv,.bl w]->Ct K C A->LV C A H a n T ts as R->(ts.map Ti.key).Nodup->ts.length<64->nU Pt H->(∀ (q:ai) (zs:List Zt) H',H q=none->H' q=some (.lst (zs.map qy))->(∀ z∈zs,lu H' z)->AtL ts lv w zs->zs.map zP=atF ts lv w->nU Pt H'->MP Pt H H'->Q (.ref q) H')->b9 K C A Pt vs H Q E
theorem uE:∀ vs H Q E,b9 K C A Pt vs H Q E->kQ K C A Pt vs H (Z2 H Q) E:=by
 rintro vs H Q E ⟨a,n,T,ts,as,R,lv,w,rfl,ct,h,hnd,hlen,hT,k⟩;refine ⟨a,n,T,ts,as,R,lv,w,rfl,ct,h,hnd,hlen,hT,λq zs o H' hq gq pz hz ha gd hT' B=>.inr ⟨a.d1,o,kl ts,(λo' u' e=>by rw [h.e1] at e;cases e),gd,?_⟩⟩;have hqd:q≠a.d1:=Ne.symm (aJ h.e1 hq)
 have ne:∀ {b:ai}{u:HO},H' b=some u->(∀ o' ks,u≠.frz o' (.dT ks))->(upd H' a.d1 (.dT (kl ts))) b=some u:=λ{b u} e q=>by rw [aI];exact e;rintro rfl;rw [gd] at e;cases e;exact q _ _ rfl
 refine k q zs _ hq (by rw [aI hqd];exact gq) (λz hz'=>ne (pz z hz') (λ_ _ z=>nomatch z)) hz ha (hT'.keep λb u _ _ _ h4 e=>ne e h4) λb u hb e=>?_
 by_cases c:b=a.d1
 .subst c;rw [aK,← h.e1,e]
 .rw [aI c];exact B _ _ (by simp [hb,c]) e
theorem uG:Rn (kQ K C A Pt) (lB K C A (jo K C Pt)) XB:=by
 rintro vs H Q E ⟨a,n,T,ts,as,R,lv,w,rfl,ct,h,hnd,hlen,hT,k⟩;unfold lB;lk;refine abo ?_;refine jC ?_;lk;refine ⟨a.q,A.bo,a.dq,_,_,rfl,h.ob,ct.lc,ct.l1,Td,?_⟩;refine ⟨a.d1,kl ts,rfl,.inl ⟨h.e1,λo=>?_⟩⟩;have g1:(upd H a.d1 (.frz o (.dT (kl ts)))) a.d1=some (.frz o (.dT (kl ts))):=aK;have B1:bJ a.d1 H (upd H a.d1 (.frz o (.dT (kl ts)))):=bJ.upd;generalize upd H a.d1 (.frz o (.dT (kl ts)))=H1 at g1 B1;have q1:=B1 _ _ h.ob (jW h.ob h.e1);have w1:=B1 _ _ h.e2 (Ne.symm h.U2);have v1:=B1 _ _ h.e3 (Ne.symm h.YG)
 have T1:nU Pt H1:=hT.keep λb u h1 _ _ _ e=>B1 _ _ e λz=>by rw [z,h.e1] at e;cases e;exact h1 _ rfl
 intro acc hacc;refine m7 (n:=ts.length) (λt ys H4=>H4 acc=some (.lst ys)/\bY H1 H4/\∃ us:List (Ti×ai),ys=us.map (λu=>V.ref u.2)/\us.map (·.1)=(ts.take t).filter (λu=>decide (u.cF=lv))/\∀ u∈us,H4 u.2=some (.tup [.int u.1.x,.int u.1.y])) (λZ=>∃ o,Z=[o,some (.int lv),some (.ref a.q)]) ⟨aK,bY.dm hacc,[],rfl,rfl,λz hz=>nomatch hz⟩ ⟨_,rfl⟩ ?_ ?_ ?_ ?_
 .rintro t ys H4 ⟨e,_⟩;exact e
 .rintro ys H4 ⟨g4,S4,us,rfl,hu,fl⟩;refine ⟨⟨by rw [sf];exact aB _,S4 _ _ g1⟩,?_⟩;rw [bV (aB _)] at hu
  have hul:us.length<=ts.length:=by have:=congrArg fA hu;rw [ag] at this;rw [this];exact dX _ _
  lk;refine .inl ⟨⟨_,cW.of g4⟩,λacc2 hacc2=>?_⟩;refine qc (K:=K) (z:=acc) (xs:=us.map λu=>V.ref u.2) us (λu=>decide (u.1.wd=w)) (λu=>V.ref u.2) (λZ=>∃ o,Z=[o,some (.bl w),some (.ref a.q)]) (by simp) (cW.of g4) hacc2 ⟨_,rfl⟩ (by rw [ag];lia) ?_ ?_
  .rintro i u x σ' H' G G' hi hx S' ⟨o',rfl⟩ k1 k2
   have ex:x=.ref u.2:=by rw [aG,hi] at hx;exact (aL hx).symm
   subst ex;have hum:=aS hi
   have hut:u.1∈ts:=by
    have:u.1∈us.map (·.1):=bq hum;rw [hu] at this;exact (ig.mp this).1
   k_go;refine ⟨a.q,A.bo,a.dq,_,_,rfl,S' _ _ (S4 _ _ q1),ct.lc,ct.l2,fL2,?_⟩;lk;refine .inr ⟨a.d2,.bl u.1.wd,rfl,.inr ⟨kw ts,pk u.1.x u.1.y,u.2,.inl (S' _ _ (S4 _ _ w1)),rfl,S' _ _ (fl u hum),(i0 (f:=λt=>V.bl t.wd) hnd hut).symm⟩,?_⟩;lk;have e:decide (V.bl u.1.wd=V.bl w)=decide (u.1.wd=w):=decide_eq_decide.mpr ⟨λq=>by injection q,λq=>by rw [q]⟩;rw [e]
   cases c:decide (u.1.wd=w) with
   | true =>
    refine kB ?_;lk
    exact k1 c _ ⟨_,rfl⟩
   | false=>exact je (k2 c _ ⟨_,rfl⟩)
  .intro H' S' hacc';have S5:=S4.trans S';generalize eu:us.filter (λu=>decide (u.1.wd=w))=us2 at hacc'
   have hu2:us2.map (·.1)=(ts.filter λu=>decide (u.cF=lv)).filter λu=>decide (u.wd=w):=by rw [← hu,← eu,Jo];rfl
   have fl2:∀ u∈us2,H' u.2=some (.tup [.int u.1.x,.int u.1.y]):=λu hu=>S' _ _ (fl u (by rw [← eu] at hu;exact (ig.mp hu).1))
   have hm2:∀ u,u∈us2.map (·.1)↔u∈ts/\u.cF=lv/\u.wd=w:=λu=>by
    rw [hu2,ig,ig,decide_eq_true_iff,decide_eq_true_iff,and_assoc]
   have hl2:us2.length<=ts.length:=by rw [← eu];exact a9 (dX _ _) hul
   k_go;refine ⟨a.q,A.bo,a.dq,_,_,rfl,S5 _ _ q1,ct.lc,ct.l3,fL3,?_⟩;lk;refine ⟨acc2,a.d3,us2.map (λu=>([0,(u.1.x:Int),(u.1.y:Int)],u.2)),kv ts,rfl,by rw [hacc',bO];rfl,S5 _ _ v1,λz hz=>?_,by rw [ag];lia,T1.same S5,λl zs' H2 hl S6 T6 hp hsr=>?_⟩
   .obtain ⟨u,hum,rfl⟩:=bS.mp hz;exact ⟨0,u.1.x,u.1.y,rfl,fl2 u hum,i0 (f:=λ_=>V.int 0) hnd ((hm2 u.1).mp (bq hum)).1⟩
   .have T5:=T1.same S5
    have hlP:l≠Pt:=λz=>by
     obtain ⟨ps,e⟩:=T6.tbl;rw [z,e] at hl;cases hl
    have F6:Fm [Pt,a.d1] H H2:=λb u hb e=>by
     simp only [aj,cj,or_false,not_or] at hb;exact S6 _ _ hb.1 (S5 _ _ (B1 _ _ e hb.2))
    have d6:H2 a.d1=some (.frz o (.dT (kl ts))):=S6 _ _ (T5.ne (S5 _ _ g1) (λ_ z=>nomatch z)) (S5 _ _ g1);have hld:a.d1≠l:=aJ d6 hl
    have U:∀ {b:ai}{u:HO},H2 b=some u->(upd H2 l (.lst (zs'.map tI))) b=some u:=λe=>by rw [aI (aJ e hl)];exact e
    have hzP:(zs'.map λz=>(z.1.getD 1 0,z.1.getD 2 0,z.2)).map zP=zs'.map λz=>(z.1.getD 1 0,z.1.getD 2 0):=by rw [bO];rfl
    have hperm:(zs'.map λz=>((z.1.getD 1 0,z.1.getD 2 0):Int×Int)).Perm ((us2.map (·.1)).map Ti.key):=by
     have:=hp.map λz:Zn=>((z.1.getD 1 0,z.1.getD 2 0):Int×Int)
     rw [bO] at this;rw [bO];exact this
    refine k l (zs'.map λz=>(z.1.getD 1 0,z.1.getD 2 0,z.2)) o _ (F6.free (by simp [hlP,hld.symm]) hl) (by rw [aK,bO];rfl) (λz hz=>?_) ⟨?_,λkey=>?_⟩ ?_ (U d6) (T6.keep λb u _ _ _ _ e=>U e) (F6.trans λb u _ e=>U e)
    .obtain ⟨z',hz',rfl⟩:=bS.mp hz;obtain ⟨u,hum,rfl⟩:=bS.mp (hp.mem_iff.mp hz');exact U (S6 _ _ (T5.ne (fl2 u hum) (λ_ z=>nomatch z)) (fl2 u hum))
    .rw [hzP,hperm.nodup_iff,hu2];exact ((lO.trans lO).map _).nodup hnd
    .rw [hzP,hperm.mem_iff,bS];exact ⟨λ⟨u,h1,h2⟩=>⟨u,((hm2 u).mp h1).1,((hm2 u).mp h1).2.1,((hm2 u).mp h1).2.2,h2⟩,λ⟨u,h1,h2,h3,h4⟩=>⟨u,(hm2 u).mpr ⟨h1,h2,h3⟩,h4⟩⟩
    .rw [hzP];unfold atF;rw [← hu2,bO,← JY (m:=zs'.map (·.1)) ((hp.map (·.1)).trans (by rw [bO];exact .refl _)) (sP.mpr hsr),bO]
     rfl
 .rintro t ys H4 ht ⟨_,S4,_⟩;exact ⟨by rw [sf];exact ht,S4 _ _ g1⟩
 .rintro t ys σ' H4 x H5 ht ⟨g4,S4,us,rfl,hu,fl⟩ ⟨o',rfl⟩ ⟨eH,key,v,b,hk,ex,hb⟩;subst eH ex
  obtain ⟨u,hu',eu⟩:∃ u,ts[t]?=some u/\(pk u.x u.y,V.int u.cF)=(key,v):=by
   have hk:(ts.map λt=>(pk t.x t.y,V.int t.cF))[t]?=some (key,v):=hk;rw [aG] at hk;exact fT.mp hk
  cases eu;have hum:=aS hu';have hb:H5 b=some (.tup [.int u.x,.int u.y]):=hb;k_go;refine ⟨a.q,A.bo,a.dq,_,_,rfl,S4 _ _ q1,ct.lc,ct.l1,Td,?_⟩;lk;refine .inr ⟨a.d1,.int u.cF,rfl,.inr ⟨kl ts,pk u.x u.y,b,.inr ⟨o,S4 _ _ g1⟩,rfl,hb,(i0 (f:=λt=>V.int t.cF) hnd hum).symm⟩,?_⟩
  have etk:ts.take (t+1)=ts.take t++[u]:=by rw [f9,hu'];rfl
  have hul:us.length<=ts.length:=by have:=congrArg fA hu;rw [ag] at this;rw [this];exact a9 (dX _ _) (by rw [bK];lia)
  lk;refine nY (λc=>?_) λc=>?_
  .have c:u.cF=lv:=by have:=e9.mp c;lia
   lk;refine ⟨g4,gG (m:=100) (by rw [ag];lia),lL.mk' ht ⟨_,rfl⟩ ⟨aK,λb' ob e=>by rw [aI (aJ e hacc)];exact S4 _ _ e,us++[(u,b)],by simp,?_,λz hz=>?_⟩⟩
   .rw [bx,hu,etk,fu];simp [c]
   .rcases aT.mp hz with hz|hz
    .rw [aI (jW (fl z hz) g4)];exact fl z hz
    .rw [aA.mp hz,aI (jW hb g4)];exact hb
  .have c:¬ u.cF=lv:=λe=>c (by rw [e]);refine lL.mk' ht ⟨_,rfl⟩ ⟨g4,S4,us,rfl,?_,fl⟩;rw [hu,etk,fu];simp [c]
variable {X:EC}
theorem Fm.skip {X:List ai}{c:ai}{H1 H2:Hp}(S:Fm X H H1) (S2:Fm (c::X) H1 H2) (hc:H c=none):Fm X H H2:=λb o hb e=>S2 b o (λz=>by
 rcases aj.mp z with z|z
 .rw [z,hc] at e;cases e
 .exact hb z) (S b o hb e)
theorem ew2 {x y:Int}{S:List Int}:ew x y S=2↔x∈S/\y∈S:=by
 unfold ew;by_cases c1:x∈S<;>by_cases c2:y∈S<;>simp [c1,c2]
theorem ew1 {x y:Int}{S:List Int}:ew x y S=1↔(x∈S/\y∉S\/x∉S/\y∈S):=by
 unfold ew;by_cases c1:x∈S<;>by_cases c2:y∈S<;>simp [c1,c2]
theorem LV.abP (h:LV C A H a n T ts as R) (hP:nU Pt H) (S:MP Pt H H'):LV C A H' a n T ts as R :=
 h.keep (X:=[Pt]) (λb o hb e=>S b o (λz=>hb (aA.mpr z)) e) (λx fs e hf _ hx=>hP.ne e (by obtain ⟨c,d,f,rfl,_⟩:=hf;exact λ_ z=>nomatch z) (aA.mp hx)) (λb hb hx=>by
  rcases h.kind hb with ⟨ks,q⟩|⟨bs,_,q⟩
  .exact hP.ne q (λ_ z=>nomatch z) (aA.mp hx)
  .exact hP.ne q (λ_ z=>nomatch z) (aA.mp hx)) (λhx=>hP.ne h.ls (λ_ z=>nomatch z) (aA.mp hx)) λb r _ e hx=>hP.ne e (λ_ z=>nomatch z) (aA.mp hx)
theorem LV.app {c:ai}{ys xs:List V}(h:LV C A H a n T ts as R) (hc:H c=some (.lst ys)) (hi:∀ i r,ys≠V.int i::r) (n1:c∉fp a) (n2:a.L≠c):LV C A (upd H c (.lst xs)) a n T ts as R :=
 h.keep (X:=[c]) (Fm.upd ah) (λx fs e hf _ hx=>by
  rw [aA.mp hx,hc] at e;obtain ⟨c,d,f,rfl,_⟩:=hf
  cases e) (λb hb hx=>n1 (aA.mp hx▸hb)) (λhx=>n2 (aA.mp hx)) λb r hr e hx=>by
  rw [aA.mp hx,hc] at e
  injection e with e
  injection e with e
  match r,hr with
  | x::r,_=>exact hi _ _ e
inductive cZ (K:aa) (C:ai) (A:CA) (Pt:ai) (vs:List V) (H:Hp) (Q:VK) (E:XK):Prop
 | mk (a:_) (n T:Nat) (ts as R:_) (lv:Nat) (t:_) (x y:Nat):vs=[.ref a.q,.int lv,.ref t]->Ct K C A->LV C A H a n T ts as R->n<=60->T<=10->(∀ j,2^(j+1)<=n->j<=T)->Dn n T ts R x y (lv+1)->H t=some (.tup [.int x,.int y])->ts.length<64->nU Pt H->(∀ ts' as' R' H' (u:Tt),H u.p=none->H u.q=none->H u.s=none->xI H' u->LV C A H' a n T ts' as' R'->nU Pt H'->Fm (Pt::fp a) H H'->ts'.map Ti.key=ts.map Ti.key->(row u,(ts',R'))=oV x y lv (ts,R)->(u.fd=none/\Dn n T ts' R' x y lv\/u.fd≠none/\Lv n T ts' R'/\Jn ts' R')->Q (.ref u.p) H')->cZ K C A Pt vs H Q E
theorem Cy:Rn (cZ K C A Pt) (pC K C A (bR K C A) (b9 K C A Pt) (cQ K C A) (cR K C) (b0 K C A)) Xw:=by
 rintro vs H Q E ⟨a,n,T,ts,as,R,lv,t,x,y,rfl,ct,h,hn,hT10,hT,D,ht,hlen,hP,k⟩
 have hlv:lv<=T:=by have:=D.hk;lia
 have hnd:=D.lv.nd;have f0:∀ {m:aY},¬ m="level_of"->¬ m="wooden"->¬ m="weight_of"->¬ m="woods"->(fL a.d1 a.d2 a.d3 a.L).lookup m=none:=λh1 h2 h3 h4=>fL0 h1 h2 h3 h4;unfold pC;k_in;refine ⟨a.q,a.dq,_,rfl,h.ob,f0 (by decide +kernel) (by decide +kernel) (by decide +kernel) (by decide +kernel),?_⟩;lk;refine ⟨a,n,T,ts,as,R,lv,t,x,y,rfl,ct,h,hn,hlv,D.ha,D.hb,ht,λq ks s o hso hle hse hq hkp hks=>?_⟩;have hks0:=Ql hkp hks;have hS:R lv s=(ts,R).2 lv (if ((ts,R).2 lv x).length<=((ts,R).2 lv y).length then x else y):=congrArg (R lv) hse
 have D':Dn n T ts R s o (lv+1):=by
  rcases hso with ⟨rfl,rfl⟩|⟨rfl,rfl⟩
  .exact D
  .exact D.swap
 have back:∀ {ts' R'},Dn n T ts' R' s o lv->Dn n T ts' R' x y lv:=λd=>by
  rcases hso with ⟨rfl,rfl⟩|⟨rfl,rfl⟩
  .exact d
  .exact d.swap
 have hs:((R lv s).length+1)*2^(lv+1)<=2*n:=by
  refine a9 ?_ (D'.s2 lv (lD _));rw [VB,Nat.mul_comm (2^lv) 2,← Nat.mul_assoc];exact pS _ (by lia)
 have hkl:ks.length<=1000:=by
  have:=Eb (l:=ks) (m:=R lv s) (hkp.imp λh e=>by lia) λz hz=>(hks z).mp hz;have:=(D'.lv.wd lv hlv).len D'.ha;lia
 generalize eu_:upd _ q _=H1;obtain ⟨S1,g1⟩:=news eu_ hq;have h1:=h.same S1;k_in;refine ⟨a.q,a.dq,_,rfl,h1.ob,f0 (by decide +kernel) (by decide +kernel) (by decide +kernel) (by decide +kernel),?_⟩;lk;refine ⟨a,n,T,ts,as,R,lv,true,rfl,ct,h1,hnd,hlen,hP.same S1,λz0 zs H2 hz0 gz pz az ea P2 S2=>?_⟩;have h2:=h1.abP (hP.same S1) S2;have g2:H2 q=some (.lst (ks.map V.int)):=S2 _ _ ((hP.same S1).ne g1 (λ_ z=>nomatch z)) g1
 have hzl:zs.length<=ts.length:=by
  have:=Eb (l:=zs.map zP) (m:=ts.map Ti.key) az.1 λp hp=>by
   obtain ⟨t,t1,_,_,t4⟩:=(az.2 p).mp hp;exact t4▸bq t1
  simpa using this
 refine ⟨z0,rfl,.inl ⟨⟨_,cW.of gz⟩,λacc hacc=>?_⟩⟩;have nacc:=h2.LJ hacc;have nLacc:a.L≠acc:=aJ h2.ls hacc;refine m7 (n:=zs.length) (λi ys H4=>ys=((zs.take i).filter λz=>decide (ew z.1 z.2.1 ks=2)).map qy/\H4 acc=some (.lst ys)/\bY H2 H4) (λZ=>∃ o,Z=[o,some (.ref q)]) ⟨by simp,aK,bY.dm hacc⟩ ⟨_,rfl⟩ ?_ ?_ ?_ ?_
 .rintro i ys H' ⟨_,h,_⟩;exact h
 .rintro ys H3 ⟨rfl,g3,S3⟩;refine ⟨⟨_,cW.of (S3 _ _ gz),by rw [ag];exact aB _⟩,?_⟩;rw [bV (aB _)] at g3;generalize ew':zs.filter (λz=>decide (ew z.1 z.2.1 ks=2))=ws at g3
  have hws:∀ z,z∈ws↔z∈zs/\z.1∈ks/\z.2.1∈ks:=λz=>by rw [← ew',ig,decide_eq_true_iff,ew2]
  have ewd:ws.map zP=Y5 (R lv s) lv (ts,R):=by
   unfold Y5
   show _=(atF ts lv true).filter _
   rw [← ea,Jo,← ew'];refine congrArg (List.map zP) (aa6 λz _=>?_)
   show decide (ew z.1 z.2.1 ks=2)=decide (ew z.1 z.2.1 (R lv s)=2)
   rw [abv hks]
  have wnd:(ws.map zP).Nodup:=by rw [← ew'];exact (lO.map _).nodup az.1
  have h3:=h2.same S3;have P3:=P2.same S3;have q3:=S3 _ _ g2;have pw:∀ z∈ws,lu H3 z:=λz hz=>S3 _ _ (pz z ((hws z).mp hz).1)
  have st:∀ z∈ws,∃ t∈ts,t.key=zP z/\t.wd=true/\t.cF=lv/\(t.x:Int)∈R lv s/\(t.y:Int)∈R lv s:=λz hz=>by
   obtain ⟨m1,m2,m3⟩:=(hws z).mp hz;obtain ⟨t,t1,t2,t3,t4⟩:=(az.2 (zP z)).mp (bq m1);obtain ⟨e1,e2⟩:=c8 t4;exact ⟨t,t1,t4,t3,t2,by rw [e1];exact (hks _).mp m2,by rw [e2];exact (hks _).mp m3⟩
  lk;unfold rj;lk
  refine .inl ⟨⟨_,cW.of g3⟩,oR (K:=K) (a:=acc) (xs:=ws.map qy) (λi Z H4=>∃ ts1 as1 R1 o5 o6,Z=[some (.ref a.q),some (.int lv),some (.ref t),some (.ref q),some (.ref acc),o5,o6]/\LV C A H4 a n T ts1 as1 R1/\Lo1 n T lv s o ts R (ws.map zP) i ts1 R1/\((ws.map zP).drop i).foldl (Xd lv) (ts1,R1)=(ws.map zP).foldl (Xd lv) (ts,R)/\Fm (fp a) H3 H4)
   ⟨ts,as,R,_,_,rfl,h3,⟨D',rfl,rfl,λt ht h1 h2 h3 h4=>?_,λp hp=>?_,λp hp=>?_⟩,rfl,Fm.refl⟩ ?_ ?_ ?_⟩
  .obtain ⟨z,hz,e⟩:=bS.mp ((az.2 t.key).mpr ⟨t,ht,h2,h1,rfl⟩);obtain ⟨e1,e2⟩:=c8 e;exact bS.mpr ⟨z,(hws z).mpr ⟨hz,by rw [e1];exact (hks _).mpr h3,by rw [e2];exact (hks _).mpr h4⟩,e⟩
  .obtain ⟨z,hz,rfl⟩:=bS.mp hp;exact st z hz
  .obtain ⟨z,hz,rfl⟩:=bS.mp hp;obtain ⟨t,h1,h2,h3,_⟩:=st z hz;exact ⟨t,h1,h2,h3⟩
  .rintro i Z H4 _ ⟨_,_,_,_,_,_,_,_,_,F⟩;exact cW.of (F _ _ nacc g3)
  .rintro i v Z H4 hi ⟨ts1,as1,R1,o5,o6,rfl,L4,M,eM,F⟩;obtain ⟨z,hz,rfl⟩:=gm hi;obtain ⟨u,u1,u2,u3,u4,u5,M'⟩:=M.step hT hs wnd (p:=zP z) (by rw [aG,hz];rfl)
   have edz:(ws.map zP).drop i=zP z::(ws.map zP).drop (i+1):=by
    have hzi:(ws.map zP)[i]?=some (zP z):=by rw [aG,hz];rfl
    rw [gE (aE.mp hzi).1,(aE.mp hzi).2]
   have hul:u.cF=lv:=by
    obtain ⟨t',t1,t2,_,t4,_⟩:=M.rem (zP z) (by rw [edz];exact ah);rw [mP M.dn.lv.nd u1 t1 (u2.trans t2.symm)];exact t4
   have eM':((ws.map zP).drop (i+1)).foldl (Xd lv) (gW ts1 u.key Ti.up,upR R1 (u.cF+1) u.x u.y)=(ws.map zP).foldl (Xd lv) (ts,R):=by
    rw [← eM,edz,v3,← u2,hul];rfl
   have hpz:=pw z (aS hz)
   have hpz4:H4 z.2.2=some (.tup [.int u.x,.int u.y]):=by
    obtain ⟨e1,e2⟩:=c8 u2;rw [e1,e2];exact F _ _ (h3.xJ hpz) hpz
   obtain ⟨l1,l2,_⟩:=M.dn.lv.lt u u1
   have hl1:ts1.length=ts.length:=by have:=congrArg fA M.ks;simpa using this
   k_in;refine ⟨a.q,a.dq,_,rfl,L4.ob,f0 (by decide +kernel) (by decide +kernel) (by decide +kernel) (by decide +kernel),?_⟩;lk;refine ⟨a,n,T,ts1,as1,R1,z.2.2,u,rfl,ct,L4,by lia,u1,M.dn.lv.nd,by lia,l2,λ_=>⟨u4,u5⟩,hpz4,by lia,λas' R' H5 L5 eR F5=>?_⟩;rw [u3,if_pos rfl] at eR;subst eR;exact ⟨_,as',_,_,_,rfl,L5,M',eM',F.trans F5⟩
  .rintro Z H4 ⟨ts1,as1,R1,o5,o6,rfl,L4,M,eM,F⟩;rw [ag] at M eM;have P4:=P3.fm h3 F;have a4:=F _ _ nacc g3;have q4:=F _ _ (h3.aaK q3) q3;have ed:(ws.map zP).drop ws.length=[]:=x6.mpr (by rw [ag];exact aB _);rw [ed,ewd] at eM;have eM:(ts1,R1)=(Y5 (R lv s) lv (ts,R)).foldl (Xd lv) (ts,R):=eM
   have hno:∀ t∈ts1,t.wd=true->t.cF=lv->(t.x:Int)∈R1 lv s->(t.y:Int)∈R1 lv s->False:=λt h1 h2 h3 h4 h5=>by
    rw [M.rl] at h4 h5;have:=M.pend t h1 h2 h3 h4 h5;rw [ed] at this;cases this
   have hl1:ts1.length=ts.length:=by have:=congrArg fA M.ks;simpa using this
   have hs1:((R1 lv s).length+1)*2^(lv+1)<=2*n:=by rw [M.rl];exact hs
   have hks1:∀ z,z∈ks↔z∈R1 lv s:=by rw [M.rl];exact hks
   lk;unfold rk;k_in;refine ⟨a.q,a.dq,_,rfl,L4.ob,f0 (by decide +kernel) (by decide +kernel) (by decide +kernel) (by decide +kernel),?_⟩;lk;refine ⟨a,n,T,ts1,as1,R1,lv,false,rfl,ct,L4,M.dn.lv.nd,by lia,P4,λz5 zs3 H5 hz5 gz5 pz5 az5 ea5 P5 S5=>?_⟩;have L5:=L4.abP P4 S5;have a5:H5 acc=some (.lst (ws.map qy)):=S5 _ _ (P4.ne a4 (λ_ z=>nomatch z)) a4;have q5:H5 q=some (.lst (ks.map V.int)):=S5 _ _ (P4.ne q4 (λ_ z=>nomatch z)) q4;have nqa:q≠acc:=aJ g2 hacc;have n5a:z5≠acc:=Ne.symm (aJ a4 hz5);have n5f:=L4.LJ hz5;have n3:(zs3.map zP).Nodup:=az5.1
   have hcnt:ws.length+zs3.length<=ts.length:=by
    have:=Eb (l:=ws.map zP++zs3.map zP) (m:=ts1.map Ti.key) (kK.mpr ⟨wnd,n3,λp hp p' hp' e=>by
     subst e;obtain ⟨t,t1,t2,t3⟩:=M.all p hp;obtain ⟨t',s1,_,s3,s4⟩:=(az5.2 p).mp hp';rw [mP M.dn.lv.nd t1 s1 (t2.trans s4.symm),s3] at t3
     cases t3⟩) λp hp=>by
      rcases aT.mp hp with hp|hp
      .obtain ⟨t,t1,t2,_⟩:=M.all p hp;exact t2▸bq t1
      .obtain ⟨t,t1,_,_,t4⟩:=(az5.2 p).mp hp;exact t4▸bq t1
    simp at this;lia
   -- from the beginning to here
   have F5:Fm (Pt::fp a) H H5:=λb o hb e=>by
    rw [aj,not_or] at hb;exact S5 _ _ hb.1 (F _ _ hb.2 (S3 _ _ (S2 _ _ hb.1 (S1 _ _ e))))
   have fr:∀ {b:ai},H5 b=none->H b=none:=λ{b} e=>F5.free (λz=>by
    rcases aj.mp z with z|z
    .obtain ⟨ps,q⟩:=P5.tbl;rw [z,q] at e;cases e
    .exact L5.LJ e z) e
   have hacc0:H acc=none:=by
    cases z:H acc with
    | none=>rfl
    | some u =>
     have:H1 acc=some u:=S1 _ _ z
     by_cases c:acc=Pt
     .obtain ⟨ps,q⟩:=P2.tbl;rw [← c,hacc] at q;cases q
     .rw [S2 _ _ c this] at hacc;cases hacc
   have Lf:∀ {H6},Fm (acc::fp a) H5 H6->H6 q=some (.lst (ks.map V.int)):=λF=>F _ _ (λz=>(aj.mp z).elim nqa (L5.aaK q5)) q5
   -- the step told
   have hgo:Nc (R lv s) lv (ts,R)=Xe (R lv s) (zs3.map zP) ts1 ws.length:=by
    unfold Nc;rw [← eM,ea5,← ewd,ag]
   have hRo:((Y5 (R lv s) lv (ts,R)).foldl (Xd lv) (ts,R)).2=R1:=by rw [← eM]
   have told:∀ {ts2 as2 R2 H6} {rs:List Zt}(f:V) (fd:Option (Int×Int)),(⟨lv,ks.length,rs.length,fd⟩,(ts2,R2))=oV x y lv (ts,R)->(∀ p,fd=some p->0<=p.1/\p.1<=1000/\0<=p.2/\p.2<=1000)->Fd H6 f fd->LV C A H6 a n T ts2 as2 R2->nU Pt H6->Fm (acc::fp a) H5 H6->H6 acc=some (.lst (rs.map qy))->(∀ z∈rs,lu H6 z)->rs.length<64->ts2.map Ti.key=ts.map Ti.key->(fd=none/\Dn n T ts2 R2 x y lv\/fd≠none/\Lv n T ts2 R2/\Jn ts2 R2) ->
     ∀ G:VK,(∀ v H7,(∀ p,H7 p=none->Q (.ref p) (upd H7 p (.tup [.int lv,.ref q,v,f])))->G v H7)->uc K [.ref acc] H6 G:=λ{ts2 as2 R2 H6 rs} f fd hlk hbd hfd L6 P6 F6 g6 p6 hl6 hk hf G kG=>by
    have fr6:∀ {b:ai},H6 b=none->H b=none:=λ{b} e=>fr (F6.free (λz=>by
     rcases aj.mp z with z|z
     .rw [z,g6] at e;cases e
     .exact L6.LJ e z) e)
    refine ⟨acc,rs.map (λz=>([z.1,z.2.1],z.2.2)),[false],rfl,by rw [bO];exact cW.of g6,λz hz=>let ⟨u,hu,e⟩:=bS.mp hz;e▸⟨_,p6 u hu,.int _ (.int _ .nil)⟩,by rw [ag];exact hl6,λl rs' hl pm _=>kG _ _ λp hp=>?_⟩;have S7:=bY.dm (o:=.lst (rs'.map tI)) hl;have g7:(upd H6 l (.lst (rs'.map tI))) l=some (.lst (rs'.map tI)):=aK;generalize upd H6 l (.lst (rs'.map tI))=H7 at S7 g7 hp;have S8:=bY.dm (o:=.tup [.int lv,.ref q,.ref l,f]) hp;have S78:=S7.trans S8;refine k ts2 as2 R2 _ ⟨p,q,l,ks,rs'.map tI,f,lv,fd⟩ (fr6 (S7.free hp)) (fr6 hl) hq ⟨aK,S8 _ _ g7,S78 _ _ (Lf F6),hfd.same λb _=>S78 b _,?_⟩ (L6.same S78) (P6.same S78) (F5.skip ((F6.mono λb hb=>(aj.mp hb).elim (λz=>z▸ah) λz=>ae _ (ae _ z)).trans (Fm.of S78)) hacc0) hk (by rw [← hlk];unfold row;rw [ag,pm.length_eq,ag]) hf;refine ⟨by show lv<=1000;lia,hkl,?_,hbd⟩
    show (rs'.map tI).length<=1000
    rw [ag,pm.length_eq,ag];lia
   refine ⟨z5,rfl,.inl ⟨⟨_,cW.of gz5⟩,oR (K:=K) (a:=z5) (xs:=zs3.map qy) (λi Z H6=>∃ ts2 as2 rs o5 o6,Z=[some (.ref a.q),some (.int lv),some (.ref t),some (.ref q),some (.ref acc),o5,o6]/\LV C A H6 a n T ts2 as2 R1/\nU Pt H6/\U9 n T lv s o ts R1 (zs3.map zP) i ts2/\H6 acc=some (.lst (rs.map qy))/\(∀ z∈rs,lu H6 z)/\rs.length<=ws.length+i/\Xe (R lv s) ((zs3.map zP).drop i) ts2 rs.length=Xe (R lv s) (zs3.map zP) ts1 ws.length/\Fm (acc::fp a) H5 H6)
    ⟨ts1,as1,ws,_,_,rfl,L5,P5,⟨M.dn,M.ks,λh x y hx hy h1 h2=>M.dn.full hno h hx hy h1 h2,λp hp=>?_,λt h1 h2 h3=>.inl ?_⟩,a5,λz hz=>S5 _ _ (P4.ne (F _ _ (h3.xJ (pw z hz)) (pw z hz)) (λ_ z=>nomatch z)) (F _ _ (h3.xJ (pw z hz)) (pw z hz)),aB _,rfl,Fm.refl⟩ ?_ ?_ ?_⟩⟩
   .obtain ⟨t,t1,t2,t3,t4⟩:=(az5.2 p).mp hp;exact ⟨t,t1,t4,t3,t2⟩
   .exact (az5.2 t.key).mpr ⟨t,h1,h3,h2,rfl⟩
   .rintro i Z H6 _ ⟨_,_,_,_,_,_,_,_,_,_,_,_,_,F6⟩;exact cW.of (F6 _ _ (λz=>(aj.mp z).elim n5a n5f) gz5)
   .rintro i v Z H6 hi ⟨ts2,as2,rs,o5,o6,rfl,L6,P6,N,g6,p6,hl6,eG,F6⟩;obtain ⟨z,hz,rfl⟩:=gm hi;have hilt:i<zs3.length:=(aE.mp hz).1
    have hpi:(zs3.map zP)[i]?=some (zP z):=by rw [aG,hz];rfl
    obtain ⟨t',a1,a2,_,a4,edz,_⟩:=N.at n3 hpi;rw [edz] at eG;have hew:ew z.1 z.2.1 (R lv s)=ew z.1 z.2.1 ks:=(abv hks).symm;have hz5:=pz5 z (aS hz);have hz6:H6 z.2.2=some (.tup [.int z.1,.int z.2.1]):=F6 _ _ (λe=>(aj.mp e).elim (jW hz5 a5) (L5.xJ hz5)) hz5
    have hl2:ts2.length=ts.length:=by have:=congrArg fA N.ks;simpa using this
    lk;refine ⟨z.2.2,q,z.1,z.2.1,ks,rfl,hz6,Lf F6,λH7 S7=>?_⟩;have L7:=L6.same S7;have P7:=P6.same S7;have F7:=F6.trans (Fm.of S7);have g7:=S7 _ _ g6;have hz7:=S7 _ _ hz6;have p7:∀ z∈rs,lu H7 z:=λz hz=>S7 _ _ (p6 z hz);lk;refine nY (λc=>?_) λc=>?_
    .have c:ew z.1 z.2.1 ks=1:=by have:=e9.mp c;lia
     have eG:(ts2,rs.length,some (zP z))=Xe (R lv s) (zs3.map zP) ts1 ws.length:=by rw [← eG];unfold Xe;exact (if_pos (hew.trans c)).symm
     have c:=ew1.mp c;rw [hks1,hks1] at c;obtain ⟨u,u1,u2,u3,u4,u5⟩:=N.one n3 hpi c
     have hul:u.cF=lv:=by rw [mP N.dn.lv.nd u1 a1 (u2.trans a2.symm)];exact a4
     have hlk:(⟨lv,ks.length,rs.length,some (zP z)⟩,(gW ts2 u.key Ti.vP,Gm R1 u.cF u.x u.y))=oV x y lv (ts,R):=by
      rw [Qn hS (hgo.trans eG.symm) hRo,← hks0,← u2,hul];rfl
     obtain ⟨l1,l2,l3⟩:=N.dn.lv.lt u u1;obtain ⟨e1,e2⟩:=c8 u2;k_in;refine ⟨a.q,a.dq,_,rfl,L7.ob,f0 (by decide +kernel) (by decide +kernel) (by decide +kernel) (by decide +kernel),?_⟩;lk;refine ⟨a,n,T,ts2,as2,R1,z.2.2,u,rfl,ct,L7,by lia,u1,N.dn.lv.nd,by lia,l2,l3,u3,by rw [e1,e2];exact hz7,by lia,λas' H8 L8 F8=>?_⟩;lk;refine told (rs:=rs) (.ref z.2.2) (some (zP z)) hlk (λp hp=>by cases hp;show 0<=z.1/\z.1<=1000/\0<=z.2.1/\z.2.1<=1000;lia) (.inr ⟨_,_,rfl,rfl,F8 _ _ (L7.xJ hz7) hz7⟩) L8 (P7.fm L7 F8) (F7.trans F8.tail) (F8 _ _ nacc g7) (λz hz=>F8 _ _ (L7.xJ (p7 z hz)) (p7 z hz)) (by lia) (by rw [lG (f:=Ti.vP) (λ_=>rfl)];exact N.ks) (.inr ⟨nofun,u4,u5⟩) _ λv H9 kk=>?_;lk;exact ⟨Bl,kk⟩
    .lk;have c1:¬ ew z.1 z.2.1 ks=1:=λe=>c (by rw [e];rfl);refine nY (λc=>?_) λc=>?_
     .have c:ew z.1 z.2.1 ks=2:=by have:=e9.mp c;lia
      have eG:Xe (R lv s) ((zs3.map zP).drop (i+1)) (gW ts2 (zP z) Ti.up) (rs.length+1)=Xe (R lv s) (zs3.map zP) ts1 ws.length:=by
       rw [← eG]
       show _=if ew z.1 z.2.1 (R lv s)=1 then _ else if ew z.1 z.2.1 (R lv s)=2 then _ else _
       rw [hew,c,if_neg (by decide),if_pos rfl]
      have c:=ew2.mp c;rw [hks1,hks1] at c;obtain ⟨u,u1,u2,u3,N'⟩:=N.two hT hs1 n3 hpi c.1 c.2;obtain ⟨l1,l2,l3⟩:=N.dn.lv.lt u u1;obtain ⟨e1,e2⟩:=c8 u2;k_in;refine ⟨a.q,a.dq,_,rfl,L7.ob,f0 (by decide +kernel) (by decide +kernel) (by decide +kernel) (by decide +kernel),?_⟩;lk;refine ⟨a,n,T,ts2,as2,R1,z.2.2,u,rfl,ct,L7,by lia,u1,N.dn.lv.nd,by lia,l2,(λe=>by rw [u3] at e;cases e),by rw [e1,e2];exact hz7,by lia,λas' R' H8 L8 eR F8=>?_⟩;rw [u3,if_neg (by decide)] at eR;subst eR;have g8:=F8 _ _ nacc g7;have hz8:=F8 _ _ (L7.xJ hz7) hz7;lk;refine ⟨.inl ⟨rfl,_,cW.of g8⟩,?_⟩;lk;refine DO g8 (gG (m:=100) (by rw [ag];lia)) ?_
      have ne:∀ {b:ai}{o:HO},H8 b=some o->(∀ xs,o≠.lst xs)->(upd H8 acc (.lst (rs.map qy++[.ref z.2.2]))) b=some o:=λ{b o} e hno=>by rw [aI];exact e;rintro rfl;rw [g8] at e;cases e;exact hno _ rfl
      refine ⟨_,as',rs++[z],_,_,rfl,L8.app g8 (by intro i r e;cases rs<;>cases e) nacc nLacc,(P7.fm L7 F8).keep λb o _ h2 _ _ e=>ne e h2,N',by rw [aK,bx];rfl,λz' hz'=>ne ?_ (λ_ z=>nomatch z),by rw [bD];simp;lia,by rw [bD,u2];exact eG,(F7.trans F8.tail).trans (Fm.upd ah)⟩
      rcases aT.mp hz' with hz'|hz'
      .exact F8 _ _ (L7.xJ (p7 z' hz')) (p7 z' hz')
      .rw [aA.mp hz'];exact hz8
     .have c2:¬ ew z.1 z.2.1 ks=2:=λe=>c (by rw [e];rfl);lk
      have c3:z.1∉R1 lv s/\z.2.1∉R1 lv s:=by
       rw [← hks1,← hks1];rw [ew1] at c1;rw [ew2] at c2
       by_cases d1:z.1∈ks<;>by_cases d2:z.2.1∈ks<;>simp_all
      refine ⟨ts2,as2,rs,_,_,rfl,L7,P7,N.zero n3 hpi c3.1 c3.2,g7,p7,by lia,?_,F7⟩;rw [← eG]
      show _=if ew z.1 z.2.1 (R lv s)=1 then _ else if ew z.1 z.2.1 (R lv s)=2 then _ else _
      rw [hew,if_neg c1,if_neg c2]
   .rintro Z H6 ⟨ts2,as2,rs,o5,o6,rfl,L6,P6,N,g6,p6,hl6,eG,F6⟩;rw [x6.mpr (by rw [ag,ag];exact aB _)] at eG;have eG:(ts2,rs.length,none)=Xe (R lv s) (zs3.map zP) ts1 ws.length:=eG;rw [ag] at N hl6;lk;refine told (rs:=rs) .non none (by rw [Qm hS (hgo.trans eG.symm) hRo,← hks0]) (λp hp=>nomatch hp) (.inl ⟨rfl,rfl⟩) L6 P6 F6 g6 p6 (by lia) N.ks (.inl ⟨rfl,back (N.fin (by rw [ag];exact aB _))⟩) _ λv H9 kk=>?_;lk;exact ⟨Bl,kk⟩
 .rintro i ys H' hi ⟨e,h,S'⟩;exact ⟨_,_,cW.of (S' _ _ gz),by rw [aG,ay hi];rfl⟩
 .rintro i ys σ' H' v H3 hi ⟨rfl,hl,S'⟩ ⟨o',rfl⟩ ⟨e2,hx⟩;subst e2;have hxi:=hx _ (cW.of (S' _ _ gz));rw [aG,ay hi] at hxi;have hv:=(aL hxi).symm;subst hv
  have et:zs.take (i+1)=zs.take i++[zs[i]]:=by rw [f9,ay hi];rfl
  lk;refine ⟨zs[i].2.2,q,zs[i].1,zs[i].2.1,ks,rfl,S' _ _ (pz _ (eN hi)),S' _ _ g2,λH4 S4=>?_⟩;lk;refine nY (λc=>?_) λc=>?_
  .have c:ew zs[i].1 zs[i].2.1 ks=2:=by have:=e9.mp c;lia
   lk;refine ⟨S4 _ _ hl,gG (m:=1000) (by rw [ag];exact bw (dX _ _) (by rw [bK];lia)),lL.mk' hi ⟨_,rfl⟩ ⟨?_,aK,λb o e=>by rw [aI (aJ e hacc)];exact S4 _ _ (S' _ _ e)⟩⟩;rw [et,fu,bx];simp [c]
  .have c:¬ ew zs[i].1 zs[i].2.1 ks=2:=λe=>c (by rw [e];rfl);refine lL.mk' hi ⟨_,rfl⟩ ⟨?_,S4 _ _ hl,S'.trans S4⟩;rw [et,fu,bx];simp [c]
variable {X:EC}
theorem Fd.iff {f:V}{o:Option (Int×Int)}(h:Fd H f o):f=.non↔o=none:=by
 rcases h with ⟨rfl,rfl⟩|⟨p,b,rfl,rfl,_⟩
 .exact ⟨λ_=>rfl,λ_=>rfl⟩
 .exact ⟨nofun,nofun⟩
inductive dJ (K:aa) (C:ai) (A:CA) (Pt:ai) (vs:List V) (H:Hp) (Q:VK) (E:XK):Prop
 | mk (a:_) (n T:Nat) (ts as R t:_) (u:Ti):vs=[.ref a.q,.ref t]->Ct K C A->LV C A H a n T ts as R->n<=60->T<=10->(∀ j,2^(j+1)<=n->j<=T)->Lv n T ts R->Jn ts R->u∈ts->H t=some (.tup [.int u.x,.int u.y])->ts.length<64->nU Pt H->(∀ (q:ai) (us:List Tt) (ts':List Ti) (as':Nat->List ai) (R':Nat->Nat->List Int) (H':Hp),H q=none->H' q=some (.lst (us.map pF))->(∀ v∈us,xI H' v)->us.length<=11->LV C A H' a n T ts' as' R'->Lv n T ts' R'->Jn ts' R'->ts'.map Ti.key=(ts.filter λv=>decide (v.key≠u.key)).map Ti.key->(us.map row,(ts',R'))=oX u (ts,R)->nU Pt H'->Fm (Pt::fp a) H H'->Q (.ref q) H')->dJ K C A Pt vs H Q E
theorem Cz:Rn (dJ K C A Pt) (pD K C A (cY K C A) (cZ K C A Pt)) Xy:=by
 rintro vs H Q E ⟨a,n,T,ts,as,R,t,u,rfl,ct,h,hn,hT10,hT,L,J,hu,ht,hlen,hP,k⟩;obtain ⟨l1,l2,l3⟩:=L.lt u hu;unfold pD;k_go;refine ⟨a.q,A.bo,a.dq,_,_,rfl,h.ob,ct.lc,ct.l1,Td,?_⟩;lk;refine .inr ⟨a.d1,.int u.cF,rfl,.inr ⟨_,pk u.x u.y,t,.inl h.e1,rfl,ht,(i0 (f:=λt=>V.int t.cF) L.nd hu).symm⟩,?_⟩;k_go;refine ⟨a.q,A.bo,a.dq,_,_,rfl,h.ob,ct.lc,ct.l2,fL2,?_⟩;lk;refine .inr ⟨a.d2,.bl u.wd,rfl,.inr ⟨_,pk u.x u.y,t,.inl h.e2,rfl,ht,(i0 (f:=λt=>V.bl t.wd) L.nd hu).symm⟩,?_⟩;k_in;refine ⟨a.q,a.dq,_,rfl,h.ob,fL0,?_⟩;lk;refine ⟨a,n,T,ts,as,R,t,u,rfl,ct,h,by lia,hu,L.nd,by lia,l2,by lia,l3,λhw i hi=>(L.ed i (by lia) _ _).mpr ⟨u,hu,hw,hi,.inl rfl⟩,ht,λas1 R1 H1 h1 eR F1=>?_⟩;have P1:=hP.fm h F1;have ht1:=F1 _ _ (h.xJ ht) ht;lk;refine ⟨Bl,λtr htr=>?_⟩;have S2:=bY.dm (o:=.lst []) htr;have g2:(upd H1 tr (.lst [])) tr=some (.lst []):=aK;have ntf:=h1.LJ htr
 have ntP:tr≠Pt:=λz=>by
  obtain ⟨ps,q⟩:=P1.tbl;rw [z,q] at htr;cases htr
 have ntL:a.L≠tr:=aJ h1.ls htr;have htr0:H tr=none:=F1.free ntf htr;generalize upd H1 tr (.lst [])=H2 at S2 g2;have h2:=h1.same S2;have P2:=P1.same S2;have ht2:=S2 _ _ ht1;have F2:Fm (Pt::fp a) H H2:=(F1.trans (Fm.of S2)).tail;generalize ef:(ts.filter λv=>decide (v.key≠u.key))=tf at h1 h2 k
 have hlf:tf.length<=ts.length:=by rw [← ef];exact dX _ _
 lk;unfold rm
 refine MO (λZ H3=>∃ (ts1:List Ti) (as1:Nat->List ai) (R1:Nat->Nat->List Int) (us:List Tt) (lv:Int) (b:Bool),Z=[some (.ref a.q),some (.ref t),some (.int lv),some (.bl b),some (.ref tr)]/\LV C A H3 a n T ts1 as1 R1/\nU Pt H3/\H3 tr=some (.lst (us.map pF))/\(∀ v∈us,xI H3 v/\v.q∉tr::Pt::fp a/\v.s∉tr::Pt::fp a)/\Fm (tr::Pt::fp a) H2 H3/\ts1.map Ti.key=tf.map Ti.key /\
  ((b=true/\∃ kk:Nat,lv=(kk:Int)-1/\Dn n T ts1 R1 u.x u.y kk/\us.length+kk<=T+1/\(us.map row++(oW u.x u.y kk (ts1,R1)).1,(oW u.x u.y kk (ts1,R1)).2)=oX u (ts,R))\/b=false/\Lv n T ts1 R1/\Jn ts1 R1/\us.length<=T+1/\(us.map row,(ts1,R1))=oX u (ts,R))) (λZ _=>match Z with|[_,_,some (.int lv),_,_]=>(lv+1).toNat|_=>0) ?_ ?_
 .refine ⟨tf,as1,R1,[],u.cF,u.wd,rfl,h2,P2,g2,(λv hv=>nomatch hv),Fm.refl,rfl,?_⟩
  cases hw:u.wd with
  | true =>
   rw [hw,if_pos rfl] at eR;subst eR
   exact .inl ⟨rfl,u.cF+1,by lia,ef▸L.drop J hu hw,by simp;lia,by unfold oX;rw [if_pos hw,← ef];rfl⟩
  | false =>
   rw [hw,if_neg (by decide)] at eR;subst eR;obtain ⟨L',J'⟩:=L.afd J hu hw;exact .inr ⟨rfl,ef▸L',ef▸J',by simp,by unfold oX;rw [if_neg (by rw [hw];decide),← ef];rfl⟩
 .rintro Z H3 ⟨ts1,as1,R1,us,lv,b,rfl,h3,P3,g3,u3,F3,hk,hc⟩;have fin:Lv n T ts1 R1->Jn ts1 R1->us.length<=T+1->(us.map row,(ts1,R1))=oX u (ts,R)->Q (.ref tr) H3:=λL' J' hl hg=>k tr us ts1 as1 R1 H3 htr0 g3 (λv hv=>(u3 v hv).1) (by lia) h3 L' J' hk hg P3 (F2.skip F3 htr0);lk;refine ⟨_,rfl,?_⟩
  cases b with
  | false =>
   refine je (je ?_);lk
   rcases hc with ⟨z,_⟩|⟨_,L',J',hl,hg⟩
   .cases z
   .exact fin L' J' hl hg
  | true =>
   refine kB ?_;lk
   obtain ⟨kk,rfl,D,hl,hg⟩:∃ kk:Nat,lv=(kk:Int)-1/\Dn n T ts1 R1 u.x u.y kk/\us.length+kk<=T+1/\(us.map row++(oW u.x u.y kk (ts1,R1)).1,(oW u.x u.y kk (ts1,R1)).2)=oX u (ts,R):=by
    rcases hc with ⟨_,h⟩|⟨z,_⟩
    .exact h
    .cases z
   refine nY (λc=>⟨_,abm,?_⟩) λc=>?_
   .obtain ⟨m,rfl⟩:∃ m,kk=m+1:=⟨kk-1,by lia⟩
    rw [show ((m+1:Nat):Int)-1=(m:Int) by lia]
    have hl1:ts1.length=tf.length:=by have:=congrArg fA hk;simpa using this
    lk;refine ⟨.inl ⟨rfl,_,cW.of g3⟩,?_⟩;k_in;refine ⟨a.q,a.dq,_,rfl,h3.ob,fL0,?_⟩;lk
    have nt3:t∉tr::Pt::fp a:=by
     simp only [aj,not_or];exact ⟨jW ht2 g2,P2.ne ht2 (λ_ z=>nomatch z),h2.xJ ht2⟩
    refine ⟨a,n,T,ts1,as1,R1,m,t,u.x,u.y,rfl,ct,h3,hn,hT10,hT,D,F3 _ _ nt3 ht2,by lia,P3,λts4 as4 R4 H4 v hp hq hs ok h4 P4 F4 hk4 hlk hD=>?_⟩;have g4:H4 tr=some (.lst (us.map pF)):=F4 _ _ (by simp only [aj,not_or];exact ⟨ntP,ntf⟩) g3
    have nv:∀ {b:ai},H3 b=none->b∉tr::Pt::fp a:=λ{b} hb=>by
     simp only [aj,not_or];refine ⟨Ne.symm (aJ g3 hb),λz=>?_,h3.LJ hb⟩;obtain ⟨ps,q⟩:=P3.tbl;rw [z,q] at hb;cases hb
    have nvq:=nv hq;have nvs:=nv hs;lk;refine DO g4 (gG (m:=100) (by rw [ag];lia)) ?_
    have ne:∀ {b:ai}{o:HO},H4 b=some o->(∀ xs,o≠.lst xs)->(upd H4 tr (.lst (us.map pF++[.ref v.p]))) b=some o:=λ{b o} e hno=>by rw [aI];exact e;rintro rfl;rw [g4] at e;cases e;exact hno _ rfl
    have g5:(upd H4 tr (.lst (us.map pF++[.ref v.p]))) tr=some (.lst ((us++[v]).map pF)):=by rw [aK,bx];rfl
    have h5:LV C A (upd H4 tr (.lst (us.map pF++[.ref v.p]))) a n T ts4 as4 R4:=h4.app g4 (by intro i r e;cases us<;>cases e) ntf ntL;have P5:nU Pt (upd H4 tr (.lst (us.map pF++[.ref v.p]))):=P4.keep λb o _ h2 _ _ e=>ne e h2
    have ok5:xI (upd H4 tr (.lst (us.map pF++[.ref v.p]))) v:=⟨ne ok.h1 (λ_ z=>nomatch z),by rw [aI λz=>nvq (by rw [z];exact ah)];exact ok.h2,by rw [aI λz=>nvs (by rw [z];exact ah)];exact ok.h3,ok.h4.same (λb xs e=>ne e (λ_ z=>nomatch z)),ok.h5⟩
    have u5:∀ w∈us,xI (upd H4 tr (.lst (us.map pF++[.ref v.p]))) w:=λw hw=>by
     obtain ⟨⟨o1,o2,o4,o5,o7⟩,o3,o6⟩:=u3 w hw
     have n1:w.p∉Pt::fp a:=by simp only [aj,not_or];exact ⟨P3.ne o1 (λ_ z=>nomatch z),h3.xJ o1⟩
     refine ⟨ne (F4 _ _ n1 o1) (λ_ z=>nomatch z),?_,?_,o5.same (λb xs e=>ne (F4 _ _ (by simp only [aj,not_or];exact ⟨P3.ne e (λ_ z=>nomatch z),h3.xJ e⟩) e) (λ_ z=>nomatch z)),o7⟩
     .rw [aI λz=>o3 (by rw [z];exact ah)];exact F4 _ _ (λz=>o3 (ae _ z)) o2
     .rw [aI λz=>o6 (by rw [z];exact ah)];exact F4 _ _ (λz=>o6 (ae _ z)) o4
    have F5:Fm (tr::Pt::fp a) H2 (upd H4 tr (.lst (us.map pF++[.ref v.p]))):=(F3.trans F4.tail).trans (Fm.upd ah);generalize upd H4 tr (.lst (us.map pF++[.ref v.p]))=H5 at g5 h5 P5 ok5 u5 F5 ne;lk;refine gL (cW.of g5) (v:=.ref v.p) ?_ ?_
    .rw [bx];exact Wb _ _
    refine iq (kU.of ok5.h1) (b8 (j:=3) rfl rfl) ?_;lk;refine ⟨⟨ts4,as4,R4,us++[v],(m:Int)-1,decide (v.f=.non),rfl,h5,P5,g5,λw hw=>?_,F5,hk4.trans hk,?_⟩,?_⟩
    .rcases aT.mp hw with hw|hw
     .exact ⟨u5 w hw,(u3 w hw).2⟩
     .rw [aA.mp hw];exact ⟨ok5,nvq,nvs⟩
    .rcases hD with ⟨e,D4⟩|⟨e,L4,J4⟩
     .refine .inl ⟨decide_eq_true (ok.h4.iff.mpr e),m,rfl,D4,by simp;lia,?_⟩;rw [← hg,Qo hlk e,bx,de];rfl
     .refine .inr ⟨decide_eq_false λz=>e (ok.h4.iff.mp z),L4,J4,by simp;lia,?_⟩;rw [← hg,Qp hlk e,bx];rfl
    .show ((m:Int)-1+1).toNat<((m:Int)+1).toNat
     lia
   .lk
    have:kk=0:=by lia
    subst this;exact fin D.lv D.done (by lia) (by rw [← hg,show oW u.x u.y 0 (ts1,R1)=([],(ts1,R1)) from rfl,mr])
variable {X:EC}
theorem uH {sp:Sp}{dvs:List V}{E:XK}{t:TA}{Z:L2.St}(h:t Z H λvs H1=>∀ x dx,H1 x=none->H1 dx=none->dx≠x->sp (.ref x::(vs++dvs)) (upd (upd H1 dx (.own x)) x (.ins C dx [])) (λv H2=>v=.non/\Q (.ref x) H2) E):tZ C sp dvs E t Z H Q:=h
theorem Ku {Z:L2.St}(h:∀ p,H p=none->Q (.ref p) (upd H p (.dT []))):DK Z H Q:=h
theorem Top.small {n:Int}{j:Nat}(h:Top n j) (hn:n<=200):j<8:=by
 rcases h.1 with z|z
 .lia
 .by_cases c:j<8
  .exact c
  .have:(2:Int)^8<=2^j:=by
    have e:(2:Int)^j=2^(j-8)*2^8:=by rw [← Int.pow_add];congr 1;lia
    have h1:(1:Int)<=2^(j-8):=NM (j-8);rw [e];have:=Int.mul_le_mul_of_nonneg_right h1 (show (0:Int)<=2^8 by decide);lia
   have e8:(2:Int)^8=256:=by decide
   lia
theorem WA.out {c:ai}{as:List ai}{R:Nat->List Int}{o:HO}(W:WA C H p dx l n as R) (h1:p≠c) (h2:l≠c) (h3:∀ a∈as,a≠c):WA C (upd H c o) p dx l n as R :=
 ⟨by rw [aI h1];exact W.ob,by rw [aI h2];exact W.rl,W.len,λi a h=>by rw [aI (h3 a (aS h))];exact W.at_ i a h,W.ne⟩
inductive cc (K:aa) (C:ai) (A:CA) (vs:List V) (H:Hp) (Q:VK) (E:XK):Prop
 | mk (q dq:_) (n:Nat):vs=[.ref q,.int n]->H q=some (.ins A.bo dq [])->Ct K C A->1<=n->n<=200->(∀ (a:AL) (T:Nat) (as:Nat->List ai) (H':Hp),a.q=q->a.dq=dq->LV C A H' a n T [] as (λ_ i=>[(i:Int)])->Top n T->bJ q H H'->(∀ b∈a.L::fp a,H b=none)->Q .non H')->cc K C A vs H Q E
theorem vM:Rn (cc K C A) (lA K C A (dP K C) (lz K C)) oY:=by
 rintro vs H Q E ⟨q,dq,n,rfl,hq,ct,hn1,hn2,k⟩;unfold lA;k_ne;refine lC (Ku λd1 hd1=>?_);lk;have nq1:q≠d1:=aJ hq hd1;refine ⟨q,A.bo,dq,[],rfl,by rw [aI nq1];exact hq,ct.lc,ct.l1,by decide,?_⟩;have g1:(upd (upd H d1 (.dT [])) q (.ins A.bo dq (d0 "level_of" (.ref d1) []))) q=some (.ins A.bo dq [("level_of",.ref d1)]):=aK
 have e1:(upd (upd H d1 (.dT [])) q (.ins A.bo dq (d0 "level_of" (.ref d1) []))) d1=some (.dT []):=by rw [aI (Ne.symm nq1)];exact aK
 have B1:bJ q H (upd (upd H d1 (.dT [])) q (.ins A.bo dq (d0 "level_of" (.ref d1) []))):=λb o e hb=>by rw [aI hb,aI (aJ e hd1)];exact e
 generalize upd (upd H d1 (.dT [])) q (.ins A.bo dq (d0 "level_of" (.ref d1) []))=H1 at g1 e1 B1;dsimp only;k_ne;refine lC (Ku λd2 hd2=>?_);lk;have nq2:q≠d2:=aJ g1 hd2;refine ⟨q,A.bo,dq,_,rfl,by rw [aI nq2];exact g1,ct.lc,ct.l2,by show 1<1000;decide,?_⟩;rw [eL (by decide +kernel)];have g2:(upd (upd H1 d2 (.dT [])) q (.ins A.bo dq (("level_of",.ref d1)::d0 "wooden" (.ref d2) []))) q=some (.ins A.bo dq [("level_of",.ref d1),("wooden",.ref d2)]):=aK
 have e2:(upd (upd H1 d2 (.dT [])) q (.ins A.bo dq (("level_of",.ref d1)::d0 "wooden" (.ref d2) []))) d2=some (.dT []):=by rw [aI (Ne.symm nq2)];exact aK
 have B2:bJ q H1 (upd (upd H1 d2 (.dT [])) q (.ins A.bo dq (("level_of",.ref d1)::d0 "wooden" (.ref d2) []))):=λb o e hb=>by rw [aI hb,aI (aJ e hd2)];exact e
 have U2:d1≠d2:=aJ e1 hd2;generalize upd (upd H1 d2 (.dT [])) q (.ins A.bo dq (("level_of",.ref d1)::d0 "wooden" (.ref d2) []))=H2 at g2 e2 B2;dsimp only;k_ne;refine lC (Ku λd3 hd3=>?_);lk;have nq3:q≠d3:=aJ g2 hd3;refine ⟨q,A.bo,dq,_,rfl,by rw [aI nq3];exact g2,ct.lc,ct.l3,by show 2<1000;decide,?_⟩;rw [eL (by decide +kernel),eL (by decide +kernel)];have g3:(upd (upd H2 d3 (.dT [])) q (.ins A.bo dq (("level_of",.ref d1)::("wooden",.ref d2)::d0 "weight_of" (.ref d3) []))) q=some (.ins A.bo dq [("level_of",.ref d1),("wooden",.ref d2),("weight_of",.ref d3)]):=aK
 have e3:(upd (upd H2 d3 (.dT [])) q (.ins A.bo dq (("level_of",.ref d1)::("wooden",.ref d2)::d0 "weight_of" (.ref d3) []))) d3=some (.dT []):=by rw [aI (Ne.symm nq3)];exact aK
 have B3:bJ q H2 (upd (upd H2 d3 (.dT [])) q (.ins A.bo dq (("level_of",.ref d1)::("wooden",.ref d2)::d0 "weight_of" (.ref d3) []))):=λb o e hb=>by rw [aI hb,aI (aJ e hd3)];exact e
 have Y8:d2≠d3:=aJ e2 hd3;have YG:d1≠d3:=aJ (B2 _ _ e1 (Ne.symm nq1)) hd3;generalize upd (upd H2 d3 (.dT [])) q (.ins A.bo dq (("level_of",.ref d1)::("wooden",.ref d2)::d0 "weight_of" (.ref d3) []))=H3 at g3 e3 B3;have B:=(B1.trans B2).trans B3;have f1:=B3 _ _ (B2 _ _ e1 (Ne.symm nq1)) (Ne.symm nq1);have f2:=B3 _ _ e2 (Ne.symm nq2)
 have fr:∀ {b:ai},b≠q->H3 b=none->H b=none:=λ{b} hb e=>by
  cases z:H b with
  | none=>rfl
  | some o=>rw [B _ _ z hb] at e;cases e
 have fr2:∀ {b:ai},b≠q->H2 b=none->H b=none:=λ{b} hb e=>by
  cases z:H b with
  | none=>rfl
  | some o=>rw [(B1.trans B2) _ _ z hb] at e;cases e
 have fr1:∀ {b:ai},b≠q->H1 b=none->H b=none:=λ{b} hb e=>by
  cases z:H b with
  | none=>rfl
  | some o=>rw [B1 _ _ z hb] at e;cases e
 dsimp only;refine lC ?_;lk;refine ⟨n,rfl,λj hj=>?_⟩;have hj8:=hj.small (by lia);lk;refine ⟨by lia,by lia,λacc hacc=>?_⟩
 have e0:(((j:Int)+1)).toNat=j+1:=by lia
 rw [e0];refine m7 (n:=j+1) (λt ys H4=>H4 acc=some (.lst ys)/\bY H3 H4/\∃ (ws:List (ai×ai×ai)) (as:Nat->List ai),ys=ws.map (λw=>V.ref w.1)/\ws.length=t/\(ws.map (·.2.2)).Nodup/\∀ (i:Nat) w,ws[i]?=some w->WA C H4 w.1 w.2.1 w.2.2 n (as i) (λi=>[(i:Int)])/\H3 w.2.2=none/\w.1≠acc/\w.2.2≠acc/\∀ b∈as i,b≠acc) (λZ=>∃ o,Z=[o,some (.int n)]) ⟨aK,bY.dm hacc,[],λ_=>[],rfl,rfl,xX,λi w hw=>nomatch hw⟩ ⟨_,rfl⟩ ?_ ?_ ?_ ?_
 .rintro t ys H4 ⟨h,_⟩;exact h
 .rintro ys H4 ⟨g4,S4,ws,as,rfl,hl,nd,hw⟩;refine ⟨aB _,?_⟩;lk;refine ⟨q,A.bo,dq,_,rfl,S4 _ _ g3,ct.lc,ct.l4,by show 3<1000;decide,?_⟩;rw [eL (by decide +kernel),eL (by decide +kernel),eL (by decide +kernel)]
  have naq:acc≠q:=λz=>by rw [z,g3] at hacc;cases hacc
  have hb:bJ q H4 (upd H4 q (.ins A.bo dq (("level_of",.ref d1)::("wooden",.ref d2)::("weight_of",.ref d3)::d0 "woods" (.ref acc) []))):=bJ.upd
  have nl:∀ {b:ai}{o:HO},H4 b=some o->(∀ x y z,o≠.ins x y z)->b≠q:=λ{b o} e hno z=>by rw [z,S4 _ _ g3] at e;cases e;exact hno _ _ _ rfl
  refine k ⟨q,dq,d1,d2,d3,acc,ws⟩ j as _ rfl rfl ⟨aK,hb _ _ (S4 _ _ f1) (Ne.symm nq1),hb _ _ (S4 _ _ f2) (Ne.symm nq2),hb _ _ (S4 _ _ e3) (Ne.symm nq3),hb _ _ g4 naq,hl,λi w hi=>?_,λ_ _=>Wd.start n,hn1,U2,YG,Y8,nd,λw hm=>?_⟩ hj (λb o e hne=>hb _ _ (S4 _ _ (B _ _ e hne)) hne) λb hb=>?_
  .obtain ⟨W,_⟩:=hw i w hi;refine W.out (λz=>?_) (nl W.rl (λ_ _ _ z=>nomatch z)) λa ha=>?_
   .have:=W.ob;rw [z,S4 _ _ g3] at this;cases this
   .obtain ⟨i,hi⟩:=bM.mp ha;exact nl (W.at_ i a hi) (λ_ _ _ z=>nomatch z)
  .obtain ⟨i,hi⟩:=bM.mp hm;exact Ne.symm (hw i w hi).2.2.2.1
  .simp only [fp,aj,bS] at hb
   rcases hb with rfl|rfl|rfl|rfl|⟨w,hm,rfl⟩
   .exact fr naq hacc
   .exact hd1
   .exact fr1 (Ne.symm nq2) hd2
   .exact fr2 (Ne.symm nq3) hd3
   .obtain ⟨i,hi⟩:=bM.mp hm;obtain ⟨W,h3,_⟩:=hw i w hi;exact fr (nl W.rl (λ_ _ _ z=>nomatch z)) h3
 .rintro t ys H4 ht _;exact ht
 .rintro t ys σ' H4 x H5 ht ⟨g4,S4,ws,as,rfl,hl,nd,hw⟩ ⟨o,rfl⟩ ⟨eH,ex⟩;subst eH ex;lk;refine kB ?_;refine uH ?_;lk;intro xw dxw hx hdx hne
  have T0:bY H5 (upd (upd H5 dxw (.own xw)) xw (.ins C dxw [])):=λb o e=>by rw [aI (aJ e hx),aI (aJ e hdx)];exact e
  refine ⟨xw,dxw,n,rfl,aK,ct.w,by lia,λl bs H6 W hl6 B6=>⟨rfl,?_⟩⟩;have T:bY H5 H6:=λb o e=>B6 _ _ (T0 _ _ e) (aJ e hx);have hl5:=T0.free hl6;have nxa:xw≠acc:=Ne.symm (aJ g4 hx);have nla:l≠acc:=Ne.symm (aJ g4 hl5)
  have naa:∀ a∈bs,a≠acc:=λa ha z=>by
   obtain ⟨i,hi⟩:=bM.mp ha;have h1:=W.at_ i a hi;rw [z,T _ _ g4] at h1;cases ws<;>cases h1
  have SA:bY H3 (upd H6 acc (.lst (ws.map (λw=>V.ref w.1)++[.ref xw]))):=λb o e=>by rw [aI (aJ e hacc)];exact T _ _ (S4 _ _ e)
  refine ⟨T _ _ g4,gG (m:=100) (by rw [ag];lia),lL.mk' ht ⟨_,rfl⟩ ⟨aK,SA,ws++[(xw,dxw,l)],(λi=>if i=t then bs else as i),by rw [bx];rfl,by rw [bD,hl];rfl,?_,λi w hi=>?_⟩⟩
  .rw [bx,kK];refine ⟨nd,by simp,λp hp q hq e=>?_⟩;obtain ⟨w,hm,rfl⟩:=bS.mp hp;obtain ⟨i,hi⟩:=bM.mp hm;have:=(hw i w hi).1.rl;rw [Cc,aA] at hq;rw [e.trans hq,hl5] at this;cases this
  .by_cases c:i=t
   .subst c;rw [← hl,eC (aB _),Nat.sub_self] at hi;cases hi;dsimp only;rw [if_pos rfl];exact ⟨W.out nxa nla naa,S4.free hl5,nxa,nla,naa⟩
   .have hi':i<t:=by
     have:=(aE.mp hi).1;rw [bD,hl] at this;simp at this;lia
    rw [gB (by lia)] at hi;dsimp only;rw [if_neg c];obtain ⟨W',m1,m2,m3,m4⟩:=hw i w hi;exact ⟨(W'.same T).out m2 m3 m4,m1,m2,m3,m4⟩
variable {X:EC}
theorem yO {ta tv:TE}{rd:V->V->Hp->VK->Prop}{f:aY}{D:vH}{Z:L2.St}(h:ta Z H λx H1=>∃ a C dx fs v,x=.ref a/\H1 a=some (.ins C dx fs)/\Dj K C/\dN K C f/\fs.lookup f=some v /\
 tv Z H1 λy H2=>rd v y H2 λz H3=>∃ dx' fs',H3 a=some (.ins C dx' fs')/\fs'.length<1000/\D.nx Z (upd H3 a (.ins C dx' (d0 f z fs')))):vd K ta tv rd f D Z H:=h
def fK (n:Nat) (q w:ai) (c1 c2 c3 c4:Int):List (aY×V):=d0 "lost" (.int c4) (d0 "risen" (.int c3) (d0 "looked" (.int c2) (d0 "came" (.int c1) (d0 "wood" (.ref w) (d0 "levels" (.ref q) (d0 "n" (.int n) []))))))
section
variable {q w:ai}{c1 c2 c3 c4 c:Int}
theorem X1 {f:aY}{v:V}:d0 f v []=[(f,v)]:=rfl
theorem nN:fK n q w c1 c2 c3 c4=([("n",.int n),("levels",.ref q),("wood",.ref w),("came",.int c1),("looked",.int c2),("risen",.int c3),("lost",.int c4)]:List (aY×V)):=by
 unfold fK
 repeat (first|rw [X1]|rw [eL (by decide +kernel)])
theorem fK1:(fK n q w c1 c2 c3 c4).lookup ("n":aY)=some (.int n):=by rw [nN];exact sY
theorem fK2:(fK n q w c1 c2 c3 c4).lookup ("levels":aY)=some (.ref q):=by rw [nN,fJ (by decide +kernel)];exact sY
theorem fK3:(fK n q w c1 c2 c3 c4).lookup ("wood":aY)=some (.ref w):=by rw [nN,fJ (by decide +kernel),fJ (by decide +kernel)];exact sY
theorem fK4:(fK n q w c1 c2 c3 c4).lookup ("came":aY)=some (.int c1):=by rw [nN,fJ (by decide +kernel),fJ (by decide +kernel),fJ (by decide +kernel)];exact sY
theorem fK5:(fK n q w c1 c2 c3 c4).lookup ("looked":aY)=some (.int c2):=by rw [nN,fJ (by decide +kernel),fJ (by decide +kernel),fJ (by decide +kernel),fJ (by decide +kernel)];exact sY
theorem fK6:(fK n q w c1 c2 c3 c4).lookup ("risen":aY)=some (.int c3):=by rw [nN,fJ (by decide +kernel),fJ (by decide +kernel),fJ (by decide +kernel),fJ (by decide +kernel),fJ (by decide +kernel)];exact sY
theorem fK7:(fK n q w c1 c2 c3 c4).lookup ("lost":aY)=some (.int c4):=by rw [nN,fJ (by decide +kernel),fJ (by decide +kernel),fJ (by decide +kernel),fJ (by decide +kernel),fJ (by decide +kernel),fJ (by decide +kernel)];exact sY
theorem xy {m:aY}(h1:¬ m="n":=by decide +kernel) (h2:¬ m="levels":=by decide +kernel) (h3:¬ m="wood":=by decide +kernel) (h4:¬ m="came":=by decide +kernel) (h5:¬ m="looked":=by decide +kernel) (h6:¬ m="risen":=by decide +kernel) (h7:¬ m="lost":=by decide +kernel):(fK n q w c1 c2 c3 c4).lookup m=none:=by rw [nN,fJ h1,fJ h2,fJ h3,fJ h4,fJ h5,fJ h6,fJ h7];rfl
theorem fKl:(fK n q w c1 c2 c3 c4).length<1000:=by rw [nN];show 7<1000;decide
theorem fKp4:d0 "came" (.int c) (fK n q w c1 c2 c3 c4)=fK n q w c c2 c3 c4:=by rw [nN,nN,eL (by decide +kernel),eL (by decide +kernel),eL (by decide +kernel),vo]
theorem fKp5:d0 "looked" (.int c) (fK n q w c1 c2 c3 c4)=fK n q w c1 c c3 c4:=by rw [nN,nN,eL (by decide +kernel),eL (by decide +kernel),eL (by decide +kernel),eL (by decide +kernel),vo]
theorem fKp6:d0 "risen" (.int c) (fK n q w c1 c2 c3 c4)=fK n q w c1 c2 c c4:=by rw [nN,nN,eL (by decide +kernel),eL (by decide +kernel),eL (by decide +kernel),eL (by decide +kernel),eL (by decide +kernel),vo]
theorem fKp7:d0 "lost" (.int c) (fK n q w c1 c2 c3 c4)=fK n q w c1 c2 c3 c:=by rw [nN,nN,eL (by decide +kernel),eL (by decide +kernel),eL (by decide +kernel),eL (by decide +kernel),eL (by decide +kernel),eL (by decide +kernel),vo]
end
theorem Top.lo (h:Top n T):2^(T+1)<=n\/T=0:=by
 rcases h.1 with z|z
 .exact .inr z
 .left
  have:((2^(T+1):Nat):Int)=2*(2:Int)^T:=by rw [VB,Mi,Int.natCast_pow];exact Int.mul_comm _ _
  lia
theorem Top.hi (h:Top n T):∀ j,2^(j+1)<=n->j<=T:=λj hj=>by
 have h2:=h.2
 by_cases c:j<=T
 .exact c
 .have h3:2^(T+2)<=2^(j+1):=zL (by decide) (by lia)
  have:((2^(T+2):Nat):Int)=4*(2:Int)^T:=by push_cast;rw [v5,v5];lia
  lia
theorem LV.inst {c d:ai}{fs:List (aY×V)}{o:HO}(h:LV C A H a n T ts as R) (hp:H p=some (.ins c d fs)) (h1:fs.lookup ("rows":aY)=none) (h2:fs.lookup ("woods":aY)=none):LV C A (upd H p o) a n T ts as R :=
 h.keep (X:=[p]) (Fm.upd ah) (λx f e _ hx hm=>by
  rw [aA.mp hm] at e hx
  rcases hx with z|⟨w,hw,z⟩
  .have:=h.ob;rw [← z,hp] at this;cases this;rw [fL4] at h2;cases h2
  .obtain ⟨i,_,hi⟩:=h.at hw;have:=(h.wa i w hi).ob;rw [← z,hp] at this;cases this
   rw [iI] at h1;cases h1) (λb hb hm=>h.outI hp (aA.mp hm▸hb)) (λhm=>by
   have:=h.ls
   rw [aA.mp hm,hp] at this;cases this) λb r _ e hm=>by rw [aA.mp hm,hp] at e;cases e
structure KP (C:ai) (A:CA) (H:Hp) (p dx:ai) (a:AL) (n T:Nat) (ts:List Ti) (as:Nat->List ai) (R:Nat->Nat->List Int) (c1 c2 c3 c4:Int):Prop where
 ob:∃ w:ai×ai×ai,a.ws[0]?=some w/\H p=some (.ins A.Keeper dx (fK n a.q w.1 c1 c2 c3 c4))
 lv:LV C A H a n T ts as R
 iv:Lv n T ts R
 jn:Jn ts R
 tp:Top n T
theorem KP.same {c1 c2 c3 c4:Int}(h:KP C A H p dx a n T ts as R c1 c2 c3 c4) (S:bY H H'):KP C A H' p dx a n T ts as R c1 c2 c3 c4:=by
 obtain ⟨w,hw,hp⟩:=h.ob;exact ⟨⟨w,hw,S _ _ hp⟩,h.lv.same S,h.iv,h.jn,h.tp⟩
structure KS (C:ai) (A:CA) (a:AL) (n T:Nat) (as:Nat->List ai) (p dx:ai) (H0:Hp) (m:Nat) (fs:List (aY×V)) (H:Hp):Prop where
 g:H p=some (.ins A.Keeper dx fs)
 lv:LV C A H a n T [] as (λ_ i=>[(i:Int)])
 r:fs.lookup ("rows":aY)=none
 w:fs.lookup ("woods":aY)=none
 len:fs.length<=m
 b:bJ p H0 H
theorem ES (f:aY) (v:V):∀ fs:List (aY×V),(d0 f v fs).length<=fs.length+1
 | []=>aB _
 | (g,x)::r=>by
  by_cases c:g=f
  .subst c;rw [vo];exact iF _
  .rw [eL c];exact jM (ES f v r)
theorem KS.put {H0:Hp}{m:Nat}{fs:List (aY×V)}(s:KS C A a n T as p dx H0 m fs H) (f:aY) (v:V) (h1:¬ ("rows":aY)=f:=by decide +kernel) (h2:¬ ("woods":aY)=f:=by decide +kernel):KS C A a n T as p dx H0 (m+1) (d0 f v fs) (upd H p (.ins A.Keeper dx (d0 f v fs))) :=
 ⟨aK,s.lv.inst s.g s.r s.w,by rw [fR,if_neg h1];exact s.r,by rw [fR,if_neg h2];exact s.w,a9 (ES f v fs) (jM s.len),s.b.trans bJ.upd⟩
inductive aW (K:aa) (C:ai) (A:CA) (vs:List V) (H:Hp) (Q:VK) (E:XK):Prop
 | mk (p dx:_) (n:Nat):vs=[.ref p,.int n]->H p=some (.ins A.Keeper dx [])->Ct K C A->1<=n->n<=200->(∀ (a:AL) (T:Nat) (as:Nat->List ai) (H':Hp),KP C A H' p dx a n T [] as (λ_ i=>[(i:Int)]) 0 0 0 0->bJ p H H'->(∀ b∈a.L::fp a,H b=none)->Q .non H')->aW K C A vs H Q E
theorem yP:Rn (aW K C A) (mU K C A (cc K C A) (eJ K C)) oY:=by
 rintro vs H Q E ⟨p,dx,n,rfl,hp,ct,hn1,hn2,k⟩;unfold mU;lk;refine ⟨n,rfl,hn1,hn2,?_⟩;refine ⟨_,rfl,?_⟩;rw [if_neg (by simp)];lk;refine lC ?_;lk;refine ⟨p,A.Keeper,dx,[],rfl,hp,ct.kc,ct.k1,by decide,?_⟩;have g1:(upd H p (.ins A.Keeper dx (d0 "n" (.int n) []))) p=some (.ins A.Keeper dx (d0 "n" (.int n) [])):=aK;have B1:bJ p H (upd H p (.ins A.Keeper dx (d0 "n" (.int n) []))):=bJ.upd;generalize upd H p (.ins A.Keeper dx (d0 "n" (.int n) []))=H1 at g1 B1;dsimp only;k_ne;refine lC (uH ?_);lk;intro q dq hq hdq hne
 have T0:bY H1 (upd (upd H1 dq (.own q)) q (.ins A.bo dq [])):=λb o e=>by rw [aI (aJ e hq),aI (aJ e hdq)];exact e
 refine ⟨q,dq,n,rfl,aK,ct,hn1,hn2,λa T as H2 ea ed L tp B2 fr=>⟨rfl,?_⟩⟩;subst ea ed;have T1:bY H1 H2:=λb o e=>B2 _ _ (T0 _ _ e) (aJ e hq);have g2:=T1 _ _ g1
 have s2:KS C A a n T as p dx H 1 (d0 "n" (.int n) []) H2:=⟨g2,L,by rw [fR,if_neg (by decide +kernel)];rfl,by rw [fR,if_neg (by decide +kernel)];rfl,ES _ _ _,λb o e hb=>T1 _ _ (B1 _ _ e hb)⟩
 have frH:∀ b∈a.L::fp a,H b=none:=λb hb=>by
  have:=fr b hb
  cases z:H b with
  | none=>rfl
  | some o =>
   by_cases c:b=p
   .have e:=T0 _ _ g1;rw [← c,this] at e;cases e
   .rw [T0 _ _ (B1 _ _ z c)] at this;cases this
 obtain ⟨w,hw,hwm⟩:=L.get (bC _);lk;refine ⟨p,A.Keeper,dx,_,rfl,s2.g,ct.kc,ct.k2,bw s2.len (by decide),?_⟩;have s3:=s2.put "levels" (.ref a.q);generalize upd H2 p (.ins A.Keeper dx (d0 "levels" (.ref a.q) (d0 "n" (.int n) [])))=H3 at s3;dsimp only;k_ne;refine lC ?_;lk;refine jC ?_;refine jC ?_;lk;refine ⟨p,A.Keeper,dx,_,_,rfl,s3.g,ct.kc,ct.k2,by rw [fR,if_pos rfl],?_⟩;refine ⟨a.q,A.bo,a.dq,_,_,rfl,s3.lv.ob,ct.lc,ct.l4,fL4,?_⟩;lk;refine gL (cW.of s3.lv.ls) (b8 (j:=0) rfl (by rw [aG,hw];rfl)) ?_;lk;refine ⟨p,A.Keeper,dx,_,rfl,s3.g,ct.kc,ct.k3,bw s3.len (by decide),?_⟩;have s4:=s3.put "wood" (.ref w.1);generalize e4:d0 ("wood":aY) (V.ref w.1) (d0 "levels" (.ref a.q) (d0 "n" (.int n) []))=f4 at s4;generalize upd H3 p (.ins A.Keeper dx f4)=H4 at s4;dsimp only;k_ne;refine lC ?_;lk;refine ⟨p,A.Keeper,dx,_,rfl,s4.g,ct.kc,ct.k4,bw s4.len (by decide),?_⟩;have s5:=s4.put "came" (.int 0);generalize e5:d0 ("came":aY) (V.int 0) f4=f5 at s5;generalize upd H4 p (.ins A.Keeper dx f5)=H5 at s5;dsimp only;k_ne;refine lC ?_;lk;refine ⟨p,A.Keeper,dx,_,rfl,s5.g,ct.kc,ct.k5,bw s5.len (by decide),?_⟩;have s6:=s5.put "looked" (.int 0);generalize e6:d0 ("looked":aY) (V.int 0) f5=f6 at s6;generalize upd H5 p (.ins A.Keeper dx f6)=H6 at s6;dsimp only;k_ne;refine lC ?_;lk;refine ⟨p,A.Keeper,dx,_,rfl,s6.g,ct.kc,ct.k6,bw s6.len (by decide),?_⟩;have s7:=s6.put "risen" (.int 0);generalize e7:d0 ("risen":aY) (V.int 0) f6=f7 at s7;generalize upd H6 p (.ins A.Keeper dx f7)=H7 at s7;dsimp only;refine lC ?_;lk;refine ⟨p,A.Keeper,dx,_,rfl,s7.g,ct.kc,ct.k7,bw s7.len (by decide),?_⟩;have s8:=s7.put "lost" (.int 0);subst e4 e5 e6 e7;exact k a T as _ ⟨⟨w,hw,s8.g⟩,s8.lv,Lv.start n T tp.lo,(λt ht=>nomatch ht),tp⟩ s8.b frH
variable {X:EC}
inductive dM (K:aa) (C:ai) (A:CA) (vs:List V) (H:Hp) (Q:VK) (E:XK):Prop
 | mk (p dx a:_) (n T:Nat) (ts as R:_) (c1 c2 c3 c4:Int) (t:_) (x y:Nat):vs=[.ref p,.ref t,.int 0]->Ct K C A->KP C A H p dx a n T ts as R c1 c2 c3 c4->n<=200->x<y->y<n->H t=some (.tup [.int x,.int y])->((x:Int),(y:Int))∉ts.map Ti.key->ts.length<99->(∀ b as' H',b=!decide ((y:Int)∈R 0 x)->KP C A H' p dx a n T (ts++[⟨x,y,0,b⟩]) as' (bif b then Gm R 0 x y else R) (c1+1) c2 c3 c4->Fm (p::fp a) H H'->Q (.bl b) H')->dM K C A vs H Q E
theorem Ay:Rn (dM K C A) (sW K C A (k8 K C A)) yt:=by
 rintro vs H Q E ⟨p,dx,a,n,T,ts,as,R,c1,c2,c3,c4,t,x,y,rfl,ct,h,hn,hxy,hy,ht,hk,hl,k⟩;obtain ⟨w,hw,hp⟩:=h.ob;unfold sW;lk;refine yO ?_;lk;refine ⟨p,A.Keeper,dx,_,_,rfl,hp,ct.kc,ct.k4,fK4,?_⟩;lk;refine ⟨c1,1,rfl,rfl,dx,_,hp,fKl,?_⟩;rw [fKp4];have L1:=h.lv.inst (o:=.ins A.Keeper dx (fK n a.q w.1 (c1+1) c2 c3 c4)) hp xy xy;have p1:(upd H p (.ins A.Keeper dx (fK n a.q w.1 (c1+1) c2 c3 c4))) p=_:=aK;have ht1:(upd H p (.ins A.Keeper dx (fK n a.q w.1 (c1+1) c2 c3 c4))) t=_:=(aI (jW ht hp)).trans ht;have F1:Fm (p::fp a) H (upd H p (.ins A.Keeper dx (fK n a.q w.1 (c1+1) c2 c3 c4))):=Fm.upd ah;generalize upd H p (.ins A.Keeper dx (fK n a.q w.1 (c1+1) c2 c3 c4))=H1 at L1 p1 ht1 F1;dsimp only;lk;refine fG ?_;refine jC ?_;lk;refine ⟨p,A.Keeper,dx,_,_,rfl,p1,ct.kc,ct.k2,fK2,?_⟩;refine ⟨a.q,a.dq,_,rfl,L1.ob,fL0,?_⟩;lk;refine ⟨a,n,T,ts,as,R,t,x,y,rfl,ct,L1,hn,by lia,hy,ht1,h.iv.nd,hk,hl,λb ts' as' R' H2 L2 hc F2=>?_⟩
 have hkk:(ts++[(⟨x,y,0,false⟩:Ti)]).map Ti.key=ts.map Ti.key++[((x:Int),(y:Int))]:=by rw [bx];rfl
 have V:=h.iv.put hxy hy hk;have hu:(⟨x,y,0,false⟩:Ti)∈ts++[⟨x,y,0,false⟩]:=a8 _ ah
 have ob:∃ w:ai×ai×ai,a.ws[0]?=some w/\H2 p=some (.ins A.Keeper dx (fK n a.q w.1 (c1+1) c2 c3 c4)):=⟨w,hw,F2 _ _ (L1.outI p1) p1⟩
 rcases hc with ⟨hj,rfl,rfl,rfl⟩|⟨hj,rfl,rfl,rfl⟩
 .refine k _ as' H2 (by rw [decide_eq_true hj];rfl) ⟨ob,L2,V,λu hu=>?_,h.tp⟩ (F1.trans F2.tail)
  rcases aT.mp hu with q|q
  .exact h.jn u q
  .rw [aA.mp q];exact hj
 .have hap:∀ i,i<=(⟨x,y,0,false⟩:Ti).cF->(((⟨x,y,0,false⟩:Ti).y:Nat):Int)∉R i (⟨x,y,0,false⟩:Ti).x:=λi hi=>by rw [Y2.mp hi];exact hj
  have W0:=h.iv.wd 0 (bC _)
  have V':=V.adopt hu rfl hap λi hi=>by
   have e:=Y2.mp hi;subst e
   have l:=((W0.lk (a:=x) (b:=y) (by lia) hy hj).len (i:=x) (by lia))
   rw [(W0.Jg (x:=x) (by lia) hy hj (.inl (W0.me x (by lia)))).2] at l
   show ((R 0 x).length+(R 0 y).length+2)*2^0<=2*n
   lia
  have es:gW (ts++[(⟨x,y,0,false⟩:Ti)]) ((x:Int),(y:Int)) Ti.vP=ts++[⟨x,y,0,true⟩]:=by
   unfold gW;rw [bx]
   congr 1
   .exact (eV λt ht=>if_neg λe=>hk (by rw [← e];exact bq ht)).trans (List.map_id _)
   .show [if ((x:Int),(y:Int))=((x:Int),(y:Int)) then _ else _]=_
    rw [if_pos rfl];rfl
  refine k _ as' H2 (by rw [decide_eq_false hj];rfl) ⟨ob,es▸L2,es▸V',λu hu'=>?_,h.tp⟩ (F1.trans F2.tail);rw [← es] at hu'
  rcases (lW (f:=Ti.vP) V.nd hu u).mp hu' with rfl|⟨q,_⟩
  .have e:Gm R 0 x y 0=lk (R 0) x y:=if_pos (aB _)
   show (y:Int)∈Gm R 0 x y 0 x
   rw [e];exact ((W0.Jg (x:=x) (by lia) hy hj (.inl (W0.me x (by lia)))).1 _).mpr (.inr (W0.me y hy))
  .rcases aT.mp q with q|q
   .obtain ⟨q1,q2,q3⟩:=h.iv.lt u q;exact V.OZ hu hap q3 (by lia) _ (h.jn u q)
   .rename_i hne
    exact absurd (by rw [aA.mp q]) hne
inductive gp (K:aa) (C:ai) (A:CA) (vs:List V) (H:Hp) (Q:VK) (E:XK):Prop
 | mk (p dx a:_) (n T:Nat) (ts as R:_) (c1 c2 c3 c4:Int) (x y:Nat):vs=[.ref p,.int x,.int y]->Ct K C A->KP C A H p dx a n T ts as R c1 c2 c3 c4->n<=200->x<n->y<n->x≠y->(((min x y:Nat):Int),((max x y:Nat):Int))∉ts.map Ti.key->ts.length<99->(∀ b as' H',b=!decide (((max x y:Nat):Int)∈R 0 (min x y))->KP C A H' p dx a n T (ts++[⟨min x y,max x y,0,b⟩]) as' (bif b then Gm R 0 (min x y) (max x y) else R) (c1+1) c2 c3 c4->Fm (p::fp a) H H'->Q (.bl b) H')->gp K C A vs H Q E
theorem ET:Rn (gp K C A) (wA K C A (dM K C A) (pE K C)) gg:=by
 rintro vs H Q E ⟨p,dx,a,n,T,ts,as,R,c1,c2,c3,c4,x,y,rfl,ct,h,hn,hx,hy,hxy,hk,hl,k⟩;obtain ⟨w,hw,hp⟩:=h.ob;unfold wA;k_in;refine ⟨p,dx,_,rfl,hp,xy,?_⟩;k_go;refine ⟨p,A.Keeper,dx,_,_,rfl,hp,ct.kc,ct.k1,fK1,?_⟩;lk;refine jC ?_;refine jC ?_;lk;refine ⟨p,A.Keeper,dx,_,_,rfl,hp,ct.kc,ct.k2,fK2,?_⟩;refine ⟨a.q,A.bo,a.dq,_,_,rfl,h.lv.ob,ct.lc,ct.l1,Td,?_⟩;lk;refine ⟨n,x,y,a.d1,kl ts,rfl,hx,hy,hxy,h.lv.e1,Kq hk,λt ht=>?_⟩;generalize eu_:upd _ t _=H1;obtain ⟨S1,g1⟩:=news eu_ ht;lk;exact ⟨p,dx,a,n,T,ts,as,R,c1,c2,c3,c4,t,min x y,max x y,rfl,ct,h.same S1,hn,by lia,by lia,g1,hk,hl,λb as' H' hb h' F'=>k b as' H' hb h' ((Fm.of S1).trans F')⟩
inductive iQ (K:aa) (C:ai) (A:CA) (Pt:ai) (vs:List V) (H:Hp) (Q:VK) (E:XK):Prop
 | mk (p dx a:_) (n T:Nat) (ts as R:_) (c1 c2 c3 c4:Int) (x y:Nat):vs=[.ref p,.int x,.int y]->Ct K C A->KP C A H p dx a n T ts as R c1 c2 c3 c4->n<=60->x<n->y<n->x≠y->(((min x y:Nat):Int),((max x y:Nat):Int))∈ts.map Ti.key->ts.length<64->nU Pt H->(∀ (q:ai) (us:List Tt) (u:Ti) as' H',u∈ts->u.key=(((min x y:Nat):Int),((max x y:Nat):Int))->H' q=some (.lst (us.map pF))->(∀ v∈us,xI H' v)->us.length<=11->us.map row=(oX u (ts,R)).1->KP C A H' p dx a n T (oX u (ts,R)).2.1 as' (oX u (ts,R)).2.2 c1 (c2+(Pd (us.map row)+fdF (us.map row):Nat)) (c3+(Pd (us.map row):Nat)) (c4+(T-u.cF))->(oX u (ts,R)).2.1.length<ts.length->nU Pt H'->Fm (p::Pt::fp a) H H'->Q (.ref q) H')->iQ K C A Pt vs H Q E
theorem Kv:Rn (iQ K C A Pt) (uA K C A (dv K C) (gh K C) (dJ K C A Pt) (jD K C) (fH K C) (cm K C A)) Nl:=by
 rintro vs H Q E ⟨p,dx,a,n,T,ts,as,R,c1,c2,c3,c4,x,y,rfl,ct,h,hn,hx,hy,hxy,hk,hl,hP,k⟩;obtain ⟨w,hw,hp⟩:=h.ob;obtain ⟨u,hu,eu⟩:=bS.mp hk;obtain ⟨eu1,eu2⟩:=c8 eu
 have eu1:u.x=min x y:=by lia
 have eu2:u.y=max x y:=by lia
 have nPp:p≠Pt:=hP.ne hp (λ_ z=>nomatch z);unfold uA;k_go;refine ⟨p,A.Keeper,dx,_,_,rfl,hp,ct.kc,ct.k1,fK1,?_⟩;lk;refine jC ?_;refine jC ?_;lk;refine ⟨p,A.Keeper,dx,_,_,rfl,hp,ct.kc,ct.k2,fK2,?_⟩;refine ⟨a.q,A.bo,a.dq,_,_,rfl,h.lv.ob,ct.lc,ct.l1,Td,?_⟩;lk;refine ⟨n,x,y,a.d1,kl ts,rfl,hx,hy,hxy,h.lv.e1,by rw [← eu1,← eu2,i0 h.iv.nd hu];rfl,λt ht=>?_⟩;rw [← eu1,← eu2];generalize eu_:upd _ t _=H1;obtain ⟨S1,g1⟩:=news eu_ ht;have L1:=h.lv.same S1;have p1:=S1 _ _ hp;lk;refine yO ?_;lk;refine ⟨p,A.Keeper,dx,_,_,rfl,p1,ct.kc,ct.k7,fK7,?_⟩;k_go;refine ⟨p,A.Keeper,dx,_,_,rfl,p1,ct.kc,ct.k1,fK1,?_⟩;lk;refine fG ?_;refine jC ?_;lk;refine ⟨p,A.Keeper,dx,_,_,rfl,p1,ct.kc,ct.k2,fK2,?_⟩;refine ⟨a.q,a.dq,_,rfl,L1.ob,fL0,?_⟩;lk;refine ⟨a.q,a.dq,a.d1,a.d2,a.d3,a.L,t,kl ts,kw ts,u.x,u.y,_,_,rfl,ct,L1.ob,.inl L1.e1,.inl L1.e2,g1,i0 (f:=λt=>V.int t.cF) h.iv.nd hu,i0 (f:=λt=>V.bl t.wd) h.iv.nd hu,λr hr=>?_⟩;generalize eu_:upd _ r _=H2;obtain ⟨S2,g2⟩:=news eu_ hr;lk;refine ⟨Bl,λl hl3=>?_⟩;generalize eu_:upd _ l _=H3;obtain ⟨S3,g3⟩:=news eu_ hl3;lk;refine ⟨n,T,l,[(u,r)],rfl,h.tp,g3,λv hv=>by rw [aA.mp hv];exact S3 _ _ g2,by simp,λH4 S4=>?_⟩
 have ec:([(u,r)].map λv:Ti×ai=>(T:Int)-v.1.cF).sum=(T:Int)-u.cF:=by simp
 rw [ec];generalize hc:(T:Int)-u.cF=c;have S14:bY H H4:=((S1.trans S2).trans S3).trans S4;have p4:=S14 _ _ hp;have L4:=h.lv.same S14;have t4:=S4 _ _ (S3 _ _ (S2 _ _ g1));refine ⟨c4,c,rfl,rfl,dx,_,p4,fKl,?_⟩;rw [fKp7];have L5:=L4.inst (o:=.ins A.Keeper dx (fK n a.q w.1 c1 c2 c3 (c4+c))) p4 xy xy;have p5:(upd H4 p (.ins A.Keeper dx (fK n a.q w.1 c1 c2 c3 (c4+c)))) p=_:=aK;have t5:(upd H4 p (.ins A.Keeper dx (fK n a.q w.1 c1 c2 c3 (c4+c)))) t=_:=(aI (jW t4 p4)).trans t4
 have P5:nU Pt (upd H4 p (.ins A.Keeper dx (fK n a.q w.1 c1 c2 c3 (c4+c)))):=(hP.same S14).keep λb o _ _ h3 _ e=>by rw [aI];exact e;rintro rfl;rw [p4] at e;cases e;exact h3 _ _ _ rfl
 have F5:Fm (p::Pt::fp a) H (upd H4 p (.ins A.Keeper dx (fK n a.q w.1 c1 c2 c3 (c4+c)))):=(Fm.of S14).trans (Fm.upd ah);generalize upd H4 p (.ins A.Keeper dx (fK n a.q w.1 c1 c2 c3 (c4+c)))=H5 at L5 p5 t5 P5 F5;dsimp only;lk;refine fG ?_;refine jC ?_;lk;refine ⟨p,A.Keeper,dx,_,_,rfl,p5,ct.kc,ct.k2,fK2,?_⟩;refine ⟨a.q,a.dq,_,rfl,L5.ob,fL0,?_⟩;lk;have hT8:=h.tp.small (by lia);refine ⟨a,n,T,ts,as,R,t,u,rfl,ct,L5,hn,by lia,h.tp.hi,h.iv,h.jn,hu,t5,hl,P5,λq us ts' as' R' H6 hq gq oks hlu L6 V6 J6 hk6 hg6 P6 F6=>?_⟩;have p6:=F6 _ _ (λz=>(aj.mp z).elim nPp (L5.outI p5)) p5;lk;refine yO ?_;lk;refine ⟨p,A.Keeper,dx,_,_,rfl,p6,ct.kc,ct.k5,fK5,?_⟩;lk;refine ⟨q,us,rfl,gq,oks,by lia,λH7 S7=>?_⟩;generalize hc':((Pd (us.map row)+fdF (us.map row):Nat):Int)=c';have p7:=S7 _ _ p6;refine ⟨c2,c',rfl,rfl,dx,_,p7,fKl,?_⟩;rw [fKp5];have L8:=(L6.same S7).inst (o:=.ins A.Keeper dx (fK n a.q w.1 c1 (c2+c') c3 (c4+c))) p7 xy xy;have p8:(upd H7 p (.ins A.Keeper dx (fK n a.q w.1 c1 (c2+c') c3 (c4+c)))) p=_:=aK
 have n8:∀ {b:ai}{o:HO},H7 b=some o->(∀ x y z,o≠.ins x y z)->(upd H7 p (.ins A.Keeper dx (fK n a.q w.1 c1 (c2+c') c3 (c4+c)))) b=some o:=λ{b o} e hno=>by rw [aI];exact e;rintro rfl;rw [p7] at e;cases e;exact hno _ _ _ rfl
 have F8:Fm (p::Pt::fp a) H (upd H7 p (.ins A.Keeper dx (fK n a.q w.1 c1 (c2+c') c3 (c4+c)))):=((F5.trans F6.tail).trans (Fm.of S7)).trans (Fm.upd ah);generalize upd H7 p (.ins A.Keeper dx (fK n a.q w.1 c1 (c2+c') c3 (c4+c)))=H8 at L8 p8 n8 F8;dsimp only;lk;refine yO ?_;lk;refine ⟨p,A.Keeper,dx,_,_,rfl,p8,ct.kc,ct.k6,fK6,?_⟩;lk;refine ⟨q,us,rfl,n8 (S7 _ _ gq) (λ_ _ _ z=>nomatch z),λv hv=>⟨n8 (S7 _ _ (oks v hv).h1) (λ_ _ _ z=>nomatch z),n8 (S7 _ _ (oks v hv).h2) (λ_ _ _ z=>nomatch z),n8 (S7 _ _ (oks v hv).h3) (λ_ _ _ z=>nomatch z),(oks v hv).h4.same λb xs e=>n8 (S7 _ _ e) (λ_ _ _ z=>nomatch z),(oks v hv).h5⟩,by lia,λH9 S9=>?_⟩;generalize hc'':((Pd (us.map row):Nat):Int)=c'';have p9:=S9 _ _ p8;refine ⟨c3,c'',rfl,rfl,dx,_,p9,fKl,?_⟩;rw [fKp6]
 have n9:∀ {b:ai}{o:HO},H8 b=some o->(∀ x y z,o≠.ins x y z)->(upd H9 p (.ins A.Keeper dx (fK n a.q w.1 c1 (c2+c') (c3+c'') (c4+c)))) b=some o:=λ{b o} e hno=>by rw [aI];exact S9 _ _ e;rintro rfl;rw [p8] at e;cases e;exact hno _ _ _ rfl
 dsimp only;lk;have n7:∀ {b:ai}{o:HO},H6 b=some o->(∀ x y z,o≠.ins x y z)->(upd H9 p (.ins A.Keeper dx (fK n a.q w.1 c1 (c2+c') (c3+c'') (c4+c)))) b=some o:=λe hno=>n9 (n8 (S7 _ _ e) hno) hno
 have g1':us.map row=(oX u (ts,R)).1:=by rw [← hg6]
 have g3':ts'=(oX u (ts,R)).2.1:=by rw [← hg6]
 have g4':R'=(oX u (ts,R)).2.2:=by rw [← hg6]
 subst g3' g4';refine k q us u as' _ hu eu (n7 gq (λ_ _ _ z=>nomatch z)) (λv hv=>⟨n7 (oks v hv).h1 (λ_ _ _ z=>nomatch z),n7 (oks v hv).h2 (λ_ _ _ z=>nomatch z),n7 (oks v hv).h3 (λ_ _ _ z=>nomatch z),(oks v hv).h4.same λb xs e=>n7 e (λ_ _ _ z=>nomatch z),(oks v hv).h5⟩) hlu g1' ⟨⟨w,hw,?_⟩,(L8.same S9).inst p9 xy xy,V6,J6,h.tp⟩ ?_ ?_ ((F8.trans (Fm.of S9)).trans (Fm.upd ah))
 .rw [hc,hc',hc''];exact aK
 .have e:=congrArg fA hk6;rw [ag,ag] at e;rw [e];exact List.length_filter_lt_length_iff_exists.mpr ⟨u,hu,by simp⟩
 .refine ((P6.same S7).keep λb o _ _ h3 _ e=>S9 _ _ (n8 e h3)).keep λb o _ _ h3 _ e=>?_;rw [aI];exact e;rintro rfl;rw [p9] at e;cases e;exact h3 _ _ _ rfl
section
variable {X:EC}
inductive cX (K:aa) (C:ai) (A:CA) (vs:List V) (H:Hp) (Q:VK) (E:XK):Prop
 | mk (p dx a:_) (n T:Nat) (ts as R:_) (c1 c2 c3 c4:Int) (x y:Nat):vs=[.ref p,.int x,.int y]->Ct K C A->KP C A H p dx a n T ts as R c1 c2 c3 c4->x<n->y<n->Q (.bl (decide ((y:Int)∈R 0 x))) H->cX K C A vs H Q E
theorem CB:Rn (cX K C A) (uB K C A (cE K C)) gg:=by
 rintro vs H Q E ⟨p,dx,a,n,T,ts,as,R,c1,c2,c3,c4,x,y,rfl,ct,h,hx,hy,k⟩;obtain ⟨w,hw,hp⟩:=h.ob;have W:=h.lv.wa 0 w hw;unfold uB;lk;refine fG ?_;refine jC ?_;lk;refine ⟨p,A.Keeper,dx,_,_,rfl,hp,ct.kc,ct.k3,fK3,?_⟩;refine ⟨w.1,w.2.1,_,rfl,W.ob,jZ _ _,?_⟩;lk;exact ⟨w.1,w.2.1,w.2.2,n,x,y,as 0,R 0,rfl,ct.w,W,h.iv.wd 0 (bC _),hx,hy,k⟩
inductive eI (K:aa) (C:ai) (A:CA) (vs:List V) (H:Hp) (Q:VK) (E:XK):Prop
 | mk (p dx a:_) (n T:Nat) (ts as R:_) (c1 c2 c3 c4:Int) (x y:Nat):vs=[.ref p,.int x,.int y]->Ct K C A->KP C A H p dx a n T ts as R c1 c2 c3 c4->n<=60->x<n->y<n->((y:Int)∉R 0 x->Q .non H)->((y:Int)∈R 0 x->∀ q H',bY H H'->H' q=some (.lst ((VD (R 0 x) x y).map V.int))->(VD (R 0 x) x y).length<=127->Q (.ref q) H')->eI K C A vs H Q E
theorem Kw:Rn (eI K C A) (BD K C A (nM K C)) gg:=by
 rintro vs H Q E ⟨p,dx,a,n,T,ts,as,R,c1,c2,c3,c4,x,y,rfl,ct,h,hn,hx,hy,k1,k2⟩;obtain ⟨w,hw,hp⟩:=h.ob;have W:=h.lv.wa 0 w hw;unfold BD;lk;refine fG ?_;refine jC ?_;lk;refine ⟨p,A.Keeper,dx,_,_,rfl,hp,ct.kc,ct.k3,fK3,?_⟩;refine ⟨w.1,w.2.1,_,rfl,W.ob,jZ _ _,?_⟩;lk;exact ⟨w.1,w.2.1,w.2.2,n,x,y,as 0,R 0,rfl,ct.w,W,h.iv.wd 0 (bC _),hn,hx,hy,k1,k2⟩
inductive dS (K:aa) (C:ai) (A:CA) (vs:List V) (H:Hp) (Q:VK) (E:XK):Prop
 | mk (p dx a:_) (n T:Nat) (ts as R:_) (c1 c2 c3 c4:Int) (x:Nat):vs=[.ref p,.int x]->Ct K C A->KP C A H p dx a n T ts as R c1 c2 c3 c4->n<=60->x<n->(∀ q,H q=none->(SR (R 0 x)).length<=127->(∀ z∈SR (R 0 x),z∈R 0 x)->SR (R 0 x)≠[]->Q (.ref q) (upd H q (.lst ((SR (R 0 x)).map V.int))))->dS K C A vs H Q E
theorem GS:Rn (dS K C A) (yM K C A (eT K C)) oh:=by
 rintro vs H Q E ⟨p,dx,a,n,T,ts,as,R,c1,c2,c3,c4,x,rfl,ct,h,hn,hx,k⟩;obtain ⟨w,hw,hp⟩:=h.ob;have W:=h.lv.wa 0 w hw;have D:=h.iv.wd 0 (bC _);have hlen:=D.len hx;unfold yM;lk;refine fG ?_;refine jC ?_;lk;refine ⟨p,A.Keeper,dx,_,_,rfl,hp,ct.kc,ct.k3,fK3,?_⟩;refine ⟨w.1,w.2.1,_,rfl,W.ob,jZ _ _,?_⟩;lk;refine ⟨w.1,w.2.1,w.2.2,n,x,as 0,R 0,rfl,ct.w,W,D,by lia,hx,λq ks hq h1 h2=>?_⟩;have e:=Ql h1 h2;rw [e] at h1 h2 ⊢;refine k q hq ?_ (λz hz=>(h2 z).mp hz) λz=>?_
 .have:=Eb (l:=SR (R 0 x)) (m:=R 0 x) (h1.imp λh e=>by lia) λz hz=>(h2 z).mp hz;lia
 .have:=(h2 x).mpr (D.me x hx);rw [z] at this;cases this
def eX (K:aa) (C:ai) (A:CA) (X:EC):Sp:=λvs H _ E=>∃ (p dx:ai) (a:AL) (n T:Nat) (ts:List Ti) (as:Nat->List ai) (R:Nat->Nat->List Int) (c1 c2 c3 c4:Int) (x y:Nat),vs=[.ref p,.int x,.int y]/\Ct K C A/\KP C A H p dx a n T ts as R c1 c2 c3 c4/\x<n/\y<n/\x≠y/\(((min x y:Nat):Int),((max x y:Nat):Int))∈ts.map Ti.key/\∀ H',bY H H'->E (.ref X.vO) none H'
theorem Az {s1:Sp}:Rx (eX K C A X) (λE=>ll K C A E s1 (iR K C X)) gg:=by
 rintro vs H Q E ⟨p,dx,a,n,T,ts,as,R,c1,c2,c3,c4,x,y,rfl,ct,h,hx,hy,hxy,hk,k⟩;obtain ⟨w,hw,hp⟩:=h.ob;obtain ⟨u,hu,eu⟩:=bS.mp hk;obtain ⟨eu1,eu2⟩:=c8 eu
 have eu1:u.x=min x y:=by lia
 have eu2:u.y=max x y:=by lia
 unfold ll;k_in;refine ⟨p,dx,_,rfl,hp,xy,?_⟩;k_go;refine ⟨p,A.Keeper,dx,_,_,rfl,hp,ct.kc,ct.k1,fK1,?_⟩;lk;refine jC ?_;refine jC ?_;lk;refine ⟨p,A.Keeper,dx,_,_,rfl,hp,ct.kc,ct.k2,fK2,?_⟩;refine ⟨a.q,A.bo,a.dq,_,_,rfl,h.lv.ob,ct.lc,ct.l1,Td,?_⟩;lk;exact ⟨n,x,y,a.d1,kl ts,rfl,hx,hy,hxy,h.lv.e1,by rw [← eu1,← eu2,i0 h.iv.nd hu];rfl,k⟩
def gv (K:aa) (C:ai) (A:CA) (X:EC):Sp:=λvs H _ E=>∃ (p dx:ai) (a:AL) (n T:Nat) (ts:List Ti) (as:Nat->List ai) (R:Nat->Nat->List Int) (c1 c2 c3 c4:Int) (x y:Nat),vs=[.ref p,.int x,.int y]/\Ct K C A/\KP C A H p dx a n T ts as R c1 c2 c3 c4/\x<n/\y<n/\x≠y/\(((min x y:Nat):Int),((max x y:Nat):Int))∉ts.map Ti.key/\∀ H',bY H H'->E (.ref X.pP) none H'
theorem EU:Rx (gv K C A X) (λE=>m9 K C A E (eK K C X)) Nl:=by
 rintro vs H Q E ⟨p,dx,a,n,T,ts,as,R,c1,c2,c3,c4,x,y,rfl,ct,h,hx,hy,hxy,hk,k⟩;obtain ⟨w,hw,hp⟩:=h.ob;unfold m9;k_go;refine ⟨p,A.Keeper,dx,_,_,rfl,hp,ct.kc,ct.k1,fK1,?_⟩;lk;refine jC ?_;refine jC ?_;lk;refine ⟨p,A.Keeper,dx,_,_,rfl,hp,ct.kc,ct.k2,fK2,?_⟩;refine ⟨a.q,A.bo,a.dq,_,_,rfl,h.lv.ob,ct.lc,ct.l1,Td,?_⟩;lk;exact ⟨n,x,y,a.d1,kl ts,rfl,hx,hy,hxy,h.lv.e1,Kq hk,k⟩
end
variable {X:EC}
theorem X2 {α β:Type} {f:α->β}{m l:List β}(h:m.Perm l):∀ us:List α,m=us.map f->∃ us':List α,us'.Perm us/\l=us'.map f:=by
 induction h with
 | nil=>exact λus e=>⟨us,.refl _,e⟩
 | cons x _ ih =>
  intro us e
  match us,e with
  | u::us,e =>
   obtain ⟨e1,e2⟩:=fE e;obtain ⟨us',h1,h2⟩:=ih us e2
   exact ⟨u::us',h1.cons u,by rw [e1,h2];rfl⟩
 | swap x y l =>
  intro us e
  match us,e with
  | u::v::us,e =>
   obtain ⟨e1,e2⟩:=fE e;obtain ⟨e2,e3⟩:=fE e2
   exact ⟨v::u::us,.swap _ _ _,by rw [e1,e2,e3];rfl⟩
 | trans _ _ ih1 ih2 =>
  intro us e;obtain ⟨us1,h1,e1⟩:=ih1 us e;obtain ⟨us2,h2,e2⟩:=ih2 us1 e1;exact ⟨us2,h2.trans h1,e2⟩
inductive qI (K:aa) (C:ai) (A:CA) (vs:List V) (H:Hp) (Q:VK) (E:XK):Prop
 | mk (p dx a:_) (n T:Nat) (ts as R:_) (c1 c2 c3 c4:Int):vs=[.ref p]->Ct K C A->KP C A H p dx a n T ts as R c1 c2 c3 c4->ts.length<64->(∀ (q:ai) (us:List (Ti×ai)) (o:iW) (H':Hp),H q=none->H' q=some (.lst (us.map Cs))->(∀ u∈us,BF H' u)->(us.map (·.1)).Perm ts->us.map (λu=>r4 u.1)=tiF ts->H' a.d1=some (.frz o (.dT (kl ts)))->bJ a.d1 H H'->Q (.ref q) H')->qI K C A vs H Q E
inductive cw (K:aa) (C:ai) (A:CA) (vs:List V) (H:Hp) (Q:VK) (E:XK):Prop
 | mk (p dx a:_) (n T:Nat) (ts as R:_) (c1 c2 c3 c4:Int):vs=[.ref p]->Ct K C A->KP C A H p dx a n T ts as R c1 c2 c3 c4->ts.length<64->(∀ (q:ai) (us:List (Ti×ai)) (H':Hp),H q=none->H' q=some (.lst (us.map Cs))->(∀ u∈us,BF H' u)->(us.map (·.1)).Perm ts->us.map (λu=>r4 u.1)=tiF ts->bY H H'->Q (.ref q) H')->cw K C A vs H Q E
theorem EV:∀ vs H Q E,cw K C A vs H Q E->qI K C A vs H (Z2 H Q) E:=by
 rintro vs H Q E ⟨p,dx,a,n,T,ts,as,R,c1,c2,c3,c4,rfl,ct,h,hl,k⟩;refine ⟨p,dx,a,n,T,ts,as,R,c1,c2,c3,c4,rfl,ct,h,hl,λq us o H' hq gq fl pm ht gd B=>.inr ⟨a.d1,o,kl ts,(λo' u' e=>by rw [h.lv.e1] at e;cases e),gd,?_⟩⟩;have hqd:q≠a.d1:=Ne.symm (aJ h.lv.e1 hq);refine k q us _ hq (by rw [aI hqd];exact gq) (λu hu=>(aI (jW (fl u hu) gd)).trans (fl u hu)) pm ht λb ob e=>?_
 by_cases hb:b=a.d1
 .subst hb;rw [aK,← h.lv.e1,e]
 .rw [aI hb];exact B _ _ e hb
theorem EW:Rn (qI K C A) (se K C A (cm K C A)) kM:=by
 rintro vs H Q E ⟨p,dx,a,n,T,ts,as,R,c1,c2,c3,c4,rfl,ct,h,hl,k⟩;obtain ⟨w,hw,hp⟩:=h.ob;have hnd:=h.iv.nd;unfold se;lk;refine abo ?_;refine jC ?_;refine jC ?_;lk;refine ⟨p,A.Keeper,dx,_,_,rfl,hp,ct.kc,ct.k2,fK2,?_⟩;refine ⟨a.q,A.bo,a.dq,_,_,rfl,h.lv.ob,ct.lc,ct.l1,Td,?_⟩;refine ⟨a.d1,kl ts,rfl,.inl ⟨h.lv.e1,λo=>?_⟩⟩;have g1:(upd H a.d1 (.frz o (.dT (kl ts)))) a.d1=some (.frz o (.dT (kl ts))):=aK;have B1:bJ a.d1 H (upd H a.d1 (.frz o (.dT (kl ts)))):=bJ.upd;generalize upd H a.d1 (.frz o (.dT (kl ts)))=H1 at g1 B1;have p1:=B1 _ _ hp (jW hp h.lv.e1);have q1:=B1 _ _ h.lv.ob (jW h.lv.ob h.lv.e1);have w1:=B1 _ _ h.lv.e2 (Ne.symm h.lv.U2);intro acc hacc;refine m7 (n:=ts.length) (λt ys H4=>H4 acc=some (.lst ys)/\bY H1 H4/\∃ us:List (Ti×ai),ys=us.map Cs/\us.map (·.1)=ts.take t/\∀ u∈us,BF H4 u) (λZ=>∃ o,Z=[o,some (.ref p)]) ⟨aK,bY.dm hacc,[],rfl,rfl,λz hz=>nomatch hz⟩ ⟨_,rfl⟩ ?_ ?_ ?_ ?_
 .rintro t ys H4 ⟨e,_⟩;exact e
 .rintro ys H4 ⟨g4,S4,us,rfl,hu,fl⟩;refine ⟨⟨by rw [sf];exact aB _,S4 _ _ g1⟩,?_⟩;rw [bV (aB _)] at hu
  have hul:us.length=ts.length:=by have:=congrArg fA hu;simpa using this
  lk;refine ⟨acc,us.map (λu=>([(u.1.x:Int),(u.1.y:Int),(u.1.cF:Int),b2i u.1.wd],u.2)),[false,false,true],rfl,by rw [bO];exact cW.of g4,λz hz=>?_,by rw [ag];lia,λl zs' hl4 hperm hsr=>?_⟩
  .obtain ⟨u,hum,rfl⟩:=bS.mp hz;exact ⟨_,fl u hum,.int _ (.int _ (.int _ (.bl _ .nil)))⟩
  obtain ⟨us',hp',rfl⟩:=X2 hperm.symm us rfl
  have hlf:H l=none:=by
   cases z:H l with
   | none=>rfl
   | some ob =>
    by_cases hb:l=a.d1
    .rw [hb,S4 _ _ g1] at hl4;cases hl4
    .rw [S4 _ _ (B1 _ _ z hb)] at hl4;cases hl4
  have U:∀ {b:ai}{u:HO}{xs:List V},H4 b=some u->(upd H4 l (.lst xs)) b=some u:=λe=>by rw [aI (aJ e hl4)];exact e
  refine k l us' o _ hlf (by rw [aK,bO];rfl) (λu hum=>U (fl u (hp'.mem_iff.mp hum))) (by rw [← hu];exact hp'.map _) ?_ (U (S4 _ _ g1)) λb ob e hb=>U (S4 _ _ (B1 _ _ e hb));unfold tiF;rw [← hu];refine JY (by rw [bO];exact hp'.map _) ?_;have:=sP.mp hsr;refine sP.mpr (this.imp λ{u v} h=>?_)
  have eb:∀ u:Ti×ai,r4 u.1=[(u.1.x:Int),(u.1.y:Int),(u.1.cF:Int),b2i u.1.wd]:=λu=>by
   unfold r4;cases u.1.wd<;>rfl
  rw [eb,eb];exact h
 .rintro t ys H4 ht ⟨_,S4,_⟩;exact ⟨by rw [sf];exact ht,S4 _ _ g1⟩
 .rintro t ys σ' H4 x H5 ht ⟨g4,S4,us,rfl,hu,fl⟩ ⟨o',rfl⟩ ⟨eH,key,v,b,hk,ex,hb⟩;subst eH ex
  obtain ⟨u,hu',eu⟩:∃ u,ts[t]?=some u/\(pk u.x u.y,V.int u.cF)=(key,v):=by
   have hk:(ts.map λt=>(pk t.x t.y,V.int t.cF))[t]?=some (key,v):=hk;rw [aG] at hk;exact fT.mp hk
  cases eu;have hum:=aS hu';lk;refine kB ?_;refine fG ?_;refine jC ?_;lk;refine ⟨p,A.Keeper,dx,_,_,rfl,S4 _ _ p1,ct.kc,ct.k2,fK2,?_⟩;refine ⟨a.q,a.dq,_,rfl,S4 _ _ q1,fL0,?_⟩;lk;refine ⟨a.q,a.dq,a.d1,a.d2,a.d3,a.L,b,kl ts,kw ts,u.x,u.y,_,_,rfl,ct,S4 _ _ q1,.inr ⟨o,S4 _ _ g1⟩,.inl (S4 _ _ w1),hb,i0 (f:=λt=>V.int t.cF) hnd hum,i0 (f:=λt=>V.bl t.wd) hnd hum,λr hr=>?_⟩;generalize eu_:upd _ r _=H6;obtain ⟨T,gr⟩:=news eu_ hr
  have hul:us.length=t:=by
   have:=congrArg fA hu;rw [ag,bK] at this;lia
  refine ⟨T _ _ g4,gG (m:=100) (by rw [ag];lia),lL.mk' ht ⟨_,rfl⟩ ⟨aK,λb' ob e=>by rw [aI (aJ e hacc)];exact T _ _ (S4 _ _ e),us++[(u,r)],by simp [Cs],?_,λz hz'=>?_⟩⟩
  .rw [bx,hu,f9,hu'];rfl
  .have tn:∀ {z:Ti×ai},BF H6 z->BF (upd H6 acc (.lst (us.map Cs++[.ref r]))) z:=λ{z} e=>(aI (jW e (T _ _ g4))).trans e
   rcases aT.mp hz' with hz'|hz'
   .exact tn (T _ _ (fl z hz'))
   .rw [aA.mp hz'];exact tn gr
theorem aap {T:Int}{ts':List Ti}(p:ts.Perm ts'):(ts.map λt=>T-(t.cF:Int)).sum=(ts'.map λt=>T-(t.cF:Int)).sum:=by
 induction p with
 | nil=>rfl
 | cons t _ ih=>rw [bu,bu,fX,fX,ih]
 | swap t u _=>simp only [bu,fX];lia
 | trans _ _ h1 h2=>exact h1.trans h2
inductive cN (K:aa) (C:ai) (A:CA) (vs:List V) (H:Hp) (Q:VK) (E:XK):Prop
 | mk (p dx a:_) (n T:Nat) (ts as R:_) (c1 c2 c3 c4:Int):vs=[.ref p]->Ct K C A->KP C A H p dx a n T ts as R c1 c2 c3 c4->ts.length<64->(∀ t H',bY H H'->H' t=some (.tup [.int c1,.int c2,.int c3,.int c4,.int (ts.map λt=>(T:Int)-t.cF).sum])->Q (.ref t) H')->cN K C A vs H Q E
theorem AA:Rn (cN K C A) (sX K C A (gh K C) (cw K C A)) kM:=by
 rintro vs H Q E ⟨p,dx,a,n,T,ts,as,R,c1,c2,c3,c4,rfl,ct,h,hl,k⟩;obtain ⟨w,hw,hp⟩:=h.ob;unfold sX;k_go;refine ⟨p,A.Keeper,dx,_,_,rfl,hp,ct.kc,ct.k4,fK4,?_⟩;k_go;refine ⟨p,A.Keeper,dx,_,_,rfl,hp,ct.kc,ct.k5,fK5,?_⟩;k_go;refine ⟨p,A.Keeper,dx,_,_,rfl,hp,ct.kc,ct.k6,fK6,?_⟩;k_go;refine ⟨p,A.Keeper,dx,_,_,rfl,hp,ct.kc,ct.k7,fK7,?_⟩;k_go;refine ⟨p,A.Keeper,dx,_,_,rfl,hp,ct.kc,ct.k1,fK1,?_⟩;k_in;refine ⟨p,dx,_,rfl,hp,xy,?_⟩;lk;refine ⟨p,dx,a,n,T,ts,as,R,c1,c2,c3,c4,rfl,ct,h,hl,λq us H1 hq gq fl pm _ S1=>?_⟩
 have hul:us.length=ts.length:=by have:=pm.length_eq;rwa [ag] at this
 lk;refine ⟨n,T,q,us,rfl,h.tp,gq,fl,by lia,λH2 S2=>?_⟩
 have ec:(us.map λu=>(T:Int)-(u.1.cF:Int)).sum=(ts.map λt=>(T:Int)-t.cF).sum:=by rw [← aap pm,bO];rfl
 rw [ec];lk;exact ⟨Bl,λt ht=>k t _ ((S1.trans S2).trans (bY.dm ht)) aK⟩
open Rs Rn Rd
variable {X:EC}
theorem EX {i j:aY}(h:Q (.bl (decide (V.str i=V.str j))) H):gY K (.str i) (.str j) H Q:=.inl ⟨rfl,h⟩
theorem BG {i j:aY}(h:Q (.bl (!decide (V.str i=V.str j))) H):yf K (.str i) (.str j) H Q:=.inl ⟨rfl,h⟩
theorem aaq {tl:TE}{Z:L2.St}{R:It->Hp->Prop}(h:tl Z H λx H1=>∃ a:aY,x=.str a/\a.cps.all (·<128)=true/\R (Its a) H1):W6 tl Z H R:=h
abbrev sS (w:aY):List Nat:=w.cps.toList
def As (w:aY):Prop:=∀ c∈sS w,c<128
theorem As.all {w:aY}(h:As w):w.cps.all (·<128)=true:=by
 rw [← aa3,om];exact λc hc=>decide_eq_true (h c hc)
theorem qJ (w:aY):(sS w).length=w.length:=by simp [Pa]
theorem figs:(av "0123456789").cps.toList=[48,49,50,51,52,53,54,55,56,57]:=by decide
def dg (c:Nat):Bool:=decide (48<=c/\c<=57)
theorem adk (c:Nat):decide (c∈(av "0123456789").cps.toList)=dg c:=by
 rw [figs];unfold dg;refine decide_eq_decide.mpr ?_;simp only [aj,cj,or_false];omega
theorem QO {m:Nat}(h:m<=100000):m<=aZ:=eS (m:=100000) h
theorem AB {w:aY}{s:String}{l:List Nat}(hs:(av s).cps.toList=l):(V.str w=V.str (av s))↔sS w=l:=by
 constructor
 .intro e;rw [V.str.inj e];exact hs
 .intro e;rw [Rs.ext (a:=w) (b:=av s) (e.trans hs.symm)]
section
variable {X:EC}
inductive fI (K:aa) (C:ai) (vs:List V) (H:Hp) (Q:VK) (E:XK):Prop
 | mk (w:aY):vs=[.str w]->As w->w.length<=1000->(∀ H',bY H H'->Q (.bl (SU (sS w))) H')->fI K C vs H Q E
theorem CC:Rn (fI K C) (pj K C) ["word","figures"]:=by
 rintro vs H Q E ⟨w,rfl,ha,hl,k⟩;have hsz:w.cps.size=w.length:=rfl;unfold pj;lk;refine aaq ?_;lk;refine ⟨ha.all,λacc hacc=>?_⟩;refine m7 (n:=w.cps.size) (λt ys H'=>∃ cs:List Nat,ys=cs.map (λc=>V.str ⟨#[c]⟩)/\cs=((sS w).take t).filter dg/\H' acc=some (.lst ys)/\bY H H') (λZ=>∃ o,Z=[o]) ⟨[],rfl,by simp,aK,bY.dm hacc⟩ ⟨_,rfl⟩ ?_ ?_ ?_ ?_
 .rintro t ys H' ⟨_,_,_,h,_⟩;exact h
 .rintro ys H1 ⟨cs,rfl,ec,g1,S1⟩;refine ⟨aB _,?_⟩;rw [show w.cps.size=(sS w).length from by simp,Gu] at ec
  have kq:∀ {b:Bool},b=SU (sS w)->Q (.bl b) H1:=λe=>by rw [e];exact k H1 S1
  have no:∀ {P:Prop},(SU (sS w)=true->P)->¬ P->SU (sS w)=false:=λh1 h2=>by
   cases e:SU (sS w) with
   | false=>rfl
   | true=>exact absurd (h1 e) h2
  lk;refine ⟨w,rfl,QO (by lia),?_⟩;lk;refine nY (λh1=>?_) λh1=>?_;rotate_left
  .refine ⟨_,rfl,je (kq (no (λz=>(xb z).1) ?_).symm)⟩;rw [qJ];lia
  lk;refine nY (λh2=>?_) λh2=>?_;rotate_left
  .refine kq (no (λz=>(xb z).2.1) ?_).symm;rw [qJ];lia
  lk;refine .inl ⟨acc,_,rfl,.inl (cW.of g1),?_⟩;lk;refine ⟨w,rfl,QO (by lia),?_⟩;lk;refine nY (λh3=>?_) λh3=>?_;rotate_left
  .refine kq (no (λz=>(xb z).2.2.1) λz=>h3 (e9.mpr ?_)).symm;rw [ag,ec,il (p:=dg) |>.mpr λc hc=>decide_eq_true (z c hc),qJ]
  have h3:=e9.mp h3;rw [ag,ec] at h3;have hall:NumText.AllDigits (sS w):=λc hc=>of_decide_eq_true ((List.length_filter_eq_length_iff (p:=dg)).mp (by rw [qJ];lia) c hc);lk;refine EX ⟨_,rfl,?_⟩;refine nY (λh4=>?_) λh4=>?_
  .exact kq (Qq (by rw [qJ];lia) (by rw [qJ];lia) hall (.inl ((AB (by decide)).mp h4))).symm
  have h4:sS w≠[48]:=λz=>h4 ((AB (by decide)).mpr z)
  cases ew:sS w with
  | nil=>have:=qJ w;rw [ew] at this;simp at this;lia
  | cons c r =>
   lk;refine ⟨w,0,c,rfl,rfl,by decide,by decide,by lia,by rw [← cn];show (sS w)[0]?=_;rw [ew];rfl,?_⟩;lk;refine BG ?_;have e0:(V.str ⟨#[c]⟩=V.str (av "0"))↔c=48:=(AB (w:=⟨#[c]⟩) (l:=[48]) (by decide)).trans ⟨λz=>(fE z).1,λz=>by rw [z]⟩;refine kq ?_;rw [decide_eq_decide.mpr e0]
   by_cases hc:c=48
   .rw [decide_eq_true hc];refine (no (λz=>(xb z).2.2.2) λz=>?_).symm
    rcases z with z|z
    .exact h4 z
    .exact z (by rw [ew,hc];rfl)
   .rw [decide_eq_false hc];exact (Qq (by rw [qJ];lia) (by rw [qJ];lia) hall (.inr (by rw [ew];simpa using hc))).symm
 .rintro t ys H1 ht ⟨cs,_⟩;exact ht
 .rintro t ys σ' H1 x H2 ht ⟨cs,rfl,ec,g1,S1⟩ ⟨o,rfl⟩ ⟨rfl,c,hc,rfl⟩
  have et:((sS w).take (t+1)).filter dg=cs++(if dg c=true then [c] else []):=by
   have hc':(sS w)[t]?=some c:=by simpa using hc
   rw [f9,hc',fu,← ec]
   by_cases q:dg c=true<;>simp [q]
  have hcl:cs.length<=1000:=by
   rw [ec];refine a9 (dX _ _) ?_;rw [bK,qJ];lia
  lk;refine ⟨_,_,rfl,rfl,?_⟩;rw [StrLaws.found_one,adk];refine ⟨_,rfl,?_⟩
  cases q:dg c with
  | true =>
   refine kB ?_;lk
   refine ⟨g1,gG (m:=100000) (by rw [ag];lia),lL.mk' ht ⟨_,rfl⟩ ⟨cs++[c],by simp,by rw [et,q];rfl,aK,λb o e=>by rw [aI (aJ e hacc)];exact S1 _ _ e⟩⟩
  | false=>exact je (lL.mk' ht ⟨_,rfl⟩ ⟨cs,rfl,by rw [et,q];simp,g1,S1⟩)
end
theorem Te:av " "=⟨#[32]⟩:=Rs.ext (by decide)
section
variable {X:EC}
inductive iN (K:aa) (C:ai) (vs:List V) (H:Hp) (Q:VK) (E:XK):Prop
 | mk (w:aY):vs=[.str w]->As w->w.length<=1000->(∀ H',bY H H'->Q (.bl (Y6 (sS w))) H')->iN K C vs H Q E
theorem GT:Rn (iN K C) (rY K C (fI K C)) kd:=by
 rintro vs H Q E ⟨w,rfl,ha,hl,k⟩;have et:=aai w;have ed:=aaj w;unfold rY;lk;refine ⟨w,rfl,ha,hl,λH1 S1=>⟨_,rfl,?_⟩⟩;have k0:=k;have k:=k H1 S1;unfold Y6 at k
 cases hu:SU (sS w) with
 | true=>rw [hu] at k;exact kB k
 | false =>
  rw [hu,tu] at k;refine je ?_;lk;refine ⟨w,rfl,QO (by lia),?_⟩;lk;refine EX ⟨_,rfl,?_⟩;have e1:(V.str (Txt.slice w none (some 1))=V.str (av "-"))↔(sS w).take 1=[45]:=(AB (l:=[45]) (by decide)).trans (by rw [show sS (Txt.slice w none (some 1))=_ from et]);refine nY (λh1=>?_) λh1=>?_;rotate_left
  .rw [show ((sS w).take 1 == [45])=false from beq_eq_false_iff_ne.mpr λz=>h1 (e1.mpr z),nA,nA] at k;exact k
  rw [show ((sS w).take 1 == [45])=true from beq_iff_eq.mpr (e1.mp h1),tF] at k;lk;refine BG ⟨_,rfl,?_⟩;have e2:(V.str w=V.str (av "-0"))↔sS w=[45,48]:=AB (by decide)
  by_cases h2:sS w=[45,48]
  .rw [decide_eq_true (e2.mpr h2)];rw [show (sS w != [45,48])=false from by rw [h2];rfl,nA] at k;exact je k
  .rw [decide_eq_false λz=>h2 (e2.mp z)];rw [show (sS w != [45,48])=true from bne_iff_ne.mpr h2,tF] at k;refine kB ?_;lk;refine ⟨w,rfl,QO (by lia),?_⟩;lk;refine ⟨_,rfl,λc hc=>ha c ?_,a9 (Txt.slice_le w _ _) hl,λH2 S2=>?_⟩
   .rw [show sS (Txt.slice w (some 1) none)=_ from ed] at hc;exact oQ hc
   .rw [show sS (Txt.slice w (some 1) none)=_ from ed];have k:=k0 H2 (S1.trans S2);unfold Y6 at k;rw [hu,tu,show ((sS w).take 1 == [45])=true from beq_iff_eq.mpr (e1.mp h1),tF,show (sS w != [45,48])=true from bne_iff_ne.mpr h2,tF] at k;exact k
inductive dj (K:aa) (C:ai) (vs:List V) (H:Hp) (Q:VK) (E:XK):Prop
 | mk (w:aY):vs=[.str w]->As w->w.length<=1000->Y6 (sS w)=true->(∀ H',bY H H'->Q (.int (Nh (sS w))) H')->dj K C vs H Q E
theorem GU:Rn (dj K C) (rZ K C (iN K C)) kd:=by
 rintro vs H Q E ⟨w,rfl,ha,hl,hu,k⟩;obtain ⟨r1,r2⟩:=ac9 hu;unfold rZ;lk;refine ⟨w,rfl,ha,hl,λH1 S1=>⟨_,rfl,?_⟩⟩;rw [hu];refine je ?_;lk;exact ⟨w,_,rfl,by lia,r1,k H1 S1⟩
end
variable {X:EC}
theorem vN {i:Int}(h:Sm i) (k:Q (.str (iS i)) H):jR [.int i] H Q:=aew (fW h).2 k
theorem X3 {J:It}{acc:ai}{is:List Int}{R:Hp->Prop}(hJ:(J=TM K p/\H p=some (.lst (is.map V.int)))\/(J=Itt K p/\H p=some (.tup (is.map V.int)))) (ha:H acc=none) (hl:is.length<=1000) (hi:∀ i∈is,Sm i)
  (k:∀ H',bY H H'->H' acc=some (.lst ((is.map iS).map V.str))->R H') :
  ∃ W:Nat->Nat->List V->L2.St->Hp->Prop,(∃ m,W 0 m [] [none] (upd H acc (.lst [])))/\∀ i m ys σ' H',W i m ys σ' H'->H' acc=some (.lst ys) /\
  ((J.stop i H'/\R H')\/(J.go i H'/\∀ x H2,J.U8 i H' x H2->bf 0 x σ' H2 λσ2 H3=>rN σ2 H3 λb H4 =>
   if b=true then jQ jR (ao (ak 0) aR) σ2 H4 λy H5=>H5 acc=some (.lst ys)/\ys.length<aZ/\∃ m',m'<m/\W (i+1) m' (ys++[y]) σ2 (upd H5 acc (.lst (ys++[y]))) else ∃ m',m'<m/\W (i+1) m' ys σ2 H4)):=by
 refine m7 (n:=is.length) (λt ys H'=>ys=((is.take t).map iS).map V.str/\H' acc=some (.lst ys)/\bY H H') (λZ=>∃ o,Z=[o]) ⟨by simp,aK,bY.dm ha⟩ ⟨_,rfl⟩ ?_ ?_ ?_ ?_
 .rintro i ys H' ⟨_,h,_⟩;exact h
 .rintro ys H' ⟨rfl,h,S'⟩;rw [bV (aB _)] at h;refine ⟨?_,k H' S' h⟩
  rcases hJ with ⟨rfl,hp⟩|⟨rfl,hp⟩
  .exact ⟨_,S'.seq (cW.of hp),by rw [ag];exact aB _⟩
  .exact ⟨_,S'.U6 (kU.of hp),by rw [ag];exact aB _⟩
 .rintro i ys H' ht ⟨e,h,S'⟩
  rcases hJ with ⟨rfl,hp⟩|⟨rfl,hp⟩
  .exact ⟨_,_,S'.seq (cW.of hp),ay (by rw [ag];exact ht)⟩
  .exact ⟨_,_,S'.U6 (kU.of hp),ay (by rw [ag];exact ht)⟩
 .rintro i ys σ' H' v H2 ht ⟨rfl,h,S'⟩ ⟨o,rfl⟩ hy
  obtain ⟨a,ha'⟩:∃ a,is[i]?=some a:=⟨_,ay ht⟩
  obtain ⟨rfl,hv⟩:H2=H'/\v=.int a:=by
   rcases hJ with ⟨rfl,hp⟩|⟨rfl,hp⟩
   .obtain ⟨e2,hx⟩:=hy;have hx:=hx _ (S'.seq (cW.of hp));rw [aG,ha'] at hx;exact ⟨e2,(aL hx).symm⟩
   .obtain ⟨e2,hx⟩:=hy;have hx:=hx _ (S'.U6 (kU.of hp));rw [aG,ha'] at hx;exact ⟨e2,(aL hx).symm⟩
  subst hv
  have et:is.take (i+1)=is.take i++[a]:=by rw [f9,ha'];rfl
  lk;refine kB ?_;lk;refine vN (hi a (aS ha')) ?_;refine ⟨h,gG (m:=10000) (by rw [ag,ag,bK];lia),lL.mk' ht ⟨_,rfl⟩ ⟨?_,aK,λb o q=>by rw [aI (aJ q ha)];exact S' _ _ q⟩⟩;rw [et,bx,bx]
  rfl
theorem iE {i j:aY}(h:i.length+j.length<=100000) (k:Q (.str (i++j)) H):dG (.str i) (.str j) H Q:=⟨_,_,rfl,rfl,QO h,k⟩
inductive dW (K:aa) (C:ai) (vs:List V) (H:Hp) (Q:VK) (E:XK):Prop
 | mk (p:_) (ws:List aY):vs=[.ref p]->H p=some (.lst (ws.map V.str))->(ws.map (·.length)).sum+ws.length<=1000000->Q (.str (Xk ws)) H->dW K C vs H Q E
theorem QP:Rn (dW K C) (Ao K C) yu:=by
 rintro vs H Q E ⟨p,ws,rfl,hp,hl,k⟩;unfold Ao;unfold Xk at k;lk
 cases ws with
 | nil =>
  rw [if_pos rfl] at k;refine ⟨false,.inl ⟨_,cW.of hp,rfl⟩,je ?_⟩
  exact k
 | cons a r =>
  rw [if_neg (by simp)] at k;refine ⟨true,.inl ⟨_,cW.of hp,rfl⟩,kB ?_⟩;lk;refine ⟨rfl,?_⟩;lk;exact ⟨_,p,_,rfl,rfl,cW.of hp,by rw [Te];show _+_*1<=_;lia,k⟩
inductive du (K:aa) (C:ai) (vs:List V) (H:Hp) (Q:VK) (E:XK):Prop
 | mk (p:_) (is:List Int):vs=[.ref p]->(H p=some (.lst (is.map V.int))\/H p=some (.tup (is.map V.int)))->is.length<=1000->(∀ i∈is,Sm i)->(∀ H',bY H H'->Q (.str (nbT is)) H')->du K C vs H Q E
theorem QQ {is:List Int}(hl:is.length<=1000) (hi:∀ i∈is,Sm i):((is.map iS).map (·.length)).sum+(is.map iS).length<=1000000:=by
 have:=J0 (f:=iS) (c:=61) is λi h=>(fW (hi i h)).1;rw [ag];lia
theorem AC:Rn (du K C) (nZ K C (dW K C)) Em:=by
 rintro vs H Q E ⟨p,is,rfl,hp,hl,hi,k⟩;unfold nZ;lk
 rcases hp with hp|hp
 .refine .inl ⟨⟨_,cW.of hp⟩,λacc hacc=>X3 (.inl ⟨rfl,hp⟩) hacc hl hi λH1 S1 g1=>?_⟩;lk;exact ⟨acc,_,rfl,g1,QQ hl hi,k H1 S1⟩
 .refine .inr (.inl ⟨⟨_,kU.of hp⟩,λacc hacc=>X3 (.inr ⟨rfl,hp⟩) hacc hl hi λH1 S1 g1=>?_⟩);lk;exact ⟨acc,_,rfl,g1,QQ hl hi,k H1 S1⟩
def jr (K:aa) (C:ai):Sp:=λvs H Q _=>(vs=[.non]/\Q (.str "none") H)\/∃ (p:ai) (is:List Int),vs=[.ref p]/\H p=some (.lst (is.map V.int))/\is.length<=1000/\(∀ i∈is,Sm i)/\∀ H',bY H H'->Q (.str (nbT is)) H'
theorem Kx:Ln (jr K C) 1:=by
 rintro vs H Q E (⟨rfl,_⟩|⟨p,is,rfl,_⟩)<;>rfl
theorem Kz:Rn (jr K C) (um K C (du K C)) ["way"]:=by
 rintro vs H Q E (⟨rfl,k⟩|⟨p,is,rfl,hp,hl,hi,k⟩)
 .unfold um;lk;refine nY (λ_=>?_) λz=>absurd rfl z;lk;exact k
 .unfold um;lk;refine nY nofun λ_=>?_;lk;exact ⟨p,is,rfl,.inl hp,hl,hi,k⟩
inductive jl (K:aa) (C:ai) (vs:List V) (H:Hp) (Q:VK) (E:XK):Prop
 | mk (a b:Int):vs=[.int a,.int b]->Sm a->Sm b->Q (.str (JZ a b)) H->jl K C vs H Q E
theorem KA:Rn (jl K C) (Bz K C) v9:=by
 rintro vs H Q E ⟨a,b,rfl,ha,hb,k⟩;unfold Bz;k_ne;have l1:=fW ha;have l2:=fW hb;refine ⟨_,rfl,a,rfl,l1.2,a9 l1.1 (by decide),by decide,?_⟩;exact ⟨_,rfl,b,rfl,l2.2,a9 l2.1 (by decide),k⟩
inductive iO (K:aa) (C:ai) (vs:List V) (H:Hp) (Q:VK) (E:XK):Prop
 | mk (u:Ti):vs=[.int u.x,.int u.y,.int u.cF,.bl u.wd]->Sm u.x->Sm u.y->Sm u.cF->Q (.str (qY u)) H->iO K C vs H Q E
theorem GV:Rn (iO K C) (yF K C (jl K C)) Eh:=by
 rintro vs H Q E ⟨u,rfl,h1,h2,h3,k⟩;have l1:=yr h1 h2;have l2:=fW h3
 have c1:(av ":").length=1:=by decide
 unfold yF;unfold qY at k;lk;refine ⟨u.x,u.y,rfl,h1,h2,?_⟩;lk;refine iE (by lia) ?_;lk;refine vN h3 ?_;refine iE (by rw [aD];lia) ?_;lk;refine ⟨u.wd,rfl,?_⟩;generalize u.wd=b at k
 cases b with
 | true =>
  refine kB ?_;lk
  exact iE (by rw [aD,aD,show (av "*").length=1 by decide];lia) k
 | false =>
  refine je ?_;lk;exact iE (by rw [aD,aD,show (av "").length=0 by decide];lia) k
inductive iP (K:aa) (C:ai) (vs:List V) (H:Hp) (Q:VK) (E:XK):Prop
 | mk (p:_) (us:List (Ti×ai)):vs=[.ref p]->H p=some (.lst (us.map Cs))->(∀ u∈us,BF H u/\STi u.1)->us.length<=100->(∀ H',bY H H'->Q (.str (Xk (us.map λu=>qY u.1))) H')->iP K C vs H Q E
theorem Tg (hl:us.length<=100) (h:∀ u∈us,STi u.1):((us.map λu=>qY u.1).map (·.length)).sum+(us.map λu=>qY u.1).length<=1000000:=by
 have:=J0 (f:=λu:Ti×ai=>qY u.1) (c:=200) us λu hu=>Xm (h u hu);rw [ag];lia
theorem GW:Rn (iP K C) (r0 K C (dW K C) (iO K C)) ["ties"]:=by
 rintro vs H Q E ⟨p,us,rfl,hp,hu,hl,k⟩;unfold r0;lk;refine .inl ⟨⟨_,cW.of hp⟩,λacc hacc=>?_⟩;refine qc (K:=K) us (λ_=>true) (λu=>.str (qY u.1)) (λZ=>∃ o o1 o2 o3,Z=[o,o1,o2,o3]) (by simp) (cW.of hp) hacc ⟨_,_,_,_,rfl⟩ (by rw [ag];lia) ?_ λH1 S1 g1=>?_
 .rintro i u x σ' H' G G' hi hx S' ⟨o,o1,o2,o3,rfl⟩ hG hG'
  have ex:x=Cs u:=by rw [aG,hi] at hx;exact (aL hx).symm
  subst ex;obtain ⟨hr,hs⟩:=hu u (aS hi);refine wZ (.of (S' _ _ hr)) rfl ?_;lk;refine kB ?_;lk;exact ⟨u.1,rfl,hs.1,hs.2.1,hs.2.2,hG rfl _ ⟨_,_,_,_,rfl⟩⟩
 .have e:(us.filter λ_=>true).map (λu=>V.str (qY u.1))=(us.map λu=>qY u.1).map V.str:=by rw [il.mpr (λ_ _=>rfl),bO];rfl
  rw [e] at g1;lk;refine ⟨acc,_,rfl,g1,Tg hl λu h=>(hu u h).2,k H1 S1⟩
theorem X4 {r:Rw}{ta tb tc:TE}{Z:L2.St}(h:Bw r) (h1:∀ G:VK,G (.int r.lv) H->ta Z H G) (h2:∀ G:VK,G (.int r.sd) H->tb Z H G) (h3:∀ G:VK,G (.int r.rs) H->tc Z H G) (k:Q (.str (Y4 r)) H) :
  bU dG (bU dG (bU dG (bU dG (jQ jR (ao ta aR)) (tC (.str ":"))) (jQ jR (ao tb aR))) (tC (.str "/"))) (jQ jR (ao tc aR)) Z H Q:=by
 obtain ⟨s1,s2,s3,_⟩:=h.sm;have l1:=fW s1;have l2:=fW s2;have l3:=fW s3
 have c1:(av ":").length=1:=by decide
 have c2:(av "/").length=1:=by decide
 lk;refine h1 _ ?_;lk;refine vN s1 ?_;lk;refine iE (by lia) ?_;refine h2 _ ?_;lk;refine vN s2 ?_;refine iE (by rw [aD];lia) ?_;lk;refine iE (by rw [aD,aD];lia) ?_;refine h3 _ ?_;lk;refine vN s3 ?_;exact iE (by rw [aD,aD,aD];lia) k
inductive hX (K:aa) (C:ai) (vs:List V) (H:Hp) (Q:VK) (E:XK):Prop
 | mk (t:Tt):vs=[.int t.lv,.ref t.s,.ref t.q,t.f]->xI H t->Q (.str (Ee (row t))) H->hX K C vs H Q E
theorem EY:Rn (hX K C) (wo K C (jl K C)) abD:=by
 rintro vs H Q E ⟨t,rfl,ok,k⟩;have hl:=J1 ok.h5
 have key:∀ (e:aY),e.length<=1000->Y4 (row t)++e=Ee (row t)->cC (bU dG (bU dG (bU dG (bU dG (bU dG (jQ jR (ao (ak 0) aR)) (tC (.str ":"))) (jQ jR (ao (jQ (nX K) (ao (ak 1) aR)) aR))) (tC (.str "/"))) (jQ jR (ao (jQ (nX K) (ao (ak 2) aR)) aR))) (ak 4)) { nx:=λ_ H'=>Q .non H',rt:=Q } [some (.int t.lv),some (.ref t.s),some (.ref t.q),some t.f,some (.str e)] H:=λe he ee=>by
  refine lT (vJ (X4 ok.h5 (λG g=>ft rfl g) (λG g=>?_) (λG g=>?_) (ft rfl ?_)))
  .lk;refine lq (cW.of ok.h3) ?_;rw [ag];exact g
  .lk;exact lq (cW.of ok.h2) g
  .refine iE (by lia) ?_;rw [ee];exact k
 unfold wo;lk
 rcases ok.h4 with ⟨e,ef⟩|⟨p,b,e,ef,hb⟩
 .rw [ef] at key ⊢;refine nY (λ_=>?_) λz=>absurd rfl z;k_ne;k_ne;exact key _ (by decide) (by unfold Ee;rw [show (row t).fd=none from e])
 .rw [ef] at key ⊢;have hs:=ok.h5.sm.2.2.2 p e;have hl2:=yr hs.1 hs.2;refine nY nofun λ_=>?_;lk;refine iq (kU.of hb) (b8 (j:=0) rfl rfl) ?_;lk;refine iq (kU.of hb) (b8 (j:=1) rfl rfl) ?_;lk;refine ⟨p.1,p.2,rfl,hs.1,hs.2,?_⟩;refine iE (by rw [show (av ">").length=1 by decide];lia) ?_;k_ne;exact key _ (by rw [aD,show (av ">").length=1 by decide];lia) (by unfold Ee;rw [show (row t).fd=some p from e])
theorem X5 {us:List Tt}(hl:us.length<=11) (h:∀ u∈us,Bw (row u)):((us.map λu=>Ee (row u)).map (·.length)).sum+(us.map λu=>Ee (row u)).length<=1000000:=by
 have:=J0 (f:=λu:Tt=>Ee (row u)) (c:=400) us λu hu=>aag (h u hu);rw [ag];lia
inductive ic (K:aa) (C:ai) (vs:List V) (H:Hp) (Q:VK) (E:XK):Prop
 | mk (p:_) (us:List Tt):vs=[.ref p]->H p=some (.lst (us.map pF))->(∀ u∈us,xI H u)->us.length<=11->(∀ H',bY H H'->Q (.str (Xk (us.map λu=>Ee (row u)))) H')->ic K C vs H Q E
theorem EZ:Rn (ic K C) (qF K C (dW K C) (hX K C)) lX:=by
 rintro vs H Q E ⟨p,us,rfl,hp,hu,hl,k⟩;unfold qF;lk;refine .inl ⟨⟨_,cW.of hp⟩,λacc hacc=>?_⟩;refine qc (K:=K) us (λ_=>true) (λu=>.str (Ee (row u))) (λZ=>∃ o o1 o2 o3,Z=[o,o1,o2,o3]) (by simp) (cW.of hp) hacc ⟨_,_,_,_,rfl⟩ (by rw [ag];lia) ?_ λH1 S1 g1=>?_
 .rintro i u x σ' H' G G' hi hx S' ⟨o,o1,o2,o3,rfl⟩ hG hG'
  have ex:x=pF u:=by rw [aG,hi] at hx;exact (aL hx).symm
  subst ex;have ok:=(hu u (aS hi)).same S';refine wZ (.of ok.h1) rfl ?_;lk;refine kB ?_;lk;exact ⟨u,rfl,ok,hG rfl _ ⟨_,_,_,_,rfl⟩⟩
 .have e:(us.filter λ_=>true).map (λu=>V.str (Ee (row u)))=(us.map λu=>Ee (row u)).map V.str:=by rw [il.mpr (λ_ _=>rfl),bO];rfl
  rw [e] at g1;lk;refine ⟨acc,_,rfl,g1,X5 hl λu h=>(hu u h).h5,k H1 S1⟩
variable {X:EC}
structure Gn (K:aa) (C:ai) (A:CA):Prop where
 a:Ct K C A
 dc:Dj K A.jb
 d1:dN K A.jb "kept"
 iA:iD K (.ref A.Keeper) (.ref A.rC)=some false
 hA:bj K (.ref A.Keeper) "__class__"=some (some (.builtin "object.__class__"))
 mA:LR K A.Keeper (.type "object")=some true
 hn:qS K (.builtin "object.__class__") "__get__"=some (some (.builtin "getset_descriptor.__get__"))
 htk:tT K (.builtin "object.__class__")=some true
def fD (k:ai):List (aY×V):=[("kept",.ref k)]
theorem fD1 {k:ai}:(fD k).lookup ("kept":aY)=some (.ref k):=sY
theorem QR {k:ai}{m:aY}(h:¬ m="kept":=by decide +kernel):(fD k).lookup m=none:=by unfold fD;rw [fJ h];rfl
theorem fDp {k k':ai}:d0 "kept" (.ref k') (fD k)=fD k':=vo
abbrev KQ (C:ai) (A:CA) (H:Hp) (p dx:ai) (a:AL) (as:Nat->List ai) (k:Ks):Prop:=KP C A H p dx a k.n k.T k.s.1 as k.s.2 k.c1 k.c2 k.c3 k.c4
structure DS (C:ai) (A:CA) (H:Hp) (p dx kp dk:ai) (a:AL) (as:Nat->List ai) (k:Ks):Prop where
 d:H p=some (.ins A.jb dx (fD kp))
 kp:KQ C A H kp dk a as k
abbrev k0 (n T:Nat):Ks:=⟨n,T,([],λ_ i=>[(i:Int)]),0,0,0,0⟩
section
variable {X:EC}{kp dk:ai}{k:Ks}
theorem DS.same (h:DS C A H p dx kp dk a as k) (S:bY H H'):DS C A H' p dx kp dk a as k:=⟨S _ _ h.d,h.kp.same S⟩
theorem KP.no {c1 c2 c3 c4:Int}(h:KP C A H kp dk a n T ts as R c1 c2 c3 c4) {c:ai}(hp:H p=some (.ins c dx (fD dk'))):p∉kp::fp a:=λz=>by
 obtain ⟨w,_,hk⟩:=h.ob
 rcases aj.mp z with z|z
 .rw [z,hk] at hp
  injection hp with hp
  injection hp with _ _ e
  have:=congrArg (λl:List (aY×V)=>l.lookup ("kept":aY)) e;simp only [fD1] at this;rw [xy] at this;cases this
 .exact h.lv.outI hp z
theorem KP.lt1 {c1 c2 c3 c4:Int}(h:KP C A H kp dk a n T ts as R c1 c2 c3 c4) (hP:nU Pt H) (F:Fm (kp::fp a) H H'):nU Pt H' :=
 hP.keep λb o h1 h2 h3 _ e=>F b o (λz=>by
  rcases aj.mp z with rfl|z
  .obtain ⟨w,_,hp⟩:=h.ob;rw [hp] at e;cases e;exact h3 _ _ _ rfl
  .exact h.lv.out e h1 (λ_ _=>h2 _) z) e
inductive bP (K:aa) (C:ai) (A:CA) (vs:List V) (H:Hp) (Q:VK) (E:XK):Prop
 | mk (p dx:_):vs=[.ref p]->Gn K C A->H p=some (.ins A.jb dx [])->(∀ kp dk a T as H',DS C A H' p dx kp dk a as (k0 1 T)->(∀ b∈kp::a.L::fp a,H b=none)->bJ p H H'->Q .non H')->bP K C A vs H Q E
theorem yQ:Rn (bP K C A) (mV K C A (aW K C A)) kM:=by
 rintro vs H Q E ⟨p,dx,rfl,ct,hp,q⟩;unfold mV;refine lC (uH ?_);lk;intro k dk hk hdk hne
 have T0:bY H (upd (upd H dk (.own k)) k (.ins A.Keeper dk [])):=λb o e=>by rw [aI (aJ e hk),aI (aJ e hdk)];exact e
 refine ⟨k,dk,1,rfl,aK,ct.a,by decide,by decide,λa T as H2 h2 B2 fr=>⟨rfl,?_⟩⟩;have T1:bY H H2:=λb o e=>B2 _ _ (T0 _ _ e) (aJ e hk);lk;refine ⟨p,A.jb,dx,[],rfl,T1 _ _ hp,ct.dc,ct.d1,by decide,?_⟩;obtain ⟨w,hw,hk2⟩:=h2.ob;have npk:p≠k:=aJ hp hk
 refine q k dk a T as _ ⟨by rw [aK];rfl,⟨w,hw,by rw [aI npk.symm];exact hk2⟩,h2.lv.inst (T1 _ _ hp) rfl rfl,h2.iv,h2.jn,h2.tp⟩ (λb hb=>?_) λb o e hb=>by rw [aI hb];exact T1 _ _ e
 rcases aj.mp hb with rfl|hb
 .exact hk
 .exact T0.free (fr b hb)
inductive ib (K:aa) (C:ai) (A:CA) (vs:List V) (H:Hp) (Q:VK) (E:XK):Prop
 | mk (p dx k kp:_):vs=[.ref p,.ref kp]->Gn K C A->H p=some (.ins A.jb dx (fD k))->Q (.str "ok") (upd H p (.ins A.jb dx (fD kp)))->ib K C A vs H Q E
theorem E1:Rn (ib K C A) (wB K C A) Nn:=by
 rintro vs H Q E ⟨p,dx,k,kp,rfl,ct,hp,q⟩;unfold wB;k_ne;refine lC ?_;lk;refine ⟨p,A.jb,dx,_,rfl,hp,ct.dc,ct.d1,(by unfold fD;show 1<1000;decide),?_⟩;rw [fDp];dsimp only;lk;exact q
theorem X6 {Z:L2.St}(ct:Gn K C A) (h:DS C A H p dx kp dk a as k) (hs:Z[0]?=some (some (.ref p))) (q:Q (.bl false) H) :
  jQ (SM K) (ao (df K (ak 0) "kept") (ao (tC (.ref A.rC)) aR)) Z H Q:=by
 obtain ⟨w,hw,hk⟩:=h.kp.ob;refine PQ (gF (jC (ft hs ⟨p,A.jb,dx,_,_,rfl,h.d,ct.dc,ct.d1,fD1,?_⟩)));exact gF (Iw (nH ⟨_,_,_,_,rfl,.ins hk ct.a.kc ct.hA ct.hn ct.htk ct.mA,ct.iA,q⟩))
theorem si {m:aY}{sp:Sp}{E:XK}{t:TA}{Z:L2.St}(ct:Gn K C A) (h:DS C A H p dx kp dk a as k) (hs:Z[0]?=some (some (.ref p)))
  (hm:∀ {n:Nat}{q w:ai}{c1 c2 c3 c4:Int},(fK n q w c1 c2 c3 c4).lookup m=none) (q:t Z H λvs H2=>sp (.ref kp::(vs++[])) H2 Q E):cJ A.Keeper m sp [] E (df K (ak 0) "kept") t Z H Q:=by
 obtain ⟨w,hw,hk⟩:=h.kp.ob;exact fG (jC (ft hs ⟨p,A.jb,dx,_,_,rfl,h.d,ct.dc,ct.d1,fD1,kp,dk,_,rfl,hk,hm,q⟩))
inductive jq (K:aa) (C:ai) (A:CA) (vs:List V) (H:Hp) (Q:VK) (E:XK):Prop
 | mk (p dx kp dk a as:_) (k:Ks) (x y:Nat):vs=[.ref p,.int x,.int y]->Gn K C A->DS C A H p dx kp dk a as k->Kok k->VE k (.put x y)->(∀ as' H',DS C A H' p dx kp dk a as' (ptF k x y)->Fm (kp::fp a) H H'->Q (.str (xc k (.put x y))) H')->jq K C A vs H Q E
theorem KB:Rn (jq K C A) (uC K C A (gp K C A)) gg:=by
 rintro vs H Q E ⟨p,dx,kp,dk,a,as,k,x,y,rfl,ct,h,ok,⟨hx,hy,hxy,hk⟩,q⟩;have n6:=ok.n6;have ln:=ok.ln;unfold uC;refine Bg (yh (ub (X6 ct h rfl ⟨false,rfl,je (z7 ?_)⟩)));refine lT (Wm (ub (si ct h rfl xy ?_)));lk;refine ⟨kp,dk,a,k.n,k.T,k.s.1,as,k.s.2,k.c1,k.c2,k.c3,k.c4,x,y,rfl,ct.a,h.kp,by lia,hx,hy,hxy,hk,by lia,λb as' H' hb h' F'=>?_⟩;have hb:b=Y7 k x y:=hb;subst hb;have q:=q as' H' ⟨F' _ _ (h.kp.no h.d) h.d,h'⟩ F';refine ⟨_,rfl,?_⟩;have q:Q (.str (if Y7 k x y=true then "wood" else "beside")) H':=q
 cases e:Y7 k x y with
 | true =>
  rw [e,if_pos rfl] at q;refine kB ?_;lk
  exact q
 | false =>
  rw [e,if_neg (by decide)] at q;refine je ?_;lk;exact q
def ie (K:aa) (C:ai) (A:CA) (X:EC):Sp:=λvs H _ E=>∃ (p dx kp dk:ai) (a:AL) (as:Nat->List ai) (k:Ks) (x y:Nat),vs=[.ref p,.int x,.int y]/\Gn K C A/\DS C A H p dx kp dk a as k/\VE k (.out x y)/\∀ H',bY H H'->E (.ref X.vO) none H'
theorem E3:Rx (ie K C A X) (λE=>nc K C A X E (eX K C A X)) gg:=by
 rintro vs H Q E ⟨p,dx,kp,dk,a,as,k,x,y,rfl,ct,h,⟨hx,hy,hxy,hk⟩,q⟩;unfold nc;refine Bg (yh (ub (X6 ct h rfl ⟨false,rfl,je (z7 ?_)⟩)));refine lT (Wm (ub (si ct h rfl xy ?_)));lk;exact ⟨kp,dk,a,k.n,k.T,k.s.1,as,k.s.2,k.c1,k.c2,k.c3,k.c4,x,y,rfl,ct.a,h.kp,hx,hy,hxy,hk,q⟩
end
variable {X:EC}
section
variable {X:EC}
theorem gI {w v:aY}{tb rest:TS}{D:vH}{Z:L2.St}(hv:Z[1]?=some (some (.str w))) (hn:w≠v) (h:rest D Z H):bB (eO (cu (bU (gY K) (ak 1) (tC (.str v)))) tb cM) rest D Z H:=by
 refine Bg (yh (wY (vJ (ft hv (Iw (EX ⟨_,rfl,?_⟩))))));exact nY (λe=>absurd (V.str.inj e) hn) λ_=>z7 h
theorem sj {w:aY}{tb rest:TS}{D:vH}{Z:L2.St}(hv:Z[1]?=some (some (.str w))) (h:tb { D with nx:=rest D } Z H):bB (eO (cu (bU (gY K) (ak 1) (tC (.str w)))) tb cM) rest D Z H:=by
 refine Bg (yh (wY (vJ (ft hv (Iw (EX ⟨_,rfl,?_⟩))))));exact nY (λ_=>h) λe=>absurd rfl e
def gH (K:aa) (C:ai) (A:CA) (Pt:ai):Sp:=λvs H Q _ =>
 (∃ (p dx kp dk:ai) (a:AL) (as:Nat->List ai) (k:Ks) (q:Ask) (l:ai),vs=[.ref p,.str q.nm,.ref l]/\H l=some (.lst (q.is.map V.int))/\Gn K C A/\DS C A H p dx kp dk a as k/\Kok k/\VE k q/\nU Pt H/\∀ as' H',DS C A H' p dx kp dk a as' (nxF k q)->nU Pt H'->Fm (kp::Pt::fp a) H H'->Q (.str (xc k q)) H') \/
 ∃ (p dx kp:ai) (n:Nat) (l:ai),vs=[.ref p,.str "new",.ref l]/\H l=some (.lst [.int n])/\Gn K C A/\H p=some (.ins A.jb dx (fD kp))/\1<=n/\n<=200/\∀ kp dk a T as H',DS C A H' p dx kp dk a as (k0 n T)->(∀ b∈kp::a.L::fp a,H b=none)->bJ p H H'->Q (.str "ok") H'
theorem CD:Ln (gH K C A Pt) 3:=by
 rintro vs H Q E (⟨p,dx,kp,dk,a,as,k,q,l,rfl,_⟩|⟨p,dx,kp,n,l,rfl,_⟩)<;>rfl
theorem CF:Rn (gH K C A Pt) (l5 K C A (du K C) (ib K C A) (jq K C A) (ic K C) (jr K C) (iP K C) (cN K C A) (aW K C A) (iQ K C A Pt) (cX K C A) (eI K C A) (dS K C A) (cw K C A)) Ei:=by
 rintro vs H Q E (⟨p,dx,kp,dk,a,as,k,q,l,rfl,hl,ct,h,ok,hq,hP,Zzq⟩|⟨p,dx,kp,n,l,rfl,hl,ct,hp,hn1,hn2,Zzq⟩);rotate_left
 .unfold l5;refine sj rfl ?_;refine lT (fG (ft rfl ⟨p,dx,_,rfl,hp,QR,gF (uH ?_)⟩));lk;refine gL (cW.of hl) (b8 (j:=0) rfl rfl) ?_;lk;intro z dz hz hdz hne
  have T0:bY H (upd (upd H dz (.own z)) z (.ins A.Keeper dz [])):=λb o e=>by rw [aI (aJ e hz),aI (aJ e hdz)];exact e
  refine ⟨z,dz,n,rfl,aK,ct.a,hn1,hn2,λa T as H2 h2 B2 fr=>⟨rfl,?_⟩⟩;have T1:bY H H2:=λb o e=>B2 _ _ (T0 _ _ e) (aJ e hz);lk;refine ⟨p,dx,kp,z,rfl,ct,T1 _ _ hp,?_⟩;obtain ⟨w,hw,hk2⟩:=h2.ob;have npk:p≠z:=aJ hp hz
  refine Zzq z dz a T as _ ⟨aK,⟨w,hw,by rw [aI npk.symm];exact hk2⟩,h2.lv.inst (T1 _ _ hp) QR QR,h2.iv,h2.jn,h2.tp⟩ (λb hb=>?_) λb o e hb=>by rw [aI hb];exact T1 _ _ e
  rcases aj.mp hb with rfl|hb
  .exact hz
  .exact T0.free (fr b hb)
 have n6:=ok.n6;have ln:=ok.ln;have same:∀ {H':Hp},bY H H'->nxF k q=k->Q (.str (xc k q)) H':=λS e=>Zzq as _ (by rw [e];exact h.same S) (hP.same S) (Fm.of S);have D:=h.kp.iv.wd 0 (bC _)
 have sm0:∀ {x:Nat},x<k.n->∀ z∈k.s.2 0 x,Sm z:=λhx z hz=>by
  obtain ⟨j,hj,rfl,_⟩:=D.Mo _ hx z hz;exact .of (by lia)
 unfold l5;refine gI rfl (by cases q<;>(dsimp only [Ask.nm];decide)) ?_
 cases q with
 | put x y =>
  refine sj rfl ?_;refine lT (fG (ft rfl ⟨p,dx,_,rfl,h.d,QR,?_⟩));lk;refine gL (cW.of hl) (b8 (j:=0) rfl rfl) ?_;lk;refine gL (cW.of hl) (b8 (j:=1) rfl rfl) ?_;lk
  exact ⟨p,dx,kp,dk,a,as,k,x,y,rfl,ct,h,ok,hq,λas' H' h' F'=>Zzq as' H' h' (h.kp.lt1 hP F') (F'.mono λb hb=>by
   rcases aj.mp hb with rfl|hb
   .exact ah
   .exact ae _ (ae _ hb))⟩
 | out x y =>
  obtain ⟨hx,hy,hxy,hk⟩:=hq;refine gI rfl (by dsimp only [Ask.nm];decide) (sj rfl ?_);refine lT ?_
  show ao _ _ _ _ _
  refine gF (si ct h rfl xy ?_);lk;refine gL (cW.of hl) (b8 (j:=0) rfl rfl) ?_;lk;refine gL (cW.of hl) (b8 (j:=1) rfl rfl) ?_;lk;refine ⟨kp,dk,a,k.n,k.T,k.s.1,as,k.s.2,k.c1,k.c2,k.c3,k.c4,x,y,rfl,ct.a,h.kp,n6,hx,hy,hxy,hk,by lia,hP,λq us u as' H' hu eu gq oks hlu er h' hls P' F'=>?_⟩;obtain rfl:=abx h.kp.iv.nd hu eu;lk;have er:us.map row=(Mn k x y).1:=er;refine ⟨q,us,rfl,gq,oks,hlu,λH2 S2=>?_⟩;rw [er] at h'
  have h2:DS C A H2 p dx kp dk a as' (otF k x y):=DS.same ⟨F' _ _ (λz=>by
   have:=h.kp.no h.d
   rcases aj.mp z with z|z
   .exact this (z▸ah)
   .rcases aj.mp z with z|z
    .exact hP.ne h.d (λ_ z=>nomatch z) z
    .exact this (ae _ z)) h.d,h'⟩ S2
  have e:us.map (λu=>Ee (row u))=(Mn k x y).1.map Ee:=by rw [← er,bO];rfl
  rw [e]
  exact Zzq as' H2 h2 (P'.same S2) (F'.trans (Fm.of S2))
 | joined x y =>
  obtain ⟨hx,hy⟩:=hq;refine gI rfl (by dsimp only [Ask.nm];decide) (gI rfl (by dsimp only [Ask.nm];decide) (sj rfl ?_));refine lT (Wm (ub (si ct h rfl xy ?_)));lk;refine gL (cW.of hl) (b8 (j:=0) rfl rfl) ?_;lk;refine gL (cW.of hl) (b8 (j:=1) rfl rfl) ?_;lk;refine ⟨kp,dk,a,k.n,k.T,k.s.1,as,k.s.2,k.c1,k.c2,k.c3,k.c4,x,y,rfl,ct.a,h.kp,hx,hy,_,rfl,?_⟩;have Zzq:=same (H':=H) (λ_ _ e=>e) rfl;have Zzq:Q (.str (if (y:Int)∈k.s.2 0 x then "yes" else "no")) H:=Zzq;refine nY (λc=>?_) λc=>?_
  .rw [if_pos c] at Zzq;lk;exact Zzq
  .rw [if_neg c] at Zzq;lk
   exact Zzq
 | way x y =>
  obtain ⟨hx,hy⟩:=hq;refine gI rfl (by dsimp only [Ask.nm];decide) (gI rfl (by dsimp only [Ask.nm];decide) (gI rfl (by dsimp only [Ask.nm];decide) (sj rfl ?_)));refine lT ?_
  show ao _ _ _ _ _
  refine gF (si ct h rfl xy ?_);lk;refine gL (cW.of hl) (b8 (j:=0) rfl rfl) ?_;lk;refine gL (cW.of hl) (b8 (j:=1) rfl rfl) ?_;lk;have Zzq:∀ {H':Hp},bY H H'->Q (.str (if (y:Int)∈k.s.2 0 x then nbT (VD (k.s.2 0 x) x y) else "none")) H':=λS=>same S rfl;refine ⟨kp,dk,a,k.n,k.T,k.s.1,as,k.s.2,k.c1,k.c2,k.c3,k.c4,x,y,rfl,ct.a,h.kp,n6,hx,hy,λc=>?_,λc q H' S hq hlq=>?_⟩
  .lk;have Zzq:=Zzq (H':=H) λ_ _ e=>e;rw [if_neg c] at Zzq;exact .inl ⟨rfl,Zzq⟩
  .lk;refine .inr ⟨q,_,rfl,hq,by lia,λi hi=>sm0 hx i (Qs i hi),λH2 S2=>?_⟩;have Zzq:=Zzq (S.trans S2);rw [if_pos c] at Zzq
   exact Zzq
 | side x =>
  have hx:x<k.n:=hq;refine gI rfl (by dsimp only [Ask.nm];decide) (gI rfl (by dsimp only [Ask.nm];decide) (gI rfl (by dsimp only [Ask.nm];decide) (gI rfl (by dsimp only [Ask.nm];decide) (sj rfl ?_))));refine lT ?_
  show ao _ _ _ _ _
  refine gF (si ct h rfl xy ?_);lk;refine gL (cW.of hl) (b8 (j:=0) rfl rfl) ?_;lk;refine ⟨kp,dk,a,k.n,k.T,k.s.1,as,k.s.2,k.c1,k.c2,k.c3,k.c4,x,rfl,ct.a,h.kp,n6,hx,λq hq hlq hin _=>?_⟩;lk
  exact ⟨q,_,rfl,.inl aK,by lia,λi hi=>sm0 hx i (hin i hi),λH2 S2=>same ((bY.dm hq).trans S2) rfl⟩
 | ties =>
  refine gI rfl (by dsimp only [Ask.nm];decide) (gI rfl (by dsimp only [Ask.nm];decide) (gI rfl (by dsimp only [Ask.nm];decide) (gI rfl (by dsimp only [Ask.nm];decide) (gI rfl (by dsimp only [Ask.nm];decide) (sj rfl ?_)))));refine lT ?_
  show ao _ _ _ _ _
  refine gF (si ct h rfl xy ?_);lk;refine ⟨kp,dk,a,k.n,k.T,k.s.1,as,k.s.2,k.c1,k.c2,k.c3,k.c4,rfl,ct.a,h.kp,by lia,λq us H' hq gq fl pm et S=>?_⟩
  have hul:us.length=k.s.1.length:=by have:=pm.length_eq;rwa [ag] at this
  have hT8:=h.kp.tp.small (by lia);lk;refine ⟨q,us,rfl,gq,λu hu=>⟨fl u hu,?_⟩,by lia,λH2 S2=>?_⟩
  .obtain ⟨h1,h2,h3⟩:=h.kp.iv.lt u.1 (pm.mem_iff.mp (bq hu));exact ⟨.of (by lia),.of (by lia),.of (by lia)⟩
  .have e:us.map (λu=>qY u.1)=(tiF k.s.1).map r4T:=by
    rw [← et,bO];exact eV λu _=>(Xl u.1).symm
   rw [e]
   exact same (S.trans S2) rfl
 | account =>
  refine gI rfl (by dsimp only [Ask.nm];decide) (gI rfl (by dsimp only [Ask.nm];decide) (gI rfl (by dsimp only [Ask.nm];decide) (gI rfl (by dsimp only [Ask.nm];decide) (gI rfl (by dsimp only [Ask.nm];decide) (gI rfl (by dsimp only [Ask.nm];decide) (gI rfl (by dsimp only [Ask.nm];decide) ?_))))));refine lT ?_
  show ao _ _ _ _ _
  refine gF (si ct h rfl xy ?_);lk;refine ⟨kp,dk,a,k.n,k.T,k.s.1,as,k.s.2,k.c1,k.c2,k.c3,k.c4,rfl,ct.a,h.kp,by lia,λt H' S gt=>?_⟩;have hT8:=h.kp.tp.small (by lia);have hc:=Xn (T:=k.T) k.s.1 λt ht=>(h.kp.iv.lt t ht).2.2;have hm:k.T*k.s.1.length<=1000*63:=Nat.mul_le_mul (by lia) (by lia);lk;refine ⟨t,[k.c1,k.c2,k.c3,k.c4,cdF k],rfl,.inr gt,(by show 5<=1000;decide),λi hi=>?_,λH2 S2=>same (S.trans S2) rfl⟩;simp only [aj,cj,or_false] at hi
  rcases hi with rfl|rfl|rfl|rfl|rfl
  .exact ok.m1
  .exact ok.m2
  .exact ok.m3
  .exact ok.m4
  .refine .of ?_;unfold cdF
   have:((k.T*k.s.1.length:Nat):Int)<=63000:=by lia
   rw [Mi] at this;lia
def ff (K:aa) (C:ai) (A:CA) (X:EC):Sp:=λvs H _ E=>∃ (p dx kp dk:ai) (a:AL) (as:Nat->List ai) (k:Ks) (x y:Nat) (b:Bool) (l:ai),vs=[.ref p,.str (if b then "put" else "out"),.ref l]/\H l=some (.lst [.int x,.int y])/\Gn K C A/\DS C A H p dx kp dk a as k/\VE k (if b then .out x y else .put x y)/\∀ H',bY H H'->E (.ref (if b then X.vO else X.pP)) none H'
theorem yR:Rx (ff K C A X) (λE=>kD K C A E (ie K C A X) (gv K C A X)) Ei:=by
 rintro vs H Q E ⟨p,dx,kp,dk,a,as,k,x,y,b,l,rfl,hl,ct,h,hq,Zzq⟩;unfold kD
 cases b with
 | true =>
  refine gI rfl (by decide) (sj rfl ?_);refine lT (fG (ft rfl ⟨p,dx,_,rfl,h.d,QR,?_⟩));lk;refine gL (cW.of hl) (b8 (j:=0) rfl rfl) ?_;lk;refine gL (cW.of hl) (b8 (j:=1) rfl rfl) ?_;lk
  exact ⟨p,dx,kp,dk,a,as,k,x,y,rfl,ct,h,hq,Zzq⟩
 | false =>
  obtain ⟨hx,hy,hxy,hk⟩:=hq;refine gI rfl (by decide) (gI rfl (by decide) (sj rfl ?_));refine lT ?_
  show ao _ _ _ _ _
  refine gF (si ct h rfl xy ?_);lk;refine gL (cW.of hl) (b8 (j:=0) rfl rfl) ?_;lk;refine gL (cW.of hl) (b8 (j:=1) rfl rfl) ?_;lk;exact ⟨kp,dk,a,k.n,k.T,k.s.1,as,k.s.2,k.c1,k.c2,k.c3,k.c4,x,y,rfl,ct.a,h.kp,hx,hy,hxy,hk,Zzq⟩
end
variable {X:EC}
theorem kE {w:aY}{s:String}{v:PyData}{r:List (PyData×PyData)}{l:List Nat}(hs:(av s).cps.toList=l):iJ (.str w) ((.str (av s),v)::r)=if sS w=l then some v else iJ (.str w) r:=by
 show (if Cd (.str (av s)) (.str w)=true then some v else iJ (.str w) r)=_
 by_cases h:sS w=l
 .rw [if_pos h,show w=av s from Rs.ext (h.trans hs.symm)];rw [if_pos (by simp [Cd])]
 .rw [if_neg h,if_neg λz=>h ?_]
  have z:av s=w:=by simpa [Cd] using z
  rw [← z];exact hs
theorem UP (w:aY):iJ (.str w) UM=(nm (sS w)).map λk=>.int k:=by
 show iJ (.str w) ((.str (av "new"),.int 1)::(.str (av "put"),.int 2)::(.str (av "out"),.int 2)::(.str (av "joined"),.int 2)::(.str (av "way"),.int 2)::(.str (av "side"),.int 1)::(.str (av "ties"),.int 0)::(.str (av "weight"),.int 0)::(.str (av "account"),.int 0)::[])=_
 rw [kE (l:=[110,101,119]) (by decide),kE (l:=[112,117,116]) (by decide),kE (l:=[111,117,116]) (by decide),kE (l:=[106,111,105,110,101,100]) (by decide),kE (l:=[119,97,121]) (by decide),kE (l:=[115,105,100,101]) (by decide),kE (l:=[116,105,101,115]) (by decide),kE (l:=[119,101,105,103,104,116]) (by decide),kE (l:=[97,99,99,111,117,110,116]) (by decide)];unfold nm
 split
 .rfl
 split
 .rfl
 split
 .rfl
 split
 .rfl
 split
 .rfl
 split
 .rfl
 split
 .rfl
 split
 .rfl
 split
 .rfl
 rfl
section
variable {X:EC}
theorem ae2 {w0:aY}{r:List aY}{Z:L2.St}{Q:Bool->Hp->Prop}(hl:H l=some (.lst ((w0::r).map V.str))) (hv:Z[2]?=some (some (.ref l))) (q:Q (decide (sS w0=[119,101,105,103,104]) && decide (0<r.length)) H) :
  Gw (cu (bU (gY K) (bU (c5 K) (ak 2) (tC (.int 0))) (tC (.str "weigh")))) (cu (bU (tG λi j=>.bl (decide (j<i))) (jQ (nX K) (ao (ak 2) aR)) (tC (.int 1)))) Z H Q:=by
 refine Wn (wY (vJ (vJ (ft hv (Iw (gL (cW.of hl) (b8 (j:=0) rfl rfl) (Iw (EX ⟨_,rfl,?_⟩))))))));have e:=AB (w:=w0) (s:="weigh") (l:=[119,101,105,103,104]) (by decide);refine nY (λh=>?_) λh=>?_
 .rw [decide_eq_true (e.mp h),tF] at q;refine wY (vJ (PQ (gF (ft hv (nH (lq (cW.of hl) (Iw (Sq ⟨_,rfl,?_⟩))))))))
  have:decide ((1:Int)<(((w0::r).map V.str).length:Nat))=decide (0<r.length):=by
   refine decide_eq_decide.mpr ?_;rw [ag,bz];lia
  rw [this];exact q
 .rw [decide_eq_false λz=>h (e.mpr z),nA] at q;exact q
theorem ae3 {w0:aY}{r:List aY}{Z:L2.St}{Q:Bool->Hp->Prop}(hl:H l=some (.lst ((w0::r).map V.str))) (hv:Z[2]?=some (some (.ref l))) (q:Q (!decide (nm (sS w0)=some r.length)) H) :
  cu (bU (yf K) (SJ UM (ao (bU (c5 K) (ak 2) (tC (.int 0))) aR)) (bU (tG λi j=>.int (i-j)) (jQ (nX K) (ao (ak 2) aR)) (tC (.int 1)))) Z H Q:=by
 refine wY (vJ ?_)
 show ao _ _ _ _ _
 refine gF (vJ (ft hv (Iw (gL (cW.of hl) (b8 (j:=0) rfl rfl) (nH ⟨w0,rfl,?_⟩)))));rw [UP]
 have len:((((w0::r).map V.str).length:Nat):Int)-1=(r.length:Int):=by rw [ag,bz];lia
 cases e:nm (sS w0) with
 | none =>
  rw [e,decide_eq_false (by intro z;cases z)] at q;refine .inr ⟨rfl,vJ (PQ (gF (ft hv (nH (lq (cW.of hl) (Iw (Sq ?_)))))))⟩
  exact .inl ⟨rfl,_,rfl,q⟩
 | some k =>
  rw [e] at q;refine .inl ⟨k,rfl,vJ (PQ (gF (ft hv (nH (lq (cW.of hl) (Iw (Sq (abj ⟨_,rfl,?_⟩))))))))⟩;rw [len];have:decide (V.int (k:Int)=V.int (r.length:Int))=decide (some k=some r.length):=decide_eq_decide.mpr ⟨λz=>by have:=V.int.inj z;rw [show k=r.length by lia],λz=>by rw [aL z]⟩;rw [this];exact q
theorem X7 {z acc:ai}{ws:List aY}{sp:Sp}{E:XK}{R:Hp->Prop}(P:Hp->aY->V->Prop) (hz:cW K H z (ws.map V.str)) (ha:H acc=none) (hl:ws.length<=1000)
  (k1:∀ H H' w y,bY H H'->P H w y->P H' w y) (k2:∀ H w y xs o,H acc=some (.lst xs)->P H w y->P (upd H acc o) w y)
  (turn:∀ (w:aY) (H':Hp) (G:VK),w∈ws->bY H H'->(∀ y H5,bY H' H5->P H5 w y->G y H5)->sp [.str w] H' G E)
  (fin:∀ ys H',bY H H'->H' acc=some (.lst ys)->ys.length=ws.length->(∀ (i:Nat) w y,ws[i]?=some w->ys[i]?=some y->P H' w y)->R H') :
  ∃ W:Nat->Nat->List V->L2.St->Hp->Prop,(∃ m,W 0 m [] [none] (upd H acc (.lst [])))/\∀ i m ys σ' H',W i m ys σ' H'->H' acc=some (.lst ys) /\
  (((TM K z).stop i H'/\R H')\/((TM K z).go i H'/\∀ x H2,(TM K z).U8 i H' x H2->bf 0 x σ' H2 λσ2 H3=>rN σ2 H3 λb H4 =>
   if b=true then cb sp [] E (ao (ak 0) aR) σ2 H4 λy H5=>H5 acc=some (.lst ys)/\ys.length<aZ/\∃ m',m'<m/\W (i+1) m' (ys++[y]) σ2 (upd H5 acc (.lst (ys++[y]))) else ∃ m',m'<m/\W (i+1) m' ys σ2 H4)):=by
 refine m7 (n:=ws.length) (λt ys H'=>ys.length=t/\H' acc=some (.lst ys)/\bY H H'/\∀ (i:Nat) w y,ws[i]?=some w->ys[i]?=some y->P H' w y) (λZ=>∃ o,Z=[o]) ⟨rfl,aK,bY.dm ha,(λi w y _ e=>nomatch e)⟩ ⟨_,rfl⟩ ?_ ?_ ?_ ?_
 .rintro t ys H' ⟨_,h,_⟩;exact h
 .rintro ys H' ⟨e,h,S',hP⟩;exact ⟨⟨_,S'.seq hz,by rw [ag];exact aB _⟩,fin ys H' S' h e hP⟩
 .rintro t ys H' ht ⟨_,_,S',_⟩;exact ⟨_,_,S'.seq hz,ay (by rw [ag];exact ht)⟩
 .rintro t ys σ' H' x H2 ht ⟨e,h,S',hP⟩ ⟨o,rfl⟩ ⟨rfl,hx⟩;have hx:=hx _ (S'.seq hz)
  obtain ⟨w,hw⟩:∃ w,ws[t]?=some w:=⟨_,ay ht⟩
  rw [aG,hw] at hx;obtain rfl:=(aL hx).symm;refine vi (abi (kB (JG (gF (ft rfl (nH ?_))))))
  refine turn w _ _ (aS hw) S' λy H5 S5 hy=>⟨S5 _ _ h,gG (m:=100000) (by lia),lL.mk' ht ⟨_,rfl⟩ ⟨by rw [bD,e];rfl,aK,λb o q=>by rw [aI (aJ q ha)];exact S5 _ _ (S' _ _ q),λi v u hv hu=>?_⟩⟩
  by_cases hi:i<ys.length
  .rw [gB hi] at hu;exact k2 _ _ _ _ _ (S5 _ _ h) (k1 _ _ _ _ S5 (hP i v u hv hu))
  .have hi':i=ys.length:=by
    have:=(aE.mp hu).1;rw [bD] at this;simp at this;lia
   subst hi';rw [eC (aB _),Nat.sub_self] at hu;obtain rfl:=(aL hu).symm;rw [e,hw] at hv;obtain rfl:=(aL hv).symm;exact k2 _ _ _ _ _ (S5 _ _ h) hy
def PN (_:Hp) (w:aY) (y:V):Prop:=Y6 (sS w)=true/\y=.int (Nh (sS w))
theorem abH (i:Int):32∉sS (iS i)/\As (iS i):=by
 refine ⟨sg32 i,λc hc=>?_⟩;have:=Xp (i:=i) hc;lia
theorem aar {is:List Int}{ys:List V}(hl:ys.length=(is.map iS).length) (h:∀ (i:Nat) w y,(is.map iS)[i]?=some w->ys[i]?=some y->PN H w y):ys=is.map V.int:=by
 induction is generalizing ys with
 | nil=>exact Se.mp hl
 | cons w r ih =>
  cases ys with
  | nil=>cases hl
  | cons y ys =>
   have e1:=ih (ys:=ys) (Nat.succ.inj hl) λi w' y' h1 h2=>h (i+1) w' y' h1 h2;obtain ⟨_,h2⟩:=h 0 (iS w) y rfl rfl;have e2:Nh (sS (iS w))=w:=Qr w;rw [e2] at h2;rw [e1,h2];rfl
theorem Dg {E:XK}{spA:Sp}{kp:ai}{w:aY}{is:List Int}(ct:Gn K C A) (hp:H p=some (.ins A.jb dx (fD kp))) (hw:32∉sS w) (hwl:w.length<=20) (hne:sS w≠[119,101,105,103,104]) (hnm:nm (sS w)=some is.length) (hl:is.length<=2) (hi:∀ i∈is,Sm i)
  (k:∀ acc H',bY H H'->H' acc=some (.lst (is.map V.int))->spA [.ref p,.str w,.ref acc] H' Q E):iZ K C A X E spA (dj K C) { nx:=λ_ H'=>Q .non H',rt:=Q } (start IP [.ref p,.str (Eg w is)]) H:=by
 have hrl:=aah hwl hl hi
 have esp:Txt.split (Eg w is) ⟨#[32]⟩=w::is.map iS:=Xh (by simp) λv hv=>by
  rcases aj.mp hv with rfl|hv
  .exact hw
  .obtain ⟨i,_,rfl⟩:=bS.mp hv;exact (abH i).1
 unfold iZ;lk;refine ⟨rfl,?_⟩;lk;refine ⟨Eg w is,_,rfl,rfl,by decide,QO (by lia),?_⟩;rw [Te,esp];refine ⟨QO (by rw [bz,ag];lia),λl hl0=>?_⟩;generalize eu_:upd _ l _=H1;obtain ⟨S1,g1⟩:=news eu_ hl0;k_ne;k_ne;refine yh (ae2 g1 rfl ?_);rw [decide_eq_false hne,nA];refine je (z7 ?_);k_ne;refine yh (ae3 g1 rfl ?_);rw [ag,decide_eq_true hnm];refine je (z7 ?_);refine lT (fG (ft rfl ⟨p,dx,_,rfl,S1 _ _ hp,QR,?_⟩));lk;refine gL (cW.of g1) (b8 (j:=0) rfl rfl) ?_;lk;refine Iy (cW.of g1) λz hz=>?_;rw [show Cg (List.map V.str (w::is.map iS)) (some 1) none=(is.map iS).map V.str from MQ (j:=1) rfl];generalize eu_:upd _ z _=H2;obtain ⟨S2,g2⟩:=news eu_ hz;refine ⟨z,rfl,.inl ⟨⟨_,cW.of g2⟩,λacc hacc=>?_⟩⟩;refine X7 PN (cW.of g2) hacc (by rw [ag];lia) (λ_ _ _ _ _ z=>z) (λ_ _ _ _ _ _ z=>z) (λv H3 G hv S3 hG=>?_) λys H3 S3 ga hyl hP=>?_
 .obtain ⟨i,hi',rfl⟩:=bS.mp hv;have ev:Y6 (sS (iS i))=true:=UL (hi i hi').h;exact ⟨iS i,rfl,(abH i).2,a9 (fW (hi i hi')).1 (by decide),ev,λH5 S5=>hG _ _ S5 ⟨ev,rfl⟩⟩
 .rw [aar hyl hP] at ga;lk;exact k acc H3 ((S1.trans S2).trans S3) ga
def bF (K:aa) (C:ai) (A:CA) (Pt:ai):Sp:=λvs H Q _ =>
 (∃ (p dx kp dk:ai) (a:AL) (as:Nat->List ai) (k:Ks) (q:Ask),vs=[.ref p,.str q.row]/\Gn K C A/\DS C A H p dx kp dk a as k/\Kok k/\VE k q/\nU Pt H/\∀ as' H',DS C A H' p dx kp dk a as' (nxF k q)->nU Pt H'->Fm (kp::Pt::fp a) H H'->Q (.str (xc k q)) H') \/
 ∃ (p dx kp:ai) (n:Nat),vs=[.ref p,.str (Eg "new" [(n:Int)])]/\Gn K C A/\H p=some (.ins A.jb dx (fD kp))/\1<=n/\n<=200/\∀ kp dk a T as H',DS C A H' p dx kp dk a as (k0 n T)->(∀ b∈kp::a.L::fp a,H b=none)->bJ p H H'->Q (.str "ok") H'
theorem KC:Ln (bF K C A Pt) 2:=by
 rintro vs H Q E (⟨p,dx,kp,dk,a,as,k,q,rfl,_⟩|⟨p,dx,kp,n,rfl,_⟩)<;>rfl
theorem VE.sm {k:Ks}{q:Ask}(h:VE k q) (hn:k.n<=60):∀ i∈q.is,Sm i:=by
 have two:∀ {x y:Nat},x<k.n->y<k.n->∀ i∈[(x:Int),(y:Int)],Sm i:=λhx hy i hi=>by
  simp only [aj,cj,or_false] at hi
  rcases hi with rfl|rfl<;>exact .of (by lia)
 cases q with
 | put x y=>exact two h.1 h.2.1
 | out x y=>exact two h.1 h.2.1
 | joined x y=>exact two h.1 h.2
 | way x y=>exact two h.1 h.2
 | side x=>exact λi hi=>two h h i (by rw [aA.mp hi];simp)
 | ties=>exact λi hi=>nomatch hi
 | account=>exact λi hi=>nomatch hi
theorem Ask.facts (q:Ask):32∉sS q.nm/\q.nm.length<=20/\sS q.nm≠[119,101,105,103,104]/\nm (sS q.nm)=some q.is.length/\q.is.length<=2:=by
 cases q<;>(dsimp only [Ask.nm,Ask.is];refine ⟨by decide,by decide,by decide,?_,?_⟩)<;>first|rfl|decide|exact aB 2|exact (by decide:1<=2)
theorem KD:Rn (bF K C A Pt) (BE K C A (gH K C A Pt) (dj K C)) IP:=by
 rintro vs H Q E (⟨p,dx,kp,dk,a,as,k,q,rfl,ct,h,ok,hq,hP,Zzq⟩|⟨p,dx,kp,n,rfl,ct,hp,hn1,hn2,Zzq⟩)
 .show iZ K C A ⟨C,C⟩ E0 _ _ _ _ H
  obtain ⟨f1,f2,f3,f4,f5⟩:=Ask.facts q;refine Dg ct h.d f1 f2 f3 f4 f5 (VE.sm hq ok.n6) λacc H1 S1 ga=>?_;exact .inl ⟨p,dx,kp,dk,a,as,k,q,acc,rfl,ga,ct,h.same S1,ok,hq,hP.same S1,λas' H' h' P' F'=>Zzq as' H' h' P' ((Fm.of S1).trans F')⟩
 .show iZ K C A ⟨C,C⟩ E0 _ _ _ _ H
  refine Dg ct hp (by decide) (by decide) (by decide) (show nm (sS "new")=some 1 by decide) (by show 1<=2;decide) (λi hi=>by rw [aA.mp hi];exact .of (by lia)) λacc H1 S1 ga=>?_;exact .inr ⟨p,dx,kp,n,acc,rfl,ga,ct,S1 _ _ hp,hn1,hn2,λkp dk a T as H' h' fr B=>Zzq kp dk a T as H' h' (λb hb=>S1.free (fr b hb)) λb o e hb=>B _ _ (S1 _ _ e) hb⟩
def qK (K:aa) (C:ai) (A:CA) (X:EC):Sp:=λvs H _ E=>∃ (p dx kp dk:ai) (a:AL) (as:Nat->List ai) (k:Ks) (x y:Nat) (b:Bool),vs=[.ref p,.str (if b then Ask.put x y else Ask.out x y).row]/\Gn K C A/\DS C A H p dx kp dk a as k/\k.n<=60/\VE k (if b then .out x y else .put x y)/\∀ H',bY H H'->E (.ref (if b then X.vO else X.pP)) none H'
theorem E4:Rx (qK K C A X) (λE=>iZ K C A X E (ff K C A X) (dj K C)) IP:=by
 rintro vs H Q E ⟨p,dx,kp,dk,a,as,k,x,y,b,rfl,ct,h,hn,hq,Zzq⟩
 have hxy:x<k.n/\y<k.n:=by cases b<;>exact ⟨hq.1,hq.2.1⟩
 have sm:∀ i∈[(x:Int),(y:Int)],Sm i:=λi hi=>by
  simp only [aj,cj,or_false] at hi
  rcases hi with rfl|rfl<;>exact .of (by lia)
 cases b with
 | true=>exact Dg ct h.d (w:="put") (by decide) (by decide) (by decide) (show nm (sS "put")=some 2 by decide) (aB 2) sm λacc H1 S1 ga=>⟨p,dx,kp,dk,a,as,k,x,y,true,acc,rfl,ga,ct,h.same S1,hq,λH' S=>Zzq H' (S1.trans S)⟩
 | false=>exact Dg ct h.d (w:="out") (by decide) (by decide) (by decide) (show nm (sS "out")=some 2 by decide) (aB 2) sm λacc H1 S1 ga=>⟨p,dx,kp,dk,a,as,k,x,y,false,acc,rfl,ga,ct,h.same S1,hq,λH' S=>Zzq H' (S1.trans S)⟩
end
variable {X:EC}
section
variable {X:EC}{a' a1 a2:AL}{as1 as2:Nat->List ai}{p1 dx1 p2 dx2 kp dk:ai}{c1 c2 c3 c4:Int}{k k1 k2:Ks}
theorem KP.keep (h:KP C A H p dx a n T ts as R c1 c2 c3 c4) {X:List ai}(F:Fm X H H') (h1:∀ b∈X,b∉p::a.L::fp a) (h2:∀ b∈X,(∀ c e f,H b=some (.ins c e f)->f.lookup ("rows":aY)=none/\f.lookup ("woods":aY)=none)/\∀ r:List Int,r≠[]->H b≠some (.lst (r.map V.int))):KP C A H' p dx a n T ts as R c1 c2 c3 c4:=by
 obtain ⟨w,hw,hp⟩:=h.ob;refine ⟨⟨w,hw,F _ _ (λz=>h1 _ z ah) hp⟩,h.lv.keep F (λx f e _ hx hm=>?_) (λb hb z=>h1 b z (ae _ (ae _ hb))) (λz=>h1 _ z (ae _ ah)) (λb r hr e z=>(h2 b z).2 r hr e),h.iv,h.jn,h.tp⟩
 rcases hx with z|⟨v,hv,z⟩
 .have:=((h2 x hm).1 _ _ _ (by rw [z];exact h.lv.ob)).2;rw [fL4] at this;cases this
 .obtain ⟨i,_,hi⟩:=h.lv.at hv;have:=((h2 x hm).1 _ _ _ (by rw [z];exact (h.lv.wa i v hi).ob)).1;rw [iI] at this;cases this
theorem KP.knd (h:KP C A H p dx a n T ts as R c1 c2 c3 c4):∀ b∈p::fp a,(∀ c e f,H b=some (.ins c e f)->f.lookup ("rows":aY)=none/\f.lookup ("woods":aY)=none)/\∀ r:List Int,r≠[]->H b≠some (.lst (r.map V.int)):=by
 obtain ⟨w,hw,hp⟩:=h.ob;intro b hb
 rcases aj.mp hb with rfl|hb
 .refine ⟨λc e f z=>?_,λr _ z=>?_⟩<;>rw [hp] at z<;>cases z;exact ⟨xy,xy⟩
 .exact ⟨λc e f z=>absurd hb (h.lv.outI z),λr _ z=>h.lv.aaK z hb⟩
theorem KP.pt (h:KP C A H p dx a n T ts as R c1 c2 c3 c4) (hP:nU Pt H):Pt∉p::a.L::fp a:=λz=>by
 obtain ⟨ps,q⟩:=hP.tbl
 rcases aj.mp z with z|z
 .obtain ⟨w,_,hp⟩:=h.ob;rw [← z,q] at hp;cases hp
 .rcases aj.mp z with z|z
  .have:=h.lv.ls;rw [← z,q] at this;cases this
  .exact h.lv.out q (λ_ z=>nomatch z) (λ_ _ z=>nomatch z) z
theorem KP.has (h:KP C A H p dx a n T ts as R c1 c2 c3 c4):∀ b∈p::a.L::fp a,H b≠none:=λb hb e=>by
 rcases aj.mp hb with rfl|hb
 .obtain ⟨w,_,hp⟩:=h.ob;rw [hp] at e;cases e
 .rcases aj.mp hb with rfl|hb
  .rw [h.lv.ls] at e;cases e
  .exact h.lv.LJ e hb
def Ap (p:ai) (a:AL) (p':ai) (a':AL):Prop:=∀ b∈p::a.L::fp a,b∉p'::a'.L::fp a'
theorem Ap.swap {p':ai}(h:Ap p a p' a'):Ap p' a' p a:=λb hb z=>h b z hb
theorem Ap.of (h:KQ C A H p dx a as k) {p':ai}(hn:∀ b∈p'::a'.L::fp a',H b=none):Ap p a p' a':=λb hb z=>h.has b hb (hn b z)
theorem in2 {b:ai}(h:b∈p::fp a):b∈p::a.L::fp a:=by
 rcases aj.mp h with rfl|h
 .exact ah
 .exact ae _ (ae _ h)
def f2 (Pt p1:ai) (a1:AL) (p2:ai) (a2:AL):List ai:=Pt::(p1::fp a1++(p2::fp a2))
theorem KP.off (h:KQ C A H p dx a as k) (h1:KQ C A H p1 dx1 a1 as1 k1) (h2:KQ C A H p2 dx2 a2 as2 k2) (hP:nU Pt H) (A1:Ap p a p1 a1) (A2:Ap p a p2 a2) (F:Fm (f2 Pt p1 a1 p2 a2) H H'):KQ C A H' p dx a as k:=by
 refine KP.keep h F (λb hb z=>?_) λb hb=>?_
 .rcases aj.mp hb with rfl|hb
  .exact KP.pt h hP z
  .rcases aT.mp hb with hb|hb
   .exact A1 b z (in2 hb)
   .exact A2 b z (in2 hb)
 .rcases aj.mp hb with rfl|hb
  .obtain ⟨ps,q⟩:=hP.tbl;refine ⟨λc e f z=>?_,λr _ z=>?_⟩<;>rw [q] at z<;>cases z
  .rcases aT.mp hb with hb|hb
   .exact KP.knd h1 b hb
   .exact KP.knd h2 b hb
theorem DS.off (h:DS C A H p dx kp dk a as k) (h1:KQ C A H p1 dx1 a1 as1 k1) (h2:KQ C A H p2 dx2 a2 as2 k2) (hP:nU Pt H) (A1:Ap kp a p1 a1) (A2:Ap kp a p2 a2) (F:Fm (f2 Pt p1 a1 p2 a2) H H'):DS C A H' p dx kp dk a as k:=by
 refine ⟨F _ _ (λz=>?_) h.d,KP.off h.kp h1 h2 hP A1 A2 F⟩
 rcases aj.mp z with z|z
 .exact hP.ne h.d (λ_ z=>nomatch z) z
 .rcases aT.mp z with z|z
  .exact KP.no h1 h.d z
  .exact KP.no h2 h.d z
theorem Fm.f1 (F:Fm (p1::Pt::fp a1) H H'):Fm (f2 Pt p1 a1 p2 a2) H H':=F.mono λb hb=>by
 rcases aj.mp hb with rfl|hb
 .exact ae _ (bT _ ah)
 .rcases aj.mp hb with rfl|hb
  .exact ah
  .exact ae _ (bT _ (ae _ hb))
theorem Fm.f2' (F:Fm (p2::Pt::fp a2) H H'):Fm (f2 Pt p1 a1 p2 a2) H H':=F.mono λb hb=>by
 rcases aj.mp hb with rfl|hb
 .exact ae _ (a8 _ ah)
 .rcases aj.mp hb with rfl|hb
  .exact ah
  .exact ae _ (a8 _ (ae _ hb))
end
inductive bZ (K:aa) (C:ai) (vs:List V) (H:Hp) (Q:VK) (E:XK):Prop
 | mk (a:_) (ns:List Int) (k:Nat):vs=[.ref a,.int k]->cW K H a (ns.map V.int)->(∀ z:Int,Q (.int z) H)->bZ K C vs H Q E
theorem AD:Rn (bZ K C) (sU K C) Nm:=by
 rintro vs H Q E ⟨a,ns,k,rfl,hS,q⟩;unfold sU;lk;refine Ww hS ?_;lk;refine nY (λh=>?_) λh=>?_
 .lk
  have hk:k<ns.length:=by lia
  refine MR hS rfl (ay hk) ?_;exact q _
 .lk;exact q _
inductive lY (K:aa) (C:ai) (vs:List V) (H:Hp) (Q:VK) (E:XK):Prop
 | mk (c:Int) (n:Nat):vs=[.int c,.int n]->2<=n->(∀ (x y:Nat) q,x<n->y<n->x≠y->H q=none->Q (.ref q) (upd H q (.tup [.int x,.int y])))->lY K C vs H Q E
theorem ng {i:Int}(h:0<n):∃ x:Nat,x<n/\i%(n:Int)=x:=by
 have h1:=Int.emod_nonneg i (b:=(n:Int)) (by lia);have h2:=Int.emod_lt_of_pos i (b:=(n:Int)) (by lia);exact ⟨(i%(n:Int)).toNat,by lia,by lia⟩
theorem GX:Rn (lY K C) (yG K C) abC:=by
 rintro vs H Q E ⟨c,n,rfl,hn,k⟩
 have fin:∀ (x y:Nat),x<n->y<n->(bB (eO (cu (bU (gY K) (ak 2) (ak 3))) (dB (bU (rI (λ_ j=>0<j) λi j=>.int (i%j)) (bU jk (ak 2) (tC (.int 1))) (ak 1)) (bf 3)) cM) (cC (qx (ao (ak 2) (ao (ak 3) aR))))) { nx:=λ_ H'=>Q .non H',rt:=Q } [some (.int c),some (.int n),some (.int x),some (.int y)] H:=λx y hx hy=>by
  lk;refine nY (λe=>?_) λe=>?_
  .have e:=e9.mp e;obtain ⟨z,hz,ez⟩:=ng (i:=(x:Int)+1) (n:=n) (by lia);lk;rw [ez];refine ⟨Bl,λq hq=>k x z q hx hz (λe'=>?_) hq⟩;subst e'
   by_cases c:x+1<n
   .rw [Int.emod_eq_of_lt (by lia) (by lia)] at ez;lia
   .rw [show (x:Int)+1=n by lia,Int.emod_self] at ez;lia
  .lk;exact ⟨Bl,λq hq=>k x y q hx hy (λe'=>e (by rw [e'])) hq⟩
 unfold yG;obtain ⟨x,hx,ex⟩:=ng (i:=c) (n:=n) (by lia);obtain ⟨y,hy,ey⟩:=ng (i:=(x:Int)+1+c/20%3) (n:=n) (by lia);lk;rw [ex,ey];refine nY (λ_=>?_) λ_=>?_
 .iterate 12 k_ne
  obtain ⟨z,hz,ez⟩:=ng (i:=c*48271%2147483647) (n:=n) (by lia);rw [ez];exact fin x z hx hz
 .k_ne;exact fin x y hx hy
inductive hZ (K:aa) (C:ai) (vs:List V) (H:Hp) (Q:VK) (E:XK):Prop
 | mk (t:Tt):vs=[pF t]->xI H t->Q (.str (Ee (row t))) H->hZ K C vs H Q E
theorem E5:Rn (hZ K C) (wq K C) ["_law_part","_law_word"]:=by
 rintro vs H Q E ⟨t,rfl,ok,k⟩;have hl:=J1 ok.h5;unfold wq;refine Bg (yg (X4 ok.h5 (λG g=>?_) (λG g=>?_) (λG g=>?_) ?_))
 .lk;exact iq (kU.of ok.h1) (b8 (j:=0) rfl rfl) g
 .lk;refine iq (kU.of ok.h1) (b8 (j:=1) rfl rfl) ?_;lk;refine lq (cW.of ok.h3) ?_;rw [ag];exact g
 .lk;refine iq (kU.of ok.h1) (b8 (j:=2) rfl rfl) ?_;lk;exact lq (cW.of ok.h2) g
 .lk;refine iq (kU.of ok.h1) (b8 (j:=3) rfl rfl) ?_;unfold Ee at k
  rcases ok.h4 with ⟨e,ef⟩|⟨p,b,e,ef,hb⟩
  .rw [show (row t).fd=none from e] at k;simp only [IK] at k;rw [ef];refine ⟨_,rfl,?_⟩;refine nY (λ_=>?_) λz=>absurd rfl z;lk;exact k
  .rw [show (row t).fd=some p from e] at k;have hs:=ok.h5.sm.2.2.2 p e;have l1:=(fW hs.1).1;have l2:=(fW hs.2).1
   have c1:(av ">").length=1:=by decide
   have c2:(av "-").length=1:=by decide
   rw [ef];refine ⟨_,rfl,?_⟩;refine nY nofun λ_=>?_;lk;refine iE (by lia) ?_;lk;refine iq (kU.of ok.h1) (b8 (j:=3) rfl rfl) ?_;rw [ef];lk;refine iq (kU.of hb) (b8 (j:=0) rfl rfl) ?_;lk;refine vN hs.1 ?_;refine iE (by rw [aD];lia) ?_;lk;refine iE (by rw [aD,aD];lia) ?_;lk;refine iq (kU.of ok.h1) (b8 (j:=3) rfl rfl) ?_;rw [ef];lk;refine iq (kU.of hb) (b8 (j:=1) rfl rfl) ?_;lk;refine vN hs.2 ?_;refine iE (by rw [aD,aD,aD];lia) ?_
   have e2:Y4 (row t)++av ">"++iS p.1++av "-"++iS p.2=Y4 (row t)++(av ">"++JZ p.1 p.2):=by
    unfold JZ;simp only [iH]
   rw [e2];exact k
inductive jm (K:aa) (C:ai) (vs:List V) (H:Hp) (Q:VK) (E:XK):Prop
 | mk (u:Ti×ai):vs=[Cs u]->BF H u->STi u.1->Q (.str (qY u.1)) H->jm K C vs H Q E
theorem KE:Rn (jm K C) (BA K C) ["_law_row","_law_word"]:=by
 rintro vs H Q E ⟨u,rfl,hr,⟨h1,h2,h3⟩,k⟩;have l1:=(fW h1).1;have l2:=(fW h2).1;have l3:=(fW h3).1
 have c1:(av ":").length=1:=by decide
 have c2:(av "-").length=1:=by decide
 unfold BA;unfold qY JZ at k;lk;refine iq (kU.of hr) (b8 (j:=0) rfl rfl) ?_;lk;refine vN h1 ?_;lk;refine iE (by lia) ?_;lk;refine iq (kU.of hr) (b8 (j:=1) rfl rfl) ?_;lk;refine vN h2 ?_;refine iE (by rw [aD];lia) ?_;lk;refine iE (by rw [aD,aD];lia) ?_;lk;refine iq (kU.of hr) (b8 (j:=2) rfl rfl) ?_;lk;refine vN h3 ?_;refine iE (by rw [aD,aD,aD];lia) ?_;lk;refine iq (kU.of hr) (b8 (j:=3) rfl rfl) ?_;refine ⟨u.1.wd,rfl,?_⟩;generalize u.1.wd=b at k
 cases b with
 | true =>
  refine kB ?_;lk
  exact iE (by rw [aD,aD,aD,aD,show (av "*").length=1 by decide];lia) k
 | false =>
  refine je ?_;rw [if_neg (by decide),IK] at k;lk;exact k
inductive dF (K:aa) (C:ai) (vs:List V) (H:Hp) (Q:VK) (E:XK):Prop
 | mk (p:_) (ws:List aY):vs=[.ref p]->H p=some (.lst (ws.map V.str))->(ws.map (·.length)).sum+ws.length<=1000000->Q (.str (Xk ws)) H->dF K C vs H Q E
theorem E6:Rn (dF K C) (qG K C) Bo:=by
 rintro vs H Q E ⟨p,ws,rfl,hp,hl,k⟩;unfold qG;unfold Xk at k;lk;refine nY nofun λ_=>?_;lk;refine lq (cW.of hp) ?_;rw [ag];lk
 cases ws with
 | nil =>
  rw [if_pos rfl] at k;refine nY (λ_=>?_) λz=>absurd rfl z;lk
  exact k
 | cons a r =>
  rw [if_neg (by simp)] at k;refine nY (λz=>absurd (e9.mp z) (by simp;lia)) λ_=>?_;lk;refine ⟨rfl,?_⟩;lk;exact ⟨_,p,_,rfl,rfl,cW.of hp,by rw [Te];show _+_*1<=_;lia,k⟩
variable {X:EC}
section
variable {P:bQ}{w:cK}{mg:aY->Option au}{X:EC}
theorem pG {k:Ks}{x y:Nat}{b:Bool}(h:xf k x y):pnF k b x y=(if b then k else otF k x y)/\sdT k b x y=(if b then av "tied" else xc k (.out x y)):=⟨if_pos h,if_pos h⟩
theorem uI {k:Ks}{x y:Nat}{b:Bool}(h:¬ xf k x y):pnF k b x y=(if b then ptF k x y else k)/\sdT k b x y=(if b then xc k (.put x y) else av "gone"):=⟨if_neg h,if_neg h⟩
inductive nK (K:aa) (C:ai) (A:CA) (vs:List V) (H:Hp) (Q:VK) (E:XK):Prop
 | mk (p dx a as:_) (k:Ks) (x y:Nat):vs=[.ref p,.int x,.int y]->Gn K C A->KQ C A H p dx a as k->Kok k->x<k.n->y<k.n->x≠y->(∀ as' H',KQ C A H' p dx a as' (pnF k true x y)->Fm (p::fp a) H H'->Q (.str (sdT k true x y)) H')->nK K C A vs H Q E
theorem KF (T:Txt P w K mg C A X):Rn (nK K C A) (uo K C A X (W5 (gp K C A) (eX K C A X))) Xt:=by
 rintro vs H Q E ⟨p,dx,a,as,k,x,y,rfl,ct,h,ok,hx,hy,hxy,Zzq⟩;obtain ⟨v,hv,hp⟩:=h.ob;have n6:=ok.n6;have ln:=ok.ln;unfold uo;lk;refine ⟨λc _ H2=>c=.ref X.vO/\bY H H2/\xf k x y,?_,?_⟩
 .refine yg (fG (ft rfl ⟨p,dx,_,rfl,hp,xy,?_⟩));lk
  by_cases c:xf k x y
  .exact .inr ⟨p,dx,a,k.n,k.T,k.s.1,as,k.s.2,k.c1,k.c2,k.c3,k.c4,x,y,rfl,ct.a,h,hx,hy,hxy,c,λH' S=>⟨rfl,S,c⟩⟩
  .refine .inl ⟨p,dx,a,k.n,k.T,k.s.1,as,k.s.2,k.c1,k.c2,k.c3,k.c4,x,y,rfl,ct.a,h,by lia,hx,hy,hxy,c,by lia,λb as' H' hb h' F'=>?_⟩;have hb:b=Y7 k x y:=hb;subst hb;have Zzq:=Zzq as' H' (by rw [(uI c).1];exact h') F';rw [(uI c).2] at Zzq;have Zzq:Q (.str (if Y7 k x y=true then "wood" else "beside")) H':=Zzq;lk;refine ⟨false,rfl,je ?_⟩;lk;refine ⟨Y7 k x y,rfl,?_⟩
   cases e:Y7 k x y with
   | true =>
    rw [e,if_pos rfl] at Zzq;refine kB ?_;lk
    exact Zzq
   | false =>
    rw [e,if_neg (by decide)] at Zzq;refine je ?_;lk;exact Zzq
 .rintro cls H2 σ' ⟨rfl,S,c⟩ hl;refine ⟨X.vO,rfl,true,T.sN.e2,kB ?_⟩;have Zzq:=Zzq as H2 (by rw [(pG c).1];exact h.same S) (Fm.of S);rw [(pG c).2] at Zzq;refine yg (Iw (vi ?_));refine Bg (yh (ub (ft (fZ (by lia)) ?_)));refine ⟨true,rfl,kB ?_⟩;lk;exact Zzq
inductive lH (K:aa) (C:ai) (A:CA) (Pt:ai) (vs:List V) (H:Hp) (Q:VK) (E:XK):Prop
 | mk (p dx a as:_) (k:Ks) (x y:Nat):vs=[.ref p,.int x,.int y]->Gn K C A->KQ C A H p dx a as k->Kok k->x<k.n->y<k.n->x≠y->nU Pt H->(∀ as' H',KQ C A H' p dx a as' (pnF k false x y)->nU Pt H'->Fm (p::Pt::fp a) H H'->(xf k x y->Pd (Mn k x y).1<=11000/\(Mn k x y).2.1.length<k.s.1.length/\k.T<=8/\(uF k.s.1 x y).cF<=k.T)->Q (.str (sdT k false x y)) H')->lH K C A Pt vs H Q E
theorem abI:∀ us:List Tt,(∀ u∈us,Bw (row u))->Pd (us.map row)<=1000*us.length
 | [],_=>aB _
 | u::us,h=>by
  have h1:=(h u ah).2.2.1;have h2:=abI us λv hv=>h v (ae _ hv);unfold Pd at h2 ⊢;rw [bu,bu,fX,bz];lia
theorem KG (T:Txt P w K mg C A X):Rn (lH K C A Pt) (uq K C A X (dF K C) (W5 (iQ K C A Pt) (gv K C A X)) (hZ K C)) Xu:=by
 rintro vs H Q E ⟨p,dx,a,as,k,x,y,rfl,ct,h,ok,hx,hy,hxy,hP,Zzq⟩;obtain ⟨v,hv,hp⟩:=h.ob;have n6:=ok.n6;have ln:=ok.ln;unfold uq;lk;refine ⟨Bl,λl0 hl0=>?_⟩;have S0:=bY.dm (o:=.lst []) hl0;generalize upd H l0 (.lst [])=H0 at S0;have h0:=h.same S0;lk;refine ⟨λc _ H2=>c=.ref X.pP/\bY H H2/\¬ xf k x y,?_,?_⟩
 .refine yg (fG (ft rfl ⟨p,dx,_,rfl,S0 _ _ hp,xy,?_⟩));lk
  by_cases c:xf k x y
  .refine .inl ⟨p,dx,a,k.n,k.T,k.s.1,as,k.s.2,k.c1,k.c2,k.c3,k.c4,x,y,rfl,ct.a,h0,n6,hx,hy,hxy,c,by lia,hP.same S0,λq us u as' H' hu eu gq oks hlu er h' hls P' F'=>?_⟩;have hlv:=(h.iv.lt u hu).2.2;obtain rfl:=abx h.iv.nd hu eu;have er:us.map row=(Mn k x y).1:=er;have hT8:=h.tp.small (by lia);rw [er] at h';lk;refine ⟨false,rfl,je ?_⟩;lk;refine .inl ⟨⟨_,cW.of gq⟩,λacc hacc=>?_⟩;refine qc (K:=K) us (λ_=>true) (λu=>.str (Ee (row u))) (λZ=>∃ o,Z=[o]) (by simp) (cW.of gq) hacc ⟨_,rfl⟩ (by rw [ag];lia) ?_ λH1 S1 g1=>?_
   .rintro i u x σ' H' G G' hi hx S' ⟨o,rfl⟩ hG hG'
    have ex:x=pF u:=by rw [aG,hi] at hx;exact (aL hx).symm
    subst ex;lk;refine kB ?_;lk;exact ⟨u,rfl,(oks u (aS hi)).same S',hG rfl _ ⟨_,rfl⟩⟩
   .have e:(us.filter λ_=>true).map (λu=>V.str (Ee (row u)))=(us.map λu=>Ee (row u)).map V.str:=by rw [il.mpr (λ_ _=>rfl),bO];rfl
    rw [e] at g1;lk;refine ⟨acc,_,rfl,g1,X5 hlu λu h=>(oks u h).h5,?_⟩
    have Zzq:=Zzq as' H1 (by rw [(pG c).1];exact KP.same h' S1) (P'.same S1) ((Fm.of S0).trans (F'.trans (Fm.of S1))) λ_=>⟨by rw [← er];have:=abI us λu h=>(oks u h).h5;lia,hls,by lia,hlv⟩
    rw [(pG c).2] at Zzq
    have e2:us.map (λu=>Ee (row u))=(Mn k x y).1.map Ee:=by rw [← er,bO];rfl
    rw [e2];exact Zzq
  .exact .inr ⟨p,dx,a,k.n,k.T,k.s.1,as,k.s.2,k.c1,k.c2,k.c3,k.c4,x,y,rfl,ct.a,h0,hx,hy,hxy,c,λH' S=>⟨rfl,S0.trans S,c⟩⟩
 .rintro cls H2 σ' ⟨rfl,S,c⟩ hl;refine ⟨X.pP,rfl,true,T.nR.e1,kB ?_⟩;have Zzq:=Zzq as H2 (by rw [(uI c).1];exact h.same S) (hP.same S) (Fm.of S) λz=>absurd z c;rw [(uI c).2] at Zzq;refine yg (Iw (vi ?_));refine Bg (yh (ub (ft (fZ (by lia)) ?_)));refine ⟨true,rfl,kB ?_⟩;lk;exact Zzq
inductive jw (K:aa) (C:ai) (A:CA) (Pt:ai) (vs:List V) (H:Hp) (Q:VK) (E:XK):Prop
 | mk (p dx kp dk a as:_) (k:Ks) (x y:Nat) (b:Bool):vs=[.ref p,.str (if b then Ask.put x y else Ask.out x y).row]->Gn K C A->DS C A H p dx kp dk a as k->Kok k->x<k.n->y<k.n->x≠y->nU Pt H->(∀ as' H',DS C A H' p dx kp dk a as' (pnF k b x y)->nU Pt H'->Fm (kp::Pt::fp a) H H'->Q (.str (sdT k b x y)) H')->jw K C A Pt vs H Q E
theorem GY (T:Txt P w K mg C A X):Rn (jw K C A Pt) (r9 K C A X (W5 (bF K C A Pt) (qK K C A X))) XA:=by
 rintro vs H Q E ⟨p,dx,kp,dk,a,as,k,x,y,b,rfl,ct,h,ok,hx,hy,hxy,hP,Zzq⟩;unfold r9;lk
 have calm:∀ {E:XK},VE k (if b then .put x y else .out x y)->pnF k b x y=nxF k (if b then .put x y else .out x y)->sdT k b x y=xc k (if b then .put x y else .out x y)->∀ G:VK,(∀ H',Q (.str (sdT k b x y)) H'->G (.str (sdT k b x y)) H')->W5 (bF K C A Pt) (qK K C A X) [.ref p,.str (if b then Ask.put x y else Ask.out x y).row] H G E:=λ{E} o1 e1 e2 G hG=>by
  refine .inl (.inl ⟨p,dx,kp,dk,a,as,k,_,rfl,ct,h,ok,o1,hP,λas' H' h' P' F'=>?_⟩);rw [← e2];exact hG H' (Zzq as' H' (by rw [e1];exact h') P' F')
 refine ⟨λc _ H2=>c=.ref (if b then X.vO else X.pP)/\bY H H2/\(xf k x y↔b=true),?_,?_⟩
 .refine yg (fG (ft rfl ⟨p,dx,_,rfl,h.d,QR,?_⟩));lk
  by_cases c:xf k x y
  .cases b with
   | true=>exact .inr ⟨p,dx,kp,dk,a,as,k,x,y,true,rfl,ct,h,ok.n6,⟨hx,hy,hxy,c⟩,λH' S=>⟨rfl,S,λ_=>rfl,λ_=>c⟩⟩
   | false =>
    refine calm ⟨hx,hy,hxy,c⟩ (pG c).1 (pG c).2 _ λH' q=>?_;lk;exact q
  .cases b with
   | true =>
    refine calm ⟨hx,hy,hxy,c⟩ (uI c).1 (uI c).2 _ λH' q=>?_;lk
    exact q
   | false=>exact .inr ⟨p,dx,kp,dk,a,as,k,x,y,false,rfl,ct,h,ok.n6,⟨hx,hy,hxy,c⟩,λH' S=>⟨rfl,S,λz=>absurd z c,λz=>nomatch z⟩⟩
 .rintro cls H2 σ' ⟨rfl,S,c⟩ hl
  cases b with
  | true =>
   have c:=c.mpr rfl;have Zzq:=Zzq as H2 (by rw [(pG c).1];exact h.same S) (hP.same S) (Fm.of S);rw [(pG c).2] at Zzq;refine ⟨X.vO,rfl,true,T.sN.e2,kB ?_⟩;refine yg (Iw (vi ?_))
   exact lT (ft (fZ (by lia)) Zzq)
  | false =>
   have c:¬ xf k x y:=λz=>nomatch c.mp z;have Zzq:=Zzq as H2 (by rw [(uI c).1];exact h.same S) (hP.same S) (Fm.of S);rw [(uI c).2] at Zzq;refine ⟨X.pP,rfl,false,T.nR.e2,je ⟨true,T.nR.e1,kB ?_⟩⟩;refine yg (Iw (vi ?_));exact lT (ft (fZ (by lia)) Zzq)
end
variable {X:EC}
section
variable {X:EC}
theorem aas {ws:List aY}(h:ws≠[]):Xk ws=Txt.join (av " ") ws:=if_neg h
theorem QS {acc:ai}{is:List Int}(g:H acc=some (.lst ((is.map iS).map V.str))) (hn:is≠[]) (hl:is.length<=1000) (hi:∀ i∈is,Sm i) (k:Q (.str (nbT is)) H):D8 K (.str " ") [.ref acc] H Q:=by
 have:=QQ hl hi;refine ⟨_,acc,is.map iS,rfl,rfl,cW.of g,by rw [Te];show _+_*1<=_;lia,?_⟩;rw [← aas λz=>hn (List.map_eq_nil_iff.mp z)];exact k
inductive fz (K:aa) (C:ai) (A:CA) (vs:List V) (H:Hp) (Q:VK) (E:XK):Prop
 | mk (p dx a as:_) (k:Ks) (wy x y:Nat):vs=[.ref p,.int wy,.int x,.int y]->wy<5->Ct K C A->KQ C A H p dx a as k->Kok k->x<k.n->y<k.n->(∀ t H',bY H H'->H' t=some (.tup [.str (J2 wy x y).row,.str (xc k (J2 wy x y))])->Q (.ref t) H')->fz K C A vs H Q E
theorem E7:Rn (fz K C A) (qH K C A (eI K C A) (dF K C) (cX K C A) (jm K C) (cN K C A) (dS K C A) (cw K C A)) Xr:=by
 rintro vs H Q E ⟨p,dx,a,as,k,wy,x,y,rfl,hw,ct,h,ok,hx,hy,Zzq⟩;obtain ⟨v,hv,hp⟩:=h.ob;have n6:=ok.n6;have ln:=ok.ln;have sx:Sm (x:Int):=.of (by lia);have sy:Sm (y:Int):=.of (by lia);have lx:=(fW sx).1;have ly:=(fW sy).1
 have b1:(av " ").length=1:=by decide
 have D:=h.iv.wd 0 (bC _)
 have sm0:∀ {x:Nat},x<k.n->∀ z∈k.s.2 0 x,Sm z:=λhx z hz=>by
  obtain ⟨j,hj,rfl,_⟩:=D.Mo _ hx z hz;exact .of (by lia)
 have fin:∀ {H1:Hp}{r d:aY},bY H H1->r=(J2 wy x y).row->d=xc k (J2 wy x y)->∀ t,H1 t=none->Q (.ref t) (upd H1 t (.tup [.str r,.str d])):=λS e1 e2 t ht=>Zzq t _ (S.trans (bY.dm ht)) (by rw [aK,e1,e2]);unfold qH;lk;refine vN sx ?_;refine iE (by lia) ?_;lk;refine iE (by rw [aD];lia) ?_;lk;refine vN sy ?_;refine iE (by rw [aD,aD];lia) ?_
 have hlt:(av " "++iS x++av " "++iS y).length<=200:=by rw [aD,aD,aD];lia
 have er:∀ w:aY,w++(av " "++iS x++av " "++iS y)=Eg w [(x:Int),y]:=λw=>aeW w x y;generalize av " "++iS x++av " "++iS y=tail at hlt er;lk;refine nY (λc=>?_) λc0=>?_
 .obtain rfl:wy=0:=by have:=e9.mp c;lia
  lk;refine iE (by rw [show (av "joined").length=6 by decide];lia) ?_;rw [er];refine gF (Wm (ub (fG (ft rfl ⟨p,dx,_,rfl,hp,xy,?_⟩))));lk;refine ⟨p,dx,a,k.n,k.T,k.s.1,as,k.s.2,k.c1,k.c2,k.c3,k.c4,x,y,rfl,ct,h,hx,hy,_,rfl,?_⟩;refine nY (λc=>?_) λc=>?_
  .lk;exact ⟨Bl,fin (λ_ _ e=>e) rfl (if_pos c).symm⟩
  .lk;exact ⟨Bl,fin (λ_ _ e=>e) rfl (if_neg c).symm⟩
 lk;refine nY (λc=>?_) λc1=>?_
 .obtain rfl:wy=1:=by have:=e9.mp c;lia
  lk;refine fG (ft rfl ⟨p,dx,_,rfl,hp,xy,?_⟩);lk;refine ⟨p,dx,a,k.n,k.T,k.s.1,as,k.s.2,k.c1,k.c2,k.c3,k.c4,x,y,rfl,ct,h,n6,hx,hy,λc=>?_,λc q H1 S1 gq hlq=>?_⟩
  .lk;refine nY (λ_=>?_) λz=>absurd rfl z;lk;refine iE (by rw [show (av "way").length=3 by decide];lia) ?_;rw [er];lk;exact ⟨Bl,fin (λ_ _ e=>e) rfl (if_neg c).symm⟩
  .lk;refine nY nofun λ_=>?_;lk;refine iE (by rw [show (av "way").length=3 by decide];lia) ?_;rw [er];lk;refine ⟨rfl,?_⟩;lk;refine .inl ⟨⟨_,cW.of gq⟩,λacc hacc=>X3 (.inl ⟨rfl,gq⟩) hacc (by lia) (λi hi=>sm0 hx i (Qs i hi)) λH2 S2 g2=>?_⟩;lk;refine QS g2 (ada (D.me x hx)) (by lia) (λi hi=>sm0 hx i (Qs i hi)) ?_;lk;exact ⟨Bl,fin (S1.trans S2) rfl (if_pos c).symm⟩
 lk;refine nY (λc=>?_) λc2=>?_
 .obtain rfl:wy=2:=by have:=e9.mp c;lia
  lk;refine vN sx ?_;refine iE (by rw [show (av "side ").length=5 by decide];lia) ?_;rw [row1 (w:="side") (Rs.ext (by decide))];lk;refine ⟨rfl,?_⟩;lk;refine fG (ft rfl ⟨p,dx,_,rfl,hp,xy,?_⟩);lk;refine ⟨p,dx,a,k.n,k.T,k.s.1,as,k.s.2,k.c1,k.c2,k.c3,k.c4,x,rfl,ct,h,n6,hx,λq hq hlq hin hne=>?_⟩;refine ⟨q,rfl,.inl ⟨⟨_,cW.of aK⟩,λacc hacc=>X3 (.inl ⟨rfl,aK⟩) hacc (by lia) (λi hi=>sm0 hx i (hin i hi)) λH2 S2 g2=>?_⟩⟩;lk;refine QS g2 hne (by lia) (λi hi=>sm0 hx i (hin i hi)) ?_;lk;exact ⟨Bl,fin ((bY.dm hq).trans S2) rfl rfl⟩
 lk;refine nY (λc=>?_) λc3=>?_
 .obtain rfl:wy=3:=by have:=e9.mp c;lia
  lk;refine fG (ft rfl ⟨p,dx,_,rfl,hp,xy,?_⟩);lk;refine ⟨p,dx,a,k.n,k.T,k.s.1,as,k.s.2,k.c1,k.c2,k.c3,k.c4,rfl,ct,h,by lia,λq us H1 hq gq fl pm et S1=>?_⟩
  have hul:us.length=k.s.1.length:=by have:=pm.length_eq;rwa [ag] at this
  have hT8:=h.tp.small (by lia)
  have st:∀ u∈us,STi u.1:=λu hu=>by
   obtain ⟨h1,h2,h3⟩:=h.iv.lt u.1 (pm.mem_iff.mp (bq hu));exact ⟨.of (by lia),.of (by lia),.of (by lia)⟩
  refine ⟨q,rfl,.inl ⟨⟨_,cW.of gq⟩,λacc hacc=>?_⟩⟩;refine qc (K:=K) us (λ_=>true) (λu=>.str (qY u.1)) (λZ=>∃ o,Z=[o]) (by simp) (cW.of gq) hacc ⟨_,rfl⟩ (by rw [ag];lia) ?_ λH2 S2 g2=>?_
  .rintro i u x σ' H' G G' hi hx S' ⟨o,rfl⟩ hG hG'
   have ex:x=Cs u:=by rw [aG,hi] at hx;exact (aL hx).symm
   subst ex;lk;refine kB ?_;lk;exact ⟨u,rfl,S' _ _ (fl u (aS hi)),st u (aS hi),hG rfl _ ⟨_,rfl⟩⟩
  .have e:(us.filter λ_=>true).map (λu=>V.str (qY u.1))=(us.map λu=>qY u.1).map V.str:=by rw [il.mpr (λ_ _=>rfl),bO];rfl
   rw [e] at g2
   have e2:us.map (λu=>qY u.1)=(tiF k.s.1).map r4T:=by
    rw [← et,bO];exact eV λu _=>(Xl u.1).symm
   lk;refine ⟨acc,_,rfl,g2,Tg (by lia) st,?_⟩;rw [e2];lk;exact ⟨Bl,fin (S1.trans S2) rfl rfl⟩
 .obtain rfl:wy=4:=by
   have n0:wy≠0:=λz=>c0 (by rw [z];rfl);have n1:wy≠1:=λz=>c1 (by rw [z];rfl);have n2:wy≠2:=λz=>c2 (by rw [z];rfl);have n3:wy≠3:=λz=>c3 (by rw [z];rfl);lia
  have hT8:=h.tp.small (by lia);have hc:=Xn (T:=k.T) k.s.1 λt ht=>(h.iv.lt t ht).2.2;have hm:k.T*k.s.1.length<=1000*63:=Nat.mul_le_mul (by lia) (by lia)
  have sm:∀ i∈[k.c1,k.c2,k.c3,k.c4,cdF k],Sm i:=λi hi=>by
   simp only [aj,cj,or_false] at hi
   rcases hi with rfl|rfl|rfl|rfl|rfl
   .exact ok.m1
   .exact ok.m2
   .exact ok.m3
   .exact ok.m4
   .refine .of ?_;unfold cdF
    have:((k.T*k.s.1.length:Nat):Int)<=63000:=by lia
    rw [Mi] at this;lia
  lk;refine ⟨rfl,?_⟩;lk;refine fG (ft rfl ⟨p,dx,_,rfl,hp,xy,?_⟩);lk;refine ⟨p,dx,a,k.n,k.T,k.s.1,as,k.s.2,k.c1,k.c2,k.c3,k.c4,rfl,ct,h,by lia,λt H1 S1 gt=>?_⟩;refine ⟨t,rfl,.inr (.inl ⟨⟨_,kU.of gt⟩,λacc hacc=>X3 (is:=[k.c1,k.c2,k.c3,k.c4,cdF k]) (.inr ⟨rfl,gt⟩) hacc (by show 5<=1000;decide) sm λH2 S2 g2=>?_⟩)⟩;lk;refine QS g2 (by simp) (by show 5<=1000;decide) sm ?_;lk;exact ⟨Bl,fin (S1.trans S2) rfl rfl⟩
end
variable {X:EC}
structure Dx where
 (p dx kp dk:ai) (a:AL) (p' dx':ai) (a':AL)
structure Pr (C:ai) (A:CA) (Pt:ai) (H:Hp) (d:Dx) (k:Ks):Prop where
 sd:∃ as,DS C A H d.p d.dx d.kp d.dk d.a as k
 sk:∃ as,KQ C A H d.p' d.dx' d.a' as k
 st:nU Pt H
abbrev fd (Pt:ai) (d:Dx):List ai:=f2 Pt d.kp d.a d.p' d.a'
structure Bk (k:Ks) (m:Nat):Prop where
 n1:1<=k.n
 n6:k.n<=60
 ln:k.s.1.length<=m
 m1:k.c1.natAbs<=20000*m
 m2:k.c2.natAbs<=20000*m
 m3:k.c3.natAbs<=20000*m
 m4:k.c4.natAbs<=20000*m
theorem Bk.ok {k:Ks}{m:Nat}(h:Bk k m) (hm:m<=45):Kok k:=by
 obtain ⟨h0,h1,h2,h3,h4,h5,h6⟩:=h;exact ⟨h1,by lia,.of (by lia),.of (by lia),.of (by lia),.of (by lia)⟩
theorem Bk.up {k:Ks}{m:Nat}(h:Bk k m):Bk k (m+1):=by
 obtain ⟨h0,h1,h2,h3,h4,h5,h6⟩:=h;exact ⟨h0,h1,by lia,by lia,by lia,by lia,by lia⟩
theorem Bk.put {k:Ks}{m x y:Nat}(h:Bk k m):Bk (ptF k x y) (m+1):=by
 obtain ⟨h0,h1,h2,h3,h4,h5,h6⟩:=h;refine ⟨h0,h1,?_,?_,a9 h4 (by lia),a9 h5 (by lia),a9 h6 (by lia)⟩
 .show (k.s.1++[_]).length<=m+1
  rw [bD];exact jM h2
 .show (k.c1+1).natAbs<=_
  lia
theorem Bk.out {k:Ks}{m x y:Nat}(h:Bk k m) (hz:Pd (Mn k x y).1<=11000/\(Mn k x y).2.1.length<k.s.1.length/\k.T<=8/\(uF k.s.1 x y).cF<=k.T):Bk (otF k x y) (m+1):=by
 obtain ⟨h0,h1,h2,h3,h4,h5,h6⟩:=h;obtain ⟨z1,z2,z3,z4⟩:=hz
 have hf:fdF (Mn k x y).1<=1:=by unfold fdF;split<;>decide
 refine ⟨h0,h1,?_,a9 h3 (by lia),?_,?_,?_⟩
 .show (Mn k x y).2.1.length<=m+1
  lia
 .show (k.c2+((Pd (Mn k x y).1+fdF (Mn k x y).1:Nat):Int)).natAbs<=_
  lia
 .show (k.c3+((Pd (Mn k x y).1:Nat):Int)).natAbs<=_
  lia
 .show (k.c4+((k.T:Int)-(uF k.s.1 x y).cF)).natAbs<=_
  lia
section
variable {X:EC}{d:Dx}{k:Ks}
theorem Pr.same (h:Pr C A Pt H d k) (S:bY H H'):Pr C A Pt H' d k:=⟨let ⟨as,q⟩:=h.sd;⟨as,q.same S⟩,let ⟨as,q⟩:=h.sk;⟨as,KP.same q S⟩,h.st.same S⟩
theorem Pr.no (h:Pr C A Pt H d k) {b:ai}(e:H b=none):b∉fd Pt d:=λz=>by
 obtain ⟨as,q⟩:=h.sd;obtain ⟨as',q'⟩:=h.sk
 rcases aj.mp z with z|z
 .obtain ⟨ps,t⟩:=h.st.tbl;rw [z,t] at e;cases e
 .rcases aT.mp z with z|z
  .exact KP.has q.kp b (in2 z) e
  .exact KP.has q' b (in2 z) e
theorem Pr.adq {k':Ks}(h:Pr C A Pt H d k) (ap:Ap d.kp d.a d.p' d.a') (h':DS C A H' d.p d.dx d.kp d.dk d.a as k') (P:nU Pt H') (F:Fm (d.kp::Pt::fp d.a) H H'):∃ as',KQ C A H' d.p' d.dx' d.a' as' k:=by
 obtain ⟨as1,q⟩:=h.sd;obtain ⟨as2,q'⟩:=h.sk;exact ⟨as2,KP.off q' q.kp q.kp h.st ap.swap ap.swap F.f1⟩
theorem aat (x y:Nat):av "put "++iS x++av " "++iS y=(Ask.put x y).row:=row2 (w:="put") (Rs.ext (by decide)) x y
theorem aau (x y:Nat):av "out "++iS x++av " "++iS y=(Ask.out x y).row:=row2 (w:="out") (Rs.ext (by decide)) x y
theorem X8 {s:String}{i j x y:Nat}{Z:L2.St}(hs:(av s).length<=10) (h1:Z[i]?=some (some (.int x))) (h2:Z[j]?=some (some (.int y))) (hx:x<60) (hy:y<60) (q:Q (.str (av s++iS x++av " "++iS y)) H) :
  bU dG (bU dG (bU dG (tC (.str (av s))) (jQ jR (ao (ak i) aR))) (tC (.str " "))) (jQ jR (ao (ak j) aR)) Z H Q:=by
 have sx:Sm (x:Int):=.of (by lia);have sy:Sm (y:Int):=.of (by lia);have lx:=(fW sx).1;have ly:=(fW sy).1
 have b1:(av " ").length=1:=by decide
 refine vJ (vJ (vJ (Iw (PQ (gF (ft h1 (nH (vN sx ?_))))))));refine iE (by lia) (Iw (iE (by rw [aD];lia) ?_));refine PQ (gF (ft h2 (nH (vN sy ?_))));exact iE (by rw [aD,aD];lia) q
inductive gj (K:aa) (C:ai) (A:CA) (Pt:ai) (vs:List V) (H:Hp) (Q:VK) (E:XK):Prop
 | mk (d:Dx) (k:Ks) (m:Nat) (c:Int):vs=[.ref d.p,.ref d.p',.int k.n,.int c]->Gn K C A->Ap d.kp d.a d.p' d.a'->Pr C A Pt H d k->Bk k m->m<=45->2<=k.n->(∀ k' H',Pr C A Pt H' d k'->Bk k' (m+1)->k'.n=k.n->Fm (fd Pt d) H H'->Q (.bl true) H')->gj K C A Pt vs H Q E
theorem pn_n (k:Ks) (b:Bool) (x y:Nat):(pnF k b x y).n=k.n:=by
 by_cases c:xf k x y
 .rw [(pG c).1];cases b<;>rfl
 .rw [(uI c).1];cases b<;>rfl
theorem GZ:Rn (gj K C A Pt) (yH K C A (lY K C) (cw K C A) (jw K C A Pt) (lH K C A Pt) (nK K C A)) abA:=by
 rintro vs H Q E ⟨d,k,m,c,rfl,ct,ap,h,bk,hm,hn,Zzq⟩;have ok:=bk.ok hm;have n6:=ok.n6;have ln:=ok.ln;have hT8:∀ {as},KQ C A H d.p' d.dx' d.a' as k->k.T<8:=λq=>q.tp.small (by lia)
 -- told to both
 have outs:∀ (x y:Nat) (H1:Hp) (o6 o7:Option V),bY H H1->x<k.n->y<k.n->x≠y->cC (bU (gY K) (cb (jw K C A Pt) [] E0 (ao (ak 0) (ao (bU dG (bU dG (bU dG (tC (.str "out ")) (jQ jR (ao (ak 4) aR))) (tC (.str " "))) (jQ jR (ao (ak 5) aR))) aR))) (cb (lH K C A Pt) [] E0 (ao (ak 1) (ao (ak 4) (ao (ak 5) aR))))) { nx:=λ_ H'=>Q .non H',rt:=Q } [some (.ref d.p),some (.ref d.p'),some (.int k.n),some (.int c),some (.int x),some (.int y),o6,o7] H1:=λx y H1 o6 o7 S1 hx hy hxy=>by
  have h1:=h.same S1;obtain ⟨as,q⟩:=h1.sd;refine lT (vJ (JG (gF (ft rfl (gF (X8 (by decide) rfl rfl (by lia) (by lia) (nH ?_)))))));rw [aau];refine ⟨d.p,d.dx,d.kp,d.dk,d.a,as,k,x,y,false,rfl,ct,q,ok,hx,hy,hxy,h1.st,λas2 H2 q2 P2 F2=>?_⟩;obtain ⟨as3,q3⟩:=h1.adq ap q2 P2 F2;lk;refine ⟨d.p',d.dx',d.a',as3,k,x,y,rfl,ct,q3,ok,hx,hy,hxy,P2,λas4 H4 q4 P4 F4 hz=>?_⟩;have q5:=q2.off q3 q3 P2 ap ap F4.f1;refine EX ?_;rw [decide_eq_true rfl];refine Zzq _ H4 ⟨⟨_,q5⟩,⟨_,q4⟩,P4⟩ ?_ (pn_n ..) (((Fm.of S1).trans F2.f1).trans F4.f2')
  by_cases c:xf k x y
  .rw [(pG c).1];exact bk.out (hz c)
  .rw [(uI c).1];exact bk.up
 unfold yH;lk;refine ⟨_,k.n,rfl,hn,λx y t hx hy hxy ht=>?_⟩;refine wZ (.of aK) rfl ?_;have S1:=bY.dm (o:=.tup [.int x,.int y]) ht;generalize upd H t (.tup [.int x,.int y])=H1 at S1;have h1:=h.same S1;obtain ⟨as,q⟩:=h1.sk;obtain ⟨v,hv,hp⟩:=q.ob;lk;refine fG (ft rfl ⟨d.p',d.dx',_,rfl,hp,xy,?_⟩);lk;refine ⟨d.p',d.dx',d.a',k.n,k.T,k.s.1,as,k.s.2,k.c1,k.c2,k.c3,k.c4,rfl,ct.a,q,by lia,λl us H2 hl gl fl pm _ S2=>?_⟩;have S12:=S1.trans S2;have h2:=h.same S12;lk;refine nY (λ_=>?_) λ_=>?_
 .obtain ⟨as,q⟩:=h2.sd;refine lT (vJ (JG (gF (ft rfl (gF (X8 (by decide) rfl rfl (show x<60 by lia) (show y<60 by lia) (nH ?_)))))));rw [aat];refine ⟨d.p,d.dx,d.kp,d.dk,d.a,as,k,x,y,true,rfl,ct,q,ok,hx,hy,hxy,h2.st,λas2 H3 q2 P2 F2=>?_⟩;obtain ⟨as3,q3⟩:=h2.adq ap q2 P2 F2;lk;refine ⟨d.p',d.dx',d.a',as3,k,x,y,rfl,ct,q3,ok,hx,hy,hxy,λas4 H4 q4 F4=>?_⟩
  have F4:Fm (d.p'::Pt::fp d.a') H3 H4:=F4.mono λb hb=>by
   rcases aj.mp hb with rfl|hb
   .exact ah
   .exact ae _ (ae _ hb)
  have q5:=q2.off q3 q3 P2 ap ap F4.f1;refine EX ?_;rw [decide_eq_true rfl];have P4:nU Pt H4:=KP.lt1 q3 P2 (by assumption);refine Zzq _ H4 ⟨⟨_,q5⟩,⟨_,q4⟩,P4⟩ ?_ (pn_n ..) (((Fm.of S12).trans F2.f1).trans F4.f2')
  by_cases c:xf k x y
  .rw [(pG c).1];exact bk.up
  .rw [(uI c).1];exact bk.put
 lk;refine lq (cW.of gl) ?_;rw [ag];lk;refine nY (λc1=>?_) λ_=>?_;rotate_left
 .refine je ?_;k_ne;exact outs x y H2 _ _ S12 hx hy hxy
 lk;refine nY (λ_=>?_) λ_=>?_;rotate_left
 .k_ne;exact outs x y H2 _ _ S12 hx hy hxy
 lk;refine lq (cW.of gl) ?_;rw [ag];obtain ⟨i,hi,ei⟩:=ng (i:=c/20) (n:=us.length) (by lia);lk;rw [ei];have gi:us[i]?=some us[i]:=ay hi;refine gL (cW.of gl) (b8 (j:=i) rfl (by rw [aG,gi];rfl)) ?_;have hu:=fl _ (eN hi);obtain ⟨u1,u2,u3⟩:=q.iv.lt us[i].1 (pm.mem_iff.mp (bq (eN hi)));generalize us[i]=u at hu u1 u2 u3;lk;refine iq (kU.of hu) (b8 (j:=1) rfl rfl) ?_;lk;refine iq (kU.of hu) (b8 (j:=0) rfl rfl) ?_;k_ne;exact outs u.1.y u.1.x H2 _ _ S12 u2 (by lia) (by lia)
end
variable {X:EC}
section
variable {X:EC}
theorem adl (k:Ks) (w x y:Nat):nxF k (J2 w x y)=k:=by
 unfold J2
 split<;>rfl
theorem adm {k:Ks}{w x y:Nat}(hx:x<k.n) (hy:y<k.n):VE k (J2 w x y):=by
 unfold J2
 split
 · exact ⟨hx,hy⟩
 · exact ⟨hx,hy⟩
 · exact hx
 · trivial
 · trivial
inductive ck (K:aa) (C:ai) (A:CA) (Pt:ai) (vs:List V) (H:Hp) (Q:VK) (E:XK):Prop
 | mk (d:Dx) (k:Ks) (m:Nat) (c:Int) (j:Nat):vs=[.ref d.p,.ref d.p',.int k.n,.int c,.int j]->Gn K C A->Ap d.kp d.a d.p' d.a'->Pr C A Pt H d k->Bk k m->m<=44->(∀ k' H',Pr C A Pt H' d k'->Bk k' (m+1)->k'.n=k.n->Fm (fd Pt d) H H'->Q (.bl true) H')->ck K C A Pt vs H Q E
theorem G0:Rn (ck K C A Pt) (yI K C A (fz K C A) (gj K C A Pt) (bF K C A Pt)) nl_9:=by
 rintro vs H Q E ⟨d,k,m,c,j,rfl,ct,ap,h,bk,hm,Zzq⟩;have n1:=bk.n1
 have rest:∀ (k':Ks) (H1:Hp),Pr C A Pt H1 d k'->Bk k' (m+1)->k'.n=k.n->Fm (fd Pt d) H H1->(bB (dB (bU (rI (λ_ j=>0<j) λi j=>.int (i%j)) (bU (rI Ce λi j=>.int (i/j)) (ak 3) (tC (.int 3))) (ak 2)) (bf 5)) (uu K C A (fz K C A) (gj K C A Pt) (bF K C A Pt))) { nx:=λ_ H'=>Q .non H',rt:=Q } [some (.ref d.p),some (.ref d.p'),some (.int k.n),some (.int c),some (.int j),none,none,none,none,none] H1:=λk' H1 h1 bk1 en F1=>by
  have ok:=bk1.ok (by lia);obtain ⟨x,hx,ex⟩:=ng (i:=c/3) (n:=k.n) (by lia);obtain ⟨y,hy,ey⟩:=ng (i:=c/5) (n:=k.n) (by lia);obtain ⟨w1,hw1,ew1'⟩:=ng (i:=(j:Int)) (n:=5) (by decide);obtain ⟨w2,hw2,ew2'⟩:=ng (i:=c/7) (n:=5) (by decide);rw [← en] at hx hy;lk;rw [ex,ey];unfold ur;lk;have ew1':(j:Int)%5=w1:=ew1';have ew2':c/7%5=(w2:Int):=ew2';rw [ew1',ew2'];refine ⟨Bl,λl hl=>?_⟩;have S2:=bY.dm (o:=.lst [.int w1,.int w2]) hl;have gl:(upd H1 l (.lst [.int w1,.int w2])) l=_:=aK;have nl:=h1.no hl;generalize upd H1 l (.lst [.int w1,.int w2])=H2 at S2 gl;have h2:=h1.same S2
  refine ⟨l,rfl,.inl ⟨⟨_,cW.of gl⟩,oR (K:=K) (a:=l) (xs:=[.int w1,.int w2]) (λi Z H3=>Pr C A Pt H3 d k'/\Fm (fd Pt d) H2 H3/\∃ o7 o8 o9,Z=[some (.ref d.p),some (.ref d.p'),some (.int k.n),some (.int c),some (.int j),some (.int x),some (.int y),o7,o8,o9])
   ⟨h2,Fm.refl,_,_,_,rfl⟩ ?_ ?_ ?_⟩⟩
  .rintro i Z H3 _ ⟨_,F,_⟩;exact cW.of (F _ _ nl gl)
  .rintro i v Z H3 hi ⟨h3,F3,o7,o8,o9,rfl⟩
   obtain ⟨w,hw,rfl⟩:∃ w:Nat,w<5/\v=.int w:=by
    match i,hi with
    | 0,hi=>exact ⟨w1,hw1,(aL hi).symm⟩
    | 1,hi=>exact ⟨w2,hw2,(aL hi).symm⟩
    | i+2,hi=>exact absurd hi (by simp)
   obtain ⟨as,q⟩:=h3.sk;lk;refine ⟨d.p',d.dx',d.a',as,k',w,x,y,rfl,hw,ct.a,q,ok,hx,hy,λt H4 S4 gt=>?_⟩;have h4:=h3.same S4;obtain ⟨as1,q1⟩:=h4.sd;refine wZ (.of gt) rfl ?_;lk;refine fG (ft rfl ⟨d.p,d.dx,_,rfl,q1.d,QR,?_⟩);lk;refine .inl ⟨d.p,d.dx,d.kp,d.dk,d.a,as1,k',J2 w x y,rfl,ct,q1,ok,adm hx hy,h4.st,λas' H5 q5 P5 F5=>?_⟩;rw [adl] at q5;lk;refine BG ?_;rw [decide_eq_true rfl];refine ⟨_,rfl,je ?_⟩;lk;exact ⟨⟨⟨_,q5⟩,h4.adq ap q5 P5 F5,P5⟩,(F3.trans (Fm.of S4)).trans F5.f1,_,_,_,rfl⟩
  .rintro Z H3 ⟨h3,F3,o7,o8,o9,rfl⟩;lk;exact Zzq k' H3 h3 bk1 en ((F1.trans (Fm.of S2)).trans F3)
 unfold yI;k_ne;k_ne;refine Wn (wY ?_);lk;refine nY (λc1=>?_) λ_=>?_
 .refine Wo (ub ?_);lk;refine ⟨d,k,m,c,rfl,ct,ap,h,bk,by lia,by lia,λk' H1 h1 bk1 en F1=>⟨true,rfl,?_⟩⟩;refine je ?_;k_ne;exact rest k' H1 h1 bk1 en F1
 .refine je ?_;k_ne;exact rest k H h bk.up rfl Fm.refl
end
section
variable {X:EC}{d d':Dx}{k k':Ks}
theorem Pr.off (h:Pr C A Pt H d k) (h':Pr C A Pt H d' k') (a1:Ap d.kp d.a d'.kp d'.a) (a2:Ap d.kp d.a d'.p' d'.a') (a3:Ap d.p' d.a' d'.kp d'.a) (a4:Ap d.p' d.a' d'.p' d'.a') (F:Fm (fd Pt d') H H') (P:nU Pt H'):Pr C A Pt H' d k:=by
 obtain ⟨as,q⟩:=h.sd;obtain ⟨bs,r⟩:=h.sk;obtain ⟨as',q'⟩:=h'.sd;obtain ⟨bs',r'⟩:=h'.sk;exact ⟨⟨as,q.off q'.kp r' h.st a1 a2 F⟩,⟨bs,KP.off r q'.kp r' h.st a3 a4 F⟩,P⟩
theorem KP.one {p dx a} {c e k2:ai}{b:ai}(h:KQ C A H p dx a as k) (hb:H b=some (.ins c e (fD k2))) (B:bJ b H H'):KQ C A H' p dx a as k:=by
 have n1:=KP.no h hb;refine KP.keep h (X:=[b]) (Fm.but ah B) (λx hx z=>?_) λx hx=>?_
 .rw [aA.mp hx] at z
  rcases aj.mp z with z|z
  .exact n1 (z▸ah)
  .rcases aj.mp z with z|z
   .have:=h.lv.ls;rw [← z,hb] at this;cases this
   .exact n1 (ae _ z)
 .rw [aA.mp hx];refine ⟨λc e f z=>?_,λr _ z=>?_⟩<;>rw [hb] at z<;>cases z;exact ⟨QR,QR⟩
theorem Fm.new {H1 H2:Hp}{Y:List ai}(F:Fm [Pt] H H1) (G:Fm Y H1 H2) (hy:∀ b∈Y,b=Pt\/H b=none):Fm [Pt] H H2:=λb o hb e=>G b o (λz=>by
 rcases hy b z with z|z
 .exact hb (aA.mpr z)
 .rw [z] at e;cases e) (F b o hb e)
theorem Fm.fr {H1:Hp}{b:ai}(F:Fm [Pt] H H1) (hP:nU Pt H1) (e:H1 b=none):H b=none:=F.free (λz=>by
 obtain ⟨ps,q⟩:=hP.tbl
 rw [aA.mp z,q] at e;cases e) e
theorem nU.one {b c e k2:ai}(hP:nU Pt H) (hb:H b=some (.ins c e (fD k2))) (B:bJ b H H'):nU Pt H':=hP.keep λx o _ _ h3 _ e=>B _ _ e λz=>by rw [z,hb] at e;cases e;exact h3 _ _ _ rfl
structure S0 (C:ai) (A:CA) (Pt:ai) (H0:Hp) (p1 dx1 kp1 dk1:ai) (a1:AL) (T:Nat) (p2 dx2 kp2:ai) (H:Hp):Prop where
 sd:∃ as,DS C A H p1 dx1 kp1 dk1 a1 as (k0 1 T)
 st:nU Pt H
 s2:H p2=some (.ins A.jb dx2 (fD kp2))
 fm:Fm [Pt] H0 H
theorem Bk.start (h1:1<=n) (h2:n<=60):Bk (k0 n T) 0:=⟨h1,h2,aB _,aB _,aB _,aB _,aB _⟩
theorem S0.ask {H0:Hp}{p1 dx1 kp1 dk1 p2 dx2 kp2:ai}{a1:AL}{q:Ask}{G:VK}{E:XK}(ct:Gn K C A) (h:S0 C A Pt H0 p1 dx1 kp1 dk1 a1 T p2 dx2 kp2 H) (fr:∀ b∈kp1::a1.L::fp a1,H0 b=none) (hq:VE (k0 1 T) q) (hx:nxF (k0 1 T) q=k0 1 T) (k:∀ H',S0 C A Pt H0 p1 dx1 kp1 dk1 a1 T p2 dx2 kp2 H'->G (.str (xc (k0 1 T) q)) H'):bF K C A Pt [.ref p1,.str q.row] H G E:=by
 obtain ⟨as,d⟩:=h.sd;refine .inl ⟨p1,dx1,kp1,dk1,a1,as,k0 1 T,q,rfl,ct,d,(Bk.start (by decide) (by decide)).ok (by decide),hq,h.st,λas' H' d' P' F'=>k H' ⟨⟨as',by rw [hx] at d';exact d'⟩,P',F' _ _ (λz=>?_) h.s2,h.fm.new F' λb hb=>?_⟩⟩
 .have:=KP.no d.kp h.s2
  rcases aj.mp z with z|z
  .exact this (z▸ah)
  .rcases aj.mp z with z|z
   .exact h.st.ne h.s2 (λ_ z=>nomatch z) z
   .exact this (ae _ z)
 .rcases aj.mp hb with rfl|hb
  .exact .inr (fr _ ah)
  .rcases aj.mp hb with rfl|hb
   .exact .inl rfl
   .exact .inr (fr _ (ae _ (ae _ hb)))
theorem X9 (T:Nat):xc (k0 1 T) (.side 0)=av "0":=by
 have e:[(0:Int)]=SR [(0:Int)]:=Ql (by simp) λz=>Iff.rfl
 show nbT (SR [(0:Int)])=_
 rw [← e];exact Rs.ext (by decide)
theorem Ya (T:Nat):xc (k0 1 T) .ties=av "none":=by
 have e:([]:List (List Int))=Qk []:=JY (km _) .nil
 show Xk ((Qk []).map r4T)=_
 rw [← e]
 rfl
theorem aav (T:Nat):xc (k0 1 T) .account=av "0 0 0 0 0":=by
 show nbT [0,0,0,0,0]=_
 exact Rs.ext (by decide)
structure Two (C:ai) (A:CA) (Pt:ai) (d1 d2:Dx) (n i:Nat) (H:Hp):Prop where
 e1:∃ k,Pr C A Pt H d1 k/\Bk k i/\k.n=n
 e2:∃ k,Pr C A Pt H d2 k/\Bk k i/\k.n=3
inductive E8 (K:aa) (Pt1:ai) (vs:List V) (H:Hp) (Q:VK) (E:XK):Prop
 | mk (a:_) (ns:List Int):vs=[.ref a]->cW K H a (ns.map V.int)->ns.length<=63->nU Pt1 H->(∀ H',Q (.bl true) H')->E8 K Pt1 vs H Q E
theorem Yb {d1 d2:Dx}{z:Int}{s:ai}{cs:List Int}(ct:Gn K C A) (A1:Ap d1.kp d1.a d1.p' d1.a') (A2:Ap d2.kp d2.a d2.p' d2.a') (b1:Ap d1.kp d1.a d2.kp d2.a) (b2:Ap d1.kp d1.a d2.p' d2.a') (b3:Ap d1.p' d1.a' d2.kp d2.a) (b4:Ap d1.p' d1.a' d2.p' d2.a')
  (h:Two C A Pt d1 d2 n 0 H) (hl:H l=some (.lst (cs.map V.int))) (n1:l∉fd Pt d1) (n2:l∉fd Pt d2) (hc:cs.length<=40) (q:∀ H',Q (.bl true) H') :
  (bB (EK K C A (bZ K C) (bP K C A) (aW K C A) (ck K C A Pt) (bF K C A Pt)) (cC (cb (ck K C A Pt) [] E0 (ao (ak 3) (ao (ak 5) (ao (ak 2) (ao (ak 1) (ao (tC (.int 3)) aR)))))))) { nx:=λ_ H'=>Q .non H',rt:=Q } [some (.ref s),some (.int z),some (.int n),some (.ref d1.p),some (.ref d2.p),some (.ref d1.p'),some (.ref d2.p'),some (.ref l),none] H:=by
 k_ne;unfold EK;lk;refine lq (cW.of hl) ?_;rw [ag];refine ⟨_,rfl,by lia,by lia,TV (λi Z H3=>Two C A Pt d1 d2 n i H3/\H3 l=some (.lst (cs.map V.int))/\∃ o,Z=[some (.ref s),some (.int z),some (.int n),some (.ref d1.p),some (.ref d2.p),some (.ref d1.p'),some (.ref d2.p'),some (.ref l),o]) ⟨h,hl,_,rfl⟩ ?_ ?_⟩
 .rintro i Z H3 hi ⟨⟨⟨k1,p1,bk1,en1⟩,⟨k2,p2,bk2,en2⟩⟩,g3,o,rfl⟩
  have hi:i<cs.length:=by lia
  have gi:cs[i]?=some cs[i]:=ay hi;rw [Int.zero_add];lk;refine MR (cW.of g3) rfl gi ?_;lk;refine ⟨d1,k1,i,cs[i],i,by rw [en1];rfl,ct,A1,p1,bk1,by lia,λk1' H4 p1' bk1' en1' F4=>?_⟩;have g4:=F4 _ _ n1 g3;have p2':=p2.off p1 b1.swap b3.swap b2.swap b4.swap F4 p1'.st;refine ⟨true,rfl,je ?_⟩;lk;refine nY (λ_=>?_) λ_=>?_;rotate_left
  .refine je ?_;lk;exact ⟨⟨⟨k1',p1',bk1',en1'.trans en1⟩,⟨k2,p2',bk2.up,en2⟩⟩,g4,_,rfl⟩
  .refine Wo (ub ?_);lk;refine MR (cW.of g4) rfl gi ?_;lk;refine ⟨d2,k2,i,_,i,by rw [en2];rfl,ct,A2,p2',bk2,by lia,λk2' H5 p5 bk5 en5 F5=>⟨true,rfl,?_⟩⟩;refine je ?_;lk;exact ⟨⟨⟨k1',p1'.off p2' b1 b2 b3 b4 F5 p5.st,bk1',en1'.trans en1⟩,⟨k2',p5,bk5,en5.trans en2⟩⟩,F5 _ _ n2 g4,_,rfl⟩
 .rintro Z H3 ⟨⟨⟨k1,p1,bk1,en1⟩,_⟩,g3,o,rfl⟩;lk;exact ⟨d1,k1,_,z,3,by rw [en1];rfl,ct,A1,p1,bk1,by lia,λ_ H4 _ _ _ _=>q H4⟩
end
section
variable {X:EC}{Pt1:ai}
theorem aaw (ct:Gn K C A):Rn (E8 K Pt1) (QH K C A (bZ K C) (bP K C A) (aW K C A) (ck K C A Pt1) (bF K C A Pt1)) ade:=by
 rintro vs H Q E ⟨s,ns,rfl,hS,hlen,hP,q⟩;unfold QH;lk;refine ⟨s,ns,0,rfl,hS,λz=>?_⟩;obtain ⟨m,hm,em⟩:=ng (i:=z/3) (n:=20) (by decide);have em:z/3%20=(m:Int):=em;lk;rw [em,show (1:Int)+(m:Int)=((m+1:Nat):Int) by lia];generalize hn:m+1=n
 have hn1:1<=n:=by lia
 have hn2:n<=20:=by lia
 have sn:Sm (n:Int):=.of (by lia);have ln:=(fW sn).1
 -- the desks
 refine uH (nH λp1 dx1 hp1 hdx1 _=>?_)
 have T0:bY H (upd (upd H dx1 (.own p1)) p1 (.ins A.jb dx1 [])):=λb o e=>by rw [aI (aJ e hp1),aI (aJ e hdx1)];exact e
 refine ⟨p1,dx1,rfl,ct,aK,λkp1 dk1 a1 T1 as1 H1 h1 fr1 B1=>⟨rfl,?_⟩⟩;have S1:bY H H1:=λb o e=>B1 _ _ (T0 _ _ e) (aJ e hp1);have f1:∀ b∈kp1::a1.L::fp a1,H b=none:=λb hb=>T0.free (fr1 b hb);lk;refine uH (nH λp2 dx2 hp2 hdx2 _=>?_)
 have T0':bY H1 (upd (upd H1 dx2 (.own p2)) p2 (.ins A.jb dx2 [])):=λb o e=>by rw [aI (aJ e hp2),aI (aJ e hdx2)];exact e
 refine ⟨p2,dx2,rfl,ct,aK,λkp2 dk2 a2 T2 as2 H2 h2 _ B2=>⟨rfl,?_⟩⟩;have S2:bY H1 H2:=λb o e=>B2 _ _ (T0' _ _ e) (aJ e hp2);have np:p1≠p2:=aJ h1.d hp2
 have s2:S0 C A Pt1 H p1 dx1 kp1 dk1 a1 T1 p2 dx2 kp2 H2:=⟨⟨as1,h1.same S2⟩,(hP.same S1).same S2,h2.d,Fm.of (S1.trans S2)⟩
 -- a keeper of one place
 lk;obtain ⟨_,d2⟩:=s2.sd;refine fG (ft rfl ⟨p1,dx1,_,rfl,d2.d,QR,gF (Iw (nH ?_))⟩);rw [show av "side 0"=(Ask.side 0).row from Rs.ext (by decide)];refine s2.ask ct f1 (show 0<1 by decide) rfl λH3 s3=>?_;rw [X9];lk;refine BG ?_;rw [decide_eq_true rfl];refine ⟨_,rfl,je ?_⟩;obtain ⟨_,d3⟩:=s3.sd;lk;refine fG (ft rfl ⟨p1,dx1,_,rfl,d3.d,QR,gF (Iw (nH ?_))⟩);rw [show av "ties"=Ask.ties.row from rfl];refine s3.ask ct f1 trivial rfl λH4 s4=>?_;rw [Ya];lk;refine BG ?_;rw [decide_eq_true rfl];refine ⟨_,rfl,je ?_⟩;obtain ⟨_,d4⟩:=s4.sd;lk;refine fG (ft rfl ⟨p1,dx1,_,rfl,d4.d,QR,gF (Iw (nH ?_))⟩);rw [show av "account"=Ask.account.row from rfl];refine s4.ask ct f1 trivial rfl λH5 s5=>?_;rw [aav];lk;refine BG ?_;rw [decide_eq_true rfl];refine ⟨_,rfl,je ?_⟩
 -- new keepers for both
 obtain ⟨_,d5⟩:=s5.sd;lk;refine fG (ft rfl ⟨p1,dx1,_,rfl,d5.d,QR,?_⟩);lk;refine vN sn ?_;refine iE (by rw [show (av "new ").length=4 by decide];lia) ?_;rw [row1 (w:="new") (Rs.ext (by decide))];lk;refine .inr ⟨p1,dx1,kp1,n,rfl,ct,d5.d,hn1,by lia,λkq dq aq T as6 H6 d6 fr6 B6=>?_⟩;have P6:=s5.st.one d5.d B6;have F6:Fm [Pt1] H H6:=s5.fm.new (Fm.but ah B6) λb hb=>.inr (by rw [aA.mp hb];exact hp1);have e6:=B6 _ _ s5.s2 np.symm;have g6:∀ b∈kq::aq.L::fp aq,H b=none:=λb hb=>s5.fm.fr s5.st (fr6 b hb);lk;refine BG ?_;rw [decide_eq_true rfl];refine ⟨_,rfl,je ?_⟩;lk;refine fG (ft rfl ⟨p2,dx2,_,rfl,e6,QR,gF (Iw (nH ?_))⟩);rw [show av "new 3"=Eg "new" [((3:Nat):Int)] from Rs.ext (by decide)];refine .inr ⟨p2,dx2,kp2,3,rfl,ct,e6,by decide,by decide,λkr dr ar T' as7 H7 d7 fr7 B7=>?_⟩;have P7:=P6.one e6 B7;have hp2':H p2=none:=S1.free hp2;have F7:Fm [Pt1] H H7:=F6.new (Fm.but ah B7) λb hb=>.inr (by rw [aA.mp hb];exact hp2')
 have d67:DS C A H7 p1 dx1 kq dq aq as6 (k0 n T):=⟨B7 _ _ d6.d np,KP.one d6.kp e6 B7⟩
 have A12:Ap kq aq kr ar:=Ap.of d6.kp fr7;lk;refine BG ?_;rw [decide_eq_true rfl];refine ⟨_,rfl,je ?_⟩
 -- the keepers beside
 lk;refine uH ?_;lk;intro p3 dx3 hp3 hdx3 _
 have T3:bY H7 (upd (upd H7 dx3 (.own p3)) p3 (.ins A.Keeper dx3 [])):=λb o e=>by rw [aI (aJ e hp3),aI (aJ e hdx3)];exact e
 refine ⟨p3,dx3,n,rfl,aK,ct.a,hn1,by lia,λa3 t3 as8 H8 h8 B8 fr8=>⟨rfl,?_⟩⟩;have S8:bY H7 H8:=λb o e=>B8 _ _ (T3 _ _ e) (aJ e hp3)
 have g8:∀ b∈p3::a3.L::fp a3,H7 b=none:=λb hb=>by
  rcases aj.mp hb with rfl|hb
  .exact hp3
  .exact T3.free (fr8 b hb)
 obtain rfl:=h8.tp.one d67.kp.tp;lk;refine uH ?_;lk;intro p4 dx4 hp4 hdx4 _
 have T4:bY H8 (upd (upd H8 dx4 (.own p4)) p4 (.ins A.Keeper dx4 [])):=λb o e=>by rw [aI (aJ e hp4),aI (aJ e hdx4)];exact e
 refine ⟨p4,dx4,3,rfl,aK,ct.a,by decide,by decide,λa4 t4 as9 H9 h9 B9 fr9=>⟨rfl,?_⟩⟩;have S9:bY H8 H9:=λb o e=>B9 _ _ (T4 _ _ e) (aJ e hp4)
 have g9:∀ b∈p4::a4.L::fp a4,H8 b=none:=λb hb=>by
  rcases aj.mp hb with rfl|hb
  .exact hp4
  .exact T4.free (fr9 b hb)
 obtain rfl:=h9.tp.one d7.kp.tp;have S79:=S8.trans S9;have F9:Fm [Pt1] H H9:=F7.trans (Fm.of S79)
 have hS9:cW K H9 s (ns.map V.int):=by
  rcases hS with (e|⟨o,e⟩)|e
  .exact .inl (.inl (F9 _ _ (λz=>hP.ne e (λ_ z=>nomatch z) (aA.mp z)) e))
  .exact .inl (.inr ⟨o,F9 _ _ (λz=>hP.ne e (λ_ z=>nomatch z) (aA.mp z)) e⟩)
  .exact .inr e
 lk;refine JK (j:=1) (j':=41) hS9 rfl (by lia) λl hl=>?_;generalize eu_:upd _ l _=H10;obtain ⟨S10,gl⟩:=news eu_ hl
 have w1:Pr C A Pt1 H9 ⟨p1,dx1,kq,dq,aq,p3,dx3,a3⟩ (k0 n t3):=⟨⟨_,d67.same S79⟩,⟨_,KP.same h8 S9⟩,P7.same S79⟩
 have w2:Pr C A Pt1 H9 ⟨p2,dx2,kr,dr,ar,p4,dx4,a4⟩ (k0 3 t4):=⟨⟨_,d7.same S79⟩,⟨_,h9⟩,P7.same S79⟩
 k_ne;refine Yb (d1:=⟨p1,dx1,kq,dq,aq,p3,dx3,a3⟩) (d2:=⟨p2,dx2,kr,dr,ar,p4,dx4,a4⟩) ct (Ap.of d67.kp g8) (Ap.of (d7.kp.same S8) g9) A12 (Ap.of (d67.kp.same S8) g9) (Ap.of d7.kp g8).swap (Ap.of (k:=k0 n t3) h8 g9) ⟨⟨_,w1.same S10,Bk.start hn1 (by lia),rfl⟩,⟨_,w2.same S10,Bk.start (by decide) (by decide),rfl⟩⟩ gl (w1.no hl) (w2.no hl) ?_ q;rw [bK];lia
end
end K71
namespace K71
local macro_rules | `(tactic| walk_at "oz")=>`(tactic| first|exact rfl|with_reducible assumption|exact i6|exact .inl rfl|exact .inr rfl|exact kO _|exact λ_=>rfl|exact λ_ _=>rfl|(exact .inr (.inl rfl))|(exact .inr (.inr rfl))|exact jN|assumption|decide|exact iu.mono (by assumption) (by decide)|exact iu.units (by assumption)|with_unfolding_all rfl)
local macro_rules | `(tactic| walk_at "oc")=>`(tactic| first|exact vh|exact DN|exact TZ rfl|exact TY rfl|exact yn|exact Jv|exact UG)
local macro_rules | `(tactic| walk_at "op")=>`(tactic| first|exact So|exact SL|exact V0|exact acm|exact Zx|exact ack|exact abb|exact Ic|exact abc|exact aej|exact nW (iu.units (by assumption))|exact JF (iu.units (by assumption))|exact Wl (iu.units (by assumption))|exact Iv (iu.units (by assumption))|exact op_eqL (iu.units (by assumption))|exact op_neL (iu.units (by assumption)))
local macro_rules | `(tactic| walk_at "ob")=>`(tactic| first|exact BootT.len|exact BootT.oS|exact BootT.min|exact BootT.max|exact BootT.JH|exact BootT.list|exact BootT.str)
local macro_rules | `(tactic| walk_at "om")=>`(tactic| first|exact Txt.To (by assumption)|exact Txt.mi (by assumption)|exact Txt.aaG (by assumption)|exact Txt.afl (by assumption)|exact Txt.afm (by assumption)|exact Txt.zw (by assumption)|exact Txt.YO (by assumption)|exact Txt.afo (by assumption))
local macro_rules | `(tactic| walk_at "ok")=>`(tactic| first|exact Txt.LK (by assumption)|exact Txt.Je (by assumption)|exact Txt.mY (by assumption)|exact Txt.sO (by assumption))
local macro_rules | `(tactic| walk_at "o1")=>`(tactic| first
 | (with_reducible first|exact cV|refine aU ?_|refine aF ?_ ?_|refine cz ?_|refine gb ?_ ?_ ?_|exact gO|exact dR|exact VS|exact VT|exact cP|refine acd ?_|refine zZ ?_|refine acp ?_|exact ya|refine Jw ?_|exact vc|exact Wi|refine tX ?_ ?_|refine tW ?_|refine Pl ?_ ?_|refine aa8 ?_ ?_|refine Jr ?_|refine acb ?_)
 | ((with_reducible refine x9 ?_ ?hs);(case hs=>exact rfl))
 | ((with_reducible refine jX ?hN ?_ ?hi ?hx ?hs ?hf);(case hN|hi|hx|hs|hf=>walk_at "oz"))
 | ((with_reducible refine aeN ?_ ?_ ?hK ?hs);(case hK|hs=>exact rfl))
 | ((with_reducible refine acg ?_ ?_ ?hs ?hw ?h1);(case hs|hw|h1=>exact rfl))
 | ((with_reducible refine pv _ ?hN ?hv ?hd ?hc);(case hN|hv|hd|hc=>walk_at "oz"))
 | ((with_reducible refine Sg ?ho ?_ ?_);(case ho=>walk_at "op"))
 | ((with_reducible refine t8 ?hr ?_ ?_ ?hs);(case hr=>exact DL (iu.units (by assumption)));(case hs=>exact λ_ _=>rfl))
 | ((with_reducible refine iL ?ho ?_ ?_ ?hm);(case ho=>walk_at "op");(case hm=>walk_at "oz"))
 | ((with_reducible refine Ju ?ho ?_ ?_ ?hm);(case ho=>walk_at "op");(case hm=>walk_at "oz"))
 | ((with_reducible refine bg ?_ ?_ ?hs);(case hs=>exact rfl))
 | ((with_reducible refine aeM ?_ ?hK ?hb);(case hK|hb=>exact rfl))
 | ((with_reducible refine aeL ?_ ?hK ?he);(case hK=>exact rfl);(case he=>exact λ_=>rfl))
 | ((with_reducible refine t7 ?hr ?_ ?_ ?_);(case hr=>first|exact Jy|exact sl_tup))
 | ((with_reducible refine aeK ?_ ?hK);(case hK=>exact rfl))
 | ((with_reducible refine TQ ?hg ?hm ?_ ?hs);(case hg|hs=>exact rfl);(case hm=>walk_at "om"))
 | ((with_reducible refine pi_range2 ?hg ?hm ?_ ?hs ?ht);(case hg|hs|ht=>exact rfl);(case hm=>walk_at "om"))
 | ((with_reducible refine gf ?hN ?hi ?hx ?hf);(case hN|hi|hx|hf=>walk_at "oz"))
 | ((with_reducible refine acf ?_ ?_ ?hs ?ha);(case hs=>exact aer (iu.units (by assumption)));(case ha=>exact λ_=>rfl))
 | ((with_reducible refine aeO ?hc ?_ ?hK ?hn ?hs);(case hc|hK|hn|hs=>exact rfl))
 | ((with_reducible refine eQ ?_ ?_ ?hs);(case hs=>exact rfl))
 | ((with_reducible refine' Jp ?hg ?hm ?hv ?hr ?hn ?hd);(case hg|hr=>exact rfl);(case hm=>walk_at "om");(case hv=>walk_at "ob");(case hn|hd=>decide))
 | ((with_reducible refine' ka ?hc ?hg ?hm ?hv ?_ ?hn ?hd ?he ?hp);(case hc=>walk_at "oc");(case hg|he|hp=>exact rfl);(case hm=>walk_at "om");(case hv=>walk_at "ob");(case hn|hd=>decide))
 | ((with_reducible refine' Ik ?hc ?hg ?hm ?hv ?_ ?hn ?hd ?he ?hp);(case hc=>walk_at "oc");(case hg|he|hp=>exact rfl);(case hm=>walk_at "om");(case hv=>walk_at "ob");(case hn|hd=>decide))
 | ((with_reducible refine' Qb ?c ?hr ?hg ?hx ?_ ?hd ?he ?hp);(case c=>first|with_reducible assumption|assumption);(case hr=>walk_at "oz");(case hg|he|hp=>exact rfl);(case hx=>exact i6);(case hd=>decide))
 | ((with_reducible refine' VC ?c ?cl ?hr ?_ ?hx ?_ ?hs ?hp ?ht);(case c=>first|with_reducible assumption|assumption);(case cl=>walk_at "ok");(case hr=>walk_at "oz");(case hx=>exact i6);(case hs|hp|ht=>exact rfl))
 | ((with_reducible refine' pcm0 ?c ?cl ?hr ?_ ?hx ?ht);(case c=>first|with_reducible assumption|assumption);(case cl=>walk_at "ok");(case hr=>walk_at "oz");(case hx=>exact i6);(case ht=>exact rfl))
 | ((with_reducible refine' o_bm ?pa ?sl ?ty ?hm ?_ ?_ ?hK ?hb ?hf ?hl ?hs ?hp);(case pa=>exact fq);(case sl=>exact PySem.F.slot_list_append);(case ty=>exact PySem.F.type_list_append);(case hm=>exact Il);(case hK|hb|hf|hl|hs|hp=>exact rfl))
 | with_reducible refine PW.pt ?_
 | (refine Px ?hp ?hc ?_ ?_ ?_ ?hs;(case hp=>exact jN);(case hc=>exact rfl);(case hs=>exact λ_=>rfl))
 | (refine Dv ?hp ?_ ?_;(case hp=>exact jN)))
local macro_rules | `(tactic| w_up)=>`(tactic| repeat' walk_at "o1")
variable {P:bQ}{w:cK}{K:aa}{mg:aY->Option au}{base:cI}{f:ai}{fd:gA}{sp:Sp}{C:ai}{A:CA}{X:EC}
theorem NO (Fu:lK K "is_whole" "is_whole" Ac f fd) (T:Txt P w K mg C A X)
 (len:Ln sp 1) (run:Rn sp (ui K C) qe):dC P w K mg base eW 1 f fd qe sp :=
 Fu.j3 (len:=len) Qv run λhr nd=>aU (cz (tX (ka DN rfl T.mi BootT.oS (bg (pv 0) (bg (Jp rfl T.abN BootT.int rfl) cP))) (tW (ace (ka DN rfl T.mi BootT.oS (bg (pv 0) (bg (Jp rfl T.adt BootT.bool rfl) cP)))))))
theorem NP (Fu:lK K "is_count" "is_count" Ad f fd) (T:Txt P w K mg C A X) {hW:Sp}(so:qX P w K mg base eW 1 "is_whole" qe hW)
 (len:Ln sp 1) (run:Rn sp (uj K C hW) qe):dC P w K mg base eW 2 f fd qe sp :=
 Fu.j3 (len:=len) Qw run λhr nd=>aU (cz (tX (by w_up) (tW (DA Ic Ic gO (pv 0) (rK rfl T.HS.choose_spec ⟨_,rfl⟩)))))
theorem adn (Fu:lK K "top" "top" stop f fd) (T:Txt P w K mg C A X)
 (len:Ln sp 1) (run:Rn sp (QG K C) XI):dC P w K mg base eW 1 f fd ["n"] sp :=
 Fu.j3 (len:=len) XJ run λhr nd=>aF (by w_up) (aF (by w_up) (aF (Dv jN (by w_up) (aF (Pp (i:=1) XJ.nd rfl (Or.inl rfl) gO Zy) (aU (Pp (i:=2) XJ.nd rfl (Or.inl rfl) gO ZA)))) (by w_up)))
theorem UQ (Fu:lK K "credit" "credit" J5 f fd) (T:Txt P w K mg C A X) {lz:Sp}(Ja:qX P w K mg base eW 1 "top" ["n"] lz)
 (len:Ln sp 2) (run:Rn sp (Ak K C lz) El):dC P w K mg base eW 2 f fd El sp :=
 Fu.j3 (len:=len) XN run λhr nd=>aU (cz (ka (IG rfl) rfl T.abQ BootT.sum (bg (iM Eh (ys:=["n"]) [0] rfl (lU (pv 1)) ⟨rfl,.inl rfl,rfl,trivial⟩ (λ_ _ _=>zW rfl (eQ (gf (show (SY:List aY).Nodup by decide +kernel)) (eQ (gf (show (SY:List aY).Nodup by decide +kernel)) (eQ (gf (show (SY:List aY).Nodup by decide +kernel)) (eQ (gf (show (SY:List aY).Nodup by decide +kernel)) vc))))) (λ_ _ _=>ip) (λ_ _ _=>(by w_up))) cP)))
theorem Yc (Fu:lK K "rises" "rises" Qt f fd) (T:Txt P w K mg C A X)
 (len:Ln sp 1) (run:Rn sp (EH K C) lX):dC P w K mg base eW 1 f fd lX sp :=
 Fu.j3 (len:=len) aak run λhr nd=>aU (cz (ka (IG rfl) rfl T.abQ BootT.sum (bg (iM tJ (ys:=[]) [] rfl (lU (pv 0)) trivial (λ_ _ _=>zW rfl (eQ (gf (show (tJ:List aY).Nodup by decide +kernel)) (eQ (gf (show (tJ:List aY).Nodup by decide +kernel)) (eQ (gf (show (tJ:List aY).Nodup by decide +kernel)) (eQ (gf (show (tJ:List aY).Nodup by decide +kernel)) vc))))) (λ_ _ _=>ip) (λ_ _ _=>(by w_up))) cP)))
theorem Yd (Fu:lK K "looks" "looks" Qu f fd) (T:Txt P w K mg C A X) {fH:Sp}(vp:qX P w K mg base eW 1 "rises" lX fH)
 (len:Ln sp 1) (run:Rn sp (EI K C fH) ["trail","finds"]):dC P w K mg base eW 2 f fd lX sp :=
 Fu.j3 (len:=len) Tb run λhr nd=>aF (C8 (i:=1) tJ (ys:=[]) [] rfl Tb.nd rfl rfl (lU (pv 0)) trivial (λ_ _ _=>zW rfl (eQ (gf (show (tJ:List aY).Nodup by decide +kernel)) (eQ (gf (show (tJ:List aY).Nodup by decide +kernel)) (eQ (gf (show (tJ:List aY).Nodup by decide +kernel)) (eQ (gf (show (tJ:List aY).Nodup by decide +kernel)) vc))))) (λ_ _ _=>qV (zV (Zm (pv 3)))) (λ_ _ _=>(pv 3))) (aU (cz (i9 (by w_up) (by w_up) (by w_up))))
theorem UR (Fu:lK K "turned" "turned" J7 f fd) (T:Txt P w K mg C A X)
 (len:Ln sp 2) (run:Rn sp (Al K C) ["row","a","k"]):dC P w K mg base eW 1 f fd Nr sp :=
 Fu.j3 (len:=len) Nu run λhr nd=>aF (jX Nu.nd (og fq fo ji (qW hr.units) (pv 0) (by w_up))) (by w_up)
theorem QU (Fu:lK K "spliced" "spliced" En f fd) (T:Txt P w K mg C A X) {fO:Sp}(rn:qX P w K mg base eW 1 "turned" Nr fO)
 (len:Ln sp 4) (run:Rn sp (xp K C fO) XE):dC P w K mg base eW 2 f fd XG sp :=
 Fu.j3 (len:=len) IY run λhr nd=>aF (jX IY.nd (og fq fo ji (qW hr.units) (pv 0) (by w_up))) (by w_up)
theorem US (Fu:lK K "parted" "parted" J8 f fd) (T:Txt P w K mg C A X) {dA:Sp}(nh:qX P w K mg base eW 1 "steps_along" ["row"] dA)
 (len:Ln sp 3) (run:Rn sp (Am K C dA) Xs):dC P w K mg base eW 2 f fd IQ sp :=
 Fu.j3 (len:=len) Ez run λhr nd=>aF (by w_up) (aF (jX Ez.nd (og fq fo ji (qW hr.units) (pv 3) (bg (by w_up) cP Na))) (aF (jX Ez.nd (og fq fo ji (qW hr.units) (pv 3) (bg (by w_up) cP Na))) (aF (by w_up) (aF (by w_up) (aF (by w_up) (aF (by w_up) (aU (cz (i9 (by w_up) (by w_up) (by w_up))))))))))
theorem UT (Fu:lK K "way_in" "way_in" J9 f fd) (T:Txt P w K mg C A X) {fO:Sp}(rn:qX P w K mg base eW 1 "turned" Nr fO)
 (len:Ln sp 3) (run:Rn sp (An K C fO) Xz):dC P w K mg base eW 2 f fd IQ sp :=
 Fu.j3 (len:=len) XO run λhr nd=>aF (by w_up) (aF (by w_up) (aF (Px jN rfl (lU (t7 Jy (pv 3) ya (Jw (Sg So (og fq fo ji (qW hr.units) (pv 3) (by w_up)) gO)))) (by w_up) (aU (gb (PW.pt (Pl (by w_up) (Jr (iL (nW hr.units) (t8 (DL hr.units) (pv 4) (aba V1 gO) (λ_ _=>rfl)) (pv 5) (kO _))))) (aU (x9 (acs fq PySem.F.slot_list_pop PySem.F.type_list_pop acv (pv 4)))) (by w_up)))) (by w_up)))
theorem NQ (Fu:lK K "in_order" "in_order" Ae f fd) (T:Txt P w K mg C A X) {c Pt:ai}(hcd:fd.code=.ref c) (CH:oI base c Pt) (B:base.BuiltinsAt mg Pt)
 (len:Ln sp 2) (run:Rn sp (qj K C Pt) Ej):dC P w K mg base eW 1 f fd Ej sp :=
 Fu.okC hcd Qy len λA0 outer s H vs Q E hr h=>⟨qj K C Pt,
 aU (cz (WZ rfl rfl CH B hr.depth hr.YR rfl T.zw (bg (pv 0) cP) rfl rfl)),run vs H Q E h⟩
theorem E9 (Fu:lK K "ends_within" "ends_within" rQ f fd) (T:Txt P w K mg C A X)
 (len:Ln sp 2) (run:Rn sp (ph K C) Ek):dC P w K mg base eW 1 f fd Ek sp :=
 Fu.j3 (len:=len) GH run λhr nd=>aU (cz (ka vh rfl T.To BootT.len (bg (iM ["place"] (ys:=["side"]) [1] rfl (lU (pv 0)) ⟨rfl,.inl rfl,rfl,trivial⟩ (λ_ _ _=>gf (show (["place","side"]:List aY).Nodup by decide +kernel)) (λ_ _ _=>qV (by w_up)) (λ_ _ _=>(pv 0))) cP)))
theorem Fb (Fu:lK K "is_unsigned" "is_unsigned" rR f fd) (T:Txt P w K mg C A X)
 (len:Ln sp 1) (run:Rn sp (pj K C) ["word","figures"]):dC P w K mg base eW 1 f fd kd sp :=
 Fu.j3 (len:=len) wj run λhr nd=>aF (C8 (i:=1) ["sign"] (ys:=[]) [] rfl wj.nd rfl rfl (aad (pv 0)) trivial (λ_ _ _=>gf (show (["sign"]:List aY).Nodup by decide +kernel)) (λ_ _ _=>qV (iL ac5 (pv 0) (rK rfl T.U5.choose_spec ⟨_,rfl⟩) (by with_unfolding_all rfl))) (λ_ _ _=>(pv 0))) (aU (cz (tX (DA Ic Ic gO (by w_up) (rK rfl T.Gc.choose_spec ⟨_,rfl⟩)) (tX (by w_up) (tW (aa9 (by w_up) (tW (Ju (JF hr.units) (ac6 (pv 0) gO (λ_ _=>rfl)) dR (kO _)))))))))
theorem KH (Fu:lK K "is_number" "is_number" xg f fd) (T:Txt P w K mg C A X) {fI:Sp}(k9:qX P w K mg base eW 1 "is_unsigned" kd fI)
 (len:Ln sp 1) (run:Rn sp (rY K C fI) kd):dC P w K mg base eW 2 f fd kd sp :=
 Fu.j3 (len:=len) Nv run λhr nd=>aU (cz (aa9 (by w_up) (tW (tX (Ju (nW hr.units) (t7 SI (pv 0) ya (by w_up)) dR (kO _)) (tX (by w_up) (tW (Qb k9 hr.m rfl i6 (bg (t7 SI (pv 0) (by w_up) ya) cP))))))))
theorem KI (Fu:lK K "number_of" "number_of" xh f fd) (T:Txt P w K mg C A X) {iN:Sp}(qk:qX P w K mg base eW 2 "is_number" kd iN)
 (len:Ln sp 1) (run:Rn sp (rZ K C iN) kd):dC P w K mg base eW 3 f fd kd sp :=
 Fu.j3 (len:=len) Nw run λhr nd=>aF (gb (by w_up) (aU dw) cV) (aU (cz (Ik UH rfl T.abN BootT.int (by w_up))))
theorem UU (Fu:lK K "listed" "listed" Ka f fd) (T:Txt P w K mg C A X)
 (len:Ln sp 1) (run:Rn sp (Ao K C) yu):dC P w K mg base eW 1 f fd yu sp :=
 Fu.j3 (len:=len) XQ run λhr nd=>aU (cz (i9 (by w_up) (og fQ j6 j7 yp dR (by w_up)) dR))
theorem CG (Fu:lK K "numbers_text" "numbers_text" qB f fd) (T:Txt P w K mg C A X) {dW:Sp}(ke:qX P w K mg base eW 1 "listed" yu dW)
 (len:Ln sp 1) (run:Rn sp (nZ K C dW) Em):dC P w K mg base eW 2 f fd Em sp :=
 Fu.j3 (len:=len) EA run λhr nd=>aU (cz (Qb ke hr.m rfl i6 (bg (iM ["number"] (ys:=[]) [] rfl (lU (pv 0)) trivial (λ_ _ _=>gf (show (["number"]:List aY).Nodup by decide +kernel)) (λ_ _ _=>ip) (λ_ _ _=>(by w_up))) cP)))
theorem KJ (Fu:lK K "ties_text" "ties_text" xi f fd) (T:Txt P w K mg C A X) {dW:Sp}(ke:qX P w K mg base eW 1 "listed" yu dW) {iO:Sp}(ql:qX P w K mg base eW 2 "kept_text" Eh iO)
 (len:Ln sp 1) (run:Rn sp (r0 K C dW iO) ["ties"]):dC P w K mg base eW 3 f fd ["ties"] sp :=
 Fu.j3 (len:=len) Ny run λhr nd=>aU (cz (Qb ke hr.m rfl i6 (bg (iM Eh (ys:=[]) [] rfl (lU (pv 0)) trivial (λ_ _ _=>zW rfl (eQ (gf (show (Eh:List aY).Nodup by decide +kernel)) (eQ (gf (show (Eh:List aY).Nodup by decide +kernel)) (eQ (gf (show (Eh:List aY).Nodup by decide +kernel)) (eQ (gf (show (Eh:List aY).Nodup by decide +kernel)) vc))))) (λ_ _ _=>ip) (λ_ _ _=>(by w_up))) cP)))
theorem G1 (Fu:lK K "trail_text" "trail_text" ud f fd) (T:Txt P w K mg C A X) {dW:Sp}(ke:qX P w K mg base eW 1 "listed" yu dW) {hX:Sp}(oA:qX P w K mg base eW 2 "round_text" tJ hX)
 (len:Ln sp 1) (run:Rn sp (qF K C dW hX) lX):dC P w K mg base eW 3 f fd lX sp :=
 Fu.j3 (len:=len) Kb run λhr nd=>aU (cz (Qb ke hr.m rfl i6 (bg (iM tJ (ys:=[]) [] rfl (lU (pv 0)) trivial (λ_ _ _=>zW rfl (eQ (gf (show (tJ:List aY).Nodup by decide +kernel)) (eQ (gf (show (tJ:List aY).Nodup by decide +kernel)) (eQ (gf (show (tJ:List aY).Nodup by decide +kernel)) (eQ (gf (show (tJ:List aY).Nodup by decide +kernel)) vc))))) (λ_ _ _=>ip) (λ_ _ _=>(by w_up))) cP)))
theorem G2 (Fu:lK K "_law_words" "_law_words" ue f fd) (T:Txt P w K mg C A X)
 (len:Ln sp 1) (run:Rn sp (qG K C) Bo):dC P w K mg base eW 1 f fd Bo sp :=
 Fu.j3 (len:=len) Kd run λhr nd=>aF (gb (PW.pt (aa8 (zV (zU (pv 0))) (by w_up))) (by w_up) cV) (aU (cz (og fQ j6 j7 yp dR (by w_up))))
theorem NR (Fu:lK K "_law_put" "_law_put" Ag f fd) (T:Txt P w K mg C A X) {sp_Keeper_put_o:Sp}(pH:jf P w K mg base (z9 P w) 10 A.Keeper "put" gg sp_Keeper_put_o)
 (len:Ln sp 3) (run:Rn sp (uo K C A X sp_Keeper_put_o) Xt):dC P w K mg base eW 11 f fd IM sp :=
 Fu.j3 (len:=len) xm run λhr nd=>aF (by w_up) (aF (by w_up) (aF (JV (λ_ E=>aU (jX xm.nd (VC pH T.mY hr.m (pv 0) W4 (by w_up)))) rfl ⟨rfl,rfl⟩ (W8.cons rfl T.R0 (λ_=>aU (jX xm.nd VS)) (W8.nil))) (by w_up)))
theorem NS (Fu:lK K "_law_out" "_law_out" Ah f fd) (T:Txt P w K mg C A X) {dF:Sp}(iT:qX P w K mg base eW 1 "_law_words" Bo dF) {sp_Kept_out_o:Sp}(su:jf P w K mg base (z9 P w) 10 A.Keeper "out" gg sp_Kept_out_o) {hZ:Sp}(oB:qX P w K mg base eW 1 "_law_round" Nq hZ)
 (len:Ln sp 3) (run:Rn sp (uq K C A X dF sp_Kept_out_o hZ) Xu):dC P w K mg base eW 11 f fd IM sp :=
 Fu.j3 (len:=len) xn run λhr nd=>aF (by w_up) (aF (by w_up) (aF (JV (λ_ E=>aU (jX xn.nd (VC su T.mY hr.m (pv 0) W4 (by w_up)))) rfl ⟨rfl,rfl⟩ (W8.cons rfl T.LL (λ_=>aU (jX xn.nd VS)) (W8.nil))) (aF (by w_up) (aU (cz (Qb iT hr.m rfl i6 (bg (iM Nq (ys:=[]) [] rfl (lU (pv 4)) trivial (λ_ _ _=>gf (show (Nq:List aY).Nodup by decide +kernel)) (λ_ _ _=>ip) (λ_ _ _=>(by w_up))) cP)))))))
theorem KL (Fu:lK K "_law_said" "_law_said" xj f fd) (T:Txt P w K mg C A X) {sp_Desk_say_o:Sp}(sv:jf P w K mg base (z9 P w) 13 A.jb "say" Bp sp_Desk_say_o)
 (len:Ln sp 2) (run:Rn sp (r9 K C A X sp_Desk_say_o) XA):dC P w K mg base eW 14 f fd XH sp :=
 Fu.j3 (len:=len) qg run λhr nd=>aF (by w_up) (aF (JV (λ_ E=>aU (jX qg.nd (VC sv T.sO hr.m (pv 0) W4 (by w_up)))) rfl ⟨rfl,rfl⟩ (W8.cons rfl T.R0 (λ_=>aU (jX qg.nd dR)) (W8.cons rfl T.LL (λ_=>aU (jX qg.nd dR)) (W8.nil)))) (by w_up))
theorem G4 (Fu:lK K "_law_asked" "_law_asked" uf f fd) (T:Txt P w K mg C A X) {eI:Sp}(mW:jf P w K mg base eW 7 A.Keeper "way" gg eI) {dF:Sp}(iT:qX P w K mg base eW 1 "_law_words" Bo dF) {cX:Sp}(jO:jf P w K mg base eW 6 A.Keeper "joined" gg cX) {jm:Sp}(sA:qX P w K mg base eW 1 "_law_tie" Nt jm) {cN:Sp}(ja:jf P w K mg base eW 3 A.Keeper "account" kM cN) {dS:Sp}(lI:jf P w K mg base eW 5 A.Keeper "side" oh dS) {cw:Sp}(lJ:jf P w K mg base eW 2 A.Keeper "ties" kM cw)
 (len:Ln sp 4) (run:Rn sp (qH K C A eI dF cX jm cN dS cw) Xr):dC P w K mg base eW 8 f fd Xx sp :=
 Fu.j3 (len:=len) Ke run λhr nd=>aF (by w_up) (aF (gb (by w_up) (aU (cz (zZ (bg (by w_up) (bg (i9 (by w_up) dR dR) cP))))) cV) (aF (gb (by w_up) (aF (by w_up) (aF (gb (zV (zU (pv 5))) (by w_up) cV) (aU (cz (zZ (bg (by w_up) (bg (og fQ j6 j7 yp dR (bg (iM ["_law_place"] (ys:=[]) [] rfl (lU (pv 5)) trivial (λ_ _ _=>gf (show (["_law_place"]:List aY).Nodup by decide +kernel)) (λ_ _ _=>ip) (λ_ _ _=>(by w_up))) cP)) cP))))))) cV) (aF (gb (by w_up) (aU (cz (zZ (bg (by w_up) (bg (og fQ j6 j7 yp dR (bg (iM ["_law_place"] (ys:=[]) [] rfl (by w_up) trivial (λ_ _ _=>gf (show (["_law_place"]:List aY).Nodup by decide +kernel)) (λ_ _ _=>ip) (λ_ _ _=>(by w_up))) cP)) cP))))) cV) (aF (gb (by w_up) (aU (cz (zZ (bg dR (bg (Qb iT hr.m rfl i6 (bg (iM Nt (ys:=[]) [] rfl (by w_up) trivial (λ_ _ _=>gf (show (Nt:List aY).Nodup by decide +kernel)) (λ_ _ _=>ip) (λ_ _ _=>(by w_up))) cP)) cP))))) cV) (aU (cz (zZ (bg dR (bg (og fQ j6 j7 yp dR (bg (iM ["_law_number"] (ys:=[]) [] rfl (by w_up) trivial (λ_ _ _=>gf (show (["_law_number"]:List aY).Nodup by decide +kernel)) (λ_ _ _=>ip) (λ_ _ _=>(by w_up))) cP)) cP)))))))))
theorem ado (Fu:lK K "law" "law" adf f fd) (T:Txt P w K mg C A X) {bZ:Sp}(l6:qX P w K mg base eW 1 "_law_cell_at" Nm bZ) {bP:Sp}(dZ:Qa P w K mg base eW 7 A.jb kM bP) {aW:Sp}(bW:Qa P w K mg base eW 5 A.Keeper oY aW) {ck:Sp}(qm:qX P w K mg base eW 16 "_law_step" Xv ck) {bF:Sp}(sC:jf P w K mg base eW 13 A.jb "say" Bp bF)
 (len:Ln sp 1) (run:Rn sp (QH K C A bZ bP aW ck bF) ade):dC P w K mg base eW 17 f fd Np sp :=
 Fu.j3 (len:=len) NC run λhr nd=>aF (by w_up) (aF (by w_up) (aF (jX NC.nd (ME dZ.m dZ.G hr.m rfl T.Tq dZ.b .nil i6)) (aF (jX NC.nd (ME dZ.m dZ.G hr.m rfl T.Tq dZ.b .nil i6)) (aF (by w_up) (aF (by w_up) (aF (jX NC.nd (vf bW.m bW.G hr.m rfl T.vt bW.b .nil i6 (by w_up))) (aF (jX NC.nd (vf bW.m bW.G hr.m rfl T.vt bW.b .nil i6 (by w_up))) (by w_up))))))))
theorem AE (Fu:lK K "__init__" "Wood.__init__" oZ f fd) (T:Txt P w K mg C A X)
 (len:Ln sp 2) (run:Rn sp (mS K C) oY):dC P w K mg base eW 1 f fd oY sp :=
 Fu.j3 (len:=len) Ck run λhr nd=>aF (by w_up) (aU (DF (pv 0) (iM ["place"] (ys:=[]) [] rfl (by w_up) trivial (λ_ _ _=>gf (show (["place"]:List aY).Nodup by decide +kernel)) (λ_ _ _=>ip) (λ_ _ _=>(by w_up))) rfl))
theorem xA (Fu:lK K "__init__" "Levels.__init__" mQ f fd) (T:Txt P w K mg C A X) {dP:Sp}(gQ:Qa P w K mg base eW 1 C oY dP) {lz:Sp}(Ja:qX P w K mg base eW 1 "top" ["n"] lz)
 (len:Ln sp 2) (run:Rn sp (lA K C A dP lz) oY):dC P w K mg base eW 3 f fd oY sp :=
 Fu.j3 (len:=len) yD run λhr nd=>aF (by w_up) (aF (by w_up) (aF (by w_up) (aU (DF (pv 0) (iM ["level"] (ys:=["n"]) [1] rfl (by w_up) ⟨rfl,.inl rfl,rfl,trivial⟩ (λ_ _ _=>gf (show (["level","n"]:List aY).Nodup by decide +kernel)) (λ_ _ _=>ip) (λ_ _ _=>vf gQ.m gQ.G hr.m rfl T.aaJ gQ.b .nil i6 (by w_up))) rfl))))
theorem Fc (Fu:lK K "lift" "Levels.lift" rS f fd) (T:Txt P w K mg C A X) {d8:Sp}(qo:jf P w K mg base eW 6 C "link" gg d8)
 (len:Ln sp 2) (run:Rn sp (pA K C A d8) ou):dC P w K mg base eW 7 f fd ou sp :=
 Fu.j3 (len:=len) GJ run λhr nd=>aF (ZO (bw (Ba (by decide) _) hr.units) (by w_up) (pv 1) gO DG (λ_ _ _=>rfl)) (by w_up)
theorem Fe (Fu:lK K "drop" "Levels.drop" rT f fd) (T:Txt P w K mg C A X) {ia:Sp}(sD:jf P w K mg base eW 6 C "cut" gg ia)
 (len:Ln sp 2) (run:Rn sp (pB K C A ia) XC):dC P w K mg base eW 7 f fd ou sp :=
 Fu.j3 (len:=len) wk run λhr nd=>aF (x9 (og lP u7 u9 (JQ hr.units) (by w_up) (by w_up))) (aF (jX wk.nd (og lP u7 u9 (JQ hr.units) (by w_up) (by w_up))) (aU (gb (DP (og lP u7 u9 (JQ hr.units) (by w_up) (by w_up)) (λ_=>rfl)) (by w_up) cV)))
theorem xB (Fu:lK K "at_level" "Levels.at_level" mR f fd) (T:Txt P w K mg C A X) {jo:Sp}(pI:qX P w K mg base eW 1 "in_order" Ej jo)
 (len:Ln sp 3) (run:Rn sp (lB K C A jo) XB):dC P w K mg base eW 2 f fd SZ sp :=
 Fu.j3 (len:=len) qh run λhr nd=>aF (C8 (i:=3) ["tie"] (ys:=["level","self"]) [1,0] rfl qh.nd rfl rfl (abp (by w_up)) ⟨rfl,.inl rfl,rfl,⟨rfl,.inl rfl,rfl,trivial⟩⟩ (λ_ _ _=>gf (show (["tie","level","self"]:List aY).Nodup by decide +kernel)) (λ_ _ _=>qV (by w_up)) (λ_ _ _=>(pv 0))) (aU (cz (Qb pI hr.m rfl i6 (bg (iM ["tie"] (ys:=["wooden","self"]) [2,0] rfl (lU (pv 3)) ⟨rfl,.inl rfl,rfl,⟨rfl,.inl rfl,rfl,trivial⟩⟩ (λ_ _ _=>gf (show (["tie","wooden","self"]:List aY).Nodup by decide +kernel)) (λ_ _ _=>qV (by w_up)) (λ_ _ _=>(pv 0))) (by w_up)))))
theorem tK (Fu:lK K "lesser_side" "Levels.lesser_side" kP f fd) (T:Txt P w K mg C A X) {eT:Sp}(l7:jf P w K mg base eW 4 C "group" oh eT) {gZ:Sp}(qp:jf P w K mg base eW 4 C "size" oh gZ)
 (len:Ln sp 3) (run:Rn sp (jT K C A eT gZ) XD):dC P w K mg base eW 5 f fd Bn sp :=
 Fu.j3 (len:=len) uh run λhr nd=>aF (by w_up) (aU (cz (VC l7 T.LK hr.m (pv 3) i6 (bg (i9 (by w_up) (by w_up) (by w_up)) cP))))
theorem Fg (Fu:lK K "look" "Levels.look" rV f fd) (T:Txt P w K mg C A X) {bR:Sp}(iU:jf P w K mg base eW 5 A.bo "lesser_side" Bn bR) {b9:Sp}(j0:jf P w K mg base eW 2 A.bo "at_level" SZ b9) {cQ:Sp}(ni:jf P w K mg base eW 7 A.bo "lift" ou cQ) {cR:Sp}(nj:qX P w K mg base eW 1 "ends_within" Ek cR) {b0:Sp}(l8:jf P w K mg base eW 7 A.bo "adopt" ou b0)
 (len:Ln sp 3) (run:Rn sp (pC K C A bR b9 cQ cR b0) Xw):dC P w K mg base eW 8 f fd Bn sp :=
 Fu.j3 (len:=len) qC run λhr nd=>aF (VW (i:=3) qC.nd rfl (Or.inr rfl) (by w_up)) (aF (C8 (i:=4) ["other"] (ys:=["side"]) [3] rfl qC.nd rfl rfl (by w_up) ⟨rfl,.inl rfl,rfl,trivial⟩ (λ_ _ _=>gf (show (["other","side"]:List aY).Nodup by decide +kernel)) (λ_ _ _=>qV (by w_up)) (λ_ _ _=>(pv 0))) (by w_up))
theorem Fh (Fu:lK K "take" "Levels.take" rW f fd) (T:Txt P w K mg C A X) {cY:Sp}(nq:jf P w K mg base eW 7 A.bo "drop" ou cY) {cZ:Sp}(nr:jf P w K mg base eW 8 A.bo "look" Bn cZ)
 (len:Ln sp 2) (run:Rn sp (pD K C A cY cZ) Xy):dC P w K mg base eW 9 f fd ou sp :=
 Fu.j3 (len:=len) qD run λhr nd=>aF (by w_up) (aF (by w_up) (aF (by w_up) (aF (by w_up) (aF (Dv jN (by w_up) (aF (by w_up) (aF (jX qD.nd (aca (zU (t8 (DL hr.units) (t8 (DL hr.units) (pv 4) (aba V1 gO) (λ_ _=>rfl)) gO (λ_ _=>rfl))))) (aU (Pp (i:=2) qD.nd rfl (Or.inl rfl) gO Zz))))) (by w_up)))))
theorem AF (Fu:lK K "__init__" "Kept.__init__" pb f fd) (T:Txt P w K mg C A X) {cc:Sp}(fM:Qa P w K mg base eW 3 A.bo oY cc) {eJ:Sp}(sE:qX P w K mg base eW 2 "is_count" qe eJ)
 (len:Ln sp 2) (run:Rn sp (mU K C A cc eJ) oY):dC P w K mg base eW 5 f fd oY sp :=
 Fu.j3 (len:=len) Cm run λhr nd=>aF (gb (by w_up) (aU dw) cV) (aF (by w_up) (aF (DF (pv 0) (vf fM.m fM.G hr.m rfl T.U3 fM.b .nil i6 (by w_up)) rfl) (by w_up)))
theorem NT (Fu:lK K "out" "Kept.out" vk f fd) (T:Txt P w K mg C A X) {dv:Sp}(l9:qX P w K mg base eW 6 "standing_tie" J3 dv) {gh:Sp}(yS:qX P w K mg base eW 2 "credit" El gh) {dJ:Sp}(nu:jf P w K mg base eW 9 A.bo "take" ou dJ) {jD:Sp}(Dh:qX P w K mg base eW 2 "looks" lX jD) {fH:Sp}(vp:qX P w K mg base eW 1 "rises" lX fH) {cm:Sp}(jP:jf P w K mg base eW 1 A.bo "told" ou cm)
 (len:Ln sp 3) (run:Rn sp (uA K C A dv gh dJ jD fH cm) Nl):dC P w K mg base eW 10 f fd gg sp :=
 Fu.j3 (len:=len) xo run λhr nd=>aF (by w_up) (aF (ve (pv 0) (by w_up) DG) (aF (by w_up) (aF (ve (pv 0) (by w_up) DG) (aF (ve (pv 0) (by w_up) DG) (by w_up)))))
theorem KM (Fu:lK K "ties" "Kept.ties" xk f fd) (T:Txt P w K mg C A X) {cm:Sp}(jP:jf P w K mg base eW 1 A.bo "told" ou cm)
 (len:Ln sp 1) (run:Rn sp (se K C A cm) kM):dC P w K mg base eW 2 f fd kM sp :=
 Fu.j3 (len:=len) NI run λhr nd=>aU (cz (ka yn rfl T.zw BootT.JH (bg (iM ["tie"] (ys:=kM) [0] rfl (abp (by w_up)) ⟨rfl,.inl rfl,rfl,trivial⟩ (λ_ _ _=>gf (show (["tie","self"]:List aY).Nodup by decide +kernel)) (λ_ _ _=>ip) (λ_ _ _=>(by w_up))) cP)))
theorem AG (Fu:lK K "__init__" "Desk.__init__" pd f fd) (T:Txt P w K mg C A X) {aW:Sp}(bW:Qa P w K mg base eW 5 A.Keeper oY aW)
 (len:Ln sp 1) (run:Rn sp (mV K C A aW) kM):dC P w K mg base eW 7 f fd kM sp :=
 Fu.j3 (len:=len) Cn run λhr nd=>aU (DF (pv 0) (vf bW.m bW.G hr.m rfl T.vt bW.b .nil i6 (by w_up)) rfl)
theorem NU (Fu:lK K "say" "Desk.say" vm f fd) (T:Txt P w K mg C A X) {gH:Sp}(la:jf P w K mg base eW 12 A.jb "answer" Ei gH) {dj:Sp}(kg:qX P w K mg base eW 3 "number_of" kd dj)
 (len:Ln sp 2) (run:Rn sp (BE K C A gH dj) IP):dC P w K mg base eW 13 f fd Bp sp :=
 Fu.j3 (len:=len) rX run λhr nd=>aF (jX rX.nd (og fQ Pb Pc M9 (pv 1) (by w_up))) (aF (gb (by w_up) (aU dw) cV) (aF (gb (iL (JF hr.units) (SK T.nums.choose_spec.2 (rK rfl T.nums.choose_spec.1 rfl) (by w_up)) (by w_up) (kO _)) (aU dw) cV) (aU (cz (VC la T.sO hr.m (pv 0) i6 (bg (by w_up) (bg (iM kd (ys:=[]) [] rfl (by w_up) trivial (λ_ _ _=>gf (show (kd:List aY).Nodup by decide +kernel)) (λ_ _ _=>ip) (λ_ _ _=>(by w_up))) cP)))))))
theorem Fi (Fu:lK K "answer" "Desk.answer" ow f fd) (T:Txt P w K mg C A X) {du:Sp}(ma:qX P w K mg base eW 2 "numbers_text" Em du) {ib:Sp}(md:jf P w K mg base eW 1 A.jb "begin" Nn ib) {jq:Sp}(sF:jf P w K mg base eW 11 A.jb "put" gg jq) {ic:Sp}(oC:qX P w K mg base eW 3 "trail_text" lX ic) {jr:Sp}(sG:qX P w K mg base eW 3 "way_text" ["way"] jr) {iP:Sp}(qq:qX P w K mg base eW 3 "ties_text" ["ties"] iP) {cN:Sp}(ja:jf P w K mg base eW 3 A.Keeper "account" kM cN) {aW:Sp}(bW:Qa P w K mg base eW 5 A.Keeper oY aW) {iQ:Sp}(sH:jf P w K mg base eW 10 A.Keeper "out" gg iQ) {cX:Sp}(jO:jf P w K mg base eW 6 A.Keeper "joined" gg cX) {eI:Sp}(mW:jf P w K mg base eW 7 A.Keeper "way" gg eI) {dS:Sp}(lI:jf P w K mg base eW 5 A.Keeper "side" oh dS) {cw:Sp}(lJ:jf P w K mg base eW 2 A.Keeper "ties" kM cw)
 (len:Ln sp 3) (run:Rn sp (l5 K C A du ib jq ic jr iP cN aW iQ cX eI dS cw) Ei):dC P w K mg base eW 12 f fd Ei sp :=
 Fu.j3 (len:=len) wm run λhr nd=>aF (gb (by w_up) (aU (cz (VC md T.sO hr.m (pv 0) i6 (bg (vf bW.m bW.G hr.m rfl T.vt bW.b .nil i6 (by w_up)) cP)))) cV) (aF (by w_up) (aF (by w_up) (aF (gb (by w_up) (aU (cz (i9 (by w_up) dR dR))) cV) (aF (by w_up) (aF (by w_up) (aF (by w_up) (aF (gb (by w_up) (aU dw) cV) (by w_up))))))))
theorem NV (Fu:lK K "put" "Desk.put" vn f fd) (T:Txt P w K mg C A X) {gp:Sp}(oE:jf P w K mg base eW 10 A.Keeper "put" gg gp)
 (len:Ln sp 3) (run:Rn sp (uC K C A gp) gg):dC P w K mg base eW 11 f fd gg sp :=
 Fu.j3 (len:=len) EG run λhr nd=>aF (gb (DP (ka II rfl T.mi BootT.oS (bg (by w_up) (bg (rK rfl T.BZ rfl) cP))) (λ_=>rfl)) (aU dw) cV) (aU (cz (i9 (by w_up) dR dR)))
theorem KN (Fu:lK K "new_tie" "new_tie" Eo f fd) (T:Txt P w K mg C A X) {aV:Sp}(fg:qX P w K mg base eW 5 "refuse_no_pair" v8 aV) {dH:Sp}(nO:qX P w K mg base eW 1 "tie_of" v9 dH)
 (len:Ln sp 4) (run:Rx sp (λE=>oz K C X E aV dH) Nk):dC P w K mg base (z9 P w) 6 f fd J3 sp :=
 Fu.okR Aj len λmM A0 outer s H vs Q E hr h=>⟨oz K C X E aV dH,
 aF (x9 (Qb fg hr.m rfl i6 (bg (pv 0) (bg (pv 2) (bg (pv 3) cP)))))
 (aF (jX Aj.nd (Qb nO hr.m rfl i6 (bg (pv 2) (bg (pv 3) cP))))
 (aF (gb (iL (Wl hr.units) (pv 4) (pv 1) (by with_unfolding_all rfl))
 (aU (M6 rfl rfl ⟨T.R0,T.sN.ex⟩ Bi))
 cV)
 (aU (cz (pv 4))))),run vs H Q E h⟩
theorem yT (Fu:lK K "standing_tie" "standing_tie" qA f fd) (T:Txt P w K mg C A X) {aV:Sp}(fg:qX P w K mg base eW 5 "refuse_no_pair" v8 aV) {dH:Sp}(nO:qX P w K mg base eW 1 "tie_of" v9 dH)
 (len:Ln sp 4) (run:Rx sp (λE=>jY K C X E aV dH) Nk):dC P w K mg base (z9 P w) 6 f fd J3 sp :=
 Fu.okR pe len λmM A0 outer s H vs Q E hr h=>⟨jY K C X E aV dH,
 aF (x9 (Qb fg hr.m rfl i6 (bg (pv 0) (bg (pv 2) (bg (pv 3) cP)))))
 (aF (jX pe.nd (Qb nO hr.m rfl i6 (bg (pv 2) (bg (pv 3) cP))))
 (aF (gb (iL (Iv hr.units) (pv 4) (pv 1) (by with_unfolding_all rfl))
 (aU (M6 rfl rfl ⟨T.LL,T.nR.ex⟩ Bi))
 cV)
 (aU (cz (pv 4))))),run vs H Q E h⟩
theorem CI (Fu:lK K "put" "Keeper.put" ug f fd) (T:Txt P w K mg C A X) {dM:Sp}(kh:jf P w K mg base eW 9 A.Keeper "receive" yt dM) {iR:Sp}(uJ:qX P w K mg base (z9 P w) 6 "new_tie" J3 iR)
 (len:Ln sp 3) (run:Rx sp (λE=>ll K C A E dM iR) gg):dC P w K mg base (z9 P w) 10 f fd gg sp :=
 Fu.okR yE len λmM A0 outer s H vs Q E hr h=>⟨ll K C A E dM iR,
 aU (cz (VC kh T.mY hr.m (pv 0) i6 (bg (Qb uJ hr.m rfl IE (bg (qw (pv 0) rfl) (bg (qw (qw (pv 0) rfl) rfl) (bg (pv 1) (bg (pv 2) cP))))) (bg gO cP)))),run vs H Q E h⟩
theorem G5 (Fu:lK K "out" "Kept.out" vk f fd) (T:Txt P w K mg C A X) {eK:Sp}(mX:qX P w K mg base (z9 P w) 6 "standing_tie" J3 eK)
 (len:Ln sp 3) (run:Rx sp (λE=>m9 K C A E eK) Nl):dC P w K mg base (z9 P w) 7 f fd gg sp :=
 Fu.okR xo len λmM A0 outer s H vs Q E hr h=>⟨m9 K C A E eK,
 aF (jX xo.nd (Qb mX hr.m rfl IE (bg (qw (pv 0) rfl) (bg (qw (qw (pv 0) rfl) rfl) (bg (pv 1) (bg (pv 2) cP))))))
 (aF dw
 (aF dw
 (aF dw
 (aF dw
 (aU dw))))),run vs H Q E h⟩
theorem G6 (Fu:lK K "put" "Desk.put" vn f fd) (T:Txt P w K mg C A X) {eX:Sp}(pJ:jf P w K mg base (z9 P w) 10 A.Keeper "put" gg eX)
 (len:Ln sp 3) (run:Rx sp (λE=>nc K C A X E eX) gg):dC P w K mg base (z9 P w) 11 f fd gg sp :=
 Fu.okR EG len λmM A0 outer s H vs Q E hr h=>⟨nc K C A X E eX,
 aF (gb (DP (ka II rfl T.mi BootT.oS (bg (qw (pv 0) rfl) (bg (rK rfl T.BZ rfl) cP))) (λ_=>rfl))
 (aU dw)
 cV)
 (aU (cz (i9 (DP (VC pJ T.mY hr.m (qw (pv 0) rfl) IE (bg (pv 1) (bg (pv 2) cP))) (λ_=>rfl)) dR dR))),run vs H Q E h⟩
theorem AH (Fu:lK K "answer" "Desk.answer" ow f fd) (T:Txt P w K mg C A X) {ie:Sp}(sI:jf P w K mg base (z9 P w) 11 A.jb "put" gg ie) {gv:Sp}(sJ:jf P w K mg base (z9 P w) 7 A.Keeper "out" gg gv)
 (len:Ln sp 3) (run:Rx sp (λE=>kD K C A E ie gv) Ei):dC P w K mg base (z9 P w) 12 f fd Ei sp :=
 Fu.okR wm len λmM A0 outer s H vs Q E hr h=>⟨kD K C A E ie gv,
 aF (gb (iL (nW hr.units) (pv 1) dR (kO _))
 (aU dw)
 cV)
 (aF (gb (iL (nW hr.units) (pv 1) dR (kO _))
 (aU (cz (VC sI T.sO hr.m (pv 0) IE (bg (t8 (DL hr.units) (pv 2) gO (λ_ _=>rfl)) (bg (t8 (DL hr.units) (pv 2) gO (λ_ _=>rfl)) cP)))))
 cV)
 (aF (gb (iL (nW hr.units) (pv 1) dR (kO _))
 (aU (cz (UF rfl T.zu.choose_spec.1 T.zu.choose_spec.2 (bg (VC sJ T.mY hr.m (qw (pv 0) rfl) IE (bg (t8 (DL hr.units) (pv 2) gO (λ_ _=>rfl)) (bg (t8 (DL hr.units) (pv 2) gO (λ_ _=>rfl)) cP))) cP))))
 cV)
 (aF (gb (iL (nW hr.units) (pv 1) dR (kO _))
 (aU dw)
 cV)
 (aF (gb (iL (nW hr.units) (pv 1) dR (kO _))
 (aU dw)
 cV)
 (aF (gb (iL (nW hr.units) (pv 1) dR (kO _))
 (aU dw)
 cV)
 (aF (gb (iL (nW hr.units) (pv 1) dR (kO _))
 (aU dw)
 cV)
 (aF (gb (iL (nW hr.units) (pv 1) dR (kO _))
 (aU dw)
 cV)
 (aU dw)))))))),run vs H Q E h⟩
theorem G7 (Fu:lK K "say" "Desk.say" vm f fd) (T:Txt P w K mg C A X) {ff:Sp}(n5:jf P w K mg base (z9 P w) 12 A.jb "answer" Ei ff) {dj:Sp}(kg:qX P w K mg base eW 3 "number_of" kd dj)
 (len:Ln sp 2) (run:Rx sp (λE=>iZ K C A X E ff dj) IP):dC P w K mg base (z9 P w) 13 f fd Bp sp :=
 Fu.okR rX len λmM A0 outer s H vs Q E hr h=>⟨iZ K C A X E ff dj,
 aF (jX rX.nd (og fQ Pb Pc M9 (pv 1) (bg dR cP)))
 (aF (gb (PW.pt (Pl (iL (nW hr.units) (t8 (DL hr.units) (pv 2) gO (λ_ _=>rfl)) dR (kO _)) (Jr (iL abc (ka vh rfl T.To BootT.len (bg (pv 2) cP)) gO (kO _)))))
 (aU dw)
 cV)
 (aF (gb (iL (JF hr.units) (SK T.nums.choose_spec.2 (rK rfl T.nums.choose_spec.1 rfl) (bg (t8 (DL hr.units) (pv 2) gO (λ_ _=>rfl)) cP)) (Sg V0 (ka vh rfl T.To BootT.len (bg (pv 2) cP)) gO) (kO _))
 (aU dw)
 cV)
 (aU (cz (VC n5 T.sO hr.m (pv 0) IE (bg (t8 (DL hr.units) (pv 2) gO (λ_ _=>rfl)) (bg (iM kd (ys:=[]) [] rfl (lU (t7 Jy (pv 2) (Jw gO) ya)) trivial (λ_ _ _=>gf (show (kd:List aY).Nodup by decide +kernel)) (λ_ _ _=>ip) (λ_ _ _=>Qb kg hr.m rfl i6 (bg (pv 0) cP))) cP))))))),run vs H Q E h⟩
theorem adp {l:tw}{w:cK}{K:aa}{h:cI}{mg:aY->Option au}{fa:ai}(X:K.In h) (G:h.Ns br mg) (hfa:mg "law"=some (.ref fa)) {c1 Pt1:ai}{C A_Levels A_Keeper A_Desk A_Lightest:ai}
  (KO:bN K br "Wood"=some (some (.ref C))) (KR:iw K C u0=true) (KU:i3 K C=true) (KW:j9 K C=true) (KY:bj K (.ref C) "__setattr__"=some (some (.builtin "object.__setattr__"))) (KZ:jV K C=true) (K0:c6 K (.ref C)=true)
  (uY:bj K (.ref C) "n"=some none)
  (nS:bj K (.ref C) "rows"=some none)
  (AI:bN K br "Levels"=some (some (.ref A_Levels))) (AJ:iw K A_Levels u0=true) (AK:i3 K A_Levels=true) (AM:j9 K A_Levels=true) (AN:bj K (.ref A_Levels) "__setattr__"=some (some (.builtin "object.__setattr__"))) (AO:jV K A_Levels=true) (AQ:c6 K (.ref A_Levels)=true)
  (iV:bj K (.ref A_Levels) "level_of"=some none)
  (ir:bj K (.ref A_Levels) "weight_of"=some none)
  (jG:bj K (.ref A_Levels) "wooden"=some none)
  (kj:bj K (.ref A_Levels) "woods"=some none)
  (AR:bN K br "Keeper"=some (some (.ref A_Keeper))) (AS:iw K A_Keeper u0=true) (AU:i3 K A_Keeper=true) (AV:j9 K A_Keeper=true) (AW:bj K (.ref A_Keeper) "__setattr__"=some (some (.builtin "object.__setattr__"))) (AX:jV K A_Keeper=true) (AY:c6 K (.ref A_Keeper)=true)
  (lb:bj K (.ref A_Keeper) "came"=some none)
  (jF:bj K (.ref A_Keeper) "levels"=some none)
  (jE:bj K (.ref A_Keeper) "looked"=some none)
  (lg:bj K (.ref A_Keeper) "lost"=some none)
  (pR:bj K (.ref A_Keeper) "n"=some none)
  (ki:bj K (.ref A_Keeper) "risen"=some none)
  (lh:bj K (.ref A_Keeper) "wood"=some none)
  (K1:bN K br "Desk"=some (some (.ref A_Desk))) (K2:iw K A_Desk u0=true) (K3:i3 K A_Desk=true) (K4:j9 K A_Desk=true) (K5:bj K (.ref A_Desk) "__setattr__"=some (some (.builtin "object.__setattr__"))) (K6:jV K A_Desk=true) (K7:c6 K (.ref A_Desk)=true)
  (nT:bj K (.ref A_Desk) "kept"=some none)
  (uK:bN K br "Lightest"=some (some (.ref A_Lightest)))
  {X_NoTie:ai}(ax_NoTie:bN K br "NoTie"=some (some (.ref X_NoTie)))
  {X_Tied:ai}(ax_Tied:bN K br "Tied"=some (some (.ref X_Tied)))
  (nR:XF K X_NoTie X_Tied X_NoTie true false)
  (sN:XF K X_NoTie X_Tied X_Tied false true)
  (xhn:qS K (.builtin "object.__class__") "__get__"=some (some (.builtin "getset_descriptor.__get__"))) (YQ:tT K (.builtin "object.__class__")=some true)
  (iA:iD K (.ref A_Keeper) (.ref A_Lightest)=some false) (hA:bj K (.ref A_Keeper) "__class__"=some (some (.builtin "object.__class__"))) (mA:LR K A_Keeper (.type "object")=some true)
  {a_N:ai}(aN:bN K br "NUMBERS"=some (some (.ref a_N))) (tN:∀ h,K.In h->Gj l.prog w h a_N UM)
  {yU:ai}(an_trail_text:bN K br "trail_text"=some (some (.ref yU))) (kn_trail_text:c6 K (.ref yU)=true)
  (Fj:oO K mg "is_whole" Ac qe)
  (abJ:oO K mg "top" stop ["n"])
  (NW:oO K mg "tie_of" Ta v9)
  (Th:oO K mg "rises" Qt lX)
  (wC:oO K mg "steps_along" yw ["row"])
  (NX:oO K mg "turned" J7 Nr)
  (xC:oO K mg "in_order" Ae Ej)
  (wD:oO K mg "ends_within" rQ Ek)
  (wF:oO K mg "is_unsigned" rR kd)
  (NY:oO K mg "listed" Ka yu)
  (Fk:oO K mg "tie_text" IT v9)
  (uL:oO K mg "_law_cell_at" wb Nm)
  (BH:oO K mg "_law_pair" Er ["_law_cell","_law_n"])
  (yV:oO K mg "_law_round" Bs Nq)
  (Fn:oO K mg "_law_tie" IU Nt)
  (yW:oO K mg "_law_words" ue Bo)
  (sZ:jU K C "__init__" "Wood.__init__" oZ oY)
  (BI:jU K C "keep" "Wood.keep" Eu Bp)
  (wG:jU K A_Levels "told" "Levels.told" yz ou)
  (yX:jU K A_Desk "begin" "Desk.begin" Bv Nn)
  (Fo:oO K mg "is_count" Ad qe)
  (Fp:oO K mg "is_place" IR Bq)
  (NZ:oO K mg "credit" J5 El)
  (Tj:oO K mg "looks" Qu lX)
  (Jb:oO K mg "spliced" En XG)
  (N0:oO K mg "parted" J8 IQ)
  (N8:oO K mg "way_in" J9 IQ)
  (BJ:oO K mg "is_number" xg kd)
  (uM:oO K mg "numbers_text" qB Em)
  (BK:oO K mg "kept_text" Ep Eh)
  (yY:oO K mg "round_text" Br tJ)
  (qr:jU K A_Levels "at_level" "Levels.at_level" mR SZ)
  (BL:jU K A_Keeper "ties" "Kept.ties" xk kM)
  (qt:oO K mg "refuse_no_place" qZ Bq)
  (BM:oO K mg "number_of" xh kd)
  (Fq:oO K mg "way_text" IS ["way"])
  (BN:oO K mg "ties_text" xi ["ties"])
  (yZ:oO K mg "trail_text" ud lX)
  (qu:jU K A_Levels "__init__" "Levels.__init__" mQ oY)
  (uN:jU K A_Keeper "account" "Kept.account" wg kM)
  (pK:oO K mg "refuse_no_places" qf v8)
  (y0:jU K C "group" "Wood.group" Bt oh)
  (BO:jU K C "size" "Wood.size" Ex oh)
  (rA:oO K mg "refuse_no_pair" sR v8)
  (wH:jU K C "joined" "Wood.joined" yx gg)
  (nQ:jU K A_Levels "lesser_side" "Levels.lesser_side" kP Bn)
  (tj:jU K A_Keeper "__init__" "Kept.__init__" pb oY)
  (BP:jU K A_Keeper "side" "Kept.side" Ey oh)
  (vq:oO K mg "new_tie" Eo J3)
  (mf:oO K mg "standing_tie" qA J3)
  (BQ:jU K C "link" "Wood.link" Ew gg)
  (Fs:jU K C "cut" "Wood.cut" IV gg)
  (Ft:jU K C "way" "Wood.way" IW gg)
  (wI:jU K A_Keeper "joined" "Kept.joined" yA gg)
  (uO:jU K A_Levels "adopt" "Levels.adopt" wc ou)
  (wJ:jU K A_Levels "lift" "Levels.lift" rS ou)
  (wK:jU K A_Levels "drop" "Levels.drop" rT ou)
  (Fv:jU K A_Keeper "way" "Kept.way" IX gg)
  (tm:jU K A_Desk "__init__" "Desk.__init__" pd kM)
  (pL:jU K A_Keeper "out" "Kept.out" vk gg)
  (y3:oO K mg "_law_asked" uf Xx)
  (y4:jU K A_Levels "add" "Levels.add" Bu yt)
  (wL:jU K A_Levels "look" "Levels.look" rV Bn)
  (wM:jU K A_Levels "take" "Levels.take" rW ou)
  (uP:jU K A_Keeper "receive" "Kept.receive" we yt)
  (mh:jU K A_Keeper "put" "Keeper.put" ug gg)
  (Fw:oO K mg "_law_put" Ag IM)
  (Fx:oO K mg "_law_out" Ah IM)
  (sL:jU K A_Desk "put" "Desk.put" vn gg)
  (nz:jU K A_Desk "answer" "Desk.answer" ow Ei)
  (pM:jU K A_Desk "say" "Desk.say" vm Bp)
  (BR:oO K mg "_law_said" xj XH)
  (BS:oO K mg "_law_deed" Es abB)
  (BU:oO K mg "_law_step" Et Xv)
  (Tn:oO K mg "law" adf Np)
  (xD:xC.d.code=.ref c1)
  (QV:bN K br "bool"=some none)
  (Ye:bN K br "int"=some none)
  (sM:bN K br "isinstance"=some none)
  (Yg:bN K br "len"=some none)
  (QW:bN K br "list"=some none)
  (Yh:bN K br "max"=some none)
  (Yi:bN K br "min"=some none)
  (K8:bN K br "range"=some none)
  (Yj:bN K br "set"=some none)
  (Fy:bN K br "sorted"=some none)
  (Yk:bN K br "str"=some none)
  (Yl:bN K br "sum"=some none)
  (Ym:bN K br "zip"=some none)
  {G8:Tu}(qL:bN K br "MOST_PLACES"=some (some (.int 200 G8)))
  {Fz:Tu}(pN:bN K br "MOST_FIGURES"=some (some (.int 60 Fz)))
  {UV:Tu}(AZ:bN K br "FIGURES"=some (some (.str "0123456789" UV)))
  : ∃ fd:gA,(∀ (s:aC) (v:au),LS s fd ⟨[v],[]⟩ [("_law_script",v)])/\∀ base:cI,K.In base->base.Ns br mg->oI base c1 Pt1->base.BuiltinsAt mg Pt1->dC l.prog w K mg base eW 17 fa fd Np (E8 K Pt1):=by
 have e:=Tn.law hfa;subst e
 have T:Txt l.prog w K mg C (⟨A_Levels,A_Keeper,A_Lightest,A_Desk⟩:CA) (⟨X_NoTie,X_Tied⟩:EC):=⟨⟨KR,KU,KW,KY⟩,eY X G KO,uY,nS,⟨AJ,AK,AM,AN⟩,eY X G AI,iV,ir,jG,kj,⟨AS,AU,AV,AW⟩,eY X G AR,lb,jF,jE,lg,pR,ki,lh,⟨K2,K3,K4,K5⟩,eY X G K1,nT,eY X G uK,eY X G ax_NoTie,eY X G ax_Tied,nR,sN,xhn,YQ,cT X G QV,cT X G Ye,cT X G sM,cT X G Yg,cT X G QW,cT X G Yh,cT X G Yi,cT X G K8,cT X G Yj,cT X G Fy,cT X G Yk,cT X G Yl,cT X G Ym,⟨_,eY X G qL⟩,⟨_,eY X G AZ⟩,⟨_,eY X G pN⟩,iA,⟨_,eY X G aN,tN⟩,⟨_,eY X G an_trail_text,kn_trail_text⟩⟩
 have ct:Gn K C (⟨A_Levels,A_Keeper,A_Lightest,A_Desk⟩:CA):=⟨⟨⟨T.LK,T.uY,T.nS⟩,T.Je,T.iV,T.jG,T.ir,T.kj,T.mY,T.pR,T.jF,T.lh,T.lb,T.jE,T.ki,T.lg⟩,T.sO,T.nT,iA,hA,mA,xhn,YQ⟩
 refine ⟨Tn.d,λs v=>Tn.bt s [v] rfl,λbase _ _ CH1 B1=>?_⟩;have so:=Fj.jg l.prog w base (NO Fj.F T (by walk_at "l") Kj);have Ja:=abJ.jg l.prog w base (adn abJ.F T (by walk_at "l") aal);have nO:=NW.jg l.prog w base (NW.F.j3 (k:=0) XM (QM (K:=K) (C:=C)) λhr nd=>aU (cz (i9 (by w_up) (by w_up) (by w_up))));have vp:=Th.jg l.prog w base (Yc Th.F T (by walk_at "l") UN);have nh:=wC.jg l.prog w base (wC.F.j3 (k:=0) GG (Cp (K:=K) (C:=C)) λhr nd=>aU (cz (Z0 rfl rfl T.YO rfl T.afn (by w_up))));have rn:=NX.jg l.prog w base (UR NX.F T (by walk_at "l") QK);have pI:=xC.jg l.prog w base (NQ xC.F T xD CH1 B1 (by walk_at "l") Kt);have nj:=wD.jg l.prog w base (E9 wD.F T (by walk_at "l") Cr);have k9:=wF.jg l.prog w base (Fb wF.F T (by walk_at "l") CC);have ke:=NY.jg l.prog w base (UU NY.F T (by walk_at "l") QP);have FA:=Fk.jg l.prog w base (Fk.F.j3 (k:=0) QB (KA (K:=K) (C:=C)) λhr nd=>aU (cz (aeP (pv 0) (pv 1))));have l6:=uL.jg l.prog w base (uL.F.j3 (k:=0) EB (AD (K:=K) (C:=C)) λhr nd=>aF (by w_up) (by w_up));have BV:=BH.jg l.prog w base (BH.F.j3 (k:=0) Nz (GX (K:=K) (C:=C)) λhr nd=>aF (by w_up) (by w_up));have oB:=yV.jg l.prog w base (yV.F.j3 (k:=0) Kc (E5 (K:=K) (C:=C)) λhr nd=>aF (by w_up) (aF (gb (zV (zU (by w_up))) (by w_up) cV) (by w_up)));have sA:=Fn.jg l.prog w base (Fn.F.j3 (k:=0) QC (KE (K:=K) (C:=C)) λhr nd=>aF (by w_up) (by w_up));have iT:=yW.jg l.prog w base (G2 yW.F T (by walk_at "l") E6);have gQ:=sZ.aaI l.prog w base KZ K0 (AE sZ.F T (by walk_at "l") yN);have BW:=BI.jg l.prog w base (BI.F.j3 (mg:=mg) (k:=0) ND (GO (K:=K) (C:=C)) λhr nd=>aU (Px jN rfl (lU (pv 1)) (by w_up) (by w_up)));have jP:=wG.jg l.prog w base (wG.F.j3 (mg:=mg) (k:=0) GK (Cu (K:=K) (C:=C) (A:=⟨A_Levels,A_Keeper,A_Lightest,A_Desk⟩)) λhr nd=>aU (cz (by w_up)));have md:=yX.jg l.prog w base (yX.F.j3 (mg:=mg) (k:=0) Ki (E1 (K:=K) (C:=C) (A:=⟨A_Levels,A_Keeper,A_Lightest,A_Desk⟩)) λhr nd=>aF (by w_up) (by w_up));have sE:=Fo.jg l.prog w base (NP Fo.F T so (by walk_at "l") Ko);have FB:=Fp.jg l.prog w base (Fp.F.j3 (k:=1) Qx (Kk (K:=K) (C:=C)) λhr nd=>aU (cz (tX (by w_up) (tW (DA Ic abb gO (pv 1) (pv 0))))));have yS:=NZ.jg l.prog w base (UQ NZ.F T Ja (by walk_at "l") QN);have Dh:=Tj.jg l.prog w base (Yd Tj.F T vp (by walk_at "l") UO);have Jc:=Jb.jg l.prog w base (QU Jb.F T rn (by walk_at "l") NL);have N9:=N0.jg l.prog w base (US N0.F T nh (by walk_at "l") QJ);have Oa:=N8.jg l.prog w base (UT N8.F T rn (by walk_at "l") QL);have qk:=BJ.jg l.prog w base (KH BJ.F T k9 (by walk_at "l") GT);have ma:=uM.jg l.prog w base (CG uM.F T ke (by walk_at "l") AC);have ql:=BK.jg l.prog w base (BK.F.j3 (k:=1) Nx (GV (K:=K) (C:=C)) λhr nd=>aU (cz (Sg SL (by w_up) (i9 (by w_up) dR dR))));have oA:=yY.jg l.prog w base (yY.F.j3 (k:=1) yC (EY (K:=K) (C:=C)) λhr nd=>aF (jX yC.nd (i9 (zV (zU (pv 3))) dR (by w_up))) (by w_up));have j0:=qr.jg l.prog w base (dC.U7 (xB qr.F T pI (by walk_at "l") uG) uE);have lJ:=BL.jg l.prog w base (dC.U7 (KM BL.F T jP (by walk_at "l") EW) EV);have qv:=qt.jg l.prog w base (qt.F.j3 (k:=2) yB (vL (K:=K) (C:=C)) λhr nd=>aU (gb (by w_up) (aU dw) cV));have kg:=BM.jg l.prog w base (KI BM.F T qk (by walk_at "l") GU);have sG:=Fq.jg l.prog w base (Fq.F.j3 (len:=Kx) (k:=2) Qz (Kz (K:=K) (C:=C)) λhr nd=>aU (cz (i9 (zV (zU (pv 0))) dR (by w_up))));have qq:=BN.jg l.prog w base (KJ BN.F T ke ql (by walk_at "l") GW);have oC:=yZ.jg l.prog w base (G1 yZ.F T ke oA (by walk_at "l") EZ);have fM:=qu.aaI l.prog w base AO AQ (xA qu.F T gQ Ja (by walk_at "l") vM);have ja:=uN.jg l.prog w base (uN.F.j3 (mg:=mg) (k:=2) EF (AA (K:=K) (C:=C) (A:=⟨A_Levels,A_Keeper,A_Lightest,A_Desk⟩)) λhr nd=>aU (cz (by w_up)));have pO:=pK.jg l.prog w base (pK.F.j3 (k:=3) xl (uD (K:=K) (C:=C)) λhr nd=>aF (by w_up) (by w_up));have l7:=y0.jg l.prog w base (y0.F.j3 (mg:=mg) (k:=3) Kg (EN (K:=K) (C:=C)) λhr nd=>aF (by w_up) (aU (cz (P0 rfl rfl T.zw rfl T.afj (by w_up)))));have qp:=BO.jg l.prog w base (BO.F.j3 (mg:=mg) (k:=3) NG (GQ (K:=K) (C:=C)) λhr nd=>aF (by w_up) (by w_up));have fg:=rA.jg l.prog w base (rA.F.j3 (k:=4) Ai (xu (K:=K) (C:=C)) λhr nd=>aF (by w_up) (aU (gb (by w_up) (aU dw) cV)));have wO:=wH.jg l.prog w base (wH.F.j3 (mg:=mg) (k:=4) GI (Cq (K:=K) (C:=C)) λhr nd=>aF (by w_up) (by w_up));have iU:=nQ.jg l.prog w base (tK nQ.F T l7 qp (by walk_at "l") sh);have bW:=tj.aaI l.prog w base AX AY (AF tj.F T fM sE (by walk_at "l") yP);have lI:=BP.jg l.prog w base (BP.F.j3 (mg:=mg) (k:=4) NH (GS (K:=K) (C:=C) (A:=⟨A_Levels,A_Keeper,A_Lightest,A_Desk⟩)) λhr nd=>aU (cz (by w_up)));have Jd:=vq.jg l.prog w base (vq.F.j3 (k:=5) Aj (NN (K:=K) (C:=C)) λhr nd=>aF (by w_up) (aF (by w_up) (aF (gb (by w_up) (aU dw) cV) (by w_up))));have l9:=mf.jg l.prog w base (mf.F.j3 (k:=5) pe (Aw (K:=K) (C:=C)) λhr nd=>aF (by w_up) (aF (by w_up) (aF (gb (by w_up) (aU dw) cV) (by w_up))));have qo:=BQ.jg l.prog w base (BQ.F.j3 (mg:=mg) (k:=5) NF (GP (K:=K) (C:=C)) λhr nd=>aF (by w_up) (aF (gb (by w_up) (aU dw) cV) (by w_up)));have sD:=Fs.jg l.prog w base (Fs.F.j3 (mg:=mg) (k:=5) QD (Kn (K:=K) (C:=C)) λhr nd=>aF (by w_up) (aF (gb (by w_up) (aU dw) cV) (by w_up)));have FC:=Ft.jg l.prog w base (Ft.F.j3 (mg:=mg) (k:=5) QE (Km (K:=K) (C:=C)) λhr nd=>aU (cz (i9 (by w_up) (by w_up) VT)));have jO:=wI.jg l.prog w base (wI.F.j3 (mg:=mg) (k:=5) GL (CB (K:=K) (C:=C) (A:=⟨A_Levels,A_Keeper,A_Lightest,A_Desk⟩)) λhr nd=>aU (cz (by w_up)));have uJ:=vq.jg l.prog w base (KN vq.F T fg nO (by walk_at "l") GR);have mX:=mf.jg l.prog w base (yT mf.F T fg nO (by walk_at "l") xv);have l8:=uO.jg l.prog w base (uO.F.j3 (mg:=mg) (k:=6) ED (Ax (K:=K) (C:=C) (A:=⟨A_Levels,A_Keeper,A_Lightest,A_Desk⟩)) λhr nd=>aF (by w_up) (by w_up));have ni:=wJ.jg l.prog w base (Fc wJ.F T qo (by walk_at "l") Cv);have nq:=wK.jg l.prog w base (Fe wK.F T sD (by walk_at "l") Cw);have mW:=Fv.jg l.prog w base (Fv.F.j3 (mg:=mg) (k:=6) QF (Kw (K:=K) (C:=C) (A:=⟨A_Levels,A_Keeper,A_Lightest,A_Desk⟩)) λhr nd=>aU (cz (by w_up)));have dZ:=tm.aaI l.prog w base K6 K7 (AG tm.F T bW (by walk_at "l") yQ);have y6:=G5 pL.F T mX (by walk_at "l") EU;have sJ:=pL.jg l.prog w base y6;have y8:=y3.jg l.prog w base (G4 y3.F T mW iT jO sA ja lI lJ (by walk_at "l") E7);have y9:=y4.jg l.prog w base (y4.F.j3 (mg:=mg) (k:=7) Kh (ER (K:=K) (C:=C) (A:=⟨A_Levels,A_Keeper,A_Lightest,A_Desk⟩)) λhr nd=>aF (by w_up) (by w_up));have nr:=wL.jg l.prog w base (Fg wL.F T iU j0 ni nj l8 (by walk_at "l") Cy);have nu:=wM.jg l.prog w base (Fh wM.F T nq nr (by walk_at "l") Cz);have kh:=uP.jg l.prog w base (uP.F.j3 (mg:=mg) (k:=8) EE (Ay (K:=K) (C:=C) (A:=⟨A_Levels,A_Keeper,A_Lightest,A_Desk⟩)) λhr nd=>aF (ve (pv 0) gO DG) (by w_up));have FD:=NT pL.F T l9 yS nu Dh vp jP (by walk_at "l") Kv;have sH:=pL.jg l.prog w base FD;have za:=mh.F.j3 (P:=l.prog) (w:=w) (base:=base) (mg:=mg) (k:=9) yE (ET (K:=K) (C:=C) (A:=⟨A_Levels,A_Keeper,A_Lightest,A_Desk⟩)) λhr nd=>aU (cz (by w_up));have oE:=mh.jg l.prog w base za;have uQ:=CI mh.F T kh uJ (by walk_at "l") Az;have pJ:=mh.jg l.prog w base uQ;have pH:=mh.jg l.prog w base (dC.orx (m:=10) za uQ (by decide) (by decide));have su:=pL.jg l.prog w base (dC.orx (m:=10) FD y6 (by decide) (by decide));have FE:=Fw.jg l.prog w base (NR Fw.F T pH (by walk_at "l") (KF T));have FF:=Fx.jg l.prog w base (NS Fx.F T iT su oB (by walk_at "l") (KG T));have sF:=sL.jg l.prog w base (NV sL.F T oE (by walk_at "l") KB);have sI:=sL.jg l.prog w base (G6 sL.F T pJ (by walk_at "l") E3);have la:=nz.jg l.prog w base (Fi nz.F T ma md sF oC sG qq ja bW sH jO mW lI lJ CD CF);have n5:=nz.jg l.prog w base (AH nz.F T sI sJ (by walk_at "l") yR);have FG:=NU pM.F T la kg KC KD;have sC:=pM.jg l.prog w base FG;have zb:=G7 pM.F T n5 kg (by walk_at "l") E4;have aax:=pM.jg l.prog w base zb;have sv:=pM.jg l.prog w base (dC.orx (m:=13) FG zb (by decide) (by decide));have BX:=BR.jg l.prog w base (KL BR.F T sv (by walk_at "l") (GY T));have BY:=BS.jg l.prog w base (BS.F.j3 (k:=14) NA (GZ (K:=K) (C:=C) (A:=⟨A_Levels,A_Keeper,A_Lightest,A_Desk⟩) (Pt:=Pt1)) λhr nd=>aF (by w_up) (by w_up));have qm:=BU.jg l.prog w base (BU.F.j3 (k:=15) NB (G0 (K:=K) (C:=C) (A:=⟨A_Levels,A_Keeper,A_Lightest,A_Desk⟩) (Pt:=Pt1)) λhr nd=>aF (by w_up) (by w_up));exact ado Tn.F T l6 dZ bW qm sC (by walk_at "l") (aaw ct)
theorem walk {l:tw}{q:bQ}{loose:List aY}{XP:(aY->Option au)->cI->Prop}{YP:cK->cI->Prop}{d dy1:DefRec}{K:Params->aa}{c1 Pt1:ai}(hn:l.most=some 63) (hdf:d.params.defaults=[])
  (hY:∀ (w:cK) (h:cI),YP w h->(K w.params).In h)
  (hrec1:(recsOf q).find? (λe=>e.name == ("in_order":aY))=some dy1) (htab1:∀ w:cK,PySem.W.tabIn (K w.params) "in_order"=some (c1,Pt1))
  (hnt:∀ w:cK,PySem.W.noTabs (K w.params)=true)
  (F:∀ (w:cK) (mg:aY->Option au) (fa:ai) (h:cI),(K w.params).In h->h.Ns br mg->mg d.name=some (.ref fa) ->
   ∃ fd:gA,(∀ (s:aC) (u:au),LS s fd ⟨[u],[]⟩ [("_law_script",u)])/\∀ base:cI,(K w.params).In base->base.Ns br mg->oI base c1 Pt1->base.BuiltinsAt mg Pt1->dC l.prog w (K w.params) mg base eW 17 fa fd Np (E8 (K w.params) Pt1)) :
  YV q loose XP YP l.row.toRowW d [] (λf vs=>YW f vs):=by
 have m1:(c1,Pt1)∈[(c1,Pt1)]:=ah;refine L2.WX (n:=63) (k:=17) (x:="_law_script") (Ps:=[(c1,Pt1)]) (sp:=λw=>E8 (K w.params) Pt1) hn (by decide) hdf ⟨rfl,by decide,by decide⟩ hY (λp hp=>?_) hnt (λw mg fa h a b c=>?_) (λ_ _ a ns hl hT hS=>⟨a,ns,rfl,hS,hl,.inl (hT _ m1),λ_=>rfl⟩) λ_ _ _ _ z=>z
 .rw [aA.mp hp];exact ⟨_,dy1,hrec1,htab1⟩
 .obtain ⟨fd,q1,q2⟩:=F w mg fa h a b c;exact ⟨fd,q1,λbase i1 i2 hP=>q2 base i1 i2 (hP _ m1).1 (hP _ m1).2⟩
end K71
end
end
local macro_rules | `(tactic| walk_at "b1")=>`(tactic| exact λ_ _ _ _ _ _=>L2.m1 λ_=>rfl)
local macro_rules | `(tactic| walk_at "b2")=>`(tactic| exact λ_ _ _ _ _ _=>L2.m2 λ_ _=>rfl)
local macro_rules | `(tactic| walk_at "b3")=>`(tactic| exact λ_ _ _ _ _ _=>L2.m3 λ_ _ _=>rfl)
local macro_rules | `(tactic| walk_at "b4")=>`(tactic| exact λ_ _ _ _ _ _=>L2.m4 λ_ _ _ _=>rfl)
local macro_rules | `(tactic| walk_at "b5")=>`(tactic| exact λ_ _ _ _ _ _ us hl=>match us,hl with|[_,_,_,_,_],_=>rfl)
structure PySem.W.Fast:Prop where(tw12964097185246825750 tw7975824461922370871 tw11460366622373330989 tw16655224261017928981 tw4810872308334516091 tw1447182417782247349 tw5601193774390393927 tw9093108914681131068 tw8463220859100135899 tw17717025357114561953 tw16231544040971855085 tw3592444313879399869 tw1843283391106706362 tw3708060040837059157 tw370235652418628947 tw1994361491510510327 tw1640915458594536350 tw7641516498344863478 tw7375977225923547584 tw17248676377096814006 tw744731702441872805 tw14318013990882722172 tw2191680844576859048 tw16757515468907414353 tw16347487828052312423 tw7828177588626997874 tw11114620738119747695 tw480415511991493884 tw13926155192616269005 tw6041864182548716142 tw7126573391653142901 tw12397380681789964786 tw4207606268893989000 tw17124067218978424592 tw10398005494889899114 tw18121887066549580835 tw4519577009580680346 tw10061951539960766537 tw14884048059575697911 tw5192087241924064334 tw13365078018082828115 tw13161929424187740460 tw2015885384494792200 tw14218651647735875376 tw6295450771751590193 tw11547865051917707328 tw12971426314314880256 tw4911957964040622692 tw14609255779087985089 tw14785542886836160841 tw13430311687245352854 tw7322962497060000374 tw10658749716410873929 tw8694906670990785157 tw15347371370419777499 tw8581346706847791441 tw11207792209775104196 tw17169752626332381068 tw6830298193135591125 tw14431737635241049467 tw11183990546569132631 tw1570324127480617701 tw562449363197418445 tw8329622791490810451 tw15131189796938183460 tw17662096076415981345 tw9032306345690665664 tw5660171758400126356 tw18420617385645210344 tw18152775217038572176 tw14967826951415573320 tw15633983630125598241 tw13818356300647037356 tw12803784856901881549 tw13797626132792204012 tw5579410887878338063 tw11728538743871103655 tw16955402854302614954 tw11030308702272841160 tw1844035161696728773 tw16690724102562767159 tw14284276400140111715 tw125238841006227941 tw18150843773764711527 tw8242540350666732506 tw14613385930051311589 tw17425680337257110234 tw16725554231165164208 tw13425954285287313543 tw21324210472232344 tw10493747987590084648 tw12796241902019692007 tw10576414014664266424 tw10103330282679365214 tw8310063517695026314 tw14105626559440331543 tw13671860706929644395 tw9705145920113691595 tw3040265685623716761 tw12273278696386785495 tw14270068746323062808 tw10636044066485751631 tw12521282668011751102 tw6455210468677932845 tw1427270111666355344 tw12040999454027255132 tw10406224422472789386 tw10074155890582856915 tw8732704743759542964 tw7920910220430770482 tw8362631966159568281 tw10459701688505686181 tw4857615141456844920 tw10697411012797480708 tw11439236838859606403 tw3401733496758713007 tw17716659886345608505 tw6434489945972060439 tw13020179467114072971 tw9541422027518256571 tw14724073806210892137 tw9636059121164699784 tw1446999669926400475 tw16232917705758812400 tw17707842970457714539 tw765666477514612212 tw6311433388035330780 tw6759663362764942738 tw1548452237428133255 tw5950481258494987360 tw17387143372264142525 tw4515256706059989663 tw10934000520655372642 tw3809642253227285028 tw12469886299234726619 tw9445820177759362512 tw12030065060163690426 tw6661720231963023399 tw5900812798454986292 tw1668146108479524510 tw1750816793507705518 tw8789478600162077899 tw16376571235623090995 tw7333119777446405781 tw5954876718578440126 tw1414556514749053162 tw9270051615739021488 tw10969484432250649481 tw16173119411856651268 tw12587098253360591258 tw8558606731647071344 tw3887293681986194227 tw13755636567919064170 tw14368426368168431291 tw764057076097748344 tw5724149844767681774 tw14351791393320895984 tw4948308764518486331 tw5430565663952553572 tw1445726994513224880 tw3184651614918323168 tw11149637617688620264 tw14714158876675065643 tw10309468864598061480 tw2496542970718437567 tw2837194992461738190 tw5986466067294568435 tw17239668828349304206 tw13201475647225991994 tw6684881278253894989 tw12419849116426622548 tw4502279224483880853 tw12852903746695186308 tw5546622340998691362 tw4498824849614750726 tw3665424832988121392 tw2738397307798571359 tw5139189840657585196 tw6736790620993480140 tw18041987662794567559 tw13561420980638275206 tw11190662883745908151 tw5582425963033177933 tw9353279627010533196 tw10716371098958204999 tw12417723386706875162 tw18313990091230830032 tw8800470165928469458 tw18060036822656131434 tw3024622273459454355 tw4606619968386260786 tw17100566573691204298 tw543579436366991900 tw16065262739357667085 tw804703912515270404 tw15629210488429650084 tw15144801057168786469 tw8798144068798152133 tw8014450522182621233 tw1215095057816272579 tw1801290351486957081 tw2636813670171750371 tw6958031858291913221 tw5167034691687146453 tw14801969896109529456 tw15473671427283408753 tw17517284452147367710 tw12240531638892883795 tw13311764854971723251 tw3734705197146777707 tw6368782193181690154 tw566733699068343823 tw17940827895017216344 tw9147808211396779321 tw8574183112818781823 tw9906030723884720262 tw5765087672287914515 tw11460895672019479967 tw11677456633768571059 tw688381580384909249 tw7043071969287291540 tw10895512075874736407 tw3460611686810521065 tw9101718848526989125 tw14058777549775238702 tw1998407958649474092 tw9560710906390790285 tw153280918544675582 tw1708048130301967718 tw16639744163352139736 tw13165263705170092998 tw16703050123820286096 tw16207375923560606768 tw10641119302433822166 tw16136351890912357912 tw3590556322461099047 tw2276487644491425114 tw6419138393098113675 tw16713344142021767686 tw18432174554231988921 tw12527757711063049540 tw7612586259212395822 tw11895448770245969694 tw5779844055967149858 tw9991544071270709286 tw15608413580965466790 tw10260811191105674217 tw10759703252746171518 tw10633204068112256180 tw3551237200828348441 tw14557036030715989116 tw1968094480894086150 tw8193339533634136797 tw11715560076511363013 tw12492860355066061596 tw17161416291017954761 tw11673001863244725956 tw4120871118457595438 tw12172838234862805669 tw11015546189196470090 tw6098613504821839071 tw18010797315624444215 tw15204269609155748554 tw13339325539228957472 tw4332698297495725954 tw5392046223759591822 tw2279298061426861228 tw1859256595668233338 tw5275234675697092573 tw9643631075262823737 tw10412922968079004937 tw9942072821029585306 tw10398089179655761932 tw17456539968251556201 tw2558339558533003638 tw4797167788736022869 tw8965335232849747929 tw15137602320328243474 tw8332887845673518856 tw3465430984780833829 tw11483970139551553813 tw9516172507144964571 tw2118348565859139329 tw3275608404307789022 tw12952597783628359365 tw8782205744130600612 tw4353571609463779583 tw5184450281931026758 tw17531697572088656772 tw5600911184792669406 tw13388168890731271543 tw16724206084402953267 tw14501044741843167896 tw14167734188079814019 tw7138573853103990673 tw7509837893671845458 tw17211385117305139086 tw10791354604606965981 tw1118824587169273560 tw8027402710593676282 tw14023172269979986974 tw5492207047491184997 tw797224549749765651 tw16730426921915884617 tw4568592200387075124 tw11189149077206237702 tw12440673302278631271 tw11100370816301278224 tw8665957786541096961 tw13716552766927780964 tw17198051456535525799 tw4288420335077279101 tw1577129809632061481 tw17808996277353999222 tw308680855249723386 tw4634986098461570005 tw6986982822277934784 tw2482169141046303045 tw4696563184756031962 tw4938392430200223925 tw2318728367877608982 tw954348708498788311 tw16845891002415730096 tw2700373291223986209 tw2946950578716708565 tw10707272900197472543 tw15812988863112689622 tw17815114817194487301 tw10221624463168425122 tw10105009210245370480 tw8946158616008995203 tw14307704162430981989 tw6773574602907840635 tw11871551019889476283 tw3952480078247056873 tw12800507140085645662 tw13129246841247041203 tw13930077106696967620 tw7725223572693546508 tw2085546656953415699 tw12395641306542155816 tw17112411532366239684 tw8497948873398490325 tw11312306122789781500 tw3310300033678386318 tw14098511845965768226 tw7341602997789850865 tw4190015983207787908 tw192157693116301879 tw7101330027834119801 tw12382136872693492815 tw14165730776942918723 tw2175100544639160500 tw18292809615855220794 tw14616465009080053702 tw9031292755071574753 tw17236310798383644390 tw5204157646282238785 tw1746917666849463045 tw4123591365775745353 tw15424426026671116333 tw6311162528617570396 tw11260821264393874690 tw14321811287741286770 tw13798142059279263328 tw12646671742523159330 tw16002729839495927752 tw11124763373989623011 tw10507509123206090699 tw8417180106553743878 tw10845152857818011197 tw11981965472549381624 tw3870445826917819741 tw17885274989503999726 tw3255972370930611616 tw369607100068426577 tw14855669980395350865 tw7093480905331965723 tw17151888814387174769 tw16865574164752334930 tw15475936061954257525 tw17033323527466715679 tw3063793412130420155 tw2703878439852959702 tw8333786761088137215 tw4395415545365234389 tw17610857933765843074 tw3336735294830147819 tw14582854518843746103 tw12791264278592251143 tw15653838098024382811 tw5856329447341645791 tw14514047728042074858 tw4856181449355543147 tw5770167260394274777 tw2354841679068420152 tw3084544596219157742 tw5988344150222572800 tw1492416880816772566 tw9487928625849981778 tw9923300963385282867 tw13348142914284865788 tw3918432256405912406 tw8975219640300850986 tw9748894386973820979 tw16567420986400536197 tw8992313823079581384 tw14636324686951450120 tw14751515275116382680 tw18249810163582870157 tw1420639946331945122 tw15533972231629454444 tw13903242440155665009 tw13452221537058406398 tw5352902257201467744 tw10174823417206522764 tw15052864413929191528 tw13274601272056362985 tw10913204211359807310 tw1606864825642364258 tw9382829462259526720 tw11157542424150877968 tw1329832992895850920 tw12416966840755750969 tw9538652490211378978 tw814981425367934413 tw1322933543981179030 tw9803887861236499186 tw13856033096051261215 tw2912681322470122041 tw12343752211769928475 tw9787795392549016013 tw17231185614343119282 tw6446883639931405777 tw7435135141474035878 tw5002705909916538320 tw7917803917410803159 tw7726716927903049258 tw6916002745126070366 tw17113973327678820190 tw5110255675475341744 tw16156971707278940789 tw3062766990849294761 tw10508524042637085970 tw7838973986795728813 tw9946832814601062221 tw1804775838867472495 tw8056092387725599959 tw12981698910993261998 tw14020851916942520830 tw6372279316234988560 tw1557433052223950662 tw6627024078755422562 tw5218483297581744165 tw1203256833351791860 tw53093689621928668 tw3410977739192891913 tw12428708105069633976 tw17165870095734323733 tw5532864596034425504 tw5314480279425959560 tw11969197818246736217 tw11197855750942728437 tw601792186661022371 tw15580844251378984814 tw16034762916663001343 tw3084014231740888460 tw13435408345379172919 tw5801701341616713796 tw4122014181258550371 tw5850884208630676403 tw16680713665453144871 tw17464666259010564665 tw17709020050839441644 tw6907070124270265584 tw16063254956486084483 tw1015908113997286400 tw7019918979356591023 tw17704102507627481991 tw10105342814165168368 tw8474825498365557918 tw4471872562128670764 tw15128117324909906855 tw5487898263657193881 tw17992309018748032273 tw16190908733835691578 tw9757611194365863279 tw17549331019196741371 tw3554094454804157691 tw9205549561472040401 tw14510151461347972133 tw14297249335438810320 tw17597982477125610782 tw2648889766548927325 tw3563238929349204281 tw2796329525708328145 tw6400232403698855246 tw5564208305322858014 tw17951287372375661486 tw9609838920831632661 tw3183354889047412432 tw4804334644733132952 tw6082656702186139357 tw6442566711531221724 tw4736644695590393726 tw5759381397869507099 tw3448204028382660311 tw18294596355754618445 tw4529136434975873448 tw7784544844474357678 tw1100875565069879890 tw2411784548780601274 tw3209670284812322617 tw4634421779685609982 tw7921980505602135304 tw7269363340573727448 tw701765178098153259 tw16123907847198889609 tw921007903785511171 tw12572136383664835961 tw8671699456107713638 tw13423888109324103297 tw17430494227894961317 tw1692770132721023927 tw16065107221631132786 tw12604709851615619263 tw15032674464883183395 tw11604131322544023572 tw2031156348448138771 tw12025139940872761240 tw551557247085626930 tw12087571131338822956 tw3045782539248749381 tw3245319960551009242 tw8506706167942114067 tw748477202663395609 tw7673574349593853548 tw12808226245658182386 tw15125746112805098006 tw15504164645956854208 tw6713954737995491182 tw17497721335413529609 tw14261223523408603512 tw13440384965627155159 tw14903802067725810717 tw13908905275471536223 tw16630093953997352376 tw7900544066937946008 tw3858751097930028592 tw6642815804474313319 tw3589817817010263403 tw10914807854759623076 tw7811335771258355045 tw12868305058739020313 tw13277706277198860992 tw2091019596261506229 tw3727257929281140071 tw5293643268842432641 tw13152994411511689902 tw14790587737170438423 tw12796797015591762106 tw18443658774577850757 tw16637774270708034999 tw4958074987249793980 tw14501549396351681776 tw468879439363246335 tw15787053681357113032 tw290253036936214303 tw6697224533979344157 tw11034239503056963269 tw12773284864916948124 tw5239694740613800418 tw13358711145613930412 tw15883358904357510683 tw16678548727264284449 tw15631805127488456803 tw8394114055127928095 tw3967794448278878397 tw7005960379257960353 tw10559854299222929360 tw12756726101120446167 tw4537236848933020078 tw6208987442657094814 tw6113206791188822530 tw2698942025861149732 tw10723327066595809577 tw16012156641153180576 tw14822870796850545191 tw16045078202839997005 tw17946900198061672221 tw14150601261041822396 tw3769455284217604990 tw1035447750392801298 tw12776370766542284163 tw16082536676203829185 tw9364692248720971381 tw9649764622310562563 tw11259359432301819001 tw6030192099498475493 tw6803018718925536560 tw13419810274904632955 tw2867456657254487452 tw8653852465280544097 tw8743541762351603398 tw316826221260534347 tw8581142174097014482 tw3674769170394446877 tw14115852719705081027 tw368655938374140550 tw3431268960388639945 tw13183007398488721948 tw9735186282895733183 tw9770557747601623592 tw3617351007896205753 tw16868806728786953519 tw6446161207019123263 tw3836384964433206238 tw4813423969941913401 tw18117695909728744366 tw7352938878569672838 tw9645931424280530578 tw11742822910543179447 tw3581101566757160352 tw10828894431785335335 tw10992120543872557513 tw4468708260332155421 tw219710022907703310 tw11357734728707145672 tw2120887823878515652 tw16757476715762322903 tw5496377367612823476 tw6479985083212426573 tw890760931284421406 tw16348888658414752489 tw869489377657724109 tw14289105476757939167 tw6198391464400521413 tw12055968053692749979 tw9023511839132261877 tw10015128856004889747 tw15066347993481681123 tw15301828082919112414 tw13040871663068551930 tw2967977654576863471 tw9080279234144314105 tw17283505158046242552 tw4934838772178410831 tw10240601847509973695 tw2505859376410056815 tw439194034898109263 tw16014167558258904225 tw12688081783640656743 tw15324508733319258428 tw2891679514184325342 tw2255700430904731155 tw5858632368803061362 tw8982608602957641461 tw16471688576552084420 tw15817780580754914929 tw2117000795315080322 tw6578005809373222212 tw12020005355733894787 tw15648794892734900605 tw15704233232497327452 tw1465167377099177559 tw12019593984263314753 tw5149613171706577139 tw7465279080145946551 tw14472261975217558810 tw9624853073680857797 tw18196043284403976415 tw14059984098416941781 tw15747617353139285969 tw1549338951414420895 tw12589754724085816575 tw12491337109229022546 tw6211486889344248502 tw5241296282649431098 tw2784001012449748635 tw152112401129868588 tw14282801600211204619 tw12262005750039263739 tw10031534265358402055 tw6985949048999113135 tw8371898342036477515 tw16581193212607977681 tw4312312905767312428 tw1212518054325486045 tw16637533952668599170 tw10978262871232002372 tw7671998750640437777 tw13249821690093021488 tw8918010334762993302 tw4326712626740057571 tw16257225928275374889 tw14435700336171778384 tw3046947538013471921 tw648114730782450952 tw10037395675543062192 tw8879273229532868155 tw11730758287284590938 tw6780899529591712961 tw5988202859457994446 tw16541697026776196060 tw2893074756999745859 tw17811256899788493075 tw15799522747259736877 tw11134506408881719777 tw9126567824945161610 tw7745902749158819738 tw10841386015753904288 tw13014640737188075427 tw11961656132158881788:True)
open PySem PySem.W PyProof.Rows
theorem PySem.Challenge.cw_tiewood_k71_rows_of_a_keeper_holds : PySem.Challenge.rw_tiewood_k71_rows_of_a_keeper.Holds := by
  w_on;o_law;k_head;(case hw=>w_witness2)
  k_fill
  refine' K71.walk (l:=PySem.Challenge.rw_tiewood_k71_rows_of_a_keeper) rfl rfl (λw h Y=>PySem.W.km_in_of Y) ?hrec1' ?htab1' ?hnt' ?F'
  case hrec1'=>exact rfl
  case htab1'=>intro w;exact rfl
  case hnt'=>intro w;exact rfl
  case F' =>
    intro w mg fa h KX G hmg;refine' K71.adp KX G hmg ?KO' ?KR' ?KU' ?KW' ?KY' ?KZ' ?K0' ?uY' ?nS' ?AI' ?AJ' ?AK' ?AM' ?AN' ?AO' ?AQ' ?iV' ?ir' ?jG' ?kj' ?AR' ?AS' ?AU' ?AV' ?AW' ?AX' ?AY' ?lb' ?jF' ?jE' ?lg' ?pR' ?ki' ?lh' ?K1' ?K2' ?K3' ?K4' ?K5' ?K6' ?K7' ?nT' ?uK' ?ax_NoTie' ?ax_Tied' ?nR' ?sN' ?xhn' ?YQ' ?iA' ?hA' ?mA' ?aN' ?tN' ?an_trail_text' ?kn_trail_text' (L2.qz KX G ?QX' ?QY' ?so' ?QZ' (by walk_at "b1")) (L2.qz KX G ?ae5' ?ae6' ?Ja' ?ae7' (by walk_at "b1")) (L2.qz KX G ?Yn' ?Yo' ?nO' ?Yp' (by walk_at "b2")) (L2.qz KX G ?aay' ?aaz' ?vp' ?aaA' (by walk_at "b1")) (L2.qz KX G ?G9' ?Ha' ?nh' ?Hb' (by walk_at "b1")) (L2.qz KX G ?Yq' ?Yr' ?rn' ?Ys' (by walk_at "b2")) (L2.qz KX G ?Q0' ?Q1' ?pI' ?Q2' (by walk_at "b2")) (L2.qz KX G ?Hc' ?Hd' ?nj' ?He' (by walk_at "b2")) (L2.qz KX G ?Hg' ?Hh' ?k9' ?Hi' (by walk_at "b1")) (L2.qz KX G ?Yt' ?Yu' ?ke' ?Yv' (by walk_at "b1")) (L2.qz KX G ?Q3' ?Q4' ?FA' ?Q5' (by walk_at "b2")) (L2.qz KX G ?FH' ?FI' ?l6' ?FJ' (by walk_at "b2")) (L2.qz KX G ?Ob' ?Oc' ?BV' ?Od' (by walk_at "b2")) (L2.qz KX G ?K9' ?La' ?oB' ?Lb' (by walk_at "b1")) (L2.qz KX G ?Q6' ?Q7' ?sA' ?Q8' (by walk_at "b1")) (L2.qz KX G ?Lc' ?Ld' ?iT' ?Le' (by walk_at "b1")) (L2.v7 ?CJ' ?CK' ?CL' ?gQ' ?CM' (by walk_at "b2")) (L2.v7 ?Oe' ?Og' ?Oh' ?BW' ?Oi' (by walk_at "b2")) (L2.v7 ?Hj' ?Hk' ?Hl' ?jP' ?Hm' (by walk_at "b2")) (L2.v7 ?Lg' ?Lh' ?Li' ?md' ?Lj' (by walk_at "b2")) (L2.qz KX G ?Q9' ?Ra' ?sE' ?Rb' (by walk_at "b1")) (L2.qz KX G ?Rc' ?Re' ?FB' ?Rg' (by walk_at "b2")) (L2.qz KX G ?Yw' ?Yx' ?yS' ?Yy' (by walk_at "b2")) (L2.qz KX G ?aaB' ?aaC' ?Dh' ?aaD' (by walk_at "b1")) (L2.qz KX G ?UW' ?UX' ?Jc' ?UY' (by walk_at "b4")) (L2.qz KX G ?Yz' ?YA' ?N9' ?YB' (by walk_at "b3")) (L2.qz KX G ?YC' ?YD' ?Oa' ?YE' (by walk_at "b3")) (L2.qz KX G ?Oj' ?Ol' ?qk' ?Om' (by walk_at "b1")) (L2.qz KX G ?FK' ?FL' ?ma' ?FM' (by walk_at "b1")) (L2.qz KX G ?On' ?Oo' ?ql' ?Oq' (by walk_at "b4")) (L2.qz KX G ?Lk' ?Ll' ?oA' ?Lm' (by walk_at "b4")) (L2.v7 ?zc' ?zd' ?ze' ?j0' ?zf' (by walk_at "b3")) (L2.v7 ?Os' ?Ot' ?Ou' ?lJ' ?Ov' (by walk_at "b1")) (L2.qz KX G ?zg' ?zh' ?qv' ?zj' (by walk_at "b2")) (L2.qz KX G ?Ow' ?Ox' ?kg' ?Oy' (by walk_at "b1")) (L2.qz KX G ?Rh' ?Ri' ?sG' ?Rj' (by walk_at "b1")) (L2.qz KX G ?Oz' ?OA' ?qq' ?OB' (by walk_at "b1")) (L2.qz KX G ?Lo' ?Lp' ?oC' ?Lq' (by walk_at "b1")) (L2.v7 ?zk' ?zl' ?zm' ?fM' ?zq' (by walk_at "b2")) (L2.v7 ?FN' ?FO' ?FP' ?ja' ?FQ' (by walk_at "b1")) (L2.qz KX G ?xE' ?xF' ?pO' ?xG' (by walk_at "b3")) (L2.v7 ?Lr' ?Ls' ?Lu' ?l7' ?Lw' (by walk_at "b2")) (L2.v7 ?OC' ?OD' ?OE' ?qp' ?OF' (by walk_at "b2")) (L2.qz KX G ?A3' ?A4' ?fg' ?A5' (by walk_at "b3")) (L2.v7 ?Hn' ?Ho' ?Hq' ?wO' ?Hr' (by walk_at "b3")) (L2.v7 ?uR' ?uS' ?uT' ?iU' ?uU' (by walk_at "b3")) (L2.v7 ?CN' ?CO' ?CP' ?bW' ?CQ' (by walk_at "b2")) (L2.v7 ?OG' ?OH' ?OI' ?lI' ?OJ' (by walk_at "b2")) (L2.qz KX G ?UZ' ?U0' ?Jd' ?U1' (by walk_at "b4")) (L2.qz KX G ?FR' ?FS' ?l9' ?FT' (by walk_at "b4")) (L2.v7 ?OK' ?OL' ?OM' ?qo' ?ON' (by walk_at "b3")) (L2.v7 ?Rk' ?Ro' ?Rp' ?sD' ?Rq' (by walk_at "b3")) (L2.v7 ?Rr' ?Rt' ?Ru' ?FC' ?Rv' (by walk_at "b3")) (L2.v7 ?Hs' ?Ht' ?Hu' ?jO' ?Hv' (by walk_at "b3")) (L2.v7 ?FU' ?FV' ?FW' ?l8' ?FX' (by walk_at "b2")) (L2.v7 ?Hw' ?Hx' ?Hy' ?ni' ?Hz' (by walk_at "b2")) (L2.v7 ?HA' ?HB' ?HC' ?nq' ?HD' (by walk_at "b2")) (L2.v7 ?Ry' ?Rz' ?RA' ?mW' ?RB' (by walk_at "b3")) (L2.v7 ?CS' ?CU' ?CV' ?dZ' ?CW' (by walk_at "b1")) (L2.v7 ?RC' ?RD' ?RE' ?sH' ?RF' (by walk_at "b3")) (L2.qz KX G ?Lx' ?Ly' ?y8' ?Lz' (by walk_at "b4")) (L2.v7 ?LA' ?LB' ?LC' ?y9' ?LD' (by walk_at "b3")) (L2.v7 ?HE' ?HF' ?HG' ?nr' ?HH' (by walk_at "b3")) (L2.v7 ?HI' ?HJ' ?HK' ?nu' ?HL' (by walk_at "b2")) (L2.v7 ?FY' ?FZ' ?F0' ?kh' ?Ga' (by walk_at "b3")) (L2.v7 ?LF' ?LG' ?LH' ?oE' ?LI' (by walk_at "b3")) (L2.qz KX G ?RG' ?RH' ?FE' ?RI' (by walk_at "b3")) (L2.qz KX G ?RJ' ?RK' ?FF' ?RL' (by walk_at "b3")) (L2.v7 ?RM' ?RN' ?RO' ?sF' ?RP' (by walk_at "b3")) (L2.v7 ?HM' ?HN' ?HP' ?la' ?HQ' (by walk_at "b3")) (L2.v7 ?RQ' ?RR' ?RT' ?sC' ?RU' (by walk_at "b2")) (L2.qz KX G ?OO' ?OP' ?BX' ?OQ' (by walk_at "b2")) (L2.qz KX G ?OR' ?OS' ?BY' ?OT' (by walk_at "b4")) (L2.qz KX G ?OU' ?OV' ?qm' ?OW' (by walk_at "b5")) (L2.qz KX G ?ae8' ?ae9' ?afa' ?afb' (by walk_at "b1")) ?xD' ?QV' ?Ye' ?sM' ?Yg' ?QW' ?Yh' ?Yi' ?K8' ?Yj' ?Fy' ?Yk' ?Yl' ?Ym' ?qL' ?pN' ?AZ'
    case KO'|KR'|KU'|KW'|KY'|KZ'|K0'|uY'|nS'|AI'|AJ'|AK'|AM'|AN'|AO'|AQ'|iV'|ir'|jG'|kj'|AR'|AS'|AU'|AV'|AW'|AX'|AY'|lb'|jF'|jE'|lg'|pR'|ki'|lh'|K1'|K2'|K3'|K4'|K5'|K6'|K7'|nT'|uK'|ax_NoTie'|ax_Tied'|xhn'|YQ'|hA'|mA'|aN'|an_trail_text'|kn_trail_text'|QX'|QY'|so'|QZ'|ae5'|ae6'|Ja'|ae7'|Yn'|Yo'|nO'|Yp'|aay'|aaz'|vp'|aaA'|G9'|Ha'|nh'|Hb'|Yq'|Yr'|rn'|Ys'|Q0'|Q1'|pI'|Q2'|Hc'|Hd'|nj'|He'|Hg'|Hh'|k9'|Hi'|Yt'|Yu'|ke'|Yv'|Q3'|Q4'|FA'|Q5'|FH'|FI'|l6'|FJ'|Ob'|Oc'|BV'|Od'|K9'|La'|oB'|Lb'|Q6'|Q7'|sA'|Q8'|Lc'|Ld'|iT'|Le'|CJ'|CK'|CL'|gQ'|CM'|Oe'|Og'|Oh'|BW'|Oi'|Hj'|Hk'|Hl'|jP'|Hm'|Lg'|Lh'|Li'|md'|Lj'|Q9'|Ra'|sE'|Rb'|Rc'|Re'|FB'|Rg'|Yw'|Yx'|yS'|Yy'|aaB'|aaC'|Dh'|aaD'|UW'|UX'|Jc'|UY'|Yz'|YA'|N9'|YB'|YC'|YD'|Oa'|YE'|Oj'|Ol'|qk'|Om'|FK'|FL'|ma'|FM'|On'|Oo'|ql'|Oq'|Lk'|Ll'|oA'|Lm'|zc'|zd'|ze'|j0'|zf'|Os'|Ot'|Ou'|lJ'|Ov'|zg'|zh'|qv'|zj'|Ow'|Ox'|kg'|Oy'|Rh'|Ri'|sG'|Rj'|Oz'|OA'|qq'|OB'|Lo'|Lp'|oC'|Lq'|zk'|zl'|zm'|fM'|zq'|FN'|FO'|FP'|ja'|FQ'|xE'|xF'|pO'|xG'|Lr'|Ls'|Lu'|l7'|Lw'|OC'|OD'|OE'|qp'|OF'|A3'|A4'|fg'|A5'|Hn'|Ho'|Hq'|wO'|Hr'|uR'|uS'|uT'|iU'|uU'|CN'|CO'|CP'|bW'|CQ'|OG'|OH'|OI'|lI'|OJ'|UZ'|U0'|Jd'|U1'|FR'|FS'|l9'|FT'|OK'|OL'|OM'|qo'|ON'|Rk'|Ro'|Rp'|sD'|Rq'|Rr'|Rt'|Ru'|FC'|Rv'|Hs'|Ht'|Hu'|jO'|Hv'|FU'|FV'|FW'|l8'|FX'|Hw'|Hx'|Hy'|ni'|Hz'|HA'|HB'|HC'|nq'|HD'|Ry'|Rz'|RA'|mW'|RB'|CS'|CU'|CV'|dZ'|CW'|RC'|RD'|RE'|sH'|RF'|Lx'|Ly'|y8'|Lz'|LA'|LB'|LC'|y9'|LD'|HE'|HF'|HG'|nr'|HH'|HI'|HJ'|HK'|nu'|HL'|FY'|FZ'|F0'|kh'|Ga'|LF'|LG'|LH'|oE'|LI'|RG'|RH'|FE'|RI'|RJ'|RK'|FF'|RL'|RM'|RN'|RO'|sF'|RP'|HM'|HN'|HP'|la'|HQ'|RQ'|RR'|RT'|sC'|RU'|OO'|OP'|BX'|OQ'|OR'|OS'|BY'|OT'|OU'|OV'|qm'|OW'|ae8'|ae9'|afa'|afb'=>k_is
    case iA'=>exact rfl
    case nR'|sN'=>exact ⟨L2.exK rfl rfl (L2.nsq rfl rfl rfl rfl rfl rfl) (L2.nsq rfl rfl rfl rfl rfl rfl),rfl,rfl⟩
    case tN'=>exact λh hK=>PySem.W.kt_tab_in _ w hK (D:=K71.NUMD) (by first|kernel_rfl|exact rfl) (by decide) (by first|kernel_rfl|exact rfl)
    case xD'=>exact rfl
    case QV'|Ye'|sM'|Yg'|QW'|Yh'|Yi'|K8'|Yj'|Fy'|Yk'|Yl'|Ym'|qL'|pN'|AZ'=>k_is
